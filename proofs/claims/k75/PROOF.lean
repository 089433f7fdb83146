import PyProof.Rows.All
import Wide.All
import OpenK.AllK
import Wide.FinOn
import Lean
import PyProof.EqAt
import PyProof.EqKinds
import PyProof.TupleCall
import PyProof.NeKinds
import PyProof.Rows.MinMaxN
import PyProof.EnumMake
import PyProof.ZipIter
import PyProof.Rows.ZipGen
import PyProof.DictWalks
import PyProof.SetScanFacts
import PyProof.TupleKey
import PyProof.SetKind
import PyProof.IsRules
import PyProof.Rules
import PyProof.Rows.SetFrom
import KE.KDictList
import KE.KDictOf
import PyProof.AttrMissHeap
import PyProof.Conv_int_bool
import PySem.Challenge.RW_mapwright_k75_whole_what_follows
set_option Elab.async false
set_option linter.all false
set_option tactic.hygienic false
set_option genSizeOf false
set_option genInjectivity false
set_option maxRecDepth 100000
abbrev Zl:=List PySem.Value
abbrev Zp:=List (PySem.Addr×PySem.Obj)
abbrev Zs:=PySem.Str->Option PySem.Value
abbrev Y1:=PySem.Value->PySem.Shared->Prop
abbrev Y2:=Option (PySem.Str×Nat)
abbrev Y3:=List Nat
abbrev Ya:=List PySem.Expr
abbrev Yf:=List PySem.Str
abbrev X0:=List (PySem.Str×PySem.NameKind)
abbrev X1:=List PySem.Addr
abbrev X9:=List Int
abbrev Xs:=List (PySem.Str×PySem.Addr)
abbrev Xt:=Array PySem.Value
def u5:=@Array.getElem?_eq_getElem
def jg:=@Array.getElem?_eq_some_iff
def nu:=@Array.getElem?_toList
def ql:=@Array.length_toList
def aq:=@Bool.and_eq_true
def wu:=@Bool.eq_iff_iff
def d9:=@Bool.false_eq_true
def gq:=@Bool.false_ne_true
def iz:=@Function.comp_def
def wk:=@Int.emod_lt_of_pos
def yj:=@Int.emod_nonneg
def qy:=@Int.natCast_nonneg
def m5:=@Int.toNat_natCast
def uv:=@List.all_eq_true
def yg:=@List.any_cons
def wz:=@List.append_assoc
def yl:=@List.append_nil
def yh:=@List.cons.inj
def ni:=@List.dropLast_concat_getLast
def u6:=@List.drop_eq_getElem_cons
def q8:=@List.eq_nil_of_length_eq_zero
def jw:=@List.find?_cons
def ux:=@List.getD_eq_getElem?_getD
def gm:=@List.getElem?_append_left
def ou:=@List.getElem?_append_right
def dm:=@List.getElem?_eq_getElem
def wy:=@List.getElem?_eq_none
def ak:=@List.getElem?_eq_some_iff
def ig:=@List.getElem?_map
def rz:=@List.getElem?_set_ne
def uo:=@List.getElem?_set_self
def vh:=@List.getElem?_zipIdx
def xq:=@List.getElem_inj
def v5:=@List.getElem_of_mem
def mj:=@List.isEmpty_iff
def jb:=@List.length_append
def d7:=@List.length_cons
def dg:=@List.length_map
def j0:=@List.length_pos_iff
def ym:=@List.length_set
def xr:=@List.length_take
def mq:=@List.lookup_cons
def gr:=@List.map_append
def j5:=@List.map_congr_left
def cz:=@List.map_cons
def gh:=@List.map_map
def cg:=@List.mem_append
def ji:=@List.mem_append_left
def fj:=@List.mem_append_right
def dh:=@List.mem_cons
def bu:=@List.mem_cons_of_mem
def bz:=@List.mem_cons_self
def tu:=@List.mem_filter
def iy:=@List.mem_iff_getElem?
def dq:=@List.mem_map
def bf:=@List.mem_of_getElem?
def w6:=@List.mem_of_mem_take
def km:=@List.mem_range
def jz:=@List.mem_singleton
def n6:=@List.nodup_append
def o8:=@List.nodup_cons
def xu:=@List.not_mem_nil
def yo:=@List.of_mem_zip
def xx:=@List.range'_succ
def di:=@List.size_toArray
def vm:=@List.sum_cons
def u0:=@List.take_append_drop
def jr:=@List.take_length
def wj:=@List.take_of_length_le
def jd:=@List.take_succ
def u9:=@Nat.le_of_lt
def t6:=@Nat.le_of_lt_succ
def az:=@Nat.le_refl
def o7:=@Nat.le_succ
def bw:=@Nat.le_trans
def lg:=@Nat.lt_irrefl
def qz:=@Nat.lt_of_le_of_lt
def gf:=@Nat.lt_of_lt_of_le
def j9:=@Nat.lt_or_ge
def qw:=@Nat.lt_succ_self
def qt:=@Nat.ne_of_gt
def fc:=@Nat.ne_of_lt
def o9:=@Nat.not_lt_zero
def vd:=@Nat.zero_add
def ie:=@Nat.zero_le
def jh:=@Ne.symm
def ir:=@Option.bind_eq_some_iff
def wg:=@Option.bind_some
def jx:=@Option.isSome_iff_exists
def bx:=@Option.map_eq_some_iff
def m8:=@Option.map_some
def gj:=@Option.some.inj
def vy:=@PyProof.Rows.callWith_builtin1
def qe:=@PyProof.Rows.callWith_type1
def vg:=@PyProof.Rows.slot_tuple_getitem
def uy:=@PySem.Around.under_plainId
def qb:=@PySem.F.called_set
def ue:=@PySem.F.slot_dict_keyiterator_next
def rm:=@PySem.F.slot_dict_valueiterator_next
def uf:=@PySem.F.slot_enumerate_next
def qi:=@PySem.F.slot_tuple_iterator_next
def iw:=@PySem.Heap.SameBut.update
def ao:=@PySem.Heap.get?_push_of_some
def bc:=@PySem.Heap.get?_push_size
def lr:=@PySem.Heap.get?_update_self
def au:=@PySem.Heap.lt_size
def jq:=@PySem.Heap.size_push
def p6:=@PySem.Obj.data_mapFields
def jk:=@PySem.W.mg_none_of
def dw:=@PySem.W.mg_of
def v7:=@PySem.mem_of_lookup
def p8:=@PySem.tupleKind_room_in1
def nj:=@PySem.wpAny_Call_Name_kw
def aa:=@PySem.wpAny_bind
def je:=@PySem.wpAny_callSpecial?_slot
def jn:=@PySem.wpAny_call_entry
def t7:=@PySem.wpAny_dictEntries
def fu:=@PySem.wpAny_field
def uq:=@PySem.wpAny_forIn_list
def jf:=@PySem.wpAny_holding
def o5:=@PySem.wpAny_isInstance
def my:=@PySem.wpAny_mono
def jt:=@PySem.wpAny_newObj_type
def ug:=@PySem.wpAny_notOrdered_dict
def ph:=@PySem.wpAny_passesOwn
def aj:=@PySem.wpAny_pure
def t8:=@PySem.wpAny_pyIter_list
def nq:=@PySem.wpAny_pyIter_tuple
def qd:=@PySem.wpAny_rule
def m6:=@PySem.wpAny_seqItems
def sr:=@PySem.wpAny_setField
def jo:=@PySem.wpAny_setField_rec
def ju:=@PySem.wpAny_truthy_bool
def uc:=@PySem.wpAny_typeNameOfWhole_keyiter
def ud:=@PySem.wpAny_typeNameOfWhole_valiter
def uh:=@beq_eq_false_iff_ne
def yc:=@beq_self_eq_true
def o4:=@congrArg
def qm:=@decide_eq_false
def du:=@decide_eq_true_eq
def jj:=@if_false
def bj:=@if_neg
def bh:=@if_pos
def j6:=@if_true
def kh:=@of_decide_eq_true
abbrev Fg:=PySem.W.Frag
def a_{a b c:Nat}(h:a<=b)(k:b<=c):a<=c:=bw h k
def b_{a b c:Nat}(h:a<b)(k:b<=c):a<c:=gf h k
def c_{a b c:Nat}(h:a<=b)(k:b<c):a<c:=qz h k
def d_{a b c:Nat}(h:a<b)(k:b<c):a<c:=Nat.lt_trans h k
def e_{a b:Nat}(h:a<b):a<=b:=u9 h
def f_{a b:Nat}(h:a=b):a<=b:=Nat.le_of_eq h
def g_{a b:Nat}(h:a=b):b<=a:=Nat.le_of_eq h.symm
def i_{a b:Nat}(h:b<a):a≠b:=qt h
def j_{a b:Nat}(h:b<=a):¬a<b:=Nat.not_lt_of_le h
def l_{p:Prop}{a b:Nat}(h:a<b)(k:b<=a):p:=absurd h (Nat.not_lt_of_le k)
def m_{a b:Nat}(h:a<b):(a:Int)<(b:Int):=Int.ofNat_lt.mpr h
def q_{a:Nat}:(0:Int)<=(a:Int):=qy a
def r_{a b c:Nat}(h:a+c<=b):a<=b-c:=Nat.le_sub_of_add_le h
def s_{a b:Nat}(h:¬a<b):b<=a:=Nat.le_of_not_lt h
def t_{a b:Nat}(h:¬a<=b):b<a:=Nat.lt_of_not_le h
def u_{a b:Nat}(h:a<=b)(k:b<=a):a=b:=Nat.le_antisymm h k
def v_{a b c:Nat}(h:a<=b):a+c<=b+c:=Nat.add_le_add_right h c
def w_{a b c:Nat}(h:a<=b):c+a<=c+b:=Nat.add_le_add_left h c
def x_{a b:Nat}:a<=a+b:=Nat.le_add_right a b
def z_{a b:Nat}(h:a<b+1):a<=b:=t6 h
def A_{a b:Nat}(h:a<=b):a<b+1:=Nat.lt_succ_of_le h
def C_{a b:Nat}:a-b<=a:=Nat.sub_le a b
def hG{P:Prop}(h:∀G:Prop,(P->G)->G):P:=h P id
noncomputable section
namespace STb
open PySem
def Vr{prog:Program}{w:World}{A:Around}{G:Type}{Q:G->Shared->Prop}{E:Y1}{s:Shared}(U:A.handled=none)(q:∀Z x,(∀b o,s.heap.get? b=some o->Z.get? b=some o)->(∃o,Z.get? x=some o/\o.cls=.type "StopIteration")->E (.ref x) { s with heap:=Z }):wpAny (model prog w) A (newExc (.type "StopIteration") [] >>= raiseNew) Q E s:=by simp only[newExc,newTuple];refine aa (aa (jt (aa (m:=firstArgMember _ _) (wpAny_of_eq (a:=Value.none) (by first|rfl|(simp only[firstArgMember];rfl)) (jt ?_ (by size_fits)))) (by size_fits)));simp only[raiseNew];refine aa (wpAny_handled ?_);rw[U];exact aa (aj (wpAny_throw (q _ _ (λb o e=>ao _ (ao _ e)) ⟨_,bc _ rfl,rfl⟩)))
open PySem SetTable
def Srt(Z:Array Nat):Prop:=∀(i j a b:Nat),Z[i]?=some a->Z[j]?=some b->i<j->a<b
def alm(hs:Srt U):∀(Z G hi:Nat),G<=hi->hi<=U.size->hi-G<=Z ->
 (∀(i a:Nat),U[i]?=some a->i<G->a<j)->(∀(i a:Nat),U[i]?=some a->hi<=i->j<=a) ->
 below.go U j Z G hi<=U.size/\(∀(i a:Nat),U[i]?=some a->i<below.go U j Z G hi->a<j)/\(∀(i a:Nat),U[i]?=some a->below.go U j Z G hi<=i->j<=a):=by
 intro Z
 induction Z with
 |zero =>
  intro G hi h1 h2 h3 h4 h5;unfold below.go;have:G=hi:=by lia
  subst this;exact⟨h2,h4,h5⟩
 |succ Z ih =>
  intro G hi h1 h2 h3 h4 h5;unfold below.go
  by_cases Ik:G<hi
  .simp only[bh Ik]
   have hm:(G+hi) / 2<U.size:=by lia
   have hg:U[(G+hi) / 2]?=some U[(G+hi) / 2]:=by simp[hm]
   have qq:U.getD ((G+hi) / 2) j=U[(G+hi) / 2]:=by simp[Array.getD,hm]
   rw[qq]
   by_cases hc:U[(G+hi) / 2]<j
   .rw[bh hc]
    refine ih _ _ (by lia) h2 (by omega) (λi a e l=>?_) h5
    by_cases R:i=(G+hi) / 2
    .subst R;rw[hg] at e;cases e;exact hc
    .exact Nat.lt_trans (hs _ _ _ _ e hg (by lia)) hc
   .rw[bj hc]
    refine ih _ _ (by lia) (e_ hm) (by omega) h4 (λi a e l=>?_)
    by_cases R:i=(G+hi) / 2
    .subst R;rw[hg] at e;cases e;exact s_ hc
    .have:=hs _ _ _ _ hg e (by lia);exact e_ (c_ (s_ hc) this)
  .rw[bj Ik]
   have:G=hi:=u_ h1 (s_ Ik);subst this;exact⟨h2,h4,h5⟩
def G9(G:Srt Z):below Z j<=Z.size/\(∀(i a:Nat),Z[i]?=some a->i<below Z j->a<j)/\(∀(i a:Nat),Z[i]?=some a->below Z j<=i->j<=a) :=
 alm G _ _ _ (ie _) (az _) C_ (λi a _ h=>absurd h (o9 _)) (λi a e h=>by
  have:=(jg.mp e).1;lia)
def below_at(U:Srt Z)(h:Z[i]?=some j):below Z j=i:=by
 obtain⟨h1,h2,R⟩:=G9 (j:=j) U;rcases Nat.lt_trichotomy (below Z j) i with l|l|l
 .have li:=(jg.mp h).1
  have G:Z[below Z j]?=some Z[below Z j]:=by simp
  have a:=R _ _ G (az _);have b:=U _ _ _ _ G h l
  lia
 .exact l
 .have:=h2 _ _ h l;lia
def Uh(j:Nat):has #[] j=false:=by simp[has]
set_option tactic.hygienic true in
def Od{t:SetTable}(Z:Srt t.place):t.slot j=.live i↔t.place[i]?=some j:=by
 unfold slot;constructor
 .intro h
  dsimp only at h;split at h
  .rename_i e;cases h;simpa using e
  .split at h<;>cases h
 .intro h
  dsimp only;rw[below_at Z h,h];simp
def aal{t:SetTable}(Z:Srt t.place)(G:t.dummies=#[]):t.slot j=.empty↔∀i:Nat,t.place[i]?≠some j:=by
 constructor
 .intro h i e
  rw[(Od Z).mpr e] at h;cases h
 .intro h
  unfold slot;dsimp only;rw[G,Uh,bj (by simpa using h _)];rfl
def J9(Z:Array α)(p:Nat)(x:α)(hp:p<=Z.size)(i:Nat):(insertAt Z p x)[i]?=if i<p then Z[i]? else if i=p then some x else Z[i-1]?:=by
 rw[<- nu,toList_insertAt];have U:(Z.toList.take p).length=p:=by simp;lia
 by_cases G:i<p
 .rw[bh G,gm (b_ G (g_ U)),List.getElem?_take,bh G,nu]
 .rw[bj G,ou (a_ (f_ U) (s_ G)),U]
  by_cases R:i=p
  .subst R;simp
  .rw[bj R]
   obtain⟨q,hq⟩:∃q,i=p+q+1:=⟨i-p-1,by lia⟩;subst hq;rw[show p+q+1-p=q+1 by lia,List.getElem?_cons_succ,List.getElem?_drop,show p+q+1-1=p+q by lia,nu]
def Ly(Z:Array α)(p:Nat)(x:α):(insertAt Z p x).size=Z.size+1:=by have:=(insertAt_perm Z p x).length_eq;simpa using this
noncomputable def up(p i:Nat):Nat:=if i<p then i else i+1
def Lb(Z:Array α)(p:Nat)(x:α)(G:p<=Z.size)(i:Nat):(insertAt Z p x)[up p i]?=Z[i]?:=by
 rw[J9 Z p x G];unfold up
 by_cases h:i<p
 .simp[h]
 .rw[bj h,bj (j_ (a_ (s_ h) x_)),bj (i_ (A_ (s_ h)))];rfl
def Gv(Z:Array α)(p:Nat)(x:α)(G:p<=Z.size):(insertAt Z p x)[p]?=some x:=by rw[J9 Z p x G];simp
def Ka(p i:Nat):i=p\/∃k,i=up p k:=by
 unfold up;rcases Nat.lt_trichotomy i p with h|h|h
 .exact .inr ⟨i,by simp[h]⟩
 .exact .inl h
 .exact .inr ⟨i-1,by rw[bj (by omega)];lia⟩
def aln(hs:Srt G)(hn:∀i:Nat,G[i]?≠some j):Srt (insertAt G (below G j) j):=by
 obtain⟨R,h2,h3⟩:=G9 (j:=j) hs;intro a b x y U Z l;rcases Ka (below G j) a with rfl|⟨a',rfl⟩<;>rcases Ka (below G j) b with hb|⟨b',rfl⟩
 .subst hb;lia
 .rw[Gv _ _ _ R] at U
  rw[Lb _ _ _ R] at Z;cases U;have:below G j<=b':=by unfold up at l;split at l<;>omega
  have g:=h3 _ _ Z this;rcases Nat.lt_or_eq_of_le g with g|g
  .exact g
  .subst g;exact absurd Z (hn _)
 .subst hb
  rw[Gv _ _ _ R] at Z;rw[Lb _ _ _ R] at U;cases Z;exact h2 _ _ U (by unfold up at l;split at l<;>omega)
 .rw[Lb _ _ _ R] at U Z
  exact hs _ _ _ _ U Z (by unfold up at l;split at l<;>split at l<;>omega)
noncomputable def adv(m:Nat)(p:Probe):Probe:=({ SetTable.fresh 0 0 true with mask:=m }:SetTable).advance p
def aq9(t:SetTable)(p:Probe):t.advance p=adv t.mask p:=rfl
def Vs(h:p.more > 0):adv m p={ p with j:=p.j+1,more:=p.more-1 }:=bh h
def Qz(h:¬p.more > 0):adv m p={ p with j:=(leap m p.i p.perturb).1,more:=runEnd m (leap m p.i p.perturb).1-(leap m p.i p.perturb).1,i:=(leap m p.i p.perturb).1,perturb:=(leap m p.i p.perturb).2 }:=bj h
noncomputable def beg(m i pt:Nat):Probe:={ j:=i,more:=runEnd m i-i,i:=i,perturb:=pt,dummy:=none }
def P(m:Nat)(h:Int):Nat->Probe
 |0=>beg m (bits h%(m+1)) (bits h)|n+1=>adv m (P m h n)
def Xw(t:SetTable)(h:Int):t.probeStart h=P t.mask h 0:=rfl
theorem Vt(m:Nat)(h:Int):∀n,(P m h n).dummy=none
 |0=>rfl
 |n+1=>by
  show(adv m (P m h n)).dummy=none
  by_cases q:(P m h n).more > 0
  .rw[Vs q];exact Vt m h n
  .rw[Qz q];exact Vt m h n
noncomputable def I(m:Nat)(h:Int):Nat->Nat
 |0=>bits h%(m+1)|T+1=>(I m h T*5+1+bits h / 32 ^ (T+1))%(m+1)
def alo(m i:Nat):runEnd m i-i<=9:=by unfold runEnd;split<;>lia
theorem Xx{m:Nat}{h:Int}{n i pt:Nat}(e:P m h n=beg m i pt):∀c,c<=runEnd m i-i->P m h (n+c)={ j:=i+c,more:=runEnd m i-i-c,i:=i,perturb:=pt,dummy:=none }
 |0,_=>by rw[Nat.add_zero,e];rfl
 |c+1,hc=>by
  have:=Xx e c (by lia);show adv m (P m h (n+c))=_;rw[this,Vs (by show 0<runEnd m i-i-c;lia)];simp only
  congr 1
def agw(e:P m h n=beg m i pt):P m h (n+(runEnd m i-i)+1)=beg m ((i*5+1+pt / 32)%(m+1)) (pt / 32):=by show adv m (P m h (n+(runEnd m i-i)))=_;rw[Xx e _ (az _),Qz (by simp)];rfl
theorem agx(m:Nat)(h:Int):∀T,∃n,n<=10*T/\P m h n=beg m (I m h T) (bits h / 32 ^ T)
 |0=>⟨0,ie _,by simp[P,I]⟩
 |T+1=>by
  obtain⟨n,G,Z⟩:=agx m h T;have:=alo m (I m h T);refine⟨_,?_,(agw Z).trans ?_⟩
  .lia
  .rw[Nat.div_div_eq_div_mul,<- Nat.pow_succ];rfl
noncomputable def f5(m x:Nat):Nat:=(x*5+1)%(m+1)
def it(m:Nat):Nat->Nat->Nat
 |0,x=>x|k+1,x=>f5 m (it m k x)
theorem Q0(m a x:Nat):∀k,it m (a+k) x=it m k (it m a x)
 |0=>rfl|k+1=>by show f5 m (it m (a+k) x)=_;rw[Q0 m a x k];rfl
def Cov(m:Nat):Prop:=∀i j,i<=m->j<=m->∃k,k<=m/\it m k i=j
def ara(R:it m (m+1) 0=0)(h:∀j,j<=m->∃k,k<=m/\it m k 0=j):Cov m:=λi j hi hj=>by
 obtain⟨a,la,Z⟩:=h i hi;obtain⟨b,lb,G⟩:=h j hj
 by_cases U:a<=b
 .refine⟨b-a,a_ C_ lb,?_⟩
  rw[<- Z,<- Q0,show a+(b-a)=b by lia,G]
 .refine⟨m+1+b-a,by omega,?_⟩
  rw[<- Z,<- Q0,show a+(m+1+b-a)=(m+1)+b by lia,Q0,R,G]
def orb(m:Nat):Nat->Nat->List Nat
 |0,_=>[]|k+1,x=>x::orb m k (f5 m x)
theorem aca{m:Nat}:∀{k x j:Nat},j∈orb m k x->∃q,q<k/\it m q x=j
 |0,_,_,h=>by simp[orb] at h
 |k+1,x,j,h=>by
  simp only[orb,dh] at h;rcases h with rfl|h
  .exact⟨0,A_ (ie _),rfl⟩
  .obtain⟨q,l,e⟩:=aca h
   refine⟨1+q,by lia,?_⟩;rw[Q0];exact e
def Lz(G:it m (m+1) 0=0)(h:((List.range (m+1)).all λj=>(orb m (m+1) 0).contains j)=true):Cov m :=
 ara G λj Z=>by have:=uv.mp h j (by simp;exact A_ Z);obtain⟨q,l,e⟩:=aca (by simpa using this);exact⟨q,z_ l,e⟩
def Msk(m:Nat):Prop:=m=7\/m=15\/m=31\/m=63\/m=127
def a3z:Cov 7:=Lz (by decide+kernel) (by decide+kernel)
def aw1:Cov 15:=Lz (by decide+kernel) (by decide+kernel)
def aw2:Cov 31:=Lz (by decide+kernel) (by decide+kernel)
def aw3:Cov 63:=Lz (by decide+kernel) (by decide+kernel)
def arb:Cov 127:=Lz (by decide+kernel) (by decide+kernel)
def Msk.cov(h:Msk m):Cov m:=by
 rcases h with rfl|rfl|rfl|rfl|rfl
 .exact a3z
 .exact aw1
 .exact aw2
 .exact aw3
 .exact arb
def alp(h:Int):bits h<2 ^ 64:=by
 unfold bits;have G:=yj h (b:=2 ^ 64) (by decide);have Z:=wk h (b:=2 ^ 64) (by decide)
 lia
theorem aw4(m:Nat)(h:Int):∀T,I m h T<=m
 |0=>t6 (Nat.mod_lt (bits h) (Nat.succ_pos m))|T+1=>t6 (Nat.mod_lt (I m h T*5+1+bits h / 32 ^ (T+1)) (Nat.succ_pos m))
theorem agy(m:Nat)(h:Int):∀k,I m h (13+k)=it m k (I m h 13)
 |0=>rfl
 |k+1=>by
  show(I m h (13+k)*5+1+bits h / 32 ^ (13+k+1))%(m+1)=f5 m (it m k (I m h 13));have:bits h / 32 ^ (13+k+1)=0:=by
   apply Nat.div_eq_of_lt;refine gf (alp h) ?_
   calc 2 ^ 64<=32 ^ 13:=by decide
    _<=32 ^ (13+k+1):=Nat.pow_le_pow_right (by decide) (a_ x_ x_)
  rw[this,agy m h k];rfl
def cover(G:Msk m)(h:Int)(j:Nat)(U:j<=m):∃T,T<=13+m/\I m h T=j:=by obtain⟨k,Z,e⟩:=G.cov (I m h 13) j (aw4 m h 13) U;exact⟨13+k,w_ Z,(agy m h k).trans e⟩
def alq(Z:Msk m)(h:Int)(j:Nat)(G:j<=m):∃n,n<10*turns m/\(P m h n).j=j:=by obtain⟨T,lT,e⟩:=cover Z h j G;obtain⟨n,R,U⟩:=agx m h T;exact⟨n,by unfold turns;lia,by rw[U];exact e⟩
def mod_le(a m:Nat):a%(m+1)<=m:=t6 (Nat.mod_lt a (Nat.succ_pos m))
def Oe(h:i<=m):i<=runEnd m i/\runEnd m i<=m:=by unfold runEnd;split<;>omega
theorem aw5(m:Nat)(h:Int):∀n,(P m h n).j+(P m h n).more<=m
 |0=>by
  have:=Oe (mod_le (bits h) m);show bits h%(m+1)+(runEnd m (bits h%(m+1))-bits h%(m+1))<=m
  omega
 |n+1=>by
  have Z:=aw5 m h n;show(adv m (P m h n)).j+(adv m (P m h n)).more<=m
  by_cases q:(P m h n).more > 0
  .rw[Vs q];simp only;lia
  .rw[Qz q]
   have:=Oe (mod_le ((P m h n).i*5+1+(P m h n).perturb / 32) m);show(leap m (P m h n).i (P m h n).perturb).1+(runEnd m (leap m (P m h n).i (P m h n).perturb).1-(leap m (P m h n).i (P m h n).perturb).1)<=m
   have e:(leap m (P m h n).i (P m h n).perturb).1=((P m h n).i*5+1+(P m h n).perturb / 32)%(m+1):=rfl;rw[e];omega
def a4a(m:Nat)(h:Int)(n:Nat):(P m h n).j<=m:=by have:=aw5 m h n;lia
def Occ(t:SetTable)(j:Nat):Prop:=∃i:Nat,t.place[i]?=some j
structure Vu(t:SetTable)(es:Array (Int×Value)):Prop where
 msk:Msk t.mask
 dum:t.dummies=#[]
 siz:t.place.size=es.size
 srt:Srt t.place
 bnd:∀(i j:Nat),t.place[i]?=some j->j<=t.mask
 ful:t.place.size<=t.mask
 rch:∀(i j:Nat) e,t.place[i]?=some j->es[i]?=some e->∃n,(P t.mask e.1 n).j=j/\∀m,m<n->Occ t (P t.mask e.1 m).j
theorem Vu.fits(k:Vu t es):t.fits es.size=true:=by unfold SetTable.fits fill;rw[k.dum];simp[k.siz];have:=k.ful;have:=k.siz;lia
def Msk.odd(h:Msk m):m%2=1:=by rcases h with rfl|rfl|rfl|rfl|rfl<;>rfl
def Vu.way(k:Vu t es):t.gaveWay=false:=by unfold gaveWay;rw[k.msk.odd];rfl
def agz(hs:Srt G)(h:G.size<=m):∃j,j<=m/\∀i:Nat,G[i]?≠some j:=by
 apply Classical.byContradiction;intro hn;have all:∀j,j<=m->∃i:Nat,G[i]?=some j:=λj R=>by apply Classical.byContradiction;intro hc;exact hn ⟨j,R,λi e=>hc ⟨i,e⟩⟩
 have:∀j,j<=m->∀i:Nat,G[i]?=some j->j<=i:=by
  intro j
  induction j with
  |zero=>intro _ i _;exact ie _
  |succ j ih =>
   intro R i e;obtain⟨U,Z⟩:=all j (by lia);have:=ih (by lia) U Z;rcases Nat.lt_trichotomy i U with l|l|l
   .have:=hs _ _ _ _ e Z l;lia
   .subst l;rw[e] at Z;injection Z with Z;exact a_ (f_ Z) this
   .exact a_ (v_ this) l
 obtain⟨i,e⟩:=all m (az _);have h1:=this m (az _) i e;have h2:=(jg.mp e).1;exact l_ h2 (a_ h h1)
structure Fst(t:SetTable)(h:Int)(N:Nat):Prop where
 lt:N<10*turns t.mask
 emp:¬Occ t (P t.mask h N).j
 occ:∀m,m<N->Occ t (P t.mask h m).j
def least{p:Nat->Prop}:∀{n:Nat},p n->∃k,k<=n/\p k/\∀m,m<k->¬p m:=by
 intro n
 induction n using Nat.strongRecOn with
 |ind n R =>
  intro h
  by_cases G:∃m,m<n/\p m
  .obtain⟨m,l,Z⟩:=G
   obtain⟨k,U,a,b⟩:=R m l Z;exact⟨k,e_ (c_ U l),a,b⟩
  .exact⟨n,az _,h,λm l Z=>G ⟨m,l,Z⟩⟩
def Vu.fst(k:Vu t es)(h:Int):∃N,Fst t h N:=by obtain⟨j,U,e⟩:=agz k.srt k.ful;obtain⟨n,G,Z⟩:=alq k.msk h j U;obtain⟨N,l,a,b⟩:=least (p:=λn=>¬Occ t (P t.mask h n).j) (n:=n) (λ⟨i,c⟩=>e i (by rw[Z] at c;exact c));exact⟨N,c_ l G,a,λm R=>Classical.not_not.mp (b m R)⟩
theorem ag0(k:Vu t es)(F:Fst t h N)(G:Nat->Int):∀(Z n:Nat),n<=N->N-n<Z ->
 (probe.go t G h Z (P t.mask h n)=some (.empty (P t.mask h N).j none)/\∀m,n<=m->m<N->∀i:Nat,t.place[i]?=some (P t.mask h m).j->G i≠h)
\/∃m i:Nat,n<=m/\m<N/\t.place[i]?=some (P t.mask h m).j/\G i=h/\(∀q,n<=q->q<m->∀i:Nat,t.place[i]?=some (P t.mask h q).j->G i≠h)
 /\probe.go t G h Z (P t.mask h n)=some (.candidate (P t.mask h m).j i (P t.mask h (m+1))):=by
 intro Z
 induction Z with
 |zero=>intro n _ l;omega
 |succ Z ih =>
  intro n hn l;unfold probe.go
  by_cases e:n=N
  .subst e
   left
   rw[(aal k.srt k.dum).mpr (λi c=>F.emp ⟨i,c⟩)];simp only;rw[Vt];exact⟨rfl,λm a b=>by lia⟩
  .obtain⟨i,hi⟩:=F.occ n (by lia)
   rw[(Od k.srt).mpr hi];simp only[aq9];have qq:adv t.mask (P t.mask h n)=P t.mask h (n+1):=rfl;rw[qq]
   by_cases R:G i=h
   .right
    refine⟨n,i,az _,by lia,hi,R,λq a b=>by lia,?_⟩;rw[bh (by simp[R])]
   .rw[bj (by simp[R])]
    have un:∀U:Nat,t.place[U]?=some (P t.mask h n).j->G U≠h:=λU e'=>by have a:=below_at k.srt e';have b:=below_at k.srt hi;rw[<- a,b];exact R
    rcases ih (n+1) (by lia) (by lia) with⟨a,b⟩|⟨m,U,a,b,c,d,e1,e2⟩
    .left
     refine⟨a,λm x y=>?_⟩
     by_cases q:m=n
     .subst q;exact un
     .exact b m (by lia) y
    .right
     refine⟨m,U,by lia,b,c,d,λq x y=>?_,e2⟩
     by_cases z:q=n
     .subst z;exact un
     .exact e1 q (by lia) y
def Vu.ahead(k:Vu t es)(F:Fst t h N){i:Nat}(G:es[i]?=some e)(R:e.1=h):∃m,m<N/\t.place[i]?=some (P t.mask h m).j:=by
 have U:i<t.place.size:=by rw[k.siz];exact(jg.mp G).1
 have Z:t.place[i]?=some t.place[i]:=by simp[U]
 obtain⟨n,a,b⟩:=k.rch i _ e Z G;subst R;refine⟨n,?_,by rw[a];exact Z⟩;rcases Nat.lt_trichotomy n N with l|l|l
 .exact l
 .subst l;exact absurd ⟨i,by rw[a];exact Z⟩ F.emp
 .exact absurd (b N l) F.emp
def Vv(G:Srt t.place)(q:Nat):Occ (t.put j).1 q↔q=j\/Occ t q:=by
 obtain⟨Z,U,R⟩:=G9 (j:=j) G;constructor
 .rintro⟨i,e⟩
  have e:(insertAt t.place (below t.place j) j)[i]?=some q:=e;rcases Ka (below t.place j) i with rfl|⟨i',rfl⟩
  .rw[Gv _ _ _ Z] at e;cases e;exact .inl rfl
  .rw[Lb _ _ _ Z] at e;exact .inr ⟨i',e⟩
 .rintro(rfl|⟨i,e⟩)
  .exact⟨_,Gv _ _ _ Z⟩
  .exact⟨up (below t.place j) i,(Lb _ _ _ Z i).trans e⟩
theorem Vu.put(k:Vu t es)(F:Fst t h N)(room:t.place.size+1<=t.mask) :
 Vu (t.put (P t.mask h N).j).1 (insertAt es (t.put (P t.mask h N).j).2 (h,x)):=by
 obtain⟨R,h2,h3⟩:=G9 (j:=(P t.mask h N).j) k.srt;have U:below t.place (P t.mask h N).j<=es.size:=by rw[<- k.siz];exact R
 refine⟨k.msk,?_,?_,?_,?_,?_,?_⟩
 .show(if has t.dummies _ then _ else t.dummies)=#[]
  rw[k.dum,Uh];rfl
 .show(insertAt t.place _ _).size=(insertAt es _ _).size
  rw[Ly,Ly,k.siz]
 .exact aln k.srt (λi e=>F.emp ⟨i,e⟩)
 .intro i j e
  rcases(Vv k.srt j).mp ⟨i,e⟩ with rfl|⟨i',e'⟩
  .exact a4a _ _ _
  .exact k.bnd i' j e'
 .show(insertAt t.place _ _).size<=t.mask
  rw[Ly];exact room
 .intro i j e G Z
  have G:(insertAt t.place (below t.place (P t.mask h N).j) (P t.mask h N).j)[i]?=some j:=G;have Z:(insertAt es (below t.place (P t.mask h N).j) (h,x))[i]?=some e:=Z;show ∃n,(P t.mask e.1 n).j=j/\∀m,m<n->Occ (t.put (P t.mask h N).j).1 (P t.mask e.1 m).j
  rcases Ka (below t.place (P t.mask h N).j) i with rfl|⟨i',rfl⟩
  .rw[Gv _ _ _ R] at G
   rw[Gv _ _ _ U] at Z;cases G;cases Z;exact⟨N,rfl,λm l=>(Vv k.srt _).mpr (.inr (F.occ m l))⟩
  .rw[Lb _ _ _ R] at G
   rw[Lb _ _ _ U] at Z;obtain⟨n,a,b⟩:=k.rch i' j e G Z;exact⟨n,a,λm l=>(Vv k.srt _).mpr (.inr (b m l))⟩
abbrev OcO(ow:Array (Option Nat))(j:Nat):Prop:=∃i,ow[j]?=some (some i)
structure Own(m:Nat)(ow:Array (Option Nat))(hs:X9):Prop where
 siz:ow.size=m+1
 cnt:ow.toList.countP Option.isSome=hs.length
 lt:∀(j i:Nat),ow[j]?=some (some i)->i<hs.length
 inj:∀(j j' i:Nat),ow[j]?=some (some i)->ow[j']?=some (some i)->j=j'
 at':∀(i:Nat) h,hs[i]?=some h->∃j n,ow[j]?=some (some i)/\(P m h n).j=j/\∀q,q<n->OcO ow (P m h q).j
def getD_none{Z:Array (Option Nat)}(G:Z.size=m+1)(h:(Z.getD j (some 0)).isNone=true):Z[j]?=some none:=by
 by_cases l:j<Z.size
 .simp[Array.getD,l] at h;simp[l,h]
 .simp[Array.getD,l] at h
def getD_some(U:Z.size=m+1)(G:j<=m)(h:¬(Z.getD j (some 0)).isNone=true):OcO Z j:=by
 have l:j<Z.size:=by lia
 simp[Array.getD,l] at h;unfold OcO;rw[show Z[j]?=some Z[j] by simp[l]];cases e:Z[j] with
 |none=>exact absurd e h|some i=>exact⟨i,rfl⟩
def ae8(hz:G.size=m+1)(h:Int):∀(Z T n:Nat),P m h n=beg m (I m h T) (bits h / 32 ^ T)->(∀q,q<n->OcO G (P m h q).j) ->
 (∃k,k<Z/\G[I m h (T+k)]?=some none)->∃j R,layClean.free m G Z (I m h T) (bits h / 32 ^ T)=some j/\(P m h R).j=j/\G[j]?=some none/\∀q,q<R->OcO G (P m h q).j:=by
 intro Z
 induction Z with
 |zero=>rintro T n _ _ ⟨k,l,_⟩;lia
 |succ Z ih =>
  rintro T n e hq ⟨k,lk,ek⟩;have hI:=aw4 m h T;obtain⟨r1,r2⟩:=Oe hI;unfold layClean.free;cases hf:(List.range (runEnd m (I m h T)+1-I m h T)).find? λk=>(G.getD (I m h T+k) (some 0)).isNone with
  |some c =>
   obtain⟨a,b,d⟩:=List.find?_range_eq_some.mp hf;have b:=km.mp b;refine⟨_,n+c,rfl,by rw[Xx e c (by omega)],getD_none hz a,λq l=>?_⟩
   by_cases hn:q<n
   .exact hq q hn
   .obtain⟨c',rfl⟩:∃c',q=n+c':=⟨q-n,by lia⟩
    rw[Xx e c' (by lia)];show OcO G (I m h T+c');exact getD_some hz (by lia) (λhh=>by
     have:=d c' (by lia);simp only[hh] at this;cases this)
  |none =>
   have Ld:=List.find?_eq_none.mp hf;have U:∀c,c<=runEnd m (I m h T)-I m h T->OcO G (I m h T+c):=λc hc=>getD_some hz (by lia) (Ld c (km.mpr (by lia)))
   cases k with
   |zero =>
    obtain⟨i,ei⟩:=U 0 (ie _);rw[Nat.add_zero] at ek ei;rw[ek] at ei;cases ei
   |succ k =>
    have pe:bits h / 32 ^ T / 32=bits h / 32 ^ (T+1):=by rw[Nat.div_div_eq_div_mul,<- Nat.pow_succ]
    have:=ih (T+1) (n+(runEnd m (I m h T)-I m h T)+1) (by rw[agw e,pe];rfl) (λq l=>?_) ⟨k,by lia,by rw[show T+1+k=T+(k+1) by lia];exact ek⟩
    .obtain⟨j,R,e1,e2⟩:=this
     refine⟨j,R,?_,e2⟩;rw[<- e1];show layClean.free m G Z ((I m h T*5+1+bits h / 32 ^ T / 32)%(m+1)) (bits h / 32 ^ T / 32)=_;rw[pe];rfl
    .by_cases hn:q<n
     .exact hq q hn
     .obtain⟨c',rfl⟩:∃c',q=n+c':=⟨q-n,by lia⟩
      rw[Xx e c' (by lia)];show OcO G (I m h T+c');exact U c' (by lia)
def Own.room(k:Own m Z hs)(h:hs.length<=m):∃j,j<=m/\Z[j]?=some none:=by
 apply Classical.byContradiction;intro hn;have:Z.toList.countP Option.isSome=Z.toList.length:=List.countP_eq_length.mpr λa R=>by
  obtain⟨j,U,e⟩:=v5 R;cases a with
  |some i=>rfl
  |none =>
   have G:j<Z.size:=by simpa using U
   refine absurd ⟨j,by have:=k.siz;exact z_ (b_ G (f_ this)),?_⟩ hn;rw[<- nu,dm U,e]
 rw[k.cnt] at this;have:=k.siz;simp at *
 lia
theorem Own.free(R:Msk m)(k:Own m Z hs)(U:hs.length<=m)(h:Int):∃j G,layClean.free m Z (turns m) (bits h%(m+1)) (bits h)=some j/\(P m h G).j=j/\Z[j]?=some none/\∀q,q<G->OcO Z (P m h q).j:=by obtain⟨j,hj,e⟩:=k.room U;obtain⟨T,lT,eT⟩:=cover R h j hj;have:=ae8 k.siz h (turns m) 0 0 (by simp[P,I]) (λq l=>by lia) ⟨T,by unfold turns;lia,by rw[vd,eT];exact e⟩;simpa[I] using this
def Own.lay(k:Own m Z G)(e1:(P m h n').j=j)(e2:Z[j]?=some none)(e3:∀q,q<n'->OcO Z (P m h q).j) :
 Own m (Z.setIfInBounds j (some G.length)) (G++[h]):=by
 have lj:j<Z.size:=(jg.mp e2).1
 have get:∀q:Nat,(Z.setIfInBounds j (some G.length))[q]?=if j=q then some (some G.length) else Z[q]?:=λq=>by rw[Array.getElem?_setIfInBounds];split<;>simp_all
 have U:∀q,OcO Z q->OcO (Z.setIfInBounds j (some G.length)) q:=λq ⟨i,e⟩=>by refine⟨i,?_⟩;rw[get,bj (λh=>by subst h;rw[e2] at e;cases e)];exact e
 refine⟨by simp[k.siz],?_,λq i e=>?_,λq q' i e R=>?_,λi h' e=>?_⟩
 .rw[Array.toList_setIfInBounds,List.countP_set (by simpa using lj),k.cnt]
  have:Z.toList[j]'(by simpa using lj)=none:=by have:=(jg.mp e2).2;simpa using this
  rw[this];simp
 .rw[get] at e
  split at e
  .cases e;simp
  .have:=k.lt q i e;simp;exact A_ (e_ this)
 .rw[get] at e R
  split at e<;>split at R
  .lia
  .cases e;have:=k.lt _ _ R;lia
  .cases R;have:=k.lt _ _ e;lia
  .exact k.inj q q' i e R
 .by_cases l:i<G.length
  .rw[gm l] at e
   obtain⟨j',n,a,b,c⟩:=k.at' i h' e;refine⟨j',n,?_,b,λq l=>U _ (c q l)⟩;rw[get,bj (λh=>by subst h;rw[e2] at a;cases a)];exact a
  .have hi:i=G.length:=by
    have:=(ak.mp e).1;simp at this;exact u_ (z_ this) (s_ l)
   subst hi;simp at e;subst e;exact⟨j,n',by rw[get,bh rfl],e1,λq l=>U _ (e3 q l)⟩
theorem acb{m:Nat}(hm:Msk m):∀(Z G:X9)(R:Array (Option Nat)),Own m R G->G.length+Z.length<=m+1 ->
 ∃U,Z.foldl (λqq h=>do
  let (owner,k) <- qq
  let j <- layClean.free m owner (turns m) (bits h%(m+1)) (bits h)
  pure (owner.setIfInBounds j (some k),k+1)) (some (R,G.length))=some (U,G.length+Z.length)/\Own m U (G++Z)
 |[],G,R,k,_=>⟨R,rfl,by simpa using k⟩
 |h::Z,G,R,k,l=>by
  obtain⟨j,n',e0,e1,e2,e3⟩:=k.free hm (by simp at l;lia) h;have k':=k.lay e1 e2 e3;obtain⟨U,a,b⟩:=acb hm Z (G++[h]) _ k' (by simp at l ⊢;lia);refine⟨U,?_,by simpa using b⟩;rw[List.foldl_cons];have:(do
   let (owner,k) <- some (R,G.length)
   let j <- layClean.free m owner (turns m) (bits h%(m+1)) (bits h)
   pure (owner.setIfInBounds j (some k),k+1))=some (R.setIfInBounds j (some G.length),(G++[h]).length):=by
   show(layClean.free m R (turns m) (bits h%(m+1)) (bits h) >>= _)=_;rw[e0];simp
  rw[this,a]
  simp;lia
def ag1(U:Msk m)(G:Array Int)(l:G.size<=m+1):∃Z,layClean m G=some Z/\Own m Z G.toList:=by have R:Own m (Array.replicate (m+1) none) []:=⟨by simp,by simp,λj i e=>by simp[Array.getElem?_replicate] at e,λj j' i e=>by simp[Array.getElem?_replicate] at e,λi h e=>by simp at e⟩;obtain⟨Z,a,b⟩:=acb U G.toList [] _ R (by simpa using l);refine⟨Z,?_,by simpa using b⟩;unfold layClean;rw[<- Array.foldl_toList];exact(o4 (Option.map (·.1)) a).trans rfl
noncomputable def lv(m:Nat)(Z:Array (Option Nat)):List (Nat×Nat):=(List.range (m+1)).filterMap λj=>(Z.getD j none).map (j,·)
def Lf(k:Own m Z hs):(j,i)∈lv m Z↔Z[j]?=some (some i):=by
 unfold lv;rw[List.mem_filterMap];constructor
 .rintro⟨q,a,b⟩
  obtain⟨R,G,U⟩:=bx.mp b;cases U;have:j<Z.size:=by rw[k.siz];exact km.mp a
  simp[Array.getD,this] at G;simp[this,G]
 .intro e
  have l:=(jg.mp e).1;refine⟨j,km.mpr (by rw[<- k.siz];exact l),?_⟩;have:Z.getD j none=some i:=by simp[Array.getD,l,(jg.mp e).2]
  rw[this];rfl
def ag2(m:Nat)(R:Array (Option Nat)):(lv m R).Pairwise λa b=>a.1<b.1:=by unfold lv;refine List.Pairwise.filterMap _ (λa a' U b G b' Z=>?_) List.pairwise_lt_range;obtain⟨_,_,rfl⟩:=bx.mp G;obtain⟨_,_,rfl⟩:=bx.mp Z;exact U
def alr(k:Own m G U):((lv m G).map (·.2)).Perm (List.range U.length):=by
 refine(List.perm_ext_iff_of_nodup ?_ List.nodup_range).mpr λi=>?_
 .rw[List.nodup_iff_pairwise_ne,List.pairwise_map]
  refine(ag2 m G).imp_of_mem fun{a b} Z hb Ik e=>?_
  have:=k.inj a.1 b.1 a.2 ((Lf k).mp Z) (by rw[e];exact(Lf k).mp hb);exact l_ Ik (g_ this)
 .rw[dq,km]
  constructor
  .rintro⟨a,Z,rfl⟩;exact k.lt _ _ ((Lf k).mp Z)
  .intro l
   obtain⟨j,n,a,_⟩:=k.at' i _ (dm l);exact⟨(j,i),(Lf k).mpr a,rfl⟩
theorem ag3{G U:Type}{g:G->Option U}:∀{l:List G},(∀x∈l,(g x).isSome=true)->∀q:Nat,(l.filterMap g)[q]?=l[q]?.bind g
 |[],_,q=>by simp
 |x::l,h,q=>by
  have Z:=h x (bz ..);obtain⟨y,e⟩:=jx.mp Z;rw[List.filterMap_cons_some e];cases q with
  |zero=>simp[e]|succ q=>simpa using ag3 (λx Z=>h x (bu _ Z)) q
def als(hm:Msk m)(fg mv:Nat)(ld pl:Bool)(G:Array (Int×Value))(l:G.size<=m) :
 ∃t Z,laid m fg mv ld pl (G.map (·.1))=some (t,Z)/\t.mask=m/\Vu t (Z.filterMap (G[·]?))/\(Z.filterMap (G[·]?)).toList.Perm G.toList/\(Z.filterMap (G[·]?)).size=G.size
 /\t.led=ld/\t.plain=pl/\t.finger=fg/\Z.toList.Perm (List.range G.size):=by
 obtain⟨U,e,k⟩:=ag1 hm (G.map (·.1)) (by simp;exact a_ l x_);have Ui:=alr k;simp at Ui;have qq:(lv m U).length=G.size:=by have:=Ui.length_eq;simpa using this
 have qk:((((lv m U).map (·.2)).toArray).filterMap (G[·]?)).size=G.size:=by have:=(Ui.filterMap (G[·]?)).length_eq;rw[filterMap_getElem?_range] at this;rw[<- ql,Array.toList_filterMap,this];simp
 refine⟨{ mask:=m,place:=((lv m U).map (·.1)).toArray,dummies:=#[],finger:=fg,led:=ld,moves:=mv,plain:=pl },((lv m U).map (·.2)).toArray,?_,rfl,?_,?_,?_,rfl,rfl,rfl,Ui⟩
 .unfold laid;rw[e];rfl
 .have q0:∀x∈(lv m U).map (·.2),(G[x]?).isSome=true:=λx hx=>by
   have:=km.mp (Ui.mem_iff.mp hx)
   simp;exact this
  have get:∀q:Nat,((((lv m U).map (·.2)).toArray).filterMap (G[·]?))[q]?=((lv m U)[q]?).bind λa=>G[a.2]?:=λq=>by rw[<- nu,Array.toList_filterMap,ag3 q0,ig];cases(lv m U)[q]?<;>rfl
  have R:∀q j:Nat,(((lv m U).map (·.1)).toArray)[q]?=some j↔∃i,(lv m U)[q]?=some (j,i):=λq j=>by
   simp only[List.getElem?_toArray,ig,bx];constructor
   .rintro⟨a,h,rfl⟩;exact⟨a.2,h⟩
   .rintro⟨i,h⟩;exact⟨_,h,rfl⟩
  refine⟨hm,rfl,?_,?_,?_,?_,?_⟩
  .show(((lv m U).map (·.1)).toArray).size=_
   rw[qk];simp[qq]
  .intro i j a b ea eb lt
   obtain⟨i1,e1⟩:=(R i a).mp ea;obtain⟨i2,e2⟩:=(R j b).mp eb;obtain⟨l1,g1⟩:=ak.mp e1;obtain⟨l2,g2⟩:=ak.mp e2;have:=List.pairwise_iff_getElem.mp (ag2 m U) i j l1 l2 lt;rw[g1,g2] at this;exact this
  .intro i j e
   obtain⟨i1,e1⟩:=(R i j).mp e;have:=(Lf k).mp (bf e1);have:=(jg.mp this).1;rw[k.siz] at this;show j<=m
   exact z_ this
  .show(((lv m U).map (·.1)).toArray).size<=m
   simp[qq];exact l
  .intro q j e' hp he
   obtain⟨i,e1⟩:=(R q j).mp hp;rw[get,e1] at he;have he:G[i]?=some e':=he;obtain⟨j',n,a,b,c⟩:=k.at' i e'.1 (by simp[he]);have hj:=k.inj j j' i ((Lf k).mp (bf e1)) a;subst hj;refine⟨n,b,λw lw=>?_⟩;obtain⟨i',qv⟩:=c w lw;obtain⟨z,hz⟩:=iy.mp ((Lf k).mpr qv);exact⟨z,(R z _).mpr ⟨i',hz⟩⟩
 .rw[Array.toList_filterMap]
  have:=Ui.filterMap (G[·]?);rw[filterMap_getElem?_range] at this;exact this
 .exact qk
def ae9:∀n,n<32->Msk (sizeAbove (grown n)-1)/\n<=sizeAbove (grown n)-1/\n+1<=sizeAbove (grown n)-1/\¬(n*5 >= (sizeAbove (grown n)-1)*3)/\sizeAbove (grown n)<=128:=by unfold Msk;decide+kernel
section
variable{prog:Program}{w:World}{K:Type}[DecidableEq K]{knd:KeyKind prog w K}{A:Around}{E:Y1}{s:Shared}
def aan(n:Nat)(h:carriedByValue v=true):ofAClassStatement n v=pure false:=by cases v<;>first|(simp[carriedByValue] at h;done)|(unfold ofAClassStatement;rfl)
def Q4(hk:IsTupleKey knd s.heap ks a)(h:Q false s):wpAny (model prog w) A (ofAClassStatement 8 (.ref a)) Q E s:=by
 have hT:=hk.typeIs;obtain⟨o,G,n,ho,_,hd,hi⟩:=hk;unfold ofAClassStatement;refine aa (wpAny_typeOf hT ?_);show wpAny _ _ (if("tuple"=="tuple")=true then _ else _) _ _ s;rw[bh (by decide)];refine aa (aj ?_);simp only[Bool.not_true,d9,jj];refine aa (m6 ho hd ?_);refine aa ?_;show wpAny _ _ (forIn G _ _) _ _ s;rw[<- Array.forIn_toList];refine uq _ (λZ r U=>r.1=none/\U=s/\∀v∈Z,carriedByValue v=true) _ ?_ ?_ _ _ ⟨rfl,rfl,hi.byValue⟩
 .rintro v Z r U ⟨R,rfl,Ld⟩
  rw[aan _ (Ld v bz)];refine aa (aj ?_);simp only[d9,jj];exact aj ⟨rfl,rfl,λu qq=>Ld u (bu _ qq)⟩
 .rintro⟨r1,r2⟩ U ⟨R,rfl,_⟩
  simp only at R;subst R;exact aj h
def ag4(hk:IsTupleKey knd s.heap ks a)(hs:∀v∈st,∃ks b,v=.ref b/\IsTupleKey knd s.heap ks b)(h:Q false s) :
 wpAny (model prog w) A (searchCouldBeSeen (.ref a) st) Q E s:=by
 unfold searchCouldBeSeen;refine aa ?_;refine uq _ (λZ r U=>r.1=none/\U=s/\∀v∈Z,∃ks b,v=.ref b/\IsTupleKey knd s.heap ks b) _ ?_ ?_ _ _ ⟨rfl,rfl,hs⟩
 .rintro v Z r U ⟨R,rfl,Ld⟩
  obtain⟨qq,b,rfl,hb⟩:=Ld v bz;have G:∀v∈Z,∃ks b,v=.ref b/\IsTupleKey knd U.heap ks b:=λv hv=>Ld v (bu _ hv)
  dsimp only;split
  .exact aj ⟨rfl,rfl,G⟩
  .refine aa (wpAny_eqIsQuiet_tuple hk ?_)
   simp only[Bool.not_true,d9,jj];refine aa (wpAny_eqIsQuiet_tuple hb ?_);simp only[Bool.not_true,d9,jj];refine aa (Q4 hk ?_);simp only[d9,jj];refine aa (Q4 hb ?_);simp only[d9,jj];exact aj ⟨rfl,rfl,G⟩
 .rintro⟨r1,r2⟩ U ⟨R,rfl,_⟩
  simp only at R;subst R;exact aj h
def ent(knd:KeyKind prog w K)(x:List K×Addr):Int×Value:=(tupleKeyHash knd x.1,.ref x.2)
def aao{G:Array (Int×Value)}{Z:List (List K×Addr)}(U:G.toList=Z.map (ent knd))(j:Nat):G[j]?=(Z[j]?).map (ent knd):=by rw[<- nu,U,ig]
def afa{xs:List (List K×Addr)}(hu:A.units<cLine)(hk:IsTupleKey knd s.heap k p)(ho:s.heap.get? a=some o)(hd:o.data=.set es ep t)(T:Vu t es)(he:es.toList=xs.map (ent knd))(hx:∀x∈xs,IsTupleKey knd s.heap x.1 x.2)(hn:(xs.map (·.1)).Nodup)(F:Fst t (tupleKeyHash knd k) N)(z0:∀(i:Nat) x,xs[i]?=some x->x.1=k->Q (.there (if adding then none else some i)) s)(zz:(∀x∈xs,x.1≠k)->Q (.free (P t.mask (tupleKeyHash knd k) N).j false) s) :
 ∀(G n:Nat)(st:Option Probe),n<=N->N-n<G->st.getD (t.probeStart (tupleKeyHash knd k))=P t.mask (tupleKeyHash knd k) n ->
  (∀m,m<n->∀(i:Nat) x,t.place[i]?=some (P t.mask (tupleKeyHash knd k) m).j->xs[i]?=some x->x.1≠k) ->
  wpAny (model prog w) A (setSearchFrom a (.ref p) (tupleKeyHash knd k) adding G st) Q E s:=by
 intro G
 induction G with
 |zero=>intro n st _ l;omega
 |succ G ih =>
  intro n st zk l z2 q2;unfold setSearchFrom;refine aa (wpAny_setState_of ho hd T.fits ?_);dsimp only;rw[T.way,z2];simp only[d9,jj];have q6:=ag0 T F (λi=>(es[i]?.map (·.1)).getD 0) (10*turns t.mask) n zk (by have:=F.lt;exact c_ C_ this);generalize qq:t.probe _ (tupleKeyHash knd k) (P t.mask (tupleKeyHash knd k) n)=pr;have qq:t.probe (λi=>(es[i]?.map (·.1)).getD 0) (tupleKeyHash knd k) (P t.mask (tupleKeyHash knd k) n)=pr:=qq;have atI:∀(i j:Nat),t.place[i]?=some j->∃x,xs[i]?=some x/\es[i]?=some (ent knd x):=λi j e=>by
   have li:i<es.size:=by rw[<- T.siz];exact(jg.mp e).1
   have lx:i<xs.length:=by have:=o4 List.length he;simp at this;exact b_ li (f_ this)
   refine⟨xs[i],by simp[lx],?_⟩;rw[aao he];simp[lx]
  rcases q6 with⟨e,zw⟩|⟨m,i,h1,h2,h3,h4,h5,e⟩
  .have e:pr=_:=qq.symm.trans e
   subst e;dsimp only;refine aj (zz λx q7 Z=>?_);obtain⟨i,hi⟩:=iy.mp q7;have U:es[i]?=some (ent knd x):=by rw[aao he,hi];rfl
   obtain⟨m,lm,hp⟩:=T.ahead F U (by unfold ent;rw[Z])
   by_cases q3:m<n
   .exact q2 m q3 i x hp hi Z
   .refine zw m (s_ q3) lm i hp ?_
    rw[U];show tupleKeyHash knd x.1=_;rw[Z]
  .have e:pr=_:=qq.symm.trans e
   subst e;dsimp only;obtain⟨x,q1,U⟩:=atI i _ h3;have z3:=hx x (bf q1);have q4:∀{R:Bool->Shared->Prop},R false s->wpAny (model prog w) A (searchCouldBeSeen (.ref p) ((es.filter (·.1==tupleKeyHash knd k)).toList.map (·.2))) R E s:=λhR=>ag4 hk (λv hv=>by
    obtain⟨y,hy,rfl⟩:=dq.mp hv;have q5:y∈es.toList:=by simp at hy;simpa using hy.1
    rw[he] at q5;obtain⟨z,hz,rfl⟩:=dq.mp q5;exact⟨z.1,z.2,rfl,hx z hz⟩) hR
   rcases Bool.eq_false_or_eq_true t.led with axb|axb
   all_goals
    simp only[axb,Bool.not_true,Bool.not_false,d9,jj,j6]
    first
    |(rw[U];show wpAny _ _ (holding [.ref x.2] (eqBool (.ref x.2) (.ref p)) >>= _) _ _ _)
    |(refine aa (q4 ?_);simp only[d9,jj];rw[U];show wpAny _ _ (holding [.ref x.2] (eqBool (.ref x.2) (.ref p)) >>= _) _ _ _)
    refine aa (jf (wpAny_eqBool_tuple hu z3 hk ?_));refine aa (wpAny_setState_of ho hd T.fits ?_);dsimp only;have q9:t.sameMemory t.moves t.mask=some true:=by unfold sameMemory;simp
    rw[q9];dsimp only;rw[bh rfl,(Od T.srt).mpr h3];dsimp only;rw[U]
    by_cases Z:x.1=k
    .have q0:decide (x.1=k)=true:=by simp[Z]
     rw[q0];have hq:=z0 i x q1 Z;cases adding
     .simp only[Bool.false_and,d9,jj]
      refine aa (wpAny_isSame_ref_self ?_);refine aa (aj ?_);simpa using aj hq
     .simp only[Bool.and_self,j6]
      exact aj hq
    .have q0:decide (x.1=k)=false:=by simp[Z]
     rw[q0];simp only[Bool.and_false,d9,jj];refine aa (wpAny_isSame_ref_self ?_);refine aa (aj ?_);simp only[j6];refine ih (m+1) _ h2 (by lia) rfl λm' z4 i' x' qv qk=>?_
     by_cases hc:m'<n
     .exact q2 m' hc i' x' qv qk
     .by_cases hm:m'=m
      .subst hm
       have ei:i'=i:=by rw[<- below_at T.srt qv,<- below_at T.srt h3]
       subst ei;rw[q1] at qk;cases qk;exact Z
      .intro zv
       have z1:es[i']?=some (ent knd x'):=by rw[aao he,qk];rfl
       refine h5 m' (s_ hc) (by lia) i' qv ?_;rw[z1];show tupleKeyHash knd x'.1=_;rw[zv]
end
section
variable{prog:Program}{w:World}{K:Type}[DecidableEq K]{knd:KeyKind prog w K}{pk:List K×Addr->Prop}{A:Around}{E:Y1}{s:Shared}
noncomputable abbrev bt(w:World):Bool:=w.params.followText "set-order"
def a2e(h:Q (bt w) s):wpAny (model prog w) A setsByText Q E s:=by unfold setsByText;exact aa (wpAny_askSetting (aj h))
structure alw(knd:KeyKind prog w K)(pk:List K×Addr->Prop)(h:Heap)(a:Addr)(xs:List (List K×Addr))(o:Obj)(es:Array (Int×Value))(ep:Nat)(t:SetTable):Prop where
 get:h.get? a=some o
 exa:o.ExactSet
 dat:o.data=.set es ep t
 tab:Vu t es
 ent:es.toList=xs.map (ent knd)
 keys:∀x∈xs,IsTupleKey knd h x.1 x.2/\pk x
 nod:(xs.map (·.1)).Nodup
 led:t.led=!bt w
 pla:t.plain=true
def Q5(knd:KeyKind prog w K)(pk:List K×Addr->Prop)(h:Heap)(a:Addr)(S:List K->Prop)(n:Nat):Prop:=∃Z o G U t,alw knd pk h a Z o G U t/\(∀k,S k↔k∈Z.map (·.1))/\Z.length=n/\t.place.size*5<t.mask*3
theorem alw.size(X:alw knd pk h a Z o es G t):es.size=Z.length:=by have:=o4 List.length X.ent;simpa using this
def arj(p:Addr)(Z:Array (Int×Value)):byScan (.ref p) Z=false:=by unfold byScan;simp[Value.scannable]
def ag5(h:Msk m):10*turns m<100000:=by rcases h with rfl|rfl|rfl|rfl|rfl<;>decide
def aap(R:A.units<cLine)(hk:IsTupleKey knd s.heap k p)(X:alw knd pk s.heap a U o es ep t)(F:Fst t (tupleKeyHash knd k) N)(Z:∀(i:Nat) x,U[i]?=some x->x.1=k->Q (.there (if adding then none else some i)) s)(G:(∀x∈U,x.1≠k)->Q (.free (P t.mask (tupleKeyHash knd k) N).j false) s) :
 wpAny (model prog w) A (setSearch a (.ref p) (tupleKeyHash knd k) adding) Q E s:=by
 unfold setSearch;exact afa R hk X.get X.dat X.tab X.ent (λx hx=>(X.keys x hx).1) X.nod F Z G 100000 0 none (ie _) (by have:=F.lt;have:=ag5 X.tab.msk;lia) (Xw _ _) (λm l=>by lia)
def a2g(hu:A.units<cLine)(hk:IsTupleKey knd s.heap k p)(R:Q5 knd pk s.heap a S n)(h:∀r:Option Nat,(r.isSome=true↔S k)->Q r s):wpAny (model prog w) A (setFind a (.ref p) (tupleKeyHash knd k)) Q E s:=by
 obtain⟨xs,o,es,ep,t,X,U,_,_⟩:=R;obtain⟨N,F⟩:=X.tab.fst (tupleKeyHash knd k);unfold setFind setFindIn;refine aa (wpAny_setState_of X.get X.dat X.tab.fits ?_);dsimp only;rw[arj];simp only[d9,jj];refine aa (aap hu hk X F (λi x hi Z=>?_) (λG=>?_))
 .simp only[d9,jj]
  exact aj (h _ (by simp;exact(U k).mpr (dq.mpr ⟨x,bf hi,Z⟩)))
 .dsimp only
  refine aj (h _ ?_);simp only[Option.isSome_none,d9,false_iff];intro hs;obtain⟨x,Z,e⟩:=dq.mp ((U k).mp hs);exact G x Z e
end
def Ma{α β:Type}{f:α->β}:∀{l l':List β},l.Perm l'->∀{xs:List α},l'=xs.map f->∃Z:List α,l=Z.map f/\Z.Perm xs:=by
 intro l l' p
 induction p with
 |nil=>intro xs e;cases xs with
  |nil=>exact⟨[],rfl,.nil⟩|cons _ _=>cases e
 |cons a p ih =>
  intro xs e;cases xs with
  |nil=>cases e
  |cons x xs =>
   simp only[cz,List.cons.injEq] at e;obtain⟨Z,e1,U⟩:=ih e.2;exact⟨x::Z,by simp[e1,e.1],U.cons x⟩
 |swap a b l =>
  intro xs e
  match xs,e with
  |x::y::xs,e =>
   simp only[cz,List.cons.injEq] at e;obtain⟨rfl,rfl,rfl⟩:=e;exact⟨y::x::xs,rfl,.swap x y xs⟩
 |trans p q G R =>
  intro xs e;obtain⟨ys,e1,U⟩:=R e;obtain⟨zs,e2,p2⟩:=G e1;exact⟨zs,e2,p2.trans U⟩
section
variable{prog:Program}{w:World}{K:Type}[DecidableEq K]{knd:KeyKind prog w K}{pk:List K×Addr->Prop}{A:Around}{E:Y1}{s:Shared}
def Uj(h:n<=128):n<=sizeLine:=by rw[sizeLine_eq];exact a_ h (by decide)
end
section
variable{prog:Program}{w:World}{K:Type}[DecidableEq K]{knd:KeyKind prog w K}{pk:List K×Addr->Prop}{A:Around}{E:Y1}{s:Shared}
def Ge(Z:s.TypeIs v T)(U:isSubtype (.type T) (.type "set")=pure false)(G:isSubtype (.type T) (.type "frozenset")=pure false)(h:Q false s) :
 wpAny (model prog w) A (Builtin.Frozenset.isAnySet v) Q E s:=by
 unfold Builtin.Frozenset.isAnySet;refine aa (o5 Z U ?_);exact o5 Z G h
def baq(Z:s.TypeIs v "set")(h:Q true s):wpAny (model prog w) A (Builtin.Frozenset.isAnySet v) Q E s:=by unfold Builtin.Frozenset.isAnySet;refine aa (o5 Z sub_set_self ?_);exact aj h
def Ab(w:World):Obj:={ cls:=.type "set",dict:=none,data:=.set #[] 0 (.fresh 0 0 (!bt w)) }
theorem Q5.get(U:Q5 knd pk h a S n):∃o Z G t,h.get? a=some o/\o.ExactSet/\o.data=.set Z G t/\t.fits Z.size=true :=
 let ⟨_,o,Z,G,t,X,_⟩:=U;⟨o,Z,G,t,X.get,X.exa,X.dat,X.tab.fits⟩
def Q5.typeIs(Z:Q5 knd pk s.heap a S n):s.TypeIs (.ref a) "set" :=
 let ⟨o,_,_,_,ho,hc,_⟩:=Z.get;⟨o,ho,hc.1⟩
def Q5.congr(Z:Q5 knd pk h a S n)(e:∀k,S k↔G k):Q5 knd pk h a G n :=
 let ⟨xs,o,es,ep,t,X,hm,r⟩:=Z;⟨xs,o,es,ep,t,X,λk=>(e k).symm.trans (hm k),r⟩
end
section
variable{prog:Program}{w:World}{K:Type}[DecidableEq K]{knd:KeyKind prog w K}{pk:List K×Addr->Prop}{A:Around}{E:Y1}{s:Shared}
def alx(Z:R (.ref s.heap.objs.size) { s with heap:=s.heap.push (Ab w) }) :
 codeAny (model prog w) A (.call (.builtin "set.__new__") ⟨[.type "set",v],[]⟩) (wants R E) s:=by
 refine codeAny_call_builtin F.plain_set_new F.entry_set_new (wpAny_of_eq (F.newCall_set_1 v) ?_);have G:=sub_set_self;unfold Builtin.«set.__new__» Builtin.Frozenset.newClass
 wp_walk
 exact wpAny_askSetting (aj (aa (wpAny_alloc (aj (aj Z)))))
set_option maxHeartbeats 3200000 in
def O3{R:Shared->Prop}(qk:wpAny (model prog w) A.in1.in1 (Builtin.Frozenset.updateFrom "set.__init__" s.heap.objs.size x) (λ_ s'=>R s') E { s with heap:=s.heap.push (Ab w) })(h:∀s',R s'->Q (.ref s.heap.objs.size) s') :
 wpAny (model prog w) A (call (.type "set") [x]) Q E s:=by
 obtain⟨c,tl,q5⟩:=qb.mro;have q4:=qb.made;have q1:=qb.sub;refine wpAny_call (codeAny_of_tree ?_);show wpAny _ _ (callAny (.type "set") _) _ _ _;refine aj ⟨Code.quiet_builtin _ (by decide+kernel),codeAny_builtin F.entry_type_call ?_⟩;rw[Around.under_plain (weight_type_call_type "set" [x] []) rfl];have h1:=qb.notType;have h2:=qb.canCreate;have q0:=F.typeCall_set_1 x
 repeat (any_goals (first|assumption|wp_step))
 refine codeAny_mono (alx (v:=x) (E:=E) (R:=λobj U=>obj=.ref s.heap.objs.size/\U={ s with heap:=s.heap.push (Ab w) }) ⟨rfl,rfl⟩) λr U hr=>?_
 cases r with
 |error e=>exact hr
 |ok fl =>
  cases fl with
  |ret obj =>
   obtain⟨rfl,rfl⟩:=hr;have hS:(s.heap.push (Ab w)).get? s.heap.objs.size=some (Ab w):=bc _ rfl;have hT:Shared.TypeIs { s with heap:=s.heap.push (Ab w) } (.ref s.heap.objs.size) "set" := ⟨_,hS,rfl⟩;have q2:=qb.init.lookup;have q3:=qb.init.bind (.ref s.heap.objs.size)
   repeat (any_goals (first|assumption|wp_step))
   refine codeAny_mono (codeAny_call_builtin (R:=wants (λr G=>r=.none/\R G) E) qb.init.plain F.entry_set_init (check_set_init_1 hT ?_)) λqv G Z=>?_
   .unfold Builtin.«set.__init__» noKeywords
    generalize hUF:Builtin.Frozenset.updateFrom=UF at qk ⊢;unfold Ab at hS hT qk ⊢
    wp_walk
    exact my qk (λ_ s' hr=>aj ⟨rfl,hr⟩) (λe s' he=>he)
   .cases qv with
    |error e=>exact Z
    |ok qq =>
     cases qq with
     |ret r =>
      obtain⟨rfl,hq⟩:=Z
      repeat (any_goals (first|assumption|wp_step))
      exact h _ hq
     |_=>exact Z.elim
  |_=>exact hr.elim
end
open PyProof.Rows (F.entry_set_update_loop F.plain_set_update_loop)
section
variable{prog:Program}{w:World}{K:Type}[DecidableEq K]{knd:KeyKind prog w K}{pk:List K×Addr->Prop}{A:Around}{E:Y1}{s:Shared}
def afb{Z:X1}(U:IsTupleKey knd h ks p)(hp:p∉Z)(G:∀b o,b∉Z->h.get? b=some o->R.get? b=some o):IsTupleKey knd R ks p :=
 let ⟨o,items,n,ho,r⟩:=U;⟨o,items,n,G p o hp ho,r⟩
def Q5.moved{G:X1}(R:Q5 knd pk h a S n)(ha:a∉G)(hw:∀(b:Addr) (ks:List K),b∈G->¬IsTupleKey knd h ks b)(U:∀b o,b∉G->h.get? b=some o->h'.get? b=some o):Q5 knd pk h' a S n :=
 let ⟨xs,o,es,ep,t,X,r⟩:=R
 ⟨xs,o,es,ep,t,⟨U a o ha X.get,X.exa,X.dat,X.tab,X.ent,λx Z=>⟨afb (X.keys x Z).1 (λhc=>hw _ _ hc (X.keys x Z).1) U,(X.keys x Z).2⟩,X.nod,X.led,X.pla⟩,r⟩
end
def aly(k:Vu t es)(F:Fst t h N)(room:t.place.size+1<=t.mask) :
 layNew t es h x=(insertAt es (t.put (P t.mask h N).j).2 (h,x),(t.put (P t.mask h N).j).1,false,false):=by
 have e:t.freeSlot h=some ((P t.mask h N).j,false):=by
  unfold freeSlot probe;rw[Xw];rcases ag0 k F (λ_=>h+1) (10*turns t.mask) 0 (ie _) (by have:=F.lt;exact c_ C_ this) with⟨a,_⟩|⟨m,i,_,_,_,c,_⟩
  .rw[a];rfl
  .lia
 have f:=(k.put (x:=x) F room).fits;unfold layNew;rw[e];show(insertAt es (t.put (P t.mask h N).j).2 (h,x),(t.put (P t.mask h N).j).1.orStandIn (insertAt es (t.put (P t.mask h N).j).2 (h,x)).size,false,!(t.put (P t.mask h N).j).1.fits (insertAt es (t.put (P t.mask h N).j).2 (h,x)).size)=_;unfold orStandIn;rw[bh f,f];rfl
def afc(hm:Msk (sizeAbove wanted-1))(hz:es.size<=sizeAbove wanted-1) :
 ∃G t',relayAll t es wanted=(G,t',false)/\t'.mask=sizeAbove wanted-1/\Vu t' G/\G.toList.Perm es.toList/\t'.led=t.led/\t'.plain=t.plain:=by
 obtain⟨t',Z,e,e1,R,p,sz,hl,hp,_,U⟩:=als hm t.finger (t.movedTo (sizeAbove wanted-1)) t.led t.plain es hz;have er:t.relaid (es.map (·.1)) wanted=some (t',Z):=e;refine⟨Z.filterMap (es[·]?),t',?_,e1,R,p,hl,hp⟩;unfold relayAll;rw[er];dsimp only;rw[bh];rw[aq];exact⟨by unfold coversAll;exact List.isPerm_iff.mpr U,R.fits⟩
noncomputable def enI(x:Int×Tok):Int×Value:=(hashInt x.1,.int x.1 x.2)
structure aaq(w:World)(h:Heap)(a:Addr)(xs:List (Int×Tok))(o:Obj)(es:Array (Int×Value))(ep:Nat)(t:SetTable):Prop where
 get:h.get? a=some o
 exa:o.ExactSet
 dat:o.data=.set es ep t
 tab:Vu t es
 ent:es.toList=xs.map enI
 nod:(xs.map (·.1)).Nodup
 led:t.led=!bt w
 pla:t.plain=true
def zm(w:World)(h:Heap)(a:Addr)(S:Int->Prop)(n:Nat):Prop:=∃Z o G U t,aaq w h a Z o G U t/\(∀k,S k↔k∈Z.map (·.1))/\Z.length=n/\t.place.size*5<t.mask*3
theorem aaq.size(X:aaq w h a Z o es G t):es.size=Z.length:=by have:=o4 List.length X.ent;simpa using this
def aaq.elems(X:aaq w h a G o es U t):ElemsOf (intKind prog w) es.toList:=λe Z=>by rw[X.ent] at Z;obtain⟨x,_,rfl⟩:=dq.mp Z;exact⟨⟨x.1,by simp[enI,intKind,Value.isInt],rfl⟩,rfl⟩
def axc(X:aaq w h a xs o es U t)(T':Vu t' Z)(he:Z.toList=G.map enI)(hn:(G.map (·.1)).Nodup)(hl:t'.led=!bt w)(hp:t'.plain=true) :
 aaq w (h.update a (Obj.putSet Z t')) a G { o with data:=.set Z (U+1) t' } Z (U+1) t':=by
 have R:(h.update a (Obj.putSet Z t')).get? a=some { o with data:=.set Z (U+1) t' }:=by have:=lr (Obj.putSet Z t') X.get (by rw[putSet_of Z t' X.dat];rfl);rw[putSet_of Z t' X.dat] at this;exact this
 exact⟨R,X.exa,rfl,T',he,hn,hl,hp⟩
theorem zm.get(U:zm w h a S n):∃o Z G t,h.get? a=some o/\o.ExactSet/\o.data=.set Z G t/\t.fits Z.size=true :=
 let ⟨_,o,Z,G,t,X,_⟩:=U;⟨o,Z,G,t,X.get,X.exa,X.dat,X.tab.fits⟩
theorem Q6:∀{a b:X9},a.Nodup->(∀x∈a,x∈b)->a.length<=b.length
 |[],_,_,_=>ie _
 |x::a,b,h,s=>by
  obtain⟨U,G⟩:=o8.mp h;have:=Q6 (b:=b.erase x) G λy Z=>(List.mem_erase_of_ne (λe:y=x=>U (e▸Z))).mpr (s y (.tail _ Z))
  rw[List.length_erase_of_mem (s x (.head _))] at this;have:=List.length_pos_of_mem (s x (.head _));rw[d7];lia
def zm.le(Z:zm w h a S n){B:X9}(G:∀k,S k->k∈B):n<=B.length:=by obtain⟨xs,o,es,ep,t,X,U,rfl,_⟩:=Z;rw[<- dg (f:=(·.1))];exact Q6 X.nod λk R=>G k ((U k).mpr R)
def zm.congr(Z:zm w h a S n)(e:∀k,S k↔G k):zm w h a G n :=
 let ⟨xs,o,es,ep,t,X,hm,r⟩:=Z;⟨xs,o,es,ep,t,X,λk=>(e k).symm.trans (hm k),r⟩
def zm.moved(Z:zm w h a S n)(G:∀o,h.get? a=some o->U.get? a=some o):zm w U a S n :=
 let ⟨xs,o,es,ep,t,X,r⟩:=Z
 ⟨xs,o,es,ep,t,⟨G o X.get,X.exa,X.dat,X.tab,X.ent,X.nod,X.led,X.pla⟩,r⟩
def Xy(Z:h.get? a=some (Ab w)):zm w h a (λ_=>False) 0 :=
 ⟨[],Ab w,#[],0,_,⟨Z,⟨rfl,rfl,rfl⟩,rfl,⟨.inl rfl,rfl,rfl,λi j a b e=>by simp[SetTable.fresh] at e,λi j e=>by simp[SetTable.fresh] at e,by simp[SetTable.fresh],λi j e a=>by simp[SetTable.fresh] at a⟩,
  rfl,List.nodup_nil,rfl,rfl⟩,λk=>by simp,rfl,by simp[SetTable.fresh]⟩
def alz(hS:zm w s.heap a S n)(hn:n+1<32)(h:∀h' n' b,Heap.SameBut a s.heap h'->zm w h' a (λU=>S U\/U=k) n'->n'<=n+1->Q b { s with heap:=h' }) :
 wpAny (model prog w) A (setAddHashed a (.int k R) (hashInt k)) Q E s:=by
 obtain⟨xs,o,G,ep,t,X,hm,hl,nf⟩:=hS;obtain⟨N,F⟩:=X.tab.fst (hashInt k);have zz:=X.size;have q4:=X.elems (prog:=prog);have z1:(intKind prog w).is k (.int k R)=true:=by simp[intKind,Value.isInt]
 unfold setAddHashed setAddHashedIn;refine jf (aa (wpAny_setState_of X.get X.dat X.tab.fits ?_));dsimp only;rw[byScan_of (knd:=intKind prog w) (x:=.int k R) rfl (by unfold scanBound;lia) q4];simp only[↓reduceIte];unfold setAddByScan;refine aa ?_;refine aa (qd ?_);refine aa (wpAny_setScan_of (knd:=intKind prog w) (k:=k) z1 X.get X.dat X.tab.fits q4 ?_);cases hr:List.findIdx? (λe=>(intKind prog w).is k e.2) G.toList with
 |some j =>
  dsimp only;obtain⟨hj,zk,_⟩:=List.findIdx?_eq_some_iff_getElem.mp hr;have z2:S k:=by
   obtain⟨x,hx,ex⟩:∃x∈xs,enI x=G.toList[j]:=by have Vw:=List.getElem_mem hj;generalize G.toList[j]=e at Vw;rw[X.ent] at Vw;exact dq.mp Vw
   have z4:(intKind prog w).is k (enI x).2=true:=by rw[ex];exact zk
   refine(hm k).mpr (dq.mpr ⟨x,hx,?_⟩);have:(intKind prog w).is x.1 (enI x).2=true:=by simp[enI,intKind,Value.isInt]
   exact(intKind prog w).inj _ _ _ this z4
  refine aj (aj ?_);have:=h s.heap n false (Heap.SameBut.refl a s.heap) ⟨xs,o,G,ep,t,X,λU=>by
   rw[<- hm U];exact⟨λh=>h.elim id (λe=>e▸z2),.inl⟩,hl,nf⟩ x_
  exact this
 |none =>
  dsimp only;have zw:∀x∈xs,x.1≠k:=λx hx e=>by have:=List.findIdx?_eq_none_iff.mp hr (enI x) (by rw[X.ent];exact dq.mpr ⟨x,hx,rfl⟩);subst e;simp[enI,intKind,Value.isInt] at this
  have room:t.place.size+1<=t.mask:=by have:=X.tab.msk;rcases this with e|e|e|e|e<;>lia
  have T':=X.tab.put (x:=.int k R) F room;rw[aly X.tab F room];have Kq:(t.put (P t.mask (hashInt k) N).j).1.plain=true:=X.pla;have q6:(t.put (P t.mask (hashInt k) N).j).1.led=!bt w:=X.led;obtain⟨qk,ex,px⟩:=Ma (f:=enI) (insertAt_perm G (t.put (P t.mask (hashInt k) N).j).2 (hashInt k,.int k R)) (xs:=xs++[(k,R)]) (by rw[Array.toList_push,X.ent,gr];rfl);have pm:=px.map (·.1);have q1:(qk.map (·.1)).Nodup:=pm.nodup_iff.mpr (by
   rw[gr,n6];refine⟨X.nod,by simp,λa ha b hb=>?_⟩;simp at hb;subst hb;rintro rfl;obtain⟨x,hx,e⟩:=dq.mp ha;exact zw x hx e)
  have hX:=axc X T' ex q1 q6 Kq;have Vw:∀U,(S U\/U=k)↔U∈qk.map (·.1):=λU=>by rw[pm.mem_iff,gr,cg,hm U];simp
  have qv:qk.length=n+1:=by rw[px.length_eq];simp[hl]
  have qq:(insertAt G (t.put (P t.mask (hashInt k) N).j).2 (hashInt k,Value.int k R)).size=G.size+1:=Ly _ _ _;have q3:(t.put (P t.mask (hashInt k) N).j).1.place.size=G.size+1:=by rw[T'.siz,qq]
  have hf:(t.put (P t.mask (hashInt k) N).j).1.fill=G.size+1:=by unfold fill;rw[q3,T'.dum];rfl
  generalize insertAt G (t.put (P t.mask (hashInt k) N).j).2 (hashInt k,Value.int k R)=es1 at *;generalize(t.put (P t.mask (hashInt k) N).j).1=t1 at *;dsimp only;refine aa (aj ?_);rw[Kq];simp only[j6];refine aa ?_;rw[hashByValue_scannable 8 (x:=.int k R) rfl];refine aj ?_;have q9:plainKind (.int k R)=true:=rfl;simp only[q9,j6];refine aa (wpAny_storeSet_of X.get X.dat ?_ (Uj (by lia)))
  by_cases Z:t1.tooFull=true
  .rw[Z]
   simp only[Bool.not_false,Bool.and_self,j6];obtain⟨g1,g2,g3,g4,g5⟩:=ae9 (G.size+1) (c_ (v_ (f_ zz)) (c_ (v_ (f_ hl)) hn));obtain⟨q7,t2,e2,m2,T2,p2,l2,q2⟩:=afc (t:=t1) (es:=es1) (wanted:=grown (G.size+1)) g1 (a_ (f_ qq) g2);rw[qq,e2];dsimp only;refine aa (aj ?_);obtain⟨z0,zv,q0⟩:=Ma p2 ex;have z3:=axc hX T2 zv ((q0.map _).nodup_iff.mpr q1) (l2.trans q6) (q2.trans Kq);have q5:q7.size=G.size+1:=by have:=p2.length_eq;simp at this;exact this.trans qq
   refine aa (wpAny_storeSet_of hX.get rfl ?_ (Uj (a_ (f_ q5) (a_ g2 (a_ C_ g5)))));refine aj (aj (h _ (n+1) true ((iw s.heap a _).trans (iw _ a _)) ⟨z0,_,q7,_,t2,z3,λU=>?_,by rw[q0.length_eq,qv],?_⟩ (az _)))
   .exact(Vw U).trans (q0.map (·.1)).mem_iff.symm
   .rw[T2.siz,m2,q5];exact t_ g4
  .rw[Bool.not_eq_true] at Z
   rw[Z];simp only[Bool.and_false,d9,jj];refine aj (aj (h _ (n+1) true (iw s.heap a _) ⟨qk,_,_,_,_,hX,Vw,qv,?_⟩ (az _)));unfold tooFull at Z;rw[hf] at Z;rw[q3];simp at Z;exact Z
def ag7{I:Addr}{P:Nat->Value->Prop}(W:WalksS prog w A.in1 I fp wr G n P St)(a:Addr)(q0:a∉fp)(ks:X9)(qv:ks.length=n)(zv:∀i v x,P i v->ks[i]?=some x->∃tk,v=.int x tk){B:X9}(hB:∀k∈ks,k∈B)(hb:B.length<31) :
 ∀(k i n':Nat)(s:Shared),n-i=k->i<=n->St i s ->
  zm w s.heap a (λk'=>k'∈ks.take i) n'->n'<=B.length ->
  (∀Z q4,Moved (a::wr) G s Z->zm w Z.heap a (λk'=>k'∈ks) q4->q4<=B.length->R (.ok (.ret .none)) Z) ->
  codeAny (model prog w) A (.builtin "set.update.loop" ⟨[.ref a,.ref I],[]⟩) R s:=by
 have q2:a∉wr:=λh=>q0 (W.sub _ h)
 have qq:∀b∈wr,b∈a::wr:=λb hb=>bu _ hb
 intro k
 induction k with
 |zero =>
  intro i n' s hk hi U hS Vx hR;have q9:i=n:=by lia
  subst q9;refine codeAny_builtin F.entry_set_update_loop ?_;rw[uy F.plain_set_update_loop _];show wpAny _ A.in1 (pyNext (.ref I) >>= _) _ _ s;refine aa (W.done s _ _ U λZ hm=>?_);show wpAny _ A.in1 (ret Value.none) _ _ Z;refine aj (hR Z n' (hm.mono qq) ((hS.moved λo=>hm.heap a o q2).congr λk=>?_) Vx);rw[wj (f_ qv)]
 |succ k ih =>
  intro i n' s hk hi U hS Vx hR;have Ik:i<n:=by lia
  refine codeAny_builtin F.entry_set_update_loop ?_;rw[uy F.plain_set_update_loop _];show wpAny _ A.in1 (pyNext (.ref I) >>= _) _ _ s;refine aa (W.item i s _ _ Ik U λv Z hP q7 hm=>?_);have lx:i<ks.length:=b_ Ik (g_ qv)
  have qk:ks[i]?=some ks[i]:=by simp[lx]
  obtain⟨tk,rfl⟩:=zv i v _ hP qk;have zk:=hS.moved λo=>hm.heap a o q2
  show wpAny _ A.in1 (holding [Value.int ks[i] tk] (setAdd a (.int ks[i] tk)) >>= _) _ _ Z;refine aa (jf ?_);unfold setAdd;refine jf ?_;refine aa (wpAny_pyHash_int ?_);refine alz (s:={ Z with toks:=Z.toks+1 }) zk (by lia) λh' n2 b q3 q6 z1=>?_
  have q1:zm w h' a (λk=>k∈ks.take (i+1)) n2:=q6.congr λk=>by rw[List.take_add_one,cg,qk];simp
  refine aj ⟨plainId_quiet F.plain_set_update_loop _,ih (i+1) n2 _ (by lia) Ik (W.frame _ Z _ _ q7 (Nat.le_add_right _ _) λb hb o e=>?_) q1 (q1.le λk hk=>hB k (w6 hk)) λzz n3 q5 z0 zw=>?_⟩
  .rw[q3.2 b (λh:b=a=>q0 (by rw[<- h];exact hb))];exact e
  .refine hR zz n3 (Moved.trans W.gtrans ((hm.mono qq).then_heap (Nat.le_add_right _ _) λb o hb e=>?_) q5) z0 zw
   rw[q3.2 b (λh:b=a=>hb (by rw[h];exact bz))];exact e
def ace{id T:String}{io lo:Obj}{Z:Xt}{St:Nat->Heap->Prop}(hS:zm w s.heap a (λ_=>False) 0)(R:s.heap.get? l=some lo)(hc:lo.cls=.type T)(q3:∀es ep t,lo.data≠.set es ep t)(n1:isSubtype (.type T) (.type "set")=pure false)(n2:isSubtype (.type T) (.type "frozenset")=pure false)(nd:(Value.type T==.type "dict")=false)
 (hi:∀{Q:Y1},Q (.ref s.heap.objs.size) { s with heap:=s.heap.push io }->wpAny (model prog w) A (pyIter (.ref l)) Q E s) (W:l≠s.heap.objs.size->Walks prog w A.in1 s.heap.objs.size [s.heap.objs.size,l] [s.heap.objs.size] Z.size (λi v=>Z[i]?=some v) St) (h0:St 0 (s.heap.push io))
 (qq:PyProof.Rows.IntsAre Z.toList ks) {B:X9} (hB:∀k∈ks,k∈B) (qk:B.length<31) (h:∀h' tk n',(∀b o,b≠a->s.heap.get? b=some o->h'.get? b=some o)->zm w h' a (λk=>k∈ks) n'->n'<=B.length->Q () { s with heap:=h',toks:=tk }) :
 wpAny (model prog w) A (Builtin.Frozenset.updateFrom id a (.ref l)) Q E s:=by
 have hT:s.TypeIs (.ref l) T:=⟨lo,R,hc⟩;have q2:Z.size=ks.length:=by rw[<- ql];exact PyProof.Rows.IntsAre.length qq
 obtain⟨oa,zw,z0,ta,U,zv,q7,zk⟩:=hS.get;unfold Builtin.Frozenset.updateFrom;refine aa (Ge hT n1 n2 ?_);simp only[d9,jj];refine aa (wpAny_typeOf hT ?_);rw[bj (by rw[nd];simp)];refine aa (hi ?_);refine aa (wpAny_runValue ?_);have Ik:l<s.heap.objs.size:=au R
 have q9:a<s.heap.objs.size:=au U
 have q0:l≠a:=by rintro rfl;rw[R] at U;cases U;exact q3 _ _ _ q7
 have q5:a∉[s.heap.objs.size,l]:=by simp only[dh,xu,or_false,not_or];exact⟨fc q9,λe=>q0 e.symm⟩
 have G:∀b o,s.heap.get? b=some o->(s.heap.push io).get? b=some o:=λb o e=>ao _ e
 refine ag7 ((W (fc Ik)).toS) a q5 ks q2.symm (λi v x hv hx=>?_) hB qk Z.size 0 0 _ rfl (ie _)
  h0 ?_ (ie _) ?_
 .obtain⟨tk,e⟩:=PyProof.Rows.IntsAre.int_at qq i v (by rw[nu];exact hv)
  rw[ux,hx] at e;exact⟨tk,e⟩
 .refine(hS.moved λo e=>G a o e).congr λk=>by simp
 .intro s' zz hm q6 q4
  obtain⟨h',g',d',q1,qv⟩:=s';have eg:g'=s.gens:=hm.gens;have ed:d'=s.drawn:=hm.drawn;have eo:qv=s.os:=hm.os;subst eg;subst ed;subst eo;show wpAny _ _ _ _ _ _;refine aj (h h' q1 zz (λb o hb e=>?_) q6 q4);refine hm.heap b o ?_ (G b o e);simp only[dh,xu,or_false,not_or];exact⟨hb,fc (au e)⟩
def afd{id:String}(hh:A.handled=none)(hS:zm w s.heap a (λ_=>False) 0)(G:s.heap.IsList l items)(qq:PyProof.Rows.IntsAre items.toList ks){B:X9}(hB:∀k∈ks,k∈B)(Z:B.length<31)(h:∀R tk n',(∀b o,b≠a->s.heap.get? b=some o->R.get? b=some o)->zm w R a (λk=>k∈ks) n'->n'<=B.length->Q () { s with heap:=R,toks:=tk }) :
 wpAny (model prog w) A (Builtin.Frozenset.updateFrom id a (.ref l)) Q E s:=by
 have U:=G;obtain⟨o,ho,hc,n,hd⟩:=U;exact ace hS ho hc (λ_ _ _ z=>by rw[hd] at z;cases z) F.sub_list_set F.sub_list_frozenset (by decide) (t8 G) (λne=>Walks.list (by simp[hh]) _ l ne items) ⟨⟨_,bc _ rfl,rfl,rfl⟩,G.push _⟩ qq hB Z h
def ag9{id:String}(hh:A.handled=none)(hS:zm w s.heap a (λ_=>False) 0)(hl:s.heap.IsTuple l items)(R:PyProof.Rows.IntsAre items.toList ks){B:X9}(hB:∀k∈ks,k∈B)(Z:B.length<31)(h:∀U tk n',(∀b o,b≠a->s.heap.get? b=some o->U.get? b=some o)->zm w U a (λk=>k∈ks) n'->n'<=B.length->Q () { s with heap:=U,toks:=tk }) :
 wpAny (model prog w) A (Builtin.Frozenset.updateFrom id a (.ref l)) Q E s:=by
 have G:=hl;obtain⟨o,ho,hc,n,hd⟩:=G;exact ace hS ho hc (λ_ _ _ z=>by rw[hd] at z;cases z) (by rw[isSubtype_type];kernel_rfl) (by rw[isSubtype_type];kernel_rfl) (by decide) (nq hl) (λne=>Walks.tuple (by simp[hh]) _ l ne items) ⟨⟨_,bc _ rfl,rfl,rfl⟩,o,ao _ ho,hc,n,hd⟩ R hB Z h
def awg(hh:A.handled=none)(hl:s.heap.IsList l items)(qk:PyProof.Rows.IntsAre items.toList ks){B:X9}(hB:∀k∈ks,k∈B)(qq:B.length<31)(h:∀Z tk G,(∀b o,s.heap.get? b=some o->Z.get? b=some o)->zm w Z s.heap.objs.size (λk=>k∈ks) G->G<=B.length->Q (.ref s.heap.objs.size) { s with heap:=Z,toks:=tk }) :
 wpAny (model prog w) A (call (.type "set") [.ref l]) Q E s:=by
 refine O3 (R:=λs'=>∃Z tk G,s'={ s with heap:=Z,toks:=tk }/\(∀b o,s.heap.get? b=some o->Z.get? b=some o)/\zm w Z s.heap.objs.size (λk=>k∈ks) G/\G<=B.length)
  (afd (s:={ s with heap:=s.heap.push (Ab w) }) (by simp[hh]) (Xy (bc _ rfl)) (hl.push _) qk hB qq λZ tk G hk U Vx=>⟨Z,tk,G,rfl,λb o e=>hk b o (fc (au e)) (ao _ e),U,Vx⟩)
  λs' ⟨Z,tk,G,e,hk,U,Vx⟩=>by subst e;exact h Z tk G hk U Vx
def afe(hh:A.handled=none)(hl:s.heap.IsTuple l items)(qk:PyProof.Rows.IntsAre items.toList ks){B:X9}(hB:∀k∈ks,k∈B)(qq:B.length<31)(h:∀Z tk G,(∀b o,s.heap.get? b=some o->Z.get? b=some o)->zm w Z s.heap.objs.size (λk=>k∈ks) G->G<=B.length->Q (.ref s.heap.objs.size) { s with heap:=Z,toks:=tk }) :
 wpAny (model prog w) A (call (.type "set") [.ref l]) Q E s:=by
 refine O3 (R:=λs'=>∃Z tk G,s'={ s with heap:=Z,toks:=tk }/\(∀b o,s.heap.get? b=some o->Z.get? b=some o)/\zm w Z s.heap.objs.size (λk=>k∈ks) G/\G<=B.length)
  (ag9 (s:={ s with heap:=s.heap.push (Ab w) }) (by simp[hh]) (Xy (bc _ rfl)) (let ⟨o,ho,r⟩:=hl;⟨o,ao _ ho,r⟩) qk hB qq λZ tk G hk U Vx=>⟨Z,tk,G,rfl,λb o e=>hk b o (fc (au e)) (ao _ e),U,Vx⟩)
  λs' ⟨Z,tk,G,e,hk,U,Vx⟩=>by subst e;exact h Z tk G hk U Vx
end STb
namespace MW
open PySem (Str)
set_option genInjectivity true in
inductive D where
 |non|bl (b:Bool)|int (i:Int)|str (s:Str)|tup (ds:List D)|vl (ds:List D)|fz (ds:List D)|ref (n:Nat)
noncomputable abbrev Kx:=Sum Int Str
set_option genInjectivity true in
inductive MO where
 |lst (ds:List D)|dT (m9:List (List Kx×D))|dF (m9:List (List Kx×D))|ins (c:Nat) (fs:List (Nat×D))
noncomputable abbrev dj:=List MO
noncomputable abbrev Env:=List (Option D)
set_option genInjectivity true in
inductive Res(α:Type) where
 |ok (a:α) (M:dj)|bad
namespace Res
noncomputable def bind{Z β:Type}(r:Res Z)(f:Z->dj->Res β):Res β :=
 match r with|ok a M=>f a M|bad=>bad
@[simp] def vo(a:α)(M:dj)(f:α->dj->Res β):(ok a M).bind f=f a M:=rfl
@[simp] def axf(f:α->dj->Res β):(bad:Res α).bind f=bad:=rfl
noncomputable def qx{α:Type}(o:Option α)(M:dj):Res α:=match o with|some a=>ok a M|none=>bad
@[simp] def uw(a:α)(M:dj):qx (some a) M=ok a M:=rfl
@[simp] def arl(M:dj):qx (none:Option α) M=bad:=rfl
end Res
inductive Op2 where|add|sub|mul|fdiv|mod|pow
inductive Cp where|eq|ne|lt|le|gt|ge|inn|Uk
inductive Blt where
 |len|tuple|list|max|min|all|isBool|Lg|dict|toInt
inductive Bm where|append|extend|setdefault|get|index
inductive Tg where
 |name (i:Nat)|names (is:Y3)
mutual
inductive Ex where
 |var (i:Nat)|cst (d:D)
 |bin (op:Op2) (a b:Ex)|neg (a:Ex)
 |cmp (op:Cp) (a b:Ex)|chain (o1 o2:Cp) (a b c:Ex)
 |and (a b:Ex)|or (a b:Ex)|not (a:Ex)
 |tup (es:Dd)|lst (es:Dd)|Ir (es:Dd)|Xz
 |ix (a b:Ex)|cut (a:Ex) (lo hi:OEx)
 |call (f:Nat) (es:Dd)|make (c:Nat)|meth (o:Ex) (m:Nat) (es:Dd)|fld (o:Ex) (f:Nat)
 |blt (b:Blt) (es:Dd)|bm (m:Bm) (o:Ex) (es:Dd)
 |comp (v:Bool) (k:Nat) (t:Tg) (it:Lh) (e:Ex)|yz (v:Bool) (k:Nat) (t:Tg) (it:Lh) (c:Ex) (e:Ex)
 |tru (e:Ex)|ntr (e:Ex)
inductive Dd where
 |nil|cons (e:Ex) (es:Dd)
inductive OEx where
 |none|some (e:Ex)
inductive Lh where
 |val (e:Ex)|T6 (e:Ex)|enm (e:Ex)|zip (es:Dd)|vals (e:Ex)
end
noncomputable abbrev Ex.v:=Ex.var
noncomputable abbrev Ex.i(n:Int):Ex:=.cst (.int n)
noncomputable abbrev Ex.l(e:Ex):Ex:=.blt .len (.cons e .nil)
noncomputable abbrev Dd.z:=Dd.nil
noncomputable abbrev Dd.c:=Dd.cons
noncomputable abbrev Dd.o(a:Ex):Dd:=.cons a .nil
noncomputable abbrev Dd.p(a b:Ex):Dd:=.cons a (.cons b .nil)
noncomputable abbrev Dd.q(a b c:Ex):Dd:=.cons a (.cons b (.cons c .nil))
inductive Lv where
 |tg (t:Tg)|sub (o i:Ex)|fld (o:Ex) (f:Nat)
mutual
inductive Af where
 |asg (l:Lv) (e:Ex)|expr (e:Ex)|iff (c:Ex) (a b:m7)|whl (c:Ex) (b:m7)|for_ (t:Tg) (it:Lh) (b:m7)
 |ret (e:Ex)|raise
inductive m7 where
 |nil|cons (s:Af) (r:m7)
end
noncomputable abbrev Af.a(i:Nat)(e:Ex):Af:=.asg (.tg (.name i)) e
noncomputable abbrev Af.f(c:Ex)(b:m7):Af:=.iff c b .nil
noncomputable abbrev m7.z:=m7.nil
noncomputable abbrev m7.c:=m7.cons
noncomputable abbrev m7.o(a:Af):m7:=.cons a .nil
noncomputable abbrev m7.p(a b:Af):m7:=.cons a (.cons b .nil)
noncomputable abbrev m7.q(a b c:Af):m7:=.cons a (.cons b (.cons c .nil))
structure Fn where
 np:Nat
 ns:Nat
 body:m7
structure Cl where
 init:Nat
 meths:List (Nat×Nat)
noncomputable def d8(M:dj):D->Option (List D)
 |.vl ds=>some ds|.ref n=>match M[n]? with|some (.lst ds)=>some ds|_=>none
 |_=>none
def j8(M:dj):D->Option (List D)
 |.tup ds=>some ds|d=>d8 M d
noncomputable def arn:D->Option Kx
 |.int i=>some (.inl i)|.str s=>some (.inr s)|_=>none
def aas:List D->Option (List Kx)
 |[]=>some []
 |d::ds=>match arn d,aas ds with
  |some k,some ks=>some (k::ks)|_,_=>none
def Ha:D->Option (List Kx)
 |.tup ds=>aas ds|_=>none
noncomputable def axg:Kx->D
 |.inl i=>.int i|.inr s=>.str s
def afh(ks:List Kx):D:=.tup (ks.map axg)
noncomputable def T8(f:D->D->Option Bool):List D->List D->Option Bool
 |[],[]=>some true
 |a::as,b::bs=>match f a b,T8 f as bs with
  |some x,some y=>some (x&&y)|_,_=>none
 |_,_=>some false
instance:DecidableEq Kx:=inferInstanceAs (DecidableEq (Sum Int Str))
noncomputable def Ac{Z:Type}[DecidableEq Z](G:List (Z×D))(k:Z):Option D:=(G.find? λp=>decide (p.1=k)).map (·.2)
def Og(M:dj):Nat->D->D->Option Bool
 |0,_,_=>none
 |n+1,a,b=>match a,b with
  |.int i,.int j=>some (decide (i=j))|.bl i,.bl j=>some (i==j)|.str i,.str j=>some (decide (i=j))|.tup as,.tup bs=>T8 (Og M n) as bs
  |a,b=>match d8 M a,d8 M b with
   |some as,some bs=>if as.length=bs.length then T8 (Og M n) as bs else some false
   |_,_=>none
def n8(M:dj)(a b:D):Option Bool:=Og M 6 a b
def Qg(M:dj)(x:D):List D->Option (List Bool)
 |[]=>some []
 |y::ys=>match n8 M y x,Qg M x ys with
  |some a,some b=>some (a::b)|_,_=>none
def memD(M:dj)(x:D)(Z:List D):Option Bool:=(Qg M x Z).map (·.any id)
def aro(M:dj)(x:D)(Z:List D):Option Nat:=(Qg M x Z).bind (·.findIdx? id)
noncomputable def inL:List D->Option (List Int)
 |[]=>some []|.int i::r=>(inL r).map (i::·)|_::_=>none
noncomputable def Q7(n:Nat)(i:Int):Option Nat:=if 0<=i then(if i<n then some i.toNat else none) else if -(n:Int)<=i then some (i+n).toNat else none
noncomputable def clip(n:Nat)(d:Nat):Option Int->Nat
 |none=>d|some i=>if 0<=i then min i.toNat n else(i+n).toNat
def Gq(Z:List D)(G U:Option Int):List D:=(Z.drop (clip Z.length 0 G)).take (clip Z.length Z.length U-clip Z.length 0 G)
noncomputable def al3:List Int->Option Int
 |[]=>none|a::r=>some (r.foldl (λm x=>if m<x then x else m) a)
noncomputable def axh:List Int->Option Int
 |[]=>none|a::r=>some (r.foldl (λm x=>if x<m then x else m) a)
noncomputable def Eo:List Int->List Int
 |[]=>[]|x::xs=>if x∈xs then Eo xs else x::Eo xs
noncomputable def Mf{Z:Type}[DecidableEq Z](G:List (Z×D))(k:Z)(v:D):List (Z×D) :=
 if(G.any λkv=>decide (kv.1=k))=true then G.map (λkv=>if kv.1=k then(kv.1,v) else kv) else G++[(k,v)]
noncomputable def new(o:MO)(M:dj):Res D:=.ok (.ref M.length) (M++[o])
def aha(a b:D)(M:dj):Res D :=
 match a,b with
 |.int i,.int j=>.ok (.int (i+j)) M|.tup xs,.tup ys=>if xs.length+ys.length<=100000 then .ok (.tup (xs++ys)) M else .bad
 |x,y=>match d8 M x,d8 M y with
  |some xs,some ys=>if xs.length+ys.length<=100000 then .ok (.vl (xs++ys)) M else .bad
  |_,_=>.bad
noncomputable def ii{α:Type}(x y:D)(f:Int->Int->α)(z:α):α:=match x with|.int i=>(match y with|.int j=>f i j|_=>z)|_=>z
def aat(h:ii x y f z=r)(Z:z≠r):∃i j,x=.int i/\y=.int j/\f i j=r:=by
 cases x with
 |int i=>cases y with
  |int j=>exact⟨i,j,rfl,rfl,h⟩|_=>exact absurd h Z
 |_=>exact absurd h Z
@[simp] def a4q(i j:Int)(f:Int->Int->α)(z:α):ii (.int i) (.int j) f z=f i j:=rfl
def axi(a b:D)(M:dj):Res D:=ii a b (λi j=>.ok (.int (i-j)) M) .bad
def axj(a b:D)(M:dj):Res D:=ii a b (λi j=>if(-(2 ^ 64)<i/\i<2 ^ 64)\/(-(2 ^ 64)<j/\j<2 ^ 64) then .ok (.int (i*j)) M else .bad) .bad
def arp(a b:D)(M:dj):Res D:=ii a b (λi j=>if 0<j/\j<1073741824 then .ok (.int (i / j)) M else .bad) .bad
def axk(a b:D)(M:dj):Res D:=ii a b (λi j=>if 0<j then .ok (.int (i%j)) M else .bad) .bad
def aqf(a b:D)(M:dj):Res D:=ii a b (λi j=>if 0<=j/\j<=64/\i.natAbs<2 ^ 64 then .ok (.int (i ^ j.toNat)) M else .bad) .bad
def zq(Z:Op2):D->D->dj->Res D :=
 match Z with
 |.add=>aha|.sub=>axi|.mul=>axj|.fdiv=>arp|.mod=>axk|.pow=>aqf
def Iu(M:dj)(a b:D):Option Bool:=match b with
 |.ref n=>match M[n]? with
  |some (.dT m9)=>(Ha a).map λk=>(Ac m9 k).isSome
  |_=>(j8 M b).bind (memD M a)
 |_=>(j8 M b).bind (memD M a)
def X5(f:Int->Int->Bool)(a b:D):Option Bool:=ii a b (λi j=>some (f i j)) none
def Iv(Z:Cp)(a b:D)(M:dj):Option Bool :=
 match Z with
 |.lt=>X5 (λi j=>decide (i<j)) a b
 |.le=>X5 (λi j=>decide (i<=j)) a b
 |.gt=>X5 (λi j=>decide (j<i)) a b
 |.ge=>X5 (λi j=>decide (j<=i)) a b
 |.eq=>n8 M a b|.ne=>(n8 M a b).map not|.inn=>Iu M a b|.Uk=>(Iu M a b).map not
def ixL(Z:Option (List D))(b:D):Option D:=match Z,b with
 |some Z,.int i=>(Q7 Z.length i).bind λj=>Z[j]?
 |_,_=>none
def w5(a b:D)(M:dj):Option D :=
 match a with
 |.fz ds=>ixL (some ds) b
 |.ref n=>match M[n]? with
  |some (.dT m9)=>(Ha b).bind (Ac m9)|_=>ixL (d8 M a) b
 |_=>ixL (j8 M a) b
def Iw(a:D)(G U:Option Int)(M:dj):Option D:=match a with
 |.tup Z=>some (.tup (Gq Z G U))|_=>(d8 M a).map λZ=>.vl (Gq Z G U)
noncomputable def allB:List D->Option Bool
 |[]=>some true|.bl b::r=>(allB r).map (b&&·)|_::_=>none
noncomputable def Vy(M:dj):D->Res D
 |.ref n=>match M[n]? with
  |some (.lst ds)=>.ok (.int ds.length) M|_=>.bad
 |.fz ds=>.ok (.int ds.length) M|.tup ds=>.ok (.int ds.length) M|.vl ds=>.ok (.int ds.length) M|_=>.bad
def two(Z:List D)(f:Int->Int->Int)(g:D->Option Int)(M:dj):Res D :=
 match Z with
 |[a,b]=>(match a,b with|.int i,.int j=>.ok (.int (f i j)) M|_,_=>.bad)
 |[d]=>Res.qx ((g d).map D.int) M|_=>.bad
noncomputable def Ga(Z:List D)(g:D->Res D):Res D :=
 match Z with
 |[d]=>g d|_=>.bad
def Q8:List D->Option (List (List Kx×D))
 |[]=>some []
 |.tup [k,v]::r=>match Ha k,Q8 r with
  |some q,some l=>some ((q,v)::l)|_,_=>none
 |_::_=>none
def v9(b:Blt)(Z:List D)(M:dj):Res D :=
 match b with
 |.len=>Ga Z (Vy M)|.tuple=>Ga Z λd=>Res.qx ((j8 M d).map D.tup) M
 |.max=>two Z (λi j=>if i<j then j else i) (λd=>((j8 M d).bind inL).bind al3) M
 |.min=>two Z (λi j=>if j<i then j else i) (λd=>((j8 M d).bind inL).bind axh) M
 |.all=>Ga Z λd=>Res.qx (((d8 M d).bind allB).map D.bl) M
 |.isBool=>Ga Z λd=>match d with|.bl _=>.ok (.bl true) M|_=>.bad
 |.Lg=>Ga Z λd=>match d with
  |.tup Z=>Res.qx ((inL Z).bind λis=>if is.length<31 then some (D.int (Eo is).length) else none) M
  |_=>.bad
 |.toInt=>Ga Z λd=>match d with|.bl b=>.ok (.int (if b then 1 else 0)) M|_=>.bad
 |.dict=>Ga Z λd=>match(d8 M d).bind Q8 with
  |some l=>if(l.map (·.1)).Nodup/\l.length<=1000 then new (.dT l) M else .bad
  |none=>.bad
 |.list=>Ga Z λd=>match j8 M d with
  |some G=>new (.lst G) M
  |none=>match d with
   |.ref n=>match M[n]? with
    |some (.dT m9)=>if m9.length<=1000 then .ok (.vl (m9.map λp=>afh p.1)) M else .bad
    |_=>.bad
   |_=>.bad
def Iz(m:Bm)(x:D)(M:dj):Bool :=
 match m with
 |.setdefault=>(match x with|.ref n=>(match M[n]? with|some (.dT _)=>true|_=>false)|_=>false)
 |.get=>(match x with|.ref n=>(match M[n]? with|some (.dT _)=>true|_=>false)|_=>false)
 |_=>(d8 M x).isSome
noncomputable def Ja(n:Nat):D->Bool
 |.ref k=>k != n|_=>true
noncomputable def onL(o:D)(M:dj)(f:Nat->List D->Res D):Res D:=match o with
 |.ref n=>match M[n]? with|some (.lst xs)=>f n xs|_=>.bad
 |_=>.bad
noncomputable def onT(o:D)(M:dj)(f:Nat->List (List Kx×D)->Res D):Res D:=match o with
 |.ref n=>match M[n]? with|some (.dT m9)=>f n m9|_=>.bad
 |_=>.bad
def Bj(m:Bm)(o:D)(G:List D)(M:dj):Res D :=
 match m with
 |.append=>onL o M λn U=>Ga G λd=>if U.length<100000 then .ok .non (M.set n (.lst (U++[d]))) else .bad
 |.extend=>onL o M λn U=>Ga G λy=>match d8 M y with
  |some R=>if Ja n y=true/\U.length+R.length<100000 then .ok .non (M.set n (.lst (U++R))) else .bad
  |none=>.bad
 |.get=>onT o M λn Z=>match G with
  |[k,d]=>Res.qx ((Ha k).map λq=>(Ac Z q).getD d) M
  |_=>.bad
 |.index=>Ga G λd=>Res.qx (((d8 M o).bind (aro M d)).map λ(j:Nat)=>.int (j:Int)) M
 |.setdefault=>onT o M λn Z=>match G with
  |[k,d]=>match Ha k with
   |some q=>match Ac Z q with
    |some v=>.ok v M|none=>if Z.length<100000 then .ok d (M.set n (.dT (Z++[(q,d)]))) else .bad
   |none=>.bad
  |_=>.bad
def setOp(o i v:D)(M:dj):Option dj :=
 match o with
 |.ref n=>match M[n]? with
  |some (.lst xs)=>match i with
   |.int j=>(Q7 xs.length j).map λq=>M.set n (.lst (xs.set q v))
   |_=>none
  |some (.dT m9)=>(Ha i).bind λk=>if m9.length<100000 then some (M.set n (.dT (Mf m9 k v))) else none
  |_=>none
 |_=>none
noncomputable def Q9(f:Nat)(v:D):List (Nat×D)->List (Nat×D)
 |[]=>[(f,v)]|(g,x)::r=>if g=f then(g,v)::r else(g,x)::Q9 f v r
noncomputable def Gw(o:D)(f:Nat)(M:dj):Option D :=
 match o with
 |.ref n=>match M[n]? with
  |some (.ins _ fs)=>fs.lookup f|_=>none
 |_=>none
def Ra(o:D)(f:Nat)(v:D)(M:dj):Option dj :=
 match o with
 |.ref n=>match M[n]? with
  |some (.ins c fs)=>if fs.length<1000 then some (M.set n (.ins c (Q9 f v fs))) else none
  |_=>none
 |_=>none
inductive Src where
 |con (ds:List D)|live (n:Nat) (len:Nat)|el (n:Nat) (len:Nat)
noncomputable def Src.len:Src->Nat
 |.con ds=>ds.length|.live _ k=>k|.el _ k=>k
noncomputable def Src.item(s:Src)(i:Nat)(M:dj):Option D :=
 match s with
 |.con ds=>ds[i]?
 |.live n k=>match M[n]? with
  |some (.lst ds)=>if ds.length=k then ds[i]? else none
  |_=>none
 |.el n k=>match M[n]? with
  |some (.lst ds)=>if ds.length=k then(ds[i]?).map λd=>.tup [.int i,d] else none
  |_=>none
noncomputable def Src.fin(s:Src)(M:dj):Bool :=
 match s with
 |.con _=>true
 |.live n k=>match M[n]? with
  |some (.lst ds)=>ds.length==k|_=>false
 |.el n k=>match M[n]? with
  |some (.lst ds)=>ds.length==k|_=>false
noncomputable def srcOf(M:dj)(d:D):Option Src :=
 match d with
 |.tup ds=>some (.con ds)|.vl ds=>some (.con ds)
 |.ref n=>match M[n]? with
  |some (.lst ds)=>some (.live n ds.length)|_=>none
 |_=>none
inductive Flow where
 |next|brk|cont|ret (d:D)
noncomputable def Gr:List Nat->List D->Env->Env
 |i::is,d::ds,ρ=>Gr is ds (ρ.set i (some d))|_,_,ρ=>ρ
def Tg.put(t:Tg)(d:D)(Z:Env):Option Env :=
 match t with
 |.name i=>some (Z.set i (some d))
 |.names is=>match d with
  |.tup ds=>if ds.length=is.length then some (Gr is ds Z) else none
  |_=>none
structure Ks where
 call:Nat->List D->dj->Res D
 cls:List Cl
def Bg(fin:dj->Bool)(item:Nat->dj->Option D)(Z:D->Env->dj->Res (Flow×Env)):Nat->Nat->Env->dj->Res (Flow×Env)
 |0,_,ρ,M=>if fin M then .ok (.next,ρ) M else .bad
 |k+1,i,ρ,M=>match item i M with
  |none=>.bad
  |some d=>(Z d ρ M).bind λr G=>match r.1 with
   |.next=>Bg fin item Z k (i+1) r.2 G|.cont=>Bg fin item Z k (i+1) r.2 G|.brk=>.ok (.next,r.2) G|.ret v=>.ok (.ret v,r.2) G
def Ad(fin:dj->Bool)(item:Nat->dj->Option D)(Z:D->dj->Res (Option D)):Nat->Nat->dj->Res (List D)
 |0,_,M=>if fin M then .ok [] M else .bad
 |k+1,i,M=>match item i M with
  |none=>.bad|some d=>(Z d M).bind λo R=>(Ad fin item Z k (i+1) R).bind λG U=>.ok (match o with|some x=>x::G|none=>G) U
def za(s:Src)(Z:D->dj->Res (Option D))(M:dj):Res (List D):=if s.len<=100000 then Ad s.fin s.item Z s.len 0 M else .bad
def Ay(c:Env->dj->Res D)(Z:Env->dj->Res (Flow×Env)):Nat->Env->dj->Res (Flow×Env)
 |0,_,_=>.bad
 |k+1,ρ,M=>(c ρ M).bind λb U=>match b with
  |.bl false=>.ok (.next,ρ) U
  |.bl true=>(Z ρ U).bind λr G=>match r.1 with
   |.next=>Ay c Z k r.2 G|.cont=>Ay c Z k r.2 G|.brk=>.ok (.next,r.2) G|.ret v=>.ok (.ret v,r.2) G
  |_=>.bad
noncomputable def Rb:Nat:=1000000
noncomputable def X6(Z G:List D):List D:=(Z.zip G).map λp=>.tup [p.1,p.2]
noncomputable def zx(Z:List D):Nat->List D:=λn=>(Z.zipIdx n).map λp=>D.tup [.int p.2,p.1]
noncomputable def acg(d:D)(M:dj):Res Src :=
 match d with
 |.ref n=>match M[n]? with
  |some (.dT m9)=>.ok (.con (m9.map (·.2))) (M.set n (.dF m9))|_=>.bad
 |_=>.bad
def afi(d:D)(M:dj):Res Src :=
 match d with
 |.tup ds=>.ok (.con (zx ds 0)) M|.vl ds=>.ok (.con (zx ds 0)) M
 |.ref n=>match M[n]? with
  |some (.lst ds)=>.ok (.el n ds.length) M|_=>.bad
 |_=>.bad
def ars(Z:List D)(M:dj):Res Src:=match Z with
 |[.tup xs,.tup ys]=>.ok (.con (X6 xs ys)) M|_=>.bad
mutual
def Ex.den(W:Ks):Ex->Env->dj->Res D
 |.var i,ρ,M=>match ρ[i]? with
  |some (some d)=>.ok d M|_=>.bad
 |.cst d,_,M=>.ok d M|.bin op a b,ρ,M=>(a.den W ρ M).bind λx Z=>(b.den W ρ Z).bind λy G=>zq op x y G
 |.neg a,ρ,M=>(a.den W ρ M).bind λx Z=>match x with|.int i=>.ok (.int (-i)) Z|_=>.bad
 |.cmp op a b,ρ,M=>(a.den W ρ M).bind λx Z=>(b.den W ρ Z).bind λy G=>Res.qx ((Iv op x y G).map D.bl) G
 |.chain o1 o2 a b c,ρ,M=>(a.den W ρ M).bind λx Z=>(b.den W ρ Z).bind λy G=>(Res.qx (Iv o1 x y G) G).bind λq G=>if q then(c.den W ρ G).bind λz M3=>Res.qx ((Iv o2 y z M3).map D.bl) M3 else .ok (.bl false) G
 |.and a b,ρ,M=>(a.den W ρ M).bind λx Z=>match x with|.bl true=>b.den W ρ Z|.bl false=>.ok (.bl false) Z|_=>.bad
 |.or a b,ρ,M=>(a.den W ρ M).bind λx Z=>match x with|.bl true=>.ok (.bl true) Z|.bl false=>b.den W ρ Z|_=>.bad
 |.not a,ρ,M=>(a.den W ρ M).bind λx Z=>match x with|.bl b=>.ok (.bl !b) Z|_=>.bad
 |.tup es,ρ,M=>(es.den W ρ M).bind λU Z=>.ok (.tup U) Z
 |.lst es,ρ,M=>(es.den W ρ M).bind λU Z=>new (.lst U) Z
 |.Ir es,ρ,M=>(es.den W ρ M).bind λU Z=>.ok (.vl U) Z
 |.Xz,_,M=>new (.dT []) M|.ix a b,ρ,M=>(a.den W ρ M).bind λx Z=>(b.den W ρ Z).bind λy G=>Res.qx (w5 x y G) G
 |.cut a lo hi,ρ,M=>(a.den W ρ M).bind λx Z=>(lo.den W ρ Z).bind λl G=>(hi.den W ρ G).bind λh M3=>Res.qx (Iw x l h M3) M3
 |.call f es,ρ,M=>(es.den W ρ M).bind λU Z=>W.call f U Z
 |.make c,ρ,M=>match W.cls[c]? with
  |some C=>(W.call C.init [.ref M.length] (M++[.ins c []])).bind λr G=>match r with|.non=>.ok (.ref M.length) G|_=>.bad
  |none=>.bad
 |.meth o m es,ρ,M=>(o.den W ρ M).bind λx Z=>(es.den W ρ Z).bind λU G=>match x with
  |.ref n=>match Z[n]? with
   |some (.ins c _)=>match(W.cls[c]?).bind λC=>C.meths.lookup m with
    |some f=>W.call f (.ref n::U) G|none=>.bad
   |_=>.bad
  |_=>.bad
 |.fld o f,ρ,M=>(o.den W ρ M).bind λx Z=>Res.qx (Gw x f Z) Z
 |.blt b es,ρ,M=>(es.den W ρ M).bind λU Z=>v9 b U Z
 |.bm m o es,ρ,M=>(o.den W ρ M).bind λx Z=>if Iz m x Z then(es.den W ρ Z).bind λU G=>Bj m x U G else .bad
 |.comp v k t it e,ρ,M=>(it.den W ρ M).bind λs Z =>
  (za s (λd M=>match t.put d (ρ++List.replicate k none) with
   |some R=>(e.den W R M).bind λx M'=>.ok (some x) M'
   | none=>.bad) Z).bind λU G=>if v then .ok (.vl U) G else new (.lst U) G
 |.yz v k t it c e,ρ,M=>(it.den W ρ M).bind λs Z =>
  (za s (λd M=>match t.put d (ρ++List.replicate k none) with
   |some R=>(c.den W R M).bind λb M'=>match b with
    |.bl true=>(e.den W R M').bind λx qq=>.ok (some x) qq
    |.bl false=>.ok none M'|_=>.bad
   | none=>.bad) Z).bind λU G=>if v then .ok (.vl U) G else new (.lst U) G
 |.ntr e,ρ,M=>(e.den W ρ M).bind λx Z=>Res.qx ((j8 Z x).map λU=>D.bl U.isEmpty) Z
 |.tru e,ρ,M=>(e.den W ρ M).bind λx Z=>Res.qx ((j8 Z x).map λU=>D.bl !U.isEmpty) Z
def Dd.den(W:Ks):Dd->Env->dj->Res (List D)
 |.nil,_,M=>.ok [] M|.cons e es,ρ,M=>(e.den W ρ M).bind λx U=>(es.den W ρ U).bind λZ G=>.ok (x::Z) G
def OEx.den(W:Ks):OEx->Env->dj->Res (Option Int)
 |.none,_,M=>.ok none M|.some e,ρ,M=>(e.den W ρ M).bind λx Z=>match x with|.int i=>.ok (some i) Z|_=>.bad
def Lh.den(W:Ks):Lh->Env->dj->Res Src
 |.val e,ρ,M=>(e.den W ρ M).bind λx Z=>Res.qx (srcOf Z x) Z
 |.T6 e,ρ,M=>(e.den W ρ M).bind λx Z=>match x with
  |.int i=>if i.natAbs<=100000 then .ok (.con ((List.range i.toNat).map λ(k:Nat)=>D.int (k:Int))) Z else .bad
  |_=>.bad
 |.enm e,ρ,M=>(e.den W ρ M).bind afi|.zip es,ρ,M=>(es.den W ρ M).bind ars|.vals e,ρ,M=>(e.den W ρ M).bind acg
end
def Lv.put(W:Ks)(l:Lv)(d:D)(Z:Env)(M:dj):Res Env :=
 match l with
 |.tg t=>Res.qx (t.put d Z) M|.sub o i=>(o.den W Z M).bind λx U=>(i.den W Z U).bind λy G=>(Res.qx (setOp x y d G) G).bind λR _=>.ok Z R
 |.fld o f=>(o.den W Z M).bind λx U=>(Res.qx (Ra x f d U) U).bind λG _=>.ok Z G
mutual
def Af.den(W:Ks):Af->Env->dj->Res (Flow×Env)
 |.asg l e,Z,M=>(e.den W Z M).bind λx G=>(l.put W x Z G).bind λU R=>.ok (.next,U) R
 |.expr e,Z,M=>(e.den W Z M).bind λ_ G=>.ok (.next,Z) G
 |.iff c a b,Z,M=>(c.den W Z M).bind λx G=>match x with|.bl true=>a.den W Z G|.bl false=>b.den W Z G|_=>.bad
 |.whl c b,Z,M=>Ay (c.den W) (b.den W) Rb Z M
 | .for_ t it b,Z,M=>(it.den W Z M).bind λs G=>Bg s.fin s.item (λd Z M=>match t.put d Z with
  | some U=>b.den W U M|none=>.bad) s.len 0 Z G
 |.ret e,Z,M=>(e.den W Z M).bind λx G=>.ok (.ret x,Z) G
 |.raise,_,_=>.bad
def m7.den(W:Ks):m7->Env->dj->Res (Flow×Env)
 |.nil,ρ,M=>.ok (.next,ρ) M
 |.cons s r,ρ,M=>(s.den W ρ M).bind λp Z=>match p.1 with
  |.next=>r.den W p.2 Z|.brk=>.ok (.brk,p.2) Z|.cont=>.ok (.cont,p.2) Z|.ret d=>.ok (.ret d,p.2) Z
end
structure Prog where
 fns:List Fn
 cls:List Cl
def Fn.run(W:Ks)(f:Fn)(Z:List D)(M:dj):Res D :=
 if Z.length=f.np then
  (f.body.den W (Z.map some++List.replicate (f.ns-f.np) none) M).bind λp G=>match p.1 with
   |.ret d=>.ok d G|.next=>.ok .non G|_=>.bad
 else .bad
def Prog.call(P:Prog):Nat->Nat->List D->dj->Res D
 |0,_,_,_=>.bad
 |n+1,f,ds,M=>match P.fns[f]? with
  |some F=>F.run ⟨P.call n,P.cls⟩ ds M|none=>.bad
@[simp] def al5(i:Nat):(Ex.var i).den W Z M=match Z[i]? with|some (some d)=>.ok d M|_=>.bad:=rfl
@[simp high] theorem art(d:D)(r:Env):(Ex.var 0).den W (some d::r) M=.ok d M:=rfl
@[simp high] theorem ahc(Z:Option D)(d:D)(r:Env):(Ex.var 1).den W (Z::some d::r) M=.ok d M:=rfl
@[simp high] theorem a4r(G Z:Option D)(d:D)(r:Env):(Ex.var 2).den W (G::Z::some d::r) M=.ok d M:=rfl
@[simp high] theorem a4s(G Z U:Option D)(d:D)(r:Env):(Ex.var 3).den W (G::Z::U::some d::r) M=.ok d M:=rfl
@[simp high] theorem a4t(U G R Z:Option D)(d:D)(r:Env):(Ex.var 4).den W (U::G::R::Z::some d::r) M=.ok d M:=rfl
@[simp high] theorem ahd(R Z a2 U G:Option D)(d:D)(r:Env):(Ex.var 5).den W (R::Z::a2::U::G::some d::r) M=.ok d M:=rfl
@[simp high] theorem ahe(a0 Z a2 R G U:Option D)(d:D)(r:Env):(Ex.var 6).den W (a0::Z::a2::R::G::U::some d::r) M=.ok d M:=rfl
@[simp high] theorem a4u(a0 Z a2 a3 G R U:Option D)(d:D)(r:Env):(Ex.var 7).den W (a0::Z::a2::a3::G::R::U::some d::r) M=.ok d M:=rfl
@[simp high] theorem ahf(a0 Z a2 a3 R a5 U G:Option D)(d:D)(r:Env):(Ex.var 8).den W (a0::Z::a2::a3::R::a5::U::G::some d::r) M=.ok d M:=rfl
@[simp high] theorem a4v(a0 a1 a2 a3 R a5 U G Z:Option D)(d:D)(r:Env):(Ex.var 9).den W (a0::a1::a2::a3::R::a5::U::G::Z::some d::r) M=.ok d M:=rfl
@[simp high] theorem a2l(a0 a1 a2 a3 R a5 U G Z a9:Option D)(d:D)(r:Env):(Ex.var 10).den W (a0::a1::a2::a3::R::a5::U::G::Z::a9::some d::r) M=.ok d M:=rfl
@[simp high] theorem a2m(a0 a1 a2 a3 a4 a5 R U G a9 Z:Option D)(d:D)(r:Env):(Ex.var 11).den W (a0::a1::a2::a3::a4::a5::R::U::G::a9::Z::some d::r) M=.ok d M:=rfl
@[simp high] theorem a2n(a0 a1 a2 a3 a4 a5 a6 R U a9 G Z:Option D)(d:D)(r:Env):(Ex.var 12).den W (a0::a1::a2::a3::a4::a5::a6::R::U::a9::G::Z::some d::r) M=.ok d M:=rfl
@[simp] def Eg(d:D):(Ex.cst d).den W Z M=.ok d M:=rfl
@[simp] def al6(Z:Op2)(a b:Ex):(Ex.bin Z a b).den W G M=(a.den W G M).bind λx U=>(b.den W G U).bind λy M2=>zq Z x y M2:=rfl
@[simp] def al7(a:Ex):(Ex.neg a).den W G M=(a.den W G M).bind λx Z=>match x with|.int i=>.ok (.int (-i)) Z|_=>.bad:=rfl
@[simp] def Kc(Z:Cp)(a b:Ex):(Ex.cmp Z a b).den W G M=(a.den W G M).bind λx U=>(b.den W G U).bind λy M2=>Res.qx ((Iv Z x y M2).map D.bl) M2:=rfl
@[simp] def afj(U R:Cp)(a b c:Ex):(Ex.chain U R a b c).den W Z M=(a.den W Z M).bind λx M1=>(b.den W Z M1).bind λy M2=>(Res.qx (Iv U x y M2) M2).bind λq M2=>if q then(c.den W Z M2).bind λz G=>Res.qx ((Iv R y z G).map D.bl) G else .ok (.bl false) M2:=rfl
def xg(a b:Ex):(Ex.and a b).den W G M=(a.den W G M).bind λx Z=>match x with|.bl true=>b.den W G Z|.bl false=>.ok (.bl false) Z|_=>.bad:=rfl
def aau(a b:Ex):(Ex.or a b).den W G M=(a.den W G M).bind λx Z=>match x with|.bl true=>.ok (.bl true) Z|.bl false=>b.den W G Z|_=>.bad:=rfl
@[simp] def ach(a:Ex):(Ex.not a).den W G M=(a.den W G M).bind λx Z=>match x with|.bl b=>.ok (.bl !b) Z|_=>.bad:=rfl
@[simp] def al8(Z:Dd):(Ex.tup Z).den W U M=(Z.den W U M).bind λG M1=>.ok (.tup G) M1:=rfl
@[simp] def al9(Z:Dd):(Ex.lst Z).den W U M=(Z.den W U M).bind λG M1=>new (.lst G) M1:=rfl
@[simp] def Jb(Z:Dd):(Ex.Ir Z).den W U M=(Z.den W U M).bind λG M1=>.ok (.vl G) M1:=rfl
@[simp] def ahg:Ex.Xz.den W Z M=new (.dT []) M:=rfl
@[simp] def aav(a b:Ex):(Ex.ix a b).den W Z M=(a.den W Z M).bind λx G=>(b.den W Z G).bind λy M2=>Res.qx (w5 x y M2) M2:=rfl
@[simp] def aci(a:Ex)(G U:OEx):(Ex.cut a G U).den W Z M=(a.den W Z M).bind λx R=>(G.den W Z R).bind λl M2=>(U.den W Z M2).bind λh M3=>Res.qx (Iw x l h M3) M3:=rfl
@[simp] def X7(f:Nat)(Z:Dd):(Ex.call f Z).den W U M=(Z.den W U M).bind λG M1=>W.call f G M1:=rfl
@[simp] def ahh(c:Nat):(Ex.make c).den W G M=(match W.cls[c]? with
 |some C=>(W.call C.init [.ref M.length] (M++[.ins c []])).bind λr Z=>match r with|.non=>.ok (.ref M.length) Z|_=>.bad
 | none=>.bad):=rfl
@[simp] def ahi(o:Ex)(m:Nat)(U:Dd):(Ex.meth o m U).den W G M=(o.den W G M).bind λx Z=>(U.den W G Z).bind λR M2=>(match x with
 |.ref n=>match Z[n]? with
  |some (.ins c _)=>match(W.cls[c]?).bind λC=>C.meths.lookup m with
   |some f=>W.call f (.ref n::R) M2|none=>.bad
  |_=>.bad
 | _=>.bad):=rfl
@[simp] def ama(o:Ex)(f:Nat):(Ex.fld o f).den W Z M=(o.den W Z M).bind λx M1=>Res.qx (Gw x f M1) M1:=rfl
@[simp] def Mg(b:Blt)(Z:Dd):(Ex.blt b Z).den W U M=(Z.den W U M).bind λG M1=>v9 b G M1:=rfl
@[simp] def aru(m:Bm)(o:Ex)(U:Dd):(Ex.bm m o U).den W G M=(o.den W G M).bind λx Z=>if Iz m x Z then(U.den W G Z).bind λR M2=>Bj m x R M2 else .bad:=rfl
def X8(v:Bool)(k:Nat)(t:Tg)(it:Lh)(e:Ex):(Ex.comp v k t it e).den W U M=(it.den W U M).bind λs R =>
 (za s (λd M=>match t.put d (U++List.replicate k none) with
  |some Z=>(e.den W Z M).bind λx M'=>.ok (some x) M'
  | none=>.bad) R).bind λG M2=>if v then .ok (.vl G) M2 else new (.lst G) M2:=rfl
def Rc(v:Bool)(k:Nat)(t:Tg)(it:Lh)(c e:Ex):(Ex.yz v k t it c e).den W R M=(it.den W R M).bind λs M1 =>
 (za s (λd M=>match t.put d (R++List.replicate k none) with
  |some Z=>(c.den W Z M).bind λb M'=>match b with
   |.bl true=>(e.den W Z M').bind λx G=>.ok (some x) G
   |.bl false=>.ok none M'|_=>.bad
  | none=>.bad) M1).bind λU M2=>if v then .ok (.vl U) M2 else new (.lst U) M2:=rfl
@[simp] def Bk:Dd.nil.den W Z M=.ok [] M:=rfl
@[simp] def Ag(e:Ex)(Z:Dd):(Dd.cons e Z).den W G M=(e.den W G M).bind λx R=>(Z.den W G R).bind λU M2=>.ok (x::U) M2:=rfl
@[simp] def Ul:OEx.none.den W Z M=.ok none M:=rfl
@[simp] def Um(e:Ex):(OEx.some e).den W G M=(e.den W G M).bind λx Z=>match x with|.int i=>.ok (some i) Z|_=>.bad:=rfl
@[simp] def Mh(e:Ex):(Lh.val e).den W Z M=(e.den W Z M).bind λx M1=>Res.qx (srcOf M1 x) M1:=rfl
@[simp] theorem Qo{W:Ks}{Z:Env}{M:dj}(e:Ex):(Lh.T6 e).den W Z M=(e.den W Z M).bind λx G=>match x with
 |.int i=>if i.natAbs<=100000 then .ok (.con ((List.range i.toNat).map λ(k:Nat)=>D.int (k:Int))) G else .bad
 |_=>.bad:=rfl
@[simp] def Vz(e:Ex):(Lh.enm e).den W Z M=(e.den W Z M).bind afi:=rfl
@[simp] def Yb(e:Ex):(Lh.vals e).den W Z M=(e.den W Z M).bind acg:=rfl
@[simp] def acj(Z:Dd):(Lh.zip Z).den W G M=(Z.den W G M).bind ars:=rfl
@[simp] def V0(e:Ex):(Ex.ntr e).den W G M=(e.den W G M).bind λx M1=>Res.qx ((j8 M1 x).map λZ=>D.bl Z.isEmpty) M1:=rfl
@[simp] def ack(e:Ex):(Ex.tru e).den W G M=(e.den W G M).bind λx M1=>Res.qx ((j8 M1 x).map λZ=>D.bl !Z.isEmpty) M1:=rfl
@[simp] def V1(l:Lv)(e:Ex):(Af.asg l e).den W G M=(e.den W G M).bind λx U=>(l.put W x G U).bind λZ M2=>.ok (.next,Z) M2:=rfl
@[simp] def acn(e:Ex):(Af.expr e).den W Z M=(e.den W Z M).bind λ_ M1=>.ok (.next,Z) M1:=rfl
def arv(c:Ex)(a b:m7):(Af.iff c a b).den W Z M=(c.den W Z M).bind λx G=>match x with|.bl true=>a.den W Z G|.bl false=>b.den W Z G|_=>.bad:=rfl
@[simp] def arx(e:Ex):(Af.ret e).den W Z M=(e.den W Z M).bind λx M1=>.ok (.ret x,Z) M1:=rfl
@[simp] def ahj:Af.raise.den W Z M=.bad:=rfl
def Li(c:Ex)(b:m7):(Af.whl c b).den W Z M=Ay (c.den W) (b.den W) Rb Z M:=rfl
def ahk(t:Tg)(it:Lh)(b:m7):(Af.for_ t it b).den W Z M=(it.den W Z M).bind λs M1=>Bg s.fin s.item (λd Z M=>match t.put d Z with
 | some G=>b.den W G M|none=>.bad) s.len 0 Z M1:=rfl
@[simp] def amb:m7.nil.den W Z M=.ok (.next,Z) M:=rfl
theorem Yc{W:Ks}{Z:Env}{M:dj}(s:Af)(r:m7):(m7.cons s r).den W Z M=(s.den W Z M).bind λp M1=>match p.1 with
 |.next=>r.den W p.2 M1|.brk=>.ok (.brk,p.2) M1|.cont=>.ok (.cont,p.2) M1|.ret d=>.ok (.ret d,p.2) M1:=rfl
def ahl(W:Ks)(r:m7)(x:Res (Flow×Env)):Res (Flow×Env):=x.bind λp Z=>match p.1 with
 |.next=>r.den W p.2 Z|.brk=>.ok (.brk,p.2) Z|.cont=>.ok (.cont,p.2) Z|.ret d=>.ok (.ret d,p.2) Z
@[simp] def aco(s:Af)(r:m7):(m7.cons s r).den W Z M=ahl W r (s.den W Z M):=rfl
@[simp] def Yd(r:m7):ahl W r (.ok (.next,Z) M)=r.den W Z M:=rfl
@[simp] def a2o(r:m7):ahl W r (.ok (.brk,Z) M)=.ok (.brk,Z) M:=rfl
@[simp] def axl(r:m7):ahl W r (.ok (.cont,Z) M)=.ok (.cont,Z) M:=rfl
@[simp] def a2p(r:m7)(d:D):ahl W r (.ok (.ret d,Z) M)=.ok (.ret d,Z) M:=rfl
def ifK{α:Type}(a b:dj->Res α)(x:Res D):Res α:=x.bind λx Z=>match x with|.bl true=>a Z|.bl false=>b Z|_=>.bad
@[simp] def ahm(c:Ex)(a b:m7):(Af.iff c a b).den W Z M=ifK (a.den W Z) (b.den W Z) (c.den W Z M):=rfl
@[simp] def a4w(a b:Ex):(Ex.and a b).den W Z M=ifK (b.den W Z) (.ok (.bl false)) (a.den W Z M):=rfl
@[simp] def aqg(a b:Ex):(Ex.or a b).den W Z M=ifK (.ok (.bl true)) (b.den W Z) (a.den W Z M):=rfl
@[simp] def axm(a b:dj->Res α):ifK a b (.ok (.bl true) M)=a M:=rfl
@[simp] def aqh(a b:dj->Res α):ifK a b (.ok (.bl false) M)=b M:=rfl
@[simp] def aaw(t:Tg)(d:D):(Lv.tg t).put W d Z M=Res.qx (t.put d Z) M:=rfl
@[simp] def amc(o i:Ex)(d:D):(Lv.sub o i).put W d Z M=(o.den W Z M).bind λx U=>(i.den W Z U).bind λy G=>(Res.qx (setOp x y d G) G).bind λM3 _=>.ok Z M3:=rfl
@[simp] def amd(o:Ex)(f:Nat)(d:D):(Lv.fld o f).put W d G M=(o.den W G M).bind λx Z=>(Res.qx (Ra x f d Z) Z).bind λM2 _=>.ok G M2:=rfl
@[simp] def aax(i:Nat)(d:D):(Tg.name i).put d Z=some (Z.set i (some d)):=rfl
@[simp] def aqi(is:Y3)(Z:List D)(h:Z.length=is.length):(Tg.names is).put (.tup Z) G=some (Gr is Z G):=by simp[Tg.put,h]
@[simp] def aqj(i:Nat)(is:Y3)(d:D)(Z:List D):Gr (i::is) (d::Z) G=Gr is Z (G.set i (some d)):=rfl
@[simp] def arz(Z:List D):Gr [] Z ρ=ρ:=by cases Z<;>rfl
@[simp] def axn(i j:Int):zq .add (.int i) (.int j) M=.ok (.int (i+j)) M:=rfl
@[simp] def axo(i j:Int):zq .sub (.int i) (.int j) M=.ok (.int (i-j)) M:=rfl
def Jc(i j:Int)(h:(-(2 ^ 64)<i/\i<2 ^ 64)\/(-(2 ^ 64)<j/\j<2 ^ 64)):zq .mul (.int i) (.int j) M=.ok (.int (i*j)) M:=bh h
def Uo(i j:Int)(h:0<j)(Z:j<1073741824):zq .fdiv (.int i) (.int j) M=.ok (.int (i / j)) M:=bh ⟨h,Z⟩
@[simp] def axp(i j:Int)(h:0<j):zq .mod (.int i) (.int j) M=.ok (.int (i%j)) M:=bh h
@[simp] def ar0:zq .pow (.int 10) (.int 18) M=.ok (.int (10 ^ 18)) M:=by simp[zq,aqf]
@[simp] def ame(ds:List D):afi (.tup ds) M=.ok (.con (zx ds 0)) M:=rfl
@[simp] def a4x(Z:List D):afi (.vl Z) M=.ok (.con (zx Z 0)) M:=rfl
@[simp] def eq_str(i j:PySem.Str):n8 M (.str i) (.str j)=some (decide (i=j)):=rfl
def Gx(Z G:List D)(h:Z.length+G.length<=100000):zq .add (.tup Z) (.tup G) M=.ok (.tup (Z++G)) M:=bh h
def Up(Z G:List D)(h:Z.length+G.length<=100000):zq .add (.vl Z) (.vl G) M=.ok (.vl (Z++G)) M:=bh h
@[simp] def a4y(i j:Int):Iv .lt (.int i) (.int j) M=some (decide (i<j)):=rfl
@[simp] def a4z(i j:Int):Iv .le (.int i) (.int j) M=some (decide (i<=j)):=rfl
@[simp] def cmp_gt(i j:Int):Iv .gt (.int i) (.int j) M=some (decide (j<i)):=rfl
@[simp] def a5a(i j:Int):Iv .ge (.int i) (.int j) M=some (decide (j<=i)):=rfl
@[simp] def V2(a b:D):Iv .eq a b M=n8 M a b:=rfl
@[simp] def a5b(a b:D):Iv .ne a b M=(n8 M a b).map not:=rfl
@[simp] def a5c(a b:D):Iv .inn a b M=Iu M a b:=rfl
@[simp] def awi(a b:D):Iv .Uk a b M=(Iu M a b).map not:=rfl
def V3(n:Nat)(i j:Int):Og M (n+1) (.int i) (.int j)=some (decide (i=j)):=rfl
def ahn(U:f a b=some x)(Z:T8 f G bs=some y):T8 f (a::G) (b::bs)=some (x&&y):=by simp[T8,U,Z]
@[simp] def eq_int(i j:Int):n8 M (.int i) (.int j)=some (decide (i=j)):=rfl
@[simp] def a83(i j:Bool):n8 M (.bl i) (.bl j)=some (i==j):=rfl
@[simp] def awj(ds:List D):d8 M (.vl ds)=some ds:=rfl
@[simp] def axq(ds:List D):j8 M (.vl ds)=some ds:=rfl
@[simp] def awk(ds:List D):j8 M (.tup ds)=some ds:=rfl
def iu(h:M[n]?=some (.lst ds)):d8 M (.ref n)=some ds:=by simp[d8,h]
def Dp(h:d8 M d=some ds):j8 M d=some ds:=by cases d<;>first|exact h|(simp[d8] at h)
set_option tactic.hygienic true in
def len_list(h:d8 M d=some ds):v9 .len [d] M=.ok (.int ds.length) M:=by
 show Vy M d=_;cases d with
 |vl Z=>simp[d8] at h;subst h;rfl
 |ref n =>
  simp only[d8] at h;split at h<;>simp at h;rename_i Z Y;subst h;simp[Vy,Y]
 |_=>simp[d8] at h
@[simp] def axr(d:D)(g:D->Res D):Ga [d] g=g d:=rfl
@[simp] def axs(g:D->Res D):Ga [] g=.bad:=rfl
@[simp] def awl(a b:D)(l:List D)(g:D->Res D):Ga (a::b::l) g=.bad:=rfl
@[simp] def a5d(i j:Int)(f:Int->Int->Int)(g:D->Option Int):two [.int i,.int j] f g M=.ok (.int (f i j)) M:=rfl
@[simp] def a2q(d:D)(f:Int->Int->Int)(g:D->Option Int):two [d] f g M=Res.qx ((g d).map D.int) M:=rfl
@[simp] def ar3(Z:List D):Vy M (.tup Z)=.ok (.int Z.length) M:=rfl
def Kd:v9 .len [.tup ds] M=.ok (.int ds.length) M:=rfl
def Ah(h:d8 M d=some ds)(R:0<=i)(hx:ds[i.toNat]?=some x):w5 d (.int i) M=some x:=by
 obtain⟨G,Z⟩:=ak.mp hx;have U:i<ds.length:=by lia
 cases d with
 |vl xs=>simp[d8] at h;subst h;simp[w5,ixL,j8,Q7,R,U,G,Z]
 |ref n =>
  simp only[d8] at h;cases e:M[n]? with
  |none=>rw[e] at h;simp at h|some o=>rw[e] at h;cases o<;>simp at h<;>subst h<;>simp[w5,ixL,j8,d8,e,Q7,R,U,G,Z]
 |_=>simp[d8] at h
def Oh(h0:0<=i)(U:ds[i.toNat]?=some x):w5 (.tup ds) (.int i) M=some x:=by
 obtain⟨G,Z⟩:=ak.mp U;have R:i<ds.length:=by lia
 simp[w5,ixL,j8,Q7,h0,R,G,Z]
def axt(h0:0<=i)(U:ds[i.toNat]?=some x):w5 (.fz ds) (.int i) M=some x:=by
 obtain⟨G,Z⟩:=ak.mp U;have R:i<ds.length:=by lia
 simp[w5,ixL,Q7,h0,R,G,Z]
def aho:v9 .len [.fz ds] M=.ok (.int ds.length) M:=rfl
@[simp] def Dj(x:D)(r:List D):w5 (.tup (x::r)) (.int 0) M=some x:=Oh (by decide) rfl
@[simp] def Ke(x y:D)(r:List D):w5 (.tup (x::y::r)) (.int 1) M=some y:=Oh (by decide) rfl
@[simp] def acp(x y z:D)(r:List D):w5 (.tup (x::y::z::r)) (.int 2) M=some z:=Oh (by decide) rfl
@[simp] def a84(i j:Int):Ha (.tup [.int i,.int j])=some [.inl i,.inl j]:=rfl
def aqk(h:M[n]?=some (.dT Z))(G:Ha b=some k):w5 (.ref n) b M=Ac Z k:=by simp[w5,h,G]
def V4(h:M[n]?=some (.dT Z))(U:Ha b=some k)(G:Z.length<100000):setOp (.ref n) b d M=some (M.set n (.dT (Mf Z k d))):=by simp[setOp,h,U,G]
def Ep(h:M[n]?=some (.lst Z)):Iz .append (.ref n) M=true:=by simp[Iz,d8,h]
def Bl(h:M[n]?=some (.lst Z))(G:Z.length<100000):Bj .append (.ref n) [d] M=.ok .non (M.set n (.lst (Z++[d]))):=by simp[Bj,onL,h,G]
def acq(h:M[n]?=some (.lst Z))(U:0<=i)(G:i<Z.length):setOp (.ref n) (.int i) d M=some (M.set n (.lst (Z.set i.toNat d))):=by simp[setOp,h,Q7,U,G]
def rn{M:dj}(h:M[a]?=some o):a<M.length:=(ak.mp h).1
def o6{M:dj}(h:M[a]?=some p):(M.set a o)[a]?=some o:=by rw[uo (rn h)]
def jc{M:dj}(h:b≠a):(M.set b o)[a]?=M[a]?:=rz h
def yu{M:dj}{a:Nat}(h:M[a]?=some o):(M++X)[a]?=some o:=by rw[gm (rn h)];exact h
@[simp] def yw{M:dj}:(M++[o])[M.length]?=some o:=by simp
theorem V5{fin:dj->Bool}{item:Nat->dj->Option D}{U:D->Env->dj->Res (Flow×Env)}(I:Nat->Env->dj->Prop){n:Nat}
 (step:∀i Z M,i<n->I i Z M->∃d fl G R,item i M=some d/\U d Z M=.ok (fl,G) R/\(fl=.next\/fl=.cont)/\I (i+1) G R) (Rf:∀Z M,I n Z M->fin M=true) :
 ∀(k i:Nat)(Z:Env)(M:dj),i+k=n->I i Z M->∃G R,Bg fin item U k i Z M=.ok (.next,G) R/\I n G R
 |0,i,Z,M,e,h=>by
  have q:i=n:=by lia
  rw[q] at h;exact⟨Z,M,by simp[Bg,Rf Z M h],h⟩
 |k+1,i,Z,M,e,h=>by
  obtain⟨d,fl,qk,M1,h1,h2,h3,h4⟩:=step i Z M (by lia) h;obtain⟨qq,M2,g1,g2⟩:=V5 I step Rf k (i+1) qk M1 (by lia) h4;refine⟨qq,M2,?_,g2⟩;rcases h3 with rfl|rfl<;>simp[Bg,h1,h2,g1]
def Qp(I:Nat->Env->dj->Prop)(h0:I 0 G M)(step:∀i d G M,ds[i]?=some d->I i G M->∃U Z M',body d G M=.ok (U,Z) M'/\(U=.next\/U=.cont)/\I (i+1) Z M') :
 ∃Z M',Bg (Src.con ds).fin (Src.con ds).item body (Src.con ds).len 0 G M=.ok (.next,Z) M'/\I ds.length Z M':=by
 refine V5 I (λi G M R h=>?_) (λ_ _ _=>rfl) ds.length 0 G M (vd _) h0;obtain⟨U,Z,M',a,b,c⟩:=step i ds[i] G M (by simp[R]) h;exact⟨ds[i],U,Z,M',by simp[Src.item,R],a,b,c⟩
def amf(I:Nat->Env->dj->Prop)(h0:I 0 G M)(step:∀i G M,i<n->I i G M->∃R Z M',body (.int i) G M=.ok (R,Z) M'/\(R=.next\/R=.cont)/\I (i+1) Z M') :
 ∃Z M',Bg (Src.con ((List.range n).map λ(k:Nat)=>D.int (k:Int))).fin (Src.con ((List.range n).map λ(k:Nat)=>D.int (k:Int))).item body (Src.con ((List.range n).map λ(k:Nat)=>D.int (k:Int))).len 0 G M=.ok (.next,Z) M'/\I n Z M':=by
 have:=Qp (ds:=(List.range n).map λ(k:Nat)=>D.int (k:Int)) (body:=body) I h0 (λi d G M U h=>by
  have hi:i<n:=by have:=(ak.mp U).1;simpa using this
  rw[ig,List.getElem?_range hi] at U;have U:D.int (i:Int)=d:=by simpa using U
  subst U;exact step i G M hi h)
 simpa using this
def ahp(I:Nat->Env->dj->Prop)(h0:I 0 G M)(stay:∀i G M,I i G M->M[p]?=some (.lst ds))(step:∀i d G M,ds[i]?=some d->I i G M->∃U Z M',body d G M=.ok (U,Z) M'/\(U=.next\/U=.cont)/\I (i+1) Z M') :
 ∃Z M',Bg (Src.live p ds.length).fin (Src.live p ds.length).item body (Src.live p ds.length).len 0 G M=.ok (.next,Z) M'/\I ds.length Z M':=by
 refine V5 I (λi G M R h=>?_) (λG M h=>by simp[Src.fin,stay _ G M h]) ds.length 0 G M (vd _) h0;obtain⟨U,Z,M',a,b,c⟩:=step i ds[i] G M (by simp[R]) h;exact⟨ds[i],U,Z,M',by simp[Src.item,stay i G M h,R],a,b,c⟩
theorem Gy{fin:dj->Bool}{item:Nat->dj->Option D}{body:D->dj->Res (Option D)}(I:Nat->List D->dj->Prop){n:Nat}
 (step:∀i Z M,i<n->I i Z M->∃d o G,item i M=some d/\body d M=.ok o G/\I (i+1) (Z++o.toList) G) (R:∀Z M,I n Z M->fin M=true) :
 ∀(k i:Nat)(Z:List D)(M:dj),i+k=n->I i Z M->∃U G,Ad fin item body k i M=.ok U G/\I n (Z++U) G
 |0,i,Z,M,e,h=>by
  have q:i=n:=by lia
  rw[q] at h;exact⟨[],M,by simp[Ad,R Z M h],by simpa using h⟩
 |k+1,i,Z,M,e,h=>by
  obtain⟨d,o,M1,h1,h2,h3⟩:=step i Z M (by lia) h;obtain⟨U,M2,g1,g2⟩:=Gy I step R k (i+1) (Z++o.toList) M1 (by lia) h3;refine⟨o.toList++U,M2,?_,by rw[<- wz];exact g2⟩;cases o<;>simp[Ad,h1,h2,g1]
def Uq{s:Src}{ds:List D}(Rf:s.fin M=true)(hl:s.len=ds.length)(hi:∀i,i<ds.length->s.item i M=ds[i]?)(h:∀d∈ds,body d M=.ok (g d) M) :
 Ad s.fin s.item body s.len 0 M=.ok (ds.filterMap g) M:=by
 obtain⟨ys,Z,e,h1,R⟩:=Gy (fin:=s.fin) (item:=s.item) (body:=body) (λi U Z=>Z=M/\U=(ds.take i).filterMap g) (n:=ds.length) (λi U Z G hI=>by
  obtain⟨rfl,rfl⟩:=hI;refine⟨ds[i],g ds[i],Z,by rw[hi i G];simp[G],h _ (List.getElem_mem G),rfl,?_⟩;rw[jd,List.filterMap_append];simp[G];cases e:g ds[i]<;>simp[e]) (λU Z h=>by rw[h.1];exact Rf) ds.length 0 [] M (vd _) ⟨rfl,rfl⟩
 rw[hl,e,h1];simp at R;rw[R]
def ahq(h:∀d∈ds,body d M=.ok (some (g d)) M) :
 Ad (Src.con ds).fin (Src.con ds).item body (Src.con ds).len 0 M=.ok (ds.map g) M:=by
 rw[Uq (s:=.con ds) (ds:=ds) (g:=λd=>some (g d)) rfl rfl (λi _=>rfl) h,List.filterMap_eq_map']
end MW
namespace MW
theorem Df{c:Env->dj->Res D}{body:Env->dj->Res (Flow×Env)}(I:Nat->Env->dj->Prop)(R:Env->dj->Prop)
 (step:∀m Z M,I m Z M->(∃U,c Z M=.ok (.bl false) U/\R Z U) \/
  ∃U fl G M2 m',c Z M=.ok (.bl true) U/\body Z U=.ok (fl,G) M2/\(fl=.next\/fl=.cont)/\m'<m/\I m' G M2) :
 ∀(k m:Nat)(Z:Env)(M:dj),m<k->I m Z M->∃G M',Ay c body k Z M=.ok (.next,G) M'/\R G M'
 |0,m,_,_,h,_=>absurd h (o9 _)
 |k+1,m,Z,M,h,hI=>by
  rcases step m Z M hI with⟨U,h1,h2⟩|⟨U,fl,qq,M2,m',h1,h2,h3,h4,h5⟩
  .exact⟨Z,U,by simp[Ay,h1],h2⟩
  .obtain⟨qk,M3,g1,g2⟩:=Df I R step k m' qq M2 (b_ h4 (z_ h)) h5
   refine⟨qk,M3,?_,g2⟩;rcases h3 with rfl|rfl<;>simp[Ay,h1,h2,g1]
end MW
namespace MW
def mz(M Z:dj):Prop:=∀(a:Nat)(o:MO),M[a]?=some o->Z[a]?=some o
def mz.refl(M:dj):mz M M:=λ_ _ h=>h
def mz.trans(a:mz M Z)(b:mz Z M2):mz M M2:=λx o h=>b x o (a x o h)
def mz.app(M X:dj):mz M (M++X):=λ_ _ h=>yu h
def mz.len(k:mz M Z):M.length<=Z.length:=by
 rcases Nat.eq_zero_or_pos M.length with h|h
 .exact a_ (f_ h) (ie _)
 .have:=rn (k (M.length-1) M[M.length-1] (by simp))
  lia
theorem mz.d8(k:mz M Z)(h:d8 M d=some ds):MW.d8 Z d=some ds:=by
 cases d with
 |vl G=>exact h
 |ref n =>
  simp only[MW.d8] at h ⊢;cases e:M[n]? with
  |none=>rw[e] at h;simp at h|some o=>rw[e] at h;rw[k n o e];exact h
 |_=>simp[MW.d8] at h
def aay(I:Nat->Env->dj->Prop)(U:d8 M d=some ds)(h0:I 0 G M)(stay:∀i G M,I i G M->d8 M d=some ds)(step:∀i x G M,ds[i]?=some x->I i G M->∃R Z M',body x G M=.ok (R,Z) M'/\(R=.next\/R=.cont)/\I (i+1) Z M') :
 ∃s,srcOf M d=some s/\∃Z M',Bg s.fin s.item body s.len 0 G M=.ok (.next,Z) M'/\I ds.length Z M':=by
 cases d with
 |vl xs=>simp[d8] at U;subst U;exact⟨_,rfl,Qp I h0 step⟩
 |ref n =>
  cases e:M[n]? with
  |none=>simp[d8,e] at U
  |some o =>
   cases o with
   |lst xs =>
    simp[d8,e] at U;subst U;refine⟨.live n xs.length,by simp[srcOf,e],ahp I h0 (λi G M h=>?_) step⟩;have:=stay i G M h;simp only[d8] at this;split at this<;>simp_all
   |_=>simp[d8,e] at U
 |_=>simp[d8] at U
def amg(Z:ds.length<=100000)(h:∀d∈ds,body d M=.ok (some (g d)) M):za (.con ds) body M=.ok (ds.map g) M:=by rw[za,bh (show(Src.con ds).len<=100000 from Z)];exact ahq h
def Ye(Z:ds.length<=100000)(h:∀d∈ds,body d M=.ok (g d) M):za (.con ds) body M=.ok (ds.filterMap g) M:=by rw[za,bh (show(Src.con ds).len<=100000 from Z)];exact Uq (s:=.con ds) rfl rfl (λ_ _=>rfl) h
def Kf(v:Bool)(k:Nat)(t:Tg)(it:Lh)(e:Ex):(Ex.comp v k t it e).den W Z M=(it.den W Z M).bind λs R =>
 (za s (λd M=>(Res.qx (t.put d (Z++List.replicate k none)) M).bind λG M=>(e.den W G M).bind λx M'=>.ok (some x) M') R).bind λU M2=>if v then .ok (.vl U) M2 else new (.lst U) M2:=by
 rw[X8]
 congr 1;funext s R;congr 2;funext d M
 cases t.put d (Z++List.replicate k none)<;>rfl
def Je(v:Bool)(k:Nat)(t:Tg)(it:Lh)(c e:Ex):(Ex.yz v k t it c e).den W G M=(it.den W G M).bind λs M1 =>
 (za s (λd M=>(Res.qx (t.put d (G++List.replicate k none)) M).bind λZ M=>(c.den W Z M).bind λb M' =>
  match b with
   |.bl true=>(e.den W Z M').bind λx U=>.ok (some x) U
   | .bl false=>.ok none M'|_=>.bad) M1).bind λR M2=>if v then .ok (.vl R) M2 else new (.lst R) M2:=by
 rw[Rc]
 congr 1;funext s M1;congr 2;funext d M
 cases t.put d (G++List.replicate k none)<;>rfl
def Mi(t:Tg)(it:Lh)(b:m7):(Af.for_ t it b).den W Z M=(it.den W Z M).bind λs M1=>Bg s.fin s.item (λd Z M=>(Res.qx (t.put d Z) M).bind λG M=>b.den W G M) s.len 0 Z M1:=by
 rw[ahk]
 congr 1;funext s M1;congr 1;funext d Z M
 cases t.put d Z<;>rfl
def Gf(R:it.den W ρ M=.ok (.int (n:Int)) M1)(hn:n<=100000)(I:Nat->Env->dj->Prop)(h0:I 0 ρ M1)(step:∀i ρ M,i<n->I i ρ M->∃G U Z M',t.put (.int i) ρ=some G/\b.den W G M=.ok (U,Z) M'/\(U=.next\/U=.cont)/\I (i+1) Z M') :
 ∃Z M',(Af.for_ t (.T6 it) b).den W ρ M=.ok (.next,Z) M'/\I n Z M':=by
 rw[Mi,Qo,R];have Vx:((n:Int)).natAbs<=100000:=by lia
 simp only[Res.vo,Vx,j6,m5];exact amf I h0 (λi ρ M hi h=>by
  obtain⟨G,U,Z,M',a,b,c,d⟩:=step i ρ M hi h;exact⟨U,Z,M',by rw[a];exact b,c,d⟩)
def vf(R:it.den W ρ M=.ok d M1)(hd:d8 M1 d=some ds)(I:Nat->Env->dj->Prop)(h0:I 0 ρ M1)(stay:∀i ρ M,I i ρ M->d8 M d=some ds)(step:∀i x ρ M,ds[i]?=some x->I i ρ M->∃G U Z M',t.put x ρ=some G/\b.den W G M=.ok (U,Z) M'/\(U=.next\/U=.cont)/\I (i+1) Z M') :
 ∃Z M',(Af.for_ t (.val it) b).den W ρ M=.ok (.next,Z) M'/\I ds.length Z M':=by
 rw[Mi,Mh,R];obtain⟨s,h1,h2⟩:=aay (body:=λd ρ M=>(Res.qx (t.put d ρ) M).bind λZ M=>b.den W Z M) I hd h0 stay (λi x ρ M hx h=>by
  obtain⟨G,U,Z,M',a,b,c,d⟩:=step i x ρ M hx h;exact⟨U,Z,M',by rw[a];exact b,c,d⟩)
 simp only[Res.vo,h1,Res.uw];exact h2
def O4(R:it.den W ρ M=.ok (.tup ds) M1)(I:Nat->Env->dj->Prop)(h0:I 0 ρ M1)(step:∀i x ρ M,ds[i]?=some x->I i ρ M->∃G U Z M',t.put x ρ=some G/\b.den W G M=.ok (U,Z) M'/\(U=.next\/U=.cont)/\I (i+1) Z M') :
 ∃Z M',(Af.for_ t (.val it) b).den W ρ M=.ok (.next,Z) M'/\I ds.length Z M':=by
 rw[Mi,Mh,R];exact Qp I h0 (λi x ρ M hx h=>by
  obtain⟨G,U,Z,M',a,b,c,d⟩:=step i x ρ M hx h;exact⟨U,Z,M',by rw[a];exact b,c,d⟩)
def Jf(qk:it.den W ρ M=.ok (.tup ds) M1)(I:Nat->Env->dj->Prop)(h0:I 0 ρ M1)(step:∀i x ρ M,ds[i]?=some x->I i ρ M->∃G U Z M',t.put (.tup [.int i,x]) ρ=some G/\b.den W G M=.ok (U,Z) M'/\(U=.next\/U=.cont)/\I (i+1) Z M') :
 ∃Z M',(Af.for_ t (.enm it) b).den W ρ M=.ok (.next,Z) M'/\I ds.length Z M':=by
 rw[Mi,Vz,qk];have:=Qp (ds:=zx ds 0) (body:=λd ρ M=>(Res.qx (t.put d ρ) M).bind λZ M=>b.den W Z M) I h0 (λi x ρ M hx h=>by
  have R:i<ds.length:=by have:=(ak.mp hx).1;simpa[zx] using this
  have qq:x=.tup [.int i,ds[i]]:=by simp[zx,R] at hx;exact hx.symm
  subst qq;obtain⟨G,U,Z,M',a,b,c,d⟩:=step i ds[i] ρ M (by simp[R]) h;exact⟨U,Z,M',by rw[a];exact b,c,d⟩)
 have e:(zx ds 0).length=ds.length:=by simp[zx]
 rw[e] at this;exact this
def Rg(G:it.den W U M=.ok (.int (n:Int)) M1)(R:n<=100000)(h:∀i,i<n->∃Z,t.put (.int i) (U++List.replicate k none)=some Z/\c.den W Z M1=.ok (.bl (q i)) M1/\(q i=true->e.den W Z M1=.ok (g i) M1)) :
 (Ex.yz v k t (.T6 it) c e).den W U M=if v then .ok (.vl (((List.range n).filter q).map g)) M1 else new (.lst (((List.range n).filter q).map g)) M1:=by
 rw[Je,Qo,G];have Vx:((n:Int)).natAbs<=100000:=by lia
 simp only[Res.vo,Vx,j6,m5];rw[Ye (ds:=(List.range n).map λ(k:Nat)=>D.int (k:Int)) (g:=λd=>match d with|.int i=>if q i.toNat then some (g i.toNat) else none|_=>none) (by simpa using R) (λx hx=>by
  obtain⟨i,hi,rfl⟩:=dq.mp hx;obtain⟨Z,a,b,c⟩:=h i (km.mp hi);rw[a,Res.uw,Res.vo,b,Res.vo];cases e:q i with
  | true=>simp[e,c e]|false=>simp[e])]
 have:(((List.range n).map λ(k:Nat)=>D.int (k:Int)).filterMap λd=>match d with|.int i=>if q i.toNat then some (g i.toNat) else none|_=>none)=((List.range n).filter q).map g:=by
  rw[List.filterMap_map]
  induction List.range n with
  |nil=>rfl|cons a l ih=>by_cases e:q a=true<;>simp[e,ih]
 rw[this];rfl
def Rh(qq:it.den W ρ M=.ok (.tup ds) M1)(hl:ds.length<=100000)(h:∀(i:Nat) (x:D),ds[i]?=some x->∃Z,t.put (.tup [.int i,x]) (ρ++List.replicate k none)=some Z/\c.den W Z M1=.ok (.bl (q i)) M1/\(q i=true->e.den W Z M1=.ok (g i) M1)) :
 (Ex.yz v k t (.enm it) c e).den W ρ M=if v then .ok (.vl (((List.range ds.length).filter q).map g)) M1 else new (.lst (((List.range ds.length).filter q).map g)) M1:=by
 rw[Je,Vz,qq];simp only[Res.vo,ame];rw[Ye (ds:=zx ds 0) (g:=λd=>match d with|.tup [.int i,_]=>if q i.toNat then some (g i.toNat) else none|_=>none) (by simpa[zx] using hl) (λx hx=>by
  obtain⟨i,hi,ei⟩:=v5 hx;have U:i<ds.length:=by simpa[zx] using hi
  have G:x=.tup [.int i,ds[i]]:=by rw[<- ei];simp[zx]
  subst G;obtain⟨Z,a,b,c⟩:=h i ds[i] (by simp[U]);rw[a,Res.uw,Res.vo,b,Res.vo];cases e:q i with
  | true=>simp[e,c e]|false=>simp[e])]
 have:((zx ds 0).filterMap λd=>match d with|.tup [.int i,_]=>if q i.toNat then some (g i.toNat) else none|_=>none)=((List.range ds.length).filter q).map g:=by
  have R:∀(l:List D)(s:Nat),((zx l s).filterMap λd=>match d with|.tup [.int i,_]=>if q i.toNat then some (g i.toNat) else none|_=>none)=((List.range' s l.length).filter q).map g:=by
   intro l
   induction l with
   |nil=>intro s;rfl
   |cons a l ih =>
    intro s;have e1:zx (a::l) s=.tup [.int s,a]::zx l (s+1):=by simp[zx]
    rw[e1,d7,xx]
    by_cases e:q s=true<;>simp[e,ih]
  rw[R,List.range_eq_range']
 rw[this];rfl
def Hb(qq:it.den W ρ M=.ok (.int (n:Int)) M1)(hn:n<=100000)(I:Nat->List D->dj->Prop)(h0:I 0 [] M1)(step:∀i U M,i<n->I i U M->∃Z x M',t.put (.int i) (ρ++List.replicate k none)=some Z/\e.den W Z M=.ok x M'/\I (i+1) (U++[x]) M') :
 ∃G M',(Ex.comp v k t (.T6 it) e).den W ρ M=(if v then .ok (.vl G) M' else new (.lst G) M')/\I n G M':=by
 rw[Kf,Qo,qq];have Vx:((n:Int)).natAbs<=100000:=by lia
 simp only[Res.vo,Vx,j6,m5];obtain⟨G,M',g,h⟩:=Gy (fin:=(Src.con ((List.range n).map λ(k:Nat)=>D.int (k:Int))).fin) (item:=(Src.con ((List.range n).map λ(k:Nat)=>D.int (k:Int))).item) (body:=λd M=>(Res.qx (t.put d (ρ++List.replicate k none)) M).bind λR M=>(e.den W R M).bind λx M'=>.ok (some x) M') I (n:=n) (λi U M hi h=>by
  obtain⟨Z,x,M',a,b,c⟩:=step i U M hi h;exact⟨.int i,some x,M',by simp[Src.item,hi],by rw[a];simp[b],by simpa using c⟩) (λ_ _ _=>rfl) n 0 [] M1 (vd _) h0
 have hl:(Src.con ((List.range n).map λ(k:Nat)=>D.int (k:Int))).len=n:=by simp[Src.len]
 refine⟨G,M',?_,by simpa using h⟩;rw[za,hl,bh hn,g];rfl
abbrev Goes(I:Nat->Env->dj->Prop)(R:D->dj->Prop)(i:Nat)(r:Res (Flow×Env)):Prop:=∃fl ρ' M',r=.ok (fl,ρ') M'/\((fl=.next/\I i ρ' M')\/∃v,fl=.ret v/\R v M')
theorem acr{fin:dj->Bool}{item:Nat->dj->Option D}{G:D->Env->dj->Res (Flow×Env)}(I:Nat->Env->dj->Prop)(R:D->dj->Prop){n:Nat}
 (step:∀i Z M,i<n->I i Z M->∃d,item i M=some d/\Goes I R (i+1) (G d Z M)) (hf:∀Z M,I n Z M->fin M=true) :
 ∀k i Z M,i+k=n->I i Z M->Goes I R n (Bg fin item G k i Z M)
 |0,i,Z,M,e,h=>by
  obtain rfl:i=n:=by lia
  exact⟨_,Z,M,by simp[Bg,hf Z M h],.inl ⟨rfl,h⟩⟩
 |k+1,i,Z,M,e,h=>by
  obtain⟨d,h1,fl,U,M',h2,⟨rfl,h4⟩|⟨v,rfl,h4⟩⟩:=step i Z M (by lia) h
  .have:=acr I R step hf k (i+1) U M' (by lia) h4
   simpa[Bg,h1,h2] using this
  .exact⟨.ret v,U,M',by simp[Bg,h1,h2],.inr ⟨v,rfl,h4⟩⟩
section
variable{W:Ks}{ρ:Env}{M M1:dj}{t:Tg}{b:m7}
def amh{it:Lh}{s:Src}{n:Nat}(G:it.den W ρ M=.ok s M1)(U:s.len=n)(I:Nat->Env->dj->Prop)(R:D->dj->Prop)(h0:I 0 ρ M1)(hf:∀ρ M,I n ρ M->s.fin M=true)
 (step:∀i ρ M,i<n->I i ρ M->∃d Z,s.item i M=some d/\t.put d ρ=some Z/\Goes I R (i+1) (b.den W Z M)):Goes I R n ((Af.for_ t it b).den W ρ M):=by
 rw[Mi,G,Res.vo,U];exact acr I R (λi ρ M hi h=>by
  obtain⟨d,Z,a,b,c⟩:=step i ρ M hi h;exact⟨d,a,by rw[b];exact c⟩) hf n 0 ρ M1 (vd n) h0
def ar5{it:Lh}{s:Src}{n:Nat}(U:it.den W ρ M=.ok s M1)(R:s.len=n)(I:Nat->Env->dj->Prop)(h0:I 0 ρ M1)(hf:∀ρ M,I n ρ M->s.fin M=true)
 (step:∀i ρ M,i<n->I i ρ M->∃d G,s.item i M=some d/\t.put d ρ=some G/\∃Z M',b.den W G M=.ok (.next,Z) M'/\I (i+1) Z M'):∃Z M',(Af.for_ t it b).den W ρ M=.ok (.next,Z) M'/\I n Z M':=by
 obtain⟨fl,Z,M',e,⟨rfl,h⟩|⟨v,rfl,h⟩⟩:=amh U R I (λ_ _=>False) h0 hf λi ρ M hi h=>by obtain⟨d,G,a,b,Z,M',c,e⟩:=step i ρ M hi h;exact⟨d,G,a,b,.next,Z,M',c,.inl ⟨rfl,e⟩⟩
 .exact⟨Z,M',e,h⟩
 .exact h.elim
end
end MW
namespace K75
open MW
noncomputable section
def Er:m7:=.p (.f (.cmp .lt (.v 1) (.l (.v 0))) (.o (.ret (.ix (.v 0) (.v 1))))) (.ret (.i 0))
def Es:Fn:=⟨2,2,Er⟩
def Hc:m7:=.q (.a 2 (.call 0 (.p (.v 0) (.v 1)))) (.f (.cmp .ge (.v 2) (.bin .pow (.i 10) (.i 18))) (.o (.ret (.lst (.p (.bin .sub (.v 2) (.bin .pow (.i 10) (.i 18))) (.cst (.bl true))))))) (.ret (.lst (.p (.bin .mod (.v 2) (.i 2147483647)) (.cst (.bl false)))))
def Hd:Fn:=⟨2,3,Hc⟩
def Jg:m7:=.c (.f (.ix (.v 0) (.i 1)) (.q (.a 2 (.bin .mod (.ix (.v 0) (.i 0)) (.v 1))) (.asg (.sub (.v 0) (.i 0)) (.bin .fdiv (.ix (.v 0) (.i 0)) (.v 1))) (.ret (.v 2)))) (.c (.asg (.sub (.v 0) (.i 0)) (.bin .mod (.bin .add (.bin .mul (.ix (.v 0) (.i 0)) (.i 48271)) (.i 29)) (.i 2147483647))) (.q (.a 3 (.bin .mod (.bin .add (.bin .add (.bin .mul (.ix (.v 0) (.i 0)) (.ix (.v 0) (.i 0))) (.bin .mul (.i 39373) (.ix (.v 0) (.i 0)))) (.i 7)) (.i 2147483629))) (.a 3 (.bin .mod (.bin .add (.bin .mul (.v 3) (.v 3)) (.bin .mul (.i 16807) (.v 3))) (.i 2147483587))) (.ret (.bin .mod (.bin .fdiv (.v 3) (.i 8)) (.v 1)))))
def Jh:Fn:=⟨2,4,Jg⟩
def Ji:m7:=.c (.a 1 (.ix (.v 0) (.i 0))) (.c (.expr (.call 4 (.o (.v 1)))) (.q (.expr (.call 6 (.p (.v 1) (.ix (.v 0) (.i 1))))) (.f (.not (.call 12 (.q (.v 1) (.ix (.ix (.v 0) (.i 2)) (.i 0)) (.ix (.ix (.v 0) (.i 2)) (.i 1))))) (.o .raise)) (.f (.cmp .gt (.l (.call 13 (.o (.v 1)))) (.i 60)) (.o .raise))))
def Jj:Fn:=⟨1,2,Ji⟩
def Et:m7:=.o (.f (.not (.and (.chain .le .le (.i 0) (.v 1) (.i 7)) (.chain .le .le (.i 0) (.v 2) (.i 7)))) (.o .raise))
def Eu:Af:=.for_ (.names [1,2]) (.val (.v 0)) Et
def Mj:m7:=.q (.f (.not (.chain .le .le (.i 1) (.l (.v 0)) (.i 10))) (.o .raise)) Eu (.f (.call 5 (.o (.v 0))) (.o .raise))
def Ml:Fn:=⟨1,3,Mj⟩
def Ew:Ex:=.yz true 1 (.name 4) (.val (.v 1)) (.cmp .inn (.ix (.v 4) (.i 0)) (.v 3)) (.v 4)
def Ey:Ex:=.comp true 2 (.names [4,5]) (.val (.v 1)) (.v 5)
def Ez:m7:=.q (.a 2 (.l (.v 1))) (.a 3 Ey) (.a 1 Ew)
def Jk:Af:=.whl (.cmp .ne (.v 2) (.l (.v 1))) Ez
def Mm:m7:=.c (.a 1 (.blt .list (.o (.v 0)))) (.q (.a 2 (.neg (.i 1))) Jk (.ret (.cmp .gt (.v 2) (.i 0))))
def Mp:Fn:=⟨1,4,Mm⟩
def Dw:m7:=.o (.f (.not (.call 7 (.p (.v 0) (.v 2)))) (.o .raise))
def Dy:Af:=.for_ (.name 2) (.val (.v 1)) Dw
def Ku:m7:=.p (.f (.cmp .gt (.l (.v 1)) (.i 8)) (.o .raise)) Dy
def Kv:Fn:=⟨2,3,Ku⟩
def Fb:m7:=.p (.f (.cmp .eq (.ix (.v 1) (.i 0)) (.cst (.str (PySem.Str.ofString "same")))) (.o (.ret (.call 12 (.q (.v 0) (.ix (.v 1) (.i 1)) (.ix (.v 1) (.i 2))))))) (.ret (.and (.cmp .eq (.ix (.v 1) (.i 0)) (.cst (.str (PySem.Str.ofString "apart")))) (.call 8 (.p (.v 0) (.ix (.v 1) (.i 1))))))
def Fe:Fn:=⟨2,2,Fb⟩
def Ri:m7:=.o (.ret (.chain .le .lt (.i 0) (.v 1) (.l (.v 0))))
def Rj:Fn:=⟨2,2,Ri⟩
def Lj:Ex:=.comp true 2 (.names [2,3]) (.zip (.p (.v 1) (.cut (.v 1) (.some (.i 1)) .none))) (.cmp .eq (.ix (.ix (.v 0) (.v 2)) (.i 1)) (.ix (.ix (.v 0) (.v 3)) (.i 0)))
def Ln:Ex:=.comp true 1 (.name 2) (.val (.v 1)) (.call 8 (.p (.v 0) (.v 2)))
def Yg:m7:=.p (.f (.or (.ntr (.v 1)) (.not (.blt .all (.o Ln)))) (.o (.ret (.cst (.bl false))))) (.ret (.blt .all (.o Lj)))
def Yh:Fn:=⟨2,2,Yg⟩
def O5:m7:=.o (.ret (.ix (.ix (.v 0) (.ix (.v 1) (.i 0))) (.i 0)))
def O6:Fn:=⟨2,2,O5⟩
def Rk:m7:=.o (.ret (.ix (.ix (.v 0) (.ix (.v 1) (.neg (.i 1)))) (.i 1)))
def Rn:Fn:=⟨2,2,Rk⟩
def Mq:m7:=.p (.f (.not (.and (.call 9 (.p (.v 0) (.v 1))) (.call 9 (.p (.v 0) (.v 2))))) (.o (.ret (.cst (.bl false))))) (.ret (.and (.cmp .eq (.call 10 (.p (.v 0) (.v 1))) (.call 10 (.p (.v 0) (.v 2)))) (.cmp .eq (.call 11 (.p (.v 0) (.v 1))) (.call 11 (.p (.v 0) (.v 2))))))
def Mr:Fn:=⟨3,3,Mq⟩
def Hf:Ex:=.yz true 2 (.names [6,7]) (.enm (.v 0)) (.cmp .eq (.ix (.v 7) (.i 0)) (.v 5)) (.bin .add (.v 4) (.tup (.o (.v 6))))
def Hg:m7:=.p (.a 5 (.call 11 (.p (.v 0) (.v 4)))) (.expr (.bm .extend (.v 3) (.o Hf)))
def Hh:Af:=.for_ (.name 4) (.val (.v 2)) Hg
def Bo:m7:=.c (.expr (.bm .extend (.v 1) (.o (.v 2)))) (.q (.a 3 (.lst .z)) Hh (.a 2 (.v 3)))
def Hi:Af:=.whl (.tru (.v 2)) Bo
def Bp:Ex:=.comp true 1 (.name 6) (.T6 (.l (.v 0))) (.tup (.o (.v 6)))
def Lp:m7:=.c (.a 1 (.lst .z)) (.q (.a 2 Bp) Hi (.ret (.v 1)))
def Lq:Fn:=⟨1,6,Lp⟩
def Dg:Ex:=.yz true 1 (.name 1) (.val (.v 0)) (.cmp .eq (.ix (.v 1) (.i 0)) (.cst (.str (PySem.Str.ofString "apart")))) (.ix (.v 1) (.i 1))
def Jl:m7:=.o (.ret Dg)
def Jm:Fn:=⟨1,1,Jl⟩
def Kw:m7:=.p (.asg (.fld (.v 0) 1) (.lst .z)) (.asg (.fld (.v 0) 0) .Xz)
def Ky:Fn:=⟨1,1,Kw⟩
def O7:m7:=.o (.ret (.bm .get (.fld (.v 0) 0) (.p (.v 1) (.v 1))))
def O8:Fn:=⟨2,2,O7⟩
def Hz:m7:=.o (.ret (.cmp .eq (.meth (.v 0) 0 (.o (.v 1))) (.meth (.v 0) 0 (.o (.v 2)))))
def Ia:Fn:=⟨3,3,Hz⟩
def Dk:m7:=.o (.f (.cmp .eq (.ix (.fld (.v 0) 0) (.v 4)) (.v 3)) (.o (.asg (.sub (.fld (.v 0) 0) (.v 4)) (.v 2))))
def Gs:Af:=.for_ (.name 4) (.val (.blt .list (.o (.fld (.v 0) 0)))) Dk
def O9:m7:=.c (.expr (.bm .append (.fld (.v 0) 1) (.o (.v 1)))) (.c (.a 2 (.meth (.v 0) 0 (.o (.ix (.v 1) (.i 0))))) (.c (.a 3 (.meth (.v 0) 0 (.o (.ix (.v 1) (.i 1))))) (.q (.asg (.sub (.fld (.v 0) 0) (.ix (.v 1) (.i 0))) (.v 2)) (.asg (.sub (.fld (.v 0) 0) (.ix (.v 1) (.i 1))) (.v 3)) Gs)))
def Pa:Fn:=⟨2,5,O9⟩
def Hj:m7:=.o (.f (.not (.meth (.v 0) 1 (.p (.v 1) (.v 2)))) (.o (.expr (.meth (.v 0) 2 (.o (.tup (.q (.v 1) (.v 2) (.v 3))))))))
def Hk:Fn:=⟨4,4,Hj⟩
def Hl:m7:=.q (.a 4 (.l (.fld (.v 1) 1))) (.expr (.call 21 (.p (.v 1) (.ix (.v 0) (.i 0))))) (.expr (.call 22 (.q (.v 1) (.ix (.v 0) (.i 0)) (.call 14 (.o (.ix (.v 0) (.i 1)))))))
def Ms:Af:=.whl (.cmp .ne (.v 4) (.l (.fld (.v 1) 1))) Hl
def Ai:m7:=.o (.f (.cmp .eq (.ix (.v 3) (.i 0)) (.cst (.str (PySem.Str.ofString "same")))) (.o (.expr (.meth (.v 1) 3 (.q (.ix (.v 3) (.i 1)) (.ix (.v 3) (.i 2)) (.tup (.p (.cst (.str (PySem.Str.ofString "given"))) (.v 2))))))))
def Hm:Af:=.for_ (.names [2,3]) (.enm (.ix (.v 0) (.i 1))) Ai
def Ro:m7:=.c (.a 1 (.make 3)) (.c Hm (.q (.a 4 (.neg (.i 1))) Ms (.ret (.v 1))))
def Rp:Fn:=⟨1,5,Ro⟩
def Bq:m7:=.p (.f (.cmp .eq (.ix (.v 6) (.i 1)) (.call 10 (.p (.v 1) (.v 2)))) (.o (.expr (.meth (.v 0) 3 (.q (.bin .add (.tup (.o (.v 5))) (.v 2)) (.bin .add (.tup (.o (.v 5))) (.v 3)) (.tup (.q (.cst (.str (PySem.Str.ofString "put"))) (.tup (.o (.v 5))) (.tup .z)))))))) (.f (.cmp .eq (.ix (.v 6) (.i 0)) (.call 11 (.p (.v 1) (.v 2)))) (.o (.expr (.meth (.v 0) 3 (.q (.bin .add (.v 2) (.tup (.o (.v 5)))) (.bin .add (.v 3) (.tup (.o (.v 5)))) (.tup (.q (.cst (.str (PySem.Str.ofString "put"))) (.tup .z) (.tup (.o (.v 5))))))))))
def Ff:Af:=.for_ (.names [5,6]) (.enm (.v 1)) Bq
def Br:m7:=.o Ff
def Jo:Af:=.for_ (.names [2,3,4]) (.val (.blt .list (.o (.fld (.v 0) 1)))) Br
def Mt:m7:=.o Jo
def Mv:Fn:=⟨2,7,Mt⟩
def Aj:m7:=.o (.f (.cmp .eq (.call 11 (.p (.v 1) (.v 5))) (.ix (.ix (.v 1) (.v 3)) (.i 0))) (.p (.a 6 (.bm .setdefault (.v 4) (.p (.meth (.v 0) 0 (.o (.bin .add (.v 5) (.tup (.o (.v 3)))))) (.v 5)))) (.expr (.meth (.v 0) 3 (.q (.v 6) (.v 5) (.tup (.p (.cst (.str (PySem.Str.ofString "off"))) (.v 3))))))))
def Hn:Af:=.for_ (.name 5) (.val (.call 13 (.o (.v 1)))) Aj
def Eh:m7:=.p (.a 4 .Xz) Hn
def Mw:Af:=.for_ (.name 3) (.val (.v 2)) Eh
def Rq:m7:=.o Mw
def Rr:Fn:=⟨3,7,Rq⟩
def Yi:m7:=.c (.expr (.call 3 (.o (.v 0)))) (.q (.a 1 (.call 20 (.o (.v 0)))) (.f (.meth (.v 1) 1 (.p (.ix (.ix (.v 0) (.i 2)) (.i 0)) (.ix (.ix (.v 0) (.i 2)) (.i 1)))) (.o (.ret (.tup (.p (.cst (.str (PySem.Str.ofString "holds"))) (.blt .tuple (.o (.fld (.v 1) 1)))))))) (.ret (.call 24 (.q (.ix (.v 0) (.i 0)) (.v 1) (.call 10 (.p (.ix (.v 0) (.i 0)) (.ix (.ix (.v 0) (.i 2)) (.i 0))))))))
def Yj:Fn:=⟨1,2,Yi⟩
def Bt:Ex:=.comp true 1 (.name 10) (.val (.v 3)) (.l (.v 10))
def Bu:Ex:=.comp true 1 (.name 10) (.val (.ix (.v 3) (.ix (.v 8) (.i 0)))) (.bm .index (.v 9) (.o (.meth (.v 1) 0 (.o (.bin .add (.v 10) (.tup (.o (.v 7))))))))
def zy:m7:=.p (.a 9 (.ix (.v 3) (.ix (.v 8) (.i 1)))) (.expr (.bm .append (.v 6) (.o (.blt .tuple (.o Bu)))))
def Bv:Af:=.for_ (.names [7,8]) (.enm (.v 0)) zy
def uz:m7:=.p (.a 5 (.ix (.v 3) (.call 11 (.p (.v 0) (.v 4))))) (.f (.and (.cmp .eq (.call 10 (.p (.v 0) (.v 4))) (.v 2)) (.cmp .Uk (.meth (.v 1) 0 (.o (.v 4))) (.v 5))) (.o (.expr (.bm .append (.v 5) (.o (.meth (.v 1) 0 (.o (.v 4))))))))
def Bw:Af:=.for_ (.name 4) (.val (.call 13 (.o (.v 0)))) uz
def Bx:Ex:=.comp true 1 (.name 10) (.T6 (.call 25 (.o (.v 0)))) (.lst .z)
def Ib:m7:=.c (.a 3 Bx) (.c (.expr (.bm .append (.ix (.v 3) (.v 2)) (.o (.tup .z)))) (.c Bw (.q (.a 6 (.lst .z)) Bv (.ret (.tup (.q (.cst (.str (PySem.Str.ofString "breaks"))) (.blt .tuple (.o Bt)) (.blt .tuple (.o (.v 6)))))))))
def Ie:Fn:=⟨3,10,Ib⟩
def Kz:Ex:=.comp true 1 (.name 1) (.val (.v 0)) (.blt .max (.o (.v 1)))
def Pb:m7:=.o (.ret (.bin .add (.blt .max (.o Kz)) (.i 1)))
def Pg:Fn:=⟨1,1,Pb⟩
def By:Ex:=.yz true 1 (.name 4) (.T6 (.l (.v 0))) (.cmp .eq (.ix (.ix (.v 0) (.v 4)) (.i 0)) (.v 3)) (.bin .add (.ix (.v 1) (.v 2)) (.tup (.o (.v 4))))
def Ca:m7:=.q (.a 3 (.ix (.ix (.v 0) (.ix (.ix (.v 1) (.v 2)) (.neg (.i 1)))) (.i 1))) (.expr (.bm .extend (.v 1) (.o By))) (.a 2 (.bin .add (.v 2) (.i 1)))
def Gg:Af:=.whl (.cmp .lt (.v 2) (.l (.v 1))) Ca
def Cd:Ex:=.comp false 1 (.name 4) (.T6 (.l (.v 0))) (.tup (.o (.v 4)))
def Ig:m7:=.c (.a 1 Cd) (.q (.a 2 (.i 0)) Gg (.ret (.v 1)))
def Ih:Fn:=⟨1,4,Ig⟩
def Am:Ex:=.comp true 1 (.name 6) (.val (.v 4)) (.tup (.p (.v 5) (.v 6)))
def zb:m7:=.o (.expr (.bm .extend (.v 3) (.o Am)))
def An:Af:=.for_ (.name 5) (.val (.v 4)) zb
def Ao:m7:=.o An
def Aq:Af:=.for_ (.name 4) (.vals (.v 1)) Ao
def Ec:m7:=.o (.expr (.bm .append (.bm .setdefault (.v 1) (.p (.tup (.p (.ix (.ix (.v 0) (.ix (.v 2) (.i 0))) (.i 0)) (.ix (.ix (.v 0) (.ix (.v 2) (.neg (.i 1)))) (.i 1)))) (.lst .z))) (.o (.v 2))))
def Av:Af:=.for_ (.name 2) (.val (.call 26 (.o (.v 0)))) Ec
def Gh:m7:=.c (.a 1 .Xz) (.c Av (.q (.a 3 (.lst .z)) Aq (.ret (.v 3))))
def Gi:Fn:=⟨1,6,Gh⟩
def zr:Ex:=.yz true 1 (.name 9) (.val (.v 5)) (.cmp .ne (.ix (.v 9) (.i 0)) (.ix (.v 9) (.i 1))) (.v 9)
def Az:m7:=.o (.expr (.bm .append (.v 6) (.o (.bin .add (.tup (.o (.cst (.str (PySem.Str.ofString "same"))))) (.ix (.v 5) (.call 2 (.p (.v 0) (.l (.v 5)))))))))
def Ba:Af:=.for_ (.name 2) (.T6 (.call 2 (.p (.v 0) (.i 4)))) Az
def Bb:Ex:=.comp false 1 (.name 9) (.T6 (.call 2 (.p (.v 0) (.i 4)))) (.tup (.p (.cst (.str (PySem.Str.ofString "apart"))) (.call 2 (.p (.v 0) (.l (.v 1))))))
def Bc:m7:=.p (.a 3 (.call 2 (.p (.v 0) (.i 4)))) (.expr (.bm .append (.v 1) (.o (.tup (.p (.v 3) (.bin .add (.bin .add (.v 3) (.i 1)) (.call 2 (.p (.v 0) (.ix (.Ir (.c (.i 1) (.q (.i 1) (.i 2) (.i 3)))) (.call 2 (.p (.v 0) (.i 4))))))))))))
def Be:Af:=.for_ (.name 2) (.T6 (.bin .add (.i 1) (.call 2 (.p (.v 0) (.i 6))))) Bc
def K1:m7:=.c (.a 1 (.lst .z)) (.c Be (.c (.a 4 (.Ir (.q (.tup (.q (.tup (.p (.i 0) (.i 1))) (.tup (.p (.i 0) (.i 1))) (.tup (.p (.i 1) (.i 2))))) (.tup (.c (.tup (.p (.i 0) (.i 1))) (.q (.tup (.p (.i 1) (.i 2))) (.tup (.p (.i 0) (.i 2))) (.tup (.p (.i 2) (.i 3)))))) (.tup (.c (.tup (.p (.i 0) (.i 1))) (.c (.tup (.p (.i 0) (.i 2))) (.q (.tup (.p (.i 1) (.i 3))) (.tup (.p (.i 2) (.i 3))) (.tup (.p (.i 3) (.i 4)))))))))) (.c (.a 4 (.bin .add (.v 4) (.Ir (.p (.tup (.c (.tup (.p (.i 0) (.i 1))) (.c (.tup (.p (.i 1) (.i 2))) (.c (.tup (.p (.i 0) (.i 3))) (.c (.tup (.p (.i 3) (.i 4))) (.q (.tup (.p (.i 1) (.i 4))) (.tup (.p (.i 2) (.i 5))) (.tup (.p (.i 4) (.i 5))))))))) (.tup (.c (.tup (.p (.i 3) (.i 1))) (.c (.tup (.p (.i 3) (.i 1))) (.q (.tup (.p (.i 1) (.i 0))) (.tup (.p (.i 1) (.i 0))) (.tup (.p (.i 0) (.i 2))))))))))) (.c (.f (.cmp .gt (.call 2 (.p (.v 0) (.i 3))) (.i 0)) (.o (.a 1 (.ix (.v 4) (.call 2 (.p (.v 0) (.i 5))))))) (.c (.a 5 (.call 27 (.o (.v 1)))) (.c (.a 6 Bb) (.c Ba (.c (.a 7 (.call 2 (.p (.v 0) (.bin .add (.i 1) (.l (.v 6)))))) (.q (.a 8 zr) (.f (.or (.cmp .eq (.v 8) (.Ir .z)) (.cmp .eq (.call 2 (.p (.v 0) (.i 8))) (.i 0))) (.o (.a 8 (.v 5)))) (.ret (.tup (.q (.blt .tuple (.o (.v 1))) (.blt .tuple (.o (.bin .add (.cut (.v 6) (.some (.v 7)) .none) (.cut (.v 6) .none (.some (.v 7)))))) (.ix (.v 8) (.call 2 (.p (.v 0) (.l (.v 8)))))))))))))))))
def K5:Fn:=⟨1,9,K1⟩
def zf:m7:=.o (.f (.cmp .eq (.ix (.v 5) (.v 11)) (.v 10)) (.o (.asg (.sub (.v 5) (.v 11)) (.v 9))))
def Fi:Af:=.for_ (.name 11) (.val (.v 4)) zf
def Ce:m7:=.q (.a 9 (.blt .min (.p (.ix (.v 5) (.v 7)) (.ix (.v 5) (.v 8))))) (.a 10 (.blt .max (.p (.ix (.v 5) (.v 7)) (.ix (.v 5) (.v 8))))) Fi
def Fj:Af:=.for_ (.names [7,8]) (.val (.v 6)) Ce
def Fl:m7:=.p Fj (.a 6 (.call 30 (.c (.v 1) (.q (.v 2) (.v 4) (.v 5)))))
def Jp:Af:=.whl (.cmp .ne (.v 6) (.Ir .z)) Fl
def Cg:Ex:=.yz true 1 (.name 12) (.val (.v 2)) (.cmp .eq (.ix (.v 12) (.i 0)) (.cst (.str (PySem.Str.ofString "same")))) (.cut (.v 12) (.some (.i 1)) .none)
def Fo:Ex:=.comp true 2 (.names [12,13]) (.enm (.v 4)) (.tup (.p (.v 13) (.v 12)))
def Mx:m7:=.c (.asg (.tg (.names [1,2,3])) (.v 0)) (.c (.a 4 (.call 26 (.o (.v 1)))) (.c (.a 5 (.blt .dict (.o Fo))) (.q (.a 6 Cg) Jp (.ret (.v 5)))))
def My:Fn:=⟨1,12,Mx⟩
def Ci:m7:=.p (.f (.and (.cmp .inn (.bin .add (.v 6) (.tup (.o (.v 8)))) (.v 3)) (.cmp .ne (.ix (.v 3) (.bin .add (.v 6) (.tup (.o (.v 8))))) (.ix (.v 3) (.bin .add (.v 7) (.tup (.o (.v 8))))))) (.o (.expr (.bm .append (.v 5) (.o (.tup (.p (.bin .add (.v 6) (.tup (.o (.v 8)))) (.bin .add (.v 7) (.tup (.o (.v 8))))))))))) (.f (.and (.cmp .inn (.bin .add (.tup (.o (.v 8))) (.v 6)) (.v 3)) (.cmp .ne (.ix (.v 3) (.bin .add (.tup (.o (.v 8))) (.v 6))) (.ix (.v 3) (.bin .add (.tup (.o (.v 8))) (.v 7))))) (.o (.expr (.bm .append (.v 5) (.o (.tup (.p (.bin .add (.tup (.o (.v 8))) (.v 6)) (.bin .add (.tup (.o (.v 8))) (.v 7)))))))))
def Cj:Af:=.for_ (.name 8) (.T6 (.l (.v 0))) Ci
def zg:m7:=.o (.f (.and (.cmp .eq (.ix (.v 3) (.v 6)) (.ix (.v 3) (.v 7))) (.cmp .ne (.v 6) (.v 7))) (.p Cj (.f (.and (.cmp .eq (.ix (.v 6) (.neg (.i 1))) (.ix (.v 7) (.neg (.i 1)))) (.and (.cmp .inn (.ix (.v 6) (.neg (.i 1))) (.v 4)) (.cmp .ne (.ix (.v 3) (.cut (.v 6) .none (.some (.neg (.i 1))))) (.ix (.v 3) (.cut (.v 7) .none (.some (.neg (.i 1)))))))) (.o (.expr (.bm .append (.v 5) (.o (.tup (.p (.cut (.v 6) .none (.some (.neg (.i 1)))) (.cut (.v 7) .none (.some (.neg (.i 1)))))))))))))
def Fp:Af:=.for_ (.name 7) (.val (.v 2)) zg
def Cm:m7:=.o Fp
def Jq:Af:=.for_ (.name 6) (.val (.v 2)) Cm
def Fq:Ex:=.yz true 1 (.name 9) (.val (.v 1)) (.cmp .eq (.ix (.v 9) (.i 0)) (.cst (.str (PySem.Str.ofString "apart")))) (.ix (.v 9) (.i 1))
def Mz:m7:=.c (.a 4 Fq) (.q (.a 5 (.lst .z)) Jq (.ret (.v 5)))
def M8:Fn:=⟨4,9,Mz⟩
def Qq:m7:=.c (.asg (.tg (.names [3,4,5])) (.call 28 (.o (.v 1)))) (.c (.a 6 (.call 29 (.o (.tup (.q (.v 3) (.v 4) (.v 5)))))) (.c (.a 7 (.ix (.Ir (.p (.cst (.str (PySem.Str.ofString "breaks"))) (.cst (.str (PySem.Str.ofString "holds"))))) (.blt .toInt (.o (.cmp .eq (.ix (.v 6) (.ix (.v 5) (.i 0))) (.ix (.v 6) (.ix (.v 5) (.i 1)))))))) (.q (.f (.or (.cmp .ne (.ix (.call 23 (.o (.tup (.q (.v 3) (.v 4) (.v 5))))) (.i 0)) (.v 7)) (.cmp .ne (.ix (.call 23 (.o (.tup (.q (.v 3) (.bin .add (.v 4) (.tup (.o (.bin .add (.tup (.o (.cst (.str (PySem.Str.ofString "same"))))) (.v 5))))) (.v 5))))) (.i 0)) (.cst (.str (PySem.Str.ofString "holds"))))) (.o (.ret (.cst (.bl false))))) (.a 8 (.call 2 (.p (.v 1) (.bin .add (.i 1) (.l (.v 4)))))) (.f (.and (.cmp .eq (.v 7) (.cst (.str (PySem.Str.ofString "breaks")))) (.cmp .ne (.ix (.call 23 (.o (.tup (.q (.v 3) (.bin .add (.cut (.v 4) .none (.some (.v 8))) (.cut (.v 4) (.some (.bin .add (.v 8) (.i 1))) .none)) (.v 5))))) (.i 0)) (.cst (.str (PySem.Str.ofString "breaks"))))) (.o (.ret (.cst (.bl false))))))))
def acs:Af:=.for_ (.name 2) (.T6 (.i 4)) Qq
def aql:m7:=.q (.a 1 (.call 1 (.p (.v 0) (.i 0)))) acs (.ret (.cst (.bl true)))
def ahs:Fn:=⟨1,9,aql⟩
def prog:Prog:=⟨[Es,Hd,Jh,Jj,Ml,Mp,Kv,Fe,Rj,Yh,O6,Rn,Mr,Lq,Jm,Ky,O8,Ia,Pa,Hk,Rp,Mv,Rr,Yj,Ie,Pg,Ih,Gi,K5,My,M8,ahs],[⟨0,[]⟩,⟨0,[]⟩,⟨0,[]⟩,⟨15,[(0,16),(1,17),(2,18),(3,19)]⟩]⟩
end
abbrev PW(m:Nat):Ks:=⟨prog.call m,prog.cls⟩
noncomputable abbrev sR(n:Nat):Option D:=some (.ref n)
noncomputable abbrev sI(i:Int):Option D:=some (.int i)
noncomputable def nD(x:Nat):D:=.int (x:Int)
def cj(r:Y3):D:=.tup (r.map nD)
def V6(x y:Nat):decide ((x:Int)=(y:Int))=decide (x=y):=by
 by_cases h:x=y
 .simp[h]
 .have:¬((x:Int)=(y:Int)):=by lia
  simp[h,this]
def um(M:dj)(n x y:Nat):Og M (n+1) (.int x) (.int y)=some (decide (x=y)):=by rw[V3,V6]
theorem acu(M:dj)(n:Nat):∀r s:List Nat,T8 (Og M (n+1)) (r.map nD) (s.map nD)=some (decide (r=s))
 |[],[]=>by simp[T8]|[],_::_=>by simp[T8]|_::_,[]=>by simp[T8]
 |x::r,y::s=>by
  rw[cz,cz,ahn (a:=nD x) (b:=nD y) (um M n x y) (acu M n r s)]
  by_cases h:x=y<;>simp[h]
def Oi(M:dj)(r s:Y3):n8 M (cj r) (cj s)=some (decide (r=s)):=acu M 4 r s
theorem V7(M:dj)(g:Y3):∀fs:List (List Nat),Qg M (cj g) (fs.map cj)=some (fs.map λf=>decide (f=g))
 |[]=>rfl|f::fs=>by simp[Qg,Oi,V7 M g fs]
def ami(M:dj)(g:Y3)(fs:List (List Nat)):memD M (cj g) (fs.map cj)=some (decide (g∈fs)):=by
 rw[memD,V7,m8]
 congr 1
 rw[wu,List.any_eq_true,du];constructor
 .rintro⟨b,U,Z⟩
  obtain⟨f,G,rfl⟩:=dq.mp U;simpa using(show f=g by simpa using Z)▸G
 .intro h
  exact⟨true,dq.mpr ⟨g,h,by simp⟩,rfl⟩
noncomputable abbrev Ar:=Nat×Nat
noncomputable def aD(e:Ar):D:=.tup [.int e.1,.int e.2]
noncomputable def at_(Z:List Ar)(i:Nat):Ar:=Z.getD i (0,0)
noncomputable def hw(w:Y3):Nat:=w.headD 0
noncomputable def lw(w:Y3):Nat:=w.getLastD 0
def Ek(Z:List Ar)(w:Y3):Nat:=(at_ Z (hw w)).1
def yr(Z:List Ar)(w:Y3):Nat:=(at_ Z (lw w)).2
def Xr(Z:List Ar):List Nat->Prop
 |a::b::r=>(at_ Z a).2=(at_ Z b).1/\Xr Z (b::r)|_=>True
structure Way(es:List Ar)(w:Y3):Prop where
 ne:w≠[]
 lt:∀i∈w,i<es.length
 ch:Xr es w
def nxt(Z:List Ar)(v:Nat):List Nat:=(List.range Z.length).filter λk=>decide ((at_ Z k).1=v)
def ext(Z:List Ar)(w:Y3):List (List Nat):=(nxt Z (yr Z w)).map λk=>w++[k]
structure Ends(es:List Ar)(V:Nat->Nat):Prop where
 pos:1<=es.length
 few:es.length<=10
 sm:∀e∈es,e.1<=7/\e.2<=7
 pot:∀v,((nxt es v).map λk=>1+V (at_ es k).2).sum<=V v
 Ph:((List.range es.length).map λk=>1+V (at_ es k).2).sum<=60
def Phi(G:List Ar)(V:Nat->Nat)(Z:List (List Nat)):Nat:=(Z.map λw=>1+V (yr G w)).sum
theorem Dl(G:List Ar)(V:Nat->Nat):∀Z:List (List Nat),Z.length+(Z.map λw=>V (yr G w)).sum=Phi G V Z
 |[]=>rfl|w::Z=>by have:=Dl G V Z;simp[Phi] at this ⊢;lia
def amj(Z:List Ar)(V:Nat->Nat)(a b:List (List Nat)):Phi Z V (a++b)=Phi Z V a+Phi Z V b:=by simp[Phi]
def V8(E:Ends es V)(w:Y3):Phi es V (ext es w)<=V (yr es w):=by
 have h:=E.pot (yr es w);have e:(ext es w).map (λw=>1+V (yr es w))=(nxt es (yr es w)).map λk=>1+V (at_ es k).2:=by simp[ext,yr,lw,gh,iz]
 rw[Phi,e];exact h
def Pj(h:i<es.length):es[i]?=some (at_ es i):=by simp[at_,List.getD,h]
theorem acv:∀{w:Y3},Xr es w->w≠[]->(at_ es k).1=yr es w->Xr es (w++[k])
 |[],_,h,_=>absurd rfl h|[a],_,_,e=>⟨by simpa[yr,lw] using e.symm,trivial⟩|a::b::r,h,_,e=>⟨h.1,acv (w:=b::r) h.2 (by simp) (by simpa[yr,lw] using e)⟩
def Way.app(W:Way es w)(Z:k<es.length)(e:(at_ es k).1=yr es w):Way es (w++[k]) :=
 ⟨by simp,λi G=>by rcases cg.mp G with h|h;exact W.lt i h;simp at h;exact h▸Z,acv W.ch W.ne e⟩
def Way.one(G:k<es.length):Way es [k]:=⟨by simp,λi Z=>by simp at Z;exact Z▸G,trivial⟩
def Ho:k∈nxt es v↔k<es.length/\(at_ es k).1=v:=by simp[nxt]
def V9(W:Way es w)(h:u∈ext es w):Way es u:=by obtain⟨k,U,rfl⟩:=dq.mp h;obtain⟨Z,G⟩:=Ho.mp U;exact W.app Z G
def call_of(U:1<=m)(G:prog.fns[f]?=some Z):prog.call m f ds M=Z.run (PW (m-1)) ds M:=by obtain⟨n,rfl⟩:∃n,m=n+1:=⟨m-1,by lia⟩;simp[Prog.call,G]
def ar7(n:Int)(f:Bool):Prop:=0<=n/\(f=false->n<2147483647)
def Has(t:Nat)(f:Bool)(M:dj):Prop:=∃n,M[t]?=some (.lst [.int n,.bl f])/\ar7 n f
structure St(t:Nat)(f:Bool)(M M':dj):Prop where
 len:M.length<=M'.length
 has:Has t f M'
 keep:∀(a:Nat)(o:MO),a≠t->M[a]?=some o->M'[a]?=some o
def St.trans(a:St t f M Z)(b:St t f Z M2):St t f M M2 :=
 ⟨bw a.len b.len,b.has,λx o n h=>b.keep x o n (a.keep x o n h)⟩
def St.of(h:Has t f M)(k:mz M M'):St t f M M' :=
 ⟨k.len,let ⟨n,a,b⟩:=h;⟨n,k _ _ a,b⟩,λa o _ e=>k a o e⟩
def Aa(hm:1<=m)(hs:Has t f M)(Z:0<many)(hq:many<1073741824) :
 ∃(v:Nat)(R:dj),prog.call m 2 [.ref t,.int many] M=.ok (.int v) R/\(v:Int)<many/\St t f M R/\R.length=M.length:=by
 obtain⟨n,h,hn⟩:=hs;rw[call_of hm rfl];have hl:=iu h;have g0:=Ah hl (i:=0) (by decide) rfl;have g1:=Ah hl (i:=1) (by decide) rfl;have fin:∀n':Int,ar7 n' f->St t f M (M.set t (.lst [.int n',.bl f])):=λn' o=>⟨by simp,⟨n',o6 h,o⟩,λa u e q=>by rw[jc (jh e)];exact q⟩
 have qq:many≠0:=by lia
 have c1:∀y:Int,∃v:Nat,y%many=(v:Int)/\(v:Int)<many:=λy=>by have a:=yj y qq;have b:=wk y Z;exact⟨(y%many).toNat,by lia,by lia⟩
 cases f with
 |true =>
  obtain⟨v,e,l⟩:=c1 n;refine⟨v,_,?_,l,fin (n / many) ⟨Int.ediv_nonneg hn.1 (by lia),by simp⟩,by simp⟩;simp[Fn.run,Jh,Jg,g0,g1,Z,Uo _ _ Z hq,acq h,e]
 |false =>
  have h1:=hn.1;have h2:=hn.2 rfl;obtain⟨n',G⟩:∃n',(n*48271+29)%2147483647=n':=⟨_,rfl⟩;have e1:0<=n':=G▸yj _ (by decide)
  have e2:n'<2147483647:=G▸wk _ (by decide)
  obtain⟨x,U⟩:∃x,(n'*n'+39373*n'+7)%2147483629=x:=⟨_,rfl⟩;have x1:0<=x:=U▸yj _ (by decide)
  have x2:x<2147483629:=U▸wk _ (by decide)
  obtain⟨y,ey⟩:∃y,(x*x+16807*x)%2147483587=y:=⟨_,rfl⟩;obtain⟨v,e,l⟩:=c1 (y / 8);refine⟨v,_,?_,l,fin n' ⟨e1,λ_=>e2⟩,by simp⟩;have k:=o6 (o:=.lst [.int n',.bl false]) h;have k0:=Ah (iu k) (i:=0) (by decide) rfl;simp[Fn.run,Jh,Jg,g0,g1,Z,acq h,Jc n 48271 (.inr (by decide)),G,k0,Jc n' n' (.inl (by lia)),Jc 39373 n' (.inl (by decide)),U,Jc x x (.inl (by lia)),Jc 16807 x (.inl (by decide)),ey,Uo _ 8 (by decide) (by decide),e]
def acw{k:Nat}{Z:X9}(U:1<=m):prog.call m 0 [.fz (Z.map D.int),.int k] M=.ok (.int (Z.getD k 0)) M:=by
 rw[call_of U rfl]
 by_cases G:k<Z.length
 .simp[Fn.run,Es,Er,aho,G,axt (ds:=Z.map D.int) (i:=k) (x:=.int (Z.getD k 0)) q_ (by simp[G])]
 .simp[Fn.run,Es,Er,aho,G]
def aht{k:Nat}{ns:X9}(Z:2<=m):∃n f,prog.call m 1 [.fz (ns.map D.int),.int k] M=.ok (.ref M.length) (M++[.lst [.int n,.bl f]])/\ar7 n f:=by
 rw[call_of (a_ (by decide) Z) rfl]
 by_cases h:(10:Int) ^ 18<=ns.getD k 0
 .refine⟨ns.getD k 0-10 ^ 18,true,?_,by lia,by simp⟩
  have G:(1000000000000000000:Int)<=ns[k]?.getD 0:=by simpa using h
  simp[Fn.run,Hd,Hc,acw (show 1<=m-1 by exact r_ Z),G,MW.new]
 .refine⟨ns.getD k 0%2147483647,false,?_,yj _ (by decide),λ_=>wk _ (by decide)⟩
  have G:¬(1000000000000000000:Int)<=ns[k]?.getD 0:=by simpa using h
  simp[Fn.run,Hd,Hc,acw (show 1<=m-1 by exact r_ Z),G,MW.new]
def ar8(h:j8 M d=some ds)(G:0<=i)(Z:ds[i.toNat]?=some x):w5 d (.int i) M=some x:=by
 cases d with
 |tup l=>cases h;exact Oh G Z|_=>exact Ah h G Z
def amk{Z:List D}(h:Z.getLast?=some x):w5 (.tup Z) (.int (-1)) M=some x:=by
 rw[List.getLast?_eq_getElem?] at h;have R:=(ak.mp h).1;have e:Q7 Z.length (-1)=some (Z.length-1):=by
  have U:-(Z.length:Int)<=-1:=by lia
  have G:(-1+(Z.length:Int)).toNat=Z.length-1:=by lia
  rw[Q7,bj (by decide),bh U,G]
 show(Q7 Z.length (-1)).bind (λj=>Z[j]?)=_;rw[e];exact h
def M9{i:Nat}(Z:j8 M d=some (es.map aD))(G:i<es.length):w5 d (.int i) M=some (aD (at_ es i)) :=
 ar8 Z (qy _) (by simp[Pj G])
def Ur{w:Y3}(h:w≠[]):w.getLast?=some (lw w)/\lw w∈w:=by
 cases e:w.getLast? with
 |none=>exact absurd (List.getLast?_eq_none_iff.mp e) h
 |some x =>
  have:lw w=x:=by rw[lw,List.getLastD_eq_getLast?,e];rfl
  rw[this];exact⟨rfl,List.mem_of_getLast? e⟩
def Jr(W:Way es w):w5 (cj w) (.int (-1)) M=some (.int (lw w:Nat)) :=
 amk (by rw[List.getLast?_map,(Ur W.ne).1];rfl)
def Way.Nb(W:Way es w):lw w<es.length:=W.lt _ (Ur W.ne).2
def Yk(W:Way es w):w5 (cj w) (.int 0) M=some (.int (hw w:Nat)):=by
 cases w with
 |nil=>exact absurd rfl W.ne|cons a r=>exact Dj _ _
def Way.Nf(W:Way es w):hw w<es.length:=by
 cases w with
 |nil=>exact absurd rfl W.ne|cons a r=>exact W.lt a bz
def Oj(Z:1<=m)(G:j8 M d=some (es.map aD))(W:Way es w):prog.call m 11 [d,cj w] M=.ok (.int (yr es w)) M:=by rw[call_of Z rfl];simp[Fn.run,Rn,Rk,Jr W,M9 G W.Nb,aD,yr]
def Rt(Z:1<=m)(G:j8 M d=some (es.map aD))(W:Way es w):prog.call m 10 [d,cj w] M=.ok (.int (Ek es w)) M:=by rw[call_of Z rfl];simp[Fn.run,O6,O5,Yk W,M9 G W.Nf,aD,Ek]
def Ru(h:M[n]?=some (.lst Z)):Iz .extend (.ref n) M=true:=by simp[Iz,d8,h]
def aaz(h:M[n]?=some (.lst Z))(G:Z.length+ys.length<100000):Bj .extend (.ref n) [.vl ys] M=.ok .non (M.set n (.lst (Z++ys))):=by simp[Bj,onL,h,G,Ja]
theorem mz.j8(k:mz M Z)(h:j8 M d=some ds):MW.j8 Z d=some ds:=by
 cases d with
 |tup l=>exact h|_=>simp only[MW.j8] at h ⊢;exact k.d8 h
theorem mz.set(k:mz Z M)(h:Z.length<=p):mz Z (M.set p o):=λa u e=>by rw[jc (qt (gf (rn e) h))];exact k a u e
def Dq(w:Y3)(k:Nat)(Z:w.length<1000):zq .add (cj w) (.tup [.int k]) M=.ok (cj (w++[k])) M:=by rw[cj,Gx _ _ (by simp;lia)];simp[cj,nD]
def acx(Z:List Ar)(w:Y3):(((List.range Z.length).filter λk=>decide ((at_ Z k).1=yr Z w)).map λk=>cj (w++[k]))=(ext Z w).map cj:=by simp[ext,nxt,gh,iz]
def Yl(G:List Ar)(V:Nat->Nat){Z:List (List Nat)}(h:Z[i]?=some w):((Z.drop i).map λw=>V (yr G w)).sum=V (yr G w)+((Z.drop (i+1)).map λw=>V (yr G w)).sum:=by obtain⟨U,e⟩:=ak.mp h;rw[u6 U,e];simp
structure Rx(es:List Ar)(ws:List (List Nat)):Prop where
 way:∀w∈ws,Way es w
 one:∀k,k<es.length->[k]∈ws
 ext:∀w∈ws,∀u∈ext es w,u∈ws
 few:ws.length<=60
 nd:ws.Nodup
structure Wk(es:List Ar)(V:Nat->Nat)(ws:List (List Nat))(i:Nat):Prop where
 way:∀w∈ws,Way es w
 one:∀k,k<es.length->[k]∈ws
 ext:∀j w,j<i->ws[j]?=some w->∀u∈ext es w,u∈ws
 le:i<=ws.length
 few:ws.length+((ws.drop i).map λw=>V (yr es w)).sum<=60
 nd:ws.Nodup
 par:∀u∈ws,u.dropLast=[]\/∃j,j<i/\ws[j]?=some u.dropLast
def Ft{Z:Type}{l:List Z}(h:l.Nodup){i j:Nat}{x:Z}(h1:l[i]?=some x)(R:l[j]?=some x):i=j:=by obtain⟨a1,U⟩:=ak.mp h1;obtain⟨b1,G⟩:=ak.mp R;exact(xq h).mp (U.trans G.symm)
theorem Kg{Z U:Type}{f:Z->U}(G:∀a b,f a=f b->a=b):∀{l:List Z},l.Nodup->(l.map f).Nodup
 |[],_=>by simp
 |a::l,h=>by
  have h:=o8.mp h;rw[cz];refine o8.mpr ⟨λq=>?_,Kg G h.2⟩;obtain⟨x,h1,R⟩:=dq.mp q;exact h.1 (G _ _ R▸h1)
def ar9(Z:List Ar)(w:Y3):(K75.ext Z w).Nodup:=Kg (λa b h=>by simpa using h) (List.Pairwise.filter _ List.nodup_range)
def Wk.step(E:Ends es V)(h:Wk es V U i)(hw:U[i]?=some w):Wk es V (U++K75.ext es w) (i+1):=by
 have W:=h.way w (bf hw);have hl:=(ak.mp hw).1;have R:∀u∈K75.ext es w,u.dropLast=w:=λu Z=>by obtain⟨k,_,rfl⟩:=dq.mp Z;simp
 refine⟨λu Z=>?_,λk hk=>ji _ (h.one k hk),λj u hj Z v hv=>?_,by simp;lia,?_,n6.mpr ⟨h.nd,ar9 es w,λa ha b hb e=>?_⟩,λu Z=>?_⟩
 .rcases cg.mp Z with a|a
  .exact h.way u a
  .exact V9 W a
 .have G:j<U.length:=by lia
  rw[gm G] at Z;rcases j9 j i with a|a
  .exact ji _ (h.ext j u a Z v hv)
  .have:j=i:=by lia
   subst this;rw[hw] at Z;cases Z;exact fj _ hv
 .have a:=h.few
  rw[Yl es V hw] at a;have b:=V8 E w;rw[<- Dl] at b;rw[List.drop_append_of_le_length (by lia),jb,gr,List.sum_append]
  lia
 .subst e
  have e:=R a hb;rcases h.par a ha with q|⟨j,q1,q2⟩
  .exact W.ne (e▸q)
  .rw[e] at q2
   have:=Ft h.nd hw q2
   lia
 .rcases cg.mp Z with a|a
  .rcases h.par u a with q|⟨j,q1,q2⟩
   .exact .inl q
   .exact .inr ⟨j,by lia,by rw[gm (by lia)];exact q2⟩
  .exact .inr ⟨i,by lia,by rw[R u a,gm hl];exact hw⟩
def Wk.start(E:Ends es V):Wk es V ((List.range es.length).map λk=>[k]) 0:=by
 refine⟨λw h=>?_,λk R=>dq.mpr ⟨k,km.mpr R,rfl⟩,λj w G=>absurd G (o9 _),ie _,?_,Kg (λa b h=>by simpa using h) List.nodup_range,λu U=>?_⟩
 .obtain⟨k,Z,rfl⟩:=dq.mp h
  exact Way.one (km.mp Z)
 .have a:=E.Ph
  have b:=Dl es V ((List.range es.length).map λk=>[k]);have c:Phi es V ((List.range es.length).map λk=>[k])=((List.range es.length).map λk=>1+V (at_ es k).2).sum:=by simp[Phi,yr,lw,gh,iz]
  rw[List.drop_zero];lia
 .obtain⟨k,_,rfl⟩:=dq.mp U
  exact .inl rfl
def V_lt(E:Ends es V)(G:k<es.length):V (at_ es k).2<V (at_ es k).1:=by
 have h:=E.pot (at_ es k).1;have m:k∈nxt es (at_ es k).1:=Ho.mpr ⟨G,rfl⟩;have:1+V (at_ es k).2<=((nxt es (at_ es k).1).map λk=>1+V (at_ es k).2).sum:=by
  generalize nxt es (at_ es k).1=l at m
  induction l with
  |nil=>cases m
  |cons a l Z =>
   simp only[cz,vm];rcases dh.mp m with rfl|m
   .lia
   .have:=Z m;lia
 lia
def a5e(E:Ends es V)(G:k<es.length):V (at_ es k).2<=59:=by
 have h:=E.Ph;have m:k∈List.range es.length:=km.mpr G;have:1+V (at_ es k).2<=((List.range es.length).map λk=>1+V (at_ es k).2).sum:=by
  generalize List.range es.length=l at m
  induction l with
  |nil=>cases m
  |cons a l Z =>
   simp only[cz,vm];rcases dh.mp m with rfl|m
   .lia
   .have:=Z m;lia
 lia
theorem ahu(E:Ends es V):∀{w:Y3},Way es w->w.length+V (yr es w)<=V (at_ es (hw w)).2+1
 |[],W=>absurd rfl W.ne|[a],_=>by simp[yr,lw,hw];lia
 |a::b::r,W=>by
  have R:Way es (b::r):=⟨by simp,λi G=>W.lt i (bu _ G),W.ch.2⟩;have Z:=ahu E R;have hb:=V_lt E (W.lt b (by simp));have e:=W.ch.1;have U:yr es (a::b::r)=yr es (b::r):=by simp[yr,lw]
  rw[U];simp only[d7,hw,List.headD_cons] at Z ⊢;rw[e]
  lia
def Bf(E:Ends es V)(W:Way es w):w.length<=60:=by
 have a:=ahu E W;have b:=a5e E W.Nf
 lia
def Wk.end_(h:Wk es V ws ws.length):Rx es ws:=by
 refine⟨h.way,h.one,λw hw u G=>?_,?_,h.nd⟩
 .obtain⟨j,Z⟩:=iy.mp hw
  exact h.ext j w (ak.mp Z).1 Z u G
 .have:=h.few;lia
theorem Xr.init:∀{w:Y3},Xr es (w++[k])->Xr es w
 |[],_=>trivial|[_],_=>trivial|a::b::r,h=>⟨h.1,Xr.init (w:=b::r) h.2⟩
theorem Xr.last:∀{w:Y3},w≠[]->Xr es (w++[k])->(at_ es k).1=yr es w
 |[],h,_=>absurd rfl h|[a],_,h=>by simpa[yr,lw] using h.1.symm|a::b::r,_,h=>by have:=Xr.last (w:=b::r) (by simp) h.2;simpa[yr,lw] using this
theorem Rx.all(L:Rx es ws):∀(n:Nat){w:Y3},w.length=n->Way es w->w∈ws
 |0,w,h,W=>absurd (q8 h) W.ne
 |n+1,w,h,W=>by
  obtain⟨u,k,rfl⟩:∃u k,w=u++[k]:=⟨w.dropLast,w.getLast W.ne,(ni W.ne).symm⟩;have G:k<es.length:=W.lt k (by simp)
  by_cases Z:u=[]
  .subst Z;exact L.one k G
  .have U:Way es u:=⟨Z,λi R=>W.lt i (ji _ R),W.ch.init⟩
   have m:=L.all n (by simpa using h) U;exact L.ext u m _ (dq.mpr ⟨k,Ho.mpr ⟨G,Xr.last Z W.ch⟩,rfl⟩)
def Hq{g:Nat->D}(G:it.den W U M=.ok (.int (n:Int)) M1)(hn:n<=100000)(h:∀i,i<n->∃Z,t.put (.int i) (U++List.replicate k none)=some Z/\e.den W Z M1=.ok (g i) M1) :
 (Ex.comp v k t (.T6 it) e).den W U M=if v then .ok (.vl ((List.range n).map g)) M1 else new (.lst ((List.range n).map g)) M1:=by
 obtain⟨ys,M',a,rfl,rfl⟩:=Hb (v:=v) (k:=k) (t:=t) (e:=e) G hn (λi R M=>R=(List.range i).map g/\M=M1) ⟨rfl,rfl⟩ (λi R M hi hI=>by
  obtain⟨rfl,rfl⟩:=hI;obtain⟨Z,b,c⟩:=h i hi;exact⟨Z,_,_,b,c,by simp[List.range_succ],rfl⟩)
 exact a
def Ng(h:j8 M d=some ds):v9 .len [d] M=.ok (.int ds.length) M:=by
 cases d with
 |tup l=>cases h;rfl|_=>simp only[MW.j8] at h;exact len_list h
def Wc(hm:1<=m)(E:Ends es V)(hd:j8 M d=some (es.map aD)) :
 ∃Z M',prog.call m 26 [d] M=.ok (.ref M.length) M'/\M'[M.length]?=some (.lst (Z.map cj))/\Rx es Z/\mz M M':=by
 rw[call_of hm rfl];have hn:es.length<=100000:=bw E.few (by decide)
 have c2:Cd.den (PW (m-1)) [some d,none,none,none] M=.ok (.ref M.length) (M++[.lst (((List.range es.length).map λk=>[k]).map cj)]):=by unfold Cd;rw[Hq (n:=es.length) (M1:=M) (g:=λk=>cj [k]) (by simp[Ng hd]) hn (λi hi=>⟨_,rfl,by simp[cj,nD]⟩)];simp[MW.new,gh,iz]
 obtain⟨qk,M',a,Z,b3,rfl,G,g2,U⟩:=Df (c:=(Ex.cmp .lt (.v 2) (.l (.v 1))).den (PW (m-1))) (body:=Ca.den (PW (m-1)))
  (λn ρ M1=>∃(Z:List (List Nat))(i:Nat)(b3:Option D),ρ=[some d,sR M.length,sI i,b3]/\M1[M.length]?=some (.lst (Z.map cj))/\mz M M1/\Wk es V Z i/\n=60-i)
  (fun ρ M1=>∃(Z:List (List Nat))(b3:Option D),ρ=[some d,sR M.length,sI Z.length,b3]/\M1[M.length]?=some (.lst (Z.map cj))/\mz M M1/\Rx es Z)
  (λn ρ M1 hI=>by
   obtain⟨Z,i,b3,rfl,G,g2,U,rfl⟩:=hI;have hl:=len_list (iu G);rcases j9 i Z.length with hi|hi
   .right
    obtain⟨w,hw⟩:∃w,Z[i]?=some w:=⟨_,dm hi⟩;have W:=U.way w (bf hw);have R:=mz.j8 g2 hd;have x0:w5 (.ref M.length) (.int i) M1=some (cj w):=Ah (iu G) (qy _) (by simp[hw]);have wl:=Bf E W;have c1:By.den (PW (m-1)) [some d,sR M.length,sI i,sI (yr es w)] M1=.ok (.vl ((ext es w).map cj)) M1:=by unfold By;rw[Rg (n:=es.length) (M1:=M1) (q:=λk=>decide ((at_ es k).1=yr es w)) (g:=λk=>cj (w++[k])) (by simp[Ng R]) hn (λj hj=>⟨_,rfl,by simp[M9 R hj,aD,V6],λ_=>by simp[x0,Dq w j (by lia)]⟩)];rw[<- acx];rfl
    have qq:=U.few;have el:Z.length+(ext es w).length<=60:=by
     rw[Yl es V hw] at qq;have b:=V8 E w;rw[<- Dl] at b
     lia
    refine⟨M1,.next,_,_,60-(i+1),?_,?_,.inl rfl,by have:=U.le;lia,Z++ext es w,i+1,sI (yr es w),rfl,o6 G,mz.set g2 (az _),?_,rfl⟩
    .simp[hl,hi]
    .have lst:=Jr (M:=M1) W
     have e1:=M9 R W.Nb;simp only[Ca];simp[x0,lst,e1,aD,Ru G];rw[show(at_ es (lw w)).2=yr es w from rfl];simp[c1,aaz G (ys:=(ext es w).map cj) (by simp;lia)]
    .exact U.step E hw
   .left
    have:i=Z.length:=by have:=U.le;lia
    subst this;exact⟨M1,by simp[hl],Z,b3,rfl,G,g2,U.end_⟩)
  Rb 60 [some d,sR M.length,sI 0,none] (M++[.lst (((List.range es.length).map λk=>[k]).map cj)]) (by decide)
  ⟨_,0,none,rfl,yw,mz.app _ _,Wk.start E,rfl⟩
 refine⟨Z,M',?_,G,U,g2⟩;simp only[Fn.run,Ih,Ig];simp[-List.map_map,c2,Gg,Li,a]
def acy(h:M[n]?=some (.lst Z))(R:d8 M y=some G)(hr:Ja n y=true)(U:Z.length+G.length<100000):Bj .extend (.ref n) [y] M=.ok .non (M.set n (.lst (Z++G))):=by simp[Bj,onL,h,R,hr,U]
theorem Nh(E:Ends es V):∀Z:List (List Nat),Phi es V (Z.flatMap (ext es))<=(Z.map λw=>V (yr es w)).sum
 |[]=>by simp[Phi]
 |w::Z=>by
  have a:=V8 E w;have b:=Nh E Z;rw[List.flatMap_cons,amj,cz,vm]
  lia
def Ii(r:Nat)(M Z:dj):Prop:=∀(a:Nat)(o:MO),a≠r->M[a]?=some o->Z[a]?=some o
def Ii.refl(r:Nat)(M:dj):Ii r M M:=λ_ _ _ h=>h
def Ii.trans(a:Ii r M Z)(b:Ii r Z M2):Ii r M M2:=λx o n h=>b x o n (a x o n h)
theorem Ii.set(r:Nat)(M:dj)(o:MO):Ii r M (M.set r o):=λa u n h=>by rw[jc (jh n)];exact h
theorem Ii.d8(k:Ii r M G)(U:Ja r f=true)(h:d8 M f=some ds):MW.d8 G f=some ds:=by
 cases f with
 |ref n =>
  have Z:n≠r:=by simpa[Ja] using U
  cases e:M[n]? with
  |none=>simp[MW.d8,e] at h|some o=>cases o<;>simp[MW.d8,e] at h<;>subst h<;>simp[MW.d8,k n _ Z e]
 |_=>exact h
def aqm(hm:1<=m)(E:Ends es V)(hf:d8 M f=some (ws.map cj))(hw:∀w∈ws,Way es w)(hp:Phi es V ws<=60)(hr:M[r]?=some (.lst []))(hk:Ja r f=true) :
 ∃Z G M',Hh.den (PW m) [some (.tup (es.map aD)),a1,some f,sR r,a4,a5] M=.ok (.next,[some (.tup (es.map aD)),a1,some f,sR r,Z,G]) M'/\M'[r]?=some (.lst ((ws.flatMap (ext es)).map cj))/\Ii r M M':=by
 unfold Hh;obtain⟨qk,M',a,Z,G,rfl,U,g2⟩:=vf (W:=PW m) (it:=.v 2) (t:=.name 4) (b:=Hg) (ρ:=[D.tup (es.map aD),a1,some f,sR r,a4,a5]) (M:=M) (M1:=M) rfl hf
  (λi ρ M1=>∃Z G:Option D,ρ=[some (.tup (es.map aD)),a1,some f,sR r,Z,G]/\M1[r]?=some (.lst (((ws.take i).flatMap (ext es)).map cj))/\Ii r M M1)
  ⟨a4,a5,rfl,by simpa using hr,Ii.refl r M⟩ (λi ρ M1 h=>by obtain⟨_,_,_,_,k⟩:=h;exact k.d8 hk hf)
  (λi x ρ M1 hx hI=>by
   obtain⟨Z,G,rfl,U,g2⟩:=hI;obtain⟨w,R,rfl⟩:∃w,ws[i]?=some w/\cj w=x:=by simpa using hx
   have W:=hw w (bf R);have qq:=(ak.mp R).1;have wl:=Bf E W;have c1:Hf.den (PW m) [some (.tup (es.map aD)),a1,some f,sR r,some (cj w),sI (yr es w)] M1=.ok (.vl ((ext es w).map cj)) M1:=by
    unfold Hf;rw[Rh (ds:=es.map aD) (M1:=M1) (q:=λk=>decide ((at_ es k).1=yr es w)) (g:=λk=>cj (w++[k])) rfl (by simpa using bw E.few (by decide)) (λj x hx=>by
     have hj:j<es.length:=by simpa using(ak.mp hx).1
     have ex:x=aD (at_ es j):=by simpa[Pj hj] using hx.symm
     subst ex;exact⟨_,rfl,by simp[aD,V6],λ_=>by simp[Dq w j (by lia)]⟩)]
    simp only[dg,acx,j6]
   have el:(((ws.take i).flatMap (ext es)).map cj).length+((ext es w).map cj).length<100000:=by
    have e1:(ws.take (i+1)).flatMap (ext es)=(ws.take i).flatMap (ext es)++ext es w:=by rw[jd,R];simp
    have e2:=Nh E (ws.take (i+1));rw[e1,<- Dl] at e2;have e3:((ws.take (i+1)).map λw=>V (yr es w)).sum<=Phi es V ws:=by
     rw[<- Dl,<- u0 (i+1) ws,gr,List.sum_append]
     simp;lia
    rw[jb] at e2;rw[dg,dg]
    lia
   refine⟨_,.next,_,_,rfl,?_,.inl rfl,some (cj w),sI (yr es w),rfl,o6 (o:=.lst (((ws.take (i+1)).flatMap (ext es)).map cj)) U,g2.trans (Ii.set r M1 _)⟩;simp only[Hg];simp[Oj hm (M:=M1) (d:=.tup (es.map aD)) rfl W,Ru U,c1,aaz U el];rw[jd,R];simp)
 refine⟨Z,G,M',a,?_,g2⟩;simpa using U
def Ym(hm:2<=m)(E:Ends es V) :
 ∃(l:List D)(M':dj),prog.call m 13 [.tup (es.map aD)] M=.ok (.ref M.length) M'/\M'[M.length]?=some (.lst l)/\l.length<=60/\mz M M':=by
 rw[call_of (bw (by decide) hm) rfl];have hn:es.length<=100000:=bw E.few (by decide)
 have c2:Bp.den (PW (m-1)) [some (.tup (es.map aD)),sR M.length,none,none,none,none] (M++[.lst []])=.ok (.vl (((List.range es.length).map λk=>[k]).map cj)) (M++[.lst []]):=by unfold Bp;rw[Hq (n:=es.length) (M1:=M++[.lst []]) (g:=λk=>cj [k]) (by simp[Kd]) hn (λi hi=>⟨_,rfl,by simp[cj,nD]⟩)];simp[gh,iz]
 obtain⟨qk,M',a,l,b2,b3,U,R,rfl,g1,g2,g3⟩:=Df (c:=(Ex.tru (.v 2)).den (PW (m-1))) (body:=Bo.den (PW (m-1)))
  (λn ρ G=>∃(Z:List (List Nat))(l:List D)(f:D)(b3 U R:Option D),ρ=[some (.tup (es.map aD)),sR M.length,some f,b3,U,R]/\G[M.length]?=some (.lst l)/\mz M G/\d8 G f=some (Z.map cj)/\Ja M.length f=true/\(∀w∈Z,Way es w)/\l.length+Phi es V Z<=60/\n=60-l.length)
  (fun ρ G=>∃(l:List D)(b2 b3 U R:Option D),ρ=[some (.tup (es.map aD)),sR M.length,b2,b3,U,R]/\G[M.length]?=some (.lst l)/\mz M G/\l.length<=60)
  (λn ρ G hI=>by
   obtain⟨Z,l,f,b3,U,R,rfl,g1,g2,g3,g4,g5,g6,rfl⟩:=hI;have hs:=Dp g3
   by_cases hw:Z=[]
   .left
    subst hw;exact⟨G,by simp[hs],l,some f,b3,U,R,rfl,g1,g2,by lia⟩
   .right
    have Kq:=Dl es V Z;have qq:0<Z.length:=j0.mpr hw
    have x1:=acy g1 g3 g4 (by simp;lia);have k1:Ii M.length G (G.set M.length (.lst (l++Z.map cj))):=Ii.set _ _ _;have f1:=k1.d8 g4 g3;generalize hM2:G.set M.length (.lst (l++Z.map cj))=M2 at x1 k1 f1;have t1:M2[M.length]?=some (.lst (l++Z.map cj)):=by rw[<- hM2];exact o6 g1
    have f2:d8 (M2++[.lst []]) f=some (Z.map cj):=(mz.app _ _).d8 f1;have hr:Ja M2.length f=true:=by
     cases f with
     |ref n =>
      have:n<M2.length:=by
       cases e:M2[n]? with
       |none=>simp[MW.d8,e] at f1|some o=>exact rn e
      simpa[Ja] using fc this
     |_=>rfl
    obtain⟨c4,c5,M3,e3,h3,k3⟩:=aqm (m:=m-1) (a1:=sR M.length) (a4:=U) (a5:=R) (by lia) E f2 g5 (by lia) yw hr;have tl:M.length<M2.length:=rn t1
    refine⟨G,.next,[some (.tup (es.map aD)),sR M.length,sR M2.length,sR M2.length,c4,c5],M3,60-(l++Z.map cj).length,?_,?_,.inl rfl,by simp;lia,Z.flatMap (ext es),l++Z.map cj,.ref M2.length,_,_,_,rfl,k3 _ _ (fc tl) (yu t1),?_,iu h3,?_,?_,?_,rfl⟩
    .simp[hs,hw]
    .simp only[Bo]
     simp[Ru g1,x1,MW.new,e3]
    .intro a o h
     have ha:=rn h;have:=g2 a o h;refine k3 a o (by lia) (yu ?_);rw[<- hM2,jc (by lia)];exact this
    .simpa[Ja] using qt tl
    .intro u hu
     obtain⟨w,h1,h2⟩:=List.mem_flatMap.mp hu;exact V9 (g5 w h1) h2
    .have:=Nh E Z
     rw[jb,dg]
     lia)
  Rb 60 [some (.tup (es.map aD)),sR M.length,some (.vl (((List.range es.length).map λk=>[k]).map cj)),none,none,none] (M++[.lst []]) (by decide)
  ⟨_,[],_,none,none,none,rfl,yw,mz.app _ _,rfl,rfl,(Wk.start E).way,by
   have:=(Wk.start E).few;rw[List.drop_zero,Dl] at this;simpa using this,rfl⟩
 refine⟨l,M',?_,g1,g3,g2⟩;simp only[Fn.run,Lq,Lp];simp[-List.map_map,MW.new,c2,Hi,Li,a]
def ahw(Z:j8 U d=some ds):∃s,srcOf U d=some s/\s.len=ds.length/\(∀M i,j8 M d=some ds->s.item i M=ds[i]?)/\∀M,j8 M d=some ds->s.fin M=true:=by
 cases d with
 |vl G=>cases Z;exact⟨.con ds,rfl,rfl,λ_ _ _=>rfl,λ_ _=>rfl⟩
 |tup G=>cases Z;exact⟨.con ds,rfl,rfl,λ_ _ _=>rfl,λ_ _=>rfl⟩
 |ref p =>
  have get:∀{M:dj},j8 M (.ref p)=some ds->M[p]?=some (.lst ds):=fun{M} h=>by
   cases e:M[p]? with
   |none=>simp[MW.j8,MW.d8,e] at h|some o=>cases o<;>simp[MW.j8,MW.d8,e] at h;subst h;rfl
  exact⟨.live p ds.length,by simp[srcOf,get Z],rfl,λM i h=>by simp[Src.item,get h],λM h=>by simp[Src.fin,get h]⟩
 |_=>cases Z
def Fv{U:Type}{f:U->D}{xs:List U}{q:U->Bool}{g:U->D}(R:it.den W ρ M=.ok d M1)(hd:j8 M1 d=some (xs.map f))(hn:xs.length<=100000)
 (h:∀x∈xs,∃Z,t.put (f x) (ρ++List.replicate k none)=some Z/\c.den W Z M1=.ok (.bl (q x)) M1/\(q x=true->e.den W Z M1=.ok (g x) M1)) :
 (Ex.yz v k t (.val it) c e).den W ρ M=if v then .ok (.vl ((xs.filter q).map g)) M1 else new (.lst ((xs.filter q).map g)) M1:=by
 rw[Je,Mh,R];obtain⟨s,hs,hl,hi,hf⟩:=ahw hd;simp only[Res.vo,hs,Res.uw];obtain⟨ys,M',g1,g2,rfl⟩:=Gy (fin:=s.fin) (item:=s.item) (body:=λd M=>(Res.qx (t.put d (ρ++List.replicate k none)) M).bind λG M=>(c.den W G M).bind λb M' =>
  match b with
   |.bl true=>(e.den W G M').bind λx qq=>.ok (some x) qq
   |.bl false=>.ok none M'|_=>.bad) (λi zs M=>zs=((xs.take i).filter q).map g/\M=M1) (n:=xs.length) (λi zs M Ik hI=>by
  obtain⟨rfl,rfl⟩:=hI;obtain⟨Z,a,b,c⟩:=h xs[i] (by simp);refine⟨f xs[i],if q xs[i] then some (g xs[i]) else none,M,by rw[hi M i hd];simp[Ik],?_,?_,rfl⟩
  .cases e:q xs[i] with
   |true=>simp only[a,Res.uw,Res.vo,b,e,c e,j6]|false=>simp only[a,Res.uw,Res.vo,b,e];rfl
  .rw[List.take_succ_eq_append_getElem Ik,List.filter_append,gr]
   cases e:q xs[i]<;>simp[e]) (λzs M h=>h.2▸hf M1 hd) xs.length 0 [] M1 (vd _) ⟨by simp,rfl⟩
 rw[List.nil_append,jr] at g2;subst g2;rw[za,hl,dg,bh hn];exact o4 (λr=>r.bind λds M2=>if v=true then Res.ok (.vl ds) M2 else new (.lst ds) M2) g1
def Gz{α:Type}{f:α->D}{xs:List α}{g:α->D}(G:it.den W R M=.ok d M1)(hd:j8 M1 d=some (xs.map f))(hn:xs.length<=100000)
 (h:∀x∈xs,∃Z,t.put (f x) (R++List.replicate k none)=some Z/\e.den W Z M1=.ok (g x) M1) :
 (Ex.comp v k t (.val it) e).den W R M=if v then .ok (.vl (xs.map g)) M1 else new (.lst (xs.map g)) M1:=by
 rw[Kf,Mh,G];obtain⟨s,hs,hl,hi,hf⟩:=ahw hd;simp only[Res.vo,hs,Res.uw];obtain⟨ys,M',g1,g2,rfl⟩:=Gy (fin:=s.fin) (item:=s.item) (body:=λd M=>(Res.qx (t.put d (R++List.replicate k none)) M).bind λqq M=>(e.den W qq M).bind λx M'=>.ok (some x) M') (λi U M=>U=(xs.take i).map g/\M=M1) (n:=xs.length) (λi U M Ik hI=>by
  obtain⟨rfl,rfl⟩:=hI;obtain⟨Z,a,b⟩:=h xs[i] (by simp);exact⟨f xs[i],some (g xs[i]),M,by rw[hi M i hd];simp[Ik],by simp only[a,Res.uw,Res.vo,b],by rw[List.take_succ_eq_append_getElem Ik,gr];rfl,rfl⟩)
  (λU M h=>h.2▸hf M1 hd) xs.length 0 [] M1 (vd _) ⟨by simp,rfl⟩
 rw[List.nil_append,jr] at g2;subst g2;rw[za,hl,dg,bh hn];exact o4 (λr=>r.bind λds M2=>if v=true then Res.ok (.vl ds) M2 else new (.lst ds) M2) g1
theorem acz(M:dj)(g:Nat):∀fs:List Nat,Qg M (.int g) (fs.map nD)=some (fs.map λf=>decide (f=g))
 |[]=>rfl
 |f::fs=>by
  have:n8 M (nD f) (.int g)=some (decide (f=g)):=um M 5 f g;simp only[cz,Qg,this,acz M g fs]
def ac0(M:dj)(g:Nat)(fs:Y3):memD M (.int g) (fs.map nD)=some (decide (g∈fs)):=by
 rw[memD,acz,m8]
 congr 1
 induction fs with
 |nil=>simp
 |cons f fs Z =>
  by_cases h:f=g
  .simp[h]
  .simp only[cz,yg,Z,dh,id]
   simp[h,jh h]
def asa(h:e∈es):∃k,k<es.length/\at_ es k=e:=by obtain⟨k,G⟩:=iy.mp h;have Z:=(ak.mp G).1;refine⟨k,Z,?_⟩;have:=Pj Z;rw[G] at this;exact(gj this).symm
def Ol(h:k<es.length):at_ es k∈es:=bf (Pj h)
theorem ahx(V:Nat->Nat):∀G:List Ar,G≠[]->∃e∈G,∀u∈G,V u.1<=V e.1
 |[],h=>absurd rfl h|[a],_=>⟨a,by simp,by simp⟩
 |a::b::r,_=>by
  obtain⟨e,R,U⟩:=ahx V (b::r) (by simp)
  by_cases h:V a.1<=V e.1
  .exact⟨e,bu _ R,λu Z=>by rcases dh.mp Z with rfl|Z;exact h;exact U u Z⟩
  .exact⟨a,bz,λu Z=>by rcases dh.mp Z with rfl|Z;exact az _;have:=U u Z;lia⟩
noncomputable def lft(Z:List Ar):List Ar:=Z.filter λe=>decide (e.1∈Z.map (·.2))
def ahy(E:Ends es V)(hs:∀e∈Z,e∈es)(R:Z≠[]):(lft Z).length<Z.length:=by
 obtain⟨e,h1,h2⟩:=ahx V Z R;refine List.length_filter_lt_length_iff_exists.mpr ⟨e,h1,?_⟩;intro h;obtain⟨u,G,U⟩:=dq.mp (kh h);obtain⟨k,hk,rfl⟩:=asa (hs u G);have a:=V_lt E hk;have b:=h2 _ G;rw[U] at a
 lia
def aml(hm:1<=m)(E:Ends es V):∃M',prog.call m 5 [.tup (es.map aD)] M=.ok (.bl false) M'/\mz M M':=by
 rw[call_of hm rfl];obtain⟨qk,M',a,b1,G,rfl,g2⟩:=Df (c:=(Ex.cmp .ne (.v 2) (.l (.v 1))).den (PW (m-1))) (body:=Ez.den (PW (m-1)))
  (λn ρ M1=>∃(Z:List Ar)(f:D)(U:Int)(G:Option D),ρ=[some (.tup (es.map aD)),some f,sI U,G]/\mz M M1/\j8 M1 f=some (Z.map aD)/\(∀e∈Z,e∈es)/\Z.length<=10/\(U=Z.length->Z=[])/\n=2*Z.length+if U=Z.length then 0 else 1)
  (fun ρ M1=>∃(b1 G:Option D),ρ=[some (.tup (es.map aD)),b1,sI 0,G]/\mz M M1)
  (λn ρ M1 hI=>by
   obtain⟨Z,f,U,G,rfl,g2,g3,g4,g5,g6,rfl⟩:=hI;have hl:=Ng g3;rw[dg] at hl
   by_cases e:U=Z.length
   .left
    have qq:=g6 e;subst qq;exact⟨M1,by simp[hl,e],some f,G,by simp[e],g2⟩
   .right
    have c2:Ey.den (PW (m-1)) [some (.tup (es.map aD)),some f,sI Z.length,G] M1=.ok (.vl ((Z.map (·.2)).map nD)) M1:=by unfold Ey;rw[Gz (d:=f) (M1:=M1) (xs:=Z) (f:=aD) (g:=λe=>nD e.2) rfl g3 (by lia) (λx hx=>⟨_,rfl,by simp[aD,nD,Gr]⟩)];simp[gh,iz]
    have c1:Ew.den (PW (m-1)) [some (.tup (es.map aD)),some f,sI Z.length,some (.vl ((Z.map (·.2)).map nD))] M1=.ok (.vl ((lft Z).map aD)) M1:=by
     unfold Ew;rw[Fv (d:=f) (M1:=M1) (xs:=Z) (f:=aD) (q:=λe=>decide (e.1∈Z.map (·.2))) (g:=aD) rfl g3 (by lia) (λx hx=>⟨_,rfl,by
      have:=ac0 M1 x.1 (Z.map (·.2));simp[-List.map_map,aD,Iu,this],λ_=>by simp⟩)]
     rfl
    refine⟨M1,.next,[some (.tup (es.map aD)),some (.vl ((lft Z).map aD)),sI Z.length,some (.vl ((Z.map (·.2)).map nD))],M1,_,by simp[hl,e],?_,.inl rfl,?_,lft Z,_,Z.length,_,rfl,g2,rfl,λu hu=>g4 u ((tu.mp hu).1),?_,?_,rfl⟩
    .simp only[Ez]
     simp[-List.map_map,hl,c2,c1]
    .by_cases R:Z=[]
     .subst R;simp[lft] at e ⊢;simp[e]
     .have:=ahy E g4 R
      simp only[e,jj];split<;>lia
    .exact bw (List.length_filter_le _ _) g5
    .intro h
     by_cases R:Z=[]
     .subst R;rfl
     .have:=ahy E g4 R;lia)
  Rb _ [some (.tup (es.map aD)),sR M.length,sI (-1),none] (M++[.lst (es.map aD)]) (by have:=E.few;show _<1000000;split<;>lia)
  ⟨es,.ref M.length,-1,none,rfl,mz.app _ _,Dp (iu yw),λ_ h=>h,E.few,λh=>by lia,rfl⟩
 refine⟨M',?_,g2⟩;simp only[Fn.run,Mp,Mm];simp[v9,MW.new,Jk,Li,a]
def Yn{Z:List Ar}{k:Nat}(G:1<=m)(U:j8 M d=some (Z.map aD)):prog.call m 8 [d,.int k] M=.ok (.bl (decide (k<Z.length))) M:=by rw[call_of G rfl];simp[Fn.run,Rj,Ri,Ng U]
theorem Us{G:Type}:∀Z:List G,allB (Z.map λ_=>D.bl true)=some true
 |[]=>rfl|_::Z=>by simp[allB,Us Z]
theorem Xr.zip:∀{w:Y3},Xr es w->∀p∈w.zip (w.drop 1),(at_ es p.1).2=(at_ es p.2).1
 |[],_,p,h=>by simp at h|[_],_,p,h=>by simp at h
 |a::b::r,c,p,h=>by
  simp only[List.drop_succ_cons,List.drop_zero,List.zip_cons_cons,dh] at h;rcases h with rfl|h
  .exact c.1
  .exact Xr.zip (w:=b::r) c.2 p (by simpa using h)
def ahz(hm:2<=m)(U:j8 M d=some (es.map aD))(qq:es.length<=10)(E:w.length<=60)(W:Way es w):prog.call m 9 [d,cj w] M=.ok (.bl true) M:=by
 rw[call_of (bw (by decide) hm) rfl];have c2:Ln.den (PW (m-1)) [some d,some (cj w)] M=.ok (.vl (w.map λ_=>.bl true)) M:=by
  unfold Ln;rw[Gz (d:=cj w) (M1:=M) (xs:=w) (f:=nD) (g:=λ_=>.bl true) rfl rfl (by lia) (λx Z=>⟨_,rfl,by
   have:=Yn (m:=m-1) (k:=x) (by lia) U;simp[nD,this,W.lt x Z]⟩)]
  rfl
 have hl:1<=w.length:=j0.mpr W.ne
 have cu:Iw (cj w) (some 1) none M=some (cj (w.drop 1)):=by
  have:Gq (w.map nD) (some 1) none=(w.drop 1).map nD:=by
   have e:min 1 w.length=1:=by lia
   simp only[Gq,clip,dg];rw[bh (by decide),show(1:Int).toNat=1 from rfl,e,List.map_drop];exact wj (by simp)
  show some (D.tup (Gq (w.map nD) (some 1) none))=_;rw[this];rfl
 have zi:(Lh.zip (.p (.v 1) (.cut (.v 1) (.some (.i 1)) .none))).den (PW (m-1)) [some d,some (cj w)] M=.ok (.con (X6 (w.map nD) ((w.drop 1).map nD))) M:=by rw[acj];simp only[Ag,Bk,ahc,aci,Um,Ul,Eg,Res.vo,cu,Res.uw];rfl
 have c1:Lj.den (PW (m-1)) [some d,some (cj w)] M=.ok (.vl ((w.zip (w.drop 1)).map λ_=>.bl true)) M:=by
  unfold Lj;rw[Kf,zi];have ez:X6 (w.map nD) ((w.drop 1).map nD)=(w.zip (w.drop 1)).map λp=>.tup [nD p.1,nD p.2]:=by rw[X6,List.zip_map,gh];rfl
  rw[ez,Res.vo,amg (g:=λ_=>.bl true) (by simp;lia) (λx Z=>by
   obtain⟨p,G,rfl⟩:=dq.mp Z;have z:=W.ch.zip p G;have R:=W.lt p.1 (yo G).1;have p2:=W.lt p.2 (List.mem_of_mem_drop (yo G).2);simp[nD,Gr,M9 U R,M9 U p2,aD,z])]
  simp
 have Qh:w.isEmpty=false:=by cases w<;>first|exact absurd rfl W.ne|rfl
 simp only[Fn.run,Yh,Yg];have t0:(Ex.ntr (.v 1)).den (PW (m-1)) [some d,some (cj w)] M=.ok (.bl false) M:=by show Res.qx (some (D.bl (w.map nD).isEmpty)) M=_;rw[List.isEmpty_map,Qh];rfl
 simp[t0,-V0,c2,c1,v9,Us]
structure Kh(es:List Ar)(a b:Y3):Prop where
 one:Way es a
 two:Way es b
 st:Ek es a=Ek es b
 go:yr es a=yr es b
def ah0(U:3<=m)(Z:j8 M d=some (es.map aD))(E:Ends es V)(B:Kh es a b):prog.call m 12 [d,cj a,cj b] M=.ok (.bl true) M:=by rw[call_of (bw (by decide) U) rfl];have h1:=ahz (m:=m-1) (by lia) Z E.few (Bf E B.one) B.one;have h2:=ahz (m:=m-1) (by lia) Z E.few (Bf E B.two) B.two;have h3:=Rt (m:=m-1) (by lia) Z B.one;have G:=Rt (m:=m-1) (by lia) Z B.two;have R:=Oj (m:=m-1) (by lia) Z B.one;have h6:=Oj (m:=m-1) (by lia) Z B.two;simp[Fn.run,Mr,Mq,h1,h2,h3,G,R,h6,B.st,B.go]
inductive Gn where
 |same (a b:Y3)|apart (k:Nat)
noncomputable def sD(s:String):D:=.str (PySem.Str.ofString s)
def Gn.toD:Gn->D
 |.same a b=>.tup [.str (PySem.Str.ofString "same"),cj a,cj b]|.apart k=>.tup [.str (PySem.Str.ofString "apart"),.int (k:Nat)]
def Gd(Z:List Ar):Gn->Prop
 |.same a b=>Kh Z a b|.apart k=>k<Z.length
def ah1(G:4<=m)(Z:j8 M d=some (es.map aD))(E:Ends es V)(g:Gn)(h:Gd es g):prog.call m 7 [d,g.toD] M=.ok (.bl true) M:=by
 rw[call_of (bw (by decide) G) rfl];cases g with
 |same a b =>
  have:=ah0 (m:=m-1) (by lia) Z E h;simp[Fn.run,Fe,Fb,Gn.toD,this]
 |apart k =>
  have:=Yn (m:=m-1) (k:=k) (by lia) Z;have U:PySem.Str.ofString "apart"≠PySem.Str.ofString "same" := by decide
  simp[Fn.run,Fe,Fb,Gn.toD,this,U,show k<es.length from h]
def ah2(hm:2<=m)(E:Ends es V):∃M',prog.call m 4 [.tup (es.map aD)] M=.ok .non M'/\mz M M':=by
 rw[call_of (bw (by decide) hm) rfl];obtain⟨M',a,k⟩:=aml (m:=m-1) (M:=M) (by lia) E;have lp:∃G Z:Option D,Eu.den (PW (m-1)) [some (.tup (es.map aD)),none,none] M=.ok (.next,[some (.tup (es.map aD)),G,Z]) M:=by
  unfold Eu;obtain⟨qq,U,e,G,Z,rfl,rfl⟩:=O4 (W:=PW (m-1)) (it:=.v 0) (t:=.names [1,2]) (b:=Et) (ρ:=[D.tup (es.map aD),none,none]) (M:=M) (M1:=M) rfl
   (λ_ R U=>∃G Z:Option D,R=[some (.tup (es.map aD)),G,Z]/\U=M) ⟨none,none,rfl,rfl⟩ (λi x R U hx hI=>by
    obtain⟨G,Z,rfl,rfl⟩:=hI;obtain⟨e,h1,rfl⟩:∃e,es[i]?=some e/\aD e=x:=by simpa using hx
    have hs:=E.sm e (bf h1);have s1:(e.1:Int)<=7:=by lia
    have s2:(e.2:Int)<=7:=by lia
    exact⟨_,.next,[some (.tup (es.map aD)),sI e.1,sI e.2],U,rfl,by simp[Et,Gr,s1,s2],.inl rfl,_,_,rfl,rfl⟩)
  exact⟨G,Z,e⟩
 obtain⟨G,Z,e⟩:=lp;have p1:(1:Int)<=es.length:=by have:=E.pos;lia
 have p2:(es.length:Int)<=10:=by have:=E.few;lia
 refine⟨M',?_,k⟩;simp only[Fn.run,Ml,Mj];simp[Kd,p1,p2,e,a]
def amm{Z:List Gn}(hm:5<=m)(E:Ends es V)(hg:∀g∈Z,Gd es g)(hl:Z.length<=8):prog.call m 6 [.tup (es.map aD),.tup (Z.map Gn.toD)] M=.ok .non M:=by
 rw[call_of (bw (by decide) hm) rfl];have lp:∃G:Option D,Dy.den (PW (m-1)) [some (.tup (es.map aD)),some (.tup (Z.map Gn.toD)),none] M=.ok (.next,[some (.tup (es.map aD)),some (.tup (Z.map Gn.toD)),G]) M:=by
  unfold Dy;obtain⟨qq,U,e,G,rfl,rfl⟩:=O4 (W:=PW (m-1)) (it:=.v 1) (t:=.name 2) (b:=Dw) (ρ:=[D.tup (es.map aD),D.tup (Z.map Gn.toD),none]) (M:=M) (M1:=M) rfl
   (λ_ R U=>∃G:Option D,R=[some (.tup (es.map aD)),some (.tup (Z.map Gn.toD)),G]/\U=M) ⟨none,rfl,rfl⟩ (λi x R U hx hI=>by
    obtain⟨G,rfl,rfl⟩:=hI;obtain⟨g,h1,rfl⟩:∃g,Z[i]?=some g/\g.toD=x:=by simpa using hx
    have:=ah1 (m:=m-1) (M:=U) (d:=.tup (es.map aD)) (by lia) rfl E g (hg g (bf h1));exact⟨_,.next,[some (.tup (es.map aD)),some (.tup (Z.map Gn.toD)),some g.toD],U,rfl,by simp[Dw,this],.inl rfl,_,rfl,rfl⟩)
  exact⟨G,e⟩
 obtain⟨G,e⟩:=lp;have p:¬(8:Int)<Z.length:=by lia
 simp only[Fn.run,Kv,Ku];simp[Kd,p,e]
structure Pk where
 es:List Ar
 gs:List Gn
 a:List Nat
 b:List Nat
def Pk.toD(s:Pk):D:=.tup [.tup (s.es.map aD),.tup (s.gs.map Gn.toD),.tup [cj s.a,cj s.b]]
structure Al(s:Pk)(V:Nat->Nat):Prop where
 E:Ends s.es V
 gs:∀g∈s.gs,Gd s.es g
 few:s.gs.length<=8
 aim:Kh s.es s.a s.b
def ah4(hm:6<=m)(h:Al s V):∃M',prog.call m 3 [s.toD] M=.ok .non M'/\mz M M':=by
 rw[call_of (bw (by decide) hm) rfl];obtain⟨Z,e1,k1⟩:=ah2 (m:=m-1) (M:=M) (by lia) h.E;have e2:=amm (m:=m-1) (M:=Z) (by lia) h.E h.gs h.few;have R:=ah0 (m:=m-1) (M:=Z) (d:=.tup (s.es.map aD)) (by lia) rfl h.E h.aim;obtain⟨l,M2,e4,g4,l4,U⟩:=Ym (m:=m-1) (M:=Z) (by lia) h.E;have G:=len_list (iu g4);have p:¬(60:Int)<l.length:=by lia
 refine⟨M2,?_,k1.trans U⟩;simp only[Fn.run,Jj,Ji,Pk.toD];simp[e1,e2,R,e4,G,p]
noncomputable def mx(e:Ar):Nat:=if e.1<e.2 then e.2 else e.1
noncomputable def Wd(l:Y3)(a:Nat):Nat:=l.foldl (λm x=>if m<x then x else m) a
def Dm(Z:List Ar):Nat:=match Z.map mx with|[]=>0|a::l=>Wd l a
theorem Ut:∀(l:Y3)(a:Nat),(l.map λ(x:Nat)=>(x:Int)).foldl (λm x=>if m<x then x else m) (a:Int)=(Wd l a:Nat)
 |[],a=>rfl
 |x::l,a=>by
  have e:(if(a:Int)<(x:Int) then(x:Int) else(a:Int))=((if a<x then x else a:Nat):Int):=by split<;>split<;>lia
  show(l.map λ(x:Nat)=>(x:Int)).foldl (λm x=>if m<x then x else m) (if(a:Int)<(x:Int) then(x:Int) else(a:Int))=_;rw[e,Ut l];rfl
theorem ac1:∀(l:Y3)(a:Nat),a<=Wd l a/\∀x∈l,x<=Wd l a
 |[],a=>⟨az _,by simp⟩
 |x::l,a=>by
  obtain⟨G,U⟩:=ac1 l (if a<x then x else a);refine⟨?_,λy Z=>?_⟩
  .show a<=Wd l _;split at G<;>lia
  .show y<=Wd l _
   rcases dh.mp Z with rfl|Z
   .split at G<;>lia
   .exact U y Z
def aa0(h:e∈es):e.1<=Dm es/\e.2<=Dm es:=by
 have m:mx e∈es.map mx:=dq.mpr ⟨e,h,rfl⟩;have k:mx e<=Dm es:=by
  unfold Dm;cases q:es.map mx with
  |nil=>rw[q] at m;cases m
  |cons a l =>
   rw[q] at m;obtain⟨G,Z⟩:=ac1 l a;rcases dh.mp m with rfl|m
   .exact G
   .exact Z _ m
 unfold mx at k;split at k<;>exact⟨by lia,by lia⟩
theorem ac2:∀l:List Nat,inL (l.map nD)=some (l.map λ(x:Nat)=>(x:Int))
 |[]=>rfl|x::l=>by simp[inL,nD,ac2 l]
def Yo(M:dj)(Z:j8 M d=some ((a::l).map nD)):v9 .max [d] M=.ok (.int (Wd l a:Nat)) M:=by show Res.qx ((((j8 M d).bind inL).bind al3).map D.int) M=_;rw[Z,wg,ac2,wg,cz,al3,Ut];rfl
def asb{Z:List Ar}{y v:Nat}(R:ρ[v]?=some (some d))(G:ρ.length=y)(U:j8 M d=some (Z.map aD))(hl:Z.length<=10) :
 (Ex.comp true 1 (.name y) (.val (.v v)) (.blt .max (.o (.v y)))).den W ρ M=.ok (.vl ((Z.map mx).map nD)) M:=by
 subst G;rw[Gz (d:=d) (M1:=M) (xs:=Z) (f:=aD) (g:=λe=>nD (mx e)) (by simp[R]) U (by lia) (λx hx=>⟨_,rfl,by
  have g:((ρ++List.replicate 1 none).set ρ.length (some (aD x)))[ρ.length]?=some (some (aD x)):=uo (by simp);have e:v9 .max [aD x] M=.ok (nD (mx x)) M:=by rw[Yo (a:=x.1) (l:=[x.2]) M rfl];rfl
  simp[g,e]⟩)]
 simp[gh,iz]
def asd(Z:es≠[]):v9 .max [.vl ((es.map mx).map nD)] M=.ok (.int (Dm es:Nat)) M:=by
 unfold Dm;cases q:es.map mx with
 |nil=>exact absurd (List.map_eq_nil_iff.mp q) Z|cons a l=>exact Yo M rfl
def ase(G:1<=m)(E:Ends es V)(U:j8 M d=some (es.map aD)):prog.call m 25 [d] M=.ok (.int ((Dm es+1:Nat):Int)) M:=by rw[call_of G rfl];have Z:es≠[]:=List.ne_nil_of_length_pos E.pos;have c:=asb (W:=PW (m-1)) (ρ:=[some d]) (v:=0) rfl rfl U E.few;simp only[Fn.run,Pg,Pb];simp[-List.map_map,show Kz.den (PW (m-1)) [some d] M=_ from c,asd Z]
def Pn(e:Ar):w5 (aD e) (.int 0) M=some (.int (e.1:Nat)):=Dj _ _
def Uu(e:Ar):w5 (aD e) (.int 1) M=some (.int (e.2:Nat)):=Ke _ _ _
def eq_nil(Z:List D):n8 M (.vl Z) (.vl [])=some Z.isEmpty:=by
 cases Z with
 |nil=>rfl|cons a l=>rfl
def ah5(xs:List D)(y:D):Gq (xs++[y]) none (some (-1))=xs:=by
 have h:(-1+((xs.length:Int)+1)).toNat=xs.length:=by lia
 simp only[Gq,clip,jb,d7,List.length_nil];rw[bj (by decide)];simp[h]
noncomputable def Yp:Gn->Bool
 |.same _ _=>true|.apart _=>false
noncomputable def pr:Gn->List Nat×List Nat
 |.same a b=>(a,b)|.apart _=>([],[])
def pD(p:List Nat×List Nat):D:=.tup [cj p.1,cj p.2]
def We:PySem.Str.ofString "apart"≠PySem.Str.ofString "same" := by decide
structure Sp where
 a:List Nat
 b:List Nat
 y:D
def Sp.toD(s:Sp):D:=.tup [cj s.a,cj s.b,s.y]
def Sp.of(s:Sp)(h t:Y3):Prop:=s.a=h/\s.b=t\/s.b=h/\s.a=t
inductive Fz(ss:List Sp)(a:Y3):List Nat->Prop
 |refl:Fz ss a a
 |step:Fz ss a b->s∈ss->s.of b c->Fz ss a c
def asf(h:M[p]?=some (.lst xs)):Iu M a (.ref p)=memD M a xs:=by simp[Iu,h,j8,d8]
def Ii.get(k:Ii r M G)(Z:a≠r)(h:M[a]?=some o):G[a]?=some o:=k a o Z h
theorem ac3:∀(l:Y3)(a:Nat),a<n->(∀x∈l,x<n)->Wd l a<n
 |[],a,h,_=>h
 |x::l,a,h,hl=>by
  show Wd l (if a<x then x else a)<n
  exact ac3 l _ (by have:=hl x bz;split<;>lia) (λy Z=>hl y (bu _ Z))
theorem Way.cons(W:Way es w)(Z:k<es.length)(e:(at_ es k).2=Ek es w):Way es (k::w):=by
 refine⟨by simp,λi G=>?_,?_⟩
 .rcases dh.mp G with rfl|h
  .exact Z
  .exact W.lt i h
 .cases w with
  |nil=>exact absurd rfl W.ne|cons b r=>exact⟨e,W.ch⟩
def ash(h:w≠[]):hw (w++x)=hw w:=by
 cases w with
 |nil=>exact absurd rfl h|cons a l=>rfl
def Kl(h:w≠[]):Ek es (w++x)=Ek es w:=by rw[Ek,ash h,Ek]
def Wf(w:Y3)(k:Nat):yr es (w++[k])=(at_ es k).2:=by simp[yr,lw]
def Yq(h:w≠[]):yr es (k::w)=yr es w:=by
 cases w with
 |nil=>exact absurd rfl h|cons a l=>simp[yr,lw]
theorem Kh.app(B:Kh es a b)(Z:k<es.length)(e:(at_ es k).1=yr es a):Kh es (a++[k]) (b++[k]) :=
 ⟨B.one.app Z e,B.two.app Z (e.trans B.go),by rw[Kl B.one.ne,Kl B.two.ne,B.st],by rw[Wf,Wf]⟩
theorem Kh.cons(B:Kh es a b)(Z:k<es.length)(e:(at_ es k).2=Ek es a):Kh es (k::a) (k::b) :=
 ⟨B.one.cons Z e,B.two.cons Z (e.trans B.st),rfl,by rw[Yq B.one.ne,Yq B.two.ne,B.go]⟩
def Fz.bes(h:Fz ss a b)(U:∀s∈ss,Kh es s.a s.b)(W:Way es a):Kh es a b:=by
 induction h with
 |refl=>exact⟨W,W,rfl,rfl⟩
 |step _ R G Z =>
  have B:=U _ R;rcases G with⟨rfl,rfl⟩|⟨rfl,rfl⟩
  .exact⟨W,B.two,Z.st.trans B.st,Z.go.trans B.go⟩
  .exact⟨W,B.one,Z.st.trans B.st.symm,Z.go.trans B.go.symm⟩
def Wg(w:Y3)(k:Nat):lw (w++[k])=k:=by simp[lw]
def Way.off(W:Way es w)(G:1<w.length):Way es w.dropLast/\yr es w.dropLast=(at_ es (lw w)).1/\Ek es w.dropLast=Ek es w:=by
 obtain⟨u,k,rfl⟩:∃u k,w=u++[k]:=⟨w.dropLast,w.getLast W.ne,(ni W.ne).symm⟩;have Z:u≠[]:=by rintro rfl;simp at G
 rw[List.dropLast_concat,Wg,Kl Z];exact⟨⟨Z,λi U=>W.lt i (ji _ U),W.ch.init⟩,(Xr.last Z W.ch).symm,rfl⟩
def ac4(h:w≠[]):Iw (cj w) none (some (-1)) M=some (cj w.dropLast):=by obtain⟨u,k,rfl⟩:∃u k,w=u++[k]:=⟨w.dropLast,w.getLast h,(ni h).symm⟩;have:=ah5 (u.map nD) (nD k);show some (D.tup (Gq ((u++[k]).map nD) none (some (-1))))=_;rw[gr,cz,List.map_nil,this,List.dropLast_concat];rfl
def Km(w:Y3)(k:Nat)(Z:w.length<1000):zq .add (.tup [.int k]) (cj w) M=.ok (cj (k::w)) M:=by rw[cj,Gx _ _ (by simp;lia)];simp[cj,nD]
def Fz.trans(h1:Fz ss a b)(U:Fz ss b c):Fz ss a c:=by
 induction U with
 |refl=>exact h1|step _ G R Z=>exact .step Z G R
def Fz.symm(h:Fz ss a b):Fz ss b a:=by
 induction h with
 |refl=>exact .refl
 |step _ R q2 U =>
  refine Fz.trans (.step .refl R ?_) U;rcases q2 with⟨G,Z⟩|⟨G,Z⟩
  .exact .inr ⟨Z,G⟩
  .exact .inl ⟨Z,G⟩
def Fz.more(h:Fz ss a b):Fz (ss++X) a b:=by
 induction h with
 |refl=>exact .refl|step _ G Z U=>exact .step U (ji _ G) Z
def Cv(G:List (List Nat))(Z:List Sp):Prop:=∃R:List (List Nat),(∀w∈G,∃r∈R,Fz Z w r)/\R.length+Z.length<=60
theorem Cv.step(C:Cv Z ss)(ha:x.a∈Z)(hb:x.b∈Z)(hn:¬Fz ss x.a x.b):Cv Z (ss++[x]):=by
 obtain⟨R,G,h2⟩:=C;obtain⟨ra,a1,a2⟩:=G _ ha;obtain⟨rb,b1,U⟩:=G _ hb;have ne:ra≠rb:=by rintro rfl;exact hn (a2.trans U.symm)
 refine⟨R.erase rb,λw hw=>?_,?_⟩
 .obtain⟨r,r1,r2⟩:=G w hw
  by_cases e:r=rb
  .subst e
   refine⟨ra,(List.mem_erase_of_ne ne).mpr a1,?_⟩;have s1:Fz (ss++[x]) x.b x.a:=.step .refl (fj _ bz) (.inr ⟨rfl,rfl⟩);exact(r2.more.trans U.symm.more).trans (s1.trans a2.more)
  .exact⟨r,(List.mem_erase_of_ne e).mpr r1,r2.more⟩
 .rw[List.length_erase_of_mem b1,jb]
  have:=List.length_pos_of_mem b1
  simp;lia
def Cv.len(C:Cv Z ss):ss.length<=60:=by obtain⟨R,_,h⟩:=C;lia
abbrev Cs:=List (Ar×Nat)
noncomputable def kv(Z:Cs):List (List Kx×D):=Z.map λc=>([.inl (c.1.1:Int),.inl (c.1.2:Int)],.ref c.2)
noncomputable def up(Z:Nat->List (List Nat))(a:Nat)(w:Y3)(b:Nat):List (List Nat):=if b=a then Z a++[w] else Z b
noncomputable def Lx(G:Cs)(Z:Nat->List (List Nat)):Nat:=(G.map λc=>(Z c.2).length).sum
def ah6{Z:Cs}(h:∀c∈Z,c.2≠a):Lx Z (up ct a w)=Lx Z ct:=by
 unfold Lx
 congr 1
 refine j5 λc G=>?_
 simp[up,h c G]
theorem ah7:∀{Z:Cs},(Z.map (·.2)).Nodup->Lx Z (up ct a w)<=Lx Z ct+1
 |[],_=>ie _
 |c::Z,nd=>by
  rw[cz] at nd;have G:=o8.mp nd
  by_cases e:c.2=a
  .have:Lx Z (up ct a w)=Lx Z ct:=ah6 λx U q=>G.1 (by rw[e,<- q];exact dq.mpr ⟨x,U,rfl⟩)
   show(up ct a w c.2).length+Lx Z (up ct a w)<=(ct c.2).length+Lx Z ct+1
   rw[this,e];simp[up];lia
  .have:=ah7 (ct:=ct) (a:=a) (w:=w) G.2
   show(up ct a w c.2).length+Lx Z (up ct a w)<=(ct c.2).length+Lx Z ct+1
   rw[show up ct a w c.2=ct c.2 by simp[up,e]];lia
def ah8{Z:Cs}:∀{c},c∈Z->(ct c.2).length<=Lx Z ct:=by
 induction Z with
 |nil=>intro c h;cases h
 |cons x l G =>
  intro c h;show _<=(ct x.2).length+Lx l ct
  rcases dh.mp h with rfl|h
  .lia
  .have:=G h;lia
def axv(Z:Cs)(k:Ar):(∃c∈Z,c.1=k/\Ac (kv Z) [.inl (k.1:Int),.inl (k.2:Int)]=some (.ref c.2))\/Ac (kv Z) [.inl (k.1:Int),.inl (k.2:Int)]=none:=by
 induction Z with
 |nil=>exact .inr rfl
 |cons c Z R =>
  by_cases e:c.1=k
  .subst e
   exact .inl ⟨c,bz,rfl,by simp[Ac,kv]⟩
  .have U:¬((c.1.1:Int)=k.1/\(c.1.2:Int)=k.2):=λq=>e (Prod.ext (by have:=q.1;lia) (by have:=q.2;lia))
   have hk:Ac (kv (c::Z)) [.inl (k.1:Int),.inl (k.2:Int)]=Ac (kv Z) [.inl (k.1:Int),.inl (k.2:Int)]:=by
    have:¬((Sum.inl (c.1.1:Int):Kx)=.inl k.1/\(Sum.inl (c.1.2:Int):Kx)=.inl k.2):=λq=>U ⟨Sum.inl.inj q.1,Sum.inl.inj q.2⟩
    have G:decide (([.inl (c.1.1:Int),.inl (c.1.2:Int)]:List Kx)=[.inl (k.1:Int),.inl (k.2:Int)])=false:=qm λq=>this ⟨(yh q).1,(yh (yh q).2).1⟩
    simp only[Ac,kv,cz,jw,G]
   rw[hk];rcases R with⟨x,h1,h2,h3⟩|h
   .exact .inl ⟨x,bu _ h1,h2,h3⟩
   .exact .inr h
structure Rws(es:List Ar)(r q:Nat)(M M1:dj)(cs:Cs)(ct:Nat->List (List Nat))(n:Nat):Prop where
 g:M1[r]?=some (.dT (kv cs))
 c:∀c∈cs,q<c.2/\M1[c.2]?=some (.lst ((ct c.2).map cj))/\ct c.2≠[]/\∀w∈ct c.2,Way es w/\(Ek es w,yr es w)=c.1
 nd:(cs.map (·.2)).Nodup
 z:Lx cs ct<=n
 l:cs.length<=n
 ne:0<n->cs≠[]
 k:mz M M1
noncomputable def xK:Ex:=.bm .append (.bm .setdefault (.v 1) (.p (.tup (.p (.ix (.ix (.v 0) (.ix (.v 2) (.i 0))) (.i 0)) (.ix (.ix (.v 0) (.ix (.v 2) (.neg (.i 1)))) (.i 1)))) (.lst .z))) (.o (.v 2))
def Rws.step{G:Cs}{ct:Nat->List (List Nat)}(hd:j8 Z d=some (es.map aD))(R:Rws es r q M Z G ct n)(hr:M.length<=r)(hq:r<q)(q0:q<Z.length)(W:Way es w)(hn:n<=60) :
 ∃(q1:Cs)(qv:Nat->List (List Nat))(M':dj),xK.den (PW m) [some d,sR r,some (cj w),b3,b4,b5] Z=.ok .non M'/\Rws es r q M M' q1 qv (n+1)/\∀a o,a<=q->a≠r->Z[a]?=some o->M'[a]?=some o:=by
 have kt:Ha (.tup [.int (Ek es w),.int (yr es w)])=some [.inl (Ek es w:Int),.inl (yr es w:Int)]:=rfl;have e1:=Yk (M:=Z) W;have e2:=Jr (M:=Z) W;have e3:=M9 hd W.Nf;have e4:=M9 hd W.Nb;have rl:=rn R.g;have r2:(Z++[.lst []])[r]?=some (.dT (kv G)):=yu R.g;have q2:Iz .setdefault (.ref r) Z=true:=by simp[Iz,R.g]
 have qq:∀{v:D}{M2:dj},Bj .setdefault (.ref r) [.tup [.int (Ek es w),.int (yr es w)],.ref Z.length] (Z++[.lst []])=.ok v M2->Iz .append v M2=true->xK.den (PW m) [some d,sR r,some (cj w),b3,b4,b5] Z=Bj .append v [cj w] M2:=fun{v M2} h1 h2=>by simp[xK,q2,e1,e2,e3,e4,Pn,Uu,MW.new];rw[show(at_ es (hw w)).1=Ek es w from rfl,show(at_ es (lw w)).2=yr es w from rfl,h1];simp[h2]
 rcases axv G (Ek es w,yr es w) with⟨c,h1,h2,h3⟩|h3
 .obtain⟨c1,c2,c3,c4⟩:=R.c c h1
  have cl:=rn c2;have g2:(Z++[.lst []])[c.2]?=some (.lst ((ct c.2).map cj)):=yu c2;have s1:Bj .setdefault (.ref r) [.tup [.int (Ek es w),.int (yr es w)],.ref Z.length] (Z++[.lst []])=.ok (.ref c.2) (Z++[.lst []]):=by simp only[Bj,onT,r2,kt];simp only at h3;simp only[h3]
  have zl:=ah8 (ct:=ct) h1;have zn:=R.z;refine⟨G,up ct c.2 w,(Z++[MO.lst []]).set c.2 (.lst ((ct c.2++[w]).map cj)),?_,⟨?_,λx hx=>?_,R.nd,bw (ah7 R.nd) (by lia),by have:=R.l;lia,λ_ q=>by rw[q] at h1;(cases h1),mz.set (mz.trans R.k (mz.app _ _)) (by lia)⟩,λa o h1 h2 h=>?_⟩
  .rw[qq s1 (Ep g2),Bl g2 (by simp;lia)]
   simp
  .rw[jc (by lia)];exact r2
  .obtain⟨x1,x2,x3,x4⟩:=R.c x hx
   by_cases e:x.2=c.2
   .have ek:x.1=c.1:=by
     rw[e] at x3 x4;obtain⟨u,U⟩:=List.exists_mem_of_ne_nil _ x3;rw[<- (x4 u U).2,(c4 u U).2]
    rw[e];refine⟨c1,by rw[o6 g2];simp[up],by simp[up],λu U=>?_⟩;have U:u∈ct c.2++[w]:=by simpa[up] using U
    rcases cg.mp U with q|q
    .rw[ek];exact c4 u q
    .simp at q;subst q;exact⟨W,by rw[ek,h2]⟩
   .have:up ct c.2 w x.2=ct x.2:=by simp[up,e]
    rw[this];exact⟨x1,by rw[jc (jh e)];exact yu x2,x3,x4⟩
  .rw[jc (by lia)];exact yu h
 .have fr:∀c∈G,c.2≠Z.length:=λc hc=>by have:=rn (R.c c hc).2.1;lia
  have s1:Bj .setdefault (.ref r) [.tup [.int (Ek es w),.int (yr es w)],.ref Z.length] (Z++[.lst []])=.ok (.ref Z.length) ((Z++[MO.lst []]).set r (.dT (kv (G++[((Ek es w,yr es w),Z.length)])))):=by
   have hl:(kv G).length<100000:=by have:=R.l;simp[kv];lia
   simp only[Bj,onT,r2,kt];simp only at h3;simp only[h3,hl,j6];simp[kv]
  have g3:((Z++[MO.lst []]).set r (.dT (kv (G++[((Ek es w,yr es w),Z.length)]))))[Z.length]?=some (.lst []):=by rw[jc (by lia)];exact yw
  have qk:Lx G (λb=>if b=Z.length then[w] else ct b)=Lx G ct:=by
   unfold Lx
   congr 1
   exact j5 λc hc=>by simp[fr c hc]
  have zn:=R.z;refine⟨G++[((Ek es w,yr es w),Z.length)],λb=>if b=Z.length then[w] else ct b,((Z++[MO.lst []]).set r (.dT (kv (G++[((Ek es w,yr es w),Z.length)])))).set Z.length (.lst [cj w]),?_,⟨?_,λx hx=>?_,?_,?_,by have:=R.l;simp;lia,λ_=>by simp,mz.set (mz.set (mz.trans R.k (mz.app _ _)) hr) (by lia)⟩,λa o h1 h2 h=>?_⟩
  .rw[qq s1 (Ep g3),Bl g3 (by simp)]
   simp
  .rw[jc (by lia)];exact o6 r2
  .rcases cg.mp hx with q|q
   .obtain⟨x1,x2,x3,x4⟩:=R.c x q
    simp only[fr x q,jj];exact⟨x1,by rw[jc (jh (fr x q)),jc (by lia)];exact yu x2,x3,x4⟩
   .simp at q;subst q
    simp only[j6];exact⟨q0,by rw[o6 g3];rfl,by simp,λu U=>by simp at U;subst U;exact⟨W,rfl⟩⟩
  .rw[gr,n6]
   refine⟨R.nd,by simp,λa ha b hb=>?_⟩;simp at hb;subst hb;obtain⟨x,hx,rfl⟩:=dq.mp ha;exact fr x hx
  .have:Lx (G++[((Ek es w,yr es w),Z.length)]) (λb=>if b=Z.length then[w] else ct b)=Lx G (λb=>if b=Z.length then[w] else ct b)+1:=by simp[Lx]
   rw[this,qk];lia
  .rw[jc (by lia),jc (jh h2)];exact yu h
def al2(hm:1<=m)(E:Ends es V)(hd:j8 M d=some (es.map aD))(hr:M[r]?=some (.dT []))(hM:mz M0 M)(h0:M0.length<=r)(qk:j8 M0 d=some (es.map aD)) :
 ∃U G ct M',Av.den (PW m) [some d,sR r,none,none,none,none] M=.ok (.next,[some d,sR r,U,none,none,none]) M'/\Rws es r M.length M0 M' G ct 60:=by
 unfold Av;obtain⟨ws,M1,e1,g1,L,k1⟩:=Wc (m:=m) (M:=M) (d:=d) hm E hd;have rl:=rn hr;have fw:=L.few;obtain⟨q1,M',e,U,G,ct,rfl,R,-,-⟩:=vf (W:=PW m) (it:=.call 26 (.o (.v 0))) (t:=.name 2) (b:=Ec) (ρ:=[some d,sR r,none,none,none,none]) (M:=M) (M1:=M1) (d:=.ref M.length) (by simp[e1]) (iu g1)
  (λi ρ Z=>∃(U:Option D)(G:Cs)(ct:Nat->List (List Nat)),ρ=[some d,sR r,U,none,none,none]/\Rws es r M.length M0 Z G ct i/\Z[M.length]?=some (.lst (ws.map cj))/\j8 Z d=some (es.map aD))
  ⟨none,[],λ_=>[],rfl,⟨k1 _ _ hr,by simp,by simp,ie _,ie _,λh=>absurd h (o9 _),hM.trans k1⟩,g1,mz.j8 k1 hd⟩
  (λi ρ Z h=>by obtain⟨_,_,_,_,_,g,_⟩:=h;exact iu g)
  (λi z ρ Z hz hI=>by
   obtain⟨U,G,ct,rfl,R,g,qv⟩:=hI;obtain⟨w,hi,rfl⟩:∃w,ws[i]?=some w/\cj w=z:=by simpa using hz
   have il:=(ak.mp hi).1;obtain⟨q0,qq,M3,e3,R3,k3⟩:=R.step (m:=m) (b3:=none) (b4:=none) (b5:=none) qv h0 rl (rn g) (L.way w (bf hi)) (by lia);refine⟨_,.next,[some d,sR r,some (cj w),none,none,none],M3,rfl,?_,.inl rfl,_,q0,qq,rfl,R3,k3 _ _ (az _) (by lia) g,mz.j8 R3.k qk⟩;have e4:(Af.expr xK).den (PW m) [some d,sR r,some (cj w),none,none,none] Z=.ok (.next,[some d,sR r,some (cj w),none,none,none]) M3:=by rw[acn,e3];rfl
   show(m7.o (.expr xK)).den (PW m) [some d,sR r,some (cj w),none,none,none] Z=_;rw[aco,e4];rfl)
 rw[dg] at R;refine⟨U,G,ct,M',e,R.g,R.c,R.nd,bw R.z fw,bw R.l fw,λ_=>R.ne ?_,R.k⟩;have:=L.one 0 (by have:=E.pos;lia);exact List.length_pos_of_mem this
structure Prs(es:List Ar)(p:Nat)(M M1:dj)(L:List (List Nat×List Nat))(n:Nat):Prop where
 g:M1[p]?=some (.lst (L.map pD))
 b:∀x∈L,Kh es x.1 x.2
 l:L.length<=n
 k:mz M M1
abbrev EA(d:D)(r p:Nat)(b2 b4 b5:Option D):Env:=[some d,sR r,b2,sR p,b4,b5]
def al1{l:List (List Nat)}(hl:l.length<=60)(qk:l≠[])(hb:∀w∈l,Way es w/\(Ek es w,yr es w)=c)(ha:U[a]?=some (.lst (l.map cj)))(qq:a≠p)(hp:M.length<=p)(P:Prs es p M U L n)(hn:n<=3600) :
 ∃R Z M',An.den (PW m) (EA d r p b2 (sR a) b5) U=.ok (.next,EA d r p b2 (sR a) R) M'/\Prs es p M M' Z (n+60*l.length)/\Z≠[]/\Ii p U M':=by
 unfold An;obtain⟨qv,M',e,R,Z,rfl,G,k',h'⟩:=vf (W:=PW m) (it:=.v 4) (t:=.name 5) (b:=zb) (ρ:=EA d r p b2 (sR a) b5) (M:=U) (M1:=U) (d:=.ref a) rfl (iu ha)
  (λi ρ M2=>∃(R:Option D)(Z:List (List Nat×List Nat)),ρ=EA d r p b2 (sR a) R/\Prs es p M M2 Z (n+60*i)/\Ii p U M2/\(0<i->Z≠[]))
  ⟨b5,L,rfl,P,Ii.refl _ _,λh=>absurd h (o9 _)⟩
  (λi ρ M2 h=>by obtain⟨_,_,_,_,k,_⟩:=h;exact iu (k _ _ qq ha))
  (λi z ρ M2 hz hI=>by
   obtain⟨R,Z,rfl,G,k',h'⟩:=hI;obtain⟨w,hi,rfl⟩:∃w,l[i]?=some w/\cj w=z:=by simpa using hz
   have il:=(ak.mp hi).1;have a2:=k' _ _ qq ha;obtain⟨Ww,cw⟩:=hb w (bf hi);have c1:Am.den (PW m) (EA d r p b2 (sR a) (some (cj w))) M2=.ok (.vl ((l.map λu=>(w,u)).map pD)) M2:=by unfold Am;rw[Gz (d:=.ref a) (M1:=M2) (xs:=l) (f:=cj) (g:=λu=>pD (w,u)) rfl (Dp (iu a2)) (by lia) (λu hu=>⟨_,rfl,by simp[pD]⟩)];simp[gh,iz]
   have lp:=G.l;refine⟨_,.next,EA d r p b2 (sR a) (some (cj w)),M2.set p (.lst ((Z++l.map λu=>(w,u)).map pD)),rfl,?_,.inl rfl,_,Z++l.map λu=>(w,u),rfl,⟨o6 G.g,λx hx=>?_,by simp;lia,mz.set G.k hp⟩,k'.trans (Ii.set _ _ _),λ_=>by simp[qk]⟩
   .show zb.den (PW m) (EA d r p b2 (sR a) (some (cj w))) M2=_
    simp only[zb];simp[-List.map_map,Ru G.g,c1,aaz G.g (ys:=(l.map λu=>(w,u)).map pD) (by simp;lia)]
   .rcases cg.mp hx with q|q
    .exact G.b x q
    .obtain⟨u,hu,rfl⟩:=dq.mp q
     obtain⟨Wu,cu⟩:=hb u hu;have:=cw.trans cu.symm;exact⟨Ww,Wu,(Prod.ext_iff.mp this).1,(Prod.ext_iff.mp this).2⟩)
 rw[dg] at G h';exact⟨R,Z,M',e,G,h' (j0.mpr qk),k'⟩
def ah9(hm:2<=m)(E:Ends es V)(hd:j8 M d=some (es.map aD)) :
 ∃p L M',prog.call m 27 [d] M=.ok (.ref p) M'/\M.length<=p/\Prs es p M M' L 3600/\L≠[]:=by
 rw[call_of (bw (by decide) hm) rfl];obtain⟨b2,Z,ct,G,e1,R⟩:=al2 (m:=m-1) (M:=M++[.dT []]) (r:=M.length) (M0:=M) (by lia) E (mz.j8 (mz.app _ _) hd) yw (mz.app _ _) (az _) hd;have rl:=rn R.g;have q0:=R.z;have lp:∃b4 U L M',Aq.den (PW (m-1)) (EA d M.length G.length b2 none none) (G++[.lst []])=.ok (.next,EA d M.length G.length b2 b4 U) M'/\Prs es G.length M M' L 3600/\L≠[]:=by
  unfold Aq;have qv:(G++[.lst []])[M.length]?=some (.dT (kv Z)):=yu R.g;obtain⟨q1,M',e,b4,U,L,rfl,P,Qh,-⟩:=ar5 (W:=PW (m-1)) (it:=.vals (.v 1)) (t:=.name 4) (b:=Ao) (ρ:=EA d M.length G.length b2 none none) (M:=G++[.lst []]) (M1:=(G++[MO.lst []]).set M.length (.dF (kv Z))) (s:=.con (Z.map λc=>.ref c.2)) (n:=Z.length)
   (by
    have:acg (.ref M.length) (G++[.lst []])=.ok (.con (Z.map λc=>.ref c.2)) ((G++[MO.lst []]).set M.length (.dF (kv Z))):=by simp only[acg,qv];simp[kv,gh,iz]
    rw[Yb,ahc];exact this) (by simp[Src.len])
   (λi ρ M2=>∃(b4 U:Option D)(L:List (List Nat×List Nat)),ρ=EA d M.length G.length b2 b4 U/\Prs es G.length M M2 L (60*Lx (Z.take i) ct)/\(0<i->L≠[])/\∀c∈Z,M2[c.2]?=some (.lst ((ct c.2).map cj)))
   ⟨none,none,[],rfl,⟨by rw[jc (by lia)];exact yw,by simp,ie _,mz.set (mz.trans R.k (mz.app _ _)) (az _)⟩,λh=>absurd h (o9 _),λc hc=>by
    have:=(R.c c hc).1;rw[jc (by simp at this;lia)];exact yu (R.c c hc).2.1⟩ (λ_ _ _=>rfl)
   (λi ρ M2 hi hI=>by
    obtain⟨b4,U,L,rfl,P,Qh,hc⟩:=hI;obtain⟨c,qk⟩:∃c,Z[i]?=some c:=⟨_,dm hi⟩;have qq:=bf qk;obtain⟨c1,c2,c3,c4⟩:=R.c c qq;have cl:=ah8 (ct:=ct) qq;have tk:Lx (Z.take (i+1)) ct=Lx (Z.take i) ct+(ct c.2).length:=by rw[jd,qk];simp[Lx]
    have tl:Lx (Z.take (i+1)) ct<=Lx Z ct:=by
     have:Lx Z ct=Lx (Z.take (i+1)) ct+Lx (Z.drop (i+1)) ct:=by
      conv=>lhs;rw[<- u0 (i+1) Z]
      unfold Lx;rw[gr,List.sum_append]
     lia
    have cne:∀x∈Z,x.2≠G.length:=λx hx=>by have:=rn (R.c x hx).2.1;lia
    obtain⟨Ry,L',M3,e3,P3,n3,k3⟩:=al1 (m:=m-1) (d:=d) (r:=M.length) (b2:=b2) (b5:=U) (l:=ct c.2) (by lia) c3 c4 (hc c qq) (cne c qq) (rn R.g |> λh=>by lia) P (by lia);refine⟨.ref c.2,EA d M.length G.length b2 (sR c.2) U,by simp[Src.item,qk],rfl,EA d M.length G.length b2 (sR c.2) Ry,M3,?_,_,Ry,L',rfl,⟨P3.g,P3.b,by have:=P3.l;rw[tk];lia,P3.k⟩,λ_=>n3,λx hx=>k3 _ _ (cne x hx) (hc x hx)⟩;simp only[Ao];simp[e3])
  exact⟨b4,U,L,M',e,⟨P.g,P.b,by have:=P.l;rw[jr] at this;lia,P.k⟩,Qh (j0.mpr (R.ne (by decide)))⟩
 obtain⟨b4,U,L,M',e,P,Qh⟩:=lp;refine⟨G.length,L,M',?_,by lia,P,Qh⟩;simp only[Fn.run,Gi,Gh];simp[MW.new,e1,e]
def Ni(h1:1<=es.length)(h2:es.length<=10)(Z:∀e∈es,(e:Ar).1<=7/\e.2<=7)(G:∀v,v<8->((nxt es v).map λk=>1+V (at_ es k).2).sum<=V v)(R:((List.range es.length).map λk=>1+V (at_ es k).2).sum<=60):Ends es V :=
 ⟨h1,h2,Z,λv=>by
  rcases j9 v 8 with h|h
  .exact G v h
  .have:nxt es v=[]:=List.eq_nil_iff_forall_not_mem.mpr λk U=>by
    obtain⟨q1,q2⟩:=Ho.mp U;have:=(Z _ (Ol q1)).1
    lia
   rw[this];exact ie _,R⟩
noncomputable def Vk(l:Y3)(v:Nat):Nat:=l.getD v 0
noncomputable def kn:List (List Ar):=[[(0,1),(0,1),(1,2)],[(0,1),(1,2),(0,2),(2,3)],[(0,1),(0,2),(1,3),(2,3),(3,4)],[(0,1),(1,2),(0,3),(3,4),(1,4),(2,5),(4,5)],[(3,1),(3,1),(1,0),(1,0),(0,2)]]
def amn(h:es∈kn):∃V,Ends es V:=by
 simp only[kn,dh,xu,or_false] at h;rcases h with rfl|rfl|rfl|rfl|rfl
 .exact⟨Vk [4,1],Ni (by decide) (by decide) (by decide) (by decide+kernel) (by decide+kernel)⟩
 .exact⟨Vk [5,2,1],Ni (by decide) (by decide) (by decide) (by decide+kernel) (by decide+kernel)⟩
 .exact⟨Vk [6,2,2,1],Ni (by decide) (by decide) (by decide) (by decide+kernel) (by decide+kernel)⟩
 .exact⟨Vk [8,4,1,2,1],Ni (by decide) (by decide) (by decide) (by decide+kernel) (by decide+kernel)⟩
 .exact⟨Vk [1,4,0,10],Ni (by decide) (by decide) (by decide) (by decide+kernel) (by decide+kernel)⟩
structure Rnd(es:List Ar):Prop where
 r:∀e∈es,e.1<=3/\e.1<e.2/\e.2<=6
noncomputable def cn(Z:List Ar)(v:Nat):Nat:=(Z.filter λe=>decide (e.1=v)).length
def Pr(Z:List Ar):Nat->Nat
 |0=>(1+cn Z 0)*((1+cn Z 1)*((1+cn Z 2)*(1+cn Z 3)))|1=>(1+cn Z 1)*((1+cn Z 2)*(1+cn Z 3))|2=>(1+cn Z 2)*(1+cn Z 3)|3=>1+cn Z 3|_=>1
def aia(es:List Ar):(List.range es.length).map (at_ es)=es:=by
 refine List.ext_getElem? λi=>?_
 rcases j9 i es.length with h|h
 .simp[h,Pj]
  have:=Pj h;rw[dm h] at this;exact(gj this).symm
 .simp[h]
def asj(Z:List Ar)(v:Nat):(nxt Z v).length=cn Z v:=by
 have:(Z.filter λe=>decide (e.1=v))=(nxt Z v).map (at_ Z):=by
  conv=>lhs;rw[<- aia Z]
  rw[List.filter_map];rfl
 rw[cn,this,dg]
theorem aib{f:Nat->Nat}:∀{l:Y3},(∀k∈l,f k<=b)->(l.map f).sum<=l.length*b
 |[],_=>by simp
 |a::l,h=>by
  have:=aib (l:=l) λk Z=>h k (bu _ Z)
  have:=h a bz;simp[Nat.add_mul];lia
def Cq{a b c:Nat}(h:c<=b):c<=(1+a)*b:=by
 have:b<=(1+a)*b:=by rw[Nat.add_mul];lia
 lia
theorem aic(Z:List Ar):∀v,1<=Pr Z v
 |0=>Cq (Cq (Cq (by lia)))|1=>Cq (Cq (by lia))|2=>Cq (by lia)|3=>by show 1<=1+cn Z 3;lia
 |_+4=>az _
theorem amo(Z:List Ar):∀v,Pr Z (v+1)<=Pr Z v
 |0=>Cq (az _)|1=>Cq (az _)|2=>Cq (az _)|3=>aic Z 3|_+4=>az _
theorem Wh(Z:List Ar):∀{u v:Nat},v<=u->Pr Z u<=Pr Z v
 |0,v,h=>by rw[Nat.le_zero.mp h];exact az _
 |u+1,v,h=>by
  rcases j9 v (u+1) with q|q
  .exact bw (amo Z u) (Wh Z (by lia))
  .have:v=u+1:=by lia
   rw[this];exact az _
theorem asl(Z:List Ar):∀{v:Nat},v<=3->Pr Z v=(1+cn Z v)*Pr Z (v+1)
 |0,_=>rfl|1,_=>rfl|2,_=>rfl|3,_=>(Nat.mul_one _).symm
theorem aa1:∀{es:List Ar},Rnd es->∀f:Nat->Nat,(es.map λe=>f e.1).sum=cn es 0*f 0+cn es 1*f 1+cn es 2*f 2+cn es 3*f 3
 |[],_,f=>by simp[cn]
 |e::es,R,f=>by
  have G:=aa1 (es:=es) ⟨λx Z=>R.r x (bu _ Z)⟩ f;have h:=(R.r e bz).1;have c:∀v,cn (e::es) v=cn es v+if e.1=v then 1 else 0:=λv=>by
   unfold cn
   by_cases q:e.1=v<;>simp[q]
  rw[cz,vm,G,c,c,c,c];have:e.1=0\/e.1=1\/e.1=2\/e.1=3:=by lia
  rcases this with q|q|q|q<;>simp[q,Nat.add_mul]<;>lia
theorem ac5:∀l:List Ar,(l.map λ_=>1).sum=l.length
 |[]=>rfl|_::l=>by rw[cz,vm,ac5 l,d7];lia
def four:∀a,a<7->∀b,b<7->∀c,c<7->∀d,d<7->a+b+c+d<=6->a*((1+b)*((1+c)*(1+d)))+b*((1+c)*(1+d))+c*(1+d)+d<=60:=by decide+kernel
def aid(R:Rnd es)(h1:1<=es.length)(h2:es.length<=6):Ends es λv=>Pr es v-1:=by
 have pp:=aic es;have pe:∀v,1+(Pr es v-1)=Pr es v:=λv=>by have:=pp v;lia
 refine⟨h1,by lia,λe U=>by have:=R.r e U;lia,λv=>?_,?_⟩
 .simp only[pe]
  rcases j9 3 v with h|h
  .have:nxt es v=[]:=List.eq_nil_iff_forall_not_mem.mpr λk Z=>by
    obtain⟨G,q2⟩:=Ho.mp Z;have:=(R.r _ (Ol G)).1
    lia
   rw[this];exact ie _
  .have:=aib (f:=λk=>Pr es (at_ es k).2) (b:=Pr es (v+1)) (l:=nxt es v) λk Z=>by
    obtain⟨G,q2⟩:=Ho.mp Z;have:=(R.r _ (Ol G)).2.1;exact Wh es (by lia)
   rw[asj] at this;have e:=asl es h;rw[Nat.add_mul,Nat.one_mul] at e;have:=pp (v+1)
   lia
 .simp only[pe]
  have a:((List.range es.length).map λk=>Pr es (at_ es k).2).sum=(es.map λe=>Pr es e.2).sum:=by have:=o4 (List.map λe=>Pr es e.2) (aia es);rw[gh] at this;exact o4 List.sum this
  have b:∀l:List Ar,(∀e∈l,e∈es)->(l.map λe=>Pr es e.2).sum<=(l.map λe=>Pr es (e.1+1)).sum:=by
   intro l
   induction l with
   |nil=>intro _;simp
   |cons x l ih =>
    intro h;have:=ih λe U=>h e (bu _ U)
    have:=Wh es (show x.1+1<=x.2 from(R.r x (h x bz)).2.1)
    simp;lia
  have c:(es.map λe=>Pr es (e.1+1)).sum=cn es 0*Pr es 1+cn es 1*Pr es 2+cn es 2*Pr es 3+cn es 3*Pr es 4:=aa1 R λv=>Pr es (v+1)
  have d:=aa1 R λ_=>1
  rw[ac5] at d;simp only[Nat.mul_one] at d;have:=b es λ_ h=>h
  rw[a];have g:=four (cn es 0) (by lia) (cn es 1) (by lia) (cn es 2) (by lia) (cn es 3) (by lia) (by lia);rw[c,show Pr es 1=(1+cn es 1)*((1+cn es 2)*(1+cn es 3)) from rfl,show Pr es 2=(1+cn es 2)*(1+cn es 3) from rfl,show Pr es 3=1+cn es 3 from rfl,show Pr es 4=1 from rfl,Nat.mul_one] at this;exact bw this g
def Has.lt(h:Has t f M):t<M.length:=by obtain⟨n,h,_⟩:=h;exact rn h
theorem St.set(S:St t f M Z)(hp:M.length<=p)(R:t<M.length):St t f M (Z.set p o):=by obtain⟨n,h,U⟩:=S.has;exact⟨by simpa using S.len,⟨n,by rw[jc (by lia)];exact h,U⟩,λa u G e=>by rw[jc (by have:=rn e;lia)];exact S.keep a u G e⟩
def St.keep'(S:St t f M Z)(k:mz Z M2):St t f M M2:=S.trans (.of S.has k)
theorem St.refl(h:Has t f M):St t f M M:=.of h (mz.refl M)
abbrev EY(t:Nat)(b1 b2 b3 b4 b5 b6 b7 b8:Option D):Env:=[sR t,b1,b2,b3,b4,b5,b6,b7,b8]
theorem axx(M:dj):∀{v:Nat},v<4->∃z:Nat,w5 (.vl [.int 1,.int 1,.int 2,.int 3]) (.int v) M=some (.int z)/\1<=z/\z<=3
 |0,_=>⟨1,rfl,by decide,by decide⟩|1,_=>⟨1,rfl,by decide,by decide⟩|2,_=>⟨2,rfl,by decide,by decide⟩|3,_=>⟨3,rfl,by decide,by decide⟩
def sy1(hm:1<=m)(hs:Has t f M)(hp:M1[p]?=some (.lst []))(S:St t f M M1)(hl:M.length<=p) :
 ∃Z U G M',Be.den (PW m) (EY t (sR p) none none none none none none none) M1=.ok (.next,EY t (sR p) U G none none none none none) M'/\M'[p]?=some (.lst (Z.map aD))/\Rnd Z/\1<=Z.length/\Z.length<=6/\St t f M M':=by
 unfold Be;obtain⟨v,M2,e2,hv,s2,l2⟩:=Aa (m:=m) (many:=6) hm S.has (by decide) (by decide);have tl:=hs.lt;obtain⟨qq,M',e,Z,U,G,rfl,g1,g2,g3,R⟩:=Gf (W:=PW m) (n:=1+v) (M1:=M2) (t:=.name 2) (b:=Bc) (ρ:=EY t (sR p) none none none none none none none) (M:=M1) (it:=.bin .add (.i 1) (.call 2 (.p (.v 0) (.i 6)))) (by
  simp[e2]) (by lia) (λi ρ M3=>∃(Z:List Ar)(U G:Option D),ρ=EY t (sR p) U G none none none none none/\M3[p]?=some (.lst (Z.map aD))/\Rnd Z/\Z.length=i/\St t f M M3) ⟨[],none,none,rfl,s2.keep _ _ (by lia) hp,⟨by simp⟩,rfl,S.trans s2⟩ (λi ρ M3 hi hI=>by
  obtain⟨Z,U,G,rfl,g1,g2,g3,R⟩:=hI;obtain⟨a,M4,e4,h4,s4,_⟩:=Aa (m:=m) (many:=4) hm R.has (by decide) (by decide);obtain⟨c,M5,e5,h5,s5,_⟩:=Aa (m:=m) (many:=4) hm s4.has (by decide) (by decide);obtain⟨z,e6,z1,z2⟩:=axx M5 (v:=c) (by lia);obtain⟨x,M7,e7,h7,s7,_⟩:=Aa (m:=m) (many:=z) hm s5.has (by lia) (by lia);have S7:St t f M M7:=((R.trans s4).trans s5).trans s7;have p4:M4[p]?=some (.lst (Z.map aD)):=s4.keep _ _ (by lia) g1;have p7:M7[p]?=some (.lst (Z.map aD)):=s7.keep _ _ (by lia) (s5.keep _ _ (by lia) p4);have ei:((a:Int)+1+(x:Int))=((a+1+x:Nat):Int):=by lia
  refine⟨_,.next,EY t (sR p) (sI i) (sI a) none none none none none,M7.set p (.lst ((Z++[(a,a+1+x)]).map aD)),rfl,?_,.inl rfl,Z++[(a,a+1+x)],_,_,rfl,o6 p7,⟨λe he=>?_⟩,by simp;lia,S7.set hl tl⟩
  .show Bc.den (PW m) (EY t (sR p) (sI i) G none none none none none) M3=_
   simp only[Bc];simp[e4,Ep p4,e5,e6,e7,Bl p7 (d:=.tup [.int (a:Int),.int ((a:Int)+1+(x:Int))]) (by simp;lia),aD]
  .rcases cg.mp he with q|q
   .exact g2.r e q
   .simp at q;subst q
    exact⟨by show a<=3;lia,by show a<a+1+x;lia,by show a+1+x<=6;lia⟩)
 exact⟨Z,U,G,M',e,g1,g2,by lia,by lia,R⟩
def sy2(hm:1<=m)(S:St t f M G)(tl:t<M.length)(hd:∀M2,St t f M M2->j8 M2 d=some (es.map aD))(E:Ends es V) :
 ∃(Z:List Gn)(U:dj),Bb.den (PW m) (EY t (some d) b2 b3 b4 b5 none none none) G=.ok (.ref U.length) (U++[.lst (Z.map Gn.toD)])/\(∀g∈Z,Gd es g)/\Z.length<=3/\St t f M U/\G.length<=U.length/\(∀a o,a≠t->G[a]?=some o->U[a]?=some o):=by
 unfold Bb;obtain⟨v,M2,e2,hv,s2,l2⟩:=Aa (m:=m) (many:=4) hm S.has (by decide) (by decide);have hf:=E.few;have hp:=E.pos;obtain⟨ys,U,e,Z,rfl,h1,h2,R,h4,h5⟩:=Hb (W:=PW m) (v:=false) (k:=1) (n:=v) (M1:=M2) (t:=.name 9) (e:=.tup (.p (.cst (.str (PySem.Str.ofString "apart"))) (.call 2 (.p (.v 0) (.l (.v 1)))))) (ρ:=EY t (some d) b2 b3 b4 b5 none none none) (M:=G) (it:=.call 2 (.p (.v 0) (.i 4))) (by simp[e2]) (by lia)
  (λi xs M3=>∃Z:List Gn,xs=Z.map Gn.toD/\(∀g∈Z,Gd es g)/\Z.length=i/\St t f M M3/\G.length<=M3.length/\(∀a o,a≠t->G[a]?=some o->M3[a]?=some o)) ⟨[],rfl,by simp,rfl,S.trans s2,s2.len,s2.keep⟩ (λi xs M3 hi hI=>by
   obtain⟨Z,rfl,h1,h2,R,h4,h5⟩:=hI;have ll:=Ng (hd M3 R);rw[dg] at ll;obtain⟨k,M4,e4,hk,s4,_⟩:=Aa (m:=m) (many:=es.length) hm R.has (by lia) (by lia);refine⟨_,Gn.toD (.apart k),M4,rfl,?_,Z++[.apart k],by simp,λg hg=>?_,by simp;lia,R.trans s4,bw h4 s4.len,λa o n h=>s4.keep a o n (h5 a o n h)⟩
   .simp[ll,e4,Gn.toD]
   .rcases cg.mp hg with q|q
    .exact h1 g q
    .simp at q;subst q;exact Int.ofNat_lt.mp hk)
 exact⟨Z,U,e,h1,by lia,R,h4,h5⟩
def Yr(x:List Nat×List Nat):zq .add (.tup [.str (PySem.Str.ofString "same")]) (pD x) M=.ok (Gn.toD (.same x.1 x.2)) M:=by rw[pD,Gx _ _ (by simp)];rfl
def sy0{gs:List Gn}(hm:1<=m)(S:St t f M U)(tl:t<M.length)(hg:U[g]?=some (.lst (gs.map Gn.toD)))(qk:p≠g)(qv:M.length<=g)(Kq:M.length<=p)(hp:U[p]?=some (.lst ((L:List (List Nat×List Nat)).map pD)))(hb:∀x∈L,Kh es x.1 x.2)(hl:L.length<=3600)(Qh:L≠[])(qq:∀g∈gs,Gd es g)(q0:gs.length<=3) :
 ∃(Z:List Gn)(G:Option D)(M':dj),Ba.den (PW m) (EY t b1 b2 b3 b4 (sR p) (sR g) none none) U=.ok (.next,EY t b1 G b3 b4 (sR p) (sR g) none none) M'/\M'[g]?=some (.lst (Z.map Gn.toD))/\M'[p]?=some (.lst (L.map pD))/\(∀g∈Z,Gd es g)/\Z.length<=6/\St t f M M':=by
 unfold Ba;obtain⟨v,M2,e2,hv,s2,l2⟩:=Aa (m:=m) (many:=4) hm S.has (by decide) (by decide);have lp:0<L.length:=j0.mpr Qh
 obtain⟨q1,M',e,Z,G,rfl,h1,h2,h3,h4,h5⟩:=Gf (W:=PW m) (n:=v) (M1:=M2) (t:=.name 2) (b:=Az) (ρ:=EY t b1 b2 b3 b4 (sR p) (sR g) none none) (M:=U) (it:=.call 2 (.p (.v 0) (.i 4))) (by simp[e2]) (by lia)
  (λi ρ R=>∃(Z:List Gn)(G:Option D),ρ=EY t b1 G b3 b4 (sR p) (sR g) none none/\R[g]?=some (.lst (Z.map Gn.toD))/\R[p]?=some (.lst (L.map pD))/\(∀g∈Z,Gd es g)/\Z.length<=3+i/\St t f M R) ⟨gs,b2,rfl,s2.keep _ _ (by lia) hg,s2.keep _ _ (by lia) hp,qq,by lia,S.trans s2⟩ (λi ρ R hi hI=>by
   obtain⟨Z,G,rfl,h1,h2,h3,h4,h5⟩:=hI;obtain⟨k,M4,e4,hk,s4,_⟩:=Aa (m:=m) (many:=L.length) hm h5.has (by lia) (by lia);have ll:=len_list (iu h2);rw[dg] at ll;have g4:=s4.keep _ _ (show g≠t by lia) h1;have p4:=s4.keep _ _ (show p≠t by lia) h2;obtain⟨x,hx⟩:∃x,L[k]?=some x:=⟨_,dm (by lia)⟩;have ix:w5 (.ref p) (.int k) M4=some (pD x):=Ah (iu p4) (qy _) (by simp[hx]);refine⟨_,.next,EY t b1 (sI i) b3 b4 (sR p) (sR g) none none,M4.set g (.lst ((Z++[Gn.same x.1 x.2]).map Gn.toD)),rfl,?_,.inl rfl,Z++[Gn.same x.1 x.2],_,rfl,o6 g4,by rw[jc (jh qk)];exact p4,λy hy=>?_,by simp;lia,(h5.trans s4).set qv tl⟩
   .show Az.den (PW m) (EY t b1 (sI i) b3 b4 (sR p) (sR g) none none) R=_
    simp only[Az];simp[Ep h1,ll,e4,ix,Yr,Bl g4 (d:=Gn.toD (.same x.1 x.2)) (by simp;lia)]
   .rcases cg.mp hy with q|q
    .exact h3 y q
    .simp at q;subst q;exact hb x (bf hx))
 exact⟨Z,G,M',e,h1,h2,h3,by lia,h5⟩
def Uv(Z:List D)(n:Nat):Gq Z (some (n:Int)) none=Z.drop n:=by
 simp only[Gq,clip];rw[bh (by lia),m5,wj (by simp)];rcases Nat.le_total n Z.length with h|h
 .rw[Nat.min_eq_left h]
 .rw[Nat.min_eq_right h,List.drop_length,List.drop_of_length_le h]
def ac6(Z:List D)(n:Nat):Gq Z none (some (n:Int))=Z.take n:=by
 simp only[Gq,clip,List.drop_zero,Nat.sub_zero];rw[bh (by lia),m5];rcases Nat.le_total n Z.length with h|h
 .rw[Nat.min_eq_left h]
 .rw[Nat.min_eq_right h,jr,wj h]
def amq(h:M[g]?=some (.lst ds))(Z G:Option Int):Iw (.ref g) Z G M=some (.vl (Gq ds Z G)):=by simp[Iw,d8,h]
def aa2(Z:List D):v9 .tuple [.vl Z] M=.ok (.tup Z) M:=rfl
def tlS:m7:=.c (.a 5 (.call 27 (.o (.v 1)))) (.c (.a 6 Bb) (.c Ba (.c (.a 7 (.call 2 (.p (.v 0) (.bin .add (.i 1) (.l (.v 6)))))) (.q (.a 8 zr) (.f (.or (.cmp .eq (.v 8) (.Ir .z)) (.cmp .eq (.call 2 (.p (.v 0) (.i 8))) (.i 0))) (.o (.a 8 (.v 5)))) (.ret (.tup (.q (.blt .tuple (.o (.v 1))) (.blt .tuple (.o (.bin .add (.cut (.v 6) (.some (.v 7)) .none) (.cut (.v 6) .none (.some (.v 7)))))) (.ix (.v 8) (.call 2 (.p (.v 0) (.l (.v 8))))))))))))
def amr(hm:2<=m)(hs:Has t f M)(E:Ends es V)(hd:∀M5,St t f M M5->j8 M5 d=some (es.map aD)) :
 ∃s q1 M',tlS.den (PW m) (EY t (some d) b2 b3 b4 none none none none) M=.ok (.ret s.toD,q1) M'/\Al s V/\s.gs.length<=6/\St t f M M':=by
 have tl:=hs.lt;obtain⟨p,L,M1,e1,p1,P,hL⟩:=ah9 (m:=m) hm E (hd M (.refl hs));have S1:St t f M M1:=.of hs P.k;obtain⟨gs,Z,e2,g2,n2,S2,l2,k2⟩:=sy2 (m:=m) (b2:=b2) (b3:=b3) (b4:=b4) (b5:=sR p) (by lia) S1 tl hd E;have pl:=rn P.g;have qv:St t f M (Z++[.lst (gs.map Gn.toD)]):=S2.keep' (mz.app _ _);have lp:0<L.length:=j0.mpr hL
 have Ll:=P.l;obtain⟨U,c2,M3,e3,g3,p3,d3,n3,S3⟩:=sy0 (m:=m) (b1:=some d) (b2:=b2) (b3:=b3) (b4:=b4) (g:=Z.length) (p:=p) (gs:=gs) (L:=L) (by lia) qv tl yw (by lia) (by have:=S2.len;lia) p1 (yu (k2 _ _ (by lia) P.g)) P.b P.l hL g2 n2;have l3:=len_list (iu g3);rw[dg] at l3;obtain⟨u,M4,e4,hu,S4,_⟩:=Aa (m:=m) (many:=1+U.length) (by lia) S3.has (by lia) (by lia);have p4:=S4.keep _ _ (show p≠t by lia) p3;have g4:=S4.keep _ _ (show Z.length≠t by have:=S2.len;lia) g3;have c1:zr.den (PW m) (EY t (some d) c2 b3 b4 (sR p) (sR Z.length) (sI u) none) M4=.ok (.vl ((L.filter λx=>decide (x.1≠x.2)).map pD)) M4:=by unfold zr;rw[Fv (d:=.ref p) (M1:=M4) (xs:=L) (f:=pD) (q:=λx=>decide (x.1≠x.2)) (g:=pD) rfl (Dp (iu p4)) (by lia) (λx hx=>⟨_,rfl,by simp[pD,Oi],λ_=>by simp⟩)];rfl
 have fin:∃v8 X M5,((Af.f (.or (.cmp .eq (.v 8) (.Ir .z)) (.cmp .eq (.call 2 (.p (.v 0) (.i 8))) (.i 0))) (.o (.a 8 (.v 5)))).den (PW m) (EY t (some d) c2 b3 b4 (sR p) (sR Z.length) (sI u) (some (.vl ((L.filter λx=>decide (x.1≠x.2)).map pD)))) M4=.ok (.next,EY t (some d) c2 b3 b4 (sR p) (sR Z.length) (sI u) (some v8)) M5)/\d8 M5 v8=some (X.map pD)/\(∀G,St t f M5 G->d8 G v8=some (X.map pD))/\X≠[]/\X.length<=3600/\(∀x∈X,Kh es x.1 x.2)/\St t f M4 M5:=by
  by_cases h:L.filter (λx=>decide (x.1≠x.2))=[]
  .refine⟨.ref p,L,M4,?_,iu p4,λG s=>iu (s.keep _ _ (by lia) p4),hL,Ll,P.b,.refl S4.has⟩
   rw[h];simp[eq_nil]
  .obtain⟨q,M5,e5,hq,R,_⟩:=Aa (m:=m) (many:=8) (by lia) S4.has (by decide) (by decide)
   have he:((L.filter λx=>decide (x.1≠x.2)).map pD).isEmpty=false:=by rw[List.isEmpty_map];simpa using h
   by_cases q0:q=0
   .have p5:=R.keep _ _ (show p≠t by lia) p4
    refine⟨.ref p,L,M5,?_,iu p5,λG s=>iu (s.keep _ _ (by lia) p5),hL,Ll,P.b,R⟩;subst q0;rw[ahm,aqg,Kc];simp only[Jb,Bk,ahf,Res.vo,V2,eq_nil,he,m8,Res.uw,aqh];simp[e5]
   .refine⟨.vl ((L.filter λx=>decide (x.1≠x.2)).map pD),L.filter (λx=>decide (x.1≠x.2)),M5,?_,rfl,λ_ _=>rfl,h,bw (List.length_filter_le _ _) Ll,λx hx=>P.b x (tu.mp hx).1,R⟩
    rw[ahm,aqg,Kc];have:¬(q:Int)=0:=by lia
    simp only[Jb,Bk,ahf,Res.vo,V2,eq_nil,he,m8,Res.uw,aqh];simp[e5,this,q0]
 obtain⟨v8,X,M5,e5,a5,k5,nX,lX,bX,R⟩:=fin;have l5:=len_list a5;rw[dg] at l5;have xp:0<X.length:=j0.mpr nX
 obtain⟨v,G,e6,hv,S6,_⟩:=Aa (m:=m) (many:=X.length) (by lia) R.has (by lia) (by lia);obtain⟨x,hx⟩:∃x,X[v]?=some x:=⟨_,dm (by lia)⟩;have i6:w5 v8 (.int v) G=some (pD x):=Ah (k5 G S6) (qy _) (by simp[hx]);have qq:St t f M M5:=(S3.trans S4).trans R;have d5:=hd M5 qq;have t5:v9 .tuple [d] M5=.ok (.tup (es.map aD)) M5:=by simp[v9,d5]
 have g5:=R.keep _ _ (show Z.length≠t by have:=S2.len;lia) g4;refine⟨⟨es,U.drop u++U.take u,x.1,x.2⟩,EY t (some d) c2 b3 b4 (sR p) (sR Z.length) (sI u) (some v8),G,?_,⟨E,λg hg=>?_,?_,bX x (bf hx)⟩,?_,qq.trans S6⟩
 .have qk:zr.den (PW m) [sR t,some d,c2,b3,b4,sR p,sR Z.length,sI u,none] M4=_:=c1
  simp only[tlS];simp[e1,e2,e3,l3,e4];rw[qk];simp only[Res.vo,Res.uw,aax,aaw,List.set_cons_succ,List.set_cons_zero,Yd];simp only[aco,e5,Yd];simp[t5,amq g5,Uv,ac6,l5];rw[Up _ _ (by simp;lia)];simp[aa2,l5,e6,i6,Pk.toD,pD]
 .rcases cg.mp hg with q|q
  .exact d3 g (List.mem_of_mem_drop q)
  .exact d3 g (w6 q)
 .simp;lia
 .simp;lia
def knD:List D:=kn.map λZ=>.tup (Z.map aD)
noncomputable def kX1:Ex:=(.Ir (.q (.tup (.q (.tup (.p (.i 0) (.i 1))) (.tup (.p (.i 0) (.i 1))) (.tup (.p (.i 1) (.i 2))))) (.tup (.c (.tup (.p (.i 0) (.i 1))) (.q (.tup (.p (.i 1) (.i 2))) (.tup (.p (.i 0) (.i 2))) (.tup (.p (.i 2) (.i 3)))))) (.tup (.c (.tup (.p (.i 0) (.i 1))) (.c (.tup (.p (.i 0) (.i 2))) (.q (.tup (.p (.i 1) (.i 3))) (.tup (.p (.i 2) (.i 3))) (.tup (.p (.i 3) (.i 4)))))))))
noncomputable def kX2:Ex:=(.Ir (.p (.tup (.c (.tup (.p (.i 0) (.i 1))) (.c (.tup (.p (.i 1) (.i 2))) (.c (.tup (.p (.i 0) (.i 3))) (.c (.tup (.p (.i 3) (.i 4))) (.q (.tup (.p (.i 1) (.i 4))) (.tup (.p (.i 2) (.i 5))) (.tup (.p (.i 4) (.i 5))))))))) (.tup (.c (.tup (.p (.i 3) (.i 1))) (.c (.tup (.p (.i 3) (.i 1))) (.q (.tup (.p (.i 1) (.i 0))) (.tup (.p (.i 1) (.i 0))) (.tup (.p (.i 0) (.i 2)))))))))
def fS:Af:=.f (.cmp .gt (.call 2 (.p (.v 0) (.i 3))) (.i 0)) (.o (.a 1 (.ix (.v 4) (.call 2 (.p (.v 0) (.i 5))))))
def afl(hm:3<=m)(hs:Has t f M):∃s V M',prog.call m 28 [.ref t] M=.ok s.toD M'/\Al s V/\s.gs.length<=6/\St t f M M':=by
 rw[call_of (bw (by decide) hm) rfl];have tl:=hs.lt;have S0:St t f M (M++[.lst []]):=.of hs (mz.app _ _);obtain⟨es,G,Z,M1,e1,g1,R,n1,n2,S1⟩:=sy1 (m:=m-1) (by lia) hs yw S0 (az _);obtain⟨v,M2,e2,hv,S2,_⟩:=Aa (m:=m-1) (many:=3) (by lia) S1.has (by decide) (by decide);have g2:=S2.keep _ _ (show M.length≠t by lia) g1;have qq:∃d es V M3,ifK ((m7.o (.a 1 (.ix (.v 4) (.call 2 (.p (.v 0) (.i 5)))))).den (PW (m-1)) (EY t (sR M.length) G Z (some (.vl knD)) none none none none)) (m7.nil.den (PW (m-1)) (EY t (sR M.length) G Z (some (.vl knD)) none none none none)) (.ok (.bl (decide (0<(v:Int)))) M2)=.ok (.next,EY t (some d) G Z (some (.vl knD)) none none none none) M3/\Ends es V/\(∀M5,St t f M3 M5->j8 M5 d=some (es.map aD))/\St t f M2 M3:=by
  by_cases h:v=0
  .subst h
   exact⟨.ref M.length,es,_,M2,rfl,aid R n1 n2,λM5 s=>Dp (iu (s.keep _ _ (by lia) g2)),.refl S2.has⟩
  .obtain⟨k,M3,e3,hk,S3,_⟩:=Aa (m:=m-1) (many:=5) (by lia) S2.has (by decide) (by decide)
   obtain⟨x,hx⟩:∃x,kn[k]?=some x:=⟨_,dm (by show k<5;lia)⟩;obtain⟨V,E⟩:=amn (bf hx);refine⟨.tup (x.map aD),x,V,M3,?_,E,λ_ _=>rfl,S3⟩;have h':(0:Int)<(v:Int):=by lia
   have i3:w5 (.vl knD) (.int k) M3=some (.tup (x.map aD)):=Ah rfl (qy _) (by simp[knD,hx]);rw[decide_eq_true h',axm];simp[e3,i3]
 obtain⟨d,q0,V,M3,e3,E,hd,S3⟩:=qq;obtain⟨s,q1,M4,e4,h4,x4,S4⟩:=amr (m:=m-1) (b2:=G) (b3:=Z) (b4:=some (.vl knD)) (by lia) S3.has E hd;refine⟨s,V,M4,?_,h4,x4,((S1.trans S2).trans S3).trans S4⟩;have qk:∀U M,kX1.den (PW (m-1)) U M=.ok (.vl (knD.take 3)) M:=λU M=>rfl
 have qv:∀U M,kX2.den (PW (m-1)) U M=.ok (.vl (knD.drop 3)) M:=λU M=>rfl
 have ka:∀M,zq .add (.vl (knD.take 3)) (.vl (knD.drop 3)) M=.ok (.vl knD) M:=λM=>by rw[Up _ _ (by rw[<- jb,u0];show 5<=100000;decide),u0]
 have b0:K1=.c (.a 1 (.lst .z)) (.c Be (.c (.a 4 kX1) (.c (.a 4 (.bin .add (.v 4) kX2)) (.c fS tlS)))):=rfl;have e0:fS.den (PW (m-1)) (EY t (sR M.length) G Z (some (.vl knD)) none none none none) M1=.ok (.next,EY t (some d) G Z (some (.vl knD)) none none none none) M3:=by rw[fS,ahm,Kc,X7];simp only[Ag,Bk,art,Eg,Res.vo,e2,cmp_gt,m8,Res.uw];exact e3
 simp only[Fn.run,K5,b0];simp[MW.new,e1,qk,qv,ka,e0,e4]
def ac7(E:Ends es V):Dm es<=7:=by
 have U:es≠[]:=List.ne_nil_of_length_pos E.pos;unfold Dm;cases q:es.map mx with
 |nil=>exact ie _
 |cons a l =>
  have all:∀x∈a::l,x<8:=λx Z=>by rw[<- q] at Z;obtain⟨e,G,rfl⟩:=dq.mp Z;have:=E.sm e G;unfold mx;split<;>lia
  have:=ac3 (n:=8) l a (all a bz) λx Z=>all x (bu _ Z)
  exact t6 this
def ac8(h:M[p]?=some (.lst ds)):v9 .tuple [.ref p] M=.ok (.tup ds) M:=by simp[v9,j8,d8,h]
noncomputable abbrev Mk:=List (List Nat×List Nat)
noncomputable def mkOf(Z:Mk)(w:Y3):List Nat:=((Z.find? λp=>decide (p.1=w)).map (·.2)).getD w
noncomputable def kx(w:Y3):List Kx:=w.map λ(x:Nat)=>Sum.inl (x:Int)
def G3(Z:Mk):List (List Kx×D):=Z.map λp=>(kx p.1,cj p.2)
theorem Rz:∀{a b:Y3},kx a=kx b->a=b
 |[],[],_=>rfl|[],_::_,h=>by simp[kx] at h|_::_,[],h=>by simp[kx] at h
 |x::a,y::b,h=>by
  have Z:(Sum.inl (x:Int):Kx)=.inl (y:Int):=(yh h).1;have G:(x:Int)=(y:Int):=Sum.inl.inj Z;rw[Rz (yh h).2,show x=y by lia]
def Ae(w:Y3):Ha (cj w)=some (kx w):=by
 show aas (w.map nD)=some (kx w)
 induction w with
 |nil=>rfl|cons x w Z=>simp only[cz,aas,Z];rfl
def Wi(a b:Y3):decide (kx a=kx b)=decide (a=b):=by
 by_cases h:a=b
 .simp[h]
 .have:¬kx a=kx b:=λe=>h (Rz e)
  simp[h,this]
def lk_row(Z:Mk)(w:Y3):Ac (G3 Z) (kx w)=(Z.find? λp=>decide (p.1=w)).map λp=>cj p.2:=by
 unfold Ac G3
 induction Z with
 |nil=>rfl
 |cons p Z G =>
  simp only[cz,jw,Wi]
  by_cases h:p.1=w
  .simp[h]
  .simp only[h,decide_false];exact G
def asm(Z:Mk)(w:Y3):(Ac (G3 Z) (kx w)).getD (cj w)=cj (mkOf Z w):=by rw[lk_row,mkOf];cases Z.find? λp=>decide (p.1=w)<;>rfl
noncomputable def Bh(Z:Mk)(w v:Y3):Mk:=if w∈Z.map (·.1) then Z.map (λp=>if p.1=w then(p.1,v) else p) else Z++[(w,v)]
def aa3(mk:Mk)(w v:Y3):Mf (G3 mk) (kx w) (cj v)=G3 (Bh mk w v):=by
 have e:((G3 mk).any λkv=>decide (kv.1=kx w))=decide (w∈mk.map (·.1)):=by
  induction mk with
  |nil=>simp[G3]
  |cons p mk Z =>
   have:G3 (p::mk)=(kx p.1,cj p.2)::G3 mk:=rfl;rw[this,yg,Z,Wi,cz]
   by_cases h:p.1=w
   .simp[h]
   .simp[h,jh h]
 unfold Mf Bh;rw[e]
 by_cases h:w∈mk.map (·.1)
 .rw[bh (by simpa using h),bh h,G3,G3,gh,gh]
  refine j5 λp _=>?_
  show(if kx p.1=kx w then(kx p.1,cj v) else(kx p.1,cj p.2))=_
  by_cases q:p.1=w
  .simp[q]
  .have:¬kx p.1=kx w:=λe=>q (Rz e)
   simp[q,this]
 .rw[bj (by simpa using h),bj h];simp[G3]
def find_some{mk:Mk}(h:w∈mk.map (·.1)):∃v,mk.find? (λp=>decide (p.1=w))=some (w,v)/\(w,v)∈mk:=by
 induction mk with
 |nil=>cases h
 |cons p mk G =>
  by_cases e:p.1=w
  .exact⟨p.2,by simp[<- e],by rw[<- e];exact bz⟩
  .rw[cz] at h
   rcases dh.mp h with q|q
   .exact absurd q.symm e
   .obtain⟨v,U,Z⟩:=G q
    exact⟨v,by simp[e,U],bu _ Z⟩
def find_none{Z:Mk}(h:w∉Z.map (·.1)):Z.find? (λp=>decide (p.1=w))=none:=by rw[List.find?_eq_none];intro p G e;exact h (dq.mpr ⟨p,G,by simpa using e⟩)
def R8{Z:Mk}(h:w∉Z.map (·.1)):mkOf Z w=w:=by rw[mkOf,find_none h];rfl
def ac9{mk:Mk}(h:w∈mk.map (·.1)):(w,mkOf mk w)∈mk:=by obtain⟨v,G,Z⟩:=find_some h;rw[mkOf,G];exact Z
def Nj(Z:Mk)(w v:Y3):∀x,x∈(Bh Z w v).map (·.1)↔x∈Z.map (·.1)\/x=w:=λx=>by
 unfold Bh
 by_cases h:w∈Z.map (·.1)
 .rw[bh h,gh]
  have:(((λ(p:List Nat×List Nat)=>p.1) ∘ λp=>if p.1=w then(p.1,v) else p):List Nat×List Nat->List Nat)=λp=>p.1:=by funext p;by_cases q:p.1=w<;>simp[q]
  rw[this];exact⟨.inl,λq=>q.elim id λe=>e▸h⟩
 .rw[bj h];simp
def aie(Z:Mk)(w v x:Y3):mkOf (Bh Z w v) x=if x=w then v else mkOf Z x:=by
 unfold Bh
 by_cases h:w∈Z.map (·.1)
 .rw[bh h]
  unfold mkOf;have e:∀l:Mk,((l.map λp=>if p.1=w then(p.1,v) else p).find? λp=>decide (p.1=x))=(l.find? λp=>decide (p.1=x)).map λp=>if p.1=w then(p.1,v) else p:=λl=>by
   induction l with
   |nil=>rfl
   |cons p l R =>
    have U:(if p.1=w then(p.1,v) else p).1=p.1:=by by_cases q:p.1=w<;>simp[q]
    simp only[cz,jw,U,R]
    by_cases q:p.1=x<;>simp[q]
  rw[e]
  by_cases q:x=w
  .subst q
   obtain⟨u,G,_⟩:=find_some h;rw[G];simp
  .rw[bj q]
   cases hf:Z.find? λp=>decide (p.1=x) with
   |none=>rfl
   |some p =>
    have:p.1=x:=by have:=List.find?_some hf;simpa using this
    have:¬p.1=w:=by rw[this];exact q
    simp[this]
 .rw[bj h]
  unfold mkOf;rw[List.find?_append]
  by_cases q:x=w
  .subst q
   rw[find_none h];simp
  .rw[bj q]
   cases Z.find? λp=>decide (p.1=x) with
   |some p=>rfl|none=>simp[jh q]
def Om{Z:Mk}(h:(Z.map (·.1)).Nodup)(w v:Y3):((Bh Z w v).map (·.1)).Nodup:=by
 unfold Bh
 by_cases q:w∈Z.map (·.1)
 .rw[bh q,gh]
  have:(((λ(p:List Nat×List Nat)=>p.1) ∘ λp=>if p.1=w then(p.1,v) else p):List Nat×List Nat->List Nat)=λp=>p.1:=by funext p;by_cases q:p.1=w<;>simp[q]
  rw[this];exact h
 .rw[bj q,gr]
  exact n6.mpr ⟨h,by simp,λa U b G e=>by simp at G;subst G;subst e;exact q U⟩
def Qs(Z:Mk)(w v:Y3):(Bh Z w v).length<=Z.length+1:=by unfold Bh;split<;>simp
noncomputable def Uw(kept Z:Y3)(p:List Nat×List Nat):List Nat×List Nat:=if p.2=Z then(p.1,kept) else p
def tkM(Z:Mk)(a b:Y3):Mk:=(Bh (Bh Z a (mkOf Z a)) b (mkOf Z b)).map (Uw (mkOf Z a) (mkOf Z b))
def ada(Z:Mk)(a b x:Y3):mkOf (Bh (Bh Z a (mkOf Z a)) b (mkOf Z b)) x=mkOf Z x:=by
 rw[aie,aie]
 by_cases h:x=b
 .rw[bh h,h]
 .rw[bj h]
  by_cases q:x=a
  .rw[bh q,q]
  .rw[bj q]
structure TI(ss:List Sp)(mk:Mk):Prop where
 nd:(mk.map (·.1)).Nodup
 vk:∀p∈mk,p.2∈mk.map (·.1)
 id:∀w,mkOf mk (mkOf mk w)=mkOf mk w
 Ys:∀w u,mkOf mk w=mkOf mk u↔Fz ss w u
 l:mk.length<=2*ss.length
def Wj(k g:Y3)(p:List Nat×List Nat):(Uw k g p).1=p.1:=by unfold Uw;split<;>rfl
def Qt(k g:Y3)(Z:Mk):(Z.map (Uw k g)).map (·.1)=Z.map (·.1):=by rw[gh];exact j5 λp _=>Wj k g p
def aih(T:TI ss mk)(a b w:Y3):mkOf mk w∈mk.map (·.1)\/mkOf mk w=w:=by
 by_cases h:w∈mk.map (·.1)
 .exact .inl (T.vk _ (ac9 h))
 .exact .inr (R8 h)
def axy(T:TI ss mk)(a b w:Y3):mkOf (tkM mk a b) w=if mkOf mk w=mkOf mk b then mkOf mk a else mkOf mk w:=by
 have G:∀x,x=a\/x=b->mkOf mk x∈(Bh (Bh mk a (mkOf mk a)) b (mkOf mk b)).map (·.1):=λx hx=>by
  rw[Nj,Nj];rcases aih T a b x with q|q
  .exact .inl (.inl q)
  .rw[q];rcases hx with rfl|rfl
   .exact .inl (.inr rfl)
   .exact .inr rfl
 have Z:=ada mk a b w;unfold tkM
 by_cases h:w∈(Bh (Bh mk a (mkOf mk a)) b (mkOf mk b)).map (·.1)
 .obtain⟨v,U,_⟩:=find_some h
  have e:v=mkOf mk w:=by rw[<- Z,mkOf,U];rfl
  have f:∀l:Mk,l.find? (λp=>decide (p.1=w))=some (w,v)->(l.map (Uw (mkOf mk a) (mkOf mk b))).find? (λp=>decide (p.1=w))=some (Uw (mkOf mk a) (mkOf mk b) (w,v)):=λl=>by
   induction l with
   |nil=>intro h;cases h
   |cons p l R =>
    intro h;simp only[cz,jw,Wj] at h ⊢
    by_cases q:p.1=w
    .simp only[q,decide_true] at h ⊢;cases h;rfl
    .simp only[q,decide_false] at h ⊢;exact R h
  rw[mkOf,f _ U,e];unfold Uw
  by_cases q:mkOf mk w=mkOf mk b<;>simp[q]
 .rw[R8 (by rw[Qt];exact h)]
  have e:mkOf mk w=w:=by rw[<- Z];exact R8 h
  rw[e,bj];intro q;exact h (q▸G b (.inr rfl))
def ams(T:TI ss mk)(x:Sp):TI (ss++[x]) (tkM mk x.a x.b):=by
 have tf:=axy T x.a x.b;have qk:=T.id x.a;refine⟨?_,λp hp=>?_,λw=>?_,λw u=>?_,?_⟩
 .unfold tkM;rw[Qt];exact Om (Om T.nd _ _) _ _
 .have keys:∀y,y∈(tkM mk x.a x.b).map (·.1)↔(y∈mk.map (·.1)\/y=x.a)\/y=x.b:=λy=>by unfold tkM;rw[Qt,Nj,Nj]
  have Z:∀y,y∈(tkM mk x.a x.b).map (·.1)->mkOf mk y∈(tkM mk x.a x.b).map (·.1):=λy hy=>by
   rcases aih T x.a x.b y with q|q
   .exact(keys _).mpr (.inl (.inl q))
   .rw[q];exact hy
  have hk:p.1∈(tkM mk x.a x.b).map (·.1):=dq.mpr ⟨p,hp,rfl⟩;obtain⟨r,hr,rfl⟩:=dq.mp hp;have qv:=Om (Om T.nd x.a (mkOf mk x.a)) x.b (mkOf mk x.b);have qq:r.1∈(Bh (Bh mk x.a (mkOf mk x.a)) x.b (mkOf mk x.b)).map (·.1):=dq.mpr ⟨r,hr,rfl⟩;have e:r.2=mkOf mk r.1:=by
   obtain⟨v,G,R⟩:=find_some qq;have:v=mkOf mk r.1:=by rw[<- ada mk x.a x.b r.1,mkOf,G];rfl
   obtain⟨i,hi⟩:=iy.mp hr;obtain⟨j,U⟩:=iy.mp R;have:i=j:=Ft qv (x:=r.1) (by rw[ig,hi];rfl) (by rw[ig,U];rfl);subst this;rw[hi] at U;have U:=gj U;rw[U];assumption
  rw[Wj] at hk;unfold Uw;split
  .exact Z x.a ((keys _).mpr (.inl (.inr rfl)))
  .rw[e];exact Z _ hk
 .rw[tf,tf w]
  by_cases q:mkOf mk w=mkOf mk x.b
  .rw[bh q]
   split
   .rfl
   .exact qk
  .rw[bj q,T.id,bj q]
 .rw[tf,tf]
  constructor
  .intro h
   have sw:Fz (ss++[x]) x.a x.b:=.step .refl (fj _ bz) (.inl ⟨rfl,rfl⟩)
   by_cases q:mkOf mk w=mkOf mk x.b
   .rw[bh q] at h
    have G:=((T.Ys _ _).mp q).more (X:=[x])
    by_cases r:mkOf mk u=mkOf mk x.b
    .exact G.trans ((T.Ys _ _).mp r).more.symm
    .rw[bj r] at h
     exact(G.trans sw.symm).trans ((T.Ys _ _).mp h).more
   .rw[bj q] at h
    by_cases r:mkOf mk u=mkOf mk x.b
    .rw[bh r] at h
     exact(((T.Ys _ _).mp h).more.trans sw).trans ((T.Ys _ _).mp r).more.symm
    .rw[bj r] at h
     exact((T.Ys _ _).mp h).more
  .intro h
   induction h with
   |refl=>rfl
   |step _ G R ih =>
    refine ih.trans ?_;have fin:∀{y z:Y3},mkOf mk y=mkOf mk z->(if mkOf mk y=mkOf mk x.b then mkOf mk x.a else mkOf mk y)=if mkOf mk z=mkOf mk x.b then mkOf mk x.a else mkOf mk z:=λe=>by rw[e]
    have Z:(if mkOf mk x.a=mkOf mk x.b then mkOf mk x.a else mkOf mk x.a)=if mkOf mk x.b=mkOf mk x.b then mkOf mk x.a else mkOf mk x.b:=by simp
    rcases cg.mp G with q|q
    .rcases R with⟨rfl,rfl⟩|⟨rfl,rfl⟩
     .exact fin ((T.Ys _ _).mpr (.step .refl q (.inl ⟨rfl,rfl⟩)))
     .exact fin ((T.Ys _ _).mpr (.step .refl q (.inr ⟨rfl,rfl⟩)))
    .simp at q;subst q
     rcases R with⟨rfl,rfl⟩|⟨rfl,rfl⟩
     .exact Z
     .exact Z.symm
 .unfold tkM
  have:=Qs (Bh mk x.a (mkOf mk x.a)) x.b (mkOf mk x.b);have:=Qs mk x.a (mkOf mk x.a);have:=T.l
  simp;lia
def asn:TI [] []:=⟨by simp,by simp,λ_=>rfl,λw u=>⟨λh=>by have h:w=u:=h;rw[h];exact .refl,λh=>by
 induction h with
 | refl=>rfl|step _ Z _ _=>cases Z⟩,az _⟩
structure Tie(t p q:Nat)(M:dj)(ss:List Sp)(mk:Mk):Prop where
 i:M[t]?=some (.ins 3 [(1,.ref p),(0,.ref q)])
 s:M[p]?=some (.lst (ss.map Sp.toD))
 k:M[q]?=some (.dT (G3 mk))
def adb{Z:Mk}(T:Tie t p q M ss Z):Gw (.ref t) 1 M=some (.ref p):=by simp[Gw,T.i,List.lookup]
def aqn{Z:Mk}(T:Tie t p q M ss Z):Gw (.ref t) 0 M=some (.ref q):=by simp[Gw,T.i,List.lookup]
def aso{Z:Mk}(T:Tie t p q M ss Z):t≠p:=by rintro rfl;have:=T.i;rw[T.s] at this;cases this
def asp{Z:Mk}(T:Tie t p q M ss Z):t≠q:=by rintro rfl;have:=T.i;rw[T.k] at this;cases this
def asq{Z:Mk}(T:Tie t p q M ss Z):p≠q:=by rintro rfl;have:=T.s;rw[T.k] at this;cases this
def aii{mk:Mk}(T:Tie t p q M ss mk)(k:mz M Z):Tie t p q Z ss mk:=⟨k _ _ T.i,k _ _ T.s,k _ _ T.k⟩
def Js(p q:Nat)(M Z:dj):Prop:=∀(a:Nat)(o:MO),a≠p->a≠q->M[a]?=some o->Z[a]?=some o
def Js.refl(p q:Nat)(M:dj):Js p q M M:=λ_ _ _ _ h=>h
def Js.trans(a:Js p q M Z)(b:Js p q Z M2):Js p q M M2:=λx o n k h=>b x o n k (a x o n k h)
def Js.of(k:mz M M'):Js p q M M':=λa o _ _ h=>k a o h
def Kr:prog.cls[3]?=some ⟨15,[(0,16),(1,17),(2,18),(3,19)]⟩:=rfl
def asr(h:M[n]?=some (.dT Z)):Iz .get (.ref n) M=true:=by simp[Iz,h]
def Nk{Z:Mk}(G:1<=m)(T:Tie t p q M ss Z):prog.call m 16 [.ref t,cj w] M=.ok (cj (mkOf Z w)) M:=by
 rw[call_of G rfl];have g:Bj .get (.ref q) [cj w,cj w] M=.ok (cj (mkOf Z w)) M:=by simp[Bj,onT,T.k,Ae,asm]
 simp[Fn.run,O8,O7,aqn T,asr T.k,g]
def ade{Z:Mk}(G:2<=m)(T:Tie t p q M ss Z):prog.call m 17 [.ref t,cj a,cj b] M=.ok (.bl (decide (mkOf Z a=mkOf Z b))) M:=by
 rw[call_of (bw (by decide) G) rfl];have e:∀w,prog.call (m-1) 16 [.ref t,cj w] M=.ok (cj (mkOf Z w)) M:=λw=>Nk (by lia) T
 simp[Fn.run,Ia,Hz,T.i,Kr,List.lookup,e,Oi]
def amt{A B:Mk}{pr:List Nat×List Nat}(h:((A++pr::B).map (·.1)).Nodup):Ac (G3 (A++pr::B)) (kx pr.1)=some (cj pr.2)/\∀v,Bh (A++pr::B) pr.1 v=A++(pr.1,v)::B:=by
 have G:pr.1∉A.map (·.1):=by rw[gr,n6] at h;intro q;exact h.2.2 _ q pr.1 (by simp) rfl
 have R:pr.1∉B.map (·.1):=by rw[gr,n6] at h;exact(o8.mp h.2.1).1
 have Z:∀(l:Mk)(v:Y3),pr.1∉l.map (·.1)->(l.map λp=>if p.1=pr.1 then(p.1,v) else p)=l:=λl v U=>by
  conv=>rhs;rw[<- List.map_id l]
  refine j5 λp hp=>?_
  have:¬p.1=pr.1:=λe=>U (e▸dq.mpr ⟨p,hp,rfl⟩)
  simp[this]
 constructor
 .rw[lk_row,List.find?_append,find_none G];simp
 .intro v
  unfold Bh;rw[bh (by simp),gr,cz,Z A v G,Z B v R];simp
def amu(w:Y3):afh (kx w)=cj w:=by unfold afh kx cj;rw[gh];rfl
def aij(Z:Mk):((G3 Z).map λp=>afh p.1)=(Z.map (·.1)).map cj:=by rw[G3,gh,gh];exact j5 λp _=>amu _
def amv{Z:Mk}{M:dj}(hi:M[t]?=some (.ins 3 [(1,.ref p),(0,.ref q)]))(hk:M[q]?=some (.dT (G3 Z)))(nd:(Z.map (·.1)).Nodup)(hl:Z.length<=1000)(qk:t≠q) :
 ∃U R,Gs.den (PW m) [sR t,b1,some (cj kept),some (cj gn),none] M=.ok (.next,[sR t,b1,some (cj kept),some (cj gn),U]) R/\R[q]?=some (.dT (G3 (Z.map (Uw kept gn))))/\Ii q M R/\R.length=M.length:=by
 unfold Gs;have li:v9 .list [.ref q] M=.ok (.vl ((Z.map (·.1)).map cj)) M:=by
  have a:j8 M (.ref q)=none:=by simp[j8,d8,hk]
  have l:(G3 Z).length<=1000:=by simpa[G3] using hl
  simp only[v9,Ga,a,hk,bh l,aij]
 have fl:Gw (.ref t) 0 M=some (.ref q):=by simp[Gw,hi,List.lookup]
 obtain⟨q1,R,e,U,rfl,h1,h2,h3⟩:=vf (W:=PW m) (it:=.blt .list (.o (.fld (.v 0) 0))) (t:=.name 4) (b:=Dk) (ρ:=[sR t,b1,cj kept,cj gn,none]) (M:=M) (M1:=M) (d:=.vl ((Z.map (·.1)).map cj)) (by simp[fl,li]) rfl
  (λi ρ G=>∃U,ρ=[sR t,b1,some (cj kept),some (cj gn),U]/\G[q]?=some (.dT (G3 ((Z.take i).map (Uw kept gn)++Z.drop i)))/\Ii q M G/\G.length=M.length)
  ⟨none,rfl,by simpa using hk,Ii.refl _ _,rfl⟩ (λ_ _ _ _=>rfl) (λi x ρ G hx hI=>by
   obtain⟨U,rfl,g1,g2,g3⟩:=hI;obtain⟨pr,hp,rfl⟩:∃pr,Z[i]?=some pr/\cj pr.1=x:=by simpa using hx
   have qv:=(ak.mp hp).1;have dr:Z.drop i=pr::Z.drop (i+1):=by rw[u6 qv,(ak.mp hp).2]
   have q0:(((Z.take i).map (Uw kept gn)++pr::Z.drop (i+1)).map (·.1)).Nodup:=by
    have:((Z.take i).map (Uw kept gn)++pr::Z.drop (i+1)).map (·.1)=Z.map (·.1):=by rw[gr,Qt,<- dr,<- gr,u0]
    rw[this];exact nd
   rw[dr] at g1;obtain⟨f1,f2⟩:=amt q0;have qq:Gw (.ref t) 0 G=some (.ref q):=by simp[Gw,g2 t _ qk hi,List.lookup]
   have x1:w5 (.ref q) (cj pr.1) G=some (cj pr.2):=by rw[aqk g1 (Ae _),f1]
   have tk:(Z.take (i+1)).map (Uw kept gn)++Z.drop (i+1)=(Z.take i).map (Uw kept gn)++Uw kept gn pr::Z.drop (i+1):=by rw[jd,hp];simp
   by_cases e:pr.2=gn
   .refine⟨_,.next,[sR t,b1,some (cj kept),some (cj gn),some (cj pr.1)],G.set q (.dT (G3 ((Z.take (i+1)).map (Uw kept gn)++Z.drop (i+1)))),rfl,?_,.inl rfl,_,rfl,o6 g1,g2.trans (Ii.set _ _ _),by simpa using g3⟩
    have st:=V4 (d:=cj kept) g1 (Ae pr.1) (by simp[G3];lia);rw[aa3,f2] at st;rw[tk];have sw:Uw kept gn pr=(pr.1,kept):=by simp[Uw,e]
    simp[Dk,qq,x1,Oi,e,st,sw]
   .refine⟨_,.next,[sR t,b1,some (cj kept),some (cj gn),some (cj pr.1)],G,rfl,?_,.inl rfl,_,rfl,?_,g2,g3⟩
    .simp[Dk,qq,x1,Oi,e]
    .rw[tk,show Uw kept gn pr=pr by simp[Uw,e]];exact g1)
 refine⟨U,R,e,?_,h2,h3⟩;simpa using h1
def amw{mk:Mk}(hm:2<=m)(T:Tie t p q M ss mk)(I:TI ss mk)(x:Sp)(hl:ss.length<=100) :
 ∃U,prog.call m 18 [.ref t,x.toD] M=.ok .non U/\Tie t p q U (ss++[x]) (tkM mk x.a x.b)/\Js p q M U/\U.length=M.length:=by
 rw[call_of (bw (by decide) hm) rfl];have R:=asq T;have tp:=aso T;have G:=asp T;have il:=I.l;have ap:=Bl (d:=x.toD) T.s (by simp;lia);generalize hM1:M.set p (.lst (ss.map Sp.toD++[x.toD]))=M1 at ap;have Z:Tie t p q M1 (ss++[x]) mk:=⟨by rw[<- hM1,jc (jh tp)];exact T.i,by rw[<- hM1,o6 T.s];simp,by rw[<- hM1,jc R];exact T.k⟩;have e1:∀w,prog.call (m-1) 16 [.ref t,cj w] M1=.ok (cj (mkOf mk w)) M1:=λw=>Nk (by lia) Z
 have s1:=V4 (d:=cj (mkOf mk x.a)) Z.k (Ae x.a) (by simp[G3];lia);rw[aa3] at s1;generalize hM2:M1.set q (.dT (G3 (Bh mk x.a (mkOf mk x.a))))=M2 at s1;have k2:M2[q]?=some (.dT (G3 (Bh mk x.a (mkOf mk x.a)))):=by rw[<- hM2];exact o6 Z.k
 have i2:M2[t]?=some (.ins 3 [(1,.ref p),(0,.ref q)]):=by rw[<- hM2,jc (jh G)];exact Z.i
 have l1:=Qs mk x.a (mkOf mk x.a);have s2:=V4 (d:=cj (mkOf mk x.b)) k2 (Ae x.b) (by simp[G3];lia);rw[aa3] at s2;have l2:=Qs (Bh mk x.a (mkOf mk x.a)) x.b (mkOf mk x.b);generalize hM3:M2.set q (.dT (G3 (Bh (Bh mk x.a (mkOf mk x.a)) x.b (mkOf mk x.b))))=M3 at s2;have k3:M3[q]?=some (.dT (G3 (Bh (Bh mk x.a (mkOf mk x.a)) x.b (mkOf mk x.b)))):=by rw[<- hM3];exact o6 k2
 have i3:M3[t]?=some (.ins 3 [(1,.ref p),(0,.ref q)]):=by rw[<- hM3,jc (jh G)];exact i2
 obtain⟨b4,M4,e4,k4,B4,l4⟩:=amv (m:=m-1) (b1:=some x.toD) (kept:=mkOf mk x.a) (gn:=mkOf mk x.b) i3 k3 (Om (Om I.nd _ _) _ _) (by lia) G;have x0:∀M,w5 x.toD (.int 0) M=some (cj x.a):=λM=>Dj _ _
 have x1:∀M,w5 x.toD (.int 1) M=some (cj x.b):=λM=>Ke _ _ _
 have f2:Gw (.ref t) 0 M2=some (.ref q):=by simp[Gw,i2,List.lookup]
 refine⟨M4,?_,⟨B4 _ _ G i3,?_,k4⟩,?_,?_⟩
 .simp only[Fn.run,Pa,O9]
  simp[adb T,Ep T.s,ap,Z.i,Kr,List.lookup,x0,x1,e1,aqn Z,s1,f2,s2,e4]
 .refine B4 _ _ R ?_
  rw[<- hM3,jc (jh R),<- hM2,jc (jh R)];exact Z.s
 .intro a o n1 n2 h
  refine B4 a o n2 ?_;rw[<- hM3,jc (jh n2),<- hM2,jc (jh n2),<- hM1,jc (jh n1)];exact h
 .rw[l4,<- hM3,<- hM2,<- hM1];simp
def aik{U:Mk}(hm:3<=m)(T:Tie t p q M ss U)(I:TI ss U)(hl:ss.length<=100)(a b:Y3)(y:D) :
 ∃R Z G,prog.call m 19 [.ref t,cj a,cj b,y] M=.ok .non R/\Tie t p q R Z G/\TI Z G/\Js p q M R/\R.length=M.length/\(Z=ss/\G=U/\Fz ss a b\/Z=ss++[⟨a,b,y⟩]/\¬Fz ss a b):=by
 rw[call_of (bw (by decide) hm) rfl];have e1:=ade (m:=m-1) (a:=a) (b:=b) (by lia) T
 by_cases h:mkOf U a=mkOf U b
 .refine⟨M,ss,U,?_,T,I,Js.refl _ _ _,rfl,.inl ⟨rfl,rfl,(I.Ys _ _).mp h⟩⟩
  simp[Fn.run,Hk,Hj,T.i,Kr,List.lookup,e1,h]
 .obtain⟨R,e2,T2,B2,l2⟩:=amw (m:=m-1) (by lia) T I ⟨a,b,y⟩ hl
  refine⟨R,_,_,?_,T2,ams I _,B2,l2,.inr ⟨rfl,λq=>h ((I.Ys _ _).mpr q)⟩⟩;have qq:prog.call (m-1) 18 [.ref t,.tup [cj a,cj b,y]] M=_:=e2;simp[Fn.run,Hk,Hj,T.i,Kr,List.lookup,e1,h,qq]
theorem ail{Z:List (List Nat)}(one:∀k,k<es.length->[k]∈Z)(R:∀w∈Z,∀u∈ext es w,u∈Z):∀(n:Nat){w:Y3},w.length=n->Way es w->w∈Z
 |0,w,h,W=>absurd (q8 h) W.ne
 |n+1,w,h,W=>by
  obtain⟨u,k,rfl⟩:∃u k,w=u++[k]:=⟨w.dropLast,w.getLast W.ne,(ni W.ne).symm⟩;have U:k<es.length:=W.lt k (by simp)
  by_cases G:u=[]
  .subst G;exact one k U
  .have Wu:Way es u:=⟨G,λi hi=>W.lt i (ji _ hi),W.ch.init⟩
   have m:=ail one R n (by simpa using h) Wu;exact R u m _ (dq.mpr ⟨k,Ho.mpr ⟨U,Xr.last G W.ch⟩,rfl⟩)
def ain(hm:2<=m)(E:Ends es V) :
 ∃(us:List (List Nat))(M':dj),prog.call m 13 [.tup (es.map aD)] M=.ok (.ref M.length) M'/\M'[M.length]?=some (.lst (us.map cj))/\us.length<=60/\mz M M'/\(∀w∈us,Way es w)/\∀w,Way es w->w∈us:=by
 rw[call_of (bw (by decide) hm) rfl];have hn:es.length<=100000:=bw E.few (by decide)
 have c2:Bp.den (PW (m-1)) [some (.tup (es.map aD)),sR M.length,none,none,none,none] (M++[.lst []])=.ok (.vl (((List.range es.length).map λk=>[k]).map cj)) (M++[.lst []]):=by unfold Bp;rw[Hq (n:=es.length) (M1:=M++[.lst []]) (g:=λk=>cj [k]) (by simp[Kd]) hn (λi hi=>⟨_,rfl,by simp[cj,nD]⟩)];simp[gh,iz]
 obtain⟨qk,M',a,us,b2,b3,U,R,rfl,g1,g2,g3,g4,g5⟩:=Df (c:=(Ex.tru (.v 2)).den (PW (m-1))) (body:=Bo.den (PW (m-1)))
  (λn ρ G=>∃(Z us:List (List Nat))(f:D)(b3 U R:Option D),ρ=[some (.tup (es.map aD)),sR M.length,some f,b3,U,R]/\G[M.length]?=some (.lst (us.map cj))/\mz M G/\d8 G f=some (Z.map cj)/\Ja M.length f=true/\(∀w∈Z,Way es w)/\us.length+Phi es V Z<=60/\n=60-us.length/\(∀w∈us,Way es w)/\(∀k,k<es.length->[k]∈us++Z)/\∀w∈us,∀u∈ext es w,u∈us++Z)
  (fun ρ G=>∃(us:List (List Nat))(b2 b3 U R:Option D),ρ=[some (.tup (es.map aD)),sR M.length,b2,b3,U,R]/\G[M.length]?=some (.lst (us.map cj))/\mz M G/\us.length<=60/\(∀w∈us,Way es w)/\∀w,Way es w->w∈us)
  (λn ρ G hI=>by
   obtain⟨Z,us,f,b3,U,R,rfl,g1,g2,g3,g4,g5,g6,rfl,g7,g8,g9⟩:=hI;have hs:=Dp g3
   by_cases hw:Z=[]
   .left
    subst hw;exact⟨G,by simp[hs],us,some f,b3,U,R,rfl,g1,g2,by lia,g7,λw W=>ail (by simpa using g8) (by simpa using g9) _ rfl W⟩
   .right
    have Kq:=Dl es V Z;have qq:0<Z.length:=j0.mpr hw
    have x1:=acy g1 g3 g4 (by simp;lia);have k1:Ii M.length G (G.set M.length (.lst (us.map cj++Z.map cj))):=Ii.set _ _ _;have f1:=k1.d8 g4 g3;generalize hM2:G.set M.length (.lst (us.map cj++Z.map cj))=M2 at x1 k1 f1;have t1:M2[M.length]?=some (.lst (us.map cj++Z.map cj)):=by rw[<- hM2];exact o6 g1
    have f2:d8 (M2++[.lst []]) f=some (Z.map cj):=(mz.app _ _).d8 f1;have hr:Ja M2.length f=true:=by
     cases f with
     |ref n =>
      have:n<M2.length:=by
       cases e:M2[n]? with
       |none=>simp[MW.d8,e] at f1|some o=>exact rn e
      simpa[Ja] using fc this
     |_=>rfl
    obtain⟨c4,c5,M3,e3,h3,k3⟩:=aqm (m:=m-1) (a1:=sR M.length) (a4:=U) (a5:=R) (by lia) E f2 g5 (by lia) yw hr;have tl:M.length<M2.length:=rn t1
    refine⟨G,.next,[some (.tup (es.map aD)),sR M.length,sR M2.length,sR M2.length,c4,c5],M3,60-(us++Z).length,?_,?_,.inl rfl,by simp;lia,Z.flatMap (ext es),us++Z,.ref M2.length,_,_,_,rfl,by rw[gr];exact k3 _ _ (fc tl) (yu t1),?_,iu h3,?_,?_,?_,rfl,?_,λk hk=>ji _ (g8 k hk),?_⟩
    .simp[hs,hw]
    .simp only[Bo]
     simp[Ru g1,x1,MW.new,e3]
    .intro a o h
     have ha:=rn h;have:=g2 a o h;refine k3 a o (by lia) (yu ?_);rw[<- hM2,jc (by lia)];exact this
    .simpa[Ja] using qt tl
    .intro u hu
     obtain⟨w,h1,h2⟩:=List.mem_flatMap.mp hu;exact V9 (g5 w h1) h2
    .have:=Nh E Z
     rw[jb]
     lia
    .intro w hw
     rcases cg.mp hw with q|q
     .exact g7 w q
     .exact g5 w q
    .intro w hw u hu
     rcases cg.mp hw with q|q
     .exact ji _ (g9 w q u hu)
     .exact fj _ (List.mem_flatMap.mpr ⟨w,q,hu⟩))
  Rb 60 [some (.tup (es.map aD)),sR M.length,some (.vl (((List.range es.length).map λk=>[k]).map cj)),none,none,none] (M++[.lst []]) (by decide)
  ⟨((List.range es.length).map λk=>[k]),[],_,none,none,none,rfl,yw,mz.app _ _,rfl,rfl,(Wk.start E).way,by
    have:=(Wk.start E).few;rw[List.drop_zero,Dl] at this;simpa using this,rfl,by simp,by simpa using(Wk.start E).one,by simp⟩
 refine⟨us,M',?_,g1,g3,g2,g4,g5⟩;simp only[Fn.run,Lq,Lp];simp[-List.map_map,MW.new,c2,Hi,Li,a]
inductive So(s:Pk):List Nat->List Nat->Prop
 |refl:So s a a
 |symm:So s a b->So s b a
 |trans:So s a b->So s b c->So s a c
 |same:.same a b∈s.gs->So s a b
 |app:So s a b->Way s.es a->k<s.es.length->(at_ s.es k).1=yr s.es a->So s (a++[k]) (b++[k])
 |cons:So s a b->Way s.es a->k<s.es.length->(at_ s.es k).2=Ek s.es a->So s (k::a) (k::b)
 |off:So s (a++[k]) (b++[k])->Kh s.es a b->k<s.es.length->(at_ s.es k).1=yr s.es a->.apart k∈s.gs->So s a b
def So.Ys{Z:List Sp}(ho:∀x∈Z,So s x.a x.b)(h:Fz Z a b):So s a b:=by
 induction h with
 |refl=>exact .refl
 |step h0 R U G =>
  have O:=ho _ R;rcases U with⟨rfl,rfl⟩|⟨rfl,rfl⟩
  .exact G.trans O
  .exact G.trans O.symm
structure Ts(s:Pk)(ws:List (List Nat))(t p q:Nat)(M:dj)(ss:List Sp)(mk:Mk):Prop where
 T:Tie t p q M ss mk
 I:TI ss mk
 c:Cv ws ss
 b:∀x∈ss,Kh s.es x.a x.b
 o:∀x∈ss,So s x.a x.b
def Np{mk:Mk}(A:Ts s G t p q M ss mk)(k:mz M Z):Ts s G t p q Z ss mk:=⟨aii A.T k,A.I,A.c,A.b,A.o⟩
def R9{mk:Mk}(hm:3<=m)(L:Rx s.es ws)(A:Ts s ws t p q M ss mk)(B:Kh s.es a b)(O:So s a b)(y:D) :
 ∃G X Z,prog.call m 19 [.ref t,cj a,cj b,y] M=.ok .non G/\Ts s ws t p q G (ss++X) Z/\Js p q M G/\G.length=M.length/\Fz (ss++X) a b/\(X=[]->Z=mk):=by
 obtain⟨G,qq,Z,e,T',I',B',R,⟨rfl,rfl,h⟩|⟨rfl,h⟩⟩:=aik hm A.T A.I (by have:=A.c.len;lia) a b y
 .exact⟨G,[],Z,e,⟨by simpa using T',by simpa using I',by simpa using A.c,by simpa using A.b,by simpa using A.o⟩,B',R,by simpa using h,λ_=>rfl⟩
 .refine⟨G,[⟨a,b,y⟩],Z,e,⟨T',I',A.c.step (L.all _ rfl B.one) (L.all _ rfl B.two) h,λx U=>?_,λx U=>?_⟩,B',R,.step .refl (fj _ bz) (.inl ⟨rfl,rfl⟩),λh=>by simp at h⟩
  .rcases cg.mp U with q|q
   .exact A.b x q
   .simp at q;subst q;exact B
  .rcases cg.mp U with q|q
   .exact A.o x q
   .simp at q;subst q;exact O
def Yt{R:Mk}(hm:3<=m)(L:Rx s.es ws)(A:Ts s ws t p q M ss R)(c:Prop)(h:c->Kh s.es a b/\So s a b)(y:D) :
 ∃G X Z,(c->prog.call m 19 [.ref t,cj a,cj b,y] M=.ok .non G)/\(¬c->G=M)/\Ts s ws t p q G (ss++X) Z/\Js p q M G/\G.length=M.length/\(c->Fz (ss++X) a b)/\(X=[]->Z=R):=by
 by_cases U:c
 .obtain⟨G,X,Z,e,A',B',l',g,i⟩:=R9 hm L A (h U).1 (h U).2 y
  exact⟨G,X,Z,λ_=>e,λq=>absurd U q,A',B',l',λ_=>g,i⟩
 .exact⟨M,[],R,λq=>absurd q U,λ_=>rfl,by simpa using A,Js.refl _ _ _,rfl,λq=>absurd q U,λ_=>rfl⟩
def pa1{mk:Mk}{x:Sp}(hm:3<=m)(E:Ends s.es V)(L:Rx s.es ws)(A:Ts s ws t p q M ss mk)(B:Kh s.es x.a x.b)(O:So s x.a x.b) :
 ∃X Z Ry G M',Ff.den (PW m) [sR t,some (.tup (s.es.map aD)),some (cj x.a),some (cj x.b),b4,b5,b6] M=.ok (.next,[sR t,some (.tup (s.es.map aD)),some (cj x.a),some (cj x.b),b4,Ry,G]) M'/\Ts s ws t p q M' (ss++X) Z/\Js p q M M'/\M'.length=M.length/\(X=[]->Z=mk) /\
  ∀k,k<s.es.length->((at_ s.es k).2=Ek s.es x.a->Fz (ss++X) (k::x.a) (k::x.b))/\((at_ s.es k).1=yr s.es x.a->Fz (ss++X) (x.a++[k]) (x.b++[k])):=by
 unfold Ff;have la:=Bf E B.one;have lb:=Bf E B.two;obtain⟨qk,M',e,X,Z,Ry,G,rfl,h1,h2,h3,h4,h5⟩:=Jf (W:=PW m) (it:=.v 1) (t:=.names [5,6]) (b:=Bq) (ρ:=[sR t,D.tup (s.es.map aD),cj x.a,cj x.b,b4,b5,b6]) (M:=M) (M1:=M) (ds:=s.es.map aD) rfl
  (λi ρ R=>∃(X:List Sp)(Z:Mk)(Ry G:Option D),ρ=[sR t,some (.tup (s.es.map aD)),some (cj x.a),some (cj x.b),b4,Ry,G]/\Ts s ws t p q R (ss++X) Z/\Js p q M R/\R.length=M.length/\(X=[]->Z=mk) /\
   ∀k,k<i->((at_ s.es k).2=Ek s.es x.a->Fz (ss++X) (k::x.a) (k::x.b))/\((at_ s.es k).1=yr s.es x.a->Fz (ss++X) (x.a++[k]) (x.b++[k])))
  ⟨[],mk,b5,b6,rfl,by simpa using A,Js.refl _ _ _,rfl,λ_=>rfl,λk hk=>absurd hk (o9 _)⟩
  (λi y ρ R hy hI=>by
   obtain⟨X,Z,Ry,G,rfl,A1,B1,l1,i1,C1⟩:=hI;have hi:i<s.es.length:=by simpa using(ak.mp hy).1
   have ex:y=aD (at_ s.es i):=by simpa[Pj hi] using hy.symm
   subst ex;obtain⟨M2,X2,mk2,e2,n2,A2,B2,l2,t2,i2⟩:=Yt (m:=m) (a:=i::x.a) (b:=i::x.b) hm L A1 ((at_ s.es i).2=Ek s.es x.a) (λq=>⟨B.cons hi q,O.cons B.one hi q⟩) (.tup [sD "put",.tup [.int i],.tup []]);obtain⟨M3,X3,qq,e3,n3,A3,B3,l3,t3,i3⟩:=Yt (m:=m) (a:=x.a++[i]) (b:=x.b++[i]) hm L A2 ((at_ s.es i).1=yr s.es x.a) (λq=>⟨B.app hi q,O.app B.one hi q⟩) (.tup [sD "put",.tup [],.tup [.int i]]);have w1:=Rt (m:=m) (M:=R) (d:=.tup (s.es.map aD)) (by lia) rfl B.one;have w2:=Oj (m:=m) (M:=M2) (d:=.tup (s.es.map aD)) (by lia) rfl B.one;have r1:∀M,zq .add (.tup [.int i]) (cj x.a) M=.ok (cj (i::x.a)) M:=λM=>Km _ _ (by lia)
   have r2:∀M,zq .add (.tup [.int i]) (cj x.b) M=.ok (cj (i::x.b)) M:=λM=>Km _ _ (by lia)
   have r3:∀M,zq .add (cj x.a) (.tup [.int i]) M=.ok (cj (x.a++[i])) M:=λM=>Dq _ _ (by lia)
   have r4:∀M,zq .add (cj x.b) (.tup [.int i]) M=.ok (cj (x.b++[i])) M:=λM=>Dq _ _ (by lia)
   have as:ss++X++X2++X3=ss++(X++(X2++X3)):=by simp
   rw[as] at A3 t3;refine⟨_,.next,[sR t,some (.tup (s.es.map aD)),some (cj x.a),some (cj x.b),b4,sI i,some (aD (at_ s.es i))],M3,rfl,?_,.inl rfl,X++(X2++X3),qq,_,_,rfl,A3,(B1.trans B2).trans B3,by lia,?_,?_⟩
   .show Bq.den (PW m) [sR t,some (.tup (s.es.map aD)),some (cj x.a),some (cj x.b),b4,sI i,some (aD (at_ s.es i))] R=_
    have j1:=A1.T.i;have j2:=A2.T.i;simp only[Bq];unfold sD at e2 e3
    by_cases c1:(at_ s.es i).2=Ek s.es x.a
    .have e2:=e2 c1
     by_cases U:(at_ s.es i).1=yr s.es x.a
     .have e3:=e3 U
      simp[Pn,Uu,w1,w2,um,n8,c1,U,j1,j2,Kr,List.lookup,r1,r2,r3,r4,e2,e3]
     .have n3:=n3 U
      simp[Pn,Uu,w1,w2,um,n8,c1,U,j1,j2,Kr,List.lookup,r1,r2,r3,r4,e2,n3]
    .have n2:=n2 c1
     subst n2
     by_cases U:(at_ s.es i).1=yr s.es x.a
     .have e3:=e3 U
      simp[Pn,Uu,w1,w2,um,n8,c1,U,j1,j2,Kr,List.lookup,r1,r2,r3,r4,e3]
     .have n3:=n3 U
      simp[Pn,Uu,w1,w2,um,n8,c1,U,j1,j2,Kr,List.lookup,r1,r2,r3,r4,n3]
   .intro h
    simp at h;rw[i3 h.2.2,i2 h.2.1,i1 h.1]
   .intro k hk
    rw[<- as];rcases Nat.lt_or_eq_of_le (t6 hk) with q|rfl
    .exact⟨λh=>((C1 k q).1 h).more.more,λh=>((C1 k q).2 h).more.more⟩
    .exact⟨λh=>(t2 h).more,λh=>by rw[as];exact t3 h⟩)
 rw[dg] at h5;exact⟨X,Z,Ry,G,M',e,h1,h2,h3,h4,h5⟩
def Put(Z:List Ar)(U G:List Sp):Prop:=∀x∈U,∀k,k<Z.length->((at_ Z k).2=Ek Z x.a->Fz G (k::x.a) (k::x.b))/\((at_ Z k).1=yr Z x.a->Fz G (x.a++[k]) (x.b++[k]))
def aqo{Z:Mk}(A:Ts s G t p q M ss Z):t<M.length/\p<M.length/\q<M.length:=⟨rn A.T.i,rn A.T.s,rn A.T.k⟩
def ax1{mk:Mk}(hm:4<=m)(E:Ends s.es V)(L:Rx s.es ws)(A:Ts s ws t p q M ss mk) :
 ∃X Z R,prog.call m 21 [.ref t,.tup (s.es.map aD)] M=.ok .non R/\Ts s ws t p q R (ss++X) Z/\Js p q M R/\M.length<=R.length/\(X=[]->Z=mk)/\Put s.es ss (ss++X):=by
 rw[call_of (bw (by decide) hm) rfl];obtain⟨-,lp,lq⟩:=aqo A;have li:v9 .list [.ref p] M=.ok (.ref M.length) (M++[.lst (ss.map Sp.toD)]):=by have a:=Dp (iu A.T.s);simp only[v9,Ga,a,MW.new]
 obtain⟨qq,R,e,X,Z,b2,b3,b4,U,b6,rfl,A',B',l',i',C'⟩:=vf (W:=PW (m-1)) (it:=.blt .list (.o (.fld (.v 0) 1))) (t:=.names [2,3,4]) (b:=Br) (ρ:=[sR t,D.tup (s.es.map aD),none,none,none,none,none]) (M:=M) (M1:=M++[.lst (ss.map Sp.toD)]) (d:=.ref M.length) (by simp[adb A.T,li]) (iu yw)
  (λi ρ G=>∃(X:List Sp)(Z:Mk)(b2 b3 b4 U b6:Option D),ρ=[sR t,some (.tup (s.es.map aD)),b2,b3,b4,U,b6]/\Ts s ws t p q G (ss++X) Z/\Js p q (M++[.lst (ss.map Sp.toD)]) G/\(M++[MO.lst (ss.map Sp.toD)]).length<=G.length/\(X=[]->Z=mk)/\Put s.es (ss.take i) (ss++X))
  ⟨[],mk,none,none,none,none,none,rfl,by simpa using Np A (mz.app _ _),Js.refl _ _ _,az _,λ_=>rfl,by intro x hx;simp at hx⟩
  (λi ρ G h=>by
   obtain⟨_,_,_,_,_,_,_,_,_,k,_⟩:=h;exact iu (k _ _ (by lia) (by lia) yw))
  (λi y ρ G hy hI=>by
   obtain⟨X,Z,b2,b3,b4,U,b6,rfl,A1,B1,l1,i1,C1⟩:=hI;obtain⟨x,hi,rfl⟩:∃x,ss[i]?=some x/\x.toD=y:=by simpa using hy
   have hx:=bf hi;obtain⟨X2,mk2,c5,c6,M2,e2,A2,B2,l2,i2,C2⟩:=pa1 (m:=m-1) (b4:=some x.y) (b5:=U) (b6:=b6) (by lia) E L A1 (A.b x hx) (A.o x hx);have as:ss++X++X2=ss++(X++X2):=by simp
   rw[as] at A2 C2;refine⟨_,.next,_,M2,rfl,by
    show Br.den (PW (m-1)) [sR t,some (.tup (s.es.map aD)),some (cj x.a),some (cj x.b),some x.y,U,b6] G=_;simp only[Br,Yc,e2];rfl,.inl rfl,X++X2,mk2,_,_,_,_,_,rfl,A2,B1.trans B2,by lia,?_,?_⟩
   .intro h
    simp at h;rw[i2 h.2,i1 h.1]
   .rw[jd,hi]
    intro z hz k hk;rcases cg.mp hz with r|r
    .have:=C1 z r k hk
     rw[<- as];exact⟨λh=>(this.1 h).more,λh=>(this.2 h).more⟩
    .have r:z=x:=by simpa using r
     subst r;exact C2 k hk)
 simp only[dg,jr] at C';refine⟨X,Z,R,?_,A',(Js.of (mz.app _ _)).trans B',by simp at l';lia,i',C'⟩;have e':Jo.den (PW (m-1)) _ M=_:=e;simp[Fn.run,Mv,Mt,e']
noncomputable def arw:Gn->Nat
 |.apart k=>k|.same _ _=>0
def Pk.ks(s:Pk):List Nat:=(s.gs.filter λg=>!Yp g).map arw
def Wl{s:Pk}{k:Nat}:k∈s.ks↔.apart k∈s.gs:=by
 unfold Pk.ks;rw[dq];constructor
 .rintro⟨g,G,rfl⟩
  obtain⟨U,Z⟩:=tu.mp G;cases g with
  |same a b=>cases Z|apart k=>exact U
 .intro h
  exact⟨_,tu.mpr ⟨h,rfl⟩,rfl⟩
def ax3{s:Pk}(Z:1<=m)(G:s.gs.length<=8):prog.call m 14 [.tup (s.gs.map Gn.toD)] M=.ok (.vl (s.ks.map nD)) M:=by
 rw[call_of Z rfl];have c:Dg.den (PW (m-1)) [some (.tup (s.gs.map Gn.toD))] M=.ok (.vl (s.ks.map nD)) M:=by
  unfold Dg;rw[Fv (d:=.tup (s.gs.map Gn.toD)) (M1:=M) (xs:=s.gs) (f:=Gn.toD) (q:=λg=>!Yp g) (g:=λg=>nD (arw g)) rfl rfl (by lia) (λg U=>⟨_,rfl,by
   cases g<;>simp[Gn.toD,Yp,We.symm],λh=>by
   cases g with
   | same a b=>cases h|apart k=>simp[Gn.toD,arw,nD]⟩)]
  simp[Pk.ks,gh,iz]
 simp[Fn.run,Jm,Jl,c]
def Off(Z:List Ar)(G:List Sp)(k:Nat):Prop:=∀a b,Way Z a->Way Z b->yr Z a=(at_ Z k).1->yr Z b=(at_ Z k).1->Fz G (a++[k]) (b++[k])->Fz G a b
def ass{mk:Mk}(A:Ts s G t p q M ss mk)(R:f≠t)(Z:f≠p)(U:f≠q):Ts s G t p q (M.set f o) ss mk :=
 ⟨⟨by rw[jc R];exact A.T.i,by rw[jc Z];exact A.T.s,by rw[jc U];exact A.T.k⟩,A.I,A.c,A.b,A.o⟩
def aio{Z:Mk}(I:TI ss Z)(w:Y3):Fz ss (mkOf Z w) w:=(I.Ys _ _).mp (I.id w)
structure Fst(es:List Ar)(k:Nat)(ss:List Sp)(F:Mk):Prop where
 h:∀x∈F,Way es x.2/\yr es x.2=(at_ es k).1/\Fz ss (x.2++[k]) x.1
def ax4(h:M[n]?=some (.dT Z)):Iz .setdefault (.ref n) M=true:=by simp[Iz,h]
def to0{U F:Mk}(hg:.apart k∈s.gs)(hk:k<s.es.length)(A:Ts s ws t p q M ss U)(hf:M[f]?=some (.dT (G3 F)))(h1:f≠t)(h2:f≠p)(h3:f≠q)(S:Fst s.es k ss F)(hl:F.length<=1000)(W:Way s.es w)(hw:yr s.es w=(at_ s.es k).1) :
 ∃g G R,Bj .setdefault (.ref f) [cj (mkOf U (w++[k])),cj w] M=.ok (cj g) R/\Ts s ws t p q R ss U/\R[f]?=some (.dT (G3 G))/\Ii f M R/\R.length=M.length/\Kh s.es g w/\So s g w/\Fst s.es k ss G/\G.length<=F.length+1 /\
  mkOf U (w++[k])∈G.map (·.1)/\mkOf G (mkOf U (w++[k]))=g/\∀x∈F.map (·.1),x∈G.map (·.1)/\mkOf G x=mkOf F x:=by
 have tg:=aio A.I (w++[k]);generalize mkOf U (w++[k])=κ at tg;have sd:∀v,Ac (G3 F) (kx κ)=some v->Bj .setdefault (.ref f) [cj κ,cj w] M=.ok v M:=λv h=>by simp only[Bj,onT,hf,Ae,h]
 by_cases h:κ∈F.map (·.1)
 .have m:=ac9 h
  obtain⟨w1,w2,w3⟩:=S.h _ m;have tt:=w3.trans tg;have W1:=w1.app hk w2.symm;have B1:=tt.bes A.b W1;have B:Kh s.es (mkOf F κ) w:=⟨w1,W,by have:=B1.st;rw[Kl w1.ne,Kl W.ne] at this;exact this,w2.trans hw.symm⟩;have O:=So.off (So.Ys A.o tt) B hk w2.symm hg;refine⟨mkOf F κ,F,M,sd _ ?_,A,hf,Ii.refl _ _,rfl,B,O,S,by lia,h,rfl,λx Z=>⟨Z,rfl⟩⟩;obtain⟨v,e1,_⟩:=find_some h;rw[lk_row,mkOf,e1];rfl
 .have n:Ac (G3 F) (kx κ)=none:=by rw[lk_row,find_none h];rfl
  have lf:(G3 F).length<100000:=by simp[G3];lia
  have qq:G3 F++[(kx κ,cj w)]=G3 (F++[(κ,w)]):=by simp[G3]
  have fa:∀x∈F.map (·.1),mkOf (F++[(κ,w)]) x=mkOf F x:=λx Z=>by obtain⟨v,e1,_⟩:=find_some Z;rw[mkOf,mkOf,List.find?_append,e1];rfl
  refine⟨w,F++[(κ,w)],M.set f (.dT (G3 (F++[(κ,w)]))),?_,ass A h1 h2 h3,o6 hf,Ii.set _ _ _,by simp,⟨W,W,rfl,rfl⟩,.refl,⟨λx Z=>?_⟩,by simp,by simp,?_,λx Z=>⟨by rw[gr];exact ji _ Z,fa x Z⟩⟩
  .simp only[Bj,onT,hf,Ae,n,lf,j6,qq]
  .rcases cg.mp Z with r|r
   .exact S.h x r
   .have r:x=(κ,w):=by simpa using r
    subst r;exact⟨W,hw,tg.symm⟩
  .rw[mkOf,List.find?_append,find_none h];simp
def aip(S:Fst es k ss F):Fst es k (ss++X) F:=⟨λx Z=>let ⟨a,b,c⟩:=S.h x Z;⟨a,b,c.more⟩⟩
def to1{R:Mk}{k:Nat}(hm:3<=m)(E:Ends s.es V)(L:Rx s.es ws)(hg:.apart k∈s.gs)(hk:k<s.es.length)(A:Ts s ws t p q M ss R)(hf:M[f]?=some (.dT []))(h1:f≠t)(h2:f≠p)(h3:f≠q)(B0:Js p q M0 M)(l0:M0.length<=f)(qv:p<M0.length/\q<M0.length) :
 ∃X Z Ry G M',Hn.den (PW m) [sR t,some (.tup (s.es.map aD)),b2,sI k,sR f,b5,b6] M=.ok (.next,[sR t,some (.tup (s.es.map aD)),b2,sI k,sR f,Ry,G]) M'/\Ts s ws t p q M' (ss++X) Z/\Js p q M0 M'/\M.length<=M'.length/\(X=[]->Z=R/\Off s.es ss k):=by
 unfold Hn;obtain⟨us,M1,e1,g1,n1,k1,w1,a1⟩:=ain (m:=m) (M:=M) (by lia) E;have fl:=rn hf;obtain⟨qk,M',e,X,Z,F,Ry,G,rfl,A',B',l',-,-,-,-,C'⟩:=vf (W:=PW m) (it:=.call 13 (.o (.v 1))) (t:=.name 5) (b:=Aj) (ρ:=[sR t,D.tup (s.es.map aD),b2,sI k,sR f,b5,b6]) (M:=M) (M1:=M1) (d:=.ref M.length) (by simp[e1]) (iu g1)
  (λi ρ M2=>∃(X:List Sp)(Z F:Mk)(Ry G:Option D),ρ=[sR t,some (.tup (s.es.map aD)),b2,sI k,sR f,Ry,G]/\Ts s ws t p q M2 (ss++X) Z/\Js p q M0 M2/\M.length<=M2.length/\M2[f]?=some (.dT (G3 F))/\M2[M.length]?=some (.lst (us.map cj))/\Fst s.es k (ss++X) F/\F.length<=i /\
   (X=[]->Z=R/\∀w∈us.take i,yr s.es w=(at_ s.es k).1->mkOf R (w++[k])∈F.map (·.1)/\Fz ss w (mkOf F (mkOf R (w++[k])))))
  ⟨[],R,[],b5,b6,rfl,by simpa using Np A k1,B0.trans (Js.of k1),mz.len k1,k1 _ _ hf,g1,⟨by simp⟩,az _,λ_=>⟨rfl,by simp⟩⟩
  (λi ρ M2 h=>by
   obtain⟨_,_,_,_,_,_,_,_,_,_,k,_⟩:=h;exact iu k)
  (λi y ρ M2 hy hI=>by
   obtain⟨X,Z,F,Ry,G,rfl,A2,B2,l2,f2,u2,S2,n2,C2⟩:=hI;obtain⟨w,hi,rfl⟩:∃w,us[i]?=some w/\cj w=y:=by simpa using hy
   have il:=(ak.mp hi).1;have W:=w1 w (bf hi);have wl:=Bf E W;have v1:=Oj (m:=m) (M:=M2) (d:=.tup (s.es.map aD)) (by lia) rfl W;have v2:=M9 (M:=M2) (d:=.tup (s.es.map aD)) rfl hk
   by_cases c:yr s.es w=(at_ s.es k).1
   .obtain⟨g,F',M3,e3,A3,f3,B3,l3,Bs,O,S3,n3,m3,q3,o3⟩:=to0 hg hk A2 f2 h1 h2 h3 S2 (by lia) W c
    obtain⟨M4,X4,qq,e4,A4,B4,l4,t4,i4⟩:=R9 (m:=m) hm L A3 Bs O (.tup [sD "off",.int k]);have mo:=Nk (m:=m) (w:=w++[k]) (by lia) A2.T;have r3:zq .add (cj w) (.tup [.int k]) M2=.ok (cj (w++[k])) M2:=Dq _ _ (by lia);have as:ss++X++X4=ss++(X++X4):=by simp
    rw[as] at A4;have bt:Js p q M0 M3:=λa o x1 x2 h=>B3 a o (by have:=rn h;lia) (B2 a o x1 x2 h)
    refine⟨_,.next,[sR t,some (.tup (s.es.map aD)),b2,sI k,sR f,some (cj w),some (cj g)],M4,rfl,?_,.inl rfl,X++X4,qq,F',_,_,rfl,A4,bt.trans B4,by lia,B4 _ _ h2 h3 f3,B4 _ _ (by lia) (by lia) (B3 _ _ (by lia) u2),by rw[<- as];exact aip S3,by lia,?_⟩
    .show Aj.den (PW m) [sR t,some (.tup (s.es.map aD)),b2,sI k,sR f,some (cj w),G] M2=_
     have j2:=A2.T.i;have j3:=A3.T.i;unfold sD at e4;simp only[Aj];simp[v1,v2,Pn,um,n8,c,ax4 f2,j2,j3,Kr,List.lookup,r3,mo,e3,e4]
    .intro U
     simp at U;obtain⟨rfl,rfl⟩:=U;obtain⟨rfl,C⟩:=C2 rfl;have i4:=i4 rfl;subst i4;refine⟨rfl,λu hu hc=>?_⟩;rw[jd,hi] at hu;rcases cg.mp hu with r|r
     .obtain⟨x1,x2⟩:=C u r hc
      obtain⟨y1,y2⟩:=o3 _ x1;exact⟨y1,by rw[y2];exact x2⟩
     .have r:u=w:=by simpa using r
      subst r;exact⟨m3,by rw[q3];simpa using t4.symm⟩
   .refine⟨_,.next,[sR t,some (.tup (s.es.map aD)),b2,sI k,sR f,some (cj w),G],M2,rfl,?_,.inl rfl,X,Z,F,_,_,rfl,A2,B2,l2,f2,u2,S2,by lia,λU=>⟨(C2 U).1,λu hu hc=>?_⟩⟩
    .show Aj.den (PW m) [sR t,some (.tup (s.es.map aD)),b2,sI k,sR f,some (cj w),G] M2=_
     simp only[Aj];simp[v1,v2,Pn,um,n8,c]
    .rw[jd,hi] at hu
     rcases cg.mp hu with r|r
     .exact(C2 U).2 u r hc
     .have r:u=w:=by simpa using r
      subst r;exact absurd hc c)
 simp only[dg,jr] at C';refine⟨X,Z,Ry,G,M',e,A',B',l',λU=>⟨(C' U).1,λa b Wa Wb ga gb tg=>?_⟩⟩;obtain⟨x1,x2⟩:=(C' U).2 a (a1 a Wa) ga;obtain⟨y1,y2⟩:=(C' U).2 b (a1 b Wb) gb;rw[(A.I.Ys _ _).mpr tg] at x2;exact x2.trans y2.symm
def ax5{mk:Mk}(hm:4<=m)(h:Al s V)(L:Rx s.es ws)(A:Ts s ws t p q M ss mk) :
 ∃X Z R,prog.call m 22 [.ref t,.tup (s.es.map aD),.vl (s.ks.map nD)] M=.ok .non R/\Ts s ws t p q R (ss++X) Z/\Js p q M R/\M.length<=R.length/\(X=[]->Z=mk/\∀k,.apart k∈s.gs->Off s.es ss k):=by
 rw[call_of (bw (by decide) hm) rfl];obtain⟨lt,lp,lq⟩:=aqo A;obtain⟨qk,R,e,X,Z,b3,b4,U,b6,rfl,A',B',l',C'⟩:=vf (W:=PW (m-1)) (it:=.v 2) (t:=.name 3) (b:=Eh) (ρ:=[sR t,D.tup (s.es.map aD),D.vl (s.ks.map nD),none,none,none,none]) (M:=M) (M1:=M) (d:=.vl (s.ks.map nD)) rfl rfl
  (λi ρ G=>∃(X:List Sp)(Z:Mk)(b3 b4 U b6:Option D),ρ=[sR t,some (.tup (s.es.map aD)),some (.vl (s.ks.map nD)),b3,b4,U,b6]/\Ts s ws t p q G (ss++X) Z/\Js p q M G/\M.length<=G.length/\(X=[]->Z=mk/\∀k∈s.ks.take i,Off s.es ss k))
  ⟨[],mk,none,none,none,none,rfl,by simpa using A,Js.refl _ _ _,az _,λ_=>⟨rfl,by simp⟩⟩
  (λ_ _ _ _=>rfl)
  (λi y ρ G hy hI=>by
   obtain⟨X,Z,b3,b4,U,b6,rfl,A1,B1,l1,C1⟩:=hI;obtain⟨k,hi,rfl⟩:∃k,s.ks[i]?=some k/\nD k=y:=by simpa using hy
   have hg:=Wl.mp (bf hi);have hk:k<s.es.length:=h.gs _ hg
   have A2:=Np A1 (mz.app G [.dT []]);obtain⟨X3,qq,c5,c6,M3,e3,A3,B3,l3,C3⟩:=to1 (m:=m-1) (b2:=some (.vl (s.ks.map nD))) (b5:=U) (b6:=b6) (M0:=M) (by lia) h.E L hg hk A2 yw (by lia) (by lia) (by lia) (B1.trans (Js.of (mz.app _ _))) l1 ⟨lp,lq⟩;have as:ss++X++X3=ss++(X++X3):=by simp
   rw[as] at A3;refine⟨_,.next,[sR t,some (.tup (s.es.map aD)),some (.vl (s.ks.map nD)),sI k,sR G.length,c5,c6],M3,rfl,by
    show Eh.den (PW (m-1)) [sR t,some (.tup (s.es.map aD)),some (.vl (s.ks.map nD)),sI k,b4,U,b6] G=_;simp[Eh,MW.new,e3],.inl rfl,X++X3,qq,_,_,_,_,rfl,A3,B3,by simp at l3;lia,?_⟩
   intro hx;simp at hx;obtain⟨rfl,rfl⟩:=hx;obtain⟨rfl,D1⟩:=C1 rfl;obtain⟨rfl,D3⟩:=C3 rfl;refine⟨rfl,λj hj=>?_⟩;rw[jd,hi] at hj;rcases cg.mp hj with r|r
   .exact D1 j r
   .have r:j=k:=by simpa using r
    subst r;simpa using D3)
 simp only[dg,jr] at C';refine⟨X,Z,R,?_,A',B',l',λhx=>⟨(C' hx).1,λk hk=>(C' hx).2 k (Wl.mpr hk)⟩⟩;have e':Mw.den (PW (m-1)) _ M=_:=e;simp[Fn.run,Rr,Rq,e']
def amx(G:1<=m):prog.call m 15 [.ref M.length] (M++[.ins 3 []])=.ok .non (M++[.ins 3 [(1,.ref (M.length+1)),(0,.ref (M.length+2))],.lst [],.dT []]):=by
 rw[call_of G rfl];have U:Ra (.ref M.length) 1 (.ref (M.length+1)) (M++[.ins 3 [],.lst []])=some (M++[.ins 3 [(1,.ref (M.length+1))],.lst []]):=by simp[Ra,Q9]
 have Z:Ra (.ref M.length) 0 (.ref (M.length+2)) (M++[.ins 3 [(1,.ref (M.length+1))],.lst [],.dT []])=some (M++[.ins 3 [(1,.ref (M.length+1)),(0,.ref (M.length+2))],.lst [],.dT []]):=by simp[Ra,Q9]
 simp[Fn.run,Ky,Kw,MW.new,U,Z]
structure Clo(s:Pk)(ss:List Sp):Prop where
 put:Put s.es ss ss
 off:∀k,.apart k∈s.gs->Off s.es ss k
 same:∀a b,.same a b∈s.gs->Fz ss a b
def at1{mk:Mk}(hm:3<=m)(h:Al s V)(L:Rx s.es ws)(A:Ts s ws t p q M [] mk) :
 ∃U Z b2 R M',Hm.den (PW m) [some s.toD,sR t,none,none,none] M=.ok (.next,[some s.toD,sR t,b2,R,none]) M'/\Ts s ws t p q M' U Z/\Js p q M M'/\M.length<=M'.length/\∀a b,.same a b∈s.gs->Fz U a b:=by
 unfold Hm;have i1:∀M,w5 s.toD (.int 1) M=some (.tup (s.gs.map Gn.toD)):=λM=>Ke _ _ _
 obtain⟨qq,M',e,U,Z,b2,R,rfl,A',B',l',C'⟩:=Jf (W:=PW m) (it:=.ix (.v 0) (.i 1)) (t:=.names [2,3]) (b:=Ai) (ρ:=[some s.toD,sR t,none,none,none]) (M:=M) (M1:=M) (ds:=s.gs.map Gn.toD) (by simp[i1])
  (λi ρ G=>∃(U:List Sp)(Z:Mk)(b2 R:Option D),ρ=[some s.toD,sR t,b2,R,none]/\Ts s ws t p q G U Z/\Js p q M G/\M.length<=G.length/\∀a b,.same a b∈s.gs.take i->Fz U a b)
  ⟨[],mk,none,none,rfl,A,Js.refl _ _ _,az _,by simp⟩
  (λi y ρ G hy hI=>by
   obtain⟨U,Z,b2,R,rfl,A1,B1,l1,C1⟩:=hI;obtain⟨g,hi,rfl⟩:∃g,s.gs[i]?=some g/\g.toD=y:=by simpa using hy
   have hg:=bf hi;cases g with
   |same a b =>
    obtain⟨M2,X,mk2,e2,A2,B2,l2,t2,-⟩:=R9 (m:=m) hm L A1 (h.gs _ hg) (.same hg) (.tup [sD "given",.int i]);refine⟨_,.next,[some s.toD,sR t,sI i,some (Gn.toD (.same a b)),none],M2,rfl,?_,.inl rfl,U++X,mk2,_,_,rfl,A2,B1.trans B2,by lia,λc d hc=>?_⟩
    .show Ai.den (PW m) [some s.toD,sR t,sI i,some (Gn.toD (.same a b)),none] G=_
     unfold sD at e2;have j:=A1.T.i;have x0:w5 (Gn.toD (.same a b)) (.int 0) G=some (.str (PySem.Str.ofString "same")):=Dj _ _;have x1:w5 (Gn.toD (.same a b)) (.int 1) G=some (cj a):=Ke _ _ _;have x2:w5 (Gn.toD (.same a b)) (.int 2) G=some (cj b):=acp _ _ _ _;simp[Ai,x0,x1,x2,j,Kr,List.lookup,e2]
    .rw[jd,hi] at hc
     rcases cg.mp hc with r|r
     .exact(C1 c d r).more
     .have r:Gn.same c d=Gn.same a b:=jz.mp r
      cases r;exact t2
   |apart k =>
    refine⟨_,.next,[some s.toD,sR t,sI i,some (Gn.toD (.apart k)),none],G,rfl,?_,.inl rfl,U,Z,_,_,rfl,A1,B1,l1,λc d hc=>?_⟩
    .show Ai.den (PW m) [some s.toD,sR t,sI i,some (Gn.toD (.apart k)),none] G=_
     have x0:w5 (Gn.toD (.apart k)) (.int 0) G=some (.str (PySem.Str.ofString "apart")):=Dj _ _;simp[Ai,x0,We]
    .rw[jd,hi] at hc
     rcases cg.mp hc with r|r
     .exact C1 c d r
     .cases jz.mp r)
 rw[dg,jr] at C';exact⟨U,Z,b2,R,M',e,A',B',l',C'⟩
def aa5(hm:5<=m)(h:Al s V)(L:Rx s.es ws):∃p q Z U M',prog.call m 20 [s.toD] M=.ok (.ref M.length) M'/\Ts s ws M.length p q M' Z U/\Clo s Z/\mz M M':=by
 rw[call_of (bw (by decide) hm) rfl];have e0:=amx (m:=m-1) (M:=M) (by lia);generalize hM1:M++[.ins 3 [(1,.ref (M.length+1)),(0,.ref (M.length+2))],.lst [],.dT []]=M1 at e0;have k1:mz M M1:=hM1▸mz.app _ _;have l1:M1.length=M.length+3:=by rw[<- hM1];simp
 have A1:Ts s ws M.length (M.length+1) (M.length+2) M1 [] []:=⟨⟨by rw[<- hM1];simp,by rw[<- hM1];simp,by rw[<- hM1];simp[G3]⟩,asn,⟨ws,λw hw=>⟨w,hw,.refl⟩,by simpa using L.few⟩,by simp,by simp⟩;obtain⟨R,qq,b2,b3,M2,e2,A2,B2,l2,C2⟩:=at1 (m:=m-1) (by lia) h L A1;have i0:∀M,w5 s.toD (.int 0) M=some (.tup (s.es.map aD)):=λM=>Dj _ _
 have i1:∀M,w5 s.toD (.int 1) M=some (.tup (s.gs.map Gn.toD)):=λM=>Ke _ _ _
 obtain⟨q0,M',e,Z,U,z,rfl,A',B',l',C'⟩:=Df (c:=(Ex.cmp .ne (.v 4) (.l (.fld (.v 1) 1))).den (PW (m-1))) (body:=Hl.den (PW (m-1)))
  (λn ρ G=>∃(Z:List Sp)(U:Mk)(z:Int),ρ=[some s.toD,sR M.length,b2,b3,sI z]/\Ts s ws M.length (M.length+1) (M.length+2) G Z U/\Js (M.length+1) (M.length+2) M1 G/\M1.length<=G.length/\(∀a b,.same a b∈s.gs->Fz Z a b)/\(z=(Z.length:Int)->Put s.es Z Z/\∀k,.apart k∈s.gs->Off s.es Z k)/\n=if z=(Z.length:Int) then 0 else 1+(60-Z.length))
  (fun ρ G=>∃(Z:List Sp)(U:Mk)(z:Int),ρ=[some s.toD,sR M.length,b2,b3,sI z]/\Ts s ws M.length (M.length+1) (M.length+2) G Z U/\Js (M.length+1) (M.length+2) M1 G/\M1.length<=G.length/\Clo s Z)
  (λn ρ G hI=>by
   obtain⟨Z,U,z,rfl,A3,B3,l3,C3,D3,rfl⟩:=hI;have ln:=len_list (iu A3.T.s);rw[dg] at ln;have fs:=adb A3.T
   by_cases c:z=(Z.length:Int)
   .left
    exact⟨G,by simp[fs,ln,n8,V3,c],Z,U,z,rfl,A3,B3,l3,⟨(D3 c).1,(D3 c).2,C3⟩⟩
   .right
    obtain⟨X,qv,M4,e4,A4,B4,l4,-,P4⟩:=ax1 (m:=m-1) (by lia) h.E L A3;obtain⟨Y,qk,M5,e5,A5,B5,l5,C5⟩:=ax5 (m:=m-1) (by lia) h L A4;have ap:=ax3 (m:=m-1) (M:=M4) (s:=s) (by lia) h.few;have n3:=A3.c.len;have n5:=A5.c.len;refine⟨G,.next,[some s.toD,sR M.length,b2,b3,sI (Z.length:Nat)],M5,_,by simp[fs,ln,n8,V3,c],?_,.inl rfl,?_,Z++X++Y,qk,Z.length,rfl,A5,(B3.trans B4).trans B5,by lia,λa b hg=>(C3 a b hg).more.more,λq=>?_,rfl⟩
    .simp[Hl,fs,ln,i0,i1,e4,ap,e5]
    .rw[bj c]
     simp only[jb] at n5 ⊢;split<;>lia
    .simp at q
     have hX:X=[]:=q8 (by lia);have hY:Y=[]:=q8 (by lia);subst hX;subst hY;simp at P4 C5 ⊢;exact⟨P4,C5.2⟩)
  Rb (1+(60-R.length)) [some s.toD,sR M.length,b2,b3,sI (-1)] M2 (qz (show 1+(60-R.length)<=61 by lia) (by decide))
  ⟨R,qq,-1,rfl,A2,B2,by lia,C2,λq=>by lia,(bj (by lia)).symm⟩
 refine⟨M.length+1,M.length+2,Z,U,M',?_,A',C',λa o ha=>B' a o (by have:=rn ha;lia) (by have:=rn ha;lia) (k1 a o ha)⟩;simp only[Fn.run,Rp,Ro,Ms];simp[Kr,e0,e2,Li];have e':Ay _ _ Rb [some s.toD,sR M.length,b2,b3,sI (-1)] M2=_:=e;simp[e']
def asu(E:Ends es V)(W:Way es w):V (yr es w)<V (Ek es w):=by
 have a:=ahu E W;have b:=V_lt E W.Nf;have c:1<=w.length:=j0.mpr W.ne
 show V (yr es w)<V (at_ es (hw w)).1
 lia
def asv(W:Way es (k::w))(h:w≠[]):Way es w/\Ek es w=(at_ es k).2:=by obtain⟨b,r,rfl⟩:=List.exists_cons_of_ne_nil h;exact⟨⟨by simp,λi Z=>W.lt i (bu _ Z),W.ch.2⟩,W.ch.1.symm⟩
def asw(C:Clo s ss)(G:∀x∈ss,Kh s.es x.a x.b)(W:Way s.es a)(hk:k<s.es.length)(e:(at_ s.es k).1=yr s.es a)(h:Fz ss a b):Fz ss (a++[k]) (b++[k]):=by
 induction h with
 |refl=>exact .refl
 |step h0 U h2 ih =>
  have Z:=h0.bes G W;have R:=G _ U;refine ih.trans ?_;have c:=(C.put _ U k hk).2;rcases h2 with⟨rfl,rfl⟩|⟨rfl,rfl⟩
  .exact c (e.trans Z.go)
  .exact(c (e.trans (Z.go.trans R.go.symm))).symm
def amy(C:Clo s ss)(G:∀x∈ss,Kh s.es x.a x.b)(W:Way s.es a)(hk:k<s.es.length)(e:(at_ s.es k).2=Ek s.es a)(h:Fz ss a b):Fz ss (k::a) (k::b):=by
 induction h with
 |refl=>exact .refl
 |step h0 U h2 ih =>
  have Z:=h0.bes G W;have R:=G _ U;refine ih.trans ?_;have c:=(C.put _ U k hk).1;rcases h2 with⟨rfl,rfl⟩|⟨rfl,rfl⟩
  .exact c (e.trans Z.st)
  .exact(c (e.trans (Z.st.trans R.st.symm))).symm
def asx{Z:Mk}(I:TI ss Z)(G:∀x∈ss,Kh es x.a x.b)(W:Way es w):Kh es w (mkOf Z w):=(aio I w).symm.bes G W
structure Rw(es:List Ar)(st:Nat)(mk:Mk)(cr:Nat->List (List Nat))(P:List Nat->Prop):Prop where
 nd:∀v,(cr v).Nodup
 el:∀v,∀u∈cr v,(u=[]/\v=st)\/(Way es u/\Ek es u=st/\yr es u=v/\mkOf mk u=u)
 nil:[]∈cr st
 all:∀w,P w->Way es w->Ek es w=st->mkOf mk w∈cr (yr es w)
noncomputable def Oc(l:List (List Nat))(u:Y3):Nat:=(l.map λf=>decide (f=u)).findIdx id
def Qu{l:List (List Nat)}{u:Y3}(h:u∈l):l[Oc l u]?=some u:=by
 induction l with
 |nil=>cases h
 |cons x l Z =>
  by_cases e:x=u
  .simp[Oc,List.findIdx_cons,e]
  .have h:u∈l:=by simpa[jh e] using h
   have:=Z h;have q:Oc (x::l) u=Oc l u+1:=by simp[Oc,List.findIdx_cons,e]
   rw[q];simpa using this
def adg{l:List (List Nat)}{u v:Y3}(h:u∈l)(k:v∈l)(e:Oc l u=Oc l v):u=v:=by have a:=Qu h;rw[e,Qu k] at a;exact(gj a).symm
def aiq{l:List (List Nat)}{u:Y3}(Z:l.Nodup)(h:l[i]?=some u):Oc l u=i:=Ft Z (Qu (bf h)) h
noncomputable def Wm(r:X9):D:=.tup (r.map D.int)
def acD(Z:List (List Int)):D:=.tup (Z.map Wm)
def afm(Z:List Ar)(U:Mk)(G:Nat->List (List Nat))(k:Nat):List Int:=(G (at_ Z k).1).map λu=>((Oc (G (at_ Z k).2) (mkOf U (u++[k])):Nat):Int)
def ax7(Z:List Ar)(G:Mk)(U:Nat->List (List Nat)):List (List Int):=(List.range Z.length).map (afm Z G U)
def bSz(Z:List Ar)(G:Nat->List (List Nat)):List Int:=(List.range (Dm Z+1)).map λv=>((G v).length:Int)
def amz{U:Mk}(R:Rw es st U cr P)(Z:k<es.length)(G:u∈cr (at_ es k).1):Way es (u++[k])/\Ek es (u++[k])=st/\yr es (u++[k])=(at_ es k).2:=by
 rcases R.el _ u G with⟨rfl,e⟩|⟨W,e1,e2,_⟩
 .exact⟨Way.one Z,e,rfl⟩
 .exact⟨W.app Z e2.symm,by rw[Kl W.ne];exact e1,Wf _ _⟩
def am0{Z:Mk}(R:Rw es st Z cr λ_=>True)(U:k<es.length)(G:u∈cr (at_ es k).1):mkOf Z (u++[k])∈cr (at_ es k).2:=by obtain⟨W,e1,e2⟩:=amz R U G;have:=R.all _ trivial W e1;rw[e2] at this;exact this
def adh(W:Way es w):Ek es w<=Dm es/\yr es w<=Dm es:=⟨(aa0 (Ol W.Nf)).1,(aa0 (Ol W.Nb)).2⟩
noncomputable def RV(Z n:Nat):List D:=(List.range n).map λi=>D.ref (Z+i)
abbrev EK(es:List Ar)(t st:Nat)(b3 b4 b5 b6 b7 b8 b9:Option D):Env:=[some (.tup (es.map aD)),sR t,sI st,b3,b4,b5,b6,b7,b8,b9]
def adi(Z:v<n):w5 (.vl (RV base n)) (.int (v:Nat)) M=some (.ref (base+v)) :=
 Ah rfl (qy _) (by simp[RV,Z])
def bs3(U:1<=m)(E:Ends es V):Bx.den (PW m) (EK es t st none none none none none none none) M=.ok (.vl (RV M.length (Dm es+1))) (M++List.replicate (Dm es+1) (.lst [])):=by
 unfold Bx;have tf:=ac7 E;have c:=ase (m:=m) (M:=M) (d:=.tup (es.map aD)) U E rfl;obtain⟨ys,M',e,rfl,rfl⟩:=Hb (W:=PW m) (v:=true) (k:=1) (n:=Dm es+1) (M1:=M) (t:=.name 10) (e:=.lst .z) (ρ:=EK es t st none none none none none none none) (M:=M) (it:=.call 25 (.o (.v 0))) (by simp[c]) (by lia)
  (λi G Z=>G=RV M.length i/\Z=M++List.replicate i (.lst [])) ⟨rfl,by simp⟩ (λi G Z hi R=>by
   obtain⟨rfl,rfl⟩:=R;refine⟨_,.ref (M.length+i),_,rfl,?_,by simp[RV,List.range_succ],rfl⟩;simp[MW.new,List.replicate_succ',wz])
 exact e
structure Rm(base n:Nat)(M:dj)(cr:Nat->List (List Nat)):Prop where
 g:∀v,v<n->M[base+v]?=some (.lst ((cr v).map cj))
noncomputable def Nq(Z:Nat->List (List Nat))(v:Nat)(u:Y3):Nat->List (List Nat):=λx=>if x=v then Z v++[u] else Z x
def adk(R:Rm base n M cr)(k:mz M Z):Rm base n Z cr:=⟨λv G=>k _ _ (R.g v G)⟩
def ais(R:Rm base n M cr)(G:v<n):Rm base n (M.set (base+v) (.lst ((cr v).map cj++[cj u]))) (Nq cr v u):=⟨λx Z=>by
 by_cases e:x=v
 .subst e;rw[o6 (R.g x Z)];simp[Nq]
 .rw[jc (by lia),R.g x Z];simp[Nq,e]⟩
def bs1{mk:Mk}(hm:2<=m)(E:Ends s.es V)(A:Ts s ws t p q M ss mk)(qk:st<=Dm s.es)(R:Rm M.length (Dm s.es+1) M1 cr)(Q:Rw s.es st mk cr λ_=>False)(l1:M.length+(Dm s.es+1)=M1.length)(k1:mz M M1)(hc:∀v,(cr v).length<=1) :
 ∃b4 b5 G M',Bw.den (PW m) (EK s.es t st (some (.vl (RV M.length (Dm s.es+1)))) none none none none none none) M1=.ok (.next,EK s.es t st (some (.vl (RV M.length (Dm s.es+1)))) b4 b5 none none none none) M'/\Rm M.length (Dm s.es+1) M' G/\Rw s.es st mk G (λ_=>True)/\mz M M'/\M1.length<=M'.length/\∀v,(G v).length<=61:=by
 unfold Bw;obtain⟨us,M2,e2,g2,n2,k2,w2,a2⟩:=ain (m:=m) (M:=M1) hm E;obtain⟨qq,M',e,b4,b5,G,rfl,R',Q',K',l',-,n'⟩:=vf (W:=PW m) (it:=.call 13 (.o (.v 0))) (t:=.name 4) (b:=uz) (ρ:=EK s.es t st (some (.vl (RV M.length (Dm s.es+1)))) none none none none none none) (M:=M1) (M1:=M2) (d:=.ref M1.length) (by simp[e2]) (iu g2)
  (λi ρ M3=>∃(b4 b5:Option D)(G:Nat->List (List Nat)),ρ=EK s.es t st (some (.vl (RV M.length (Dm s.es+1)))) b4 b5 none none none none/\Rm M.length (Dm s.es+1) M3 G/\Rw s.es st mk G (λw=>w∈us.take i)/\mz M M3/\M1.length<=M3.length/\M3[M1.length]?=some (.lst (us.map cj))/\∀v,(G v).length<=i+1)
  ⟨none,none,cr,rfl,adk R k2,⟨Q.nd,Q.el,Q.nil,λw hw=>by simp at hw⟩,mz.trans k1 k2,mz.len k2,g2,hc⟩
  (λi ρ M3 h=>by obtain⟨_,_,_,_,_,_,_,_,g,_⟩:=h;exact iu g)
  (λi x ρ M3 hx hI=>by
   obtain⟨b4,b5,G,rfl,R3,U,K3,l3,g3,n3⟩:=hI;obtain⟨w,hi,rfl⟩:∃w,us[i]?=some w/\cj w=x:=by simpa using hx
   have il:=(ak.mp hi).1;have W:=w2 w (bf hi);have vt:yr s.es w<Dm s.es+1:=Nat.lt_succ_of_le (adh W).2
   have v1:=Oj (m:=m) (M:=M3) (d:=.tup (s.es.map aD)) (by lia) rfl W;have v2:=Rt (m:=m) (M:=M3) (d:=.tup (s.es.map aD)) (by lia) rfl W;have rv:=adi (M:=M3) (base:=M.length) vt;have A3:=Np A K3;have mo:=Nk (m:=m) (w:=w) (by lia) A3.T;have j:=A3.T.i;have tk:∀z,z∈us.take (i+1)->z∈us.take i\/z=w:=λz hz=>by
    rw[jd,hi] at hz;rcases cg.mp hz with r|r
    .exact .inl r
    .exact .inr (by simpa using r)
   by_cases c:Ek s.es w=st
   .have me:=asf (a:=cj (mkOf mk w)) (R3.g _ vt)
    rw[ami] at me
    by_cases d:mkOf mk w∈G (yr s.es w)
    .refine⟨_,.next,EK s.es t st (some (.vl (RV M.length (Dm s.es+1)))) (some (cj w)) (sR (M.length+yr s.es w)) none none none none,M3,rfl,?_,.inl rfl,_,_,G,rfl,R3,⟨U.nd,U.el,U.nil,λz hz Z e=>?_⟩,K3,l3,g3,λv=>by have:=n3 v;lia⟩
     .show uz.den (PW m) (EK s.es t st (some (.vl (RV M.length (Dm s.es+1)))) (some (cj w)) b5 none none none none) M3=_
      simp[uz,v1,v2,rv,c,n8,um,j,Kr,List.lookup,mo,me,d,xg]
     .rcases tk z hz with r|rfl
      .exact U.all z r Z e
      .exact d
    .have ap:=Bl (d:=cj (mkOf mk w)) (R3.g _ vt) (by have:=n3 (yr s.es w);simp;lia)
     have B:=asx A.I A.b W;refine⟨_,.next,EK s.es t st (some (.vl (RV M.length (Dm s.es+1)))) (some (cj w)) (sR (M.length+yr s.es w)) none none none none,_,rfl,?_,.inl rfl,_,_,Nq G (yr s.es w) (mkOf mk w),rfl,ais (u:=mkOf mk w) R3 vt,⟨λv=>?_,λv u hu=>?_,?_,λz hz Z e=>?_⟩,mz.set K3 (by lia),by simpa using l3,by rw[jc (by lia)];exact g3,λv=>?_⟩
     .show uz.den (PW m) (EK s.es t st (some (.vl (RV M.length (Dm s.es+1)))) (some (cj w)) b5 none none none none) M3=_
      simp[uz,v1,v2,rv,c,n8,um,j,Kr,List.lookup,mo,me,d,xg,Ep (R3.g _ vt),ap]
     .unfold Nq
      by_cases r:v=yr s.es w
      .rw[bh r]
       exact n6.mpr ⟨U.nd _,by simp,λa ha b hb q=>by simp at hb;subst hb;subst q;exact d ha⟩
      .rw[bj r];exact U.nd v
     .unfold Nq at hu
      by_cases r:v=yr s.es w
      .rw[bh r] at hu
       rcases cg.mp hu with x|x
       .exact r▸U.el _ u x
       .have x:u=mkOf mk w:=by simpa using x
        subst x;exact .inr ⟨B.two,B.st.symm.trans c,B.go.symm.trans r.symm,A.I.id w⟩
      .rw[bj r] at hu;exact U.el v u hu
     .unfold Nq
      split
      .next r=>exact ji _ (r▸U.nil)
      .exact U.nil
     .unfold Nq
      rcases tk z hz with r|rfl
      .have:=U.all z r Z e
       split
       .next q=>rw[<- q];exact ji _ this
       .exact this
      .simp
     .unfold Nq
      have:=n3 v;have:=n3 (yr s.es w);split<;>simp<;>lia
   .refine⟨_,.next,EK s.es t st (some (.vl (RV M.length (Dm s.es+1)))) (some (cj w)) (sR (M.length+yr s.es w)) none none none none,M3,rfl,?_,.inl rfl,_,_,G,rfl,R3,⟨U.nd,U.el,U.nil,λz hz Z e=>?_⟩,K3,l3,g3,λv=>by have:=n3 v;lia⟩
    .show uz.den (PW m) (EK s.es t st (some (.vl (RV M.length (Dm s.es+1)))) (some (cj w)) b5 none none none none) M3=_
     simp[uz,v1,v2,rv,c,n8,um,xg]
    .rcases tk z hz with r|rfl
     .exact U.all z r Z e
     .exact absurd e c)
 simp only[dg,jr] at Q' n';exact⟨b4,b5,G,M',e,R',⟨Q'.nd,Q'.el,Q'.nil,λw _ W=>Q'.all w (a2 w W) W⟩,K',l',λv=>by have:=n' v;lia⟩
theorem Yu{u:Y3}:∀{l:List (List Nat)},u∈l->(l.map λf=>decide (f=u)).findIdx? id=some (Oc l u)
 |[],h=>by cases h
 |x::l,h=>by
  by_cases e:x=u
  .simp[Oc,List.findIdx?_cons,List.findIdx_cons,e]
  .have h:u∈l:=by simpa[jh e] using h
   have:=Yu h;simp[Oc,List.findIdx?_cons,List.findIdx_cons,e];simpa[Oc,iz] using this
def ax8(h:M[n]?=some (.lst Z)):Iz .index (.ref n) M=true:=by simp[Iz,d8,h]
def ax9(h:M[n]?=some (.lst (l.map cj)))(Z:u∈l):Bj .index (.ref n) [cj u] M=.ok (.int (Oc l u:Nat)) M:=by simp only[Bj,Ga,iu h,wg,aro,V7,Yu Z,m8,Res.uw]
def bs0{Z:Mk}(hm:1<=m)(E:Ends s.es V)(L:Rx s.es ws)(A:Ts s ws t p q M ss Z)(R:Rm M.length (Dm s.es+1) U cr)(Q:Rw s.es st Z cr λ_=>True)(k1:mz M U)(hp:U[z]?=some (.lst []))(hz:M.length+(Dm s.es+1)<=z)(hn:∀v,(cr v).length<=61) :
 ∃b7 b8 G M',Bv.den (PW m) (EK s.es t st (some (.vl (RV M.length (Dm s.es+1)))) b4 b5 (sR z) none none none) U=.ok (.next,EK s.es t st (some (.vl (RV M.length (Dm s.es+1)))) b4 b5 (sR z) b7 b8 G) M'/\Rm M.length (Dm s.es+1) M' cr/\mz M M'/\M'[z]?=some (.lst ((ax7 s.es Z cr).map Wm)):=by
 unfold Bv;have ef:=E.few;obtain⟨qq,M',e,b7,b8,G,rfl,R',K',g'⟩:=Jf (W:=PW m) (it:=.v 0) (t:=.names [7,8]) (b:=zy) (ρ:=EK s.es t st (some (.vl (RV M.length (Dm s.es+1)))) b4 b5 (sR z) none none none) (M:=U) (M1:=U) (ds:=s.es.map aD) rfl
  (λi ρ M2=>∃b7 b8 G:Option D,ρ=EK s.es t st (some (.vl (RV M.length (Dm s.es+1)))) b4 b5 (sR z) b7 b8 G/\Rm M.length (Dm s.es+1) M2 cr/\mz M M2/\M2[z]?=some (.lst (((List.range i).map (afm s.es Z cr)).map Wm)))
  ⟨none,none,none,rfl,R,k1,by simpa using hp⟩
  (λi y ρ M2 hy hI=>by
   obtain⟨b7,b8,G,rfl,R2,K2,g2⟩:=hI;have hi:i<s.es.length:=by simpa using(ak.mp hy).1
   have ex:y=aD (at_ s.es i):=by simpa[Pj hi] using hy.symm
   subst ex;have tp:=aa0 (Ol hi);have v1:(at_ s.es i).1<Dm s.es+1:=by lia
   have v2:(at_ s.es i).2<Dm s.es+1:=by lia
   have r1:=adi (M:=M2) (base:=M.length) v1;have r2:=adi (M:=M2) (base:=M.length) v2;have A2:=Np A K2;have j:=A2.T.i;have c2:Bu.den (PW m) (EK s.es t st (some (.vl (RV M.length (Dm s.es+1)))) b4 b5 (sR z) (sI i) (some (aD (at_ s.es i))) (sR (M.length+(at_ s.es i).2))) M2=.ok (.vl ((afm s.es Z cr i).map D.int)) M2:=by
    unfold Bu;rw[Gz (d:=.ref (M.length+(at_ s.es i).1)) (M1:=M2) (xs:=cr (at_ s.es i).1) (f:=cj) (g:=λu=>.int (Oc (cr (at_ s.es i).2) (mkOf Z (u++[i])):Nat)) (by simp[Pn,r1]) (Dp (iu (R2.g _ v1))) (by have:=hn (at_ s.es i).1;lia) (λu hu=>⟨_,rfl,by
     have mo:=Nk (m:=m) (w:=u++[i]) hm A2.T;have ul:u.length<1000:=by
      rcases Q.el _ u hu with⟨rfl,_⟩|⟨W,_⟩
      .simp
      .have:=Bf E W;lia
     have ra:zq .add (cj u) (.tup [.int i]) M2=.ok (cj (u++[i])) M2:=Dq _ _ ul;simp[ax8 (R2.g _ v2),j,Kr,List.lookup,ra,mo,ax9 (R2.g _ v2) (am0 Q hi hu)]⟩)]
    simp[afm,gh,iz]
   have ap:=Bl (d:=Wm (afm s.es Z cr i)) g2 (by simp;lia);refine⟨_,.next,EK s.es t st (some (.vl (RV M.length (Dm s.es+1)))) b4 b5 (sR z) (sI i) (some (aD (at_ s.es i))) (sR (M.length+(at_ s.es i).2)),M2.set z (.lst (((List.range (i+1)).map (afm s.es Z cr)).map Wm)),rfl,?_,.inl rfl,_,_,_,rfl,⟨λv hv=>by rw[jc (by lia)];exact R2.g v hv⟩,mz.set K2 (by lia),o6 g2⟩;show zy.den (PW m) (EK s.es t st (some (.vl (RV M.length (Dm s.es+1)))) b4 b5 (sR z) (sI i) (some (aD (at_ s.es i))) G) M2=_;unfold Wm at ap;simp only[zy];simp[-List.map_map,Uu,r2,Ep g2,c2,aa2,ap,List.range_succ];rfl)
 rw[dg] at g';exact⟨b7,b8,G,M',e,R',K',g'⟩
def ait{R:Mk}(hm:3<=m)(h:Al s V)(L:Rx s.es ws)(A:Ts s ws t p q M ss R) :
 ∃zs qq M',prog.call m 24 [.tup (s.es.map aD),.ref t,.int (Ek s.es s.a)] M=.ok (.tup [sD "breaks",Wm zs,acD qq]) M'/\mz M M':=by
 rw[call_of (bw (by decide) hm) rfl];have W:=h.aim.one;have st:=(adh W).1;have U:Ek s.es s.a<Dm s.es+1:=by lia
 have tf:=ac7 h.E;have e3:=bs3 (m:=m-1) (t:=t) (st:=Ek s.es s.a) (M:=M) (by lia) h.E;have R0:Rm M.length (Dm s.es+1) (M++List.replicate (Dm s.es+1) (.lst [])) (λ_=>[]):=⟨λv hv=>by rw[ou (by lia)];simp[hv]⟩;have R1:=ais (u:=[]) R0 U;have ap:=Bl (d:=cj []) (R0.g _ U) (by simp);have Q1:Rw s.es (Ek s.es s.a) R (Nq (λ_=>[]) (Ek s.es s.a) []) λ_=>False:=by
  refine⟨λv=>?_,λv u Z=>?_,by simp[Nq],λ_ f=>f.elim⟩
  .unfold Nq;split<;>simp
  .unfold Nq at Z
   split at Z
   .next q=>exact .inl ⟨by simpa using Z,q⟩
   .cases Z
 generalize hM1:(M++List.replicate (Dm s.es+1) (MO.lst [])).set (M.length+Ek s.es s.a) (.lst (([]:List (List Nat)).map cj++[cj []]))=M1 at ap R1;have k1:mz M M1:=hM1▸mz.set (mz.app _ _) (by lia);have l1:M.length+(Dm s.es+1)=M1.length:=by rw[<- hM1];simp
 obtain⟨b4,b5,G,M2,e2,R2,Q2,K2,l2,n2⟩:=bs1 (m:=m-1) (by lia) h.E A st R1 Q1 l1 k1 (λv=>by unfold Nq;split<;>simp);have R3:=adk R2 (mz.app M2 [.lst []]);obtain⟨b7,b8,b9,M4,e4,R4,K4,g4⟩:=bs0 (m:=m-1) (b4:=b4) (b5:=b5) (by lia) h.E L A R3 Q2 (mz.trans K2 (mz.app _ _)) yw (by lia) n2;refine⟨bSz s.es G,ax7 s.es R G,M4,?_,K4⟩
 .have c1:Bt.den (PW (m-1)) (EK s.es t (Ek s.es s.a) (some (.vl (RV M.length (Dm s.es+1)))) b4 b5 (sR M2.length) b7 b8 b9) M4=.ok (.vl ((List.range (Dm s.es+1)).map λv=>.int (G v).length)) M4:=by
   unfold Bt;rw[Gz (d:=.vl (RV M.length (Dm s.es+1))) (M1:=M4) (xs:=List.range (Dm s.es+1)) (f:=λi=>.ref (M.length+i)) (g:=λv=>.int (G v).length) rfl rfl (by simp;lia) (λv hv=>⟨_,rfl,by
    have:=len_list (iu (R4.g v (km.mp hv)));rw[dg] at this;simp[this]⟩)]
   rfl
  have rv:=adi (M:=M++List.replicate (Dm s.es+1) (.lst [])) (base:=M.length) U;have em:D.tup []=cj []:=rfl;simp only[Fn.run,Ie,Ib];simp[e3,rv,Ep (R0.g _ U),em,ap,e2,MW.new,e4,c1,aa2,ac8 g4];simp[sD,Wm,acD,bSz,gh,iz]
def Jd(s:Pk)(d:D):Prop:=((∃x,d=.tup [sD "holds",x])/\So s s.a s.b)\/(∃x y,d=.tup [sD "breaks",x,y])/\¬So s s.a s.b
def Lr(h:Al s V)(d:So s a b):Way s.es a\/Way s.es b->Kh s.es a b:=by
 induction d with
 |refl=>intro W;have W:=W.elim id id;exact⟨W,W,rfl,rfl⟩
 |symm _ Z=>intro W;have B:=Z W.symm;exact⟨B.two,B.one,B.st.symm,B.go.symm⟩
 |trans _ _ R U =>
  intro W;rcases W with W|W
  .have B:=R (.inl W)
   have C:=U (.inl B.two);exact⟨W,C.two,B.st.trans C.st,B.go.trans C.go⟩
  .have C:=U (.inr W)
   have B:=R (.inr C.one);exact⟨B.one,W,B.st.trans C.st,B.go.trans C.go⟩
 |same hg=>intro _;exact h.gs _ hg|app _ W G e Z=>intro _;exact(Z (.inl W)).app G e|cons _ W G e Z=>intro _;exact(Z (.inl W)).cons G e|off _ B _ _ _ _=>intro _;exact B
def asy(h:Al s V)(R:∀x∈ss,Kh s.es x.a x.b)(C:Clo s ss)(d:So s a b):Way s.es a\/Way s.es b->Fz ss a b:=by
 induction d with
 |refl=>intro _;exact .refl|symm _ Z=>intro W;exact(Z W.symm).symm
 |trans d1 d2 i1 i2 =>
  intro W;rcases W with W|W
  .have B:=Lr h d1 (.inl W)
   exact(i1 (.inl W)).trans (i2 (.inl B.two))
  .have B:=Lr h d2 (.inr W)
   exact(i1 (.inr B.one)).trans (i2 (.inr W))
 |same U=>intro _;exact C.same _ _ U|app _ W G e Z=>intro _;exact asw C R W G e (Z (.inl W))|cons _ W G e Z=>intro _;exact amy C R W G e (Z (.inl W))|off d B G e U Z=>intro _;exact C.off _ U _ _ B.one B.two e.symm (B.go.symm.trans e.symm) (Z (.inl (B.one.app G e)))
def Oo(hm:7<=m)(h:Al s V):∃d M',prog.call m 23 [s.toD] M=.ok d M'/\mz M M'/\Jd s d:=by
 rw[call_of (bw (by decide) hm) rfl];obtain⟨ws,_,_,_,L,_⟩:=Wc (m:=1) (M:=[]) (d:=.tup (s.es.map aD)) (by lia) h.E rfl;obtain⟨M1,G,k1⟩:=ah4 (m:=m-1) (M:=M) (by lia) h;obtain⟨p,q,ss,mk,R,U,A,C,k2⟩:=aa5 (m:=m-1) (M:=M1) (by lia) h L;have e3:=ade (m:=m-1) (a:=s.a) (b:=s.b) (by lia) A.T;have i0:∀M,w5 s.toD (.int 0) M=some (.tup (s.es.map aD)):=λM=>Dj _ _
 have i2:∀M,w5 s.toD (.int 2) M=some (.tup [cj s.a,cj s.b]):=λM=>acp _ _ _ _
 have j:=A.T.i;simp only[Fn.run,Yj,Yi]
 by_cases c:mkOf mk s.a=mkOf mk s.b
 .refine⟨_,R,?_,mz.trans k1 k2,.inl ⟨⟨.tup (ss.map Sp.toD),rfl⟩,So.Ys A.o ((A.I.Ys _ _).mp c)⟩⟩
  simp[G,U,i2,j,Kr,List.lookup,e3,c,adb A.T,ac8 A.T.s,sD]
 .obtain⟨zs,Z,M3,e4,k4⟩:=ait (m:=m-1) (by lia) h L A
  have w:=Rt (m:=m-1) (M:=R) (d:=.tup (s.es.map aD)) (by lia) rfl h.aim.one;refine⟨_,M3,?_,mz.trans (mz.trans k1 k2) k4,.inr ⟨⟨Wm zs,acD Z,rfl⟩,λd=>c ((A.I.Ys _ _).mpr (asy h A.b C d (.inl h.aim.one)))⟩⟩;simp[G,U,i0,i2,j,Kr,List.lookup,e3,c,w,e4]
def Ko(Z:List (List Nat))(f:List Nat->Nat):List (List Kx×D):=Z.map λw=>(kx w,nD (f w))
def aya{Z:List (List Nat)}(f:List Nat->Nat)(h:w∈Z):Ac (Ko Z f) (kx w)=some (nD (f w)):=by
 unfold Ac Ko
 induction Z with
 |nil=>cases h
 |cons x Z G =>
  simp only[cz,jw,Wi]
  by_cases e:x=w
  .simp[e]
  .simp only[e,decide_false]
   exact G (by simpa[jh e] using h)
def ayb{Z:List (List Nat)}(f:List Nat->Nat)(h:w∉Z):Ac (Ko Z f) (kx w)=none:=by
 unfold Ac Ko
 induction Z with
 |nil=>rfl
 |cons x Z G =>
  simp only[cz,jw,Wi];have e:¬x=w:=λe=>h (e▸bz)
  simp only[e,decide_false];exact G λq=>h (bu _ q)
noncomputable def upF(f:List Nat->Nat)(w:Y3)(v:Nat):List Nat->Nat:=λx=>if x=w then v else f x
def ayc{Z:List (List Nat)}(f:List Nat->Nat)(h:w∈Z)(v:Nat):Mf (Ko Z f) (kx w) (nD v)=Ko Z (upF f w v):=by
 have e:((Ko Z f).any λkv=>decide (kv.1=kx w))=true:=by rw[List.any_eq_true];exact⟨(kx w,nD (f w)),dq.mpr ⟨w,h,rfl⟩,by simp⟩
 unfold Mf;rw[bh e];unfold Ko;rw[gh];refine j5 λx _=>?_
 show(if kx x=kx w then(kx x,nD v) else(kx x,nD (f x)))=(kx x,nD (upF f w v x))
 by_cases q:x=w
 .simp[q,upF]
 .have:¬kx x=kx w:=λz=>q (Rz z)
  simp[q,this,upF]
def Oq{Z:List (List Nat)}(h:M[r]?=some (.dT (Ko Z f)))(hw:w∈Z):w5 (.ref r) (cj w) M=some (.int (f w:Nat)):=by rw[aqk h (Ae _),aya f hw];rfl
def ayd{Z:List (List Nat)}(h:M[r]?=some (.dT (Ko Z f))):Iu M (cj w) (.ref r)=some (decide (w∈Z)):=by
 simp only[Iu,h,Ae,m8]
 by_cases q:w∈Z
 .simp[aya f q,q]
 .simp[ayb f q,q]
noncomputable def mrg(f:List Nat->Nat)(Z G:Nat):List Nat->Nat:=λx=>if f x=G then Z else f x
abbrev EM(s:Pk)(u r:Nat)(b6 b7 b8 b9 b10 Yv:Option D):Env:=[some s.toD,some (.tup (s.es.map aD)),some (.tup (s.gs.map Gn.toD)),some (.tup [cj s.a,cj s.b]),sR u,sR r,b6,b7,b8,b9,b10,Yv]
def mk2{G:List (List Nat)}(hu:M[u]?=some (.lst (G.map cj)))(hr:M[r]?=some (.dT (Ko G f)))(nd:G.Nodup)(hl:G.length<=60)(ne:u≠r){lo hi:Nat} :
 ∃Z M',Fi.den (PW m) (EM s u r b6 b7 b8 (sI lo) (sI hi) Yv) M=.ok (.next,EM s u r b6 b7 b8 (sI lo) (sI hi) Z) M'/\M'[r]?=some (.dT (Ko G (mrg f lo hi)))/\Ii r M M':=by
 unfold Fi;obtain⟨qq,M',e,Z,g,rfl,h1,h2,h3⟩:=vf (W:=PW m) (it:=.v 4) (t:=.name 11) (b:=zf) (ρ:=EM s u r b6 b7 b8 (sI lo) (sI hi) Yv) (M:=M) (M1:=M) (d:=.ref u) rfl (iu hu)
  (λi ρ U=>∃(Z:Option D)(g:List Nat->Nat),ρ=EM s u r b6 b7 b8 (sI lo) (sI hi) Z/\U[r]?=some (.dT (Ko G g))/\Ii r M U/\∀w,g w=if w∈G.take i/\f w=hi then lo else f w)
  ⟨Yv,f,rfl,hr,Ii.refl _ _,λw=>by simp⟩
  (λi ρ U h=>by obtain⟨_,_,_,_,k,_⟩:=h;exact iu (k _ _ ne hu))
  (λi x ρ U hx hI=>by
   obtain⟨Z,g,rfl,g1,g2,g3⟩:=hI;obtain⟨w,R,rfl⟩:∃w,G[i]?=some w/\cj w=x:=by simpa using hx
   have hw:=bf R;have nt:w∉G.take i:=λq=>by
    obtain⟨j,hj⟩:=iy.mp q;rw[List.getElem?_take] at hj;split at hj
    .next hji=>have:=Ft nd R hj;lia
    .cases hj
   have gw:g w=f w:=by rw[g3];simp[nt]
   have x1:=Oq g1 hw;rw[gw] at x1;have tk:∀z,z∈G.take (i+1)↔z∈G.take i\/z=w:=λz=>by rw[jd,R];simp
   by_cases c:f w=hi
   .refine⟨_,.next,EM s u r b6 b7 b8 (sI lo) (sI hi) (some (cj w)),U.set r (.dT (Ko G (upF g w lo))),rfl,?_,.inl rfl,_,upF g w lo,rfl,o6 g1,g2.trans (Ii.set _ _ _),λz=>?_⟩
    .show zf.den (PW m) (EM s u r b6 b7 b8 (sI lo) (sI hi) (some (cj w))) U=_
     have st:=V4 (d:=.int (lo:Nat)) g1 (Ae w) (by simp[Ko];lia);rw[show(D.int (lo:Nat))=nD lo from rfl,ayc g hw] at st;have st:setOp (.ref r) (cj w) (.int (lo:Nat)) U=_:=st;simp[zf,x1,n8,um,c,st]
    .unfold upF
     by_cases q:z=w
     .subst q;rw[bh rfl,bh ⟨(tk z).mpr (.inr rfl),c⟩]
     .rw[bj q,g3 z]
      simp[tk,q]
   .refine⟨_,.next,EM s u r b6 b7 b8 (sI lo) (sI hi) (some (cj w)),U,rfl,?_,.inl rfl,_,g,rfl,g1,g2,λz=>?_⟩
    .show zf.den (PW m) (EM s u r b6 b7 b8 (sI lo) (sI hi) (some (cj w))) U=_
     simp[zf,x1,n8,um,c]
    .rw[g3 z]
     by_cases q:z=w
     .subst q;simp[c]
     .simp[tk,q])
 refine⟨Z,M',e,?_,h2⟩;rw[h1]
 congr 2
 unfold Ko;refine j5 λw hw=>?_
 rw[h3 w,dg,jr];simp[mrg,hw]
noncomputable def Ph(Z:List (List Nat))(f:List Nat->Nat):Nat:=(Z.map f).sum
theorem aa7{f g:List Nat->Nat}:∀{ws:List (List Nat)},(∀w∈ws,g w<=f w)->Ph ws g<=Ph ws f
 |[],_=>az _
 |w::ws,h=>by
  have a:=aa7 (ws:=ws) λx Z=>h x (bu _ Z)
  have b:=h w bz;simp only[Ph,cz,vm] at a ⊢;lia
theorem aa8{f g:List Nat->Nat}:∀{ws:List (List Nat)},(∀w∈ws,g w<=f w)->w∈ws->g w<f w->Ph ws g<Ph ws f
 |[],_,m,_=>by cases m
 |x::ws,h,m,l=>by
  have b:=h x bz;have a:=aa7 (ws:=ws) λx Z=>h x (bu _ Z)
  simp only[Ph,cz,vm] at a ⊢;rcases dh.mp m with rfl|m
  .lia
  .have:=aa8 (ws:=ws) (λx Z=>h x (bu _ Z)) m l
   simp only[Ph] at this
   lia
def Sn(s:Pk)(Z:List (List Nat))(f:List Nat->Nat):Prop:=∀a∈Z,∀b∈Z,f a=f b->So s a b
noncomputable def lo2(x y:Nat):Nat:=if y<x then y else x
noncomputable def hi2(x y:Nat):Nat:=if x<y then y else x
def am1(x y:Nat):(lo2 x y=x/\hi2 x y=y/\x<=y)\/(lo2 x y=y/\hi2 x y=x/\y<=x):=by
 unfold lo2 hi2
 by_cases h:x<y
 .exact .inl ⟨bj (by lia),bh h,by lia⟩
 .by_cases q:y<x
  .exact .inr ⟨bh q,bj h,by lia⟩
  .have:x=y:=by lia
   subst this;simp
def aa9(h:lo<=Z)(w:Y3):mrg f lo Z w<=f w:=by unfold mrg;split<;>lia
def as3{ws:List (List Nat)}(S:Sn s ws f)(U:a∈ws)(R:b∈ws)(d:So s a b):Sn s ws (mrg f (lo2 (f a) (f b)) (hi2 (f a) (f b))):=λx Z y G e=>by
 unfold mrg at e;rcases am1 (f a) (f b) with⟨h1,h2,_⟩|⟨h1,h2,_⟩
 .rw[h1,h2] at e
  by_cases p:f x=f b<;>by_cases q:f y=f b
  .exact(S x Z b R p).trans (S b R y G q.symm)
  .rw[bh p,bj q] at e
   exact((S x Z b R p).trans d.symm).trans (S a U y G e)
  .rw[bj p,bh q] at e
   exact((S x Z a U e).trans d).trans (S b R y G q.symm)
  .rw[bj p,bj q] at e
   exact S x Z y G e
 .rw[h1,h2] at e
  by_cases p:f x=f a<;>by_cases q:f y=f a
  .exact(S x Z a U p).trans (S a U y G q.symm)
  .rw[bh p,bj q] at e
   exact((S x Z a U p).trans d).trans (S b R y G e)
  .rw[bj p,bh q] at e
   exact((S x Z b R e).trans d.symm).trans (S a U y G q.symm)
  .rw[bj p,bj q] at e
   exact S x Z y G e
def as4(f:List Nat->Nat)(a b:Y3):mrg f (lo2 (f a) (f b)) (hi2 (f a) (f b)) a=mrg f (lo2 (f a) (f b)) (hi2 (f a) (f b)) b:=by
 unfold mrg;rcases am1 (f a) (f b) with⟨G,Z,_⟩|⟨G,Z,_⟩
 .rw[G,Z];by_cases q:f a=f b<;>simp[q]
 .rw[G,Z];by_cases q:f b=f a<;>simp[q]
def as5(x y:Nat):v9 .min [.int (x:Nat),.int (y:Nat)] M=.ok (.int (lo2 x y:Nat)) M:=by
 show Res.ok (D.int (if(y:Int)<(x:Int) then(y:Int) else(x:Int))) M=_;unfold lo2
 by_cases h:y<x
 .rw[bh (m_ h),bh h]
 .rw[bj (by lia),bj h]
def as6(x y:Nat):v9 .max [.int (x:Nat),.int (y:Nat)] M=.ok (.int (hi2 x y:Nat)) M:=by
 show Res.ok (D.int (if(x:Int)<(y:Int) then(y:Int) else(x:Int))) M=_;unfold hi2
 by_cases h:x<y
 .rw[bh (m_ h),bh h]
 .rw[bj (by lia),bj h]
def mk1{ws:List (List Nat)}{J:List (List Nat×List Nat)}(hu:M[u]?=some (.lst (ws.map cj)))(hr:M[r]?=some (.dT (Ko ws f)))(nd:ws.Nodup)(hl:ws.length<=60)(ne:u≠r)(hd:d8 M d=some (J.map pD))(qk:Ja r d=true)(hJ:∀p∈J,p.1∈ws/\p.2∈ws/\So s p.1 p.2)(S:Sn s ws f) :
 ∃g c7 c8 U G Z M',Fj.den (PW m) (EM s u r (some d) b7 b8 b9 b10 Yv) M=.ok (.next,EM s u r (some d) c7 c8 U G Z) M'/\M'[r]?=some (.dT (Ko ws g))/\Ii r M M'/\Sn s ws g/\Ph ws g<=Ph ws f/\(∀a b,f a=f b->g a=g b)/\(∀p∈J,g p.1=g p.2)/\∀p,J[0]?=some p->f p.1≠f p.2->Ph ws g<Ph ws f:=by
 unfold Fj;obtain⟨qv,M',e,g,c7,c8,U,G,Z,rfl,h1,h2,h3,h4,h5,h6,h7⟩:=vf (W:=PW m) (it:=.v 6) (t:=.names [7,8]) (b:=Ce) (ρ:=EM s u r (some d) b7 b8 b9 b10 Yv) (M:=M) (M1:=M) (d:=d) rfl hd
  (λi ρ M1=>∃(g:List Nat->Nat)(c7 c8 U G Z:Option D),ρ=EM s u r (some d) c7 c8 U G Z/\M1[r]?=some (.dT (Ko ws g))/\Ii r M M1/\Sn s ws g/\Ph ws g<=Ph ws f/\(∀a b,f a=f b->g a=g b)/\(∀p∈J.take i,g p.1=g p.2)/\(0<i->∀p,J[0]?=some p->f p.1≠f p.2->Ph ws g<Ph ws f)/\(i=0->g=f))
  ⟨f,b7,b8,b9,b10,Yv,rfl,hr,Ii.refl _ _,S,az _,λ_ _ h=>h,by simp,λh=>absurd h (lg _),λ_=>rfl⟩
  (λi ρ M1 h=>by obtain⟨_,_,_,_,_,_,_,_,k,_⟩:=h;exact k.d8 qk hd)
  (λi x ρ M1 hx hI=>by
   obtain⟨g,c7,c8,U,G,Z,rfl,g1,g2,g3,g4,g5,g6,g7,g8⟩:=hI;obtain⟨p,hi,rfl⟩:∃p,J[i]?=some p/\pD p=x:=by simpa using hx
   obtain⟨pa,pb,po⟩:=hJ p (bf hi);have x1:=Oq g1 pa;have x2:=Oq g1 pb;obtain⟨qq,M2,e2,k2,B2⟩:=mk2 (m:=m) (s:=s) (b6:=some d) (b7:=some (cj p.1)) (b8:=some (cj p.2)) (Yv:=Z) (lo:=lo2 (g p.1) (g p.2)) (hi:=hi2 (g p.1) (g p.2)) (g2 _ _ ne hu) g1 nd hl ne;have ll:lo2 (g p.1) (g p.2)<=hi2 (g p.1) (g p.2):=by rcases am1 (g p.1) (g p.2) with⟨R,q2,q3⟩|⟨R,q2,q3⟩<;>rw[R,q2]<;>exact q3
   have le:=aa7 (ws:=ws) (f:=g) (g:=mrg g (lo2 (g p.1) (g p.2)) (hi2 (g p.1) (g p.2))) λw _=>aa9 ll w
   have mono:∀a b,g a=g b->mrg g (lo2 (g p.1) (g p.2)) (hi2 (g p.1) (g p.2)) a=mrg g (lo2 (g p.1) (g p.2)) (hi2 (g p.1) (g p.2)) b:=λa b e=>by unfold mrg;rw[e]
   refine⟨_,.next,EM s u r (some d) (some (cj p.1)) (some (cj p.2)) (sI (lo2 (g p.1) (g p.2):Nat)) (sI (hi2 (g p.1) (g p.2):Nat)) qq,M2,rfl,?_,.inl rfl,_,_,_,_,_,_,rfl,k2,g2.trans B2,as3 g3 pa pb po,bw le g4,λa b e=>mono a b (g5 a b e),λz hz=>?_,λ_ z hz hn=>?_,λh=>by lia⟩
   .show Ce.den (PW m) (EM s u r (some d) (some (cj p.1)) (some (cj p.2)) U G Z) M1=_
    simp only[Ce];simp[x1,x2,as5,as6,e2]
   .rw[jd,hi] at hz
    rcases cg.mp hz with q|q
    .exact mono _ _ (g6 z q)
    .have q:z=p:=by simpa using q
     subst q;exact as4 g z.1 z.2
   .by_cases q:i=0
    .subst q
     rw[hi] at hz;cases hz;have:=g8 rfl;subst this;rcases am1 (g p.1) (g p.2) with⟨R,q2,q3⟩|⟨R,q2,q3⟩
     .exact aa8 (w:=p.2) (λw _=>aa9 ll w) pb (by unfold mrg;rw[q2,bh rfl,R];lia)
     .exact aa8 (w:=p.1) (λw _=>aa9 ll w) pa (by unfold mrg;rw[q2,bh rfl,R];lia)
    .exact qz le (g7 (by lia) z hz hn))
 simp only[dg,jr] at h6 h7;refine⟨g,c7,c8,U,G,Z,M',e,h1,h2,h3,h4,h5,h6,λp hp hn=>h7.1 ?_ p hp hn⟩;exact(ak.mp hp).1
abbrev EN(s:Pk)(u r z:Nat)(b6 b7 b8:Option D):Env:=[some (.tup (s.es.map aD)),some (.tup (s.gs.map Gn.toD)),sR u,sR r,some (.vl (s.ks.map nD)),sR z,b6,b7,b8]
noncomputable def xJ1:Af:=.f (.and (.cmp .inn (.bin .add (.v 6) (.tup (.o (.v 8)))) (.v 3)) (.cmp .ne (.ix (.v 3) (.bin .add (.v 6) (.tup (.o (.v 8))))) (.ix (.v 3) (.bin .add (.v 7) (.tup (.o (.v 8))))))) (.o (.expr (.bm .append (.v 5) (.o (.tup (.p (.bin .add (.v 6) (.tup (.o (.v 8)))) (.bin .add (.v 7) (.tup (.o (.v 8))))))))))
noncomputable def xJ2:Af:=.f (.and (.cmp .inn (.bin .add (.tup (.o (.v 8))) (.v 6)) (.v 3)) (.cmp .ne (.ix (.v 3) (.bin .add (.tup (.o (.v 8))) (.v 6))) (.ix (.v 3) (.bin .add (.tup (.o (.v 8))) (.v 7))))) (.o (.expr (.bm .append (.v 5) (.o (.tup (.p (.bin .add (.tup (.o (.v 8))) (.v 6)) (.bin .add (.tup (.o (.v 8))) (.v 7))))))))
noncomputable def xJ3:Af:=.f (.and (.cmp .eq (.ix (.v 6) (.neg (.i 1))) (.ix (.v 7) (.neg (.i 1)))) (.and (.cmp .inn (.ix (.v 6) (.neg (.i 1))) (.v 4)) (.cmp .ne (.ix (.v 3) (.cut (.v 6) .none (.some (.neg (.i 1))))) (.ix (.v 3) (.cut (.v 7) .none (.some (.neg (.i 1)))))))) (.o (.expr (.bm .append (.v 5) (.o (.tup (.p (.cut (.v 6) .none (.some (.neg (.i 1)))) (.cut (.v 7) .none (.some (.neg (.i 1))))))))))
def tJ2:Ci=.p xJ1 xJ2:=rfl
def Gp(s:Pk)(Z:List (List Nat))(f:List Nat->Nat)(p:List Nat×List Nat):Prop:=p.1∈Z/\p.2∈Z/\So s p.1 p.2/\f p.1≠f p.2
structure Fd(s:Pk)(ws:List (List Nat))(f:List Nat->Nat)(u r z:Nat)(M0 M:dj)(L:List (List Nat×List Nat))(n:Nat):Prop where
 z:M[z]?=some (.lst (L.map pD))
 r:M[r]?=some (.dT (Ko ws f))
 u:M[u]?=some (.lst (ws.map cj))
 g:∀p∈L,Gp s ws f p
 l:L.length<=n
 k:mz M0 M
def aba(F:Fd s G f u r z Z M L n)(hz:Z.length<=z)(ur:u<Z.length/\r<Z.length)(R:Gp s G f p):Fd s G f u r z Z (M.set z (.lst (L.map pD++[pD p]))) (L++[p]) (n+1) :=
 ⟨by rw[o6 F.z];simp,by rw[jc (by lia)];exact F.r,by rw[jc (by lia)];exact F.u,λx U=>by
  rcases cg.mp U with q|q
  .exact F.g x q
  .have q:x=p:=by simpa using q
   exact q▸R,by have:=F.l;simp;lia,mz.set F.k hz⟩
def G5(F:Fd s Z f u r z G M L n)(h:n<=n'):Fd s Z f u r z G M L n':=⟨F.z,F.r,F.u,F.g,bw F.l h,F.k⟩
def jf1{k:Nat}(E:Ends s.es V)(h:Al s V)(L0:Rx s.es G)(hz:U.length<=z)(ur:u<U.length/\r<U.length)(F:Fd s G f u r z U M L n)(hn:n<90000)(B:Kh s.es a b)(d:So s a b)(hk:k<s.es.length) :
 ∃L' M',xJ1.den (PW m) (EN s u r z (some (cj a)) (some (cj b)) (sI k)) M=.ok (.next,EN s u r z (some (cj a)) (some (cj b)) (sI k)) M'/\Fd s G f u r z U M' L' (n+1)/\(L'=[]->L=[]/\(a++[k]∈G->f (a++[k])=f (b++[k]))):=by
 have la:=Bf E B.one;have lb:=Bf E B.two;have r1:∀M,zq .add (cj a) (.tup [.int k]) M=.ok (cj (a++[k])) M:=λM=>Dq _ _ (by lia)
 have r2:∀M,zq .add (cj b) (.tup [.int k]) M=.ok (cj (b++[k])) M:=λM=>Dq _ _ (by lia)
 have i1:Iu M (cj (a++[k])) (.ref r)=some (decide (a++[k]∈G)):=ayd F.r
 by_cases c:a++[k]∈G
 .have W:=L0.way _ c
  have e:(at_ s.es k).1=yr s.es a:=Xr.last B.one.ne W.ch;have B2:=B.app hk e;have wb:=L0.all _ rfl B2.two;have x1:=Oq F.r c;have x2:=Oq F.r wb
  by_cases q:f (a++[k])=f (b++[k])
  .refine⟨L,M,?_,G5 F (by lia),λZ=>⟨Z,λ_=>q⟩⟩
   simp[xJ1,xg,r1,r2,i1,c,x1,x2,n8,um,q]
  .have ap:=Bl (d:=pD (a++[k],b++[k])) F.z (by have:=F.l;simp;lia)
   refine⟨_,_,?_,aba F hz ur (p:=(a++[k],b++[k])) ⟨c,wb,d.app B.one hk e,q⟩,λZ=>by simp at Z⟩;have R:Bj .append (.ref z) [.tup [cj (a++[k]),cj (b++[k])]] M=_:=ap;simp[xJ1,xg,r1,r2,i1,c,x1,x2,n8,um,q,Ep F.z,R]
 .refine⟨L,M,?_,G5 F (by lia),λZ=>⟨Z,λw=>absurd w c⟩⟩
  simp[xJ1,xg,r1,i1,c]
def jf2{k:Nat}(E:Ends s.es V)(h:Al s V)(L0:Rx s.es G)(hz:U.length<=z)(ur:u<U.length/\r<U.length)(F:Fd s G f u r z U M L n)(hn:n<90000)(B:Kh s.es a b)(d:So s a b)(hk:k<s.es.length) :
 ∃L' M',xJ2.den (PW m) (EN s u r z (some (cj a)) (some (cj b)) (sI k)) M=.ok (.next,EN s u r z (some (cj a)) (some (cj b)) (sI k)) M'/\Fd s G f u r z U M' L' (n+1)/\(L'=[]->L=[]/\(k::a∈G->f (k::a)=f (k::b))):=by
 have la:=Bf E B.one;have lb:=Bf E B.two;have r1:∀M,zq .add (.tup [.int k]) (cj a) M=.ok (cj (k::a)) M:=λM=>Km _ _ (by lia)
 have r2:∀M,zq .add (.tup [.int k]) (cj b) M=.ok (cj (k::b)) M:=λM=>Km _ _ (by lia)
 have i1:Iu M (cj (k::a)) (.ref r)=some (decide (k::a∈G)):=ayd F.r
 by_cases c:k::a∈G
 .have W:=L0.way _ c
  have e:(at_ s.es k).2=Ek s.es a:=(asv W B.one.ne).2.symm;have B2:=B.cons hk e;have wb:=L0.all _ rfl B2.two;have x1:=Oq F.r c;have x2:=Oq F.r wb
  by_cases q:f (k::a)=f (k::b)
  .refine⟨L,M,?_,G5 F (by lia),λZ=>⟨Z,λ_=>q⟩⟩
   simp[xJ2,xg,r1,r2,i1,c,x1,x2,n8,um,q]
  .have ap:=Bl (d:=pD (k::a,k::b)) F.z (by have:=F.l;simp;lia)
   refine⟨_,_,?_,aba F hz ur (p:=(k::a,k::b)) ⟨c,wb,d.cons B.one hk e,q⟩,λZ=>by simp at Z⟩;have R:Bj .append (.ref z) [.tup [cj (k::a),cj (k::b)]] M=_:=ap;simp[xJ2,xg,r1,r2,i1,c,x1,x2,n8,um,q,Ep F.z,R]
 .refine⟨L,M,?_,G5 F (by lia),λZ=>⟨Z,λw=>absurd w c⟩⟩
  simp[xJ2,xg,r1,i1,c]
def ayg{s:Pk}(M:dj)(k:Nat):Iu M (.int (k:Nat)) (.vl (s.ks.map nD))=some (decide (k∈s.ks)):=ac0 M k s.ks
def jf3(E:Ends s.es V)(h:Al s V)(L0:Rx s.es ws)(hz:M0.length<=z)(ur:u<M0.length/\r<M0.length)(F:Fd s ws f u r z M0 M L n)(hn:n<90000)(B:Kh s.es a b)(d:So s a b)(U:a≠b) :
 ∃L' M',xJ3.den (PW m) (EN s u r z (some (cj a)) (some (cj b)) b8) M=.ok (.next,EN s u r z (some (cj a)) (some (cj b)) b8) M'/\Fd s ws f u r z M0 M' L' (n+1)/\(L'=[]->L=[]/\(lw a=lw b->.apart (lw a)∈s.gs->f a.dropLast=f b.dropLast)):=by
 have l1:=Jr (M:=M) B.one;have R:=Jr (M:=M) B.two;have ik:=ayg (s:=s) M (lw b)
 by_cases c:lw a=lw b
 .by_cases q:lw b∈s.ks
  .have hg:=Wl.mp q
   have Z:∀{x y:Y3},Kh s.es x y->x≠y->lw x=lw y->1<x.length:=fun{x y} B U c=>by
    have hx:=j0.mpr B.one.ne
    by_cases h1:1<x.length
    .exact h1
    .exfalso
     obtain⟨k,rfl⟩:∃k,x=[k]:=List.length_eq_one_iff.mp (by lia);have hk:lw y=k:=c.symm
     by_cases h2:1<y.length
     .obtain⟨W,e1,e2⟩:=B.two.off h2
      have:=asu E W;rw[e1,e2,<- B.st,hk] at this;exact absurd this (lg _)
     .have hy:=j0.mpr B.two.ne
      obtain⟨j,rfl⟩:∃j,y=[j]:=List.length_eq_one_iff.mp (by lia);have:j=k:=hk;exact U (by rw[this])
   have L1:=Z B U c;have L2:=Z (x:=b) (y:=a) ⟨B.two,B.one,B.st.symm,B.go.symm⟩ (jh U) c.symm;obtain⟨Wa,a1,a2⟩:=B.one.off L1;obtain⟨Wb,b1,b2⟩:=B.two.off L2;have wa:=L0.all _ rfl Wa;have wb:=L0.all _ rfl Wb;have ea:a=a.dropLast++[lw a]:=by
    conv=>lhs;rw[<- ni B.one.ne]
    rw[lw,List.getLastD_eq_getLast?,List.getLast?_eq_some_getLast B.one.ne];rfl
   have qk:b=b.dropLast++[lw b]:=by
    conv=>lhs;rw[<- ni B.two.ne]
    rw[lw,List.getLastD_eq_getLast?,List.getLast?_eq_some_getLast B.two.ne];rfl
   have Bd:Kh s.es a.dropLast b.dropLast:=⟨Wa,Wb,by rw[a2,b2,B.st],by rw[a1,b1,c]⟩;have dd:So s a.dropLast b.dropLast:=by refine .off (k:=lw a) ?_ Bd B.one.Nb a1.symm (by rw[c];exact hg);rw[<- ea,c,<- qk];exact d
   have x1:=Oq F.r wa;have x2:=Oq F.r wb;have c1:=ac4 (M:=M) B.one.ne;have c2:=ac4 (M:=M) B.two.ne
   by_cases o:f a.dropLast=f b.dropLast
   .refine⟨L,M,?_,G5 F (by lia),λG=>⟨G,λ_ _=>o⟩⟩
    simp[xJ3,xg,l1,R,n8,um,c,ik,q,c1,c2,x1,x2,n8,um,o]
   .have ap:=Bl (d:=pD (a.dropLast,b.dropLast)) F.z (by have:=F.l;simp;lia)
    refine⟨_,_,?_,aba F hz ur (p:=(a.dropLast,b.dropLast)) ⟨wa,wb,dd,o⟩,λG=>by simp at G⟩;have qq:Bj .append (.ref z) [.tup [cj a.dropLast,cj b.dropLast]] M=_:=ap;simp[xJ3,xg,l1,R,n8,um,c,ik,q,c1,c2,x1,x2,n8,um,o,Ep F.z,qq]
  .refine⟨L,M,?_,G5 F (by lia),λG=>⟨G,λ_ g=>absurd (Wl.mpr (c▸g)) q⟩⟩
   simp[xJ3,xg,l1,R,n8,um,c,ik,q]
 .refine⟨L,M,?_,G5 F (by lia),λG=>⟨G,λe=>absurd e c⟩⟩
  simp[xJ3,xg,l1,R,n8,um,c]
def Cz(s:Pk)(Z:List (List Nat))(f:List Nat->Nat)(a b:Y3):Prop:=f a=f b->a≠b->(∀k,k<s.es.length->(a++[k]∈Z->f (a++[k])=f (b++[k]))/\(k::a∈Z->f (k::a)=f (k::b)))/\(lw a=lw b->.apart (lw a)∈s.gs->f a.dropLast=f b.dropLast)
def jl2(E:Ends s.es V)(h:Al s V)(L0:Rx s.es G)(hz:R.length<=z)(ur:u<R.length/\r<R.length)(F:Fd s G f u r z R M L n)(hn:n<80000)(B:Kh s.es a b)(d:So s a b) :
 ∃Z U M',Cj.den (PW m) (EN s u r z (some (cj a)) (some (cj b)) b8) M=.ok (.next,EN s u r z (some (cj a)) (some (cj b)) U) M'/\Fd s G f u r z R M' Z (n+20)/\(Z=[]->L=[]/\∀k,k<s.es.length->(a++[k]∈G->f (a++[k])=f (b++[k]))/\(k::a∈G->f (k::a)=f (k::b))):=by
 unfold Cj;have ef:=E.few;obtain⟨qq,M',e,Z,U,rfl,F',C'⟩:=Gf (W:=PW m) (t:=.name 8) (b:=Ci) (it:=.l (.v 0)) (n:=s.es.length) (ρ:=EN s u r z (some (cj a)) (some (cj b)) b8) (M:=M) (M1:=M) (by simp[Kd]) (by lia)
  (λi ρ M1=>∃(Z:List (List Nat×List Nat))(U:Option D),ρ=EN s u r z (some (cj a)) (some (cj b)) U/\Fd s G f u r z R M1 Z (n+2*i)/\(Z=[]->L=[]/\∀k,k<i->(a++[k]∈G->f (a++[k])=f (b++[k]))/\(k::a∈G->f (k::a)=f (k::b))))
  ⟨L,b8,rfl,F,λhL=>⟨hL,λk hk=>absurd hk (o9 _)⟩⟩
  (λi ρ M1 hi hI=>by
   obtain⟨L1,U,rfl,F1,C1⟩:=hI;obtain⟨L2,M2,e2,F2,C2⟩:=jf1 (m:=m) (k:=i) E h L0 hz ur F1 (by lia) B d hi;obtain⟨L3,M3,e3,F3,C3⟩:=jf2 (m:=m) (k:=i) E h L0 hz ur F2 (by lia) B d hi;refine⟨_,.next,EN s u r z (some (cj a)) (some (cj b)) (sI i),M3,rfl,?_,.inl rfl,L3,_,rfl,G5 F3 (by lia),λhL=>?_⟩
   .show Ci.den (PW m) (EN s u r z (some (cj a)) (some (cj b)) (sI i)) M1=_
    rw[tJ2];simp[e2,e3]
   .obtain⟨g1,g2⟩:=C3 hL
    obtain⟨g3,g4⟩:=C2 g1;obtain⟨g5,g6⟩:=C1 g3;refine⟨g5,λk hk=>?_⟩;rcases Nat.lt_or_eq_of_le (t6 hk) with q|rfl
    .exact g6 k q
    .exact⟨g4,g2⟩)
 exact⟨Z,U,M',e,G5 F' (by lia),C'⟩
noncomputable def xJ0:Ex:=.and (.cmp .eq (.ix (.v 3) (.v 6)) (.ix (.v 3) (.v 7))) (.cmp .ne (.v 6) (.v 7))
def tJ1:zg=.o (.f xJ0 (.p Cj xJ3)):=rfl
def jl1(E:Ends s.es V)(h:Al s V)(L0:Rx s.es G)(S:Sn s G f)(hz:M0.length<=z)(ur:u<M0.length/\r<M0.length)(F:Fd s G f u r z M0 M L n)(hn:n<=75600)(ha:a∈G) :
 ∃L' U R M',Fp.den (PW m) (EN s u r z (some (cj a)) b7 b8) M=.ok (.next,EN s u r z (some (cj a)) U R) M'/\Fd s G f u r z M0 M' L' (n+21*G.length)/\(L'=[]->L=[]/\∀b∈G,Cz s G f a b):=by
 unfold Fp;have wl:=L0.few;obtain⟨qq,M',e,L',U,R,rfl,F',C'⟩:=vf (W:=PW m) (t:=.name 7) (b:=zg) (it:=.v 2) (ρ:=EN s u r z (some (cj a)) b7 b8) (M:=M) (M1:=M) (d:=.ref u) rfl (iu F.u)
  (λi ρ Z=>∃(L':List (List Nat×List Nat))(U R:Option D),ρ=EN s u r z (some (cj a)) U R/\Fd s G f u r z M0 Z L' (n+21*i)/\(L'=[]->L=[]/\∀b∈G.take i,Cz s G f a b))
  ⟨L,b7,b8,rfl,F,λhL=>⟨hL,by simp⟩⟩
  (λi ρ Z hI=>by obtain⟨_,_,_,_,F1,_⟩:=hI;exact iu F1.u)
  (λi y ρ Z hy hI=>by
   obtain⟨L1,U,R,rfl,F1,C1⟩:=hI;obtain⟨b,hi,rfl⟩:∃b,G[i]?=some b/\cj b=y:=by simpa using hy
   have hb:=bf hi;have il:=(ak.mp hi).1;have x1:=Oq F1.r ha;have x2:=Oq F1.r hb;have xe:=Oi Z a b;have fin:∀{L2:List (List Nat×List Nat)},(L2=[]->L1=[]/\Cz s G f a b)->L2=[]->L=[]/\∀x∈G.take (i+1),Cz s G f a x:=fun{L2} g hL=>by
    obtain⟨g1,g2⟩:=g hL;obtain⟨g3,g4⟩:=C1 g1;refine⟨g3,λx hx=>?_⟩;rw[jd,hi] at hx;rcases cg.mp hx with q|q
    .exact g4 x q
    .have q:x=b:=by simpa using q
     exact q▸g2
   by_cases c:f a=f b
   .by_cases q:a=b
    .subst q
     refine⟨_,.next,EN s u r z (some (cj a)) (some (cj a)) R,Z,rfl,?_,.inl rfl,L1,_,_,rfl,G5 F1 (by lia),fin λhL=>⟨hL,λ_ ne=>absurd rfl ne⟩⟩;show zg.den (PW m) (EN s u r z (some (cj a)) (some (cj a)) R) Z=_;rw[tJ1];have xf:n8 Z (.int (f a:Nat)) (.int (f a:Nat))=some true:=by rw[show n8 Z (.int (f a:Nat)) (.int (f a:Nat))=some (decide (f a=f a)) from um Z 5 _ _];simp
     simp[xJ0,xg,x1,xf,xe]
    .have d:=S a ha b hb c
     have B:=Lr h d (.inl (L0.way a ha));obtain⟨L2,c8,M2,e2,F2,C2⟩:=jl2 (m:=m) (b8:=R) E h L0 hz ur F1 (by lia) B d;obtain⟨L3,M3,e3,F3,C3⟩:=jf3 (m:=m) (b8:=c8) E h L0 hz ur F2 (by lia) B d q;refine⟨_,.next,EN s u r z (some (cj a)) (some (cj b)) c8,M3,rfl,?_,.inl rfl,L3,_,_,rfl,G5 F3 (by lia),fin λhL=>?_⟩
     .show zg.den (PW m) (EN s u r z (some (cj a)) (some (cj b)) R) Z=_
      rw[tJ1];have xf:n8 Z (.int (f a:Nat)) (.int (f b:Nat))=some (decide (f a=f b)):=um Z 5 _ _;simp[xJ0,xg,x1,x2,xf,c,xe,q,e2,e3]
     .obtain⟨g1,g2⟩:=C3 hL
      obtain⟨g3,g4⟩:=C2 g1;exact⟨g3,λ_ _=>⟨g4,g2⟩⟩
   .refine⟨_,.next,EN s u r z (some (cj a)) (some (cj b)) R,Z,rfl,?_,.inl rfl,L1,_,_,rfl,G5 F1 (by lia),fin λhL=>⟨hL,λe=>absurd e c⟩⟩
    show zg.den (PW m) (EN s u r z (some (cj a)) (some (cj b)) R) Z=_;rw[tJ1];have xf:n8 Z (.int (f a:Nat)) (.int (f b:Nat))=some (decide (f a=f b)):=um Z 5 _ _;simp[xJ0,xg,x1,x2,xf,c])
 simp only[dg,jr] at F' C';exact⟨L',U,R,M',e,F',C'⟩
def aiu(hm:1<=m)(h:Al s V)(L0:Rx s.es Z)(S:Sn s Z f)(hu:M[u]?=some (.lst (Z.map cj)))(hr:M[r]?=some (.dT (Ko Z f))) :
 ∃L M',prog.call m 30 [.tup (s.es.map aD),.tup (s.gs.map Gn.toD),.ref u,.ref r] M=.ok (.ref M.length) M'/\M'[M.length]?=some (.lst (L.map pD))/\mz M M'/\(∀p∈L,Gp s Z f p)/\(L=[]->∀a∈Z,∀b∈Z,Cz s Z f a b):=by
 rw[call_of hm rfl];have wl:=L0.few;have c1:Fq.den (PW (m-1)) [some (.tup (s.es.map aD)),some (.tup (s.gs.map Gn.toD)),sR u,sR r,none,none,none,none,none] M=.ok (.vl (s.ks.map nD)) M:=by
  unfold Fq;rw[Fv (d:=.tup (s.gs.map Gn.toD)) (M1:=M) (xs:=s.gs) (f:=Gn.toD) (q:=λg=>!Yp g) (g:=λg=>nD (arw g)) rfl rfl (by have:=h.few;lia) (λg hx=>⟨_,rfl,by
   cases g<;>simp[Gn.toD,Yp,We.symm],λh=>by
   cases g with
   | same a b=>cases h|apart k=>simp[Gn.toD,arw,nD]⟩)]
  simp[Pk.ks,gh,iz]
 have ur:u<M.length/\r<M.length:=⟨rn hu,rn hr⟩
 have F0:Fd s Z f u r M.length M (M++[.lst []]) [] 0:=⟨yw,yu hr,yu hu,by simp,az _,mz.app _ _⟩;obtain⟨qq,M',e,L',b6,R,G,rfl,F',C'⟩:=vf (W:=PW (m-1)) (t:=.name 6) (b:=Cm) (it:=.v 2) (ρ:=EN s u r M.length none none none) (M:=M++[.lst []]) (M1:=M++[.lst []]) (d:=.ref u) rfl (iu F0.u)
  (λi ρ U=>∃(L':List (List Nat×List Nat))(b6 R G:Option D),ρ=EN s u r M.length b6 R G/\Fd s Z f u r M.length M U L' (1260*i)/\(L'=[]->∀a∈Z.take i,∀b∈Z,Cz s Z f a b))
  ⟨[],none,none,none,rfl,F0,λ_=>by simp⟩
  (λi ρ U hI=>by obtain⟨_,_,_,_,_,F1,_⟩:=hI;exact iu F1.u)
  (λi y ρ U hy hI=>by
   obtain⟨L1,b6,R,G,rfl,F1,C1⟩:=hI;obtain⟨a,hi,rfl⟩:∃a,Z[i]?=some a/\cj a=y:=by simpa using hy
   have ha:=bf hi;have il:=(ak.mp hi).1;obtain⟨L2,c7,c8,M2,e2,F2,C2⟩:=jl1 (m:=m-1) (b7:=R) (b8:=G) h.E h L0 S (az _) ur F1 (by lia) ha;refine⟨_,.next,EN s u r M.length (some (cj a)) c7 c8,M2,rfl,?_,.inl rfl,L2,_,_,_,rfl,G5 F2 (by lia),λhL=>?_⟩
   .show Cm.den (PW (m-1)) (EN s u r M.length (some (cj a)) R G) U=_
    simp[Cm,e2]
   .obtain⟨g1,g2⟩:=C2 hL
    intro x hx;rw[jd,hi] at hx;rcases cg.mp hx with q|q
    .exact C1 g1 x q
    .have q:x=a:=by simpa using q
     exact q▸g2)
 simp only[dg,jr] at C';refine⟨L',M',?_,F'.z,F'.k,F'.g,C'⟩;have e':Jq.den (PW (m-1)) _ (M++[.lst []])=_:=e;simp[Fn.run,M8,Mz,c1,MW.new,e']
def a5p(h:Al s V)(L0:Rx s.es ws)(C:∀a∈ws,∀b∈ws,Cz s ws f a b)(G:∀a b,.same a b∈s.gs->f a=f b)(d:So s a b):Way s.es a\/Way s.es b->f a=f b:=by
 have mem:∀{w:Y3},Way s.es w->w∈ws:=λW=>L0.all _ rfl W
 induction d with
 |refl=>intro _;rfl|symm _ Z=>intro W;exact(Z W.symm).symm
 |trans d1 d2 i1 i2 =>
  intro W;rcases W with W|W
  .have B:=Lr h d1 (.inl W)
   exact(i1 (.inl W)).trans (i2 (.inl B.two))
  .have B:=Lr h d2 (.inr W)
   exact(i1 (.inr B.one)).trans (i2 (.inr W))
 |same U=>intro _;exact G _ _ U
 |@app x y k d W hk e Z =>
  intro _;have B:=Lr h d (.inl W)
  by_cases q:x=y
  .rw[q]
  .exact(((C x (mem W) y (mem B.two)) (Z (.inl W)) q).1 k hk).1 (mem (W.app hk e))
 |@cons x y k d W hk e Z =>
  intro _;have B:=Lr h d (.inl W)
  by_cases q:x=y
  .rw[q]
  .exact(((C x (mem W) y (mem B.two)) (Z (.inl W)) q).1 k hk).2 (mem (W.cons hk e))
 |@off x k y d B hk e U Z =>
  intro _
  by_cases q:x=y
  .rw[q]
  .have R:=B.one.app hk e
   have W2:=B.two.app hk (e.trans B.go);have:=((C _ (mem R) _ (mem W2)) (Z (.inl R)) (λz=>q (by simpa using z))).2 (by rw[Wg,Wg]) (by rw[Wg];exact U);simpa using this
def am3(h:d8 M d=some ds):n8 M d (.vl [])=some ds.isEmpty:=by
 cases d with
 |vl Z=>cases h;exact eq_nil _
 |ref n =>
  show(match d8 M (.ref n),d8 M (.vl []) with|some as,some bs=>if as.length=bs.length then T8 (Og M 5) as bs else some false|_,_=>none)=_;rw[h];cases ds with
  |nil=>rfl|cons x Z=>rfl
 |_=>cases h
def am4{ds:List D}{g:D->D}(qk:it.den W U M=.ok (.ref p) M1)(hp:M1[p]?=some (.lst ds))(hl:ds.length<=100000)(h:∀(i:Nat) x,ds[i]?=some x->∃G,t.put (.tup [.int i,x]) (U++List.replicate k none)=some G/\e.den W G M1=.ok (g x) M1) :
 (Ex.comp true k t (.enm it) e).den W U M=.ok (.vl (ds.map g)) M1:=by
 rw[Kf];have en:(Lh.enm it).den W U M=.ok (.el p ds.length) M1:=by show(it.den W U M).bind afi=_;rw[qk];simp[afi,hp]
 rw[en,Res.vo,za,bh (show(Src.el p ds.length).len<=100000 from hl)];obtain⟨ys,Z,q,rfl,r⟩:=Gy (fin:=(Src.el p ds.length).fin) (item:=(Src.el p ds.length).item) (body:=λd M=>(Res.qx (t.put d (U++List.replicate k none)) M).bind λqq M=>(e.den W qq M).bind λx Z=>.ok (some x) Z) (λi R Z=>Z=M1/\R=(ds.take i).map g) (n:=ds.length) (λi R Z hi hI=>by
  obtain⟨rfl,rfl⟩:=hI;obtain⟨G,a,b⟩:=h i ds[i] (by simp[hi]);exact⟨.tup [.int i,ds[i]],some (g ds[i]),Z,by simp[Src.item,hp,hi],by rw[a];simp[b],rfl,by rw[jd,dm hi,Option.toList_some,gr];rfl⟩) (λR Z hI=>by rw[hI.1];simp[Src.fin,hp]) ds.length 0 [] M1 (vd _) ⟨rfl,by simp⟩
 have q':Ad (Src.el p ds.length).fin (Src.el p ds.length).item _ (Src.el p ds.length).len 0 Z=_:=q;rw[q'];simp at r;simp[r]
theorem aqp(f:List Nat->Nat):∀Z:List (List Nat),Q8 (Z.map λw=>.tup [cj w,nD (f w)])=some (Ko Z f)
 |[]=>rfl
 |w::Z=>by
  show(match Ha (cj w),Q8 (Z.map λw=>.tup [cj w,nD (f w)]) with|some q,some l=>some ((q,nD (f w))::l)|_,_=>none)=_;rw[aqp f Z,Ae];rfl
def am5(G:Z.Nodup)(U:Z.length<=60):v9 .dict [.vl (Z.map λw=>.tup [cj w,nD (f w)])] M=.ok (.ref M.length) (M++[.dT (Ko Z f)]):=by
 have k:((Ko Z f).map (·.1)).Nodup:=by unfold Ko;rw[gh];exact Kg (λa b e=>Rz e) G
 have l:(Ko Z f).length<=1000:=by simp[Ko];lia
 simp only[v9,Ga,d8,wg,aqp,bh (And.intro k l),MW.new]
def mc1(G:s.gs.length<=8):Cg.den W (EM s u r none none none none none none) M=.ok (.vl (((s.gs.filter Yp).map pr).map pD)) M:=by
 unfold Cg;rw[Fv (d:=.tup (s.gs.map Gn.toD)) (M1:=M) (xs:=s.gs) (f:=Gn.toD) (q:=Yp) (g:=λg=>pD (pr g)) rfl rfl (by lia) (λg Z=>⟨_,rfl,by
  cases g<;>simp[Gn.toD,Yp,We],λh=>by
  cases g with
  | same a b=>simp[Gn.toD,pr,pD,Iw,Gq,clip]|apart k=>cases h⟩)]
 simp[gh,iz]
def as7{s:Pk}{a b:Y3}:(a,b)∈(s.gs.filter Yp).map pr->.same a b∈s.gs:=λh=>by
 obtain⟨g,G,e⟩:=dq.mp h;obtain⟨U,Z⟩:=tu.mp G;cases g with
 |same x y=>cases e;exact U|apart k=>cases Z
def aiv{s:Pk}{a b:Y3}(h:.same a b∈s.gs):(a,b)∈(s.gs.filter Yp).map pr:=dq.mpr ⟨_,tu.mpr ⟨h,rfl⟩,rfl⟩
def am6(U:Z.length<=60):Ph Z (Oc Z)<=3600:=by
 have:∀l:List (List Nat),(∀w∈l,Oc Z w<=60)->Ph l (Oc Z)<=60*l.length:=λl=>by
  induction l with
  |nil=>intro _;simp[Ph]
  |cons x l G =>
   intro h;have:=G λw hw=>h w (bu _ hw)
   have:=h x bz;simp only[Ph,cz,vm,d7] at *
   lia
 have:=this Z λw hw=>by have:=(ak.mp (Qu hw)).1;lia
 lia
def aiw(hm:2<=m)(h:Al s V):∃Z f r M',prog.call m 29 [s.toD] M=.ok (.ref r) M'/\M'[r]?=some (.dT (Ko Z f))/\mz M M'/\Rx s.es Z/\∀a b,Way s.es a->Way s.es b->(f a=f b↔So s a b):=by
 rw[call_of (bw (by decide) hm) rfl];obtain⟨Z,M1,e1,g1,L,k1⟩:=Wc (m:=m-1) (M:=M) (d:=.tup (s.es.map aD)) (by lia) h.E rfl;have wl:=L.few;have c2:Fo.den (PW (m-1)) [some s.toD,some (.tup (s.es.map aD)),some (.tup (s.gs.map Gn.toD)),some (.tup [cj s.a,cj s.b]),sR M.length,none,none,none,none,none,none,none] M1=.ok (.vl (Z.map λw=>.tup [cj w,nD (Oc Z w)])) M1:=by
  unfold Fo;have hz:=hG (P:=∃g:D->D,∀(i:Nat) w,Z[i]?=some w->g (cj w)=.tup [cj w,.int i]) λ_ k=>k ⟨λd=>match d with|.tup ds=>.tup [.tup ds,nD (Oc Z (ds.map λd=>match d with|.int i=>i.toNat|_=>0))]|d=>d,λi w hw=>by
   have:((w.map nD).map λd=>match d with|.int i=>i.toNat|_=>0)=w:=by
    rw[gh]
    conv=>rhs;rw[<- List.map_id w]
    exact j5 λx _=>by simp[nD]
   show D.tup [cj w,nD (Oc Z ((w.map nD).map λd=>match d with|.int i=>i.toNat|_=>0))]=_;rw[this,aiq L.nd hw];rfl⟩
  obtain⟨g,R⟩:=hz;rw[am4 (ds:=Z.map cj) (p:=M.length) (M1:=M1) (g:=g) rfl g1 (by simp;lia) (λi x hx=>by
   obtain⟨w,hi,rfl⟩:∃w,Z[i]?=some w/\cj w=x:=by simpa using hx
   exact⟨_,rfl,by rw[R i w hi];simp⟩)]
  rw[gh]
  congr 2
  refine j5 λw hw=>?_
  obtain⟨i,hi⟩:=iy.mp hw;show g (cj w)=_;rw[R i w hi,aiq L.nd hi];rfl
 have e2:=am5 (M:=M1) (f:=Oc Z) L.nd wl;have u1:M.length<M1.length:=rn g1
 have c1:=mc1 (s:=s) (W:=PW (m-1)) (u:=M.length) (r:=M1.length) (M:=M1++[.dT (Ko Z (Oc Z))]) h.few;have gb:∀p∈(s.gs.filter Yp).map pr,p.1∈Z/\p.2∈Z/\So s p.1 p.2:=λp hp=>by have R:=as7 (a:=p.1) (b:=p.2) hp;have B:Kh s.es p.1 p.2:=h.gs _ R;exact⟨L.all _ rfl B.one,L.all _ rfl B.two,.same R⟩
 obtain⟨q0,M',e,f,d,b7,b8,b9,U,Yv,rfl,r1,kp,S,G,C⟩:=Df (c:=(Ex.cmp .ne (.v 6) (.Ir .z)).den (PW (m-1))) (body:=Fl.den (PW (m-1)))
  (λn ρ M3=>∃(f:List Nat->Nat)(d:D)(J:List (List Nat×List Nat))(b7 b8 b9 U Yv:Option D),ρ=EM s M.length M1.length (some d) b7 b8 b9 U Yv/\M3[M1.length]?=some (.dT (Ko Z f))/\M3[M.length]?=some (.lst (Z.map cj))/\mz M M3/\d8 M3 d=some (J.map pD)/\Ja M1.length d=true/\(∀p∈J,p.1∈Z/\p.2∈Z/\So s p.1 p.2)/\Sn s Z f /\
   ((f=Oc Z/\J=(s.gs.filter Yp).map pr/\n=Ph Z f+1)\/((∀a b,.same a b∈s.gs->f a=f b)/\(∀p∈J,f p.1≠f p.2)/\(J=[]->∀a∈Z,∀b∈Z,Cz s Z f a b)/\n=Ph Z f)))
  (fun ρ M3=>∃(f:List Nat->Nat)(d:D)(b7 b8 b9 U Yv:Option D),ρ=EM s M.length M1.length (some d) b7 b8 b9 U Yv/\M3[M1.length]?=some (.dT (Ko Z f))/\mz M M3/\Sn s Z f/\(∀a b,.same a b∈s.gs->f a=f b)/\∀a∈Z,∀b∈Z,Cz s Z f a b)
  (λn ρ M3 hI=>by
   obtain⟨f,d,J,b7,b8,b9,U,Yv,rfl,r3,u3,k3,hd,hn,hJ,S,st⟩:=hI;have en:=am3 hd
   by_cases c:J=[]
   .left
    subst c;refine⟨M3,by simp[en],f,d,b7,b8,b9,U,Yv,rfl,r3,k3,S,?_⟩;rcases st with⟨rfl,q,_⟩|⟨G,_,C,_⟩
    .refine⟨λa b R=>?_,λa ha b hb e ne=>absurd (adg ha hb e) ne⟩
     have:=aiv R;rw[<- q] at this;cases this
    .exact⟨G,C rfl⟩
   .right
    obtain⟨g,c7,c8,c9,qv,qk,M4,e4,r4,B4,S4,t4,m4,j4,l4⟩:=mk1 (m:=m-1) (s:=s) (b7:=b7) (b8:=b8) (b9:=b9) (b10:=U) (Yv:=Yv) u3 r3 L.nd wl (by lia) hd hn hJ S;have u4:=B4 _ _ (show M.length≠M1.length by lia) u3;obtain⟨L5,M5,e5,z5,k5,p5,C5⟩:=aiu (m:=m-1) (by lia) h L S4 u4 r4;have n4:=rn r4;have G4:∀a b,.same a b∈s.gs->g a=g b:=λa b R=>by
     rcases st with⟨rfl,rfl,_⟩|⟨G,_⟩
     .exact j4 (a,b) (aiv R)
     .exact m4 a b (G a b R)
    refine⟨M3,.next,EM s M.length M1.length (sR M4.length) c7 c8 c9 qv qk,M5,Ph Z g,by simp[en,c],?_,.inl rfl,?_,g,.ref M4.length,L5,_,_,_,_,_,rfl,k5 _ _ r4,k5 _ _ u4,?_,iu z5,?_,λp hp=>?_,S4,.inr ⟨G4,λp hp=>(p5 p hp).2.2.2,C5,rfl⟩⟩
    .simp only[Fl]
     simp[e4,e5]
    .rcases st with⟨_,_,rfl⟩|⟨_,q,_,rfl⟩
     .lia
     .obtain⟨p,l,rfl⟩:=List.exists_cons_of_ne_nil c
      exact l4 p rfl (q p bz)
    .exact λa o ha=>k5 a o (B4 a o (by have:=rn ha;lia) (k3 a o ha))
    .simpa[Ja] using qt n4
    .obtain⟨x1,x2,x3,_⟩:=p5 p hp
     exact⟨x1,x2,x3⟩)
  Rb (Ph Z (Oc Z)+1) (EM s M.length M1.length (some (.vl (((s.gs.filter Yp).map pr).map pD))) none none none none none) (M1++[.dT (Ko Z (Oc Z))]) (qz (Nat.succ_le_succ (am6 wl)) (by decide))
  ⟨Oc Z,_,(s.gs.filter Yp).map pr,none,none,none,none,none,rfl,yw,yu g1,mz.trans k1 (mz.app _ _),rfl,rfl,gb,λa ha b hb e=>by rw[adg ha hb e];exact .refl,.inl ⟨rfl,rfl,rfl⟩⟩
 refine⟨Z,f,M1.length,M',?_,r1,kp,L,λa b A B=>⟨λe=>S a (L.all _ rfl A) b (L.all _ rfl B) e,λd=>a5p h L C G d (.inl A)⟩⟩;simp only[Fn.run,My,Mx,Jp];have sp:s.toD=.tup [.tup (s.es.map aD),.tup (s.gs.map Gn.toD),.tup [cj s.a,cj s.b]]:=rfl;have qq:=c2;rw[sp] at qq;have c1:Cg.den (PW (m-1)) [some (.tup [.tup (s.es.map aD),.tup (s.gs.map Gn.toD),.tup [cj s.a,cj s.b]]),some (.tup (s.es.map aD)),some (.tup (s.gs.map Gn.toD)),some (.tup [cj s.a,cj s.b]),sR M.length,sR M1.length,none,none,none,none,none,none] (M1++[.dT (Ko Z (Oc Z))])=_:=c1;have e':Ay _ _ Rb (EM s M.length M1.length (some (.vl (((s.gs.filter Yp).map pr).map pD))) none none none none none) _=_:=e;rw[show EM s M.length M1.length (some (.vl (((s.gs.filter Yp).map pr).map pD))) none none none none none=[some (.tup [.tup (s.es.map aD),.tup (s.gs.map Gn.toD),.tup [cj s.a,cj s.b]]),some (.tup (s.es.map aD)),some (.tup (s.gs.map Gn.toD)),some (.tup [cj s.a,cj s.b]),sR M.length,sR M1.length,some (.vl (((s.gs.filter Yp).map pr).map pD)),none,none,none,none,none] from rfl] at e';simp[-List.map_map,sp,e1,qq,e2,c1,Li,e']
def am7(Z:s.es=s'.es)(R:∀g∈s.gs,g∈s'.gs)(d:So s a b):So s' a b:=by
 induction d with
 |refl=>exact .refl|symm _ G=>exact G.symm|trans _ _ i1 i2=>exact i1.trans i2|same h=>exact .same (R _ h)|app _ W U e G=>exact .app G (Z▸W) (Z▸U) (Z▸e)|cons _ W U e G=>exact .cons G (Z▸W) (Z▸U) (Z▸e)|off _ B U e h G=>exact .off G (Z▸B) (Z▸U) (Z▸e) (R _ h)
def as8:PySem.Str.ofString "holds"≠PySem.Str.ofString "breaks" := by decide
def Yw(J:Jd s d)(h:So s s.a s.b)(M:dj):w5 d (.int 0) M=some (sD "holds"):=by
 rcases J with⟨⟨x,rfl⟩,_⟩|⟨_,n⟩
 .exact Dj _ _
 .exact absurd h n
def Ux(J:Jd s d)(h:¬So s s.a s.b)(M:dj):w5 d (.int 0) M=some (sD "breaks"):=by
 rcases J with⟨_,n⟩|⟨⟨x,y,rfl⟩,_⟩
 .exact absurd n h
 .exact Dj _ _
abbrev EL(sc:D)(t:Nat)(b2 b3 b4 b5 b6 b7 b8:Option D):Env:=[some sc,sR t,b2,b3,b4,b5,b6,b7,b8]
abbrev ET(sc:D)(t:Nat)(b2:Option D)(s:Pk)(b6 b7 b8:Option D):Env:=EL sc t b2 (some (.tup (s.es.map aD))) (some (.tup (s.gs.map Gn.toD))) (some (.tup [cj s.a,cj s.b])) b6 b7 b8
noncomputable def x7:Ex:=.ix (.Ir (.p (.cst (.str (PySem.Str.ofString "breaks"))) (.cst (.str (PySem.Str.ofString "holds"))))) (.blt .toInt (.o (.cmp .eq (.ix (.v 6) (.ix (.v 5) (.i 0))) (.ix (.v 6) (.ix (.v 5) (.i 1))))))
def xF1:Af:=.f (.or (.cmp .ne (.ix (.call 23 (.o (.tup (.q (.v 3) (.v 4) (.v 5))))) (.i 0)) (.v 7)) (.cmp .ne (.ix (.call 23 (.o (.tup (.q (.v 3) (.bin .add (.v 4) (.tup (.o (.bin .add (.tup (.o (.cst (.str (PySem.Str.ofString "same"))))) (.v 5))))) (.v 5))))) (.i 0)) (.cst (.str (PySem.Str.ofString "holds"))))) (.o (.ret (.cst (.bl false))))
def xF2:Af:=.f (.and (.cmp .eq (.v 7) (.cst (.str (PySem.Str.ofString "breaks")))) (.cmp .ne (.ix (.call 23 (.o (.tup (.q (.v 3) (.bin .add (.cut (.v 4) .none (.some (.v 8))) (.cut (.v 4) (.some (.bin .add (.v 8) (.i 1))) .none)) (.v 5))))) (.i 0)) (.cst (.str (PySem.Str.ofString "breaks"))))) (.o (.ret (.cst (.bl false))))
def tL0:Qq=.c (.asg (.tg (.names [3,4,5])) (.call 28 (.o (.v 1)))) (.c (.a 6 (.call 29 (.o (.tup (.q (.v 3) (.v 4) (.v 5)))))) (.c (.a 7 x7) (.q xF1 (.a 8 (.call 2 (.p (.v 1) (.bin .add (.i 1) (.l (.v 4)))))) xF2))):=rfl
def eqS(M:dj)(x y:String):n8 M (sD x) (.str (PySem.Str.ofString y))=some (decide (PySem.Str.ofString x=PySem.Str.ofString y)):=rfl
def ayh(hm:7<=m)(h:Al s V)(x6:s.gs.length<=6)(Z:String)(hd:(Z = "holds"/\So s s.a s.b)\/(Z = "breaks"/\¬So s s.a s.b)) :
 ∃M',xF1.den (PW m) (ET sc t b2 s b6 (some (sD Z)) b8) M=.ok (.next,ET sc t b2 s b6 (some (sD Z)) b8) M'/\mz M M':=by
 obtain⟨d1,M1,e1,k1,J1⟩:=Oo (m:=m) (M:=M) hm h;have h2:Al ⟨s.es,s.gs++[.same s.a s.b],s.a,s.b⟩ V:=⟨h.E,λg hg=>by
  rcases cg.mp hg with q|q
  .exact h.gs g q
  .have q:g=.same s.a s.b:=by simpa using q
   rw[q];exact h.aim,by simp;lia,h.aim⟩
 obtain⟨d2,G,e2,k2,J2⟩:=Oo (m:=m) (M:=M1) hm h2;have y2:=Yw J2 (.same (by simp)) G;refine⟨G,?_,mz.trans k1 k2⟩;have U:prog.call m 23 [.tup [.tup (s.es.map aD),.tup (s.gs.map Gn.toD),.tup [cj s.a,cj s.b]]] M=_:=e1;have ad:zq .add (.tup [.str (PySem.Str.ofString "same")]) (.tup [cj s.a,cj s.b]) M1=.ok (Gn.toD (.same s.a s.b)) M1:=Yr (s.a,s.b);have qq:zq .add (.tup (s.gs.map Gn.toD)) (.tup [Gn.toD (.same s.a s.b)]) M1=.ok (.tup ((s.gs++[Gn.same s.a s.b]).map Gn.toD)) M1:=by rw[Gx _ _ (by simp;lia)];simp
 have R:prog.call m 23 [.tup [.tup (s.es.map aD),.tup ((s.gs++[Gn.same s.a s.b]).map Gn.toD),.tup [cj s.a,cj s.b]]] M1=_:=e2;have y1:w5 d1 (.int 0) M1=some (sD Z):=by
  rcases hd with⟨rfl,q⟩|⟨rfl,q⟩
  .exact Yw J1 q M1
  .exact Ux J1 q M1
 have ed:n8 M1 (sD Z) (sD Z)=some true:=by rw[show n8 M1 (sD Z) (sD Z)=some (decide (PySem.Str.ofString Z=PySem.Str.ofString Z)) from rfl];simp
 have eh:=eqS G "holds" "holds";simp[-List.map_append,xF1,aau,U,y1,ed,ad,qq,R,y2,eh]
def ayi{k:Nat}(hm:7<=m)(h:Al s V)(Z:String)(hd:(Z = "holds"/\So s s.a s.b)\/(Z = "breaks"/\¬So s s.a s.b)) :
 ∃M',xF2.den (PW m) (ET sc t b2 s b6 (some (sD Z)) (sI k)) M=.ok (.next,ET sc t b2 s b6 (some (sD Z)) (sI k)) M'/\mz M M':=by
 rcases hd with⟨rfl,q⟩|⟨rfl,q⟩
 .refine⟨M,?_,mz.refl _⟩
  have:=eqS M "holds" "breaks";rw[qm as8] at this;simp[xF2,xg,this]
 .have mem:∀g∈s.gs.take k++s.gs.drop (k+1),g∈s.gs:=λg G=>by
   rcases cg.mp G with q|q
   .exact w6 q
   .exact List.mem_of_mem_drop q
  have hf:=h.few;have h3:Al ⟨s.es,s.gs.take k++s.gs.drop (k+1),s.a,s.b⟩ V:=⟨h.E,λg G=>h.gs g (mem g G),by simp;lia,h.aim⟩;obtain⟨d3,R,e3,k3,J3⟩:=Oo (m:=m) (M:=M) hm h3;have y3:=Ux J3 (λd=>q (am7 (s:=⟨s.es,s.gs.take k++s.gs.drop (k+1),s.a,s.b⟩) (s':=s) rfl mem d)) R;refine⟨R,?_,k3⟩;have c1:Iw (.tup (s.gs.map Gn.toD)) none (some (k:Int)) M=some (.tup ((s.gs.take k).map Gn.toD)):=by show some (D.tup (Gq (s.gs.map Gn.toD) none (some (k:Int))))=_;rw[ac6,List.map_take]
  have c2:Iw (.tup (s.gs.map Gn.toD)) (some ((k:Int)+1)) none M=some (.tup ((s.gs.drop (k+1)).map Gn.toD)):=by show some (D.tup (Gq (s.gs.map Gn.toD) (some ((k:Int)+1)) none))=_;rw[show((k:Int)+1)=((k+1:Nat):Int) by lia,Uv,List.map_drop]
  have ad:zq .add (.tup ((s.gs.take k).map Gn.toD)) (.tup ((s.gs.drop (k+1)).map Gn.toD)) M=.ok (.tup ((s.gs.take k++s.gs.drop (k+1)).map Gn.toD)) M:=by rw[Gx _ _ (by simp;lia),gr]
  have U:prog.call m 23 [.tup [.tup (s.es.map aD),.tup ((s.gs.take k++s.gs.drop (k+1)).map Gn.toD),.tup [cj s.a,cj s.b]]] M=_:=e3;have eb:∀M,n8 M (sD "breaks") (.str (PySem.Str.ofString "breaks"))=some true:=λM=>by rw[eqS];simp
  simp[-List.map_append,-List.map_take,-List.map_drop,xF2,xg,eb,c1,c2,ad,U,y3]
def ayj{G:List (List Nat)}(R:M[r]?=some (.dT (Ko G f)))(ha:s.a∈G)(hb:s.b∈G):x7.den W (ET sc t b2 s (sR r) b7 b8) M=.ok (sD (if f s.a=f s.b then "holds" else "breaks")) M:=by
 have i0:w5 (.tup [cj s.a,cj s.b]) (.int 0) M=some (cj s.a):=Dj _ _;have i1:w5 (.tup [cj s.a,cj s.b]) (.int 1) M=some (cj s.b):=Ke _ _ _;have x1:=Oq R ha;have x2:=Oq R hb;have Z:n8 M (.int (f s.a:Nat)) (.int (f s.b:Nat))=some (decide (f s.a=f s.b)):=um M 5 _ _;have U:∀b,v9 .toInt [.bl b] M=.ok (.int (if b then 1 else 0)) M:=λ_=>rfl
 have l0:w5 (.vl [.str (PySem.Str.ofString "breaks"),.str (PySem.Str.ofString "holds")]) (.int 0) M=some (sD "breaks"):=Ah rfl (by decide) rfl;have l1:w5 (.vl [.str (PySem.Str.ofString "breaks"),.str (PySem.Str.ofString "holds")]) (.int 1) M=some (sD "holds"):=Ah rfl (by decide) rfl
 by_cases c:f s.a=f s.b
 .have Z:n8 M (.int (f s.a:Nat)) (.int (f s.b:Nat))=some true:=by rw[Z];simp[c]
  rw[bh c];simp only[x7,aav,Jb,Ag,Bk,Eg,Res.vo,Mg,Kc,ahe,ahd,i0,i1,Res.uw,x1,x2,V2,Z,m8,U,j6,l1]
 .have Z:n8 M (.int (f s.a:Nat)) (.int (f s.b:Nat))=some false:=by rw[Z];simp[c]
  rw[bj c];simp only[x7,aav,Jb,Ag,Bk,Eg,Res.vo,Mg,Kc,ahe,ahd,i0,i1,Res.uw,x1,x2,V2,Z,m8,U,d9,jj,l0]
def am8(hm:7<=m)(hs:Has t f M):∃c3 c4 c5 c6 c7 c8 M',Qq.den (PW m) (EL sc t b2 b3 b4 b5 b6 b7 b8) M=.ok (.next,EL sc t b2 c3 c4 c5 c6 c7 c8) M'/\St t f M M':=by
 obtain⟨s,V,M1,e1,h,h6,S1⟩:=afl (m:=m) (by lia) hs;obtain⟨ws,G,r,M2,e2,r2,k2,L,U⟩:=aiw (m:=m) (M:=M1) (by lia) h;have S2:=S1.keep' k2;have x:=ayj (W:=PW m) (sc:=sc) (t:=t) (b2:=b2) (b7:=b7) (b8:=b8) (s:=s) r2 (L.all _ rfl h.aim.one) (L.all _ rfl h.aim.two);have R:=U _ _ h.aim.one h.aim.two;obtain⟨Z,hx,hd⟩:∃Z,(if G s.a=G s.b then "holds" else "breaks")=Z/\((Z = "holds"/\So s s.a s.b)\/(Z = "breaks"/\¬So s s.a s.b)):=by
  by_cases c:G s.a=G s.b
  .exact⟨_,bh c,.inl ⟨rfl,R.mp c⟩⟩
  .exact⟨_,bj c,.inr ⟨rfl,λd=>c (R.mpr d)⟩⟩
 rw[hx] at x;obtain⟨M3,e3,k3⟩:=ayh (m:=m) (M:=M2) (sc:=sc) (t:=t) (b2:=b2) (b6:=sR r) (b8:=b8) hm h h6 Z hd;have S3:=S2.keep' k3;obtain⟨k,M4,e4,hk,S4,-⟩:=Aa (m:=m) (many:=1+(s.gs.length:Int)) (by lia) S3.has (by lia) (by lia);obtain⟨M5,e5,k5⟩:=ayi (m:=m) (M:=M4) (sc:=sc) (t:=t) (b2:=b2) (b6:=sR r) (k:=k) hm h Z hd;refine⟨some (.tup (s.es.map aD)),some (.tup (s.gs.map Gn.toD)),some (.tup [cj s.a,cj s.b]),sR r,some (sD Z),sI k,M5,?_,(S3.trans S4).keep' k5⟩;have sp:s.toD=.tup [.tup (s.es.map aD),.tup (s.gs.map Gn.toD),.tup [cj s.a,cj s.b]]:=rfl;rw[sp] at e1 e2;have ln:v9 .len [.tup (s.gs.map Gn.toD)] M3=.ok (.int (s.gs.length:Nat)) M3:=by rw[Kd,dg]
 rw[tL0];simp[e1,e2,x,e3,ln,e4,e5]
def as9{m:Nat}{ns:X9}{M:dj}(hm:8<=m):∃M',prog.call m 31 [.fz (ns.map D.int)] M=.ok (.bl true) M':=by
 rw[call_of (bw (by decide) hm) rfl];obtain⟨n0,f0,s0,o0⟩:=aht (m:=m-1) (k:=0) (ns:=ns) (M:=M) (by lia);have s0:prog.call (m-1) 1 [.fz (ns.map D.int),.int 0] M=_:=s0;have qq:Has M.length f0 (M++[.lst [.int n0,.bl f0]]):=⟨n0,by simp,o0⟩;obtain⟨qk,M',e,⟨b2,G,U,R,b6,b7,Z,rfl⟩,-⟩:=Gf (W:=PW (m-1)) (t:=.name 2) (b:=Qq) (it:=.i 4) (n:=4) (ρ:=EL (.fz (ns.map D.int)) M.length none none none none none none none) (M:=M++[.lst [.int n0,.bl f0]]) (M1:=M++[.lst [.int n0,.bl f0]]) rfl (by decide)
  (λ_ ρ M'=>(∃b2 G U R b6 b7 Z,ρ=EL (.fz (ns.map D.int)) M.length b2 G U R b6 b7 Z)/\Has M.length f0 M') ⟨⟨none,none,none,none,none,none,none,rfl⟩,qq⟩
  (λi ρ M1 hi hI=>by
   obtain⟨⟨b2,G,U,R,b6,b7,Z,rfl⟩,h1⟩:=hI;obtain⟨c3,c4,c5,c6,c7,c8,M2,e2,S2⟩:=am8 (m:=m-1) (sc:=.fz (ns.map D.int)) (b2:=sI i) (b3:=G) (b4:=U) (b5:=R) (b6:=b6) (b7:=b7) (b8:=Z) (by lia) h1;exact⟨_,.next,_,M2,rfl,e2,.inl rfl,⟨_,c3,c4,c5,c6,c7,c8,rfl⟩,S2.has⟩)
 have e':acs.den (PW (m-1)) _ _=_:=e;exact⟨M',by simp[Fn.run,ahs,aql,s0,e']⟩
end K75
namespace L2
open PySem PySem.Spec PyProof.Rows
abbrev Key:=Sum Int Str
noncomputable def Uy:Key->Value->Bool
 |.inl k,v=>Value.isInt k v|.inr x,v=>Value.isStrOf x v
noncomputable def a5r(w:World):Key->Int
 |.inl k=>hashInt k|.inr x=>hashStr w x
theorem yx:∀{k:Key}{v:Value},Uy k v=true->(∃i t,k=Sum.inl i/\v=Value.int i t)\/(∃x t,k=Sum.inr x/\v=Value.str x t)
 |.inl i,v,h=>by
  obtain⟨t,e⟩:=Value.isInt_shape (k:=i) (v:=v) h;exact .inl ⟨i,t,rfl,e⟩
 |.inr x,v,h=>by
  obtain⟨t,e⟩:=Value.isStrOf_shape (x:=x) (v:=v) h;exact .inr ⟨x,t,rfl,e⟩
def afo(i:Int)(t:Tok):Uy (.inl i) (.int i t)=true:=by simp[Uy,Value.isInt]
def afp(x:Str)(t:Tok):Uy (.inr x) (.str x t)=true:=by simp[Uy,Value.isStrOf]
def ata(a b:Int):decide ((Sum.inl a:Key)=Sum.inl b)=(a==b):=by
 by_cases e:a=b
 .subst e;simp
 .have h:¬(Sum.inl a:Key)=Sum.inl b:=λq=>e (Sum.inl.inj q)
  rw[qm h];exact(uh.mpr e).symm
def atb(a b:Str):decide ((Sum.inr a:Key)=Sum.inr b)=decide (a=b):=by
 by_cases e:a=b
 .subst e;simp
 .have h:¬(Sum.inr a:Key)=Sum.inr b:=λq=>e (Sum.inr.inj q)
  rw[qm h,qm e]
def atc(a:Int)(b:Str):decide ((Sum.inl a:Key)=Sum.inr b)=false:=qm (λq=>nomatch q)
def atd(a:Str)(b:Int):decide ((Sum.inr a:Key)=Sum.inl b)=false:=qm (λq=>nomatch q)
def sy(prog:Program)(w:World):PySem.KeyKind prog w Key where
 is:=Uy
 hash:=a5r w
 inj:=λv a b R G=>by
  rcases yx R with⟨i,t,rfl,rfl⟩|⟨x,t,rfl,rfl⟩
  .rcases yx G with⟨j,u,rfl,e⟩|⟨y,u,rfl,e⟩
   .injection e with e1 _;rw[e1]
   .exact nomatch e
  .rcases yx G with⟨j,u,rfl,e⟩|⟨y,u,rfl,e⟩
   .exact nomatch e
   .injection e with e1 _;rw[e1]
 byValue:=λk v h=>by rcases yx h with⟨i,t,rfl,rfl⟩|⟨x,t,rfl,rfl⟩<;>rfl
 pyHash:=λZ h=>by
  rcases yx Z with⟨i,t,rfl,rfl⟩|⟨x,t,rfl,rfl⟩
  .exact wpAny_pyHash_int h
  .exact wpAny_pyHash_str h
 eqBool:=λU Z h=>by
  rcases yx U with⟨i,t,rfl,rfl⟩|⟨x,t,rfl,rfl⟩
  .rcases yx Z with⟨j,u,rfl,rfl⟩|⟨y,u,rfl,rfl⟩
   .rw[ata] at h;exact wpAny_eqBool_int h
   .rw[atc] at h;exact SeqAt.EqAt.int_str i t y u _ _ _ _ h
  .rcases yx Z with⟨j,u,rfl,rfl⟩|⟨y,u,rfl,rfl⟩
   .rw[atd] at h;exact SeqAt.EqAt.str_int x t j u _ _ _ _ h
   .rw[atb] at h;exact wpAny_eqBool_str h
 «strs»:=λk x t v h=>by
  rcases yx h with⟨i,u,rfl,e⟩|⟨y,u,rfl,e⟩
  .exact nomatch e
  .injection e with e1 _
   subst e1;cases v<;>rfl
def Yx(prog:Program)(w:World)(i:Int)(t:Tok):(sy prog w).is (.inl i) (.int i t)=true:=afo i t
def Yy(prog:Program)(w:World)(x:Str)(t:Tok):(sy prog w).is (.inr x) (.str x t)=true:=afp x t
end L2
namespace L2
open PySem PySem.Spec PyProof.Rows
set_option genInjectivity true in
inductive V where
 |non|bl (b:Bool)|int (i:Int)|str (x:Str)|byt (b:Array UInt8)|flt (b:UInt64)|ref (a:Addr)|ty (n:String)
 deriving DecidableEq
def RelV:V->Value->Prop
 |.non,u=>u=Value.none|.bl b,u=>u=Value.bool b|.int i,u=>∃t,u=Value.int i t|.str x,u=>∃t,u=Value.str x t|.byt b,u=>∃t,u=Value.bytes b t|.flt b,u=>∃t,u=Value.float b t|.ref a,u=>u=Value.ref a|.ty n,u=>u=Value.type n
abbrev Vals:List V->List Value->Prop:=Paired RelV
theorem Vals.length(r:Vals Z G):Z.length=G.length:=Paired.length r
theorem Vals.get:∀{Z:List V}{G:Zl}{i:Nat}{x:V},Vals Z G->Z[i]?=some x->∃u,G[i]?=some u/\RelV x u
 |_,_,_,_,.nil,e=>by simp at e|_,_,0,_,.cons r _,e=>by simp at e;subst e;exact⟨_,rfl,r⟩
 |_,_,i+1,x,.cons _ t,e=>by
  obtain⟨u,R,U⟩:=Vals.get (i:=i) (x:=x) t (by simpa using e);exact⟨u,by simpa using R,U⟩
theorem Vals.set{x:V}{u:Value}(r:RelV x u):∀{Z:List V}{G:Zl}(i:Nat),Vals Z G->Vals (Z.set i x) (G.set i u)
 |_,_,_,.nil=>.nil|_,_,0,.cons _ t=>.cons r t|_,_,i+1,.cons q t=>.cons q (Vals.set r i t)
theorem Vals.append:∀{Z U:List V}{R G:Zl},Vals Z R->Vals U G->Vals (Z++U) (R++G):=by intro _ _ _ _ h r;induction h with|nil=>exact r|cons q t ih=>exact .cons q ih
theorem Vals.take:∀{Z:List V}{G:Zl}(n:Nat),Vals Z G->Vals (Z.take n) (G.take n)
 |_,_,0,_=>.nil|_,_,_+1,.nil=>.nil|_,_,n+1,.cons r t=>.cons r (Vals.take n t)
theorem Vals.drop:∀{Z:List V}{G:Zl}(n:Nat),Vals Z G->Vals (Z.drop n) (G.drop n)
 |_,_,0,r=>r|_,_,_+1,.nil=>.nil|_,_,n+1,.cons _ t=>Vals.drop n t
def Il:Option V->Option Value->Prop
 |some v,some u=>RelV v u|none,none=>True|_,_=>False
def KV{Z:Type}:List (Z×V)->List (Z×Value)->Prop:=Paired λ(p:Z×V) (q:Z×Value)=>p.1=q.1/\RelV p.2 q.2
noncomputable def kV:Key->V
 |.inl i=>.int i|.inr x=>.str x
inductive HO where
 |lst (xs:List V)
 |tup (xs:List V)
 |dK (m9:List (Key×V))|dT (m9:List (List Key×V))
 |set (S:Int->Bool) (n:Nat)
 |ins (C dx:Addr) (fs:List (Str×V))
 |own (x:Addr)
 |xd (fs:List (Str×V))
 |met (f x:Addr)
 |T6 (lo hi:Int)
 |Gu (o:Obj) (u:HO)
 |tbl (ps:Xt)
 |ext (φ:Heap->Prop)
abbrev Hp:=Addr->Option HO
noncomputable def upd(H:Hp)(a:Addr)(o:HO):Hp:=λb=>if b=a then some o else H b
def qu:upd H a o a=some o:=by unfold upd;rw[bh rfl]
def jy(h:b≠a):upd H a o b=H b:=by unfold upd;rw[bj h]
def Yz{H:Hp}(h:H a=some o)(Z:H b=some u)(d:o≠u):a≠b:=by intro e;subst e;rw[h] at Z;exact d (gj Z)
def kj{H:Hp}(h:H a=some o)(Z:H b=none):a≠b:=by intro e;subst e;rw[h] at Z;cases Z
section
variable(P:Program)(w:World)
def Qi(h:Heap)(a:Addr)(Z:Xt):Prop:=∃o,h.get? a=some o/\o.cls=.type "tuple"/\∃n,o.data=.seq Z n/\o.dict=none
def Qi.is(x:Qi h a items):IsTup h a items:=let ⟨o,h1,h2,n,h3,_⟩:=x;⟨o,h1,h2,n,h3⟩
def Qi.new(h:Heap)(items:Xt):Qi (h.push { cls:=.type "tuple",data:=.seq items }) h.objs.size items:=⟨_,bc _ rfl,rfl,_,rfl,rfl⟩
def yt(H:Hp)(h:Heap)(a:Addr):HO->Prop
 |.lst Z=>Z.length<=sizeLine/\∃(U:Zl)(n:Nat),Vals Z U/\h.get? a=some { cls:=.type "list",data:=.seq U.toArray n }|.tup Z=>Z.length<=sizeLine/\∃U:List Value,Vals Z U/\Qi h a U.toArray|.dK m9=>m9.length<=sizeLine/\(a==sysModules)=false/\∃R,KV m9 R/\h.DictOf (sy P w) a R
 |.dT m9=>m9.length<=sizeLine/\(a==sysModules)=false/\∃Z:List (List Key×Addr×Value),
  Paired (λ(p:List Key×V) (q:List Key×Addr×Value)=>p.1=q.1/\H q.2.1=some (.tup (p.1.map kV))/\RelV p.2 q.2.2) m9 Z /\
  ∃o es ep,h.get? a=some o/\o.ExactDict/\o.data=.dict es ep/\es.toList=Z.map (entryOfKey (tupleKind (sy P w)))/\(Z.map (·.1)).Nodup
 |.set S n=>h.SetOf (intKind P w) a S n
 |.ins C dx fs=>H dx=some (.own a)/\fs.length<=1000/\dx≠a/\h.get? a=some (PySem.W.instObj C dx) /\
  ∃G,h.Ns1 dx G/\(∀f,Il (fs.lookup f) (G f))/\PySem.Within G (fs.map (·.1))
 |.own _=>∃o,h.get? a=some o|.xd fs=>∃G,h.Ns1 a G/\∀f,Il (fs.lookup f) (G f)|.T6 lo hi=>∃t u v,h.get? a=some { cls:=.type "range",data:=.fields #[.int lo t,.int hi u,.int 1 v] }|.Gu o u=>h.get? a=some o/\yt H h a u|.tbl ps=>h.get? a=some { cls:=.none,data:=.fields ps }|.met f x=>h.get? a=some (PySem.W.methodObj (.ref f) (.ref x))|.ext φ=>φ h/\(∃o,h.get? a=some o)/\∀h1 h2:Heap,φ h1->(∀o,h1.get? a=some o->h2.get? a=some o)->φ h2
def K6(H:Hp)(h:Heap):Prop:=∀a o,H a=some o->yt P w H h a o
end
theorem yt.lt(x:yt P w H h a o):a<h.objs.size:=by
 cases o with
 |lst G=>obtain⟨_,_,_,_,e⟩:=x;exact au e
 |tup G=>obtain⟨_,_,_,p⟩:=x;exact(Qi.is p).lt
 |dK Z=>obtain⟨_,_,_,_,o,_,_,e,_⟩:=x;exact au e
 |dT Z=>obtain⟨_,_,_,_,o,_,_,e,_⟩:=x;exact au e
 |set S n=>obtain⟨o,_,_,_,e,_⟩:=x;exact au e
 |ins C dx fs=>obtain⟨_,_,_,e,_⟩:=x;exact au e
 |own y=>obtain⟨_,e⟩:=x;exact au e
 |xd fs=>obtain⟨_,⟨_,_,_,e,_⟩,_⟩:=x;exact au e
 |T6 U hi=>obtain⟨_,_,_,e⟩:=x;exact au e
 |Gu ob u=>obtain⟨e,_⟩:=x;exact au e
 |tbl R=>exact au (show h.get? a=some _ from x)
 |met f y=>exact au (show h.get? a=some _ from x)
 |ext φ=>obtain⟨_,⟨_,e⟩,_⟩:=x;exact au e
theorem Paired.atf{R β:Type}{F G:R->β->Prop}:∀{U:List R}{Z:List β},Paired F U Z->(∀a b,F a b->G a b)->Paired G U Z:=by intro _ _ h f;induction h with|nil=>exact .nil|cons r t ih=>exact .cons (f _ _ r) ih
def yt.stay(x:yt P w H h a o)(k:∀b u,(b=a\/H b=some (.own a))->h.get? b=some u->h'.get? b=some u)(ho:∀b,H b=some (.own a)->H' b=some (.own a))(ht:∀b R,H b=some (.tup R)->H' b=some (.tup R)):yt P w H' h' a o:=by
 induction o with
 |lst R=>obtain⟨z,q9,n,r,e⟩:=x;exact⟨z,q9,n,r,k _ _ (.inl rfl) e⟩
 |tup R=>obtain⟨z,q9,r,Z,e,c⟩:=x;exact⟨z,q9,r,Z,k _ _ (.inl rfl) e,c⟩
 |dK m9=>obtain⟨z,y,vs,r,Z,G,U,e,c⟩:=x;exact⟨z,y,vs,r,Z,G,U,k _ _ (.inl rfl) e,c⟩
 |dT m9 =>
  obtain⟨z,y,R,r,Z,G,U,e,c⟩:=x;exact⟨z,y,R,Paired.atf r λp q z=>⟨z.1,ht _ _ z.2.1,z.2.2⟩,Z,G,U,k _ _ (.inl rfl) e,c⟩
 |set S n=>obtain⟨Z,G,U,t,e,c⟩:=x;exact⟨Z,G,U,t,k _ _ (.inl rfl) e,c⟩
 |ins C dx fs =>
  obtain⟨d,z,ne,e,mA,⟨od,G,U,e2,c⟩,r⟩:=x;exact⟨ho _ d,z,ne,k _ _ (.inl rfl) e,mA,⟨od,G,U,k _ _ (.inr d) e2,c⟩,r⟩
 |own y=>obtain⟨Z,e⟩:=x;exact⟨Z,k _ _ (.inl rfl) e⟩
 |xd fs=>obtain⟨mA,⟨od,G,U,e,c⟩,r⟩:=x;exact⟨mA,⟨od,G,U,k _ _ (.inl rfl) e,c⟩,r⟩
 |T6 lo hi=>obtain⟨t,u,v,e⟩:=x;exact⟨t,u,v,k _ _ (.inl rfl) e⟩
 |Gu Z u ih=>obtain⟨e,q⟩:=x;exact⟨k _ _ (.inl rfl) e,ih q⟩
 |tbl ps =>
  have e:h.get? a=some { cls:=.none,data:=.fields ps }:=x;show h'.get? a=some { cls:=.none,data:=.fields ps };exact k a _ (.inl rfl) e
 |met f y =>
  have e:h.get? a=some (PySem.W.methodObj (.ref f) (.ref y)):=x;show h'.get? a=some (PySem.W.methodObj (.ref f) (.ref y));exact k a _ (.inl rfl) e
 |ext φ=>obtain⟨p,⟨o,e⟩,st⟩:=x;exact⟨st _ _ p λo q=>k _ _ (.inl rfl) q,⟨o,k _ _ (.inl rfl) e⟩,st⟩
theorem K6.lt(x:K6 P w H h)(e:H a=some o):a<h.objs.size:=(x a o e).lt
def K6.fresh(x:K6 P w H h)(e:h.objs.size<=a):H a=none:=by
 cases q:H a with
 |none=>rfl|some u=>exact absurd (gf (x.lt q) e) (lg _)
def K6.kept(x:K6 P w H h)(k:∀b u,h.get? b=some u->h'.get? b=some u):K6 P w H h':=λa o e =>
 (x a o e).stay (λb u _ q=>k b u q) (λ_ q=>q) λ_ _ q=>q
def K6.laid(x:K6 P w H h)(k:∀b u,h.get? b=some u->h'.get? b=some u)(U:h.objs.size<=a)(new:yt P w (upd H a o) h' a o):K6 P w (upd H a o) h':=λb u e=>by
 have Z:=x.fresh U
 by_cases G:b=a
 .subst G;rw[qu] at e;cases e;exact new
 .rw[jy G] at e
  exact(x b u e).stay (λc v _ q=>k c v q) (λc q=>by rw[jy (kj q Z)];exact q) λc R q=>by rw[jy (kj q Z)];exact q
def Rd(H:Hp)(a:Addr)(u:HO):Prop:=H a=some u\/∃o,H a=some (.Gu o u)
def Rd.ok(r:Rd H a u)(x:K6 P w H h):yt P w H h a u:=by
 rcases r with r|⟨o,r⟩
 .exact x a u r
 .obtain⟨_,q⟩:=x a _ r
  exact q
def Mut:Option HO->Prop
 |some (.lst _)=>True|some (.dK _)=>True|some (.dT _)=>True|some (.set _ _)=>True|some (.ins _ _ _)=>True|some (.ext _)=>True|_=>False
def K6.write(ok:K6 P w H h)(mu:Mut (H x))(he:e=x\/H e=some (.own x))(k:∀b u,b≠e->h.get? b=some u->h'.get? b=some u)(qk:∃u,h'.get? e=some u)(new:yt P w (upd H x o') h' x o'):K6 P w (upd H x o') h':=λb u q=>by
 have G:∀c y,H c=some (.own y)->c≠x:=λc y r z=>by subst z;rw[r] at mu;exact mu
 have qq:∀c R,H c=some (.tup R)->c≠x:=λc R r z=>by subst z;rw[r] at mu;exact mu
 by_cases hb:b=x
 .subst hb;rw[qu] at q;cases q;exact new
 .rw[jy hb] at q
  by_cases Z:b=e
  .have q':H b=some (.own x):=by
    rcases he with z|z
    .exact absurd (Z.trans z) hb
    .rw[Z];exact z
   rw[q] at q';cases q';obtain⟨v,hv⟩:=qk;exact⟨v,by rw[Z];exact hv⟩
  .refine(ok b u q).stay (λc v U r=>k c v ?_ r) (λc r=>by rw[jy (G c b r)];exact r) λc R r=>by rw[jy (qq c R r)];exact r
   rcases U with rfl|U
   .exact Z
   .rintro rfl
    rcases he with z|z
    .exact G c b U z
    .rw[U] at z;cases z;exact hb rfl
structure Un(fs ex:X1)(H H':Hp)(h h':Heap):Prop where
 keep:∀b o,h.get? b=some o->H b=none->b∉fs->b∉ex->h'.get? b=some o
 slot:∀b o,h.get? b=some o->H b=none->b∈fs->b∉ex->∃sl,h'.get? b=some { o with slots:=sl }
 free:∀b o,h.get? b=some o->H b=none->b∉ex->H' b=none
 there:∀b o,h.get? b=some o->b∉ex->∃o',h'.get? b=some o'
 Sd:∀b xs,H b=some (.tup xs)->H' b=some (.tup xs)
 Wo:∀b o u,H b=some (.Gu o u)->H' b=some (.Gu o u)
 Y0:∀b ps,H b=some (.tbl ps)->∃more,H' b=some (.tbl (ps++more))
def Un.any(u:Un fs ex H H1 h h1)(q:h.get? b=some Z)(n:H b=none)(U:b∉ex):∃R,h1.get? b=some { Z with slots:=R }:=by
 by_cases G:b∈fs
 .exact u.slot b Z q n G U
 .exact⟨Z.slots,u.keep b Z q n G U⟩
def Un.kept(k:∀b u,h.get? b=some u->h'.get? b=some u):Un fs ex H H h h' :=
 ⟨λb Z q _ _ _=>k b Z q,λb Z q _ _ _=>⟨Z.slots,k b Z q⟩,λ_ _ _ n _=>n,λb Z q _=>⟨Z,k b Z q⟩,λ_ _ q=>q,λ_ _ _ q=>q,λ_ G q=>⟨#[],by rw[q];simp⟩⟩
def Un.refl:Un fs ex H H h h:=Un.kept λ_ _ q=>q
theorem Un.laid(k:∀b u,h.get? b=some u->h'.get? b=some u)(G:h.objs.size<=a)(Z:H a=none):Un fs ex H (upd H a o) h h' where
 keep:=λb u q _ _ _=>k b u q
 slot:=λb u q _ _ _=>⟨u.slots,k b u q⟩
 free:=λb u q n _=>by rw[jy (fc (gf (au q) G))];exact n
 there:=λb u q _=>⟨u,k b u q⟩
 Sd:=λb U q=>by rw[jy (kj q Z)];exact q
 Wo:=λb u U q=>by rw[jy (kj q Z)];exact q
 Y0:=λb R q=>⟨#[],by rw[jy (kj q Z),q];simp⟩
def Un.write(G:Mut (H x))(he:e=x\/H e=some (.own x))(k:∀b u,b≠e->h.get? b=some u->h'.get? b=some u)(R:∃u,h'.get? e=some u):Un fs ex H (upd H x o) h h':=by
 have hx:∀b,H b=none->b≠x:=λb n z=>by subst z;rw[n] at G;exact G
 have hb:∀b,H b=none->b≠e:=λb n z=>by
  subst z;rcases he with r|r
  .exact hx b n r
  .rw[n] at r;cases r
 have U:∀b u,H b=some u->¬Mut (some u)->b≠x:=λb u q nm z=>by subst z;rw[q] at G;exact nm G
 refine⟨λb u q n _ _=>k b u (hb b n) q,λb u q n _ _=>⟨u.slots,k b u (hb b n) q⟩,λb u q n _=>by rw[jy (hx b n)];exact n,λb u q _=>?_,
  λb xs q=>by rw[jy (U b _ q λz=>z)];exact q,λb u xs q=>by rw[jy (U b _ q λz=>z)];exact q,λb ps q=>⟨#[],by rw[jy (U b _ q λz=>z),q];simp⟩⟩
 by_cases Z:b=e
 .subst Z;exact R
 .exact⟨u,k b u Z q⟩
noncomputable def trk(h:Heap)(H:Hp):List Addr:=(List.range h.objs.size).filter λa=>(H a).isSome
def Wq(h:Heap)(H:Hp):Heap:=PySem.W.hideAll h (trk h H)
def afq(h:Heap)(H:Hp):(Wq h H).objs.size=h.objs.size:=PySem.W.hideAll_size _ _
def aix(e:h.get? b=some o)(n:H b=none):(Wq h H).get? b=some o :=
 PySem.W.hideAll_get _ e λZ=>by have q:(H b).isSome=true:=(tu.mp Z).2;rw[n] at q;simp at q
def am9(e:(Wq h H).get? b=some o):h.get? b=some o/\H b=none:=by
 have Z:h.get? b=some o:=PySem.W.of_hideAll (trk h H) e;refine⟨Z,?_⟩;cases q:H b with
 |none=>rfl
 |some x =>
  have G:b∈trk h H:=tu.mpr ⟨km.mpr (au Z),by simp[q]⟩;have z:(Wq h H).get? b=none:=PySem.W.hideAll_none (trk h H) G;rw[z] at e;cases e
end L2
namespace L2
open PySem PySem.Spec PyProof.Rows
structure Mod(K:Fg)(mg:Zs)(base:Heap):Prop where
 kin:K.In base
 glob:base.Ns mainGlobals mg
 blt:∃mb,base.Ns builtinsNs mb/\∀x:Str,x≠"__name__" -> mb x=bootBuiltins x
 nolimit:base.NoLimit
structure Cx where
 prog:Program
 w:World
 K:Fg
 mg:Str->Option Value
 base:Heap
 A:Around
 N:List Str
 s₀:Shared
 H₀:Hp
 env:Env
 outer:List Env
 stack:List Env
 ex:List Addr
 fn:Str->Bool
 calm:Bool
 pn:List (Addr×Obj)
 xe:Value->Shared->Prop
noncomputable def frs(l:List Env):List Addr:=l.filterMap (·.frame)
abbrev Cx.fs(X:Cx):List Addr:=frs X.outer
def Vis(Z:Scope)(x:Str):Prop:=Z.names.lookup x=some .local\/Z.names.lookup x=some .cell\/Z.names.lookup x=some .free
def Loc(Z:Scope)(x:Str):Prop:=Z.names.lookup x=some .local\/Z.names.lookup x=some .cell
def Look(Z:Env)(h:Heap)(m:Zs)(x:Str)(u:Value):Prop :=
 (Z.kindOf x=some .local/\m x=some u)\/((Z.kindOf x=some .cell\/Z.kindOf x=some .free)/\∃c,Z.cells.lookup x=some c/\h.IsCell c (some u))
structure Cx.Ok(X:Cx):Prop where
 mod:Mod X.K X.mg X.base
 kind:X.env.scope.kind=.function
 glob:X.env.globals=mainGlobals
 blt:X.env.builtins=builtinsNs
 above:X.s₀.heap.objs.size<=X.env.locals
 inj:∀x y c,X.env.cells.lookup x=some c->X.env.cells.lookup y=some c->x=y
 has:∀x,(X.env.kindOf x=some .cell\/X.env.kindOf x=some .free)->∃c,X.env.cells.lookup x=some c
 cab:∀x c,X.fn x=true->X.env.cells.lookup x=some c->X.s₀.heap.objs.size<=c
 hd:X.calm=true->X.A.handled=none
 frames:X.A.frames=some X.stack
 stk:X.stack=X.outer\/(X.stack=X.env::X.outer/\X.env.frame=some X.env.locals)
 exf:∀b∈X.ex,b≠X.env.locals/\∀x c,X.env.cells.lookup x=some c->c≠b
 bs:∀b o,X.base.get? b=some o->X.s₀.heap.get? b=some o/\X.H₀ b=none
 bsz:X.base.objs.size<=X.s₀.heap.objs.size
 aiz:∀b o,X.base.get? b=some o->b∉X.ex
 anb:∀b∈X.ex,b∉X.fs
 Qj:X.s₀.heap.FunFrames X.base X.outer
 frf:∀b∈X.fs,X.H₀ b=none
structure Inv(X:Cx)(pins:Zp)(σ:List (Option V))(H:Hp)(s:Shared):Prop where
 ok:X.Ok
 os:s.os=X.s₀.os
 bare:AllBare s.gens
 base:Un X.fs X.ex X.H₀ H X.s₀.heap s.heap
 loc:∃m,s.heap.Ns X.env.locals m/\∀(i:Nat)(x:Str)(v:V),X.N[i]?=some x->σ[i]?=some (some v)->Vis X.env.scope x->∃u,RelV v u/\Look X.env s.heap m x u
 cell:∀x c,X.env.cells.lookup x=some c->∃v,s.heap.IsCell c v
 free:H X.env.locals=none
 Jt:∀x c,X.env.cells.lookup x=some c->H c=none
 pin:∀p∈X.pn++pins,s.heap.get? p.1=some p.2/\H p.1=none/\p.1≠X.env.locals/\p.1∉X.fs/\∀v,p.2.data≠.cell v
 yf:K6 X.prog X.w H s.heap
 len:σ.length=X.N.length
def Cx.Ok.a5t{X:Cx}(ok:X.Ok)(e:X.base.get? b=some o):b∉X.fs:=λZ=>by have:=(ok.Qj.mem Z).1;rw[e] at this;cases this
theorem Inv.bs(I:Inv X pins σ H s):∀b o,X.base.get? b=some o->s.heap.get? b=some o/\H b=none:=λb o e =>
 ⟨I.base.keep b o (I.ok.bs b o e).1 (I.ok.bs b o e).2 (I.ok.a5t e) (I.ok.aiz b o e),I.base.free b o (I.ok.bs b o e).1 (I.ok.bs b o e).2 (I.ok.aiz b o e)⟩
def Inv.bk(I:Inv X pins σ H s):∀b o,X.base.get? b=some o->s.heap.get? b=some o:=λb o e=>(I.bs b o e).1
theorem Inv.mod(I:Inv X pins σ H s):Mod X.K X.mg X.base:=I.ok.mod
def Inv.kIn(I:Inv X pins σ H s):X.K.In s.heap:=I.ok.mod.kin.keeps I.bk
theorem Inv.lt(I:Inv X pins σ H s):X.env.locals<s.heap.objs.size:=let ⟨_,hn,_⟩:=I.loc;hn.lt
def Inv.sz(I:Inv X pins σ H s):X.s₀.heap.objs.size<=s.heap.objs.size:=bw I.ok.above (u9 I.lt)
def Inv.aym(I:Inv X pins σ H s)(h:s.heap.objs.size<=a):a∉X.fs:=λZ=>by obtain⟨_,o,G,_⟩:=I.ok.Qj.mem Z;exact absurd (gf (au G) (bw I.sz h)) (lg _)
def Inv.cne(I:Inv X pins σ H s):∀x c,X.env.cells.lookup x=some c->c≠X.env.locals:=λx c e z=>by obtain⟨v,o,R,U⟩:=I.cell x c e;obtain⟨m,⟨o',es,ep,Z,G,_⟩,_⟩:=I.loc;rw[z,Z] at R;cases R;rw[G] at U;cases U
theorem Inv.Qj(I:Inv X pins σ H s):s.heap.FunFrames X.base X.outer:=by
 have all:∀(l:List Env),(∀b∈frs l,b∈X.fs)->X.s₀.heap.FunFrames X.base l->s.heap.FunFrames X.base l:=by
  intro l
  induction l with
  |nil=>intro _ _;trivial
  |cons qq r ih =>
   intro R hl;obtain⟨hk,⟨L,o,G,hn,ho,hd⟩,hr⟩:=hl;have U:L∈X.fs:=R L (by unfold frs;rw[List.filterMap_cons,G];exact bz);obtain⟨sl,e⟩:=I.base.slot L o ho (I.ok.frf L U) U λz=>I.ok.anb L z U
   exact⟨hk,⟨L,_,G,hn,e,hd⟩,ih (λb Z=>R b (by unfold frs;rw[List.filterMap_cons,G];exact bu _ Z)) hr⟩
 exact all X.outer (λ_ Z=>Z) I.ok.Qj
theorem Inv.stack(I:Inv X pins σ H s):s.heap.FunFrames X.base X.stack:=by
 rcases I.ok.stk with e|⟨e,hf⟩
 .rw[e];exact I.Qj
 .rw[e]
  obtain⟨m,Z,_⟩:=I.loc;refine .cons (by rw[I.ok.kind];decide) hf Z ?_ I.Qj;exact Heap.get?_none_of_le (bw I.ok.bsz I.ok.above)
def Inv.Wr(I:Inv X pins σ H s):∀b∈frs X.stack,b∈X.env.locals::X.fs:=λb Z=>by
 rcases I.ok.stk with e|⟨e,hf⟩
 .rw[e] at Z;exact bu _ Z
 .rw[e] at Z
  unfold frs at Z;rw[List.filterMap_cons,hf] at Z;exact Z
def Inv.adp(I:Inv X pins σ H s):∀b∈frs X.stack,H b=none:=λb Z=>by
 rcases dh.mp (I.Wr b Z) with e|Z
 .rw[e];exact I.free
 .obtain⟨_,o,G,_⟩:=I.ok.Qj.mem Z
  exact I.base.free b o G (I.ok.frf b Z) λz=>I.ok.anb b z Z
def Inv.step{ch:X1}(I:Inv X pins σ H s)(U:∀b∈ch,(b∈X.ex\/X.s₀.heap.objs.size<=b)/\b≠X.env.locals/\(∀x c,X.env.cells.lookup x=some c->c≠b)/\∀p∈X.pn++pins,p.1≠b)(qq:∀b o,b≠X.env.locals->b∉X.fs->b∉ch->s.heap.get? b=some o->H b=none->h'.get? b=some o)(qv:∀b o,b≠X.env.locals->b∈X.fs->b∉ch->s.heap.get? b=some o->H b=none->∃sl,h'.get? b=some { o with slots:=sl })(free:∀b o,b∉ch->s.heap.get? b=some o->H b=none->H' b=none)(q0:∀b o,b∉ch->s.heap.get? b=some o->∃o',h'.get? b=some o')(Sd:∀b xs,H b=some (.tup xs)->H' b=some (.tup xs))(Wo:∀b o u,H b=some (.Gu o u)->H' b=some (.Gu o u))(Y0:∀b ps,H b=some (.tbl ps)->∃more,H' b=some (.tbl (ps++more)))(ns:∀m,s.heap.Ns X.env.locals m->h'.Ns X.env.locals m)(yf:K6 X.prog X.w H' h')(hg:AllBare g') :
 Inv X pins σ H' { s with heap:=h',gens:=g',drawn:=d',toks:=t' }:=by
 have q1:∀b o,X.s₀.heap.get? b=some o->b≠X.env.locals:=λb o e=>fc (gf (au e) I.ok.above)
 have qk:∀b o,X.s₀.heap.get? b=some o->b∉X.ex->b∉ch:=λb o e Z hb=>by
  rcases(U b hb).1 with z|z
  .exact Z z
  .exact absurd (gf (au e) z) (lg _)
 have R:∀x c,X.env.cells.lookup x=some c->∀v,s.heap.IsCell c v->h'.IsCell c v:=λx c e v ⟨o,ho,hd⟩=>by
  have G:c∉ch:=λz=>(U c z).2.2.1 x c e rfl
  by_cases hc:c∈X.fs
  .obtain⟨sl,q⟩:=qv c o (I.cne x c e) hc G ho (I.Jt x c e)
   exact⟨_,q,hd⟩
  .exact⟨o,qq c o (I.cne x c e) hc G ho (I.Jt x c e),hd⟩
 refine⟨I.ok,I.os,hg,⟨λb o e n hb Z=>?_,λb o e n hb Z=>?_,λb o e n Z=>?_,λb o e Z=>?_,λb xs e=>Sd b xs (I.base.Sd b xs e),λb o xs e=>Wo b o xs (I.base.Wo b o xs e),λb ps e=>?_⟩,?_,λx c e=>?_,?_,λx c e=>?_,λp hp=>?_,yf,I.len⟩
 .exact qq b o (q1 b o e) hb (qk b o e Z) (I.base.keep b o e n hb Z) (I.base.free b o e n Z)
 .obtain⟨sl,e1⟩:=I.base.slot b o e n hb Z
  obtain⟨q2,e2⟩:=qv b _ (q1 b o e) hb (qk b o e Z) e1 (I.base.free b o e n Z);exact⟨q2,e2⟩
 .obtain⟨o',e1⟩:=I.base.there b o e Z
  exact free b o' (qk b o e Z) e1 (I.base.free b o e n Z)
 .obtain⟨o',e1⟩:=I.base.there b o e Z
  exact q0 b o' (qk b o e Z) e1
 .obtain⟨m1,e1⟩:=I.base.Y0 b ps e
  obtain⟨m2,e2⟩:=Y0 b _ e1;exact⟨m1++m2,by rw[e2,Array.append_assoc]⟩
 .obtain⟨m,hn,hl⟩:=I.loc
  refine⟨m,ns m hn,λi x v e1 e2 e3=>?_⟩;obtain⟨u,r,l⟩:=hl i x v e1 e2 e3;refine⟨u,r,?_⟩;rcases l with l|⟨k,c,e,z⟩
  .exact .inl l
  .exact .inr ⟨k,c,e,R x c e _ z⟩
 .obtain⟨v,z⟩:=I.cell x c e
  exact⟨v,R x c e v z⟩
 .obtain⟨m,⟨o,_,_,ho,_⟩,_⟩:=I.loc
  exact free _ o (λz=>(U _ z).2.1 rfl) ho I.free
 .obtain⟨v,o,ho,hd⟩:=I.cell x c e
  exact free c o (λz=>(U c z).2.2.1 x c e rfl) ho (I.Jt x c e)
 .obtain⟨e,n,ne,nf,d⟩:=I.pin p hp
  have G:p.1∉ch:=λz=>(U p.1 z).2.2.2 p hp rfl
  exact⟨qq p.1 p.2 ne nf G e n,free p.1 p.2 G e n,ne,nf,d⟩
def Inv.un(I:Inv X pins σ H s)(u:Un X.fs [] H H' s.heap h')(yf:K6 X.prog X.w H' h'):Inv X pins σ H' { s with heap:=h',toks:=t' }:=by
 obtain⟨m,⟨o,es,ep,ho,r⟩,_⟩:=id I.loc;obtain⟨sl,hL⟩:=u.any ho I.free (by simp);exact I.step (g':=s.gens) (d':=s.drawn) (ch:=[]) (λ_ z=>nomatch z) (λb o _ U _ e n=>u.keep b o e n U (by simp)) (λb o _ U _ e n=>u.slot b o e n U (by simp)) (λb o _ e n=>u.free b o e n (by simp)) (λb o _ e=>u.there b o e (by simp)) u.Sd u.Wo u.Y0 (λm' hm=>by
  obtain⟨o',G,R,Z,r'⟩:=hm;rw[ho] at Z;cases Z;exact⟨_,G,R,hL,r'⟩) yf I.bare
def Inv.call(I:Inv X pins σ H s)(u:Un (frs X.stack) ch H H' s.heap h')(yf:K6 X.prog X.w H' h')(hg:AllBare g')(G:∀b∈ch,(b∈X.ex\/X.s₀.heap.objs.size<=b)/\b≠X.env.locals/\(∀x c,X.env.cells.lookup x=some c->c≠b)/\∀p∈X.pn++pins,p.1≠b) :
 Inv X pins σ H' { s with heap:=h',gens:=g',drawn:=d',toks:=t' }:=by
 obtain⟨m,⟨o,es,ep,ho,r⟩,_⟩:=id I.loc;obtain⟨sl,hL⟩:=u.any ho I.free λz=>(G _ z).2.1 rfl
 exact I.step (ch:=ch) G (λb o hL hb Z e n=>u.keep b o e n (λz=>(dh.mp (I.Wr b z)).elim hL hb) Z) (λb o _ _ Z e n=>u.any e n Z) (λb o Z e n=>u.free b o e n Z) (λb o Z e=>u.there b o e Z) u.Sd u.Wo u.Y0 (λm' hm=>by
  obtain⟨o',R,qq,U,r'⟩:=hm;rw[ho] at U;cases U;exact⟨_,R,qq,hL,r'⟩) yf hg
def Inv.turned(I:Inv X pins σ H s)(k:∀b o,b≠it->s.heap.get? b=some o->h'.get? b=some o)(hn:H it=none)(U:it≠X.env.locals)(h1:it∈X.ex\/X.s₀.heap.objs.size<=it)(h2:∀x c,X.env.cells.lookup x=some c->c≠it)(h3:∀p∈X.pn++pins,p.1≠it):Inv X pins σ H { s with heap:=h',toks:=t' }:=by
 have G:∀b u,H b=some u->b≠it:=λb u e z=>by rw[z,hn] at e;cases e
 refine I.step (g':=s.gens) (d':=s.drawn) (ch:=[it]) (λb hb=>?_) (λb o _ _ Z e _=>k b o (λz=>Z (by simp[z])) e) (λb o _ _ Z e _=>⟨o.slots,k b o (λz=>Z (by simp[z])) e⟩) (λ_ _ _ _ n=>n)
  (λb o Z e=>⟨o,k b o (λz=>Z (by simp[z])) e⟩) (λ_ _ e=>e) (λ_ _ _ e=>e) (λb ps e=>⟨#[],by rw[e];simp⟩) (λm hm=>?_) (λb u e=>?_) I.bare
 .have e:b=it:=by simpa using hb
  subst e;exact⟨h1,U,h2,h3⟩
 .obtain⟨o,es,R,ho,r⟩:=hm
  exact⟨o,es,R,k _ o (jh U) ho,r⟩
 .refine(I.yf b u e).stay (λc v Z q=>k c v ?_ q) (λ_ q=>q) λ_ _ q=>q
  rcases Z with z|z
  .rw[z];exact G b u e
  .exact G c _ z
def Inv.tok(I:Inv X pins σ H s)(t:Nat):Inv X pins σ H { s with toks:=t }:=I.un (h':=s.heap) (t':=t) Un.refl I.yf
theorem Inv.kept(I:Inv X pins σ H s)(k:∀b u,s.heap.get? b=some u->Z.get? b=some u):Inv X pins σ H { s with heap:=Z,toks:=t' }:=I.un (Un.kept k) (I.yf.kept k)
theorem Inv.laid(I:Inv X pins σ H s)(k:∀b u,s.heap.get? b=some u->h'.get? b=some u)(Z:s.heap.objs.size<=a)(new:yt X.prog X.w (upd H a o) h' a o) :
 Inv X pins σ (upd H a o) { s with heap:=h',toks:=t' }:=I.un (Un.laid k Z (I.yf.fresh Z)) (I.yf.laid k Z new)
theorem Inv.write(I:Inv X pins σ H s)(U:Mut (H x))(R:e=x\/H e=some (.own x))(k:∀b u,b≠e->s.heap.get? b=some u->G.get? b=some u)(Z:∃u,G.get? e=some u)(new:yt X.prog X.w (upd H x o) G x o):Inv X pins σ (upd H x o) { s with heap:=G,toks:=t' }:=I.un (Un.write U R k Z) (I.yf.write U R k Z new)
def Inv.weak(I:Inv X pins σ H s)(G:σ'.length=σ.length)(w:∀(i:Nat) v,σ'[i]?=some (some v)->σ[i]?=some (some v)):Inv X pins σ' H s :=
 ⟨I.ok,I.os,I.bare,I.base,let ⟨m,hn,hl'⟩:=I.loc;⟨m,hn,λi x v U R Z=>hl' i x v U (w i v R) Z⟩,I.cell,I.free,I.Jt,I.pin,I.yf,G.trans I.len⟩
def Inv.Ws(I:Inv X pins σ H s)(h:∀p∈adq,s.heap.get? p.1=some p.2/\H p.1=none/\p.1≠X.env.locals/\p.1∉X.fs/\∀v,p.2.data≠.cell v):Inv X adq σ H s :=
 ⟨I.ok,I.os,I.bare,I.base,I.loc,I.cell,I.free,I.Jt,λp Z=>(cg.mp Z).elim (λz=>I.pin p (ji _ z)) (h p),I.yf,I.len⟩
def Ft{N:Yf}(Z:N.Nodup){i:Nat}(a:N[i]?=some x)(b:N[j]?=some x):i=j:=by obtain⟨h1,G⟩:=ak.mp a;obtain⟨R,U⟩:=ak.mp b;exact(xq Z).mp (G.trans U.symm)
def afr(I:Inv X pins σ H s)(hN:X.N.Nodup)(hi:X.N[i]?=some x)(hx:Loc X.env.scope x)(r:RelV v u)(h:∀s',Inv X pins (σ.set i (some v)) H s'->(∃a,Heap.SameBut a s.heap s'.heap/\(a=X.env.locals\/X.env.cells.lookup x=some a))->Q () s')(hf:X.fn x=true\/X.env.scope.names.lookup x=some .local:=by first|exact .inl rfl|exact .inr rfl|assumption):wpAny M A (storeName X.env x u) Q E s:=by
 obtain⟨m,hn,hl⟩:=id I.loc;have q4:(X.env.scope.kind==.class||(X.env.scope.kind==.module&&X.env.locals != X.env.globals))=false:=by rw[I.ok.kind];rfl
 have qq:i < σ.length:=by rw[I.len];exact(ak.mp hi).1
 have cne:=I.cne;have U:∀{a:Addr}{h':Heap},(∃o,s.heap.get? a=some o/\H a=none)->Heap.SameBut a s.heap h'->K6 X.prog X.w H h':=fun{a h'} ha Z b ob e=>by
  obtain⟨_,_,Pq⟩:=ha;refine(I.yf b ob e).stay (λc w' R q=>(Z.2 c ?_).trans q) (λ_ q=>q) λ_ _ q=>q
  rintro rfl;rcases R with rfl|R
  .rw[Pq] at e;cases e
  .rw[Pq] at R;cases R
 rcases hx with hk|hk
 .refine wpAny_storeName_local hk hn (λh' Vx Z=>?_) q4
  obtain⟨oL,_,_,q2,_⟩:=id hn;refine h _ ⟨I.ok,I.os,I.bare,⟨λb o e n hb hx=>?_,λb o e n hb hx=>?_,I.base.free,λb o e hx=>?_,I.base.Sd,I.base.Wo,I.base.Y0⟩,⟨_,Vx,λj y v' G e2 e3=>?_⟩,λy c e=>?_,I.free,I.Jt,λp hp=>?_,U ⟨oL,q2,I.free⟩ Z,by simpa using I.len⟩ ⟨_,Z,.inl rfl⟩
  .exact(Z.2 b (fc (gf (au e) I.ok.above))).trans (I.base.keep b o e n hb hx)
  .obtain⟨sl,G⟩:=I.base.slot b o e n hb hx
   exact⟨sl,(Z.2 b (fc (gf (au e) I.ok.above))).trans G⟩
  .obtain⟨o',G⟩:=I.base.there b o e hx
   exact⟨o',(Z.2 b (fc (gf (au e) I.ok.above))).trans G⟩
  .by_cases hj:j=i
   .subst hj
    rw[hi] at G;cases G;rw[uo qq] at e2;cases e2;exact⟨u,r,.inl ⟨hk,by simp⟩⟩
   .rw[rz (jh hj)] at e2
    obtain⟨u',r',q⟩:=hl j y v' G e2 e3;refine⟨u',r',?_⟩;rcases q with⟨k,e⟩|⟨k,c,e,z⟩
    .refine .inl ⟨k,?_⟩
     have:y≠x:=λe=>hj (Ft hN G (e▸hi))
     simp[this,e]
    .exact .inr ⟨k,c,e,z.sameBut Z (cne y c e)⟩
  .obtain⟨w',z⟩:=I.cell y c e
   exact⟨w',z.sameBut Z (cne y c e)⟩
  .obtain⟨e,n,ne,nf,d⟩:=I.pin p hp
   exact⟨(Z.2 p.1 ne).trans e,n,ne,nf,d⟩
 .have qk:X.fn x=true:=by
   rcases hf with z|z
   .exact z
   .rw[z] at hk;cases hk
  obtain⟨c,R⟩:=I.ok.has x (.inl hk);obtain⟨w',z⟩:=I.cell x c R;refine wpAny_storeName_cell I.ok.kind hk R z (λh' q0 Z=>?_);obtain⟨oc,qv,q3⟩:=id z;refine h { s with heap:=h' } ⟨I.ok,I.os,I.bare,⟨λb o e n hb hx=>?_,λb o e n hb hx=>?_,I.base.free,λb o e hx=>?_,I.base.Sd,I.base.Wo,I.base.Y0⟩,⟨m,hn.sameBut Z (jh (cne x c R)),λj y v' G e2 e3=>?_⟩,λy c' e=>?_,I.free,I.Jt,λp hp=>?_,U ⟨oc,qv,I.Jt x c R⟩ Z,by simpa using I.len⟩ ⟨c,Z,.inr R⟩
  .exact(Z.2 b (fc (gf (au e) (I.ok.cab x c qk R)))).trans (I.base.keep b o e n hb hx)
  .obtain⟨sl,G⟩:=I.base.slot b o e n hb hx
   exact⟨sl,(Z.2 b (fc (gf (au e) (I.ok.cab x c qk R)))).trans G⟩
  .obtain⟨o',G⟩:=I.base.there b o e hx
   exact⟨o',(Z.2 b (fc (gf (au e) (I.ok.cab x c qk R)))).trans G⟩
  .by_cases hj:j=i
   .subst hj
    rw[hi] at G;cases G;rw[uo qq] at e2;cases e2;exact⟨u,r,.inr ⟨.inl hk,c,R,q0⟩⟩
   .rw[rz (jh hj)] at e2
    obtain⟨u',r',q⟩:=hl j y v' G e2 e3;refine⟨u',r',?_⟩;rcases q with q|⟨k,c',e,z'⟩
    .exact .inl q
    .refine .inr ⟨k,c',e,z'.sameBut Z ?_⟩
     rintro rfl;exact hj (Ft hN G (I.ok.inj _ _ _ e R▸hi))
  .by_cases q1:c'=c
   .subst q1;exact⟨_,q0⟩
   .obtain⟨w2,z2⟩:=I.cell y c' e
    exact⟨w2,z2.sameBut Z q1⟩
  .obtain⟨e,n,ne,nf,d⟩:=I.pin p hp
   refine⟨(Z.2 p.1 ?_).trans e,n,ne,nf,d⟩;intro q;rw[q,qv] at e;have q':oc=p.2:=gj e;exact d w' (by rw[<- q'];exact q3)
def ai2(I:Inv X pins σ H s)(G:X.N.Nodup)(R:X.N[i]?=some x)(U:Loc X.env.scope x)(r:RelV v u)(h:∀Z,Inv X pins (σ.set i (some v)) H Z->Q () Z)(hf:X.fn x=true\/X.env.scope.names.lookup x=some .local:=by first|exact .inl rfl|exact .inr rfl|assumption):wpAny M A (storeName X.env x u) Q E s :=
 afr I G R U r (λZ I' _=>h Z I') hf
def Inv.call'(I:Inv X pins σ H s)(ho:s'.os=s.os)(u:Un (frs X.stack) ch H R s.heap s'.heap)(yf:K6 X.prog X.w R s'.heap)(hg:AllBare s'.gens)(Z:∀b∈ch,(b∈X.ex\/X.s₀.heap.objs.size<=b)/\b≠X.env.locals/\(∀x c,X.env.cells.lookup x=some c->c≠b)/\∀p∈X.pn++pins,p.1≠b):Inv X pins σ R s':=by obtain⟨h',G,U,t',o'⟩:=s';have e:o'=s.os:=ho;subst e;exact I.call (g':=G) (t':=t') (d':=U) u yf hg Z
abbrev XK:=Value->Option Addr->Hp->Prop
abbrev St:=List (Option V)
abbrev VK:=V->Hp->Prop
abbrev TE:=St->Hp->VK->Prop
abbrev TT:=St->Hp->(Bool->Hp->Prop)->Prop
abbrev TA:=St->Hp->(List V->Hp->Prop)->Prop
structure Ends where
 nx:St->Hp->Prop
 rt:VK
 bk:St->Hp->Prop:=λ_ _=>False
 ct:St->Hp->Prop:=λ_ _=>False
abbrev TS:=Ends->St->Hp->Prop
def EP(X:Cx)(Z:Zp)(U:St)(Q:VK)(u:Value)(R:Shared):Prop:=∃v G,Inv X Z U G R/\RelV v u/\Q v G
def TP(X:Cx)(Z:Zp)(U:St)(Q:Bool->Hp->Prop)(b:Bool)(R:Shared):Prop:=∃G,Inv X Z U G R/\Q b G
def AP(X:Cx)(Z:Zp)(σ:St)(Q:List V->Hp->Prop)(us:Zl)(R:Shared):Prop:=∃G U,Inv X Z σ U R/\Vals G us/\Q G U
def SP(X:Cx)(G:Zp)(D:Ends)(f:Flow)(R:Shared):Prop :=
 match f with
 |.next=>∃Z U,Inv X G Z U R/\D.nx Z U|.brk=>∃Z U,Inv X G Z U R/\D.bk Z U|.cont=>∃Z U,Inv X G Z U R/\D.ct Z U|.ret u=>∃v Z U,Inv X G Z U R/\RelV v u/\D.rt v U
def PE(X:Cx)(e:Expr)(t:TE):Prop :=
 ∀(Z:Zp)(s:Shared)(G:St)(H:Hp)(Q:VK),Inv X Z G H s->t G H Q->wpAny (model X.prog X.w) X.A (eval e X.env) (EP X Z G Q) X.xe s
def PT(X:Cx)(e:Expr)(t:TT):Prop :=
 ∀(Z:Zp)(s:Shared)(G:St)(H:Hp)(Q:Bool->Hp->Prop),Inv X Z G H s->t G H Q->wpAny (model X.prog X.w) X.A (isTrue e X.env (eval e X.env)) (TP X Z G Q) X.xe s
def PW(X:Cx)(e:Expr)(t:TT):Prop :=
 ∀(G:Sem Value)(Z:Zp)(s:Shared)(U:St)(H:Hp)(Q:Bool->Hp->Prop),Inv X Z U H s->t U H Q->wpAny (model X.prog X.w) X.A (isTrue e X.env G) (TP X Z U Q) X.xe s
def PW.pt(h:PW X e t):PT X e t:=h _
def PA(X:Cx)(R:Ya)(t:TA):Prop :=
 ∀(U:Pos)(Z:Zp)(s:Shared)(G:St)(H:Hp)(Q:List V->Hp->Prop),Inv X Z G H s->t G H Q->wpAny (model X.prog X.w) X.A (spliced (backTo U (starEach R X.env))) (AP X Z G Q) X.xe s
def PS(X:Cx)(U:Stmt)(t:TS):Prop :=
 ∀(Z:Zp)(s:Shared)(G:St)(H:Hp)(D:Ends),Inv X Z G H s->t D G H->wpAny (model X.prog X.w) X.A (exec U X.env) (SP X Z D) X.xe s
def Nr(X:Cx)(U:List Stmt)(t:TS):Prop :=
 ∀(Z:Zp)(s:Shared)(G:St)(H:Hp)(D:Ends),Inv X Z G H s->t D G H->wpAny (model X.prog X.w) X.A (execs U X.env) (SP X Z D) X.xe s
def zj(h:wpAny M A t Q E s)(Z:∀a s,Q a s->G a s):wpAny M A t G E s:=my h Z λ_ _ x=>x
end L2
namespace L2
open PySem PySem.Spec PyProof.Rows
def a5y(i:Nat):TE:=λZ H Q=>∃v,Z[i]?=some (some v)/\Q v H
def tC(v:V):TE:=λ_ H Q=>Q v H
def atj(hN:X.N[i]?=some x)(hv:Vis X.env.scope x)(hd:(x==("__debug__" : Str))=false:=by decide)(R:(x==("__classdict__" : Str))=false:=by decide):PE X (.Name x pos) (a5y i):=by
 intro U s σ H Q I h;obtain⟨v,e,h⟩:=h;obtain⟨m,hn,hl⟩:=I.loc;obtain⟨u,r,l⟩:=hl i x v hN e hv;have fin:EP X U σ Q u s:=⟨v,H,I,r,h⟩;rcases l with⟨Z,hm⟩|⟨Z,c,hc,G⟩
 .exact wpAny_Name (wpAny_loadName_local I.ok.kind Z hn hm fin) hd
 .rcases Z with Z|Z
  .exact wpAny_Name (wpAny_loadName_cell I.ok.kind Z hc G fin) hd
  .exact wpAny_Name (wpAny_loadName_free I.ok.kind Z hc G fin R) hd
def atk:PE X (.Constant (.int i) j pos) (tC (.int i)):=λ_ _ _ H _ I h=>wpAny_Constant_int ⟨.int i,H,I.tok _,⟨_,rfl⟩,h⟩
def ayp:PE X (.Constant (.bool b) j pos) (tC (.bl b)):=λ_ _ _ H _ I h=>Constant_bool ⟨.bl b,H,I,rfl,h⟩
def atl:PE X (.Constant .none j pos) (tC .non):=λ_ _ _ H _ I h=>Constant_none ⟨.non,H,I,rfl,h⟩
def atm:PE X (.Constant (.str x) j pos) (tC (.str x)):=λ_ _ _ H _ I h=>Calls.Constant_str ⟨.str x,H,I.tok _,⟨_,rfl⟩,h⟩
def Gl(X:Cx)(x:Str):Prop:=X.env.kindOf x=some .globalImplicit
def Wt(I:Inv X pins σ H s)(Z:Gl X x)(G:X.mg x=some u)(h:Q u s)(U:(x==("__debug__" : Str))=false:=by decide):wpAny (model X.prog X.w) X.A (eval (.Name x pos) X.env) Q E s :=
 Calls.Name_function_global I.ok.kind Z (Calls.loadGlobal_global (by rw[I.ok.glob];exact I.mod.glob.keeps I.bk) G h) U
def Hr(I:Inv X pins σ H s)(Z:Gl X x)(U:X.mg x=none)(hv:bootBuiltins x=some u)(h:Q u s)(G:x≠"__name__" := by decide)(hd:(x==("__debug__" : Str))=false:=by decide):wpAny (model X.prog X.w) X.A (eval (.Name x pos) X.env) Q E s:=by obtain⟨mb,h1,R⟩:=I.mod.blt;exact Calls.Name_function_global I.ok.kind Z (Calls.loadGlobal_builtin (by rw[I.ok.glob];exact I.mod.glob.keeps I.bk) U (by rw[I.ok.blt];exact h1.keeps I.bk) ((R x G).trans hv) h) hd
def anc(Z:Gl X x)(G:X.mg x=some u)(r:RelV v u)(U:(x==("__debug__" : Str))=false:=by decide):PE X (.Name x pos) (tC v) :=
 λ_ _ _ H _ I h=>Wt I Z G ⟨v,H,I,r,h⟩ U
def tB(t:TE):TT:=λZ H Q=>t Z H λx G=>∃c,x=.bl c/\Q c G
def atn(h:PE X e t)(U:∀Z,isTrue e X.env Z=(do let v <- Z;standAt e.pos;holding [v] (truthy v)):=by intro _;rfl):PT X e (tB t):=by intro G s R H Q I hw;refine isTrue_plain (zj (h G s R H _ I hw) λv s1 ⟨x,H1,I1,r1,q1⟩=>?_) (U _);obtain⟨d,rfl,q⟩:=q1;cases r1;exact ju ⟨H1,I1,q⟩
def a5z(t u:TT):TT:=λZ H Q=>t Z H λc G=>if c=true then u Z G Q else Q false G
def tOr(t u:TT):TT:=λZ H Q=>t Z H λc G=>if c=true then Q true G else u Z G Q
def a6a(t:TT):TT:=λZ H Q=>t Z H λc G=>Q (!c) G
def ane(G:PT X a tA):PW X (.BoolOp .And [a] pos) tA:=by
 intro R Z s U H Q I h;refine isTrue_and (zj (G Z s U H Q I h) λc s1 e=>?_);cases c with
 |true=>exact isTrue_and_nil e|false=>exact e
def ato(G:PT X a tA):PW X (.BoolOp .Or [a] pos) tA:=by
 intro R Z s U H Q I h;refine isTrue_or (zj (G Z s U H Q I h) λc s1 e=>?_);cases c with
 |false=>exact isTrue_or_nil e|true=>exact e
def atp{Z:Ya}(ha:PT X a tA)(hb:PW X (.BoolOp .And (b::Z) pos) tB'):PW X (.BoolOp .And (a::b::Z) pos) (a5z tA tB'):=by
 intro wh G s σ H Q I h;refine isTrue_and (zj (ha G s σ H _ I h) λc s1 z_=>?_);obtain⟨R,U,q1⟩:=z_;cases c with
 |true=>exact hb wh G s1 σ R Q U q1|false=>exact⟨R,U,q1⟩
def ayq{Z:Ya}(ha:PT X a tA)(hb:PW X (.BoolOp .Or (b::Z) pos) tB'):PW X (.BoolOp .Or (a::b::Z) pos) (tOr tA tB'):=by
 intro wh G s σ H Q I h;refine isTrue_or (zj (ha G s σ H _ I h) λc s1 z_=>?_);obtain⟨R,U,q1⟩:=z_;cases c with
 |true=>exact⟨R,U,q1⟩|false=>exact hb wh G s1 σ R Q U q1
def ai4(U:PT X a tA):PT X (.UnaryOp .Not a pos) (a6a tA):=by intro Z s G H Q I h;exact isTrue_not (U Z s G H (λc R=>Q (!c) R) I h)
def ayr(U R:TE):TE:=λZ H Q=>U Z H λx G=>∃c,x=.bl c/\if c=true then R Z G Q else Q (.bl false) G
def a6c(U R:TE):TE:=λZ H Q=>U Z H λx G=>∃c,x=.bl c/\if c=true then Q (.bl true) G else R Z G Q
def ays(Z:TE):TE:=λG H Q=>Z G H λx U=>∃c,x=.bl c/\Q (.bl (!c)) U
def atq{Z:Ya}(ha:PE X a ta)(hb:PE X (.BoolOp .And (b::Z) pos) tb):PE X (.BoolOp .And (a::b::Z) pos) (ayr ta tb):=by
 intro G s σ H Q I h;refine BoolOp_and (zj (ha G s σ H _ I h) λv s1 z_=>?_);obtain⟨x,H1,R,r1,U⟩:=z_;obtain⟨c,rfl,U⟩:=U;cases r1;refine ju ?_;cases c with
 |true=>exact hb G s1 σ H1 Q R U|false=>exact⟨.bl false,H1,R,rfl,U⟩
def ayt{Z:Ya}(ha:PE X a ta)(hb:PE X (.BoolOp .Or (b::Z) pos) tb):PE X (.BoolOp .Or (a::b::Z) pos) (a6c ta tb):=by
 intro G s σ H Q I h;refine BoolOp_or (zj (ha G s σ H _ I h) λv s1 z_=>?_);obtain⟨x,H1,R,r1,U⟩:=z_;obtain⟨c,rfl,U⟩:=U;cases r1;refine ju ?_;cases c with
 |false=>exact hb G s1 σ H1 Q R U|true=>exact⟨.bl true,H1,R,rfl,U⟩
def atr(R:PE X a ta):PE X (.UnaryOp .Not a pos) (ays ta):=by intro Z s σ H Q I h;refine UnaryOp_ (zj (R Z s σ H _ I h) λv s1 z_=>?_);obtain⟨x,H1,I1,U,G⟩:=z_;obtain⟨c,rfl,G⟩:=G;cases U;exact not_of (ju ⟨.bl (!c),H1,I1,rfl,G⟩)
end L2
namespace L2
open PySem PySem.Spec PyProof.Rows
def Dt(K:Fg)(H:Hp)(a:Addr)(G:List V):Prop :=
 Rd H a (.lst G) \/
  ∃(o:Obj)(Z:Xt)(n:Nat),K.lookup a=some o/\o.cls=.type "list"/\o.dict=none/\o.data=.seq Z n/\Z.size<=sizeLine/\Vals G Z.toList
def El(K:Fg)(H:Hp)(a:Addr)(G:List V):Prop :=
 Rd H a (.tup G) \/
  ∃(o:Obj)(Z:Xt)(n:Nat),K.lookup a=some o/\o.cls=.type "tuple"/\o.data=.seq Z n/\Z.size<=sizeLine/\Vals G Z.toList
noncomputable def a6d:Value->Option V
 |.none=>some .non|.bool b=>some (.bl b)|.int i _=>some (.int i)|.str x _=>some (.str x)|.bytes b _=>some (.byt b)|.float b _=>some (.flt b)|.ref a=>some (.ref a)|.type n=>some (.ty n)|_=>none
def RelV.abs(r:RelV x u):a6d u=some x:=by
 cases x with
 |non=>cases r;rfl|bl _=>cases r;rfl|int _=>obtain⟨t,rfl⟩:=r;rfl
 |str _=>obtain⟨t,rfl⟩:=r;rfl
 |byt _=>obtain⟨t,rfl⟩:=r;rfl
 |flt _=>obtain⟨t,rfl⟩:=r;rfl
 |ref _=>cases r;rfl|ty _=>cases r;rfl
def RelV.inj(r:RelV x u)(q:RelV y u):x=y:=gj (r.abs.symm.trans q.abs)
theorem Vals.inj:∀{Z G:List V}{U:Zl},Vals Z U->Vals G U->Z=G
 |_,_,_,.nil,.nil=>rfl|_,_,_,.cons r t,.cons r' t'=>by rw[r.inj r',Vals.inj t t']
def Dt.of{K:Fg}(h:H a=some (.lst xs)):Dt K H a xs:=.inl (.inl h)
def El.of{K:Fg}(h:H a=some (.tup xs)):El K H a xs:=.inl (.inl h)
def Inv.list(I:Inv X pins σ H s)(h:Dt X.K H a G):∃Z:List Value,Vals G Z/\PlainL s.heap a Z.toArray/\G.length<=sizeLine:=by
 rcases h with h|⟨o,Z,n,hk,hc,hd,hs,hz,r⟩
 .obtain⟨z,Z,n,r,e⟩:=h.ok I.yf
  exact⟨Z,r,⟨_,n,e,rfl,rfl,rfl⟩,z⟩
 .refine⟨Z.toList,r,⟨o,n,I.kIn a o hk,hc,hd,by simpa using hs⟩,?_⟩
  have e:=r.length;simp only[ql] at e;exact a_ (f_ e) hz
def Inv.tuple(I:Inv X pins σ H s)(h:El X.K H a G):∃Z:List Value,Vals G Z/\IsTup s.heap a Z.toArray/\G.length<=sizeLine:=by
 rcases h with h|⟨o,Z,n,hk,hc,hs,hz,r⟩
 .obtain⟨z,Z,r,p⟩:=h.ok I.yf
  exact⟨Z,r,p.is,z⟩
 .refine⟨Z.toList,r,⟨o,I.kIn a o hk,hc,n,by simpa using hs⟩,?_⟩
  have e:=r.length;simp only[ql] at e;exact a_ (f_ e) hz
def Inv.Y4(I:Inv X pins σ H s)(h:Dt X.K H a R)(h':Dt X.K H a ys):R=ys:=by
 obtain⟨U,r,⟨o,n,e,_,_,d⟩,_⟩:=I.list h;obtain⟨its',r',⟨o',n',G,_,_,Z⟩,_⟩:=I.list h';rw[e] at G;cases G;rw[d] at Z;injection Z with d1 _
 have:U=its':=by simpa using o4 Array.toList d1
 subst this;exact r.inj r'
def Inv.Uz(I:Inv X pins σ H s)(h:El X.K H a R)(h':El X.K H a ys):R=ys:=by
 obtain⟨U,r,⟨o,e,_,n,d⟩,_⟩:=I.tuple h;obtain⟨its',r',⟨o',G,_,n',Z⟩,_⟩:=I.tuple h';rw[e] at G;cases G;rw[d] at Z;injection Z with d1 _
 have:U=its':=by simpa using o4 Array.toList d1
 subst this;exact r.inj r'
noncomputable abbrev Cx.T9(X:Cx)(E:Y1):Cx:={ X with xe:=E }
abbrev Cx.nox(X:Cx):Cx:=X.T9 λ_ _=>False
theorem Cx.Ok.T9{X:Cx}(ok:X.Ok)(E:Y1):(X.T9 E).Ok :=
 ⟨ok.mod,ok.kind,ok.glob,ok.blt,ok.above,ok.inj,ok.has,ok.cab,ok.hd,ok.frames,ok.stk,ok.exf,ok.bs,ok.bsz,ok.aiz,ok.anb,ok.Qj,ok.frf⟩
def Cx.Ok.Ju{X:Cx}(ok:(X.T9 E).Ok):X.Ok :=
 ⟨ok.mod,ok.kind,ok.glob,ok.blt,ok.above,ok.inj,ok.has,ok.cab,ok.hd,ok.frames,ok.stk,ok.exf,ok.bs,ok.bsz,ok.aiz,ok.anb,ok.Qj,ok.frf⟩
theorem Inv.T9(I:Inv X pins σ H s)(E:Y1):Inv (X.T9 E) pins σ H s:=⟨I.ok.T9 E,I.os,I.bare,I.base,I.loc,I.cell,I.free,I.Jt,I.pin,I.yf,I.len⟩
theorem Inv.Ju(I:Inv (X.T9 E) pins σ H s):Inv X pins σ H s:=⟨I.ok.Ju,I.os,I.bare,I.base,I.loc,I.cell,I.free,I.Jt,I.pin,I.yf,I.len⟩
theorem SP.Ju(h:SP (X.T9 E) pins D f s'):SP X pins D f s':=by
 cases f with
 |next=>obtain⟨Z,G,I,q⟩:=h;exact⟨Z,G,I.Ju,q⟩
 |brk=>obtain⟨Z,G,I,q⟩:=h;exact⟨Z,G,I.Ju,q⟩
 |cont=>obtain⟨Z,G,I,q⟩:=h;exact⟨Z,G,I.Ju,q⟩
 |ret u=>obtain⟨v,Z,G,I,r,q⟩:=h;exact⟨v,Z,G,I.Ju,r,q⟩
theorem Nr.nox{G:List Stmt}(h:Nr X.nox G t):Nr X G t:=λZ s U H D I hw =>
 my (h Z s U H D (I.T9 _) hw) (λ_ _ q=>q.Ju) λ_ _ z=>False.elim z
def ayv:TS:=λD Z H=>D.nx Z H
def a6e(t u:TS):TS:=λD Z H=>t { D with nx:=u D } Z H
def anf:Nr X [] ayv:=λ_ _ Z H _ I h=>wpAny_execs_nil ⟨Z,H,I,h⟩
def ai5{R:Stmt}{Z:List Stmt}(h1:PS X R t)(h2:Nr X Z u):Nr X (R::Z) (a6e t u):=by
 intro G s σ H D I h;refine wpAny_execs_cons (zj (h1 G s σ H { D with nx:=u D } I h) λf s1 q=>?_);cases f with
 |next =>
  obtain⟨U,H',I',q⟩:=q;exact h2 G s1 U H' D I' q
 |ret v=>exact q|brk=>exact q|cont=>exact q
def Inv.quiet(I:Inv X pins σ H s):interactive X.env=false:=by simp[interactive,I.ok.kind]
def ayw(G:TE):TS:=λD Z H=>G Z H λ_ U=>D.nx Z U
def ang(R:PE X e U)(hs:swapsWith e none pos.line X.env=pure false:=by rfl):PS X (.Expr e pos) (ayw U):=by intro Z s G H D I h;exact wpAny_Expr_any (zj (R Z s G H _ I h) λv s1 ⟨x,H1,I1,r1,q1⟩=>⟨G,H1,I1,q1⟩) I.quiet hs
def a6f(Z:TE):TS:=λD G H=>Z G H D.rt
def atu(R:PE X e U):PS X (.Return (some e) pos) (a6f U):=by intro Z s G H D I h;exact wpAny_Return_some (zj (R Z s G H _ I h) λv s1 ⟨x,H1,I1,r1,q1⟩=>⟨x,G,H1,I1,r1,q1⟩)
def a6g(c:TT)(t u:TS):TS:=λD Z H=>c Z H λb G=>if b=true then t D Z G else u D Z G
def ayx(hc:PT X c tc)(ha:Nr X a t)(hb:Nr X b u):PS X (.If c a b pos) (a6g tc t u):=by
 intro Z s G H D I h;refine wpAny_If (zj (hc Z s G H _ I h) λd s1 z_=>?_);obtain⟨R,U,q1⟩:=z_;cases d with
 |true=>exact ha Z s1 G R D U q1|false=>exact hb Z s1 G R D U q1
abbrev TG:=V->St->Hp->(St->Hp->Prop)->Prop
abbrev TGs:=List V->St->Hp->(St->Hp->Prop)->Prop
def PG(X:Cx)(Z:Expr)(t:TG):Prop :=
 ∀(G:Zp)(s:Shared)(σ:St)(H:Hp)(v:V)(u:Value)(Q:St->Hp->Prop),Inv X G σ H s->RelV v u->t v σ H Q ->
  wpAny (model X.prog X.w) X.A (assign Z X.env u) (λ_ s'=>∃U R,Inv X G U R s'/\Q U R) X.xe s
def PGs(X:Cx)(ts:Ya)(t:TGs):Prop :=
 ∀(Z:Zp)(s:Shared)(σ:St)(H:Hp)(U:List V)(R:Zl)(Q:St->Hp->Prop),Inv X Z σ H s->Vals U R->t U σ H Q ->
  wpAny (model X.prog X.w) X.A (assignInOrder ((assignEach ts X.env).map (·.2)) R) (λ_ s'=>∃G H',Inv X Z G H' s'/\Q G H') X.xe s
abbrev atv:=V->V->V->Hp->(Hp->Prop)->Prop
def atw(X:Cx)(t:atv):Prop :=
 ∀(Z:Zp)(s:Shared)(σ:St)(H:Hp)(o i v:V)(G U u:Value)(Q:Hp->Prop),Inv X Z σ H s->RelV o G->RelV i U->RelV v u->t o i v H Q ->
  wpAny (model X.prog X.w) X.A (setItem G U u) (λ_ s'=>∃R,Inv X Z σ R s'/\Q R) X.xe s
def adt(i:Nat):TG:=λv Z H Q=>Q (Z.set i (some v)) H
def Wv(G:X.N.Nodup)(R:X.N[i]?=some x)(U:Loc X.env.scope x)(hf:X.fn x=true\/X.env.scope.names.lookup x=some .local:=by first|exact .inl rfl|exact .inr rfl|assumption):PG X (.Name x pos) (adt i):=by intro Z s σ H v u Q I r h;exact wpAny_assign_Name (ai2 I G R U r (λs' I'=>⟨_,H,I',h⟩) hf)
def a6h:TGs:=λZ G H Q=>Z=[]/\Q G H
def ay0(t:TG)(u:TGs):TGs:=λG U H Q=>∃v r,G=v::r/\t v U H λZ R=>u r Z R Q
def anh:PGs X [] a6h:=by intro Z s G H U R Q I r h;obtain⟨e,h⟩:=h;subst e;cases r;exact assignInOrder_nil ⟨G,H,I,h⟩
def ai6(h1:PG X e t)(h2:PGs X es u)(hs:(assignEach (e::es) X.env).map (·.2)=assign e X.env::(assignEach es X.env).map (·.2):=by rfl):PGs X (e::es) (ay0 t u):=by
 intro Z s σ H vs us Q I r h;obtain⟨v,vr,e1,h⟩:=h;subst e1;cases r with
 |cons r U =>
  rw[hs];refine assignInOrder_cons (zj (h1 Z s σ H _ _ _ I r h) λ_ s1 z_=>?_);obtain⟨G,H1,R,q1⟩:=z_;exact h2 Z s1 G H1 _ _ Q R U q1
def a6i(K:Fg)(n:Nat)(t:TGs):TG:=λv G H Q=>∃a Z,v=.ref a/\El K H a Z/\Z.length=n/\t Z G H Q
def atx(hc:X.calm=true)(h:PGs X es t)(hn:(assignEach es X.env).length=n:=by rfl)(G:(assignEach es X.env).findIdx? (·.1)=none:=by rfl):PG X (.Tuple es k pos) (a6i X.K n t):=by
 intro Z s R H v u Q I r hw;obtain⟨a,xs,e1,hq,hl,hw⟩:=hw;subst e1;cases r;obtain⟨q9,U,ht,hz⟩:=I.tuple hq;refine assign_Tuple_tuple (I.ok.hd hc) ht (by simp[hn,<- hl,U.length]) G λh' hx=>?_
 have I1:Inv X Z R H { s with heap:=h' }:=I.kept (t':=s.toks) λb o e=>hx b o (fc (au e)) e
 exact h Z _ R H xs _ Q I1 (by simpa using U) hw
def a6j(to R:TE)(t:atv):TG:=λv Z H Q=>to Z H λo U=>R Z U λi H2=>t o i v H2 λG=>Q Z G
def aty(ho:PE X o to)(hi:PE X i ti)(hs:atw X t)(ha:∀v,assign (.Subscript o i pos) X.env v=(do
 let G <- holding [v] (eval o X.env)
 let U <- holding [v,G] (eval i X.env)
 standAt pos
 holding [v,G,U] (setItem G U v)
 release [v,G,U] []):=by intro _;rfl):PG X (.Subscript o i pos) (a6j to ti t):=by
 intro Z s R H v u Q I r h;rw[ha];refine aa (jf (zj (ho Z s R H _ I h) λG s1 z_=>?_));obtain⟨x,H1,I1,r1,q1⟩:=z_;refine aa (jf (zj (hi Z s1 R H1 _ I1 q1) λU s2 z_=>?_));obtain⟨y,H2,I2,r2,q2⟩:=z_;refine aa (wpAny_standAt (aa (jf (zj (hs Z s2 R H2 x y v G U u _ I2 r1 r2 r q2) λ_ s3 z_=>?_))));obtain⟨H3,I3,q3⟩:=z_;exact wpAny_release ⟨R,H3,I3,q3⟩
def atz(G:TE)(g:TG):TS:=λD Z H=>G Z H λx U=>g x Z U D.nx
def ai7(he:PE X e U)(R:PG X tg g)(hs:swapsWithSole [tg] e pos.line X.env=pure false:=by rfl)(hw:swappedStores [tg] e X.env=pure none:=by rfl)(h1:(assignEach [tg] X.env).map (·.2)=[assign tg X.env]:=by rfl):PS X (.Assign [tg] e pos) (atz U g):=by intro Z s G H D I h;refine wpAny_Assign_stores (zj (he Z s G H _ I h) λv s1 ⟨x,H1,I1,r1,q1⟩=>?_) hs hw;rw[h1];exact zj (R Z s1 G H1 x v _ I1 r1 q1) λ_ s2 q=>q
def at3(c:TT)(tb:TS):TS:=λD Z H=>∃W:Nat->St->Hp->Prop,(∃m,W m Z H)/\∀m Z H,W m Z H ->
 c Z H λb U=>if b=true then ∃N:St->Hp->Prop,(∀G H',N G H'->∃R,R<m/\W R G H')/\tb { D with nx:=N,ct:=N,bk:=D.nx } Z U else D.nx Z U
def ai8(hp:PassesOwn (model X.prog X.w) X.A X.env X.xe)(hc:PT X c tc)(hb:Nr X body tb):PS X (.While c body [] pos) (at3 tc tb):=by
 intro G s σ H D I h;obtain⟨W,⟨m0,w0⟩,qq⟩:=h;refine wpAny_While (codeAny_whileLoop (λn s'=>∃R H',Inv X G R H' s'/\W n R H') ?_ m0 ⟨σ,H,I,w0⟩);rintro n s1 ⟨U,H1,I1,w1⟩;refine ph hp (zj (hc G s1 U H1 _ I1 (qq n U H1 w1)) λb s2 z_=>?_);obtain⟨H2,I2,q2⟩:=z_;cases b with
 |true =>
  obtain⟨N,hN,q2⟩:=q2;rw[bh rfl];refine ph hp (zj (hb G s2 U H2 _ I2 q2) λf s3 q3=>?_);cases f with
  |next =>
   obtain⟨Z,H3,I3,n3⟩:=q3;obtain⟨m',hm,w3⟩:=hN Z H3 n3;exact⟨m',hm,Z,H3,I3,w3⟩
  |cont =>
   obtain⟨Z,H3,I3,n3⟩:=q3;obtain⟨m',hm,w3⟩:=hN Z H3 n3;exact⟨m',hm,Z,H3,I3,w3⟩
  |brk=>exact q3|ret v=>exact q3
 |false =>
  rw[bj gq];exact wpAny_execs_nil ⟨U,H2,I2,q2⟩
structure It where
 go:Nat->Hp->Prop
 yld:Nat->Hp->V->Hp->Prop
 stop:Nat->Hp->Prop
def Qk(X:Cx)(Z:Zp)(H:Hp)(b:Addr):Prop :=
 H b=none/\b≠X.env.locals/\b∉X.fs/\(b∈X.ex\/X.s₀.heap.objs.size<=b)/\(∀x c,X.env.cells.lookup x=some c->c≠b)/\∀p∈X.pn++Z,p.1≠b
def Inv.afs(I:Inv X pins σ H s)(Z:s.heap.objs.size<=b)(G:R b=none):Qk X pins R b:=by
 refine⟨G,qt (gf I.lt Z),I.aym Z,.inr (bw I.sz Z),λx c e z=>?_,λp U z=>?_⟩
 .obtain⟨v,q⟩:=I.cell x c e
  exact absurd (gf q.lt (by rw[z];exact Z)) (lg _)
 .exact absurd (gf (au (I.pin p U).1) (by rw[z];exact Z)) (lg _)
structure Turn(P:Program)(w:World)(K:Fg)(tg:Expr)(J:It)(fp:X1)(it:Addr)(tn:Nat->Heap->Prop):Prop where
 mem:it∈fp
 obj:∀i h,tn i h->∀b∈fp,∃o,h.get? b=some o/\∀v,o.data≠.cell v
 keep:∀i h h',tn i h->(∀b∈fp,∀o,h.get? b=some o->h'.get? b=some o)->tn i h'
 item:∀(X:Cx),X.prog=P->X.w=w->X.K=K->X.calm=true->∀(i:Nat)(pins:Zp)(s:Shared)(σ:St)(H:Hp)(E:Y1),Inv X pins σ H s->(∀b∈fp,Qk X pins H b)->tn i s.heap->J.go i H ->
  wpAny (model P w) X.A (pyNext (.ref it)) (λr s1=>∃u,r=some u /\
   wpAny (model P w) X.A (letOwnedTupleGo tg (.ref it) u) (λ_ s2=>∃x H',Inv X pins σ H' s2/\RelV x u/\J.yld i H x H'/\tn (i+1) s2.heap/\∀b∈fp,H' b=none) E s1) E s
 done:∀(X:Cx),X.prog=P->X.w=w->X.K=K->X.calm=true->∀(i:Nat)(pins:Zp)(s:Shared)(σ:St)(H:Hp)(E:Y1),Inv X pins σ H s->(∀b∈fp,Qk X pins H b)->tn i s.heap->J.stop i H ->
  wpAny (model P w) X.A (pyNext (.ref it)) (λr s1=>r=none/\Inv X pins σ H s1) E s
 self:∀(A:Around)(i:Nat)(s:Shared)(Q:Y1)(E:Y1),tn i s.heap->Q (.ref it) s->wpAny (model P w) A (pyIter (.ref it)) Q E s
abbrev TI:=St->Hp->(It->Hp->Prop)->Prop
def PIE(X:Cx)(Z:Zp)(σ:St)(tg:Expr)(R:It->Hp->Prop)(U:Value)(s2:Shared):Prop :=
 ∃(it:Addr)(fp:X1)(tn:Nat->Heap->Prop)(J:It)(G:Hp),U=.ref it/\Inv X Z σ G s2/\Turn X.prog X.w X.K tg J fp it tn/\tn 0 s2.heap/\(∀b∈fp,Qk X Z G b)/\R J G
def PI(X:Cx)(tg G:Expr)(wi:TI):Prop :=
 ∀(Z:Zp)(s:Shared)(U:St)(H:Hp)(R:It->Hp->Prop),Inv X Z U H s->wi U H R ->
  wpAny (model X.prog X.w) X.A (eval G X.env) (λv s1=>wpAny (model X.prog X.w) X.A (pyIter v) (PIE X Z U tg R) X.xe s1) X.xe s
def adu(ho:s.heap.get? it=some o)(U:o.cls=.type n)(hd:o.data=.fields G)(R:["enumerate", "zip", "dict_itemiterator", "dict_reverseitemiterator", "odict_iterator", "itertools.zip_longest", "itertools.pairwise"].contains n=false)(Z:Q () s):wpAny M A (letOwnedTupleGo tg (.ref it) u) Q E s:=by
 unfold letOwnedTupleGo;cases tg<;>first
  |exact aj Z
  | (cases u<;>first
   |exact aj Z
   | (refine aa (wpAny_load ho ?_)
      rw[U,hd];show wpAny M A (if(["enumerate", "zip", "dict_itemiterator", "dict_reverseitemiterator", "odict_iterator", "itertools.zip_longest", "itertools.pairwise"].contains n&&G[0]?==some (rawInt _))=true then _ else _) Q E s;rw[bj (by intro h;rw[R,Bool.false_and] at h;cases h)];exact aj Z))
noncomputable def Itl(K:Fg)(a:Addr):It :=
 ⟨λi H=>∃Z x,Dt K H a Z/\Z[i]?=some x,λi H x G=>G=H/\∀Z,Dt K H a Z->Z[i]?=some x,λi H=>∃Z,Dt K H a Z/\Z.length<=i⟩
noncomputable def Itt(K:Fg)(a:Addr):It :=
 ⟨λi H=>∃Z x,El K H a Z/\Z[i]?=some x,λi H x G=>G=H/\∀Z,El K H a Z->Z[i]?=some x,λi H=>∃Z,El K H a Z/\Z.length<=i⟩
noncomputable def Lh(Z:Int)(n:Nat):It:=⟨λi _=>i<n,λi H x G=>G=H/\x=.int (Z+i),λi _=>n<=i⟩
theorem aft{K:Fg}(a it:Addr):Turn P w K tg (Itl K a) [it] it (λi h=>h.IsListIter it a i) where
 mem:=by simp
 obj:=λi h Z b U=>by
  have e:b=it:=by simpa using U
  subst e;obtain⟨o,e,c,d⟩:=Z;exact⟨o,e,λv z=>by rw[d] at z;cases z⟩
 keep:=λi h h' Z k=>Z.at λo e=>k it (by simp) o e
 item:=by
  intro X hP hw hK hc i G s σ H E I hf Z hg;subst hP hw hK;obtain⟨xs,x,hq,hx⟩:=hg;obtain⟨q9,rv,p,hz⟩:=I.list hq;obtain⟨u,hu,ru⟩:=rv.get hx;obtain⟨f0,f1,f2,f3,f4,f5⟩:=hf it (by simp);refine wpAny_pyNext_list_item Z p.isList (x:=u) (by simpa using hu) λh' R sb=>?_
  have I1:Inv X G σ H { s with heap:=h' }:=I.turned (t':=s.toks) (λb o U e=>(sb.2 b U).trans e) f0 f1 f3 f4 f5;obtain⟨o,e,c,d⟩:=id R;exact⟨u,rfl,adu (s:={ s with heap:=h' }) e c d (by decide) ⟨x,H,I1,ru,⟨rfl,λys hy=>by rw[I.Y4 hy hq];exact hx⟩,R,λb U=>(hf b U).1⟩⟩
 done:=by intro X hP hw hK hc i G s σ H E I hf Z hg;subst hP hw hK;obtain⟨xs,hq,hx⟩:=hg;obtain⟨q9,rv,p,hz⟩:=I.list hq;obtain⟨f0,f1,f2,f3,f4,f5⟩:=hf it (by simp);have hl:=rv.length;exact wpAny_pyNext_list_end (I.ok.hd hc) Z p.isList (by simp;exact a_ (g_ hl) hx) λh' eb=>⟨rfl,I.turned (t':=s.toks) (λb o U e=>eb b o U e) f0 f1 f3 f4 f5⟩
 self:=λ_ _ _ _ _ Z h=>wpAny_pyIter_listiter Z h
theorem abb{K:Fg}(a it:Addr):Turn P w K tg (Itt K a) [it] it (λi h=>h.IsTupleIter it a i) where
 mem:=by simp
 obj:=λi h Z b U=>by
  have e:b=it:=by simpa using U
  subst e;obtain⟨o,e,c,d⟩:=Z;exact⟨o,e,λv z=>by rw[d] at z;cases z⟩
 keep:=λi h h' Z k=>Z.at λo e=>k it (by simp) o e
 item:=by
  intro X hP hw hK hc i G s σ H E I hf Z hg;subst hP hw hK;obtain⟨xs,x,hq,hx⟩:=hg;obtain⟨q9,rv,p,hz⟩:=I.tuple hq;obtain⟨u,hu,ru⟩:=rv.get hx;obtain⟨f0,f1,f2,f3,f4,f5⟩:=hf it (by simp);refine wpAny_pyNext_tuple_item Z (show s.heap.IsTuple a q9.toArray from p) (x:=u) (by simpa using hu) λh' R sb=>?_
  have I1:Inv X G σ H { s with heap:=h' }:=I.turned (t':=s.toks) (λb o U e=>(sb.2 b U).trans e) f0 f1 f3 f4 f5;obtain⟨o,e,c,d⟩:=id R;exact⟨u,rfl,adu (s:={ s with heap:=h' }) e c d (by decide) ⟨x,H,I1,ru,⟨rfl,λys hy=>by rw[I.Uz hy hq];exact hx⟩,R,λb U=>(hf b U).1⟩⟩
 done:=by intro X hP hw hK hc i G s σ H E I hf Z hg;subst hP hw hK;obtain⟨xs,hq,hx⟩:=hg;obtain⟨q9,rv,p,hz⟩:=I.tuple hq;obtain⟨f0,f1,f2,f3,f4,f5⟩:=hf it (by simp);have hl:=rv.length;exact wpAny_pyNext_tuple_end (I.ok.hd hc) Z (show s.heap.IsTuple a q9.toArray from p) (by simp;exact a_ (g_ hl) hx) λh' eb=>⟨rfl,I.turned (t':=s.toks) (λb o U e=>eb b o U e) f0 f1 f3 f4 f5⟩
 self:=λ_ _ _ _ _ Z h=>wpAny_pyIter_tupleiter Z h
theorem abd{K:Fg}(it:Addr)(lo:Int)(n:Nat):Turn P w K tg (Lh lo n) [it] it (λi h=>IsRangeIter h it (lo+(i:Nat)*1) ((n:Int)-(i:Nat)) 1) where
 mem:=by simp
 obj:=λi h Z b U=>by
  have e:b=it:=by simpa using U
  subst e;exact⟨_,Z,λv z=>by
   have z':Data.fields _=Data.cell v:=z;cases z'⟩
 keep:=λi h h' Z k=>k it (by simp) _ Z
 item:=by
  intro X hP hw hK hc i G s σ H E I hf Z hg;subst hP hw hK;obtain⟨f0,f1,f2,f3,f4,f5⟩:=hf it (by simp);have W:=Walks.range (prog:=X.prog) (w:=X.w) (I.ok.hd hc) it lo 1 n;refine W.item i s _ _ hg Z λv h' tk hv R kk=>?_
  obtain⟨t,rfl⟩:=hv;have I1:Inv X G σ H { s with heap:=h',toks:=tk }:=I.turned (λb o U e=>kk b o (by simpa using U) e) f0 f1 f3 f4 f5;refine⟨_,rfl,adu (s:={ s with heap:=h',toks:=tk }) (n := "range_iterator") R rfl rfl (by decide) ⟨.int (lo+i),H,I1,⟨t,?_⟩,⟨rfl,rfl⟩,R,λb U=>(hf b U).1⟩⟩;rw[Int.mul_one]
 done:=by intro X hP hw hK hc i G s σ H E I hf Z hg;subst hP hw hK;obtain⟨f0,f1,f2,f3,f4,f5⟩:=hf it (by simp);exact wpAny_pyNext_range_end (I.ok.hd hc) Z (by have:n<=i:=hg;lia) λh' eb=>⟨rfl,I.turned (t':=s.toks) (λb o U e=>eb b o U e) f0 f1 f3 f4 f5⟩
 self:=λ_ _ _ _ _ Z h=>wpAny_pyIter_rangeiter Z h
end L2
namespace L2
open PySem PySem.Spec PyProof.Rows
def ai9{lo:Int}(I:Inv X pins σ H s)(h1:-(2 ^ 62)<=lo)(h2:lo<2 ^ 62)(h3:-(2 ^ 62)<=Z)(h4:Z<2 ^ 62)(q:R (Lh lo (Z-lo).toNat) H):wpAny (model X.prog X.w) X.A (pyIter (.ref s.heap.objs.size)) (PIE X pins σ tg R) E { s with heap:=s.heap.push { cls:=.type "range",data:=.fields #[.int lo t,.int Z u,.int 1 v] },toks:=U }:=by
 refine wpAny_pyIter_range (IsRange.new ..) (small_one h1 h2 h3 h4) ?_;have G:Inv X pins σ H { s with heap:=s.heap.push { cls:=.type "range",data:=.fields #[.int lo t,.int Z u,.int 1 v] },toks:=U }:=I.kept λb o e=>ao _ e
 refine⟨(s.heap.push { cls:=.type "range",data:=.fields #[.int lo t,.int Z u,.int 1 v] }).objs.size,[(s.heap.push { cls:=.type "range",data:=.fields #[.int lo t,.int Z u,.int 1 v] }).objs.size],_,_,H,rfl,
  G.kept (t':=U) λb o e=>ao _ e,abd _ lo (Z-lo).toNat,?_,λb hb=>?_,q⟩
 .have e1:lo+((0:Nat):Int)*1=lo:=by simp
  have e2:(((Z-lo).toNat:Nat):Int)-((0:Nat):Int)=Builtin.Range.rangeSize lo Z 1:=by rw[rangeSize_one];split<;>lia
  show IsRangeIter _ _ (lo+((0:Nat):Int)*1) ((((Z-lo).toNat:Nat):Int)-((0:Nat):Int)) 1;rw[e1,e2];exact bc _ rfl
 .have e:b=(s.heap.push { cls:=.type "range",data:=.fields #[.int lo t,.int Z u,.int 1 v] }).objs.size:=by simpa using hb
  subst e;exact G.afs (az _) (G.yf.fresh (az _))
def ay2(Z:TA):TI:=λU H R=>Z U H λG H1=>∃j:Int,G=[.int j]/\-(2 ^ 62)<=j/\j<2 ^ 62/\R (Lh 0 j.toNat) H1
def afu{X:Cx}{tg:Expr}(hg:Gl X "range")(hm:X.mg "range" = none)(ha:PA X [a] ta)(hs:starEach [a] X.env=[(false,eval a X.env)]:=by rfl):PI X tg (.Call (.Name "range" p) [a] [] pos) (ay2 ta):=by
 intro Z s σ H R I h;refine Call_ (Hr I hg hm boot_range (qe (zj (ha pos Z s σ H _ I h) λus s1 ⟨vs,H1,I1,r1,G⟩=>?_) hs rfl));obtain⟨j,e,G,q2,q⟩:=G;subst e;cases r1 with
 |cons r U =>
  cases U;obtain⟨t,rfl⟩:=r;exact call_range_1 (ai9 I1 (by lia) (by lia) G q2 (by simpa using q))
def a6l(wi:TI)(g:TG)(tb:TS):TS:=λD Z H=>wi Z H λJ H1=>∃W:Nat->Nat->St->Hp->Prop,(∃m,W 0 m Z H1)/\∀i m Z H,W i m Z H ->
 (J.stop i H/\D.nx Z H)\/(J.go i H/\∃N:St->Hp->Prop,(∀U G,N U G->∃m',m'<m/\W (i+1) m' U G)/\∀x G,J.yld i H x G->g x Z G λR H2=>tb { D with nx:=N,ct:=N,bk:=D.nx } R H2)
noncomputable def Ot(Z:X1)(h:Heap):List (Addr×Obj):=Z.filterMap λb=>(h.get? b).map λo=>(b,o)
def Hs(G:b∈Z)(e:h.get? b=some o):(b,o)∈Ot Z h:=List.mem_filterMap.mpr ⟨b,G,by rw[e];rfl⟩
def afv(G:p∈Ot Z h):p.1∈Z/\h.get? p.1=some p.2:=by
 obtain⟨b,U,e⟩:=List.mem_filterMap.mp G;cases q:h.get? b with
 |none=>rw[q] at e;cases e
 |some o =>
  rw[q] at e;have R:(b,o)=p:=gj e;subst R;exact⟨U,q⟩
def Inv.pinned{X:Cx}(I:Inv X pins σ H s)(hf:∀b∈Z,Qk X pins H b)(ho:∀b∈Z,∃o,s.heap.get? b=some o/\∀v,o.data≠.cell v):Inv X (pins++Ot Z s.heap) σ H s :=
 I.Ws λp hp=>(cg.mp hp).elim (λz=>I.pin p (fj _ z)) λz=>by obtain⟨G,e⟩:=afv z;obtain⟨f0,f1,R,_⟩:=hf p.1 G;obtain⟨o,U,d⟩:=ho p.1 G;rw[e] at U;cases U;exact⟨e,f0,f1,R,d⟩
def Inv.Jv{X:Cx}(I:Inv X (pins++G) σ H s):Inv X pins σ H s:=I.Ws λp Z=>I.pin p (fj _ (ji _ Z))
def at4{X:Cx}{tg:Expr}(hp:PassesOwn (model X.prog X.w) X.A X.env X.xe)(hc:X.calm=true)(hi:PI X tg iter wi)(hg:PG X tg g)(hb:Nr X body tb)(hs:∀x,foldedSetIterable iter X.env x=pure x:=by intro _;rfl):PS X (.For tg iter body [] pos) (a6l wi g tb):=by
 intro Z s σ H D I h;refine wpAny_For (zj (hi Z s σ H _ I h) λv s1 h1=>zj h1 λzv s2 h2=>?_) hs;obtain⟨it,fp,tn,J,H2,e,I2,T,q5,f2,W,⟨m0,w0⟩,q4⟩:=h2;subst e;have q0:∀{H':Hp},(∀b∈fp,H' b=none)->∀b∈fp,Qk X Z H' b:=λhn b hb=>⟨hn b hb,(f2 b hb).2⟩
 refine codeAny_forLoop_any (λn s'=>∃i qk H',Inv X Z qk H' s'/\tn i s'.heap/\(∀b∈fp,H' b=none)/\W i n qk H') ?_ m0 ⟨0,σ,H2,I2,q5,λb hb=>(f2 b hb).1,w0⟩;rintro n s3 ⟨i,R,H3,I3,q2,q1,w3⟩;rcases q4 i n R H3 w3 with⟨q3,qn⟩|⟨go,N,hN,step⟩
 .refine ph hp (zj (T.done X rfl rfl rfl hc i Z s3 R H3 X.xe I3 (q0 q1) q2 q3) λr s4 z_=>?_)
  obtain⟨hr,I4⟩:=z_;subst hr;exact wpAny_execs_nil ⟨R,H3,I4,qn⟩
 .refine ph hp (zj (T.item X rfl rfl rfl hc i Z s3 R H3 X.xe I3 (q0 q1) q2 go) λr s4 z_=>?_)
  obtain⟨u,hr,h4⟩:=z_;subst hr;refine ph hp (zj h4 λ_ s5 z_=>?_);obtain⟨x,H5,I5,r5,y5,qv,zk⟩:=z_;have q9:=I5.pinned (q0 zk) (T.obj _ _ qv);refine ph hp (zj (hg _ s5 R H5 x u _ q9 r5 (step x H5 y5)) λ_ s6 z_=>?_);obtain⟨zz,H6,I6,q6⟩:=z_;refine ph hp (zj (hb _ s6 zz H6 _ I6 q6) λf s7 q7=>?_);have qq:∀{G:St}{U:Hp},Inv X (Z++Ot fp s5.heap) G U s7->N G U->∃m,m<n/\∃i qk H',Inv X Z qk H' s7/\tn i s7.heap/\(∀b∈fp,H' b=none)/\W i m qk H':=fun{G U} I7 n7=>by obtain⟨m',hm,w7⟩:=hN G U n7;refine⟨m',hm,i+1,G,U,I7.Jv,T.keep _ _ _ qv λb hb o e=>(I7.pin (b,o) (fj _ (fj _ (Hs hb e)))).1,λb hb=>?_,w7⟩;obtain⟨o,e,d⟩:=T.obj _ _ qv b hb;exact(I7.pin (b,o) (fj _ (fj _ (Hs hb e)))).2.1
  cases f with
  |next=>obtain⟨G,U,I7,n7⟩:=q7;exact qq I7 n7
  |cont=>obtain⟨G,U,I7,n7⟩:=q7;exact qq I7 n7
  |brk=>obtain⟨G,U,I7,q7⟩:=q7;exact⟨G,U,I7.Jv,q7⟩
  |ret v=>obtain⟨x7,G,U,I7,r7,q7⟩:=q7;exact⟨x7,G,U,I7.Jv,r7,q7⟩
end L2
namespace L2
open PySem PySem.Spec PyProof.Rows
abbrev R2:=V->V->Hp->VK->Prop
def Aw(X:Cx)(f:Value->Value->Sem Value)(r:R2):Prop :=
 ∀(Z:Zp)(s:Shared)(G:St)(H:Hp)(x y:V)(v u:Value)(Q:VK),Inv X Z G H s->RelV x v->RelV y u->r x y H Q ->
  wpAny (model X.prog X.w) X.A (f v u) (EP X Z G Q) X.xe s
def UnR(X:Cx)(f:Value->Sem Value)(r:V->Hp->VK->Prop):Prop :=
 ∀(Z:Zp)(s:Shared)(G:St)(H:Hp)(x:V)(v:Value)(Q:VK),Inv X Z G H s->RelV x v->r x H Q ->
  wpAny (model X.prog X.w) X.A (f v) (EP X Z G Q) X.xe s
def zp(X:Cx)(f:Value)(r:List V->Hp->VK->Prop):Prop :=
 ∀(Z:Zp)(s:Shared)(U:St)(H:Hp)(G:List V)(R:Zl)(Q:VK),Inv X Z U H s->Vals G R->r G H Q ->
  wpAny (model X.prog X.w) X.A (call f R) (EP X Z U Q) X.xe s
def a6p(X:Cx)(r:V->Hp->(Bool->Hp->Prop)->Prop):Prop :=
 ∀(Z:Zp)(s:Shared)(G:St)(H:Hp)(x:V)(v:Value)(Q:Bool->Hp->Prop),Inv X Z G H s->RelV x v->r x H Q ->
  wpAny (model X.prog X.w) X.A (truthy v) (TP X Z G Q) X.xe s
def tOp(r:R2)(U R:TE):TE:=λZ H Q=>U Z H λx G=>R Z G λy H2=>r x y H2 Q
def tUn(r:V->Hp->VK->Prop)(Z:TE):TE:=λG H Q=>Z G H λx U=>r x U Q
def rI(C:Int->Int->Prop)(g:Int->Int->V):R2:=λx y H Q=>∃i j,x=.int i/\y=.int j/\C i j/\Q (g i j) H
def rI0(g:Int->Int->V):R2:=λx y H Q=>∃i j,x=.int i/\y=.int j/\Q (g i j) H
def rU(g:Int->V):V->Hp->VK->Prop:=λx H Q=>∃i,x=.int i/\Q (g i) H
def at6{X:Cx}{a b:Expr}{ta tb:TE}(ha:PE X a ta)(hb:PE X b tb){Z:Zp}{s:Shared}{U:St}{H:Hp}{R:V->V->Hp->Prop}(I:Inv X Z U H s)
 (h:ta U H λx H1=>tb U H1 λy G=>R x y G) {Q:Y1} {f:Value->Value->Sem Value}
 (hf:∀v u s2 x y G,Inv X Z U G s2->RelV x v->RelV y u->R x y G->wpAny (model X.prog X.w) X.A (f v u) Q X.xe s2) :
 wpAny (model X.prog X.w) X.A (eval a X.env) (λv qk=>wpAny (model X.prog X.w) X.A (eval b X.env) (λu qq=>wpAny (model X.prog X.w) X.A (f v u) Q X.xe qq) X.xe qk) X.xe s:=by
 refine zj (ha Z s U H _ I h) λv s1 z_=>?_
 obtain⟨x,H1,I1,r1,q1⟩:=z_;refine zj (hb Z s1 U H1 _ I1 q1) λu s2 z_=>?_
 obtain⟨y,G,I2,r2,q2⟩:=z_;exact hf v u s2 x y G I2 r1 r2 q2
def ay4{X:Cx}{a b:Expr}{R tb:TE}{G:Pos}{U:Operator}{r:R2}(ho:Aw X (binaryOp U) r)(ha:PE X a R)(hb:PE X b tb):PE X (.BinOp a U b G) (tOp r R tb):=by intro Z s σ H Q I h;exact wpAny_BinOp (at6 ha hb I h λv u s2 x y H2 I2 rx ry q=>ho Z s2 σ H2 x y v u Q I2 rx ry q)
def ay5{X:Cx}{a:Expr}{R:TE}{G:Pos}{U:UnaryOp}{r:V->Hp->VK->Prop}(ho:UnR X (unaryOp U) r)(ha:PE X a R):PE X (.UnaryOp U a G) (tUn r R):=by intro Z s σ H Q I h;exact UnaryOp_ (zj (ha Z s σ H _ I h) λv s1 ⟨x,H1,I1,r1,q1⟩=>ho Z s1 σ H1 x v Q I1 r1 q1)
def opI{X:Cx}{f:Value->Value->Sem Value}{C:Int->Int->Prop}{g:Int->Int->Int}
 (Z:∀(i j:Int)(t u:Tok)(s:Shared)(Q:Y1)(E:Y1),C i j->Q (.int (g i j) s.toks) { s with toks:=s.toks+1 }->wpAny (model X.prog X.w) X.A (f (.int i t) (.int j u)) Q E s) :
 Aw X f (rI C λi j=>.int (g i j)):=by
 intro G s σ H x y v u Q I rx R h;obtain⟨i,j,rfl,rfl,U,q⟩:=h;obtain⟨t,rfl⟩:=rx;obtain⟨t',rfl⟩:=R;exact Z i j t t' s _ _ U ⟨.int (g i j),H,I.tok _,⟨_,rfl⟩,q⟩
def ay6{X:Cx}{f:Value->Value->Sem Value}{g:Int->Int->Int}
 (Z:∀(i j:Int)(t u:Tok)(s:Shared)(Q:Y1)(E:Y1),Q (.int (g i j) s.toks) { s with toks:=s.toks+1 }->wpAny (model X.prog X.w) X.A (f (.int i t) (.int j u)) Q E s) :
 Aw X f (rI0 λi j=>.int (g i j)):=by
 intro G s σ H x y v u Q I R U h;obtain⟨i,j,rfl,rfl,q⟩:=h;obtain⟨t,rfl⟩:=R;obtain⟨t',rfl⟩:=U;exact Z i j t t' s _ _ ⟨.int (g i j),H,I.tok _,⟨_,rfl⟩,q⟩
def anj{X:Cx}{f:Value->Value->Sem Value}{g:Int->Int->Bool}
 (Z:∀(i j:Int)(t u:Tok)(s:Shared)(Q:Y1)(E:Y1),Q (.bool (g i j)) s->wpAny (model X.prog X.w) X.A (f (.int i t) (.int j u)) Q E s) :
 Aw X f (rI0 λi j=>.bl (g i j)):=by
 intro G s σ H x y v u Q I R U h;obtain⟨i,j,rfl,rfl,q⟩:=h;obtain⟨t,rfl⟩:=R;obtain⟨t',rfl⟩:=U;exact Z i j t t' s _ _ ⟨.bl (g i j),H,I,rfl,q⟩
def a6q(i j:Int):Prop:=0<j/\j<1073741824
def a6r(i j:Int):Prop:=0<=j/\j<=1000000/\i.natAbs<2 ^ 64
def at7(i j:Int):Prop:=(-(2 ^ 64)<i/\i<2 ^ 64)\/(-(2 ^ 64)<j/\j<2 ^ 64)
def at7.ok{i j:Int}(h:at7 i j):IntMulOk i j:=by
 rcases h with⟨G,Z⟩|⟨G,Z⟩
 .exact .of_left (intBits_le_64 G Z)
 .exact .of_right (intBits_le_64 G Z)
def at8{X:Cx}:Aw X (binaryOp .Add) (rI0 λi j=>.int (i+j)):=ay6 λ_ _ _ _ _ _ _ q=>add_int q
def at9{X:Cx}:Aw X (binaryOp .Sub) (rI0 λi j=>.int (i-j)):=ay6 λ_ _ _ _ _ _ _ q=>sub_int q
def aua{X:Cx}:Aw X (binaryOp .Mult) (rI at7 λi j=>.int (i*j)):=opI λ_ _ _ _ _ _ _ Z q=>mul_int q Z.ok
def ank{X:Cx}:Aw X (binaryOp .FloorDiv) (rI a6q λi j=>.int (i / j)):=opI λi j _ _ _ _ _ Z q=>by
 have U:(0:Int)<j:=Z.1
 have G:j<1073741824:=Z.2
 exact floordiv_int (by lia) (by rw[Int.fdiv_eq_ediv_of_nonneg i (by lia)];exact q) (.inl (PyProof.noPylong_small (by omega)))
def aub{X:Cx}:Aw X (binaryOp .Mod) (rI (λ_ j=>0<j) λi j=>.int (i%j)):=opI λi j _ _ _ _ _ Z q=>by
 have G:(0:Int)<j:=Z
 exact mod_int' (by lia) (by rw[Int.fmod_eq_emod_of_nonneg i (by lia)];exact q)
def auc{X:Cx}:Aw X (binaryOp .Pow) (rI a6r λi j=>.int (i ^ j.toNat)):=opI λ_ _ _ _ _ _ _ Z q=>pow_int_small Z.1 Z.2.1 Z.2.2 q
def unI{X:Cx}{f:Value->Sem Value}{g:Int->Int}
 (Z:∀(i:Int)(t:Tok)(s:Shared)(Q:Y1)(E:Y1),Q (.int (g i) s.toks) { s with toks:=s.toks+1 }->wpAny (model X.prog X.w) X.A (f (.int i t)) Q E s) :
 UnR X f (rU λi=>.int (g i)):=by
 intro G s R H x v Q I U h;obtain⟨i,rfl,q⟩:=h;obtain⟨t,rfl⟩:=U;exact Z i t s _ _ ⟨.int (g i),H,I.tok _,⟨_,rfl⟩,q⟩
def aud{X:Cx}:UnR X (unaryOp .USub) (rU λi=>.int (-i)):=unI λ_ _ _ _ _ q=>neg_int q
noncomputable def aue:V->V->Bool
 |.non,.non=>true|.non,.int _=>true|.int _,.non=>true|.non,.bl _=>true|.bl _,.non=>true|.non,.str _=>true|.str _,.non=>true
 |.int _,.int _=>true|.bl _,.bl _=>true|.str _,.str _=>true|.byt _,.byt _=>true
 |.int _,.str _=>true|.str _,.int _=>true|.bl _,.str _=>true|.str _,.bl _=>true
 |_,_=>false
def rEq:R2:=λx y H Q=>aue x y=true/\Q (.bl (decide (x=y))) H
def rNe:R2:=λx y H Q=>aue x y=true/\Q (.bl (!decide (x=y))) H
def adw{i j:Int}:decide (V.int i=V.int j)=(i==j):=by rw[wu];simp
def aja{i j:Bool}:decide (V.bl i=V.bl j)=(i==j):=by rw[wu];simp
def adx{i j:Str}:decide (V.str i=V.str j)=(i==j):=by rw[wu];simp
def ady{i j:Array UInt8}:decide (V.byt i=V.byt j)=(i.toList==j.toList):=by rw[wu];cases i;cases j;simp
def vz{X:Cx}{Z:Zp}{G:St}{H:Hp}{s:Shared}{Q:VK}{k U:Bool}(I:Inv X Z G H s)(q:Q (.bl k) H)(e:k=U):EP X Z G Q (.bool U) s:=by subst e;exact⟨.bl k,H,I,rfl,q⟩
def ay7{X:Cx}:Aw X (compareOp .Eq) rEq:=by
 intro qq s σ H x y v u Q I R Z h;obtain⟨U,q⟩:=h;cases x with
 |non =>
  cases R;cases y with
  |non=>cases Z;exact PySem.EqNone.eq_none_none (vz I q (by simp))|bl j=>cases Z;exact PySem.EqNone.eq_none_bool (vz I q (by simp))|int j=>obtain⟨G,rfl⟩:=Z;exact PySem.EqNone.eq_none_int (vz I q (by simp))
  |str j=>obtain⟨G,rfl⟩:=Z;exact PySem.EqNone.eq_none_str (vz I q (by simp))
  |_=>exact absurd (show false=true from U) gq
 |bl i =>
  cases R;cases y with
  |non=>cases Z;exact PySem.EqNone.eq_bool_none (vz I q (by simp))|bl j=>cases Z;exact eq_bool (vz I q aja)|str j=>obtain⟨G,rfl⟩:=Z;exact PySem.EqMixed.eq_bool_str (vz I q (by simp))
  |_=>exact absurd (show false=true from U) gq
 |int i =>
  obtain⟨t,rfl⟩:=R;cases y with
  |non=>cases Z;exact PySem.EqNone.eq_int_none (vz I q (by simp))|int j=>obtain⟨G,rfl⟩:=Z;exact eq_int (vz I q adw)
  |str j=>obtain⟨G,rfl⟩:=Z;exact PySem.EqMixed.eq_int_str (vz I q (by simp))
  |_=>exact absurd (show false=true from U) gq
 |str i =>
  obtain⟨t,rfl⟩:=R;cases y with
  |non=>cases Z;exact PySem.EqNone.eq_str_none (vz I q (by simp))|bl j=>cases Z;exact PySem.EqMixed.eq_str_bool (vz I q (by simp))|int j=>obtain⟨G,rfl⟩:=Z;exact PySem.EqMixed.eq_str_int (vz I q (by simp))
  |str j=>obtain⟨G,rfl⟩:=Z;exact eq_str (vz I q adx)
  |_=>exact absurd (show false=true from U) gq
 |byt i =>
  obtain⟨t,rfl⟩:=R;cases y with
  |byt j=>obtain⟨G,rfl⟩:=Z;exact PySem.W.eq_bytes (vz I q ady)
  |_=>exact absurd (show false=true from U) gq
 |_=>cases y<;>exact absurd (show false=true from U) gq
def ay8{X:Cx}:Aw X (compareOp .NotEq) rNe:=by
 intro qq s σ H x y v u Q I R Z h;obtain⟨U,q⟩:=h;cases x with
 |non =>
  cases R;cases y with
  |non=>cases Z;exact PySem.EqNone.ne_none_none (vz I q (by simp))|bl j=>cases Z;exact PySem.EqNone.ne_none_bool (vz I q (by simp))|int j=>obtain⟨G,rfl⟩:=Z;exact PySem.EqNone.ne_none_int (vz I q (by simp))
  |str j=>obtain⟨G,rfl⟩:=Z;exact PySem.EqNone.ne_none_str (vz I q (by simp))
  |_=>exact absurd (show false=true from U) gq
 |bl i =>
  cases R;cases y with
  |non=>cases Z;exact PySem.EqNone.ne_bool_none (vz I q (by simp))|bl j=>cases Z;exact ne_bool (vz I q (o4 not aja))|str j=>obtain⟨G,rfl⟩:=Z;exact PySem.EqMixed.ne_bool_str (vz I q (by simp))
  |_=>exact absurd (show false=true from U) gq
 |int i =>
  obtain⟨t,rfl⟩:=R;cases y with
  |non=>cases Z;exact PySem.EqNone.ne_int_none (vz I q (by simp))|int j=>obtain⟨G,rfl⟩:=Z;exact ne_int (vz I q (o4 not adw))
  |str j=>obtain⟨G,rfl⟩:=Z;exact PySem.EqMixed.ne_int_str (vz I q (by simp))
  |_=>exact absurd (show false=true from U) gq
 |str i =>
  obtain⟨t,rfl⟩:=R;cases y with
  |non=>cases Z;exact PySem.EqNone.ne_str_none (vz I q (by simp))|bl j=>cases Z;exact PySem.EqMixed.ne_str_bool (vz I q (by simp))|int j=>obtain⟨G,rfl⟩:=Z;exact PySem.EqMixed.ne_str_int (vz I q (by simp))
  |str j=>obtain⟨G,rfl⟩:=Z;exact ne_str (vz I q (o4 not adx))
  |_=>exact absurd (show false=true from U) gq
 |byt i =>
  obtain⟨t,rfl⟩:=R;cases y with
  |byt j=>obtain⟨G,rfl⟩:=Z;exact PySem.W.ne_bytes (vz I q (o4 not ady))
  |_=>exact absurd (show false=true from U) gq
 |_=>cases y<;>exact absurd (show false=true from U) gq
def ay9{X:Cx}:Aw X (compareOp .Lt) (rI0 λi j=>.bl (decide (i<j))):=anj λ_ _ _ _ _ _ _ q=>lt_int q
def aza{X:Cx}:Aw X (compareOp .LtE) (rI0 λi j=>.bl (decide (i<=j))):=anj λ_ _ _ _ _ _ _ q=>le_int q
def azb{X:Cx}:Aw X (compareOp .Gt) (rI0 λi j=>.bl (decide (j<i))):=anj λ_ _ _ _ _ _ _ q=>gt_int q
def azc{X:Cx}:Aw X (compareOp .GtE) (rI0 λi j=>.bl (decide (j<=i))):=anj λ_ _ _ _ _ _ _ q=>ge_int q
def Aw.or{X:Cx}{f:Value->Value->Sem Value}{r R:R2}(h:Aw X f r)(h':Aw X f R):Aw X f (λx y H Q=>r x y H Q\/R x y H Q):=by
 intro Z s σ H x y v u Q I U G q;rcases q with q|q
 .exact h Z s σ H x y v u Q I U G q
 .exact h' Z s σ H x y v u Q I U G q
def anl{X:Cx}{a b:Expr}{R tb:TE}{U:Pos}{G:CmpOp}{r:R2}(ho:Aw X (compareOp G) r)(ha:PE X a R)(hb:PE X b tb)(hm:behindInMarks G b=false):PE X (.Compare a [G] [b] U) (tOp r R tb):=by intro Z s σ H Q I h;exact wpAny_Compare1 (at6 ha hb I h λv u s2 x y H2 I2 rx ry q=>ho Z s2 σ H2 x y v u Q I2 rx ry q) hm
def aqs(t:TE):TT:=λZ H Q=>t Z H λx G=>∃k,x=.bl k/\Q k G
def anm{X:Cx}{a b:Expr}{ta tb:TE}{U:Pos}{G:CmpOp}{r:R2}(ho:Aw X (compareOp G) r)(ha:PE X a ta)(hb:PE X b tb)(hm:behindInMarks G b=false):PT X (.Compare a [G] [b] U) (aqs (tOp r ta tb)):=by
 intro Z s R H Q I h;refine wpAny_isTrue_Compare1 (zj (ha Z s R H _ I h) λv s1 ⟨x,H1,I1,r1,q1⟩=>zj (hb Z s1 R H1 _ I1 q1) λu s2 ⟨y,H2,I2,r2,q2⟩ =>
  zj (ho Z s2 R H2 x y v u _ I2 r1 r2 q2) λc s3 ⟨z,H3,I3,r3,k,e,q3⟩=>?_) hm
 subst e;cases r3;exact ju ⟨H3,I3,q3⟩
def Wx(r r':R2)(ta tb U:TE):TE:=λZ H Q=>ta Z H λx R=>tb Z R λy H2=>r x y H2 λz G=>∃k,z=.bl k /\
 (if k=true then U Z G λw' H4=>r' y w' H4 Q else Q (.bl false) G)
def ajb{X:Cx}{a b c:Expr}{ta tb tc:TE}{qk:Pos}{R G:CmpOp}{r r':R2}(ho:Aw X (compareOp R) r)(qq:Aw X (compareOp G) r')(ha:PE X a ta)(hb:PE X b tb)(hc:PE X c tc)
 (hm:lastMarks [R,G] [b,c]=false:=by with_unfolding_all rfl):PE X (.Compare a [R,G] [b,c] qk) (Wx r r' ta tb tc):=by
 intro Z s U H Q I h;refine Compare_chain (zj (ha Z s U H _ I h) λv s1 ⟨x,H1,I1,r1,q1⟩=>chain_link (zj (hb Z s1 U H1 _ I1 q1) λu s2 ⟨y,H2,I2,r2,q2⟩ =>
  zj (ho Z s2 U H2 x y v u _ I2 r1 r2 q2) λd s3 ⟨z,H3,I3,r3,k,e,q3⟩=>?_)) hm
 subst e;cases r3;refine ju ?_;cases k with
 |false=>exact ite_ff ⟨.bl false,H3,I3,rfl,q3⟩|true=>exact ite_tt (chain_last (zj (hc Z s3 U H3 _ I3 q3) λw' s4 ⟨z',H4,I4,r4,q4⟩=>qq Z s4 U H4 y z' u w' Q I4 r2 r4 q4))
def ajc{X:Cx}{a b c:Expr}{ta tb tc:TE}{qk:Pos}{R G:CmpOp}{r r':R2}(ho:Aw X (compareOp R) r)(qq:Aw X (compareOp G) r')(ha:PE X a ta)(hb:PE X b tb)(hc:PE X c tc)
 (hm:lastMarks [R,G] [b,c]=false:=by with_unfolding_all rfl):PT X (.Compare a [R,G] [b,c] qk) (aqs (Wx r r' ta tb tc)):=by
 intro Z s U H Q I h;refine isTrue_chain (zj (ha Z s U H _ I h) λv s1 ⟨x,H1,I1,r1,q1⟩=>test_link (zj (hb Z s1 U H1 _ I1 q1) λu s2 ⟨y,H2,I2,r2,q2⟩ =>
  zj (ho Z s2 U H2 x y v u _ I2 r1 r2 q2) λd s3 ⟨z,H3,I3,r3,k,e,q3⟩=>?_)) hm
 subst e;cases r3;refine ju ?_;cases k with
 |false =>
  obtain⟨k',e',q'⟩:=q3;cases e';exact ite_ff ⟨H3,I3,q'⟩
 |true =>
  refine ite_tt (test_last (zj (hc Z s3 U H3 _ I3 q3) λw' s4 ⟨z',H4,I4,r4,q4⟩=>zj (qq Z s4 U H4 y z' u w' _ I4 r2 r4 q4) λd' s5 z_=>?_));obtain⟨z2,H5,I5,r5,k2,e2,q5⟩:=z_;subst e2;cases r5;exact ju ⟨H5,I5,q5⟩
def ano(K:Fg)(x:V)(H:Hp)(k:Bool):Prop :=
 match x with
 |.non=>k=false|.bl b=>k=b|.int i=>k=(i != 0)|.str y=>y.length<=sizeLine/\k=((y.length:Int) != 0)|.byt y=>y.size<=sizeLine/\k=((y.size:Int) != 0)|.ref p=>(∃Z,Dt K H p Z/\k=!Z.isEmpty)\/(∃Z,El K H p Z/\k=!Z.isEmpty)\/∃G,H p=some (.dK G)/\k=!G.isEmpty|_=>False
def abf{U:Type}{Z:List (U×V)}{G:List (U×Value)}(r:KV Z G):(!G.isEmpty)=!Z.isEmpty:=by cases r<;>rfl
def Sg{Z:List V}{G:Zl}(r:Vals Z G):(!G.toArray.isEmpty)=!Z.isEmpty:=by cases r<;>simp
def Sh:(sizeLine:Nat)<2 ^ 63:=by rw[sizeLine_eq];decide
def ajd{X:Cx}:a6p X (λx H Q=>∃k,ano X.K x H k/\Q k H):=by
 intro qq s σ H x v Q I rx h;obtain⟨k,e,q⟩:=h;have hl:=Sh;have hs:sizeLine=16777216:=sizeLine_eq;cases x with
 |non =>
  cases rx;have Z:k=false:=e;subst Z;exact truthy_none ⟨H,I,q⟩
 |bl b =>
  cases rx;have Z:k=b:=e;subst Z;exact ju ⟨H,I,q⟩
 |int i =>
  obtain⟨t,rfl⟩:=rx;have Z:k=(i != 0):=e;subst Z;exact PySem.P.truthy_int ⟨H,I,q⟩
 |str y =>
  obtain⟨t,rfl⟩:=rx;obtain⟨hy,Z⟩:y.length<=sizeLine/\k=((y.length:Int) != 0):=e
  subst Z;exact PySem.P.truthy_str (by lia) ⟨H,I.tok _,q⟩
 |byt y =>
  obtain⟨t,rfl⟩:=rx;obtain⟨hy,Z⟩:y.size<=sizeLine/\k=((y.size:Int) != 0):=e
  subst Z;exact PySem.W.truthy_bytes (a_ hy (a_ (f_ hs) (by decide))) ⟨H,I.tok _,q⟩
 |ref p =>
  cases rx;have Z:(∃U,Dt X.K H p U/\k=!U.isEmpty)\/(∃U,El X.K H p U/\k=!U.isEmpty)\/∃R,H p=some (.dK R)/\k=!R.isEmpty:=e;rcases Z with⟨U,hx,Z⟩|⟨U,hx,Z⟩|⟨R,hx,Z⟩
  .subst Z
   obtain⟨q9,r,pl,hz⟩:=I.list hx;have G:=r.length;exact wpAny_truthy_list pl.isList (by simp only[di];lia) ⟨H,I.tok _,by rw[Sg r];exact q⟩
  .subst Z
   obtain⟨q9,r,pl,hz⟩:=I.tuple hx;have G:=r.length;exact truthy_tuple pl (by simp only[di];lia) ⟨H,I.tok _,by rw[Sg r];exact q⟩
  .subst Z
   obtain⟨hz,hS,vs,r,m⟩:R.length<=sizeLine/\(p==sysModules)=false/\∃vs,KV R vs/\s.heap.DictOf (sy X.prog X.w) p vs:=I.yf p _ hx
   have G:R.length=vs.length:=Paired.length r;exact wpAny_truthy_dict hS m (by lia) ⟨H,I.tok _,by rw[abf r];exact q⟩
 |_=>exact(show False from e).elim
def aje{X:Cx}{a:Expr}{R:TE}(ha:PE X a R)(he:∀Z,isTrue a X.env Z=(do let v <- Z;standAt a.pos;holding [v] (truthy v))) :
 PT X a (λU H Q=>R U H λx H'=>∃k,ano X.K x H' k/\Q k H'):=by
 intro G s U H Q I h;exact isTrue_plain (zj (ha G s U H _ I h) λv s1 ⟨x,H1,I1,r1,q1⟩=>ajd G s1 U H1 x v Q I1 r1 q1) (he _)
def vals1{x:V}{Z:Zl}(r:Vals [x] Z):∃u,Z=[u]/\RelV x u:=by
 cases r with
 |cons G U=>cases U;exact⟨_,rfl,G⟩
def vals2{x y:V}{Z:Zl}(r:Vals [x,y] Z):∃u w',Z=[u,w']/\RelV x u/\RelV y w':=by
 cases r with
 |cons U r2 =>
  cases r2 with
  |cons G R=>cases R;exact⟨_,_,rfl,U,G⟩
def afw{X:Cx}(R:X.calm=true):zp X (.builtin "max") (λG H Q=>∃i j,G=[.int i,.int j]/\Q (.int (if j > i then j else i)) H):=by
 intro U s σ H G us Q I r h;obtain⟨i,j,rfl,q⟩:=h;obtain⟨u,w',rfl,⟨t,rfl⟩,⟨t',rfl⟩⟩:=vals2 r;refine max_two_ints (I.ok.hd R) λh' tk k=>⟨_,H,I.kept k,?_,q⟩
 by_cases Z:j > i
 .rw[bh Z,bh Z];exact⟨_,rfl⟩
 .rw[bj Z,bj Z];exact⟨_,rfl⟩
def afx{X:Cx}(R:X.calm=true):zp X (.builtin "min") (λG H Q=>∃i j,G=[.int i,.int j]/\Q (.int (if j<i then j else i)) H):=by
 intro U s σ H G us Q I r h;obtain⟨i,j,rfl,q⟩:=h;obtain⟨u,w',rfl,⟨t,rfl⟩,⟨t',rfl⟩⟩:=vals2 r;refine min_two_ints (I.ok.hd R) λh' tk k=>⟨_,H,I.kept k,?_,q⟩
 by_cases Z:j<i
 .rw[bh Z,bh Z];exact⟨_,rfl⟩
 .rw[bj Z,bj Z];exact⟨_,rfl⟩
end L2
namespace L2
open PySem PySem.Spec PyProof.Rows
structure abg(h:Heap)(x dx C:Addr)(mA:Zs):Prop where
 obj:h.get? x=some (PySem.W.instObj C dx)
 ns:h.Ns1 dx mA
 ne:dx≠x
set_option tactic.hygienic true in
def afy{h:Heap}{G:Addr}{J:Zs}(n:h.Ns1 G J):∃U,h.get? G=some U/\∀Z,PySem.W.lookIn Z U=some (J Z):=by
 obtain⟨o,C,ep,ho,hd,S,_,R⟩:=n;refine⟨o,ho,λZ=>?_⟩;have e:=R Z;unfold nsFind findBy at e;rw[<- Array.find?_toList] at e;unfold PySem.W.lookIn;rw[hd];dsimp only;split
 .rename_i y q
  rw[q] at e;exact o4 some e
 .rename_i q
  rw[q] at e;have a:C.toList.any (·.refKey)=false:=by rw[List.any_eq_false];intro y hy;obtain⟨z,t,Y⟩:=S y (Array.mem_toList_iff.mp hy);simp[DictEntry.refKey,Y]
  have L:¬C.toList.any (·.refKey)=true:=by rw[a];exact gq
  rw[bj L];exact o4 some e
def abg.look{h:Heap}{x U C:Addr}{R:Zs}(I:abg h x U C R):∃G,PySem.W.InstAt h x (PySem.W.instObj C U) C (some G)/\∀Z,PySem.W.lookIn Z G=some (R Z) :=
 let ⟨G,ho,hl⟩:=afy I.ns
 ⟨G,⟨I.obj,rfl,rfl,ho⟩,hl⟩
def get_map{prog:Program}{w:World}{A:Around}{E:Y1}{s:Shared}{K:Fg}{x dx C:Addr}{R:Zs}{Z:Str}{v:Value}{G:Bool}{Q:Y1}(X:K.In s.heap)(I:abg s.heap x dx C R)(hg:PySem.W.plainGet K C Z=true)(hh:PySem.W.hasDictIn K C=true)
 (ha:PySem.W.findIn K (.ref C) Z=some none) (hv:R Z=some v) (U:PySem.W.handedIn v=true) (h:Q v { s with toks:=s.toks+1 }) :
 wpAny (model prog w) A (getAttr (.ref x) Z G) Q E s:=by
 obtain⟨od,J,hl⟩:=I.look;exact PySem.W.get_value X J (PySem.W.plainGet_of hg).1 (PySem.W.findObj_own hh ha rfl (by rw[hl,hv])) U h
def ajf{prog:Program}{w:World}{A:Around}{E:Y1}{s:Shared}{K:Fg}{x dx C f:Addr}{U:Zs}{Z:Str}{pl:Sem Bool}{Q:Value×List Value->Shared->Prop}(X:K.In s.heap)(I:abg s.heap x dx C U)(G:PySem.W.plainGet K C Z=true)
 (hf:PySem.W.findIn K (.ref C) Z=some (some (.ref f))) (ht:PySem.W.isFn K (.ref f)=true) (hv:U Z=none) (h:Q (.ref f,[.ref x]) s) :
 wpAny (model prog w) A (getMethod (.ref x) Z pl) Q E s:=by
 obtain⟨od,J,R⟩:=I.look;exact PySem.W.method_fn X J (PySem.W.plainGet_of G).1 (PySem.W.plainGet_of G).2 hf (beq_iff_eq.mp ht) (by show(PySem.W.lookIn Z od).map (·.isSome)=some false;rw[R,hv];rfl) h
def anp{prog:Program}{w:World}{A:Around}{E:Y1}{s:Shared}{K:Fg}{x R C:Addr}{mA:Zs}{Z:Str}{v:Value}{ns:Yf}{Q:Unit->Shared->Prop}(X:K.In s.heap)(I:abg s.heap x R C mA)
 (hs:PySem.W.findIn K (.ref C) "__setattr__" = some (some (.builtin "object.__setattr__"))) (hp:PySem.W.plainOver K C=true) (ht:PySem.W.takerIn K C Z=some none) (hh:PySem.W.hasDictIn K C=true)
 (hw:PySem.Within mA ns) (qk:ns.length<=sizeLine)
 (h:∀h',abg h' x R C (λy=>if y=Z then some v else mA y)->Heap.SameBut R s.heap h'->Q () { s with heap:=h',toks:=s.toks+2 }) :
 wpAny (model prog w) A (setAttr (.ref x) Z v) Q E s:=by
 obtain⟨od,J,hl⟩:=I.look;refine PySem.W.set_plain X J hs (PySem.W.osa_open (s:={ s with toks:=s.toks+1 }) (r:=none) X J hp ht λb=>?_);obtain⟨cd,hc,q1⟩:=PySem.W.any_some hh;have hx:s.heap.get? x=some ⟨.ref C,some R,.plain,#[]⟩:=I.obj;refine aa (aj (aa (aa (wpAny_loadPart hx (aa (PySem.W.Looks.here (s:={ s with toks:=s.toks+1 }) (PySem.W.looks_clsIn X hc) ?_))))));rw[q1];refine aj (a:=some R) (aa (aj (aa ?_)));refine wpAny_nsSet1 (s:={ s with toks:=s.toks+1 }) I.ns λh' U G=>?_
 obtain⟨oD,q2,q3,qq,q0,qv⟩:=U.count (PySem.Within.cons Z v hw);refine aa (wpAny_lookBehind qq (by rw[q0];exact pastItsLine_dict (bw qv (by rw[d7];exact v_ qk))) ?_);exact aj (h _ ⟨(G.2 _ (jh I.ne)).trans I.obj,U,I.ne⟩ G)
def ajg{prog:Program}{w:World}{A:Around}{s:Shared}{K:Fg}{C f:Addr}{R:Result->Shared->Prop}{G:Zl}{U:List (Str×Value)}(X:K.In s.heap)(hm:PySem.W.makesIn K C=true)
 (hi:PySem.W.findIn K (.ref C) "__init__" = some (some (.ref f))) (hf:PySem.W.typeIn K (.ref f)=some (.type "function"))
 (h:codeAny (model prog w) (A.under (.builtin "type.__call__" ⟨.ref C::G,U⟩)) (.call (.ref f) ⟨.ref (s.heap.objs.size+1)::G,U⟩) (PySem.W.InitBack (s.heap.objs.size+1) R)
  { s with heap:=(s.heap.push PySem.W.emptyDict).push (PySem.W.instObj C s.heap.objs.size) }) :
 codeAny (model prog w) A (.call (.ref C) ⟨G,U⟩) R s:=by
 obtain⟨hh,g,d,t,os⟩:=s;exact PySem.W.make_core (PySem.W.makes_of X hm) (PySem.W.looks_findIn X hi) (λZ=>PySem.W.bind_fn X Z hf) (.inl rfl) h
noncomputable def Gb(f:Str)(v:V):List (Str×V)->List (Str×V)
 |[]=>[(f,v)]|(g,x)::r=>if g=f then(g,v)::r else(g,x)::Gb f v r
theorem Pu(f g:Str)(v:V):∀fs:List (Str×V),(Gb f v fs).lookup g=if g=f then some v else fs.lookup g
 |[]=>by
  show List.lookup g [(f,v)]=_
  by_cases h:g=f
  .have Z:(g==f)=true:=beq_iff_eq.mpr h
   simp only[List.lookup,Z,bh h]
  .have Z:(g==f)=false:=uh.mpr h
   simp only[List.lookup,Z,bj h]
 |(k,x)::r=>by
  have U:=Pu f g v r;rw[show Gb f v ((k,x)::r)=(if k=f then(k,v)::r else(k,x)::Gb f v r) from rfl]
  by_cases G:k=f
  .rw[bh G]
   by_cases h:g=k
   .have Z:(g==k)=true:=beq_iff_eq.mpr h
    simp only[List.lookup,Z,bh (h.trans G)]
   .have Z:(g==k)=false:=uh.mpr h
    simp only[List.lookup,Z,bj (λe:g=f=>h (e.trans G.symm))]
  .rw[bj G]
   by_cases h:g=k
   .have Z:(g==k)=true:=beq_iff_eq.mpr h
    simp only[List.lookup,Z,bj (λe:g=f=>G (h.symm.trans e))]
   .have Z:(g==k)=false:=uh.mpr h
    simp only[List.lookup,Z];exact U
theorem Ou(f:Str)(v:V):∀fs:List (Str×V),f∈(Gb f v fs).map (·.1)/\∀g,g∈fs.map (·.1)->g∈(Gb f v fs).map (·.1)
 |[]=>⟨by simp[Gb],λg h=>by simp at h⟩
 |(k,x)::r=>by
  obtain⟨G,U⟩:=Ou f v r;rw[show Gb f v ((k,x)::r)=(if k=f then(k,v)::r else(k,x)::Gb f v r) from rfl]
  by_cases Z:k=f
  .rw[bh Z]
   subst Z;exact⟨by simp,λg h=>by simpa using h⟩
  .rw[bj Z]
   refine⟨?_,λg h=>?_⟩
   .rw[cz]
    exact bu _ G
   .rw[cz] at h ⊢
    rcases dh.mp h with e|e
    .exact dh.mpr (.inl e)
    .exact bu _ (U g e)
theorem Px(f:Str)(v:V):∀fs:List (Str×V),(Gb f v fs).length<=fs.length+1
 |[]=>by simp[Gb]
 |(k,x)::r=>by
  have G:=Px f v r;rw[show Gb f v ((k,x)::r)=(if k=f then(k,v)::r else(k,x)::Gb f v r) from rfl]
  by_cases Z:k=f
  .rw[bh Z,d7,d7];exact x_
  .rw[bj Z,d7,d7];exact v_ G
def Il.some_of{v:V}{o:Option Value}(r:Il (some v) o):∃u,o=some u/\RelV v u:=by
 cases o with
 |none=>exact(show False from r).elim
 |some u=>exact⟨u,rfl,r⟩
def Il.none_of{o:Option Value}(r:Il none o):o=none:=by
 cases o with
 |none=>rfl|some u=>exact(show False from r).elim
def afz{v:V}{u:Value}(r:RelV v u):PySem.W.handedIn u=true:=by
 cases v with
 |non=>cases(show u=Value.none from r);rfl
 |bl b=>cases(show u=Value.bool b from r);rfl
 |int i=>obtain⟨t,e⟩:=(show ∃t,u=Value.int i t from r);cases e;rfl
 |str x=>obtain⟨t,e⟩:=(show ∃t,u=Value.str x t from r);cases e;rfl
 |byt b=>obtain⟨t,e⟩:=(show ∃t,u=Value.bytes b t from r);cases e;rfl
 |flt b=>obtain⟨t,e⟩:=(show ∃t,u=Value.float b t from r);cases e;rfl
 |ref a=>cases(show u=Value.ref a from r);rfl
 |ty n=>cases(show u=Value.type n from r);rfl
def J9{P:Program}{w:World}{H:Hp}{h:Heap}{a C G:Addr}{fs:List (Str×V)}(R:K6 P w H h)(e:H a=some (.ins C G fs)):∃Z,abg h a G C Z/\(∀f,Il (fs.lookup f) (Z f))/\PySem.Within Z (fs.map (·.1))/\fs.length<=1000/\H G=some (.own a):=by obtain⟨d,z,U,ob,Z,n,r,q⟩:=(show yt P w H h a (.ins C G fs) from R a _ e);exact⟨Z,⟨ob,n,U⟩,r,q,z,d⟩
structure Cls(K:Fg)(C:Addr):Prop where
 pg:PySem.W.plainGet K C Str.empty=true
 hd:PySem.W.hasDictIn K C=true
 po:PySem.W.plainOver K C=true
 sa:PySem.W.findIn K (.ref C) "__setattr__" = some (some (.builtin "object.__setattr__"))
def Cls.get{K:Fg}{C:Addr}(c:Cls K C)(f:Str):PySem.W.plainGet K C f=true:=c.pg
def Dz(K:Fg)(C:Addr)(f:Str):Prop:=PySem.W.findIn K (.ref C) f=some none
def Dz.taker{K:Fg}{C:Addr}{f:Str}(n:Dz K C f):PySem.W.takerIn K C f=some none:=by unfold PySem.W.takerIn;rw[show PySem.W.findIn K (.ref C) f=some none from n];rfl
structure Meth(K:Fg)(C:Addr)(m:Str)(f:Addr):Prop where
 at_:PySem.W.findIn K (.ref C) m=some (some (.ref f))
 fn:PySem.W.isFn K (.ref f)=true
 kp:PySem.W.keepIn K (.ref f)=true
def abi{X:Cx}{Z:Zp}{R:St}{H:Hp}{s:Shared}{a C dx:Addr}{fs:List (Str×V)}{f:Str}{v:V}{A:Around}{E:Y1}{b:Bool}{Q:Y1}(I:Inv X Z R H s)(e:H a=some (.ins C dx fs))(c:Cls X.K C)(n:Dz X.K C f)(l:fs.lookup f=some v)
 (h:∀u G,Inv X Z R H G->RelV v u->Q u G):wpAny (model X.prog X.w) A (getAttr (.ref a) f b) Q E s:=by
 obtain⟨mA,O,r,_,_,_⟩:=J9 I.yf e;obtain⟨u,hu,U⟩:=Il.some_of (v:=v) (o:=mA f) (by rw[<- l];exact r f);exact get_map I.kIn O (c.get f) c.hd n hu (afz U) (h u _ (I.tok _) U)
def abj{X:Cx}{Z:Zp}{σ:St}{H:Hp}{s:Shared}{a C G:Addr}{fs:List (Str×V)}{A:Around}{E:Y1}{m:Str}{g:Addr}{pl:Sem Bool}{Q:Value×List Value->Shared->Prop}(I:Inv X Z σ H s)(e:H a=some (.ins C G fs))(c:Cls X.K C)(k:Meth X.K C m g)(l:fs.lookup m=none)
 (h:Q (.ref g,[.ref a]) s):wpAny (model X.prog X.w) A (getMethod (.ref a) m pl) Q E s:=by
 obtain⟨R,O,r,_,_,_⟩:=J9 I.yf e;have U:R m=none:=Il.none_of (by rw[<- l];exact r m);exact ajf I.kIn O (c.get m) k.at_ k.fn U h
def abk{X:Cx}{Z:Zp}{σ:St}{H:Hp}{s:Shared}{a C G:Addr}{fs:List (Str×V)}{f:Str}{A:Around}{E:Y1}{y:V}{u:Value}{Q:Unit->Shared->Prop}(I:Inv X Z σ H s)(e:H a=some (.ins C G fs))(c:Cls X.K C)(n:Dz X.K C f)(R:fs.length<1000)(ry:RelV y u)
 (h:∀s',Inv X Z σ (upd H a (.ins C G (Gb f y fs))) s'->Q () s'):wpAny (model X.prog X.w) A (setAttr (.ref a) f u) Q E s:=by
 obtain⟨mA,O,r,wi,_,ho⟩:=J9 I.yf e;have hz:(fs.map (·.1)).length<=sizeLine:=by rw[dg,sizeLine_eq];exact e_ (b_ R (by decide))
 refine anp I.kIn O c.sa c.po n.taker c.hd wi hz λh' U sb=>h _ ?_
 have hd:∃o,h'.get? G=some o:=let ⟨o,_,_,e',_⟩:=U.ns;⟨o,e'⟩;refine I.write (x:=a) (e:=G) (by rw[e];exact True.intro) (.inr ho) (λb q hb z=>(sb.2 b hb).trans z) hd ?_;refine⟨by rw[jy O.ne];exact ho,?_,O.ne,U.obj,_,U.ns,λg=>?_,λg hg=>?_⟩
 .have:=Px f y fs;exact a_ this R
 .show Il ((Gb f y fs).lookup g) (if g=f then some u else mA g)
  rw[Pu]
  by_cases q:g=f
  .rw[bh q,bh q];exact ry
  .rw[bj q,bj q];exact r g
 .by_cases q:g=f
  .rw[q];exact(Ou f y fs).1
  .refine(Ou f y fs).2 g (wi g λz=>hg ?_)
   show(if g=f then some u else mA g)=none;rw[bj q];exact z
def Inv.made{X:Cx}{Z:Zp}{R:St}{H:Hp}{s:Shared}{C:Addr}(I:Inv X Z R H s):Inv X Z R (upd (upd H s.heap.objs.size (.own (s.heap.objs.size+1))) (s.heap.objs.size+1) (.ins C s.heap.objs.size []))
 { s with heap:=(s.heap.push PySem.W.emptyDict).push (PySem.W.instObj C s.heap.objs.size) }:=by
 have U:(s.heap.push PySem.W.emptyDict).get? s.heap.objs.size=some PySem.W.emptyDict:=bc s.heap rfl;have e2:((s.heap.push PySem.W.emptyDict).push (PySem.W.instObj C s.heap.objs.size)).get? (s.heap.objs.size+1)=some (PySem.W.instObj C s.heap.objs.size):=by
  have:=bc (s.heap.push PySem.W.emptyDict) (o:=PySem.W.instObj C s.heap.objs.size) rfl
  rwa [jq] at this
 have e3:(s.heap.push PySem.W.emptyDict).Ns s.heap.objs.size (λ_=>none):=⟨PySem.W.emptyDict,#[],_,U,rfl,(λe he=>absurd he (by simp)),λ_=>rfl⟩;have I1:=I.laid (a:=s.heap.objs.size) (o:=.own (s.heap.objs.size+1)) (h':=s.heap.push PySem.W.emptyDict) (t':=s.toks) (λb u q=>ao _ q) (az _) ⟨_,U⟩;refine I1.laid (a:=s.heap.objs.size+1) (o:=.ins C s.heap.objs.size []) (t':=s.toks) (λb u q=>ao _ q) (Nat.le_of_eq (jq _ _)) ?_;have G:s.heap.objs.size≠s.heap.objs.size+1:=fc (qw _);refine⟨by rw[jy G,qu],ie _,G,e2,λ_=>none,(Heap.Ns1.of_empty e3).at λo q=>ao _ q,λ_=>True.intro,λy hy=>absurd rfl hy⟩
def anq{A:Around}{E:Y1}{prog:Program}{w:World}{Z:Env}{e:Expr}{f:Str}{U:Pos}{s:Shared}{Q:Y1}(R:attributeBase e f Z (eval e Z)=eval e Z)
 (h:wpAny (model prog w) A (eval e Z) (λo G=>wpAny (model prog w) A (getAttr o f true) Q E G) E s):wpAny (model prog w) A (eval (.Attribute e f U) Z) Q E s :=
 Attribute_any_ h (by rw[arm_eval_Attribute,R])
def a6s(K:Fg)(G:TE)(f:Str):TE:=λU H Q=>G U H λx Z=>∃a C R fs v,x=.ref a/\Z a=some (.ins C R fs)/\Cls K C/\Dz K C f/\fs.lookup f=some v/\Q v Z
def a6t(K:Fg)(ta tv:TE)(f:Str):TS:=λD Z H=>tv Z H λy R=>ta Z R λx U=>∃a C G fs,x=.ref a/\U a=some (.ins C G fs)/\Cls K C/\Dz K C f/\fs.length<1000 /\
 D.nx Z (upd U a (.ins C G (Gb f y fs)))
def auf{X:Cx}{e:Expr}{f:Str}{G:Pos}{U:TE}(he:PE X e U)(hb:attributeBase e f X.env (eval e X.env)=eval e X.env):PE X (.Attribute e f G) (a6s X.K U f):=by intro Z s σ H Q I h;refine anq hb (zj (he Z s σ H _ I h) λu s1 z_=>?_);obtain⟨x,H1,R,rx,a,C,dx,fs,v,ex,ea,c,n,l,q⟩:=z_;subst ex;obtain rfl:u=Value.ref a:=rx;exact abi R ea c n l λu' s2 I2 ru=>⟨v,H1,I2,ru,q⟩
def auh{X:Cx}{o Z:Expr}{f:Str}{R G:Pos}{ta tv:TE}(ha:PE X o ta)(hv:PE X Z tv)(hs:swapsWith Z (some (.Attribute o f G)) R.line X.env=pure false):PS X (.Assign [.Attribute o f G] Z R) (a6t X.K ta tv f):=by intro U s σ H D I h;refine plainObj_wpAny_Assign_Attribute (zj (hv U s σ H _ I h) λu s1 ⟨y,H1,I1,ry,q⟩=>zj (ha U s1 σ H1 _ I1 q) λov s2 ⟨x,H2,I2,rx,a,C,dx,fs,ex,ea,c,n,l,q2⟩=>?_) hs;subst ex;obtain rfl:ov=Value.ref a:=rx;exact abk I2 ea c n l ry λs3 I3=>⟨σ,_,I3,q2⟩
end L2
namespace L2
open PySem PySem.Spec PyProof.Rows
structure ye(k:Nat)(A:Around):Prop where
 hd:A.handled=none
 dp:A.depth+3*k+5<recursionLimit
 un:A.units+16*k+200<cLine
def ye.mono{j k:Nat}{A:Around}(r:ye k A)(h:j<=k):ye j A:=⟨r.hd,by have:=r.dp;lia,by have:=r.un;lia⟩
theorem ye.deeper{k:Nat}{A:Around}(r:ye (k+1) A)(Z:Env):ye k (A.deeper Z) :=
 ⟨r.hd,by have:=r.dp;show A.depth+1+3*k+5<_;lia,by have:=r.un;show A.units+3+16*k+200<_;lia⟩
theorem ye.in1{k:Nat}{A:Around}(r:ye (k+1) A):ye k A.in1 :=
 ⟨r.hd,by have:=r.dp;show A.depth+3*k+5<_;lia,by have:=r.un;show A.units+1+16*k+200<_;lia⟩
def abl{A:Around}{C:Addr}{G:Zl}{Z:List (Str×Value)}:(A.under (.builtin "type.__call__" ⟨.ref C::G,Z⟩)).depth=A.depth+1:=by first|rfl|simp[Around.under,Code.weight,Code.isCreation,Code.isGuard,Code.isCaller,Code.frames,Code.isFrame,guardIds]
def abm{A:Around}{C:Addr}{G:Zl}{Z:List (Str×Value)}:(A.under (.builtin "type.__call__" ⟨.ref C::G,Z⟩)).units=A.units+1:=by first|rfl|simp[Around.under,Code.cUnits,Code.frames,Code.isFrame]
def ye.make{k:Nat}{A:Around}(r:ye (k+1) A)(C:Addr)(G:Zl)(Z:List (Str×Value)):ye k (A.under (.builtin "type.__call__" ⟨.ref C::G,Z⟩)) :=
 ⟨r.hd,by have:=r.dp;rw[abl];lia,by have:=r.un;rw[abm];lia⟩
theorem ye.depth{k:Nat}{A:Around}(r:ye k A):A.depth<recursionLimit:=by have:=r.dp;lia
theorem ye.units{k:Nat}{A:Around}(r:ye k A):A.units+64<cLine:=by have:=r.un;lia
def ye.Sq{k:Nat}{A:Around}(r:ye k A):A.units<cLine:=by have:=r.un;lia
def azd:TA:=λ_ H Q=>Q [] H
def aze(U:TE)(tr:TA):TA:=λZ H Q=>U Z H λx G=>tr Z G λR H2=>Q (x::R) H2
def aui{X:Cx}:PA X [] azd:=λ_ _ _ _ H Q I h=>Calls.spliced_nil ⟨[],H,I,.nil,h⟩
def anr{X:Cx}{e:Expr}{U:Ya}{R:TE}{t:TA}(ha:PE X e R)(hr:PA X U t)(hs:starEach (e::U) X.env=(false,eval e X.env)::starEach U X.env:=by rfl):PA X (e::U) (aze R t):=by intro G Z s σ H Q I h;rw[hs];show wpAny _ _ (spliced ((false,eval e X.env)::backTo G (starEach U X.env))) _ _ s;refine Calls.spliced_cons (zj (ha Z s σ H _ I h) λu s1 z_=>?_);obtain⟨x,H1,I1,r1,q1⟩:=z_;exact zj (hr G Z s1 σ H1 _ I1 q1) λus s2 ⟨xs,H2,I2,r2,q2⟩=>⟨x::xs,H2,I2,.cons r1 r2,q2⟩
def a6u(t:TA):TE:=λU H Q=>t U H λZ G=>Z.length<=sizeLine/\∀p,G p=none->Q (.ref p) (upd G p (.tup Z))
def a6v(t:TA):TE:=λU H Q=>t U H λZ G=>Z.length<=sizeLine/\∀p,G p=none->Q (.ref p) (upd G p (.lst Z))
def auj{X:Cx}{R:Ya}{t:TA}{Z:Pos}{x1}(h:PA X R t):PE X (.Tuple R x1 Z) (a6u t):=by intro G s σ H Q I hq;refine wpAny_Tuple_spliced (zj (h Z G s σ H _ I hq) λus U ⟨xs,H1,I1,r,z,q⟩=>⟨by rw[<- r.length];exact z,?_⟩);have hf:H1 U.heap.objs.size=none:=I1.yf.fresh (az _);refine⟨.ref U.heap.objs.size,upd H1 U.heap.objs.size (.tup xs),I1.laid (t':=U.toks) (λb u e=>ao _ e) (az _) ?_,rfl,q _ hf⟩;exact⟨z,us,r,Qi.new _ _⟩
def ajh{X:Cx}{R:Ya}{t:TA}{Z:Pos}(h:PA X R t):PE X (.List R Z) (a6v t):=by intro G s σ H Q I hq;refine wpAny_List_spliced (zj (h Z G s σ H _ I hq) λus U ⟨xs,H1,I1,r,z,q⟩=>⟨by rw[<- r.length];exact z,?_⟩);have hf:H1 U.heap.objs.size=none:=I1.yf.fresh (az _);refine⟨.ref U.heap.objs.size,upd H1 U.heap.objs.size (.lst xs),I1.laid (t':=U.toks) (λb u e=>ao _ e) (az _) ?_,rfl,q _ hf⟩;exact⟨z,us,0,r,bc _ rfl⟩
abbrev Sp:=List V->Hp->VK->XK->Prop
abbrev CXT:=List Env->Hp->Shared->XK->Value->Shared->Prop
structure abn(P:Program)(w:World)(K:Fg)(mg:Zs)(base:Heap)(A:Around)(outer:List Env)(s:Shared)(H:Hp):Prop where
 frames:A.frames=some outer
 mod:Mod K mg base
 bs:∀b o,base.get? b=some o->s.heap.get? b=some o/\H b=none
 bsz:base.objs.size<=s.heap.objs.size
 Qj:s.heap.FunFrames base outer
 frf:∀b∈frs outer,H b=none
 yf:K6 P w H s.heap
 bare:AllBare s.gens
def CE(Z:List Env)(P:Program)(w:World)(H:Hp)(s:Shared)(Q:VK)(u:Value)(G:Shared):Prop :=
 ∃v U,G.os=s.os/\AllBare G.gens/\Un (frs Z) [] H U s.heap G.heap/\K6 P w U G.heap/\RelV v u/\Q v U
def CR(U:CXT)(Z:List Env)(P:Program)(w:World)(H:Hp)(s:Shared)(Q:VK)(E:XK)(r:Result)(G:Shared):Prop :=
 match r with
 |.ok (.ret u)=>CE Z P w H s Q u G|.ok _=>False|.error e=>U Z H s E e G
structure Ea(P:Program)(w:World)(K:Fg)(mg:Zs)(base:Heap)(CX:CXT)(k:Nat)(f:Addr)(fd:FuncData)(ps:Yf)(sp:Sp):Prop where
 len:∀vs H Q E,sp vs H Q E->vs.length=ps.length
 run:∀(A:Around)(outer:List Env)(s:Shared)(H:Hp)(args:Args)(us:Zl)(vs:List V)(Q:VK)(E:XK),ye k A->abn P w K mg base A outer s H->BindsTo s fd args (ps.zip us)->Vals vs us->sp vs H Q E ->
  codeAny (model P w) A (.call (.ref f) args) (CR CX outer P w H s Q E) s
def Ea.imp{P:Program}{w:World}{K:Fg}{mg:Zs}{Z:Heap}{CX:CXT}{k:Nat}{f:Addr}{fd:FuncData}{ps:Yf}{sp sp':Sp}(F:Ea P w K mg Z CX k f fd ps sp)
 (h:∀U H Q E,sp' U H Q E->sp U H Q E):Ea P w K mg Z CX k f fd ps sp' :=
 ⟨λU H Q E q=>F.len U H Q E (h _ _ _ _ q),λA G s H R us U Q E hr he hb hv hs=>F.run A G s H R us U Q E hr he hb hv (h _ _ _ _ hs)⟩
def abn.make{P:Program}{w:World}{K:Fg}{mg:Zs}{G:Heap}{A:Around}{Z:List Env}{s:Shared}{H:Hp}(e:abn P w K mg G A Z s H)(C:Addr)(R:Zl)(U:List (Str×Value)) :
 abn P w K mg G (A.under (.builtin "type.__call__" ⟨.ref C::R,U⟩)) Z s H:=⟨by first|exact e.frames|(simpa[Around.under,Code.envs,Code.isFrame,pushEnvs] using e.frames),e.mod,e.bs,e.bsz,e.Qj,e.frf,e.yf,e.bare⟩
def Inv.env0{X:Cx}{Z:Zp}{G:St}{H:Hp}{s:Shared}(I:Inv X Z G H s):abn X.prog X.w X.K X.mg X.base X.A X.stack s H :=
 ⟨I.ok.frames,I.ok.mod,I.bs,bw I.ok.bsz I.sz,I.stack,I.adp,I.yf,I.bare⟩
def Inv.after{X:Cx}{Z:Zp}{R:St}{H:Hp}{s s':Shared}{Q:VK}{u:Value}(I:Inv X Z R H s)(h:CE X.stack X.prog X.w H s Q u s'):EP X Z R Q u s':=by obtain⟨v,H',os,G,un,yf,r,q⟩:=h;obtain⟨hh,g,d,t,U⟩:=s';obtain rfl:U=s.os:=os;exact⟨v,H',I.call (h':=hh) (g':=g) (d':=d) (t':=t) (ch:=[]) un yf G (λb z=>absurd z (by simp)),r,q⟩
def azf(R:Sp)(U:List V)(E:XK)(t:TA):TE:=fun σ H Q=>t σ H λZ G=>R (Z++U) G Q E
def azg(C:Addr)(m:Str)(sp:Sp)(Ss:List V)(E:XK)(R:TE)(t:TA):TE:=λG H Q=>R G H λx Z=>∃a dx fs,x=.ref a/\Z a=some (.ins C dx fs)/\fs.lookup m=none /\
 t G Z λU H2=>sp (x::(U++Ss)) H2 Q E
def azh(C:Addr)(sp:Sp)(R:List V)(E:XK)(t:TA):TE:=fun σ H Q=>t σ H λU G=>∀x Z,G x=none->G Z=none->Z≠x ->
 sp (.ref x::(U++R)) (upd (upd G Z (.own x)) x (.ins C Z [])) (λv H2=>v=.non/\Q (.ref x) H2) E
def Binds(K:Fg)(R:FuncData)(U:Yf)(G:Zl):Prop :=
 ∀(s:Shared)(Z:Zl),K.In s.heap->(Z++G).length=U.length->BindsTo s R ⟨Z,[]⟩ (U.zip (Z++G))
def Binds.all{K:Fg}{R:FuncData}{G:Yf}(h:∀Z:List Value,Z.length=G.length->bindArgs R ⟨Z,[]⟩=pure (G.zip Z)):Binds K R G []:=λs Z _ U=>by rw[yl] at U ⊢;exact .of_eq (h Z U)
def Passes(U:CXT)(X:Cx)(E:XK):Prop:=∀(Z:Zp)(R:St)(H:Hp)(s:Shared)(e:Value)(G:Shared),Inv X Z R H s->U X.stack H s E e G->X.xe e G
def aji{X:Cx}{CX:CXT}{k:Nat}{f:Addr}{fd:FuncData}{ps:Yf}{sp:Sp}{R:List V}{G:Zl}{E:XK}{Z:Zp}{σ:St}{H:Hp}{s:Shared}{Q:VK}{us:Zl}{vs:List V}(F:Ea X.prog X.w X.K X.mg X.base CX k f fd ps sp)(hr:ye k X.A)(hb:Binds X.K fd ps G)(hd:Vals R G)(hx:Passes CX X E)
 (I:Inv X Z σ H s) (r:Vals vs us) (h:sp (vs++R) H Q E):wpAny (model X.prog X.w) X.A (call (.ref f) us) (EP X Z σ Q) X.xe s:=by
 have r2:Vals (vs++R) (us++G):=r.append hd;have hl:(us++G).length=ps.length:=by rw[<- r2.length];exact F.len _ _ _ _ h
 refine wpAny_call (codeAny_mono (F.run X.A X.stack s H ⟨us,[]⟩ (us++G) (vs++R) Q E hr I.env0 (hb s us I.kIn hl) r2 h) λr s' U=>?_);cases r with
 |error e=>exact hx Z σ H s e s' I U
 |ok fl =>
  cases fl with
  |ret u=>exact I.after U|next=>exact False.elim U|brk=>exact False.elim U|cont=>exact False.elim U
def ant{X:Cx}{CX:CXT}{k:Nat}{f:Addr}{fd:FuncData}{ps:Yf}{sp:Sp}{Ss:List V}{R:Zl}{E:XK}{x:Str}{p Z:Pos}{e:Expr}{U:Ya}{t:TA}(F:Ea X.prog X.w X.K X.mg X.base CX k f fd ps sp)(hr:ye k X.A)(hg:Gl X x)(hm:X.mg x=some (.ref f))(hk:PySem.W.keepIn X.K (.ref f)=true)(hb:Binds X.K fd ps R)(hd:Vals Ss R)(hx:Passes CX X E)
 (ha:PA X (e::U) t) (Wy:(x==("__debug__" : Str))=false:=by decide) (he:starEach (e::U) X.env=(false,eval e X.env)::starEach U X.env:=by rfl) (Kq:(backTo Z (starEach U X.env)).any (·.1)=false:=by rfl) :
 PE X (.Call (.Name x p) (e::U) [] Z) (azf sp Ss E t):=by
 intro G s σ H Q I h;refine nj (Wt I hg hm ?_ Wy);refine PySem.W.callWith_K (h₀:=X.base) I.ok.mod.kin hk (zj (ha Z G s σ H _ I h) λus s1 ⟨vs,H1,I1,r,q⟩=>⟨I1.kIn,?_⟩) he Kq;exact aji F hr hb hd hx I1 r q
def anu{X:Cx}{CX:CXT}{k:Nat}{f C:Addr}{fd:FuncData}{ps:Yf}{sp:Sp}{Ss:List V}{ds:Zl}{E:XK}{m:Str}{Z G:Pos}{e o:Expr}{R:Ya}{ta:TE}{t:TA}{pl:Sem Bool}(he:PE X o ta)(c:Cls X.K C)(hm:Meth X.K C m f)(F:Ea X.prog X.w X.K X.mg X.base CX k f fd ps sp)(hr:ye k X.A)(hb:Binds X.K fd ps ds)(hd:Vals Ss ds)(hx:Passes CX X E)(ha:PA X (e::R) t)
 (qq:starEach (e::R) X.env=(false,eval e X.env)::starEach R X.env:=by rfl) (Kq:(backTo Z (starEach R X.env)).any (·.1)=false:=by rfl)
 (ht:eval (.Call (.Attribute o m G) (e::R) [] Z) X.env=(do
  let ov <- eval o X.env
  standAt G.atName
  let (f,first) <- holding [ov] (getMethod ov m pl)
  callWith Z f first (backTo Z (starEach (e::R) X.env)) (backToKw Z (keywordEach [] X.env))):=by rfl) :
 PE X (.Call (.Attribute o m G) (e::R) [] Z) (azg C m sp Ss E ta t):=by
 intro U s σ H Q I h;refine PySem.W.methodCall_KW (pl:=pl) (zj (he U s σ H _ I h) λu s1 ⟨x,H1,I1,rx,a,dx,fs,ex,ea,l,q⟩=>?_) ht;subst ex;obtain rfl:u=Value.ref a:=rx;refine abj I1 ea c hm l ?_;refine PySem.W.callWith_K (first:=[.ref a]) (h₀:=X.base) I.ok.mod.kin hm.kp (zj (ha Z U s1 σ H1 _ I1 q) λus s2 ⟨vs,H2,I2,r,q2⟩=>⟨I2.kIn,?_⟩) qq Kq;exact aji (us:=.ref a::us) (vs:=.ref a::vs) F hr hb hd hx I2 (.cons rfl r) q2
structure Mk(K:Fg)(C f:Addr):Prop where
 makes:PySem.W.makesIn K C=true
 init:PySem.W.findIn K (.ref C) "__init__" = some (some (.ref f))
 fn:PySem.W.isFn K (.ref f)=true
 kp:PySem.W.keepIn K (.ref C)=true
def ajj{X:Cx}{CX:CXT}{k:Nat}{f C:Addr}{fd:FuncData}{ps:Yf}{sp:Sp}{Ss:List V}{U:Zl}{E:XK}{G:Zp}{σ:St}{H:Hp}{s:Shared}{Q:VK}{us:Zl}{vs:List V}(M:Mk X.K C f)(F:Ea X.prog X.w X.K X.mg X.base CX k f fd ps sp)(hr:ye (k+1) X.A)(hb:Binds X.K fd ps U)(hd:Vals Ss U)
 (hx:Passes CX X E) (I:Inv X G σ H s) (r:Vals vs us)
 (h:∀x R,H x=none->H R=none->R≠x->sp (.ref x::(vs++Ss)) (upd (upd H R (.own x)) x (.ins C R [])) (λv H2=>v=.non/\Q (.ref x) H2) E) :
 wpAny (model X.prog X.w) X.A (call (.ref C) us) (EP X G σ Q) X.xe s:=by
 have hq:=h (s.heap.objs.size+1) s.heap.objs.size (I.yf.fresh (o7 _)) (I.yf.fresh (az _)) (fc (qw _));have I2:=Inv.made (C:=C) I;have r2:Vals (V.ref (s.heap.objs.size+1)::(vs++Ss)) (Value.ref (s.heap.objs.size+1)::(us++U)):=.cons rfl (r.append hd);have hl:(Value.ref (s.heap.objs.size+1)::us++U).length=ps.length:=by have e:=r2.length;rw[F.len _ _ _ _ hq] at e;exact e.symm
 refine wpAny_call (ajg (f:=f) I.kIn M.makes M.init (beq_iff_eq.mp M.fn) (codeAny_mono (F.run _ X.stack _ _ ⟨Value.ref (s.heap.objs.size+1)::us,[]⟩ (Value.ref (s.heap.objs.size+1)::(us++U)) _ _ E (hr.make C us [])
  (I2.env0.make C us []) (hb _ (Value.ref (s.heap.objs.size+1)::us) I2.kIn hl) r2 hq) λr s' Z=>?_))
 cases r with
 |error e=>exact hx G σ _ _ e s' I2 Z
 |ok fl =>
  cases fl with
  |ret u =>
   obtain⟨v,H',I3,rv,ev,q3⟩:=I2.after Z;subst ev;exact⟨rv,⟨V.ref (s.heap.objs.size+1),H',I3,rfl,q3⟩⟩
  |next=>exact False.elim Z|brk=>exact False.elim Z|cont=>exact False.elim Z
def ajk{X:Cx}{CX:CXT}{k:Nat}{f C:Addr}{fd:FuncData}{U:Yf}{sp:Sp}{R:List V}{G:Zl}{E:XK}{x:Str}{p Z:Pos}(M:Mk X.K C f)(F:Ea X.prog X.w X.K X.mg X.base CX k f fd U sp)(hr:ye (k+1) X.A)(hg:Gl X x)(hm:X.mg x=some (.ref C))(hb:Binds X.K fd U G)(hd:Vals R G)(hx:Passes CX X E)
 (Wy:(x==("__debug__" : Str))=false:=by decide):PE X (.Call (.Name x p) [] [] Z) (azh C sp R E azd):=by
 intro qq s σ H Q I h;refine nj (Wt I hg hm ?_ Wy);exact PySem.W.callWith_K0 I.kIn M.kp (ajj (us:=[]) M F hr hb hd hx I .nil h)
structure Qv(N P:Yf)(sc:Scope):Prop where
 kind:sc.kind=.function
 co:sc.isCoroutine=false
 gen:sc.isGenerator=false
 nd:N.Nodup
 pre:N.take P.length=P
 par:∀x∈P,sc.names.lookup x=some .local\/sc.names.lookup x=some .cell
 auk:∀y∈sc.names,y.2≠.free
theorem U0{Z:Str->Option NameKind}{x:Str}:∀{binds:List (Str×Value)}{m:Zs},(∀v,(x,v)∉binds)->bindL Z binds m x=m x
 |[],_,_=>rfl
 |(n,v)::r,m,h=>by
  unfold bindL;rw[U0 λw hw=>h w (bu _ hw)];split
  .have:x≠n:=by rintro rfl;exact h v bz
   simp[this]
  .rfl
theorem U3{Z:Str->Option NameKind}{x:Str}:∀{binds:List (Str×Value)}{m:Zs},(∀v,(x,v)∉binds)->bindC Z binds m x=m x
 |[],_,_=>rfl
 |(n,v)::r,m,h=>by
  unfold bindC;rw[U3 λw hw=>h w (bu _ hw)];split
  .rfl
  .have:x≠n:=by rintro rfl;exact h v bz
   simp[this]
theorem U4{Z:Str->Option NameKind}{x:Str}{v:Value}:∀{P:Yf}{G:Zl}{i:Nat}{m:Zs},P.Nodup->P[i]?=some x->G[i]?=some v->Z x=some .local ->
 bindL Z (P.zip G) m x=some v
 |[],_,_,_,_,h,_,_=>by simp at h|_::_,[],_,_,_,_,h,_=>by simp at h
 |p::P,w::G,0,m,nd,h1,h2,hk=>by
  simp at h1 h2;subst h1;subst h2;show bindL Z ((p,w)::P.zip G) m p=_;unfold bindL;rw[U0 λv U=>(o8.mp nd).1 (yo U).1,bh hk];simp
 |p::P,w::G,i+1,m,nd,h1,h2,hk=>by
  show bindL Z ((p,w)::P.zip G) m x=_;unfold bindL;exact U4 (i:=i) (o8.mp nd).2 (by simpa using h1) (by simpa using h2) hk
theorem U5{Z:Str->Option NameKind}{x:Str}{v:Value}:∀{P:Yf}{G:Zl}{i:Nat}{m:Zs},P.Nodup->P[i]?=some x->G[i]?=some v->Z x≠some .local ->
 bindC Z (P.zip G) m x=some v
 |[],_,_,_,_,h,_,_=>by simp at h|_::_,[],_,_,_,_,h,_=>by simp at h
 |p::P,w::G,0,m,nd,h1,h2,hk=>by
  simp at h1 h2;subst h1;subst h2;show bindC Z ((p,w)::P.zip G) m p=_;unfold bindC;rw[U3 λv U=>(o8.mp nd).1 (yo U).1,bj hk];simp
 |p::P,w::G,i+1,m,nd,h1,h2,hk=>by
  show bindC Z ((p,w)::P.zip G) m x=_;unfold bindC;exact U5 (i:=i) (o8.mp nd).2 (by simpa using h1) (by simpa using h2) hk
noncomputable def start(N:Yf)(Z:List V):St:=Z.map some++List.replicate (N.length-Z.length) none
noncomputable def abo(CX:CXT)(P:Program)(w:World)(K:Fg)(mg:Zs)(base:Heap)(N:Yf)(G:Str)(Z:Scope)(f:Addr)(R:Value)(A:Around)(outer:List Env)(s:Shared)(H:Hp)(E:XK):Cx where
 prog:=P
 w:=w
 K:=K
 mg:=mg
 base:=base
 A:=A.deeper (envOfC G Z s.heap.objs.size f R)
 N:=N
 s₀:=s
 H₀:=H
 env:=envOfC G Z s.heap.objs.size f R
 outer:=outer
 stack:=envOfC G Z s.heap.objs.size f R::outer
 ex:=[]
 calm:=true
 fn:=λ_=>true
 pn:=[]
 xe:=λe s'=>wpAny (model P w) (A.deeper (envOfC G Z s.heap.objs.size f R)) (leaving (envOfC G Z s.heap.objs.size f R) e) (λ_ U=>CX outer H s E e U) (λe' U=>CX outer H s E e' U) s'
def Y5{Z:Scope}{n:Nat}{x:Str}(h:Z.names.lookup x=some .cell):∃c,(cellsFrom n Z.names []).lookup x=some c:=by have q:=PySem.W.cellsFrom_some Z.names n [] (.inl h);exact jx.mp q
def af0{CX:CXT}{P:Program}{w:World}{K:Fg}{mg:Zs}{qq:Heap}{N ps:Yf}{U:Str}{Z:Scope}{f:Addr}{cd:Value}{A:Around}{G:List Env}{s s1:Shared}{H:Hp}{E:XK}{us:Zl}{vs:List V}
 (S:Qv N ps Z) (hd:A.handled=none) (e0:abn P w K mg qq A G s H) (hl:vs.length=ps.length) (r:Vals vs us)
 (x:InCallC s s.heap.objs.size (bindL (envOfC U Z s.heap.objs.size f cd).kindOf (ps.zip us) λ_=>none) (cellsFrom (s.heap.objs.size+1) Z.names []) (bindC (envOfC U Z s.heap.objs.size f cd).kindOf (ps.zip us) λ_=>none) s1) :
 Inv (abo CX P w K mg qq N U Z f cd A G s H E) [] (start N vs) H s1:=by
 have Kq:ps.length<=N.length:=by have:=o4 List.length S.pre;rw[xr] at this;lia
 obtain⟨h1,tk,rfl,hk⟩:=x.done;have qk:∀b:Addr,b∉(abo CX P w K mg qq N U Z f cd A G s H E).ex:=λb z=>absurd (show b∈([]:X1) from z) (by simp)
 refine⟨⟨e0.mod,S.kind,rfl,rfl,az _,λy z c h1 R=>?_,λy hy=>?_,λy c _ h=>?_,λ_=>hd,Around.frames_deeper e0.frames,.inr ⟨rfl,rfl⟩,λb z=>absurd z (qk b),e0.bs,e0.bsz,λb _ _=>qk b,λb z=>absurd z (qk b),e0.Qj,e0.frf⟩,
  rfl,e0.bare,Un.kept hk,⟨_,x.toInCall.ns,λi y v h1 R h3=>?_⟩,λy c h=>⟨_,x.cell y c h⟩,e0.yf.fresh (az _),λy c h=>?_,λp hp=>absurd (show p∈([]:Zp) from hp) (by simp),e0.yf.kept hk,?_⟩
 .exact name_of_addr x.apart (v7 h1) (v7 R)
 .have hy:Z.names.lookup y=some .cell\/Z.names.lookup y=some .free:=hy
  rcases hy with hy|hy
  .exact Y5 hy
  .exact absurd rfl (S.auk _ (v7 hy))
 .exact u9 (x.above y c (v7 h))
 .have hi:i<vs.length:=by
   unfold start at R
   by_cases hi:i<vs.length
   .exact hi
   .rw[ou (by simpa using hi)] at R
    rw[List.getElem?_replicate] at R;split at R<;>cases R
  have ha:vs[i]?=some v:=by
   unfold start at R;rw[gm (by simpa using hi),ig] at R;cases e:vs[i]? with
   |none=>rw[e] at R;cases R|some a=>rw[e] at R;cases R;rfl
  obtain⟨u,hu,rv⟩:=r.get ha;have hp:ps[i]?=some y:=by rw[<- S.pre,List.getElem?_take_of_lt (b_ hi (f_ hl))];exact h1
  have qv:ps.Nodup:=by rw[<- S.pre];exact S.nd.sublist (List.take_sublist _ _)
  refine⟨u,rv,?_⟩;rcases S.par y (bf hp) with k|k
  .exact .inl ⟨k,U4 qv hp hu k⟩
  .obtain⟨c,e⟩:=Y5 (n:=s.heap.objs.size+1) k
   refine .inr ⟨.inl k,c,e,?_⟩;have q:=x.cell y c e;rw[U5 qv hp hu (by show Z.names.lookup y≠_;rw[k];decide)] at q;exact q
 .exact e0.yf.fresh (u9 (x.above y c (v7 h)))
 .unfold start
  show _=N.length;rw[jb,dg,List.length_replicate]
  lia
def azk{CX:CXT}{P:Program}{w:World}{K:Fg}{mg:Zs}{qq:Heap}{k:Nat}{f:Addr}{q1 U:Str}{qk:Arguments}{qv:List Stmt}{Z:Scope}{dV kV q3 pm R ct oc:Value}{an od:Option Addr}
 {q9:Array (Option Value)} {N ps:Yf} {sp:Sp} (lk:K.lookup f=some ⟨oc,od,.func (PySem.W.fnOf q1 U qk qv Z dV kV q3 pm an R ct),q9⟩) (q4:PySem.W.codeIn K R U=true) (S:Qv N ps Z)
 (len:∀vs H Q E,sp vs H Q E->vs.length=ps.length)
 (q5:∀(A:Around)(G:List Env)(s:Shared)(H:Hp)(vs:List V)(Q:VK)(E:XK),ye k (A.deeper (envOfC U Z s.heap.objs.size f R))->sp vs H Q E ->
  ∃t,Nr (abo CX P w K mg qq N U Z f R A G s H E) qv t/\t { nx:=λ_ H'=>Q .non H',rt:=Q } (start N vs) H) :
 Ea P w K mg qq CX (k+1) f (PySem.W.fnOf q1 U qk qv Z dV kV q3 pm an R ct) ps sp:=by
 refine⟨len,λA G s H zz us vs Q E hr e0 hb r q2=>?_⟩;have hl:=len _ _ _ _ q2;have KX:K.In s.heap:=e0.mod.kin.keeps λb o e=>(e0.bs b o e).1
 have q7:s.heap.NoLimit:=e0.mod.nolimit.keeps λb o e=>(e0.bs b o e).1
 have q6:∀y∈ps.zip us,Z.names.lookup y.1=some .local\/(Z.names.lookup y.1=some .cell/\((cellsFrom (s.heap.objs.size+1) Z.names []).lookup y.1).isSome=true):=λ⟨n,v⟩ hy=>by
  rcases S.par n (yo hy).1 with q|q
  .exact .inl q
  .exact .inr ⟨q,PySem.W.cellsFrom_some _ _ _ (.inl q)⟩
 refine codeAny_call_function hr.depth (KX _ _ lk) rfl S.co S.gen rfl (PySem.W.codeRec_of KX q4) (hb _ _ _ _ ?_);refine wpAny_newFunctionEnv_cells S.kind q6 λzk he s1 x=>?_
 subst he;refine⟨q7.keeps x.toInCall.keep,codeAny_func ?_⟩;obtain⟨t,ht,hq⟩:=q5 A G s H vs Q E (hr.deeper _) q2;have I:Inv (abo CX P w K mg qq N U Z f R A G s H E) [] (start N vs) H s1:=af0 S hr.hd e0 hl r x;refine my (ht [] s1 (start N vs) H _ I hq) (λfl s' hs=>?_) λe s' hs=>hs
 have fin:∀{q0:St}{H':Hp}{v:V}{u:Value},Inv (abo CX P w K mg qq N U Z f R A G s H E) [] q0 H' s'->RelV v u->Q v H'->CE G P w H s Q u s' :=
  fun{q0 H' v u} J rv q=>⟨v,H',J.os,J.bare,J.base,J.yf,rv,q⟩
 cases fl with
 |ret u =>
  obtain⟨v,q0,H',J,rv,q⟩:=hs;exact fin J rv q
 |next =>
  obtain⟨q0,H',J,q⟩:=hs;exact fin (v:=V.non) (u:=Value.none) J rfl q
 |brk =>
  obtain⟨_,_,_,q⟩:=hs;exact False.elim q
 |cont =>
  obtain⟨_,_,_,q⟩:=hs;exact False.elim q
end L2
namespace L2
open PySem PySem.Spec PyProof.Rows
def tCB(r:List V->Hp->VK->Prop)(t:TA):TE:=λG H Q=>t G H λZ U=>r Z U Q
def ajm{X:Cx}{x:Str}{p G:Pos}{e:Expr}{U:Ya}{t:TA}{id:String}{r:List V->Hp->VK->Prop}(hc:zp X (.builtin id) r)(hg:Gl X x)(hm:X.mg x=none)(hv:bootBuiltins x=some (.builtin id))(ha:PA X (e::U) t)(hn:x≠"__name__" := by decide)(Wy:(x==("__debug__" : Str))=false:=by decide)
 (he:starEach (e::U) X.env=(false,eval e X.env)::starEach U X.env:=by rfl) (Kq:(backTo G (starEach U X.env)).any (·.1)=false:=by rfl):PE X (.Call (.Name x p) (e::U) [] G) (tCB r t):=by
 intro Z s R H Q I h;refine nj (Hr I hg hm hv ?_ hn Wy);exact vy (zj (ha G Z s R H _ I h) λus s1 ⟨vs,H1,I1,r1,q1⟩=>hc Z s1 R H1 vs us Q I1 r1 q1) he Kq
def af1{X:Cx}{x:Str}{p G:Pos}{e:Expr}{U:Ya}{t:TA}{T:String}{r:List V->Hp->VK->Prop}(hc:zp X (.type T) r)(hg:Gl X x)(hm:X.mg x=none)(hv:bootBuiltins x=some (.type T))(ha:PA X (e::U) t)(hn:x≠"__name__" := by decide)(Wy:(x==("__debug__" : Str))=false:=by decide)
 (he:starEach (e::U) X.env=(false,eval e X.env)::starEach U X.env:=by rfl) (Kq:(backTo G (starEach U X.env)).any (·.1)=false:=by rfl):PE X (.Call (.Name x p) (e::U) [] G) (tCB r t):=by
 intro Z s R H Q I h;refine nj (Hr I hg hm hv ?_ hn Wy);exact qe (zj (ha G Z s R H _ I h) λus s1 ⟨vs,H1,I1,r1,q1⟩=>hc Z s1 R H1 vs us Q I1 r1 q1) he Kq
section
variable{κ:Type}[DecidableEq κ]
def Nt(Z:List (κ×V))(k:κ):Option V:=(Z.find? λkv=>decide (kv.1=k)).map (·.2)
def putK(Z:List (κ×V))(k:κ)(v:V):List (κ×V) :=
 if(Z.any λkv=>decide (kv.1=k))=true then Z.map (λkv=>if kv.1=k then(kv.1,v) else kv) else Z++[(k,v)]
def Nu{p:κ×V}(e:p.1=k):Nt (p::r) k=some p.2:=by simp[Nt,jw,e]
def Nv{p:κ×V}(e:¬p.1=k):Nt (p::r) k=Nt r k:=by simp[Nt,jw,e]
theorem Y6(k:κ):∀Z:List (κ×V),(Z.any λkv=>decide (kv.1=k))=(Nt Z k).isSome
 |[]=>rfl
 |p::r=>by
  rw[yg]
  by_cases e:p.1=k
  .simp only[Nu e,decide_eq_true e,Bool.true_or,Option.isSome_some]
  .rw[Nv e,qm e,Bool.false_or];exact Y6 k r
def Py(Z:List (κ×V))(k:κ)(v:V):(putK Z k v).length<=Z.length+1:=by
 unfold putK;split
 .rw[dg];exact x_
 .rw[jb,d7,List.length_nil];exact az _
def Il.G6(r:Il o u):o.isSome=u.isSome:=by
 cases o with
 |none=>cases u with
  |none=>rfl|some _=>exact(show False from r).elim
 |some _=>cases u with
  |none=>exact(show False from r).elim
  |some _=>rfl
theorem Il.getD(r:Il o u)(Z:RelV d G):RelV (o.getD d) (u.getD G):=by
 cases o with
 |none=>cases u with
  |none=>exact Z|some _=>exact(show False from r).elim
 |some _=>cases u with
  |none=>exact(show False from r).elim
  |some _=>exact r
def KV.val(r:KV U R)(k:κ):Il (Nt U k) (valueAt R k):=by
 unfold KV at r
 induction r with
 |nil=>exact True.intro
 |@cons p q ps qs h t ih =>
  obtain⟨G,h2⟩:=h
  by_cases e:p.1=k
  .have Z:q.1=k:=G.symm.trans e
   have b:valueAt (q::qs) k=some q.2:=by simp[valueAt,jw,Z]
   rw[Nu e,b];exact h2
  .have Z:¬q.1=k:=λz=>e (G.trans z)
   have b:valueAt (q::qs) k=valueAt qs k:=by simp[valueAt,jw,Z]
   rw[Nv e,b];exact ih
theorem KV.any(r:KV Z G)(k:κ):(Z.any λkv=>decide (kv.1=k))=G.any λkv=>decide (kv.1=k):=by
 unfold KV at r
 induction r with
 |nil=>rfl|cons h t U=>rw[yg,yg,U,h.1]
def KV.abp(r:KV G U)(k:κ)(R:RelV y u) :
 KV (G.map λkv=>if kv.1=k then(kv.1,y) else kv) (U.map λkv=>if kv.1=k then(kv.1,u) else kv):=by
 unfold KV at r ⊢
 induction r with
 |nil=>exact .nil
 |@cons p q ps qs h t ih =>
  rw[cz,cz];refine .cons ?_ ih;obtain⟨Z,h2⟩:=h
  by_cases e:p.1=k
  .rw[bh e,bh (Z.symm.trans e)];exact⟨Z,R⟩
  .rw[bj e,bj (λz=>e (Z.trans z))];exact⟨Z,h2⟩
def KV.put(r:KV U Z)(k:κ)(G:RelV y u):KV (putK U k y) (stored Z k u):=by
 unfold putK stored;rw[r.any k]
 by_cases e:(Z.any λkv=>decide (kv.1=k))=true
 .rw[bh e,bh e];exact r.abp k G
 .rw[bj e,bj e];exact Paired.snoc r ⟨rfl,G⟩
theorem KV.length{Z:List (κ×V)}{G:List (κ×Value)}(r:KV Z G):Z.length=G.length:=Paired.length r
end
def U6(r:RelV (kV k) u):(sy P w).is k u=true:=by
 cases k with
 |inl i=>obtain⟨t,e⟩:=(show ∃t,u=Value.int i t from r);subst e;exact Yx P w i t
 |inr x=>obtain⟨t,e⟩:=(show ∃t,u=Value.str x t from r);subst e;exact Yy P w x t
theorem U7{P:Program}{w:World}:∀{ks:List Key}{Z:Zl},Vals (ks.map kV) Z->ItemsAre (sy P w) ks Z
 |[],_,r=>by rw[List.map_nil] at r;cases r;exact .nil
 |k::ks,_,r=>by
  rw[cz] at r;cases r with
  |cons h t=>exact .cons (U6 h) (U7 t)
abbrev KT(H:Hp):List (List Key×V)->List (List Key×Addr×Value)->Prop:=Paired λp q=>p.1=q.1/\H q.2.1=some (.tup (p.1.map kV))/\RelV p.2 q.2.2
def KT.val(r:KT H U R)(k:List Key):Il (Nt U k) ((atKey R k).map (·.2)):=by
 induction r with
 |nil=>exact True.intro
 |@cons p q ps qs h t ih =>
  obtain⟨G,_,h2⟩:=h
  by_cases e:p.1=k
  .have Z:q.1=k:=G.symm.trans e
   have b:atKey (q::qs) k=some q.2:=by simp[atKey,jw,Z]
   rw[Nu e,b];exact h2
  .have Z:¬q.1=k:=λz=>e (G.trans z)
   have b:atKey (q::qs) k=atKey qs k:=by simp[atKey,jw,Z]
   rw[Nv e,b];exact ih
def KT.abp(r:KT H U R)(k:List Key)(ry:RelV y u) :
 KT H (U.map λkv=>if kv.1=k then(kv.1,y) else kv) (R.map (putAt k u)):=by
 induction r with
 |nil=>exact .nil
 |@cons p q ps qs h t ih =>
  rw[cz,cz];refine .cons ?_ ih;obtain⟨Z,G,h3⟩:=h;unfold putAt
  by_cases e:p.1=k
  .rw[bh e,bh (Z.symm.trans e)];exact⟨Z,G,ry⟩
  .rw[bj e,bj (λz=>e (Z.trans z))];exact⟨Z,G,h3⟩
def KT.put(r:KT H G Z)(k:List Key)(R:H b=some (.tup (k.map kV)))(U:RelV y u) :
 KT H (putK G k y) (storedH Z k b u):=by
 have e:(G.any λkv=>decide (kv.1=k))=(atKey Z k).isSome:=by rw[Y6,(r.val k).G6,Option.isSome_map]
 unfold putK storedH;rw[e]
 by_cases q:(atKey Z k).isSome=true
 .rw[bh q,bh q];exact r.abp k U
 .rw[bj q,bj q];exact Paired.snoc r ⟨rfl,R,U⟩
def KT.keeps(r:KT H G xs)(R:∀b Z,H b=some (.tup Z)->U b=some (.tup Z)):KT U G xs :=
 Paired.atf r λ_ _ z=>⟨z.1,R _ _ z.2.1,z.2.2⟩
def aqu(ok:K6 P w H h)(e:Rd H a u):yt P w H h a u:=e.ok ok
def U8(ok:K6 P w H h)(e:Rd H a (.dK Z)):Z.length<=sizeLine/\(a==sysModules)=false/\∃vs,KV Z vs/\h.DictOf (sy P w) a vs :=
 show yt P w H h a (.dK Z) from aqu ok e
def azm(ok:K6 P w H h)(e:H a=some (.dK Z)):Z.length<=sizeLine/\(a==sysModules)=false/\∃vs,KV Z vs/\h.DictOf (sy P w) a vs:=U8 ok (.inl e)
def Jw(ok:K6 P w H h)(e:H a=some (.tup (ks.map kV))):(tupleKind (sy P w)).is h ks a:=by obtain⟨_,U,r,o,R,Z,n,G,_⟩:=(show yt P w H h a (.tup (ks.map kV)) from ok a _ e);exact⟨o,U.toArray,n,R,Z,G,by simpa using U7 r⟩
def U9(ok:K6 P w H h)(e:Rd H a (.dT G)):G.length<=sizeLine/\(a==sysModules)=false /\
 ∃xs,KT H G xs/\h.DictOfH (tupleKind (sy P w)) a xs:=by
 obtain⟨z,y,xs,r,o,es,ep,h1,h2,h3,U,R⟩:=(show yt P w H h a (.dT G) from aqu ok e);refine⟨z,y,xs,r,o,es,ep,h1,h2,h3,U,λx Z=>?_,R⟩;have all:∀{l:List (List Key×V)}{m:List (List Key×Addr×Value)},KT H l m->∀x∈m,(tupleKind (sy P w)).is h x.1 x.2.1:=by
  intro l m q
  induction q with
  |nil=>intro x Z;exact nomatch Z
  |@cons p q ps qs hq t ih =>
   intro x Z;rcases dh.mp Z with e|Z
   .subst e
    exact Jw ok (by rw[<- hq.1];exact hq.2.1)
   .exact ih x Z
 exact all r x Z
def aqv(ok:K6 P w H h)(e:H a=some (.dT Z)):Z.length<=sizeLine/\(a==sysModules)=false /\
 ∃xs,KT H Z xs/\h.DictOfH (tupleKind (sy P w)) a xs:=U9 ok (.inl e)
def Su(H:Hp)(a:Addr)(y:V)(r:Option V):Prop :=
 (∃Z k,Rd H a (.dK Z)/\y=kV k/\r=Nt Z k)\/∃Z k b,Rd H a (.dT Z)/\y=.ref b/\H b=some (.tup (k.map kV))/\r=Nt Z k
def anv(H:Hp)(a:Addr)(y v:V)(G:Hp):Prop :=
 (∃Z k,H a=some (.dK Z)/\y=kV k/\Z.length<sizeLine/\G=upd H a (.dK (putK Z k v))) \/
 ∃Z k b,H a=some (.dT Z)/\y=.ref b/\H b=some (.tup (k.map kV))/\Z.length<sizeLine/\G=upd H a (.dT (putK Z k v))
def Su.t{k:List Key}(e:H a=some (.dT Z))(G:H b=some (.tup (k.map kV))):Su H a (.ref b) (Nt Z k):=.inr ⟨Z,k,b,.inl e,rfl,G,rfl⟩
def anv.t{k:List Key}(e:H a=some (.dT Z))(U:H b=some (.tup (k.map kV)))(G:Z.length<sizeLine) :
 anv H a (.ref b) v (upd H a (.dT (putK Z k v))):=.inr ⟨Z,k,b,e,rfl,U,G,rfl⟩
def Inv.big(I:Inv X pins σ H s):sysModules<s.heap.objs.size:=by
 have h:mainGlobals<s.heap.objs.size:=(I.mod.glob.keeps I.bk).lt
 exact Nat.lt_trans (by decide) h
def af2(hu:A.units+1<cLine)(I:Inv X pins σ H s)(g:Su H a y (some v))(ry:RelV y u)(h:∀U s',Inv X pins σ H s'->RelV v U->Q U s') :
 wpAny (model X.prog X.w) A (getItem (.ref a) u) Q E s:=by
 rcases g with⟨m9,k,e,R,l⟩|⟨m9,k,b,e,R,eb,l⟩
 .subst R
  obtain⟨z,hd,vs,Z,dd⟩:=U8 I.yf e;obtain⟨U,hw,G⟩:=Il.some_of (v:=v) (o:=valueAt vs k) (by rw[l];exact Z.val k);exact wpAny_getItem_of (U6 ry) dd.mapOf hw (h U _ (I.tok _) G)
 .subst R
  cases(show u=Value.ref b from ry);obtain⟨z,hd,xs,Z,dd⟩:=U9 I.yf e;obtain⟨U,hw,G⟩:=Il.some_of (v:=v) (o:=(atKey xs k).map (·.2)) (by rw[l];exact Z.val k);obtain⟨p,hp,qq⟩:=bx.mp hw;refine wpAny_getItem_heap (p8 hu) (Jw I.yf eb) dd hp ?_;rw[qq];exact h U _ (I.tok _) G
def a6x(hu:A.units+1<cLine)(I:Inv X pins σ H s)(g:Su H a y o)(ry:RelV y u)(h:∀s',Inv X pins σ H s'->Q (.bool o.isSome) s') :
 wpAny (model X.prog X.w) A (compareOp .In u (.ref a)) Q E s:=by
 rcases g with⟨m9,k,e,G,l⟩|⟨m9,k,b,e,G,eb,l⟩
 .subst G
  obtain⟨z,R,vs,Z,U⟩:=U8 I.yf e;refine wpAny_in_of (U6 ry) R U.mapOf ?_;rw[<- (Z.val k).G6,<- l];exact h _ (I.tok _)
 .subst G
  cases(show u=Value.ref b from ry);obtain⟨z,R,xs,Z,U⟩:=U9 I.yf e;refine wpAny_in_heap (p8 hu) (Jw I.yf eb) R U ?_;have q:=(Z.val k).G6;rw[Option.isSome_map] at q;rw[<- q,<- l];exact h _ (I.tok _)
def anx(hu:A.units+1<cLine)(I:Inv X pins σ H s)(g:Su H a y o)(ry:RelV y u)(h:∀s',Inv X pins σ H s'->Q (.bool (!o.isSome)) s') :
 wpAny (model X.prog X.w) A (compareOp .NotIn u (.ref a)) Q E s:=by
 rcases g with⟨m9,k,e,G,l⟩|⟨m9,k,b,e,G,eb,l⟩
 .subst G
  obtain⟨z,R,vs,Z,U⟩:=U8 I.yf e;refine wpAny_notIn_of (U6 ry) R U.mapOf ?_;rw[<- (Z.val k).G6,<- l];exact h _ (I.tok _)
 .subst G
  cases(show u=Value.ref b from ry);obtain⟨z,R,xs,Z,U⟩:=U9 I.yf e;refine wpAny_notIn_heap (p8 hu) (Jw I.yf eb) R U ?_;have q:=(Z.val k).G6;rw[Option.isSome_map] at q;rw[<- q,<- l];exact h _ (I.tok _)
def Wz(I:Inv X pins σ H s)(U:Mut (H a))(hs:Heap.SameBut a s.heap Z)(he:∃q,Z.get? a=some q)(new:yt X.prog X.w (upd H a G) Z a G) :
 Inv X pins σ (upd H a G) { s with heap:=Z,toks:=t' } :=
 I.write (x:=a) (e:=a) U (.inl rfl) (λb q R z=>(hs.2 b R).trans z) he new
def aul(z:G.length<=sizeLine)(hd:(a==sysModules)=false)(Z:KV G U)(R:h'.DictOf (sy P w) a U) :
 yt P w H' h' a (.dK G):=⟨z,hd,U,Z,R⟩
def af3(hu:A.units+1<cLine)(I:Inv X pins σ H s)(g:anv H a y v H')(ry:RelV y u)(rv:RelV v r)(h:∀s',Inv X pins σ H' s'->Q () s') :
 wpAny (model X.prog X.w) A (setItem (.ref a) u r) Q E s:=by
 rcases g with⟨U,k,e,ey,l,eH⟩|⟨U,k,b,e,ey,eb,l,eH⟩
 .subst ey eH
  obtain⟨z,hd,vs,Z,dd⟩:=azm I.yf e;have hz:vs.length<=sizeLine:=by rw[<- Z.length];exact z
  have hl:(putK U k v).length<=sizeLine:=by have:=Py U k v;exact a_ this l
  refine wpAny_setItem_pairs (hsz:=hz) (U6 ry) dd λh' G hs=>h _ ?_
  have he:∃q,h'.get? a=some q:=let ⟨q,_,_,R,_⟩:=G;⟨q,R⟩;exact Wz I (by rw[e];exact True.intro) hs he (aul hl hd (Z.put k rv) G)
 .subst ey eH
  cases(show u=Value.ref b from ry);obtain⟨z,hd,xs,Z,dd⟩:=aqv I.yf e;have hz:xs.length<=sizeLine:=by rw[<- Paired.length Z];exact z
  have hl:(putK U k v).length<=sizeLine:=by have:=Py U k v;exact a_ this l
  refine wpAny_setItem_heap (hsz:=hz) (p8 hu) (Jw I.yf eb) dd λh' G hs=>h _ ?_
  obtain⟨q,es,ep,R,h2,h3,h4,_,h5⟩:=G;refine Wz I (by rw[e];exact True.intro) hs ⟨q,R⟩ ⟨hl,hd,_,(Z.put k eb rv).keeps λc ys ec=>?_,q,es,ep,R,h2,h3,h4,h5⟩;rw[jy (Yz ec e (λz=>nomatch z))];exact ec
def Y7(I:Inv X pins σ H s)(g:Su H a y o):s.TypeIs (.ref a) "dict" := by
 rcases g with⟨G,k,e,_,_⟩|⟨G,k,b,e,_,_,_⟩
 .obtain⟨_,_,U,_,Z⟩:=U8 I.yf e
  exact Z.typeIs
 .obtain⟨_,_,R,_,Z⟩:=U9 I.yf e
  exact Z.typeIs
def ajn(h:Heap)(Z:sysModules<h.objs.size):yt P w H (h.push { cls:=.type "dict",data:=.dict #[] }) h.objs.size (.dT []) :=
 ⟨ie _,uh.mpr (jh (fc Z)),[],.nil,_,#[],0,bc _ rfl,⟨rfl,rfl,rfl⟩,rfl,rfl,List.nodup_nil⟩
def aum:TE:=λ_ H Q=>∀p,H p=none->Q (.ref p) (upd H p (.dT []))
def ajo:PE X (.Dict [] [] pos) aum:=λZ s G H Q I h =>
 wpAny_Dict_empty ⟨.ref s.heap.objs.size,_,I.laid (a:=s.heap.objs.size) (o:=.dT []) (t':=s.toks) (λ_ _ q=>ao _ q) (az _) (ajn s.heap I.big),rfl,h _ (I.yf.fresh (az _))⟩
def aun(hu:A.units+1<cLine)(I:Inv X pins σ H s)(g:Su H a y o)(ry:RelV y u)(rd:RelV d r)(h:∀w' s',Inv X pins σ H s'->RelV (o.getD d) w'->Q w' s') :
 wpAny (model X.prog X.w) A (call (.builtin "dict.get") [.ref a,u,r]) Q E s:=by
 rcases g with⟨m9,k,e,U,l⟩|⟨m9,k,b,e,U,eb,l⟩
 .subst U
  obtain⟨z,R,vs,Z,G⟩:=U8 I.yf e;refine call_meetsIn PySem.F.slot_dict_get G.typeIs PySem.F.entry_dict_get (PySem.F.args_dict_get_3 _ _ _) (meets_dict_get_default (sy X.prog X.w) a (U6 ry) R r) ⟨_,G.mapOf,h _ _ (I.tok _) ?_⟩;rw[l];exact(Z.val k).getD rd
 .subst U
  cases(show u=Value.ref b from ry);obtain⟨z,R,xs,Z,G⟩:=U9 I.yf e;refine call_meetsIn PySem.F.slot_dict_get G.typeIs PySem.F.entry_dict_get (PySem.F.args_dict_get_3 _ _ _) (meetsH_dict_get_default (tupleKind (sy X.prog X.w)) a b R r) ⟨p8 hu,k,xs,Jw I.yf eb,G,h _ _ (I.tok _) ?_⟩;rw[l];exact(Z.val k).getD rd
end L2
namespace HT
open PySem PyProof.Rows
def anz(ht:IsTup s.heap t U.toArray)(hb:IsTup s.heap b G.toArray)(h0:U=[]->Q (.ref b) s)(h1:G=[]->Q (.ref t) s)(h2:U≠[]->G≠[]->Q (.ref s.heap.objs.size) { s with heap:=s.heap.push { cls:=.type "tuple",data:=.seq (U++G).toArray } })(q1:U.length+G.length<=sizeLine):wpAny (model prog w) A (binaryOp .Add (.ref t) (.ref b)) Q E s:=by
 obtain⟨⟨q2,dd,q0,sl⟩,ho,hc,n,hd⟩:=id ht;obtain⟨⟨q4,qq,q3,R⟩,Z,qk,n2,qv⟩:=id hb;simp only at hc hd qk qv;subst hc hd qk qv;have e:U.toArray++G.toArray=(U++G).toArray:=by simp
 by_cases hv:U=[]
 .exact concat_meets ⟨_,ho,rfl⟩ ⟨_,Z,rfl⟩ noFill_tuple_add seq_tuple_add PySem.F.slot_tuple_add PySem.F.entry_tuple_add (PySem.F.args_tuple_add_2 _ _)
   (tuple_addW0 t b U.toArray G.toArray n n2 dd qq sl R (by simp[hv])) ⟨ho,Z,h0 hv⟩
 by_cases hw:G=[]
 .exact concat_meets ⟨_,ho,rfl⟩ ⟨_,Z,rfl⟩ noFill_tuple_add seq_tuple_add PySem.F.slot_tuple_add PySem.F.entry_tuple_add (PySem.F.args_tuple_add_2 _ _)
   (tuple_addW1 t b U.toArray G.toArray n n2 dd qq sl R (by simpa using hv) (by simp[hw])) ⟨ho,Z,h1 hw⟩
 .refine concat_meets ⟨_,ho,rfl⟩ ⟨_,Z,rfl⟩ noFill_tuple_add seq_tuple_add PySem.F.slot_tuple_add PySem.F.entry_tuple_add (PySem.F.args_tuple_add_2 _ _)
   (tuple_addW2 t b U.toArray G.toArray n n2 dd qq sl R (by simpa using hv) (by simpa using hw) (by rw[di,di];exact q1)) ⟨ho,Z,?_⟩
  rw[e];exact h2 hv hw
noncomputable def Du(n d:Nat):Option Int->Nat
 |none=>d|some v=>if v<0 then(v+(n:Int)).toNat else min v.toNat n
def auo(n d:Nat)(G:d<=n)(o:Option Int):Du n d o<=n:=by
 cases o with
 |none=>exact G
 |some v =>
  show(if v<0 then(v+(n:Int)).toNat else min v.toNat n)<=n
  by_cases Z:v<0
  .rw[bh Z];lia
  .rw[bj Z];exact Nat.min_le_right _ _
def ad0(v:Int)(n d:Nat):(if v<0 then max (v+(n:Int)) 0 else min v (n:Int))=((Du n d (some v):Nat):Int):=by
 show(if v<0 then max (v+(n:Int)) 0 else min v (n:Int))=(((if v<0 then(v+(n:Int)).toNat else min v.toNat n):Nat):Int)
 by_cases Z:v<0
 .simp only[bh Z];lia
 .simp only[bj Z];lia
def abq(Z G:Option Int)(n:Nat):Builtin.Slice.sliceAdjust Z G 1 (n:Int)=(((Du n 0 Z:Nat):Int),((Du n n G:Nat):Int)):=by
 have U:¬((1:Int)<0):=by lia
 unfold Builtin.Slice.sliceAdjust;simp only[U,jj];refine Prod.ext ?_ ?_
 .cases Z with
  |none=>rfl|some v=>exact ad0 v n 0
 .cases G with
  |none=>rfl|some v=>exact ad0 v n n
def abr(i j:Nat):Builtin.Slice.slicePlaces (i:Int) (j:Int) 1=j-i:=by unfold Builtin.Slice.slicePlaces;have Z:(1:Int) > 0:=m_ (by decide);simp only[Z,j6,Int.ediv_one];split<;>lia
def Sv(p:IsPart v o)(h:Q o s):wpAny (model prog w) A (Builtin.Slice.slicePartIndex v) Q E s:=by
 cases p with
 |none=>exact slicePart_none h|int i t=>exact slicePart_int h
def Ov{Z:Option Int}{n:Nat}(hs:s.heap.IsSliceOf sl vl vu .none)(pl:IsPart vl Z)(pu:IsPart vu R)(h:Q (((Du n 0 Z:Nat):Int),1,Du n n R-Du n 0 Z) s):wpAny (model prog w) A (Builtin.Slice.sliceApplied (.ref sl) (pure (n:Int))) Q E s:=by obtain⟨os,U,qq,G⟩:=id hs;unfold Builtin.Slice.sliceApplied Builtin.Slice.sliceFields;refine aa (aa (fu U G (x:=vl) rfl (aa (fu U G (x:=vu) rfl (aa (fu U G (x:=.none) rfl (aj ?_)))))));refine aa (slicePart_none ?_);show wpAny _ _ (if((1:Int)==0)=true then _ else _) _ _ s;rw[bj (by decide)];refine aa (Sv pl (aa (Sv pu (aa (aj ?_)))));show wpAny _ _ (match Builtin.Slice.sliceAdjust Z R 1 (n:Int) with|(Z,R)=>pure (Z,(1:Int),Builtin.Slice.slicePlaces Z R 1)) _ _ s;rw[abq Z R n];show wpAny _ _ (pure (((Du n 0 Z:Nat):Int),(1:Int),Builtin.Slice.slicePlaces ((Du n 0 Z:Nat):Int) ((Du n n R:Nat):Int) 1)) _ _ s;rw[abr];exact aj h
def ajp(Z:Xt)(i k:Nat):((List.range k).filterMap λ(m:Nat)=>Z[((i:Int)+(m:Int)*1).toNat]?).toArray=((Z.toList.drop i).take k).toArray:=by
 have e:(λ(m:Nat)=>Z[((i:Int)+(m:Int)*1).toNat]?)=λm=>Z[i+m]?:=by
  funext m
  have:((i:Int)+(m:Int)*1).toNat=i+m:=by lia
  rw[this]
 rw[e];have:=pick_run Z i k;rw[List.filterMap_map] at this;have G:((λx=>Z[x]?) ∘ λx=>i+x)=λm=>Z[i+m]?:=rfl
 rw[G] at this;rw[this]
def Nx{Z:Option Int}(ht:IsTup s.heap t items)(hs:s.heap.IsSliceOf sl vl vu .none)(pl:IsPart vl Z)(pu:IsPart vu U)(hw:Du items.size 0 Z=0->Du items.size items.size U=items.size->Q (.ref t) s)(h:Q (.ref s.heap.objs.size) { s with heap:=s.heap.push { cls:=.type "tuple",data:=.seq ((items.toList.drop (Du items.size 0 Z)).take (Du items.size items.size U-Du items.size 0 Z)).toArray } })(q4:items.size<=sizeLine):wpAny (model prog w) A (getItem (.ref t) (.ref sl)) Q E s:=by
 have R:sizeOk (.seq ((items.toList.drop (Du items.size 0 Z)).take (Du items.size items.size U-Du items.size 0 Z)).toArray):=by
  show((items.toList.drop (Du items.size 0 Z)).take (Du items.size items.size U-Du items.size 0 Z)).toArray.size<=sizeLine
  rw[di,xr,List.length_drop,ql];omega
 have hj:Du items.size items.size U<=items.size:=auo _ _ (az _) U
 obtain⟨os,qv,qq,q0⟩:=id hs;have qk:s.TypeIs (.ref sl) "slice" := ⟨os,qv,qq⟩;unfold getItem
 try with_reducible refine jf ?_
 first|refine aa (aj ?_)|skip
 refine aa (wpAny_sequenceKey ht.typeIs (by decide) ?_);refine aa (je (name:=Str.ofString "__getitem__") ht.typeIs vg
  (jn vg ht.typeIs entry_tuple_getitem ?_ (args_tuple_getitem _ _)))
 show wpAny _ _ (Builtin.Tuple.tupleItemsOf (.ref t) >>= _) _ _ s;refine aa (tupleItemsOf_ ht ?_);refine aa (wpAny_typeOf qk ?_);rw[bh (by decide)];refine aa (Ov hs pl pu ?_);show wpAny _ _ (if(((Du items.size 0 Z:Nat):Int)==0&&(1:Int)==1&&(Du items.size items.size U-Du items.size 0 Z)==items.size)=true then _ else _) _ _ s
 by_cases G:(((Du items.size 0 Z:Nat):Int)==0&&(1:Int)==1&&(Du items.size items.size U-Du items.size 0 Z)==items.size)=true
 .rw[bh G]
  rw[aq,aq] at G;have q1:((Du items.size 0 Z:Nat):Int)=0:=eq_of_beq G.1.1;have q2:Du items.size items.size U-Du items.size 0 Z=items.size:=eq_of_beq G.2;have q3:=hw (by lia) (by lia);refine aa (m:=Builtin.Tuple.tupleIsExact (.ref t)) (aa (wpAny_typeOf ht.typeIs (aj ?_)));rw[bh (by decide)];exact aa (qd (aj ⟨_,rfl,aj q3⟩))
 rw[bj G,ajp]
 first
  |exact aa (m:=Builtin.Tuple.tupleExact _) (jt (aj ⟨_,rfl,aj h⟩) R)
  |exact aa (m:=Builtin.Tuple.tupleExact _) (jt (aa (aj (aj ⟨_,rfl,aj h⟩))) R)
  |exact aa (aa (m:=Builtin.Tuple.tupleExact _) (jt (aj (aj ⟨_,rfl,aj h⟩)) R))
  |exact aa (aa (m:=Builtin.Tuple.tupleExact _) (jt (aj ⟨_,rfl,aj h⟩) R))
end HT
namespace L2
open PySem PySem.Spec PyProof.Rows
abbrev TO:=St->Hp->(Option Int->Hp->Prop)->Prop
def PO(X:Cx)(e:Option Expr)(t:TO):Prop :=
 ∀(Z:Zp)(s:Shared)(G:St)(H:Hp)(Q:Option Int->Hp->Prop),Inv X Z G H s->t G H Q ->
  wpAny (model X.prog X.w) X.A (evalPart e X.env) (λu R=>∃o U,Inv X Z G U R/\IsPart u o/\Q o U) X.xe s
def aob:TO:=λ_ H Q=>Q none H
def azo(t:TE):TO:=λZ H Q=>t Z H λx G=>∃i,x=.int i/\Q (some i) G
def aoc:PO X none aob:=by intro Z s G H Q I h;rw[evalPart_none];exact aj ⟨none,H,I,.none,h⟩
def aod(h:PE X e G):PO X (some e) (azo G):=by
 intro Z s σ H Q I hw;rw[evalPart_some];refine zj (h Z s σ H _ I hw) λu s1 z_=>?_
 obtain⟨x,H1,R,U,q1⟩:=z_;obtain⟨i,rfl,q⟩:=q1;obtain⟨t,rfl⟩:=U;exact⟨some i,H1,R,.int i t,q⟩
def SlR(X:Cx)(r:V->Option Int->Option Int->Hp->VK->Prop):Prop :=
 ∀(Z:Zp)(s:Shared)(σ:St)(H:Hp)(x:V)(v vl R:Value)(G hi:Option Int)(U:Addr)(Q:VK),Inv X Z σ H s->RelV x v->s.heap.IsSliceOf U vl R .none->IsPart vl G->IsPart R hi->r x G hi H Q ->
  ∃T id,typeLookup (.type T) "__getitem__" = pure (some (.builtin id))/\s.TypeIs v T/\wpAny (model X.prog X.w) X.A (getItem v (.ref U)) (EP X Z σ Q) X.xe s
def SlR.or(h:SlR X r)(h':SlR X r'):SlR X (λx G U H Q=>r x G U H Q\/r' x G U H Q):=by
 intro Z s σ H x v vl vu G U R Q I rx hs pl pu q;rcases q with q|q
 .exact h Z s σ H x v vl vu G U R Q I rx hs pl pu q
 .exact h' Z s σ H x v vl vu G U R Q I rx hs pl pu q
def tSl(r:V->Option Int->Option Int->Hp->VK->Prop)(G:TE)(tl th:TO):TE:=λZ H Q=>G Z H λx R=>tl Z R λl H2=>th Z H2 λu U=>r x l u U Q
def ajq{lo:Option Expr}(hr:SlR X r)(he:PE X e te)(hl:PO X lo tl)(hu:PO X hi th):PE X (.Subscript e (.Slice lo hi none p2) pos) (tSl r te tl th):=by
 intro Z s U H Q I h;refine Subscript_ (zj (he Z s U H _ I h) λv s1 z_=>?_);obtain⟨x,H1,I1,r1,q1⟩:=z_;refine wpAny_Slice (zj (hl Z s1 U H1 _ I1 q1) λvl s2 ⟨l,H2,I2,pl,q2⟩=>zj (hu Z s2 U H2 _ I2 q2) λR G z_=>?_);obtain⟨u,H3,I3,pu,q3⟩:=z_;rw[evalPart_none];refine aj ?_;have I4:Inv X Z U H3 { G with heap:=G.heap.push { cls:=.type "slice",data:=.fields #[vl,R,.none] } }:=I3.kept (t':=G.toks) λb ob q=>ao _ q
 obtain⟨T,id,hT,ht,hg⟩:=hr Z { G with heap:=G.heap.push { cls:=.type "slice",data:=.fields #[vl,R,.none] } } U H3 x v vl R l u G.heap.objs.size Q I4 r1 (Heap.IsSliceOf.new ..) pl pu q3;show wpAny (model X.prog X.w) X.A (subscriptTail e (.Slice lo hi none p2) v (.ref G.heap.objs.size)) (EP X Z U Q) X.xe { G with heap:=G.heap.push { cls:=.type "slice",data:=.fields #[vl,R,.none] } };exact tail_any (ops:=[.ref G.heap.objs.size,v]) ht hT hg (by with_unfolding_all rfl)
def Ql(Z:List V)(G U:Option Int):List V:=(Z.drop (HT.Du Z.length 0 G)).take (HT.Du Z.length Z.length U-HT.Du Z.length 0 G)
def Pz(Z:List V)(G U:Option Int):(Ql Z G U).length<=Z.length:=by
 unfold Ql;rw[xr,List.length_drop]
 lia
def a6y(K:Fg):V->Option Int->Option Int->Hp->VK->Prop:=λx G U H Q=>∃a Z,x=.ref a/\El K H a Z /\
 (HT.Du Z.length 0 G=0->HT.Du Z.length Z.length U=Z.length->Q (.ref a) H)/\∀p,H p=none->Q (.ref p) (upd H p (.tup (Ql Z G U)))
def aup:SlR X (a6y X.K):=by
 intro qq s σ H x v vl vu U R sl Q I rx hs pl pu h;obtain⟨a,G,rfl,hx,hw,q⟩:=h;cases rx;obtain⟨q9,r,ht,hz⟩:=I.tuple hx;have Z:q9.toArray.size=G.length:=by rw[di];exact r.length.symm
 refine⟨"tuple",_,vg.lookup,ht.typeIs,?_⟩;refine HT.Nx ht hs pl pu (by rw[Z];exact λz1 z2=>⟨.ref a,H,I,rfl,hw z1 z2⟩) ?_ (by rw[Z];exact hz);rw[Z];refine⟨.ref s.heap.objs.size,_,I.laid (t':=s.toks) (o:=.tup (Ql G U R)) (λb ob q=>ao _ q) (az _) ?_,rfl,q _ (I.yf.fresh (az _))⟩;exact⟨bw (Pz G U R) hz,_,(r.drop (HT.Du G.length 0 U)).take (HT.Du G.length G.length R-HT.Du G.length 0 U),Qi.new _ _⟩
def azp(K:Fg):R2:=λx y H Q=>∃a b Z G,x=.ref a/\y=.ref b/\El K H a Z/\El K H b G/\Z.length+G.length<=sizeLine /\
 (Z=[]->Q (.ref b) H)/\(G=[]->Q (.ref a) H)/\(∀p,H p=none->Q (.ref p) (upd H p (.tup (Z++G))))
def Vals.ad3(r:Vals Z G):G=[]↔Z=[]:=by
 cases r with
 |nil=>simp|cons _ _=>simp
def aoe:Aw X (binaryOp .Add) (azp X.K):=by intro U s σ H x y v u Q I rx ry h;obtain⟨a,b,xs,ys,rfl,rfl,ha,hb,R,q0,q1,q2⟩:=h;cases rx;cases ry;obtain⟨q9,G,p1,_⟩:=I.tuple ha;obtain⟨Y8,Z,p2,_⟩:=I.tuple hb;refine HT.anz p1 p2 (λz=>⟨.ref b,H,I,rfl,q0 (G.ad3.mp z)⟩) (λz=>⟨.ref a,H,I,rfl,q1 (Z.ad3.mp z)⟩) (λ_ _=>?_) (by rw[<- G.length,<- Z.length];exact R);refine⟨.ref s.heap.objs.size,_,I.laid (t':=s.toks) (o:=.tup (xs++ys)) (λb ob q=>ao _ q) (az _) ?_,rfl,q2 _ (I.yf.fresh (az _))⟩;exact⟨by rw[jb];exact R,_,G.append Z,Qi.new _ _⟩
end L2
namespace L2
open PySem PySem.Spec PyProof.Rows
noncomputable def ixN(n:Nat)(i:Int):Option Nat:=if 0<=i then(if i<n then some i.toNat else none) else if -(n:Int)<=i then some (i+n).toNat else none
def atI{α:Type}(Z:List α)(i:Int):Option α:=(ixN Z.length i).bind λj=>Z[j]?
def ad4(h:ixN n i=some j):seqIndex? i n=some j/\j<n/\-(n:Int)<=i/\i<n:=by
 unfold ixN at h
 by_cases G:0<=i
 .rw[bh G] at h
  by_cases Z:i<n
  .rw[bh Z] at h
   have e:i.toNat=j:=gj h;exact⟨by rw[seqIndex_of G Z,e],by lia,by lia,Z⟩
  .rw[bj Z] at h;cases h
 .rw[bj G] at h
  by_cases Z:-(n:Int)<=i
  .rw[bh Z] at h
   have e:(i+n).toNat=j:=gj h;exact⟨by rw[seqIndex_neg (by lia) Z,e],by lia,Z,by lia⟩
  .rw[bj Z] at h;cases h
def ad5(h:atI Z i=some v):∃j,seqIndex? i Z.length=some j/\Z[j]?=some v/\j<Z.length/\-(Z.length:Int)<=i/\i<Z.length:=by
 unfold atI at h;cases e:ixN Z.length i with
 |none=>rw[e] at h;cases h
 |some j =>
  rw[e] at h;obtain⟨h1,R,U,G⟩:=ad4 e;exact⟨j,h1,h,R,U,G⟩
def W0(b:Expr):Prop:=∀o i,subscripted b false o i=operate [o,i] (getItem o i)
def IxR(X:Cx)(r:R2):Prop :=
 ∀(U Z:Expr)(G:Zp)(s:Shared)(R:St)(H:Hp)(x y:V)(v u:Value)(Q:VK),Inv X G R H s->RelV x v->RelV y u->r x y H Q ->
  subscripted Z false v u=operate [v,u] (getItem v u)->wpAny (model X.prog X.w) X.A (subscriptTail U Z v u) (EP X G R Q) X.xe s
def MtR(X:Cx)(id:String)(r:V->List V->Hp->VK->Prop):Prop :=
 ∀(Z:Zp)(s:Shared)(U:St)(H:Hp)(x:V)(G:List V)(v:Value)(R:Zl)(Q:VK),Inv X Z U H s->RelV x v->Vals G R->r x G H Q ->
  wpAny (model X.prog X.w) X.A (call (.builtin id) (v::R)) (EP X Z U Q) X.xe s
def azr(hr:IxR X r)(G:PE X a U)(hb:PE X b tb)(hs:W0 b):PE X (.Subscript a b pos) (tOp r U tb):=by intro Z s σ H Q I h;exact Subscript_ (at6 G hb I h λv u s2 x y H2 I2 rx R q=>hr a b Z s2 σ H2 x y v u Q I2 rx R q (hs _ _))
def a6z(K:Fg):R2:=λx y H Q=>∃p Z i v,x=.ref p/\y=.int i/\Dt K H p Z/\atI Z i=some v/\Q v H
def a65(K:Fg):R2:=λx y H Q=>∃p Z i v,x=.ref p/\y=.int i/\El K H p Z/\atI Z i=some v/\Q v H
def Ah:IxR X (a6z X.K):=by
 intro qk R Z s σ H x y v u Q I rx ry h hs;obtain⟨p,xs,i,z,rfl,rfl,hq,he,q⟩:=h;cases rx;obtain⟨t,rfl⟩:=ry;obtain⟨q9,r,pl,hz⟩:=I.list hq;obtain⟨j,G,h2,h3,h4,h5⟩:=ad5 he;obtain⟨w,ew,qq⟩:=r.get h2;have hl:=r.length;have hn:=Sh;have fin:EP X Z σ Q w s:=⟨z,H,I,qq,q⟩
 by_cases h0:0<=i
 .have U:i.toNat=j:=by
   rw[seqIndex_of h0 h5] at G;exact gj G
  exact item_listR pl.isList h0 (by lia) (by rw[U];simpa using ew) fin hs
 .have U:(i+(q9.toArray.size:Int)).toNat=j:=by
   rw[seqIndex_neg (by lia) h4] at G;rw[di,<- hl];exact gj G
  exact subscriptTail_builtinR (x:=w) pl.isList.typeIs slot_list_getitem.lookup
   (wpAny_getItem_list_neg (Q:=λr s'=>r=w/\EP X Z σ Q r s') pl.isList (by lia) (by rw[di]<;>lia) (by lia) (by rw[U];simpa using ew) ⟨rfl,fin⟩) hs
def Oh:IxR X (a65 X.K):=by
 intro R G Z s σ H x y v u Q I rx ry h hs;obtain⟨p,xs,i,z,rfl,rfl,hq,he,q⟩:=h;cases rx;obtain⟨t,rfl⟩:=ry;obtain⟨q9,r,pl,hz⟩:=I.tuple hq;obtain⟨j,h1,h2,h3,h4,h5⟩:=ad5 he;obtain⟨w,ew,U⟩:=r.get h2;have hl:=r.length;have hn:=Sh;have fin:EP X Z σ Q w s:=⟨z,H,I,U,q⟩;exact subscriptTail_builtinR (x:=w) pl.typeIs slot_tuple_getitem.lookup
  (getItem_tuple (j:=j) (Q:=λr s'=>r=w/\EP X Z σ Q r s') pl (by lia) (by lia) (by rw[di,<- hl];exact h1) (by simpa using ew) ⟨rfl,fin⟩) hs
def abt(Z:Zl)(n j:Nat)(u:Value):Obj.mapSeq (·.setIfInBounds j u) { cls:=.type "list",data:=.seq Z.toArray n }={ cls:=.type "list",data:=.seq (Z.set j u).toArray n }:=by simp[Obj.mapSeq]
theorem Inv.lst{X:Cx}{Z:Zp}{R:St}{H:Hp}{s:Shared}{p:Addr}{U:List V}(I:Inv X Z R H s)(h:H p=some (.lst U)) :
 ∃(G:Zl)(n:Nat),Vals U G/\s.heap.get? p=some { cls:=.type "list",data:=.seq G.toArray n }/\U.length<=sizeLine:=by
 obtain⟨z,G,n,r,e⟩:=I.yf p _ h;exact⟨G,n,r,e,z⟩
def Inv.aur{G:Zl}(I:Inv X pins σ H s)(h:H p=some (.lst xs))(ho:s.heap.get? p=some { cls:=.type "list",data:=.seq G.toArray n })(U:f { cls:=.type "list",data:=.seq G.toArray n }={ cls:=.type "list",data:=.seq its'.toArray Z })(r:Vals R its')(hz:R.length<=sizeLine)(t:Nat) :
 Inv X pins σ (upd H p (.lst R)) { s with heap:=s.heap.update p f,toks:=t }:=by
 have e:(s.heap.update p f).get? p=some { cls:=.type "list",data:=.seq its'.toArray Z }:=by rw[lr f ho (by rw[U]<;>rfl),U]
 refine I.write (x:=p) (e:=p) (by rw[h];trivial) (.inl rfl) (λb u hb q=>(Heap.get?_update_other _ _ (jh hb)).trans q) ⟨_,e⟩ ?_;exact⟨hz,its',Z,r,e⟩
def azs:V->V->V->Hp->(Hp->Prop)->Prop:=λo i v H Q=>∃p Z k j,o=.ref p/\i=.int k/\H p=some (.lst Z)/\ixN Z.length k=some j/\Q (upd H p (.lst (Z.set j v)))
def set_list:atw X azs:=by
 intro Z s σ H o i v ov iv u Q I ro ri rv h;obtain⟨p,xs,k,j,rfl,rfl,hp,hj,q⟩:=h;cases ro;obtain⟨t,rfl⟩:=ri;obtain⟨q9,n,r,ho,hz⟩:=I.lst hp;obtain⟨G,h2,h3,h4⟩:=ad4 hj;have U:=r.length;have hn:=Sh;have I':Inv X Z σ (upd H p (.lst (xs.set j v))) { s with heap:=s.heap.update p (Obj.mapSeq (·.setIfInBounds j u)) } :=
  I.aur hp ho (abt q9 n j u) (r.set rv j) (by rw[ym];exact hz) s.toks
 by_cases h0:0<=k
 .have R:k.toNat=j:=by
   rw[seqIndex_of h0 h4] at G;exact gj G
  exact PySem.W.ki_setAt ho h0 (by lia) (by rw[di,<- U];exact h4) (by rw[R];exact⟨_,I',q⟩)
 .have R:(k+(q9.toArray.size:Int)).toNat=j:=by
   rw[seqIndex_neg (by lia) h3] at G;rw[di,<- U];exact gj G
  exact PySem.W.ki_setBack ho (by lia) (by rw[di,<- U];exact h3) (by lia) (by rw[R];exact⟨_,I',q⟩)
def W3(Z G:Option Int)(n:Nat):(sliceBounds Z G none n).1=((HT.Du n 0 Z:Nat):Int)/\(sliceBounds Z G none n).2.1=((HT.Du n n G:Nat):Int)/\(sliceBounds Z G none n).2.2=1:=by
 refine⟨?_,?_,rfl⟩
 .cases Z with
  |none=>simp[sliceBounds,HT.Du]
  |some i =>
   simp only[sliceBounds,HT.Du,Option.getD_none,show(1:Int) > 0 by decide,j6]
   by_cases h:i<0
   .simp only[h,j6]<;>lia
   .simp only[h,jj]<;>lia
 .cases G with
  |none=>simp[sliceBounds,HT.Du]
  |some i =>
   simp only[sliceBounds,HT.Du,Option.getD_none,show(1:Int) > 0 by decide,j6]
   by_cases h:i<0
   .simp only[h,j6]<;>lia
   .simp only[h,jj]<;>lia
def Ua(Z:Zl)(G U:Option Int):slicePick Z.toArray G U none=((Z.drop (HT.Du Z.length 0 G)).take (HT.Du Z.length Z.length U-HT.Du Z.length 0 G)).toArray:=by obtain⟨h1,h2,R⟩:=W3 G U Z.toArray.size;unfold slicePick;rw[h1,h2,R];simp only[sliceRange_one,pick_run,di]<;>rfl
def azt(K:Fg):V->Option Int->Option Int->Hp->VK->Prop:=λx G U H Q=>∃a Z,x=.ref a/\Dt K H a Z/\∀p,H p=none->Q (.ref p) (upd H p (.lst (Ql Z G U)))
def aof:SlR X (azt X.K):=by intro qq s σ H x v vl vu U R sl Q I rx hs pl pu h;obtain⟨a,G,rfl,hx,q⟩:=h;cases rx;obtain⟨q9,r,ht,hz⟩:=I.list hx;have Z:=r.length;refine⟨"list",_,slot_list_getitem.lookup,ht.isList.typeIs,?_⟩;refine wpAny_getItem_list_slice ht.isList hs pl pu .none (by simp) ?_ (by rw[di]<;>exact a_ (g_ Z) hz);rw[Ua,<- Z];refine⟨.ref s.heap.objs.size,_,I.laid (t':=s.toks) (o:=.lst (Ql G U R)) (λb ob q=>ao _ q) (az _) ?_,rfl,q _ (I.yf.fresh (az _))⟩;exact⟨bw (Pz G U R) hz,_,0,(r.drop (HT.Du G.length 0 U)).take (HT.Du G.length G.length R-HT.Du G.length 0 U),bc _ rfl⟩
def W4:zp X (.builtin "len") (λxs H Q=>∃p G,xs=[.ref p]/\(Dt X.K H p G\/El X.K H p G)/\Q (.int G.length) H):=by
 intro qq s σ H xs us Q I r h;obtain⟨p,G,rfl,U,q⟩:=h;obtain⟨u,rfl,rx⟩:=vals1 r;cases rx;have hn:=Sh;rcases U with U|U
 .obtain⟨q9,R,pl,hz⟩:=I.list U
  have Z:=R.length;exact Calls.call_len_list pl.isList (by simp only[di]<;>lia) ⟨.int G.length,H,I.tok _,⟨s.toks+1,by rw[di,Z]⟩,q⟩
 .obtain⟨q9,R,pl,hz⟩:=I.tuple U
  have Z:=R.length;exact len_tuple pl (by simp only[di]<;>lia) ⟨.int G.length,H,I.tok _,⟨s.toks+1,by rw[di,Z]⟩,q⟩
def W5:zp X (.type "list") (λxs H Q=>∃p ys,xs=[.ref p]/\(Dt X.K H p ys\/El X.K H p ys)/\∀l,H l=none->Q (.ref l) (upd H l (.lst ys))):=by
 intro qq s σ H xs us Q I r h;obtain⟨p,ys,rfl,hq,q⟩:=h;obtain⟨u,rfl,rx⟩:=vals1 r;cases rx;have fin:∀(U:Zl),Vals ys U->ys.length<=sizeLine->∀(G:Heap)(c':Nat),(∀b o',s.heap.get? b=some o'->G.get? b=some o') ->
  G.get? s.heap.objs.size=some { cls:=.type "list",dict:=none,data:=.seq U.toArray c',slots:=#[] }->EP X qq σ Q (.ref s.heap.objs.size) { s with heap:=G }:=λU R hz G c' kp e =>
  ⟨.ref s.heap.objs.size,_,I.laid (t':=s.toks) kp (az _) (show yt X.prog X.w _ G _ (.lst ys) from⟨hz,U,c',R,e⟩),rfl,q _ (I.yf.fresh (az _))⟩
 rcases hq with hq|hq
 .obtain⟨U,R,pl,hz⟩:=I.list hq
  have Z:=R.length;obtain⟨o,ho,hc,n,hd⟩:=pl.isList;exact call_list_seq p (.inl rfl) ho hc hd (λG c' kp e=>fin U R hz G c' kp e) (by simp only[di]<;>exact a_ (g_ Z) hz)
 .obtain⟨U,R,pl,hz⟩:=I.tuple hq
  have Z:=R.length;obtain⟨o,ho,hc,n,hd⟩:=pl;exact call_list_seq p (.inr rfl) ho hc hd (λG c' kp e=>fin U R hz G c' kp e) (by simp only[di]<;>exact a_ (g_ Z) hz)
def Ub:zp X (.type "tuple") (λxs H Q=>∃p G,xs=[.ref p]/\((Dt X.K H p G/\∀l,H l=none->Q (.ref l) (upd H l (.tup G)))\/(El X.K H p G/\Q (.ref p) H))):=by
 intro Z s σ H xs us Q I r h;obtain⟨p,G,rfl,h⟩:=h;obtain⟨u,rfl,rx⟩:=vals1 r;cases rx;rcases h with⟨hq,q⟩|⟨hq,q⟩
 .obtain⟨q9,r',pl,hz⟩:=I.list hq
  have U:=r'.length;refine call_tuple_list pl.isList (λR kp=>?_) (by simp only[di]<;>exact a_ (g_ U) hz);have I1:Inv X Z σ H { s with heap:=R }:=I.kept (t':=s.toks) kp;have I2:Inv X Z σ (upd H R.objs.size (.tup G)) { s with heap:=R.push { cls:=.type "tuple",data:=.seq q9.toArray } } :=
   I1.laid (t':=s.toks) (λb o e=>ao _ e) (az _) (show yt X.prog X.w _ _ _ (.tup G) from⟨hz,q9,r',Qi.new _ _⟩)
  exact⟨.ref R.objs.size,_,I2,rfl,q _ (I1.yf.fresh (az _))⟩
 .obtain⟨q9,r',pl,hz⟩:=I.tuple hq
  exact call_tuple_same pl ⟨.ref p,H,I,rfl,q⟩
def tyV(K:Fg)(T:String)(x:V)(H:Hp):Prop:=match x with
 |.str _=>T = "str"|.int _=>T = "int"
 |.ref p=>(T = "list"/\∃G,Dt K H p G)\/(T = "tuple"/\∃o,K.lookup p=some o/\o.cls=.type "tuple"/\o.dict=none) \/
  (T = "dict"/\((∃Z,H p=some (.dK Z))\/∃Z,H p=some (.dT Z)))\/(T = "set"/\∃S n,H p=some (.set S n))
 |_=>False
def aus(I:Inv X pins σ H s)(r:RelV x v)(U:tyV X.K T x H) :
 s.TypeIs v T/\∀a,v=.ref a->∃ob,s.heap.get? a=some ob/\ob.dict=none:=by
 cases x with
 |str z =>
  obtain⟨t,rfl⟩:=r;cases(show T = "str" from U);exact⟨typeIs_str s z t,λ_ e=>nomatch e⟩
 |int i =>
  obtain⟨t,rfl⟩:=r;cases(show T = "int" from U);exact⟨typeIs_int s i t,λ_ e=>nomatch e⟩
 |ref p =>
  cases r;rcases U with⟨rfl,xs,hq⟩|⟨rfl,o,Z,hc,hd⟩|⟨rfl,Z⟩|⟨rfl,S,n,Z⟩
  .obtain⟨q9,_,pl,_⟩:=I.list hq
   refine⟨pl.isList.typeIs,λa e=>?_⟩;cases e;obtain⟨o,n,e,c,hd,_⟩:=pl;exact⟨o,e,hd⟩
  .refine⟨⟨o,I.kIn p o Z,hc⟩,λa e=>?_⟩
   cases e;exact⟨o,I.kIn _ o Z,hd⟩
  .have z:∃o,s.heap.get? p=some o/\o.ExactDict:=by
    rcases Z with⟨m9,Z⟩|⟨m9,Z⟩
    .obtain⟨_,_,_,_,o,_,_,e,G,_⟩:=I.yf p _ Z
     exact⟨o,e,G⟩
    .obtain⟨_,_,_,_,o,_,_,e,G,_⟩:=I.yf p _ Z
     exact⟨o,e,G⟩
   obtain⟨o,e,G⟩:=z;refine⟨⟨o,e,G.1⟩,λa R=>?_⟩;cases R;exact⟨o,e,G.2.1⟩
  .obtain⟨o,_,_,_,e,G,_⟩:=I.yf p _ Z
   refine⟨⟨o,e,G.1⟩,λa R=>?_⟩;cases R;exact⟨o,e,G.2.1⟩
 |_=>exact False.elim U
def tBM(K:Fg)(T:String)(r:V->List V->Hp->VK->Prop)(to:TE)(t:TA):TE:=λG H Q=>to G H λx Z=>tyV K T x Z/\t G Z λU R=>r x U R Q
theorem azv{id:String}(pa:PlainAttrs T)(U:Slot T name id)(qq:typeOf (.builtin id)=pure (.type "method_descriptor"))(hm:MtR X id r)(ho:PE X o to)(ha:PA X (e::es) t)(Y9:attributeBase o name X.env (eval o X.env)=eval o X.env:=by rfl)(qk:((backTo G (starEach (e::es) X.env)).all (λx=>!x.1)&&(backToKw G (keywordEach [] X.env)).all (λx=>x.1.isSome)
&&decide ((e::es).length+([]:List Keyword).length+(if([]:List Keyword).isEmpty then 0 else 1)<30))=true:=by rfl)(Za:(apos.endLine==G.line)=true:=by rfl)(hs:starEach (e::es) X.env=(false,eval e X.env)::starEach es X.env:=by rfl)(R:(backTo G (starEach es X.env)).any (·.1)=false:=by rfl) :
 PE X (.Call (.Attribute o name apos) (e::es) [] G) (tBM X.K T r to t):=by
 intro Z s σ H Q I h;refine wpAny_Call_method_late Y9 qk Za rfl (zj (ho Z s σ H _ I h) λv s1 z_=>?_);obtain⟨x,H1,I1,r1,ty,q1⟩:=z_;obtain⟨h1,h2⟩:=aus I1 r1 ty;refine⟨T,id,pa,U,qq,h1,h2,?_⟩;have hA:=ha G Z s1 σ H1 _ I1 q1;rw[hs] at hA ⊢;refine Calls.callWith_builtin (by show(false||(backTo G (starEach es X.env)).any (·.1))=false;rw[R]<;>rfl) (Calls.evalArgs_plain ?_);exact zj hA λus s2 ⟨vs,H2,I2,r2,q2⟩=>hm Z s2 σ H2 x vs v us Q I2 r1 r2 q2
end L2
namespace L2
open PySem PySem.Spec PyProof.Rows
def MtM(X:Cx)(id:String)(r:V->List V->Hp->VK->Prop):Prop :=
 ∀(Z:Zp)(s:Shared)(U:St)(H:Hp)(x:V)(G:List V)(v:Value)(R:Zl)(Q:VK),Inv X Z U H s->RelV x v->Vals G R->r x G H Q ->
  wpAny (model X.prog X.w) X.A (call (.builtin id) (v::R)) (EP X Z U Q) X.xe s
theorem Vals.one:∀{x:V}{Z:Zl},Vals [x] Z->∃u,Z=[u]/\RelV x u
 |_,_,.cons r .nil=>⟨_,rfl,r⟩
def Inv.azw{Z:Zl}(I:Inv X pins σ H s)(hH:H l=some (.lst xs))(e:s.heap.get? l=some { cls:=.type "list",data:=.seq Z.toArray n })(hf:f Z.toArray=its'.toArray)(hv:Vals G its')(R:G.length<=sizeLine) :
 Inv X pins σ (upd H l (.lst G)) { s with heap:=s.heap.update l (Obj.mapSeq f),toks:=t' }:=by
 have q:=PySem.IsL.update e f;rw[hf] at q;refine I.write (x:=l) (e:=l) (by rw[hH];exact trivial) (.inl rfl) (λb' u hb U=>(Heap.get?_update_other s.heap (Obj.mapSeq f) (jh hb)).trans U) ⟨_,q⟩ ?_;exact⟨R,its',_,hv,q⟩
def Inv.a67(I:Inv X pins σ H s)(R:Vals Z G)(U:Z.length<=sizeLine) :
 Inv X pins σ (upd H s.heap.objs.size (.lst Z)) { s with heap:=s.heap.push { cls:=.type "list",data:=.seq G.toArray },toks:=t' } :=
 I.laid (λ_ _ q=>ao _ q) (az _) ⟨U,G,0,R,bc _ rfl⟩
theorem Inv.fresh(I:Inv X pins σ H s):H s.heap.objs.size=none:=I.yf.fresh (az _)
def Inv.abv(I:Inv X pins σ H s)(U:H l=some (.lst G)):G.length<=sizeLine/\∃(Z:Zl)(n:Nat),Vals G Z/\G.length=Z.length/\s.heap.get? l=some { cls:=.type "list",data:=.seq Z.toArray n }:=by obtain⟨z,Z,n,r,e⟩:=I.yf l _ U;exact⟨z,Z,n,r,r.length,e⟩
def ajr(h:n<=sizeLine):Builtin.List.listTooLong n=false:=by unfold Builtin.List.listTooLong;exact qm (j_ h)
def aog:V->List V->Hp->VK->Prop:=λx G H Q=>∃l Z y,x=.ref l/\G=[y]/\H l=some (.lst Z)/\Z.length<sizeLine/\Q .non (upd H l (.lst (Z++[y])))
def Va:MtM X "list.append" aog:=by intro G s σ H x vs v us Q I rx rv h;obtain⟨l,xs,y,rfl,rfl,U,R,q⟩:=h;cases rx;obtain⟨u,rfl,ru⟩:=rv.one;obtain⟨z,Z,n,r,hl,e⟩:=I.abv U;refine call_meets F.slot_list_append ⟨_,e,rfl⟩ F.entry_list_append (F.args_list_append_2 _ _) (PySem.list_append l Z.toArray n u (by rw[di];exact e_ (c_ (g_ hl) R))) ⟨e,?_⟩;refine⟨.non,_,I.azw (its':=Z++[u]) U e (by simp) (r.append (.cons ru .nil)) ?_,rfl,q⟩;rw[jb,List.length_singleton];exact R
def aoh:V->List V->Hp->VK->Prop:=λx U H Q=>∃l b Z G,x=.ref l/\U=[.ref b]/\H l=some (.lst Z)/\H b=some (.lst G)/\Z.length+G.length<=sizeLine/\Q .non (upd H l (.lst (Z++G)))
def af4:MtM X "list.extend" aoh:=by
 intro qq s σ H x vs v us Q I rx rv h;obtain⟨l,b,xs,zs,rfl,rfl,hH,hB,hz,q⟩:=h;cases rx;obtain⟨u,rfl,ru⟩:=rv.one;cases ru;obtain⟨z,G,n,r,hl,e⟩:=I.abv hH;obtain⟨z2,U,n2,r2,qk,e2⟩:=I.abv hB;have Z:G.toArray.size+U.toArray.size<=sizeLine:=by rw[di,di];lia
 have R:¬(!G.toArray.isEmpty&&Builtin.List.listTooLong (G.toArray.size+U.toArray.size))=true:=by rw[ajr Z,Bool.and_false];exact gq
 refine call_meets F.slot_list_extend ⟨_,e,rfl⟩ F.entry_list_extend (F.args_list_extend_2 _ _)
  (AutoSeq1.list_extend_list_list_0 l G.toArray n b U.toArray n2 R (by rw[di];exact a_ (g_ hl) z) (a_ Z x_)) ⟨e,e2,?_⟩
 refine⟨.non,_,I.azw (its':=G++U) hH e (by simp) (r.append r2) ?_,rfl,q⟩;rw[jb];exact hz
def azz:R2:=λx y H Q=>∃l b Z G,x=.ref l/\y=.ref b/\H l=some (.lst Z)/\H b=some (.lst G)/\Z.length+G.length<=sizeLine/\∀p,H p=none->Q (.ref p) (upd H p (.lst (Z++G)))
def auu:Aw X (binaryOp .Add) azz:=by
 intro U s σ H x y v u Q I rx ry h;obtain⟨l,b,xs,zs,rfl,rfl,hH,R,hz,q⟩:=h;cases rx;cases ry;obtain⟨z,Z,n,r,hl,e⟩:=I.abv hH;obtain⟨z2,G,n2,r2,qq,e2⟩:=I.abv R;refine PySem.P.add_list e e2 ?_ (by rw[di,di];lia);have ea:Z.toArray++G.toArray=(Z++G).toArray:=by simp
 rw[ea];exact⟨.ref _,_,I.a67 (t':=s.toks) (r.append r2) (by rw[jb];exact hz),rfl,q _ I.fresh⟩
end L2
namespace Att
open PySem PySem.W PySem.Calls PyProof.Rows
def Qm:∀(ns:X9)(Z:Zl),WellAll P h Z (ns.map WData.int)->IntsAre Z ns:=by
 intro ns
 induction ns with
 |nil =>
  intro Z w;rw[List.map_nil] at w;cases w;exact .nil
 |cons n ns G =>
  intro Z w;rw[cz] at w;cases w with
  |cons a b =>
   cases a;exact .cons _ _ (G _ b)
def af5{l:OpenLaw}(hn:l.most=some n)(G:l.row.toRowW.claim.pre args=true)(qq:WellAll P h vals args) :
 ∃a vs Z,vals=[Value.ref a]/\args=[WData.list (Z.map WData.int)]/\h.get? a=some { cls:=.type "list",data:=.seq vs.toArray }/\IntsAre vs Z/\Z.length<=n:=by
 have qk:WShape.hasAll [] args [.list .int]=true:=(pre_splitW G).1;have hc:l.pre.holds [] { args:=args }=true:=(pre_splitW G).2;obtain⟨d,r,rfl,h1,h2⟩:=hasAllW_cons qk;obtain rfl:=hasAllW_nil h2;obtain⟨xs,rfl,h3⟩:=hasW_list h1;obtain⟨Z,rfl⟩:=items_int h3;have U:Z.length<=n:=by
  unfold OpenLaw.pre at hc;have R:(WTm.not (.lt (.lit (.int (n:Int))) (.len (.arg 0)))).holds [] { args:=[.list (Z.map .int)] }=true:=by have R:=(holds_andW hc).1;rw[hn] at R;exact R
  have h5:=condW_of R (w_not (w_lt w_lit (w_len_list (w_arg rfl))));rw[dg] at h5;refine Nat.le_of_not_lt λq=>?_
  have q':(n:Int)<((Z.length:Nat):Int):=m_ q
  first
   |(rw[decide_eq_true q'] at h5;exact absurd h5 (by decide))
   |(simp at h5;omega)
 cases qq with
 |cons w1 w2 =>
  cases w2;cases w1 with
  |list ho Ld=>exact⟨_,_,Z,rfl,rfl,ho,Qm Z _ Ld,U⟩
def af6(l:OpenLaw)(Z:List WData):l.row.toRowW.claim.post Z (.bool true) Z=true :=
 postW_of (r:=l.row.toRowW) (X:=(true==true))
  (show WShape.has [] (.bool true) .bool=true by first|rfl|decide|simp[WShape.has,WShape.arms,WShape.armsAll])
  (show(WTm.eq .res (.lit (.bool true))).value [] { args:=Z,res:=some (.bool true),after:=Z }=some (.bool (true==true)) from w_eq_bool (w_res rfl) w_lit) rfl
def Zb{l:OpenLaw}(hn:l.most=some n)(q2:d.params.defaults=[])(call:∀(w:World) (U Z:Shared) (mg mb:Zs) (fa:Addr) (o:Obj) (pm cd qq:Value) (a:Addr) (vs:Zl) (ns:X9),
 Ground q loose [] XP w U mg mb Z.heap->YP w Z.heap ->
 Z.heap.get? fa=some o->o.data=.func (docDef d.name d.params d.body d.scope pm cd qq)->Z.heap.CodeRec cd d.name->mg d.name=some (.ref fa) ->
 Z.heap.get? a=some { cls:=.type "list",data:=.seq vs.toArray }->IntsAre vs ns->ns.length<=n->Z.gens=#[] ->
 codeAny (model l.prog w) callerA (.call (.ref fa) ⟨[.ref a],[]⟩) (λr s'=>r=.ok (.ret (.bool true))/\OldK Z.heap s'.heap/\s'.os=Z.os/\AllBare s'.gens) Z) :
 WalkO q loose XP YP l.row.toRowW d [] (λf vs=>PySem.call f vs):=by
 intro w U Z mg mb G Y fa o pm cd qq dV kV ho hd qv hD q3 hg q5 vals as q0 q7 q6 q1 q9;obtain rfl:dV=.none:=Dflts.none hD q2;obtain rfl:kV=.none:=Dflts.noKw hD;obtain⟨a,vs,ns,rfl,rfl,q4,R,qk⟩:=af5 hn q0 q1;refine enter_call (codeAny_mono (call w U Z mg mb fa o pm cd qq a vs ns G Y ho (fd_plain hd) qv q3 q4 R qk hg) λr s' hq=>?_);obtain⟨rfl,h2,h3,h4⟩:=hq;exact⟨.inl ⟨.bool true,.bool true,[],rfl,λ_=>rfl,.bool true,af6 l _,λ_=>⟨List.Pairwise.nil,λ_ hm=>(nomatch hm)⟩⟩,h2,h3,h4⟩
end Att
namespace L2
open PySem PySem.Spec PyProof.Rows
theorem Vb:∀{Z:Zl}{G:X9},IntsAre Z G->Vals (G.map V.int) Z
 |_,_,.nil=>.nil|_,_,.cons n t h=>.cons ⟨t,rfl⟩ (Vb h)
def Only(H:Hp):Prop:=∀b,H b=none\/∃o Z,H b=some (.Gu o (.lst Z))
def ajs{K:Fg}(KX:K.In s₁.heap)(q0:s₁.heap.Ns mainGlobals mg)(Z:s₁.heap.Ns builtinsNs mb)(q5:∀x:Str,x≠"__name__" -> mb x=bootBuiltins x)(q4:s₁.heap.NoLimit)(hg:s₁.gens=#[])(ha:s₁.heap.get? a=some { cls:=.type "list",data:=.seq vs.toArray })(hi:IntsAre vs ns)(hl:ns.length<=sizeLine)(hr:ye k callerA)(F:∀U:Heap,K.In U->U.Ns mainGlobals mg->Ea P w K mg U CX k fa fd [x] sp)(q9:∀(s:Shared) (u:Value),BindsTo s fd ⟨[u],[]⟩ [(x,u)])(q2:∀H:Hp,Only H->Dt K H a (ns.map V.int)->sp [.ref a] H (λv _=>v=.bl true) λ_ _ _=>False)(q6:∀H e G,CX [] H s₁ (λ_ _ _=>False) e G->False) :
 codeAny (model P w) callerA (.call (.ref fa) ⟨[.ref a],[]⟩) (λr G=>r=.ok (.ret (.bool true))/\OldK s₁.heap G.heap/\G.os=s₁.os/\AllBare G.gens) s₁:=by
 have rv:=Vb hi;have qk:=hi.length;have qq:∀H:Hp,Only H->Dt K H a (ns.map V.int)->K6 P w H s₁.heap->(∀b,H b≠none->b=a)->(H a≠none->K.lookup a=none) ->
  codeAny (model P w) callerA (.call (.ref fa) ⟨[.ref a],[]⟩) (λr G=>r=.ok (.ret (.bool true))/\OldK s₁.heap G.heap/\G.os=s₁.os/\AllBare G.gens) s₁:=by
  intro H hO hS yf hA hK;have Cr:∀{b:Addr}{o:Obj},s₁.heap.get? b=some o->H b=none->(Wq s₁.heap H).get? b=some o:=λe n=>aix e n
  have q7:∀{b:Addr}{o:Obj}{es:Array DictEntry}{ep:Nat},s₁.heap.get? b=some o->o.data=.dict es ep->H b=none:=fun{b o es ep} e d=>by
   cases q:H b with
   |none=>rfl
   |some u =>
    have e':b=a:=hA b (by rw[q];simp);subst e';rw[ha] at e;cases e;have d':Data.seq vs.toArray _=Data.dict es ep:=d;cases d'
  have R:∀{b:Addr}{m:Zs},s₁.heap.Ns b m->(Wq s₁.heap H).Ns b m:=fun{b m} ⟨o,es,ep,e,d,r⟩=>⟨o,es,ep,Cr e (q7 e d),d,r⟩
  have q1:K.In (Wq s₁.heap H):=λb o e=>Cr (KX b o e) (by
   cases q:H b with
   |none=>rfl
   |some u =>
    have e':b=a:=hA b (by rw[q];simp);subst e';rw[hK (by rw[q];simp)] at e;cases e)
  have hM:Mod K mg (Wq s₁.heap H):=⟨q1,R q0,⟨mb,R Z,q5⟩,let ⟨mc,h1,h2⟩:=q4;⟨mc,R h1,h2⟩⟩;have e0:abn P w K mg (Wq s₁.heap H) callerA [] s₁ H:=⟨rfl,hM,λb o e=>am9 e,Nat.le_of_eq (afq _ _),trivial,λb Z=>absurd (show b∈([]:X1) from Z) (by simp),yf,.of_eq hg⟩;refine codeAny_mono ((F _ q1 (R q0)).run callerA [] s₁ H ⟨[.ref a],[]⟩ [.ref a] [.ref a] _ _ hr e0 (q9 s₁ (.ref a)) (.cons rfl .nil) (q2 H hO hS)) λr G h=>?_
  cases r with
  |error e=>exact(q6 H e G h).elim
  |ok fl =>
   cases fl with
   |next=>exact False.elim h|brk=>exact False.elim h|cont=>exact False.elim h
   |ret u =>
    obtain⟨v,H',os,qv,un,q3,r',q⟩:=h;have q':v=.bl true:=q;subst q';obtain rfl:u=Value.bool true:=r';refine⟨rfl,OldK.of_keep λb o e=>?_,os,qv⟩;cases q:H b with
    |none=>exact un.keep b o e q (by intro z;exact absurd (show b∈([]:X1) from z) (by simp)) (by simp)
    |some u =>
     rcases hO b with z|⟨ob,xs,z⟩
     .rw[q] at z;cases z
     .have z2:=un.Wo b ob _ z
      obtain⟨e1,_⟩:=yf b _ z;obtain⟨e2,_⟩:=q3 b _ z2;rw[e] at e1;cases e1;exact e2
 cases hk:K.lookup a with
 |some o =>
  have e:=KX a o hk;rw[ha] at e;cases e;refine qq (λ_=>none) (λ_=>.inl rfl) (.inr ⟨_,vs.toArray,_,hk,rfl,rfl,rfl,by rw[di,qk];exact hl,by simpa using rv⟩) (λb u z=>by have z':(none:Option HO)=some u:=z;cases z') (λb z=>absurd rfl z) λz=>absurd rfl z
 |none =>
  refine qq (λb=>if b=a then some (.Gu { cls:=.type "list",data:=.seq vs.toArray } (.lst (ns.map V.int))) else none) (λb=>?_) (.inl (.inr ⟨{ cls:=.type "list",data:=.seq vs.toArray },bh rfl⟩)) (λb u z=>?_) (λb z=>?_) λ_=>hk
  .by_cases Z:b=a
   .exact .inr ⟨_,_,bh Z⟩
   .exact .inl (bj Z)
  .by_cases Z:b=a
   .have z':=(bh Z).symm.trans z
    cases z';subst Z;exact⟨ha,by rw[dg];exact hl,vs,_,rv,ha⟩
   .have z':=(bj Z).symm.trans z
    cases z'
  .by_cases Z:b=a
   .exact Z
   .exact absurd (bj Z) z
end L2
namespace L2
open PySem PySem.Spec PyProof.Rows
def aoj{l:PySem.W.OpenLaw}{K:Params->Fg}{CX:World->CXT}{sp:World->Sp}(hn:l.most=some n)(q2:n<=sizeLine)(qv:d.params.defaults=[])(hr:ye k callerA)(hY:∀(w:World) (h:Heap),YP w h->(K w.params).In h)(F:∀(w:World) (mg:Zs) (fa:Addr) (h:Heap),(K w.params).In h->h.Ns mainGlobals mg->mg d.name=some (.ref fa) ->
 ∃fd:FuncData,(∀(s:Shared) (u:Value),BindsTo s fd ⟨[u],[]⟩ [(x,u)]) /\
  ∀Z:Heap,(K w.params).In Z->Z.Ns mainGlobals mg->Ea l.prog w (K w.params) mg Z (CX w) k fa fd [x] (sp w))(qk:∀(w:World) (H:Hp) (a:Addr) (ns:X9),ns.length<=n->Only H->Dt (K w.params) H a (ns.map V.int)->sp w [.ref a] H (λv _=>v=.bl true) λ_ _ _=>False)(q0:∀(w:World) (H:Hp) (s:Shared) (e:Value) (s':Shared),CX w [] H s (λ_ _ _=>False) e s'->False) :
 PySem.W.WalkO q loose XP YP l.row.toRowW d [] (λf vs=>PySem.call f vs):=by
 refine Att.Zb hn qv λw q4 qq mg mb fa o pm cd q6 a vs ns G Y ho hd q5 q1 q3 R U hg=>?_
 have KX:=hY w _ Y;obtain⟨fd,hb,hF⟩:=F w mg fa _ KX G.T.g q1;exact ajs KX G.T.g G.T.b G.T.builtins G.T.nolimit hg q3 R (bw U q2) hr hF hb (λH hO hS=>qk w H a ns U hO hS) λH e s'=>q0 w H qq e s'
end L2
namespace L2
open PySem PySem.Spec PyProof.Rows
noncomputable def inClass(s:Stmt)(j:Nat):Stmt:=match s with
 |.ClassDef _ _ _ body _ _ _ _ _ _ _=>body.getD j (.Pass ⟨0,0,0,0⟩)|_=>.Pass ⟨0,0,0,0⟩
noncomputable def Gj(s:Stmt):Arguments:=match s with
 |.FunctionDef _ a _ _ _ _ _ _ _ _=>a|_=>{ posonlyargs:=[],args:=[],vararg:=none,kwonlyargs:=[],kw_defaults:=[],kwarg:=none,defaults:=[] }
noncomputable def Dn(s:Stmt):List Stmt:=match s with
 |.FunctionDef _ _ b _ _ _ _ _ _ _=>b|_=>[]
noncomputable def yp(s:Stmt):Scope:=match s with
 |.FunctionDef _ _ _ _ _ _ sc _ _ _=>sc|_=>{ kind:=.function,names:=[],isGenerator:=false,isCoroutine:=false }
abbrev Xu:CXT:=λ_ _ _ _ _ _=>False
abbrev E0:XK:=λ_ _ _=>False
def ajt:Passes Xu X E0:=λ_ _ _ _ _ _ _ h=>h.elim
structure Fun(K:Fg)(x qual:Str)(st:Stmt)(f:Addr)(fd:FuncData):Prop where
 ex:∃(oc:Value)(od:Option Addr)(kV doc pm:Value)(an:Option Addr)(cdv ct:Value)(osl:Array (Option Value)),
  fd=PySem.W.fnOf x qual (Gj st) (Dn st) (yp st) .none kV doc pm an cdv ct/\K.lookup f=some ⟨oc,od,.func fd,osl⟩/\PySem.W.codeIn K cdv qual=true
 kp:PySem.W.keepIn K (.ref f)=true
def Fun.ok{K:Fg}{R:Stmt}(F:Fun K x qual R f fd)(S:Qv N ps (yp R))(len:∀U H Q E,sp U H Q E->U.length=ps.length)(qv:∀(G:Value) (A:Around) (Z:List Env) (s:Shared) (H:Hp) (U:List V) (Q:VK) (E:XK),ye k (A.deeper (envOfC qual (yp R) s.heap.objs.size f G))->sp U H Q E ->
 ∃t,Nr (abo Xu P w K mg base N qual (yp R) f G A Z s H E).nox (Dn R) t/\t { nx:=λ_ H'=>Q .non H',rt:=Q } (start N U) H):Ea P w K mg base Xu (k+1) f fd ps sp:=by
 obtain⟨oc,od,kV,q0,pm,an,G,ct,q1,rfl,lk,qk⟩:=F.ex;refine azk lk qk S len λA Z s H U Q E hr qq=>?_
 obtain⟨t,h,q⟩:=qv G A Z s H U Q E hr qq;exact⟨t,h.nox,q⟩
def Fun.binds{K:Fg}{U:Stmt}(F:Fun K x qual U f fd)(h:∀(kV Z pm:Value) (R:Option Addr) (G ct:Value) (us:Zl),us.length=ps.length->bindArgs (PySem.W.fnOf x qual (Gj U) (Dn U) (yp U) .none kV Z pm R G ct) ⟨us,[]⟩=pure (ps.zip us)):Binds K fd ps []:=by obtain⟨oc,od,kV,Z,pm,R,G,ct,qk,rfl,lk,qq⟩:=F.ex;exact .all (h kV Z pm R G ct)
def aju{K:Fg}{G:Stmt}{f:Addr}{oc:Value}{od an:Option Addr}{R:Array (Option Value)}{kV U pm Z ct:Value}(l:K.lookup f=some ⟨oc,od,.func (PySem.W.fnOf x qual (Gj G) (Dn G) (yp G) .none kV U pm an Z ct),R⟩)(c:PySem.W.codeIn K Z qual=true)(k:PySem.W.keepIn K (.ref f)=true):Fun K x qual G f (PySem.W.fnOf x qual (Gj G) (Dn G) (yp G) .none kV U pm an Z ct):=⟨⟨oc,od,kV,U,pm,an,Z,ct,R,rfl,l,c⟩,k⟩
def Vc{A:Around}{k:Nat}(Z:ye k A):A.units+1<cLine:=qz (Nat.add_le_add_left (by decide:1<=64) _) Z.units
def Vd{n:Nat}(h:n<=1000):n<sizeLine:=qz h (by decide)
end L2
namespace L2
open PySem PySem.Spec PyProof.Rows
noncomputable def G7(cells:Xs):List (Str×NameKind)->List (Str×Addr)->List (Str×Addr)
 |[],cs=>cs|(n,k)::r,cs=>G7 cells r (if k==.free then(n,(cells.lookup n).getD 0)::cs else cs)
theorem P0{G Z:Type}{f:G->Z->Sem (ForInStep Z)}{g:G->Z->Z}:∀{l:List G}(c:Z),(∀x∈l,∀c,f x c=pure (.yield (g x c)))->forIn l c f=pure (l.foldl (λc x=>g x c) c)
 |[],c,_=>rfl
 |x::l,c,h=>by
  rw[List.forIn_cons,h x bz,pure_bind];exact P0 (g x c) λy U=>h y (bu _ U)
theorem Qa(cells:Xs):∀(l:X0)(Z:Xs),G7 cells l Z=l.foldl (λc x=>if x.2==.free then(x.1,(cells.lookup x.1).getD 0)::c else c) Z
 |[],_=>rfl|(n,k)::r,Z=>Qa cells r _
def Sx(h:∀y∈scope.names,y.2=.free->∃c,env.cells.lookup y.1=some c):closureFor scope env=pure (G7 env.cells scope.names []):=by
 simp only[closureFor];rw[P0 (g:=λx c=>if x.2==.free then(x.1,(env.cells.lookup x.1).getD 0)::c else c) [] (λx R c=>by
  obtain⟨n,k⟩:=x
  by_cases G:k=.free
  .subst G
   obtain⟨c',Z⟩:=h (n,.free) R rfl;have Z:env.cells.lookup n=some c':=Z;simp[cellOf,Z]
  .have U:(k==NameKind.free)=false:=by simpa using G
   simp[U]),Qa]
 rfl
theorem Zc(cells:Xs):∀(l:X0)(G:Xs)(x:Str)(c:Addr),(∀y∈l,y.2=.free->∃c,cells.lookup y.1=some c)->(G7 cells l G).lookup x=some c ->
 G.lookup x=some c\/cells.lookup x=some c
 |[],G,x,c,_,h=>.inl h
 |(n,k)::r,G,x,c,hy,h=>by
  rcases Zc cells r _ x c (λz hz=>hy z (bu _ hz)) h with q|q
  .by_cases U:k=.free
   .subst U
    simp only[yc,j6,mq] at q;cases e:x==n with
    |true =>
     rw[e] at q;obtain⟨c',Z⟩:=hy (n,.free) bz rfl;have Z:cells.lookup n=some c':=Z;simp only[Z,Option.getD_some,Option.some.injEq] at q;subst q;rw[eq_of_beq e];exact .inr Z
    |false=>rw[e] at q;exact .inl q
   .have R:(k==NameKind.free)=false:=by simpa using U
    simp only[R,d9,jj] at q;exact .inl q
  .exact .inr q
theorem Sy(cells:Xs):∀(l:X0)(Z:Xs)(x:Str),(∃c,Z.lookup x=some c)->∃c,(G7 cells l Z).lookup x=some c
 |[],Z,x,h=>h
 |(n,k)::r,Z,x,h=>by
  refine Sy cells r _ x ?_
  by_cases G:(k==NameKind.free)=true
  .rw[bh G,mq]
   cases e:x==n with
   |true=>exact⟨_,rfl⟩|false=>exact h
  .rw[bj G];exact h
theorem Ow(cells:Xs):∀(l:X0)(Z:Xs)(x:Str),(x,NameKind.free)∈l->∃c,(G7 cells l Z).lookup x=some c
 |(n,k)::r,Z,x,h=>by
  rcases dh.mp h with q|q
  .obtain⟨rfl,rfl⟩:=Prod.mk.inj q
   refine Sy cells r _ x ⟨(cells.lookup x).getD 0,?_⟩;rw[bh (by simp),mq,yc]
  .exact Ow cells r _ x q
theorem Jx{Z:Env}:∀{G:X0}{x:Str},
 (G.map λ(y:Str×NameKind)=>if(y.2==NameKind.free&&Z.scope.kind==.function&&Z.kindOf y.1==some .cell) then(y.1,NameKind.cell) else(y.1,y.2)).lookup x
  = (G.lookup x).map λk=>if(k==NameKind.free&&Z.scope.kind==.function&&Z.kindOf x==some .cell) then NameKind.cell else k
 |[],_=>rfl
 |(n,k)::r,x=>by
  have R:=@Jx Z r x;rw[cz];cases hx:x==n with
  |true =>
   have e:=eq_of_beq hx;subst e;clear hx
   by_cases U:(k==NameKind.free&&Z.scope.kind==.function&&Z.kindOf x==some .cell)=true
   .simp only[U,j6,mq,yc,m8]
   .have hb:(k==NameKind.free&&Z.scope.kind==.function&&Z.kindOf x==some .cell)=false:=by simpa using U
    simp only[hb,d9,jj,mq,yc,m8]
  |false =>
   by_cases U:(k==NameKind.free&&Z.scope.kind==.function&&Z.kindOf n==some .cell)=true
   .simp only[U,j6,mq,hx];exact R
   .simp only[U,mq,hx];simpa[mq,hx] using R
theorem mem_of_lookup{Z G:Type}[BEq Z][LawfulBEq Z]:∀{l:List (Z×G)}{x:Z}{y:G},l.lookup x=some y->(x,y)∈l
 |(a,b)::r,x,y,h=>by
  rw[mq] at h;cases e:x==a with
  |true=>rw[e] at h;cases h;rw[eq_of_beq e];exact bz|false=>rw[e] at h;exact bu _ (mem_of_lookup h)
def Ip(X:Cx)(N:Yf)(Z:Scope)(C:Addr)(G:X1)(s:Shared)(H:Hp):Cx where
 prog:=X.prog
 w:=X.w
 K:=X.K
 mg:=X.mg
 base:=X.base
 A:=X.A
 N:=N
 s₀:=s
 H₀:=H
 env:=compEnvC Z (G7 X.env.cells Z.names []) C X.env
 outer:=X.stack
 stack:=X.stack
 ex:=G
 fn:=λ_=>false
 calm:=X.calm
 pn:=[]
 xe:=λ_ _=>False
structure Ed(X:Cx)(N:Yf)(scope:Scope):Prop where
 kind:scope.kind=.function
 ajv:∀y∈scope.names,y.2≠.cell
 locs:∀y∈scope.names,y.2=.local->scope.names.lookup y.1=some .local
 frees:∀y∈scope.names,y.2=.free->X.env.kindOf y.1=some .cell\/X.env.kindOf y.1=some .free
 uniq:∀x k,(x,k)∈scope.names->scope.names.lookup x=some k
 long:X.N.length<=N.length
 vis:∀i x,i<X.N.length->N[i]?=some x->Vis (relabel scope X.env) x->X.N[i]?=some x/\scope.names.lookup x=some .free
theorem Ed.cells(B:Ed X N scope)(ok:X.Ok):∀y∈scope.names,y.2=.free->∃c,X.env.cells.lookup y.1=some c:=λy G Z=>ok.has y.1 (B.frees y G Z)
def Ed.clos(B:Ed X N scope)(ok:X.Ok):closureFor scope X.env=pure (G7 X.env.cells scope.names []):=Sx (B.cells ok)
def Ed.inCells(B:Ed X N scope)(ok:X.Ok)(h:(G7 X.env.cells scope.names []).lookup x=some c):X.env.cells.lookup x=some c:=by
 rcases Zc _ _ _ _ _ (B.cells ok) h with q|q
 .simp at q
 .exact q
def Zd{X:Cx}(x:Str):(compEnvC scope cl C X.env).kindOf x=(scope.names.lookup x).map λk=>if(k==NameKind.free&&X.env.scope.kind==.function&&X.env.kindOf x==some .cell) then NameKind.cell else k:=by show(relabel scope X.env).names.lookup x=_;exact Jx
def af7(B:Ed X N scope)(I:Inv X pins σ H s)(hf:∀b∈fp,Qk X pins H b)(q2:∀b∈fp,∃o,s.heap.get? b=some o)(q1:G.Ns (s.heap.objs.size+1) λ_=>none)(hk:∀b o,s.heap.get? b=some o->G.get? b=some o)(Uc:G.get? s.heap.objs.size=some { cls:=.type "list",data:=.seq ([]:Zl).toArray }) :
 Inv (Ip X N scope (s.heap.objs.size+1) fp s H) [] (σ++List.replicate (N.length-X.N.length) none) (upd H s.heap.objs.size (.lst [])) { s with heap:=G,toks:=t }:=by
 have ok:=I.ok;have hD:H s.heap.objs.size=none:=I.yf.fresh (az _);have hC:H (s.heap.objs.size+1)=none:=I.yf.fresh (o7 _);have q0:s.heap.objs.size+1≠s.heap.objs.size:=Nat.succ_ne_self _;have lt:∀b∈fp,b<s.heap.objs.size:=λb hb=>by obtain⟨o,e⟩:=q2 b hb;exact au e
 have qk:∀x c,X.env.cells.lookup x=some c->c<s.heap.objs.size:=λx c e=>by obtain⟨v,o,ho,_⟩:=I.cell x c e;exact au ho
 refine⟨⟨ok.mod,B.kind,ok.glob,ok.blt,o7 _,?_,?_,?_,ok.hd,ok.frames,.inl rfl,?_,λb o e=>I.bs b o e,bw ok.bsz I.sz,?_,?_,I.stack,I.adp⟩,rfl,I.bare,?_,?_,?_,?_,?_,?_,?_,?_⟩
 .intro x y c R hy
  exact ok.inj x y c (B.inCells ok R) (B.inCells ok hy)
 .intro x R
  rw[show(Ip X N scope (s.heap.objs.size+1) fp s H).env.kindOf x=_ from Zd x] at R;cases e:scope.names.lookup x with
  |none=>rw[e] at R;rcases R with q|q<;>simp at q
  |some k =>
   have Pq:k=.free:=by
    rw[e] at R;cases k with
    |free=>rfl|cell=>exact absurd rfl (B.ajv _ (mem_of_lookup e))|«local»=>rcases R with q|q<;>simp at q
    |globalExplicit=>rcases R with q|q<;>simp at q
    |globalImplicit=>rcases R with q|q<;>simp at q
   subst Pq;exact Ow _ _ _ _ (mem_of_lookup e)
 .intro x c h;cases h
 .intro b hb
  refine⟨λe=>?_,λx c hc e=>?_⟩
  .have q:=lt b hb
   have e:b=s.heap.objs.size+1:=e;rw[e] at q;exact absurd q (Nat.not_lt.mpr (o7 _))
  .obtain⟨_,_,_,_,f4,_⟩:=hf b hb
   exact f4 x c (B.inCells ok hc) e
 .intro b o e hb
  obtain⟨_,_,_,f3,_⟩:=hf b hb;rcases f3 with q|q
  .exact ok.aiz b o e q
  .exact lg _ (gf (au e) (bw ok.bsz q))
 .intro b hb q
  obtain⟨_,f1,f2,_⟩:=hf b hb;rcases dh.mp (I.Wr b q) with z|z
  .exact f1 z
  .exact f2 z
 .exact Un.laid hk (az _) hD
 .refine⟨_,q1,λi x v hN Z hv=>?_⟩
  have hi:i<X.N.length:=by
   rcases j9 i σ.length with q|q
   .rw[I.len] at q;exact q
   .rw[ou q] at Z
    rw[List.getElem?_replicate] at Z;split at Z<;>simp at Z
  rw[gm (by rw[I.len];exact hi)] at Z;obtain⟨R,Pq⟩:=B.vis i x hi hN hv;obtain⟨m,_,hl⟩:=I.loc;have qq:=B.frees _ (mem_of_lookup Pq) rfl;have qv:Vis X.env.scope x:=by
   rcases qq with q|q
   .exact .inr (.inl q)
   .exact .inr (.inr q)
  obtain⟨u,ru,lu⟩:=hl i x v R Z qv;refine⟨u,ru,.inr ⟨?_,?_⟩⟩
  .rw[show(Ip X N scope (s.heap.objs.size+1) fp s H).env.kindOf x=_ from Zd x,Pq]
   simp only[m8];split
   .exact .inl rfl
   .exact .inr rfl
  .rcases lu with⟨q,_⟩|⟨_,c,hc,ic⟩
   .rcases qq with z|z<;>rw[q] at z<;>cases z
   .obtain⟨c',U⟩:=Ow X.env.cells scope.names [] x (mem_of_lookup Pq)
    have:=B.inCells ok U;rw[hc] at this;cases this;exact⟨c,U,ic.keeps hk⟩
 .intro x c hc
  obtain⟨v,iv⟩:=I.cell x c (B.inCells ok hc);exact⟨v,iv.keeps hk⟩
 .show upd H s.heap.objs.size (.lst []) (s.heap.objs.size+1)=none
  rw[jy q0];exact hC
 .intro x c hc
  have U:=B.inCells ok hc;rw[jy (fc (qk x c U))];exact I.Jt x c U
 .intro p hp;simp[Ip] at hp
 .exact K6.laid I.yf hk (az _) ⟨ie _,[],0,.nil,Uc⟩
 .show(σ++List.replicate (N.length-X.N.length) none).length=N.length
  rw[jb,List.length_replicate,I.len];have:=B.long;omega
def Jy(I:Nat->Shared->Prop)(q6:∀n s,I n s->wpAny (model prog w) A (pyNext it) (λr Z=>match r with
 |none=>R (.ok .next) Z
 | some v=>wpAny (model prog w) A (letOwnedTupleGo target it v) (λ_ qq=>wpAny (model prog w) A (assign target env v) (λ_ q1 =>
  wpAny (model prog w) A (forIn ifs true λc r=>if r=true then do let ok <- isTrue c env (eval c env);pure (ForInStep.yield ok) else pure (ForInStep.yield r)) (λok U =>
   if ok=true then wpAny (model prog w) A (eval elt env) (λx q0 =>
    wpAny (model prog w) A (call (.builtin "list.append") [acc,x]) (λ_ qv=>∃m,m<n/\I m qv) (λ_ _=>False) q0) (λ_ _=>False) U
   else ∃m,m<n/\I m U) (λ_ _=>False) q1) (λ_ _=>False) qq) (λ_ _=>False) Z) (λ_ _=>False) s)(n:Nat)(h:I n s) :
 codeAny (model prog w) A (.compLoop (.ListComp elt [⟨target,iter,ifs,0⟩] scope pos) 0 it acc env) R s:=by
 have nv:∀{α:Type}{t:Sem α}{Q:α->Shared->Prop}{E:Y1}{s:Shared},wpAny (model prog w) A t Q (λ_ _=>False) s->wpAny (model prog w) A t Q E s:=λh=>my h (λ_ _ q=>q) λ_ _ f=>f.elim
 refine codeAny_loop rfl I (λn s hI=>?_) n h;show wpAny _ A ((compTurn (.ListComp elt [⟨target,iter,ifs,0⟩] scope pos) 0 it acc env).onRaise (λx=>do noteFrame x env;theTreesLotGoes x)) _ _ s;refine wpAny_noted ?_;rw[compTurn_list];refine aa (wpAny_standAt (aa (my (q6 n s hI) (λr Z qk=>?_) λ_ _ G=>G.elim)));cases r with
 |none=>exact aj qk
 |some v =>
  refine aa (my qk (λ_ qq q3=>?_) λ_ _ G=>G.elim);refine aa (my q3 (λ_ q1 q5=>aa (my q5 (λok U q2=>?_) λ_ _ G=>G.elim)) λ_ _ G=>G.elim);cases ok with
  |false=>exact aj ⟨rfl,q2⟩
  |true =>
   exact aa (aa (my q2 (λx q0 q7=>aa (my q7 (λ_ qv q4=>aj (aj ⟨rfl,q4⟩)) λ_ _ G=>G.elim)) λ_ _ G=>G.elim))
def Ze(k:Nat)(wi:TI)(g:TG)(tc:TT)(te:TE):TE:=λU H Q=>wi U H λJ H1=>∀D,H1 D=none->∃W:Nat->Nat->Hp->Prop,(∃m,W 0 m (upd H1 D (.lst [])))/\∀i m H,W i m H ->
 (J.stop i H/\Q (.ref D) H)\/(J.go i H/\∀x H',J.yld i H x H'->g x (U++List.replicate k none) H' λZ H2=>Z.length=(U++List.replicate k none).length /\
  (∀(j:Nat) v,(U++List.replicate k none)[j]?=some (some v)->Z[j]?=some (some v))/\tc Z H2 λb H3 =>
   if b=true then te Z H3 λv H4=>∃R G,H4 D=some (.lst R)/\R.length<sizeLine/\G<m/\W (i+1) G (upd H4 D (.lst (R++[v]))) else ∃G,G<m/\W (i+1) G H3)
def PTs(X:Cx)(Z:Ya)(G:TT):Prop:=(Z=[]/\G=λ_ H Q=>Q true H)\/∃c,Z=[c]/\PT X c G
def Ve(I:Inv X pins σ H s)(hf:∀b∈G,Qk X pins H b)(J:Inv (Ip X N scope (s.heap.objs.size+1) G s H) [] qq Z s3):Inv X pins σ Z s3/\∃m,s3.heap.Ns (s.heap.objs.size+1) m:=by
 refine⟨I.call' J.os J.base J.yf J.bare λb hb=>?_,?_⟩
 .obtain⟨_,f1,_,f3,R,f5⟩:=hf b hb
  exact⟨f3,f1,R,f5⟩
 .obtain⟨m,U,_⟩:=J.loc
  exact⟨m,U⟩
def af8(I:Inv X pins σ H s)(R:Inv X pins σ G s3)(hC:G (s.heap.objs.size+1)=none)(hs:Heap.SameBut (s.heap.objs.size+1) s3.heap h'):Inv X pins σ G { s3 with heap:=h' }:=by
 have big:∀b o,s.heap.get? b=some o->b≠s.heap.objs.size+1:=λb o e z=>by have:=au e;rw[z] at this;exact absurd this (Nat.not_lt.mpr (o7 _))
 refine R.turned (t':=s3.toks) (λb o hb e=>hs.extBut b o hb e) hC ?_ (.inr (bw I.sz (o7 _))) ?_ ?_
 .intro e
  obtain⟨m,⟨o,_,_,Z,_⟩,_⟩:=I.loc;exact big _ o Z e.symm
 .intro x c U
  obtain⟨v,o,Z,_⟩:=I.cell x c U;exact big c o Z
 .intro p hp
  exact big p.1 p.2 (I.pin p hp).1
def S8{RR:Value->Addr->Result->Shared->Prop}(B:Ed X N scope)(Gk:X.calm=true)(I:Inv X pins σ H s)(hf:∀b∈G,Qk X pins H b)(T:Turn X.prog X.w X.K tg J G it tn)(h0:tn 0 s.heap)(hg:∀C s H,PG (Ip X N scope C G s H) tg g)(hc:∀C s H,PTs (Ip X N scope C G s H) ifs tc)(he:∀C s H,PE (Ip X N scope C G s H) elt te){Q:VK}(W:Nat->Nat->Hp->Prop)(w0:W 0 m0 (upd H s.heap.objs.size (.lst [])))(z0:∀i m H,W i m H->(J.stop i H/\Q (.ref s.heap.objs.size) H)\/(J.go i H/\∀x H',J.yld i H x H'->g x (σ++List.replicate (N.length-X.N.length) none) H' λq1 H2=>q1.length=(σ++List.replicate (N.length-X.N.length) none).length /\
 (∀(j:Nat) v,(σ++List.replicate (N.length-X.N.length) none)[j]?=some (some v)->q1[j]?=some (some v))/\tc q1 H2 λb H3 =>
  if b=true then te q1 H3 λv H4=>∃xs R,H4 s.heap.objs.size=some (.lst xs)/\xs.length<sizeLine/\R<m/\W (i+1) R (upd H4 s.heap.objs.size (.lst (xs++[v]))) else ∃R,R<m/\W (i+1) R H3))(yz:∀z1 H3 s3,Inv (Ip X N scope (s.heap.objs.size+1) G s H) [] z1 H3 s3->Q (.ref s.heap.objs.size) H3->RR (.ref s.heap.objs.size) (s.heap.objs.size+1) (.ok .next) s3) :
 wpAny (model X.prog X.w) X.A (newList []) (λz2 z3=>wpAny (model X.prog X.w) X.A (newFunctionEnv scope X.env.globals (G7 X.env.cells scope.names []) [] X.env.qual none .none (some X.env)) (λq2 zw =>
  codeAny (model X.prog X.w) X.A (.compStart (.ListComp elt [⟨tg,iter,ifs,0⟩] scope pos) 0 (.ref it) z2 { q2 with scope:=relabel scope X.env }) (RR z2 q2.locals) zw) E z3) E s:=by
 refine jt (wpAny_newFunctionEnv B.ajv (by intro y hy;simp at hy) (λqv U Z=>?_) B.kind);dsimp only at U Z ⊢;have z4:(s.heap.push { cls:=.type "list",dict:=none,data:=.seq ([]:Zl).toArray }).objs.size=s.heap.objs.size+1:=jq _ _;rw[z4] at U Z;have zk:∀b o,s.heap.get? b=some o->qv.get? b=some o:=λb o e=>Z.extBut b o (λz=>absurd (au e) (by rw[z];exact Nat.not_lt.mpr (o7 _))) (ao _ (ao _ e))
 have Uc:qv.get? s.heap.objs.size=some { cls:=.type "list",data:=.seq ([]:Zl).toArray }:=Z.extBut _ _ (fc (qw _)) (ao _ (bc _ rfl));have q5:∀b∈G,∃o,s.heap.get? b=some o:=λb hb=>let ⟨o,e,_⟩:=T.obj 0 _ h0 b hb;⟨o,e⟩
 have I0:=af7 (t:=s.toks+([]:List (Str×Value)).length) B I hf q5 U zk Uc;have zz:∀{H':Hp},(∀b∈G,H' b=none)->∀b∈G,Qk (Ip X N scope (s.heap.objs.size+1) G s H) [] H' b:=λhn b hb=>by
  obtain⟨f0,f1,f2,f3,f4,f5⟩:=hf b hb;refine⟨hn b hb,?_,?_,.inl hb,?_,λp hp=>(by simp[Ip] at hp)⟩
  .intro z
   obtain⟨o,e⟩:=q5 b hb;have:=au e;rw[show b=s.heap.objs.size+1 from z] at this;exact absurd this (Nat.not_lt.mpr (o7 _))
  .intro q
   rcases dh.mp (I.Wr b q) with z|z
   .exact f1 z
   .exact f2 z
  .intro x c hc
   exact f4 x c (B.inCells I.ok hc)
 have yk:∀b∈G,upd H s.heap.objs.size (.lst []) b=none:=λb hb=>by obtain⟨o,e⟩:=q5 b hb;rw[jy (fc (au e))];exact(hf b hb).1
 have q3:∀s':Shared,s'={ s with heap:=qv,toks:=s.toks+([]:List (Str×Value)).length }->codeAny (model X.prog X.w) X.A (.compLoop (.ListComp elt [⟨tg,iter,ifs,0⟩] scope pos) 0 (.ref it) (.ref s.heap.objs.size) (compEnvC scope (G7 X.env.cells scope.names []) (s.heap.objs.size+1) X.env))
  (RR (.ref s.heap.objs.size) (s.heap.objs.size+1)) s':=by
  rintro s' rfl;refine Jy (λn s'=>∃i qk H',Inv (Ip X N scope (s.heap.objs.size+1) G s H) [] qk H' s'/\(∀(j:Nat) v,(σ++List.replicate (N.length-X.N.length) none)[j]?=some (some v)->qk[j]?=some (some v))/\tn i s'.heap/\(∀b∈G,H' b=none)/\W i n H') ?_ m0
   ⟨0,_,_,I0,λ_ _ z=>z,T.keep 0 _ _ h0 (λb _ o e=>zk b o e),yk,w0⟩
  rintro n s3 ⟨i,z1,H3,I3,k3,z6,z5,w3⟩;have zv:=I3.weak (σ':=σ++List.replicate (N.length-X.N.length) none) (by rw[I3.len];exact I0.len) k3;rcases z0 i n H3 w3 with⟨z7,qn⟩|⟨go,step⟩
  .refine zj (T.done (Ip X N scope (s.heap.objs.size+1) G s H) rfl rfl rfl Gk i [] s3 _ H3 (λ_ _=>False) zv (zz z5) z6 z7) λr s4 z_=>?_
   obtain⟨hr,I4⟩:=z_;subst hr;exact yz _ _ _ I4 qn
  .refine zj (T.item (Ip X N scope (s.heap.objs.size+1) G s H) rfl rfl rfl Gk i [] s3 _ H3 (λ_ _=>False) zv (zz z5) z6 go) λr s4 z_=>?_
   obtain⟨u,hr,h4⟩:=z_;subst hr;refine zj h4 λ_ s5 z_=>?_
   obtain⟨x,H5,I5,r5,y5,q4,z9⟩:=z_;have z8:=I5.pinned (zz z9) (T.obj _ _ q4);refine zj (hg _ _ _ _ s5 _ H5 x u _ z8 r5 (step x H5 y5)) λ_ s6 z_=>?_
   obtain⟨qq,H6,I6,l6,k6,q6⟩:=z_;have q0:∀{adq:Zp}{H7:Hp}{s7:Shared}{m:Nat},Inv (Ip X N scope (s.heap.objs.size+1) G s H) ([]++Ot G s5.heap) qq H7 s7->m<n->W (i+1) m H7 ->
    ∃m,m<n/\∃i qk H',Inv (Ip X N scope (s.heap.objs.size+1) G s H) [] qk H' s7/\(∀(j:Nat) v,(σ++List.replicate (N.length-X.N.length) none)[j]?=some (some v)->qk[j]?=some (some v))/\tn i s7.heap/\(∀b∈G,H' b=none)/\W i m H':=fun{_ H7 s7 m} I7 hm w7=>by
    refine⟨m,hm,i+1,qq,H7,I7.Jv,k6,T.keep _ _ _ q4 λb hb o e=>(I7.pin (b,o) (fj _ (fj _ (Hs hb e)))).1,λb hb=>?_,w7⟩;obtain⟨o,e,d⟩:=T.obj _ _ q4 b hb;exact(I7.pin (b,o) (fj _ (fj _ (Hs hb e)))).2.1
   have q9:wpAny (model X.prog X.w) X.A (forIn ifs true λc r=>if r=true then do let ok <- isTrue c (compEnvC scope (G7 X.env.cells scope.names []) (s.heap.objs.size+1) X.env) (eval c (compEnvC scope (G7 X.env.cells scope.names []) (s.heap.objs.size+1) X.env));pure (ForInStep.yield ok) else pure (ForInStep.yield r))
    (TP (Ip X N scope (s.heap.objs.size+1) G s H) ([]++Ot G s5.heap) qq λb H3 =>
     if b=true then te qq H3 λv H4=>∃xs R,H4 s.heap.objs.size=some (.lst xs)/\xs.length<sizeLine/\R<n/\W (i+1) R (upd H4 s.heap.objs.size (.lst (xs++[v]))) else ∃R,R<n/\W (i+1) R H3) (λ_ _=>False) s6:=by
    rcases hc (s.heap.objs.size+1) s H with⟨rfl,rfl⟩|⟨c,rfl,yy⟩
    .exact wpAny_tests_nil ⟨H6,I6,q6⟩
    .exact wpAny_tests_one (yy _ s6 qq H6 _ I6 q6)
   refine zj q9 λok s7 z_=>?_
   obtain⟨H7,I7,q7⟩:=z_;cases ok with
   |false =>
    obtain⟨R,hm,w7⟩:=(show ∃R,R<n/\W (i+1) R H7 from q7);exact q0 (adq:=[]) I7 hm w7
   |true =>
    show wpAny _ _ _ _ _ _;refine zj (he _ _ _ _ s7 qq H7 _ I7 q7) λx s8 z_=>?_
    obtain⟨v,H8,I8,r8,xs,R,hD,hl,hm,w8⟩:=z_;refine zj (Va _ s8 qq H8 (.ref s.heap.objs.size) [v] (.ref s.heap.objs.size) [x] (λ_ H'=>W (i+1) R H') I8 rfl (.cons r8 .nil) ⟨_,xs,v,rfl,rfl,hD,hl,w8⟩) λ_ s9 z_=>?_
    obtain⟨_,H9,I9,_,w9⟩:=z_;exact q0 (adq:=[]) I9 hm w9
 rw[z4];exact codeAny_compStart_list (q3 _ rfl) (T.self _ 0 _ _ _ (T.keep 0 _ _ h0 (λb _ o e=>zk b o e)) (q3 _ rfl))
def ad6(B:Ed X N scope)(Gk:X.calm=true)(hi:PI X tg iter wi)(hg:∀C Z s H,PG (Ip X N scope C Z s H) tg g)(hc:∀C Z s H,PTs (Ip X N scope C Z s H) ifs tc)(he:∀C Z s H,PE (Ip X N scope C Z s H) elt te)(hs:∀x,foldedSetIterable iter X.env x=pure x):PE X (.ListComp elt [⟨tg,iter,ifs,0⟩] scope pos) (Ze (N.length-X.N.length) wi g tc te):=by intro G s σ H Q I h;rw[eval_ListComp];refine wpAny_comprehension_free (use:=none) rfl hs (B.clos I.ok) B.kind B.locs (zj (hi G s σ H _ I h) λv s1 h1=>zj h1 λq1 s2 h2=>?_);obtain⟨it,Z,tn,J,H2,rfl,R,T,qq,f2,q2⟩:=h2;obtain⟨W,⟨m0,w0⟩,U⟩:=q2 s2.heap.objs.size (R.yf.fresh (az _));refine S8 (RR:=λqv C=>compPost (model X.prog X.w) X.A X.xe none (EP X G σ Q) qv C) B Gk R f2 T qq (λC s H=>hg C Z s H) (λC s H=>hc C Z s H) (λC s H=>he C Z s H) W w0 U ?_;intro q0 H3 s3 I3 q3;obtain⟨J3,m,hn⟩:=Ve R f2 I3;exact⟨m,hn,λh' qk=>⟨.ref s2.heap.objs.size,H3,af8 R J3 I3.free qk,rfl,q3⟩⟩
set_option tactic.hygienic true in
def ad7(B:Ed X N scope)(Gk:X.calm=true)(hi:PI X tg iter wi)(hg:∀C G s H,PG (Ip X N scope C G s H) tg g)(hc:∀C G s H,PTs (Ip X N scope C G s H) ifs tc)(he:∀C G s H,PE (Ip X N scope C G s H) elt te)(hs:∀x,foldedSetIterable iter X.env x=pure x)(hN:X.N.Nodup)(hy:X.N[i]?=some y)(hl:X.env.scope.names.lookup y=some .local)(qk:swapsWith (.ListComp elt [⟨tg,iter,ifs,0⟩] scope pos) (some (.Name y py)) ajw.line X.env=pure true) :
 PS X (.Assign [.Name y py] (.ListComp elt [⟨tg,iter,ifs,0⟩] scope pos) ajw) (atz (Ze (N.length-X.N.length) wi g tc te) (adt i)):=by
 intro Z s σ H D I h;rw[exec_Assign_Name_used _ _ _ _ qk];refine aa (wpAny_standAt (aa ?_));show wpAny _ _ (do let _ <- comprehension (.ListComp elt [⟨tg,iter,ifs,0⟩] scope pos) scope X.env _ (newList []) false (eval iter X.env) (some (assign (.Name y py) X.env))) _ _ s;refine aa (my (wpAny_comprehension_free (use:=some (assign (.Name y py) X.env)) (Q:=λ_ s'=>SP X Z D .next s') rfl hs (B.clos I.ok) B.kind B.locs
  (zj (hi Z s σ H _ I h) λv s1 h1=>zj h1 λq9 Y h2=>?_)) (λ_ s' hq=>aj (aj hq)) λ_ _ e=>e)
 obtain⟨it,G,tn,J,H2,rfl,U,T,qq,f2,q2⟩:=h2;obtain⟨W,⟨m0,w0⟩,L⟩:=q2 Y.heap.objs.size (U.yf.fresh (az _));refine S8 (RR:=λq5 C=>compPost (model X.prog X.w) X.A X.xe (some (assign (.Name y py) X.env)) (λ_ s'=>SP X Z D .next s') q5 C) (Q:=λx H1=>adt i x σ H1 D.nx) B Gk U f2 T qq (λC s H=>hg C G s H) (λC s H=>hc C G s H) (λC s H=>he C G s H) W w0 L ?_;intro q7 H3 s3 I3 q3;obtain⟨J3,m,hn⟩:=Ve U f2 I3;have q6:=I3.free;obtain⟨oC,_,_,S,qv,_⟩:=id hn;have big:∀b o,Y.heap.get? b=some o->b≠Y.heap.objs.size+1:=λb o e z=>by have:=au e;rw[z] at this;exact absurd this (Nat.not_lt.mpr (o7 _))
 have R:Y.heap.objs.size+1≠X.env.locals:=λe=>by obtain⟨m,⟨o,_,_,ho,_⟩,_⟩:=U.loc;exact big _ o ho e.symm
 have J4:Inv X (Z++[(Y.heap.objs.size+1,oC)]) σ H3 s3:=J3.Ws λp hp=>by
  rcases cg.mp hp with q|q
  .exact J3.pin p (fj _ q)
  .have e:p=(Y.heap.objs.size+1,oC):=by simpa using q
   subst e;refine⟨S,q6,R,λhb=>?_,λv z=>by rw[qv] at z;cases z⟩;exact U.aym (o7 _) hb
 show wpAny (model X.prog X.w) X.A (assign (.Name y py) X.env (.ref Y.heap.objs.size)) _ _ s3;refine zj (Wv (pos:=py) hN hy (.inl hl) (.inr hl) (Z++[(Y.heap.objs.size+1,oC)]) s3 σ H3 (.ref Y.heap.objs.size) (.ref Y.heap.objs.size) D.nx J4 rfl q3) λ_ s4 z_=>?_
 obtain⟨q1,H4,I4,q4⟩:=z_;have pC:=I4.pin (Y.heap.objs.size+1,oC) (fj _ (fj _ (by simp)));refine⟨m,hn.at' λo e=>by rw[S] at e;cases e;exact pC.1,λh' q0=>⟨q1,H4,?_,q4⟩⟩;refine(I4.Jv).turned (t':=s4.toks) (λb o hb e=>q0.extBut b o hb e) pC.2.1 R (.inr (bw U.sz (o7 _))) ?_ ?_
 .intro x c hc
  obtain⟨v,o,ho,_⟩:=U.cell x c hc;exact big c o ho
 .intro p hp
  exact big p.1 p.2 (U.pin p hp).1
end L2
namespace Sm
open PySem L2
open MW (Ex Dd OEx Lh Af m7 Lv Tg Res dj MO Ks Cp Op2 Blt Bm Kx)
abbrev Dv:=MW.D
abbrev En:=MW.Env
structure Io where
 l:List Addr
 δ:List Addr
noncomputable def Io.add(Z:Io)(p:Addr):Io:=⟨Z.l++[p],Z.δ⟩
noncomputable def Io.hide(Z:Io)(p:Addr):Io:=⟨Z.l,p::Z.δ⟩
def Io.off(Z:Io)(a:Addr):Prop:=a∉Z.l/\a∉Z.δ
def W6(K:Fg)(H:Hp)(a:Addr)(G:List V):Prop :=
 (∃o,H a=some (.Gu o (.lst G))) \/
  ∃(o:Obj)(Z:Xt)(n:Nat),K.lookup a=some o/\o.cls=.type "list"/\o.dict=none/\o.data=.seq Z n/\Z.size<=sizeLine/\Vals G Z.toList
def W6.sq(h:W6 K H a vs):Dt K H a vs:=by
 rcases h with⟨o,h⟩|h
 .exact .inl (.inr ⟨o,h⟩)
 .exact .inr h
mutual
inductive Rep(K:Fg)(ι:Io)(H:Hp):Dv->V->Prop
 |non:Rep K ι H .non .non
 |bl (b:Bool):Rep K ι H (.bl b) (.bl b)
 |int (i:Int):Rep K ι H (.int i) (.int i)
 |str (s:Str):Rep K ι H (.str s) (.str s)
 |tup {a:Addr} {ds:List Dv} {vs:List V} (e:H a=some (.tup vs)) (r:lz K ι H ds vs):Rep K ι H (.tup ds) (.ref a)
 |vl {a:Addr} {ds:List Dv} {vs:List V} (e:H a=some (.lst vs)) (n:ι.off a) (r:lz K ι H ds vs):Rep K ι H (.vl ds) (.ref a)
 |fz {a:Addr} {ds:List Dv} {vs:List V} (e:W6 K H a vs) (r:lz K ι H ds vs):Rep K ι H (.fz ds) (.ref a)
 |ref {n:Nat} {a:Addr} (e:ι.l[n]?=some a):Rep K ι H (.ref n) (.ref a)
inductive lz(K:Fg)(ι:Io)(H:Hp):List Dv->List V->Prop
 |nil:lz K ι H [] []
 |cons {d:Dv} {v:V} {ds:List Dv} {vs:List V} (h:Rep K ι H d v) (t:lz K ι H ds vs):lz K ι H (d::ds) (v::vs)
end
structure Le(ι:Io)(H:Hp)(ι':Io)(H':Hp):Prop where
 ext:∃Y,ι'.l=ι.l++Y/\∀a∈Y,H a=none
 del:ι'.δ=ι.δ
 tup:∀a vs,H a=some (.tup vs)->H' a=some (.tup vs)
 Gu:∀a o u,H a=some (.Gu o u)->H' a=some (.Gu o u)
 lst:∀a vs,a∉ι.l->H a=some (.lst vs)->H' a=some (.lst vs)
 dom:∀a,H' a=none->H a=none
def Le.refl(Z:Io)(H:Hp):Le Z H Z H:=⟨⟨[],by simp,by simp⟩,rfl,λ_ _ h=>h,λ_ _ _ h=>h,λ_ _ _ h=>h,λ_ h=>h⟩
def Ei{H H':Hp}(U:∀a u,H a=some u->∃Z,H' a=some Z)(h:H' a=none):H a=none:=by
 cases e:H a with
 |none=>rfl|some u=>obtain⟨Z,G⟩:=U a u e;rw[h] at G;cases G
def Le.get(l:Le G H Z U){n:Nat}(h:G.l[n]?=some a):Z.l[n]?=some a:=by obtain⟨Y,e,_⟩:=l.ext;rw[e,gm (ak.mp h).1];exact h
def Le.auw(l:Le U H Z H')(h:a∉U.l)(G:H a=some o):a∉Z.l:=by
 obtain⟨Y,e,R⟩:=l.ext;rw[e];intro m;rcases cg.mp m with q|q
 .exact h q
 .rw[R a q] at G;cases G
def Le.out(l:Le G H Z R)(h:G.off a)(U:H a=some o):Z.off a:=⟨l.auw h.1 U,by rw[l.del];exact h.2⟩
theorem Le.trans(a:Le ι H U H1)(b:Le U H1 R H2):Le ι H R H2:=by
 obtain⟨Y,e1,h1⟩:=a.ext;obtain⟨Z,e2,h2⟩:=b.ext;refine⟨⟨Y++Z,by rw[e2,e1,wz],λx m=>?_⟩,b.del.trans a.del,λx G h=>b.tup x G (a.tup x G h),λx o u h=>b.Gu x o u (a.Gu x o u h),λx G n h=>b.lst x G (a.auw n h) (a.lst x G n h),λx h=>a.dom x (b.dom x h)⟩;rcases cg.mp m with q|q
 .exact h1 x q
 .exact a.dom x (h2 x q)
structure LeX(ι:Io)(H:Hp)(ι':Io)(H':Hp):Prop where
 ext:∃Y,ι'.l=ι.l++Y/\∀a∈Y,H a=none
 del:∀a∈ι'.δ,a∈ι.δ\/H a=none
 tup:∀a vs,H a=some (.tup vs)->H' a=some (.tup vs)
 Gu:∀a o u,H a=some (.Gu o u)->H' a=some (.Gu o u)
 lst:∀a vs,a∉ι.l->H a=some (.lst vs)->H' a=some (.lst vs)
def Le.toX(l:Le G H Z H'):LeX G H Z H':=⟨l.ext,λa h=>.inl (by rw[<- l.del];exact h),l.tup,l.Gu,l.lst⟩
def LeX.get(l:LeX G H Z U){n:Nat}(h:G.l[n]?=some a):Z.l[n]?=some a:=by obtain⟨Y,e,_⟩:=l.ext;rw[e,gm (ak.mp h).1];exact h
def LeX.out(l:LeX U H G H')(h:U.off a)(Z:H a=some o):G.off a:=by
 obtain⟨Y,e,R⟩:=l.ext;refine⟨λm=>?_,λm=>?_⟩
 .rw[e] at m
  rcases cg.mp m with q|q
  .exact h.1 q
  .rw[R a q] at Z;cases Z
 .rcases l.del a m with q|q
  .exact h.2 q
  .rw[q] at Z;cases Z
structure Tr(K:Fg)(ι:Io)(H:Hp)(ι':Io)(H':Hp):Prop where
 tup:∀a vs,H a=some (.tup vs)->H' a=some (.tup vs)
 vl:∀a vs,H a=some (.lst vs)->ι.off a->H' a=some (.lst vs)/\ι'.off a
 fz:∀a vs,W6 K H a vs->W6 K H' a vs
 rf:∀(n:Nat) a,ι.l[n]?=some a->ι'.l[n]?=some a
mutual
theorem Rep.tr{K:Fg}{G Z:Io}{H U:Hp}(l:Tr K G H Z U):∀{d:Dv}{v:V},Rep K G H d v->Rep K Z U d v
 |_,_,.non=>.non|_,_,.bl b=>.bl b|_,_,.int i=>.int i|_,_,.str s=>.str s|_,_,.tup e r=>.tup (l.tup _ _ e) (lz.tr l r)|_,_,.vl e n r=>.vl (l.vl _ _ e n).1 (l.vl _ _ e n).2 (lz.tr l r)|_,_,.fz e r=>.fz (l.fz _ _ e) (lz.tr l r)|_,_,.ref e=>.ref (l.rf _ _ e)
theorem lz.tr{K:Fg}{R Z:Io}{H H':Hp}(l:Tr K R H Z H'):∀{G:List Dv}{U:List V},lz K R H G U->lz K Z H' G U
 |_,_,.nil=>.nil|_,_,.cons h t=>.cons (Rep.tr l h) (lz.tr l t)
end
def LeX.tr(l:LeX U H Z H'):Tr K U H Z H':=⟨l.tup,λa G e n=>⟨l.lst _ _ n.1 e,l.out n e⟩,λa G e=>by
 rcases e with⟨o,e⟩|e
 .exact .inl ⟨o,l.Gu _ _ _ e⟩
 .exact .inr e,λ_ _ e=>l.get e⟩
def Rep.Gm(l:LeX G H Z U)(r:Rep K G H d v):Rep K Z U d v:=r.tr l.tr
def lz.Gm(l:LeX G H Z U)(r:lz K G H ds vs):lz K Z U ds vs:=r.tr l.tr
def Rep.mono(l:Le G H Z U)(r:Rep K G H d v):Rep K Z U d v:=r.Gm l.toX
def lz.mono(l:Le G H Z U)(r:lz K G H ds vs):lz K Z U ds vs:=r.Gm l.toX
theorem lz.length{K:Fg}{U:Io}{H:Hp}:∀{G:List Dv}{Z:List V},lz K U H G Z->G.length=Z.length:=by intro A B h;induction A generalizing B with|nil=>cases h;rfl|cons d A ih=>cases h with|cons _ t=>rw[d7,d7,ih t]
theorem lz.get{K:Fg}{U:Io}{H:Hp}:∀{G:List Dv}{Z:List V}{i:Nat}{d:Dv},lz K U H G Z->G[i]?=some d->∃v,Z[i]?=some v/\Rep K U H d v
 |_,_,_,_,.nil,e=>by simp at e|_,_,0,_,.cons h _,e=>by simp at e;subst e;exact⟨_,rfl,h⟩
 |_,_,i+1,d,.cons _ t,e=>by
  obtain⟨v,h1,R⟩:=lz.get (i:=i) t (by simpa using e);exact⟨v,by simpa using h1,R⟩
theorem lz.set{K:Fg}{Z:Io}{H:Hp}{d:Dv}{v:V}(r:Rep K Z H d v):∀{U:List Dv}{G:List V}(i:Nat),lz K Z H U G->lz K Z H (U.set i d) (G.set i v)
 |_,_,_,.nil=>.nil|_,_,0,.cons _ t=>.cons r t|_,_,i+1,.cons h t=>.cons h (lz.set r i t)
theorem lz.append{K:Fg}{Z:Io}{H:Hp}:∀{U es:List Dv}{G R:List V},lz K Z H U G->lz K Z H es R->lz K Z H (U++es) (G++R):=by intro A _ B _ h r;induction A generalizing B with|nil=>cases h;exact r|cons d A ih=>cases h with|cons h t=>exact .cons h (ih t)
theorem lz.drop{K:Fg}{U:Io}{H:Hp}:∀{G:List Dv}{Z:List V}(n:Nat),lz K U H G Z->lz K U H (G.drop n) (Z.drop n)
 |_,_,0,r=>r|_,_,_+1,.nil=>.nil|_,_,n+1,.cons _ t=>lz.drop n t
theorem lz.take{K:Fg}{U:Io}{H:Hp}:∀{G:List Dv}{Z:List V}(n:Nat),lz K U H G Z->lz K U H (G.take n) (Z.take n)
 |_,_,0,_=>.nil|_,_,_+1,.nil=>.nil|_,_,n+1,.cons h t=>.cons h (lz.take n t)
theorem lz.eraseIdx{K:Fg}{U:Io}{H:Hp}:∀{G:List Dv}{Z:List V}(n:Nat),lz K U H G Z->lz K U H (G.eraseIdx n) (Z.eraseIdx n)
 |_,_,_,.nil=>.nil|_,_,0,.cons _ t=>t|_,_,n+1,.cons h t=>.cons h (lz.eraseIdx n t)
theorem lz.ints{K:Fg}{G:Io}{H:Hp}:∀(Z:X9),lz K G H (Z.map MW.D.int) (Z.map V.int)
 |[]=>.nil|n::r=>.cons (.int n) (lz.ints r)
structure Nm where
 cls:Nat->Option Addr
 fld:Nat->Str
 inj:∀i j,fld i=fld j->i=j
inductive oh{κ κ':Type}(K:Fg)(ι:Io)(H:Hp)(f:κ->κ'->Prop):List (κ×Dv)->List (κ'×V)->Prop
 |nil:oh K ι H f [] []
 |cons {k:κ} {k':κ'} {d:Dv} {v:V} {l:List (κ×Dv)} {l':List (κ'×V)} (hk:f k k') (h:Rep K ι H d v) (t:oh K ι H f l l'):oh K ι H f ((k,d)::l) ((k',v)::l')
theorem oh.tr{U Z:Type}{f:U->Z->Prop}(t:Tr K R H G H'){l:List (U×Dv)}{l':List (Z×V)}(h:oh K R H f l l'):oh K G H' f l l':=by
 induction h with
 |nil=>exact .nil|cons k h _ ih=>exact .cons k (h.tr t) ih
def oh.mono(le:Le G H Z U)(h:oh K G H f l l'):oh K Z U f l l':=h.tr le.toX.tr
def Eb(U:Nm)(K:Fg)(G:Io)(H:Hp)(o:MO)(a:Addr):Prop :=
 match o with
 |.lst ds=>∃R,H a=some (.lst R)/\lz K G H ds R|.dT m9=>∃l,H a=some (.dT l)/\oh K G H (λk Z=>k=Z) m9 l
 |.ins c fs=>∃C dx l,U.cls c=some C/\H a=some (.ins C dx l)/\oh K G H (λk Z=>Z=U.fld k) fs l
 |.dF m9=>∃l o,H a=some (.Gu o (.dT l))/\oh K G H (λk Z=>k=Z) m9 l
structure j7(nm:Nm)(K:Fg)(ι:Io)(H:Hp)(M:dj):Prop where
 len:ι.l.length=M.length
 nd:ι.l.Nodup
 del:∀a∈ι.δ,a∉ι.l/\∃vs,H a=some (.lst vs)
 obj:∀(n:Nat)(o:MO)(a:Addr),M[n]?=some o->ι.l[n]?=some a->Eb nm K ι H o a
def Mu:Option HO->Prop
 |some (.Gu _ (.dT _))=>True|u=>Mut u
theorem Eb.some(h:Eb nm K ι H o a):∃u,H a=some u/\Mu (H a):=by
 cases o with
 |lst U=>obtain⟨Z,e,_⟩:=h;exact⟨_,e,by rw[e];trivial⟩
 |dT G=>obtain⟨Z,e,_⟩:=h;exact⟨_,e,by rw[e];trivial⟩
 |ins c fs=>obtain⟨C,R,l,_,e,_⟩:=h;exact⟨_,e,by rw[e];trivial⟩
 |dF G=>obtain⟨Z,ob,e,_⟩:=h;exact⟨_,e,by rw[e];trivial⟩
def j7.addr(S:j7 nm K Z H M){n:Nat}(h:M[n]?=some o):∃a,Z.l[n]?=some a/\Eb nm K Z H o a:=by
 have G:n < Z.l.length:=by rw[S.len];exact MW.rn h
 exact⟨Z.l[n],by simp[G],S.obj n o _ h (by simp[G])⟩
def j7.mem(S:j7 nm K G H M)(h:a∈G.l):∃u,H a=some u/\Mu (H a):=by
 obtain⟨n,Z,rfl⟩:=v5 h;have U:n<M.length:=by rw[<- S.len];exact Z
 exact(S.obj n M[n] G.l[n] (by simp[U]) (by simp[Z])).some
def j7.fresh(S:j7 nm K Z H M)(h:H a=none):Z.off a:=by
 refine⟨λm=>?_,λm=>?_⟩
 .obtain⟨u,e,_⟩:=S.mem m
  rw[h] at e;cases e
 .obtain⟨_,G,e⟩:=S.del a m
  rw[h] at e;cases e
theorem Eb.tr(h:Eb nm K ι H o a)(t:Tr K ι H G U)(e:U a=H a):Eb nm K G U o a:=by
 cases o with
 |lst ds=>obtain⟨Z,q,r⟩:=h;exact⟨Z,e.trans q,r.tr t⟩
 |dT R=>obtain⟨Z,q,r⟩:=h;exact⟨Z,e.trans q,r.tr t⟩
 |ins c fs=>obtain⟨C,dx,l,hc,q,r⟩:=h;exact⟨C,dx,l,hc,e.trans q,r.tr t⟩
 |dF R=>obtain⟨Z,ob,q,r⟩:=h;exact⟨Z,ob,e.trans q,r.tr t⟩
def Eb.move(h:Eb nm K U H o a)(le:Le U H Z G)(e:G a=H a):Eb nm K Z G o a:=h.tr le.toX.tr e
def j7.laid(S:j7 nm K G H M)(h:H p=none)(o:HO):j7 nm K G (upd H p o) M/\Le G H G (upd H p o):=by
 have Z:∀a u,H a=some u->a≠p:=λa u e=>kj e h
 have le:Le G H G (upd H p o):=⟨⟨[],by simp,by simp⟩,rfl,λa U e=>by rw[jy (Z a _ e)];exact e,λa _ u e=>by rw[jy (Z a _ e)];exact e,λa U _ e=>by rw[jy (Z a _ e)];exact e,
  λa h'=>Ei (λb u e=>⟨u,by rw[jy (Z b _ e)];exact e⟩) h'⟩
 refine⟨⟨S.len,S.nd,λa R=>?_,λn o' a hn R=>?_⟩,le⟩
 .obtain⟨h1,U,h2⟩:=S.del a R
  exact⟨h1,U,le.lst a U h1 h2⟩
 .have q:=S.obj n o' a hn R
  obtain⟨u,e,_⟩:=q.some;exact q.move le (by rw[jy (Z a u e)])
def zu{Z:Type}{l:List Z}{x y:Z}(h:(l++[x])[n]?=some y):(l[n]?=some y)\/(n=l.length/\y=x):=by
 rcases j9 n l.length with q|q
 .rw[gm q] at h;exact .inl h
 .rw[ou q] at h
  have:n-l.length=0:=by
   rcases Nat.eq_zero_or_pos (n-l.length) with z|z
   .exact z
   .rw[wy (by simp;exact z)] at h;cases h
  rw[this] at h;simp at h;exact .inr ⟨by lia,h.symm⟩
def j7.new(S:j7 nm K Z H M)(h:H p=none)(G:∀a u,H a=some u->H' a=some u)(ho:Le Z H (Z.add p) H'->Eb nm K (Z.add p) H' o p):j7 nm K (Z.add p) H' (M++[o])/\Le Z H (Z.add p) H':=by
 have le:Le Z H (Z.add p) H':=⟨⟨[p],rfl,by simpa using h⟩,rfl,λa R e=>G _ _ e,λa _ u e=>G _ _ e,λa R _ e=>G _ _ e,λa h'=>Ei (H:=H) (H':=H') (λb u e=>⟨u,G b u e⟩) h'⟩;refine⟨⟨by simp[Io.add,S.len],?_,λa U=>?_,λn o' a hn U=>?_⟩,le⟩
 .exact n6.mpr ⟨S.nd,by simp,by
   intro x hx y hy;have:y=p:=by simpa using hy
   subst this;intro e;subst e;exact(S.fresh h).1 hx⟩
 .obtain⟨h1,R,h2⟩:=S.del a U
  exact⟨le.auw h1 h2,R,G _ _ h2⟩
 .rcases zu hn with q|⟨q,rfl⟩
  .rcases zu U with r|⟨r,_⟩
   .have z:=S.obj n o' a q r
    obtain⟨u,e,_⟩:=z.some;exact z.move le ((G a u e).trans e.symm)
   .exact absurd (MW.rn q) (by rw[r,S.len];exact lg _)
  .rcases zu U with r|⟨_,rfl⟩
   .exact absurd (ak.mp r).1 (by rw[q,S.len];exact lg _)
   .exact ho le
def j7.put(S:j7 nm K U H M)(hn:M[n]?=some G)(ha:U.l[n]?=some a)(ho:Le U H U (upd H a u)->Eb nm K U (upd H a u) o a)(hd:∀k,G≠.dF k:=by nofun):j7 nm K U (upd H a u) (M.set n o)/\Le U H U (upd H a u):=by
 have Z:Mut (H a):=by
  have z:=S.obj n G a hn ha;cases G with
  |dF k=>exact absurd rfl (hd k)|ins c fs=>obtain⟨C,dx,l,_,e,_⟩:=z;rw[e];trivial
  |_=>obtain⟨vs,e,_⟩:=z;rw[e];trivial
 have hm:a∈U.l:=bf ha;have le:Le U H U (upd H a u):=⟨⟨[],by simp,by simp⟩,rfl,λb vs e=>by rw[jy (λz=>by subst z;rw[e] at Z;exact Z)];exact e,
  λb _ _ e=>by rw[jy (λz=>by subst z;rw[e] at Z;exact Z)];exact e,λb vs nb e=>by rw[jy (λz=>by subst z;exact nb hm)];exact e,λb h'=>Ei (λc w e=>by
   by_cases z:c=a
   .exact⟨u,by rw[z,qu]⟩
   .exact⟨w,by rw[jy z];exact e⟩) h'⟩
 refine⟨⟨by rw[ym];exact S.len,S.nd,λb hb=>?_,λm o' b R hb=>?_⟩,le⟩
 .obtain⟨h1,vs,h2⟩:=S.del b hb
  exact⟨h1,vs,le.lst b vs h1 h2⟩
 by_cases q:m=n
 .subst q
  rw[MW.o6 hn] at R;cases R;rw[ha] at hb;cases hb;exact ho le
 .rw[MW.jc (jh q)] at R
  have z:=S.obj m o' b R hb;have nb:b≠a:=λe=>by subst e;obtain⟨l1,e1⟩:=ak.mp hb;obtain⟨l2,e2⟩:=ak.mp ha;exact q ((xq S.nd).mp (e1.trans e2.symm))
  exact z.move le (by rw[jy nb])
def aok(Z:H D=none):Tr K G H (G.hide D) (upd H D o) :=
 have k:∀{a u},H a=some u->upd H D o a=some u:=λe=>by rw[jy (kj e Z)];exact e
 ⟨λ_ _ e=>k e,λa U e n=>⟨k e,n.1,λm=>by
  rcases dh.mp m with q|q
  .exact kj e Z q
  .exact n.2 q⟩,λ_ _ e=>e.imp (λ⟨q,e⟩=>⟨q,k e⟩) id,λ_ _ e=>e⟩
def ad9(G:H D=some (.lst U))(R:D∈Z.δ):Tr K Z H Z (upd H D (.lst ws)) :=
 have k:∀{a u},a≠D->H a=some u->upd H D (.lst ws) a=some u:=λn e=>by rw[jy n];exact e
 ⟨λ_ _ e=>k (Yz e G (by intro z;cases z)) e,λa U e n=>⟨k (λz=>by subst z;exact n.2 R) e,n⟩,λ_ _ e=>e.imp (λ⟨q,e⟩=>⟨q,k (Yz e G (by intro z;cases z)) e⟩) id,λ_ _ e=>e⟩
def Io.show(Z:Io)(H:Hp)(D:Addr):Tr K (Z.hide D) H Z H:=⟨λ_ _ e=>e,λ_ _ e n=>⟨e,n.1,λm=>n.2 (bu _ m)⟩,λ_ _ e=>e,λ_ _ e=>e⟩
theorem Rep.show(r:Rep K (Z.hide D) H d v):Rep K Z H d v:=r.tr (Z.show H D)
theorem lz.show(r:lz K (Z.hide D) H d v):lz K Z H d v:=r.tr (Z.show H D)
theorem j7.hide(S:j7 nm K ι H M)(Z:H D=none):j7 nm K (ι.hide D) (upd H D (.lst [])) M:=by
 refine⟨S.len,S.nd,λa G=>?_,λn o a hn G=>?_⟩
 .rcases dh.mp G with q|q
  .subst q;exact⟨(S.fresh Z).1,[],qu⟩
  .obtain⟨h1,R,U⟩:=S.del a q
   exact⟨h1,R,by rw[jy (kj U Z)];exact U⟩
 .have z:=S.obj n o a hn G
  obtain⟨u,e,_⟩:=z.some;exact z.tr (aok Z) (by rw[jy (kj e Z)])
def j7.grow(S:j7 nm K G H M)(hD:H D=some (.lst vs))(U:D∈G.δ):j7 nm K G (upd H D (.lst ws)) M:=by
 refine⟨S.len,S.nd,λa Z=>?_,λn o a hn Z=>?_⟩
 .obtain⟨R,us,h2⟩:=S.del a Z
  by_cases z:a=D
  .subst z;exact⟨R,ws,qu⟩
  .exact⟨R,us,by rw[jy z];exact h2⟩
 .have z:=S.obj n o a hn Z
  have ne:a≠D:=λe=>by subst e;exact(S.del a U).1 (bf Z)
  exact z.tr (ad9 hD U) (by rw[jy ne])
theorem j7.show(S:j7 nm K (G.hide D) H M):j7 nm K G H M :=
 ⟨S.len,S.nd,λa Z=>S.del a (bu _ Z),λn o a U Z=>(S.obj n o a U Z).tr (G.show H D) rfl⟩
structure LeD(D:Addr)(ι:Io)(H:Hp)(ι':Io)(H':Hp):Prop where
 ext:∃Y,ι'.l=ι.l++Y/\∀a∈Y,H a=none
 del:ι'.δ=D::ι.δ
 tup:∀a vs,H a=some (.tup vs)->H' a=some (.tup vs)
 Gu:∀a o u,H a=some (.Gu o u)->H' a=some (.Gu o u)
 lst:∀a vs,a∉ι.l->H a=some (.lst vs)->H' a=some (.lst vs)
 dom:∀a,H' a=none->H a=none
def LeD.toX(l:LeD D G H Z H')(U:H D=none):LeX G H Z H':=⟨l.ext,λa h=>by
 rw[l.del] at h;rcases dh.mp h with q|q
 .exact .inr (by rw[q];exact U)
 .exact .inl q,l.tup,l.Gu,l.lst⟩
def LeD.start(Z:H D=none)(o:HO):LeD D U H (U.hide D) (upd H D o) :=
 ⟨⟨[],by simp[Io.hide],by simp⟩,rfl,λa G e=>by rw[jy (kj e Z)];exact e,λa _ _ e=>by rw[jy (kj e Z)];exact e,λa G _ e=>by rw[jy (kj e Z)];exact e,
  λa R=>Ei (λb u e=>⟨u,by rw[jy (kj e Z)];exact e⟩) R⟩
def LeD.go(a:LeD D ι H U H1)(b:Le U H1 R H2):LeD D ι H R H2:=by
 obtain⟨Y,e1,h1⟩:=a.ext;obtain⟨Z,e2,h2⟩:=b.ext;have out:∀x o,x∉ι.l->H x=some o->x∉U.l:=λx o n h m=>by
  rw[e1] at m;rcases cg.mp m with q|q
  .exact n q
  .rw[h1 x q] at h;cases h
 refine⟨⟨Y++Z,by rw[e2,e1,wz],λx m=>?_⟩,b.del.trans a.del,λx G h=>b.tup x G (a.tup x G h),λx o u h=>b.Gu x o u (a.Gu x o u h),λx G n h=>b.lst x G (out x _ n h) (a.lst x G n h),λx h=>a.dom x (b.dom x h)⟩;rcases cg.mp m with q|q
 .exact h1 x q
 .exact a.dom x (h2 x q)
def LeD.grow(a:LeD D ι H Z R)(U:H D=none)(hD:R D=some (.lst vs)):LeD D ι H Z (upd R D (.lst ws)) :=
 ⟨a.ext,a.del,λx G h=>by rw[jy (kj h U)];exact a.tup x G h,λx o u h=>by rw[jy (kj h U)];exact a.Gu x o u h,λx G n h=>by rw[jy (kj h U)];exact a.lst x G n h,
  λx h=>a.dom x (by
   by_cases z:x=D
   .rw[z,qu] at h;cases h
   .rw[jy z] at h;exact h)⟩
def LeD.done(a:LeD D G H ⟨Z.l,D::Z.δ⟩ H1):Le G H Z H1 :=
 ⟨a.ext,(yh a.del).2,a.tup,a.Gu,a.lst,a.dom⟩
inductive qj(K:Fg)(ι:Io)(H:Hp):En->St->Prop
 |nil:qj K ι H [] []
 |skp {y:Option V} {ρ:En} {σ:St} (t:qj K ι H ρ σ):qj K ι H (none::ρ) (y::σ)
 |has {d:Dv} {v:V} {ρ:En} {σ:St} (h:Rep K ι H d v) (t:qj K ι H ρ σ):qj K ι H (some d::ρ) (some v::σ)
theorem qj.Gm{K:Fg}{U Z:Io}{H R:Hp}(le:LeX U H Z R):∀{G:En}{σ:St},qj K U H G σ->qj K Z R G σ:=by intro _ _ h;induction h with|nil=>exact .nil|skp t ih=>exact .skp ih|has h t ih=>exact .has (h.Gm le) ih
theorem qj.mono{K:Fg}{U Z:Io}{H R:Hp}(le:Le U H Z R):∀{G:En}{σ:St},qj K U H G σ->qj K Z R G σ:=by intro _ _ h;induction h with|nil=>exact .nil|skp t ih=>exact .skp ih|has h t ih=>exact .has (h.mono le) ih
theorem qj.get{K:Fg}{R:Io}{H:Hp}:∀{U:En}{σ:St}{i:Nat}{d:Dv},qj K R H U σ->U[i]?=some (some d)->∃v,σ[i]?=some (some v)/\Rep K R H d v
 |_,_,_,_,.nil,e=>by simp at e|_,_,0,_,.skp _,e=>by simp at e|_,_,0,_,.has h _,e=>by simp at e;subst e;exact⟨_,rfl,h⟩
 |_,_,i+1,d,.skp t,e=>by
  obtain⟨v,G,Z⟩:=qj.get (i:=i) t (by simpa using e);exact⟨v,by simpa using G,Z⟩
 |_,_,i+1,d,.has _ t,e=>by
  obtain⟨v,G,Z⟩:=qj.get (i:=i) t (by simpa using e);exact⟨v,by simpa using G,Z⟩
theorem qj.set{K:Fg}{Z:Io}{H:Hp}{d:Dv}{v:V}(r:Rep K Z H d v):∀{U:En}{G:St}(i:Nat),qj K Z H U G->qj K Z H (U.set i (some d)) (G.set i (some v))
 |_,_,_,.nil=>.nil|_,_,0,.skp t=>.has r t|_,_,0,.has _ t=>.has r t|_,_,i+1,.skp t=>.skp (qj.set r i t)|_,_,i+1,.has h t=>.has h (qj.set r i t)
theorem qj.length{K:Fg}{U:Io}{H:Hp}:∀{G:En}{Z:St},qj K U H G Z->G.length=Z.length:=by intro _ _ h;induction h with|nil=>rfl|skp _ ih=>rw[d7,d7,ih]|has _ _ ih=>rw[d7,d7,ih]
theorem qj.append{K:Fg}{U:Io}{H:Hp}:∀{R G:En}{σ Z:St},qj K U H R σ->qj K U H G Z->qj K U H (R++G) (σ++Z):=by intro _ _ _ _ h r;induction h with|nil=>exact r|skp t ih=>exact .skp ih|has h t ih=>exact .has h ih
theorem qj.ajx{K:Fg}{G:Io}{H:Hp}:∀(k:Nat){Z:St},Z.length=k->qj K G H (List.replicate k none) Z
 |0,[],_=>.nil|k+1,_::r,h=>.skp (qj.ajx k (by simpa using h))
theorem qj.ajy{K:Fg}{U:Io}{H:Hp}:∀{G:List Dv}{Z:List V},lz K U H G Z->qj K U H (G.map some) (Z.map some)
 |_,_,.nil=>.nil|_,_,.cons h t=>.has h (qj.ajy t)
def dz{r:Res α}(h:r.bind f=.ok b M):∃a Z,r=.ok a Z/\f a Z=.ok b M:=by
 cases r with
 |ok a Z=>exact⟨a,Z,rfl,h⟩|bad=>cases h
def su(h:Res.qx o M=.ok a Z):o=some a/\Z=M:=by
 cases o with
 |none=>cases h|some x=>cases h;exact⟨rfl,rfl⟩
def PE.weak(h:PE X e t)(w:∀Z H Q,t' Z H Q->t Z H Q):PE X e t':=λG s Z H Q I q=>h G s Z H Q I (w Z H Q q)
def PT.weak(h:PT X e t)(w:∀Z H Q,t' Z H Q->t Z H Q):PT X e t':=λG s Z H Q I q=>h G s Z H Q I (w Z H Q q)
def PA.weak(h:PA X es t)(w:∀Z H Q,t' Z H Q->t Z H Q):PA X es t':=λU G s Z H Q I q=>h U G s Z H Q I (w Z H Q q)
def PS.weak(h:PS X e t)(w:∀D Z H,t' D Z H->t D Z H):PS X e t':=λG s Z H D I q=>h G s Z H D I (w D Z H q)
def Nr.weak(h:Nr X e t)(w:∀D Z H,t' D Z H->t D Z H):Nr X e t':=λG s Z H D I q=>h G s Z H D I (w D Z H q)
def Aw.weak(h:Aw X f r)(w:∀x y H Q,r' x y H Q->r x y H Q):Aw X f r':=λZ s U H x y v u Q I R G q=>h Z s U H x y v u Q I R G (w x y H Q q)
section
variable(nm:Nm)(W:Ks)(K:Fg)
def tE(e:Ex):TE:=fun σ H Q=>∃U R M d M',j7 nm K U H M/\qj K U H R σ/\e.den W R M=.ok d M'/\∀Z G v,Le U H Z G->j7 nm K Z G M'->Rep K Z G d v->Q v G
def tQ(e:Ex):TT:=fun σ H Q=>∃G R M b M',j7 nm K G H M/\qj K G H R σ/\e.den W R M=.ok (.bl b) M'/\∀Z U,Le G H Z U->j7 nm K Z U M'->Q b U
def Xv(es:Dd):TA:=fun σ H Q=>∃U ρ M R M',j7 nm K U H M/\qj K U H ρ σ/\es.den W ρ M=.ok R M'/\∀Z G vs,Le U H Z G->j7 nm K Z G M'->lz K Z G R vs->Q vs G
def Tc(D:Ends)(ι:Io)(H:Hp)(R:MW.Flow)(ρ:En)(M:dj):Prop :=
 ∀Z U G,Le ι H Z U->j7 nm K Z U M->qj K Z U ρ G ->
  match R with
  |.next=>D.nx G U|.brk=>D.bk G U|.cont=>D.ct G U|.ret d=>∀v,Rep K Z U d v->D.rt v U
def tS(st:Af):TS:=λD σ H=>∃G R M U Z M',j7 nm K G H M/\qj K G H R σ/\st.den W R M=.ok (U,Z) M'/\Tc nm K D G H U Z M'
def tSs(st:m7):TS:=λD σ H=>∃G R M U Z M',j7 nm K G H M/\qj K G H R σ/\st.den W R M=.ok (U,Z) M'/\Tc nm K D G H U Z M'
end
def PE.of(h:PE X a t)(w:∀σ H Q G U M d M',j7 nm X.K G H M->qj X.K G H U σ->e'.den W U M=.ok d M'->(∀Z H' v,Le G H Z H'->j7 nm X.K Z H' M'->Rep X.K Z H' d v->Q v H')->t σ H Q):PE X a (tE nm W X.K e'):=PE.weak h fun σ H Q z_=>by obtain⟨G,U,M,d,M',S,R,e,q⟩:=z_;exact w σ H Q G U M d M' S R e q
def PT.of(h:PT X a t)(w:∀σ H Q G U M b M',j7 nm X.K G H M->qj X.K G H U σ->e'.den W U M=.ok (.bl b) M'->(∀Z H',Le G H Z H'->j7 nm X.K Z H' M'->Q b H')->t σ H Q):PT X a (tQ nm W X.K e'):=PT.weak h fun σ H Q z_=>by obtain⟨G,U,M,d,M',S,R,e,q⟩:=z_;exact w σ H Q G U M d M' S R e q
def PA.of(h:PA X es t)(w:∀σ H Q G U M ds M',j7 nm X.K G H M->qj X.K G H U σ->qq.den W U M=.ok ds M'->(∀Z H' vs,Le G H Z H'->j7 nm X.K Z H' M'->lz X.K Z H' ds vs->Q vs H')->t σ H Q):PA X es (Xv nm W X.K qq):=PA.weak h fun σ H Q z_=>by obtain⟨G,U,M,d,M',S,R,e,q⟩:=z_;exact w σ H Q G U M d M' S R e q
def PS.of(h:PS X st t)(w:∀D σ H G ρ M U Z M',j7 nm X.K G H M->qj X.K G H ρ σ->s'.den W ρ M=.ok (U,Z) M'->Tc nm X.K D G H U Z M'->t D σ H):PS X st (tS nm W X.K s'):=PS.weak h λD σ H z_=>by obtain⟨G,ρ,M,U,Z,M',S,R,e,q⟩:=z_;exact w D σ H G ρ M U Z M' S R e q
def Nr.of(h:Nr X st t)(w:∀D σ H G ρ M U Z M',j7 nm X.K G H M->qj X.K G H ρ σ->s'.den W ρ M=.ok (U,Z) M'->Tc nm X.K D G H U Z M'->t D σ H):Nr X st (tSs nm W X.K s'):=Nr.weak h λD σ H z_=>by obtain⟨G,ρ,M,U,Z,M',S,R,e,q⟩:=z_;exact w D σ H G ρ M U Z M' S R e q
def one{X:Cx}{M1:dj}(S:j7 nm X.K ι H M)(R:qj X.K ι H ρ σ)(ha:a'.den W ρ M=.ok x M1)(h:∀Z U v,Le ι H Z U->j7 nm X.K Z U M1->qj X.K Z U ρ σ->Rep X.K Z U x v->G v U):tE nm W X.K a' σ H G :=
 ⟨ι,ρ,M,x,M1,S,R,ha,λqq H' v le S' r=>h qq H' v le S' (R.mono le) r⟩
theorem two{X:Cx}{M1 M2:dj}{G:V->V->Hp->Prop}(S:j7 nm X.K ι H M)(R:qj X.K ι H U σ)(ha:a'.den W U M=.ok x M1)(hb:b'.den W U M1=.ok y M2)(h:∀Z H2 v u,Le ι H Z H2->j7 nm X.K Z H2 M2->qj X.K Z H2 U σ->Rep X.K Z H2 x v->Rep X.K Z H2 y u->G v u H2) :
 tE nm W X.K a' σ H λv H1=>tE nm W X.K b' σ H1 λu H2=>G v u H2 :=
 one S R ha λqq H1 v Zf S1 R1 r1=>one S1 R1 hb λZ H2 u yd S2 R2 r2=>h Z H2 v u (Zf.trans yd) S2 R2 (r1.mono yd) r2
set_option tactic.hygienic true in
def az5(G:X.N[i]?=some n)(L:Vis X.env.scope n)(Y:(n==("__debug__" : Str))=false)(Z:(n==("__classdict__" : Str))=false):PE X (.Name n pos) (tE nm W X.K (.var i)) :=
 PE.of (atj G L Y Z) fun σ H Q J ρ M d M' S R e q=>by
  rw[MW.al5] at e;split at e
  .rename_i d' Y
   cases e;obtain⟨v,C,U⟩:=R.get Y;exact⟨v,C,q J H v (Le.refl _ _) S U⟩
  .cases e
def az6:PE X (.Constant (.int i) j pos) (tE nm W X.K (.cst (.int i))) :=
 PE.of atk λU H Q Z ρ M d G S R e q=>by rw[MW.Eg] at e;cases e;exact q Z H _ (Le.refl _ _) S (.int i)
def a7e:PE X (.Constant (.bool i) j pos) (tE nm W X.K (.cst (.bl i))) :=
 PE.of ayp λU H Q Z ρ M d G S R e q=>by rw[MW.Eg] at e;cases e;exact q Z H _ (Le.refl _ _) S (.bl i)
def az7:PE X (.Constant .none j pos) (tE nm W X.K (.cst .non)) :=
 PE.of atl λU H Q Z ρ M d G S R e q=>by rw[MW.Eg] at e;cases e;exact q Z H _ (Le.refl _ _) S .non
def az8:PE X (.Constant (.str i) j pos) (tE nm W X.K (.cst (.str i))) :=
 PE.of atm λU H Q Z ρ M d G S R e q=>by rw[MW.Eg] at e;cases e;exact q Z H _ (Le.refl _ _) S (.str i)
def auy(Z:Gl X n)(U:X.mg n=some (.int i t))(hd:(n==("__debug__" : Str))=false):PE X (.Name n pos) (tE nm W X.K (.cst (.int i))) :=
 PE.of (anc (v:=.int i) Z U ⟨t,rfl⟩ hd) fun σ H Q G ρ M d M' S R e q=>by rw[MW.Eg] at e;cases e;exact q G H _ (Le.refl _ _) S (.int i)
def rOp(R:Nm)(K:Fg)(f:Dv->Dv->dj->Res Dv):R2:=λv u H Q=>∃G M x y d M',j7 R K G H M/\Rep K G H x v/\Rep K G H y u/\f x y M=.ok d M' /\
 ∀Z U w,Le G H Z U->j7 R K Z U M'->Rep K Z U d w->Q w U
def Aw.of(h:Aw X f r)(w:∀v u H Q G M x y d U,j7 nm X.K G H M->Rep X.K G H x v->Rep X.K G H y u->g x y M=.ok d U->(∀Z R w,Le G H Z R->j7 nm X.K Z R U->Rep X.K Z R d w->Q w R)->r v u H Q):Aw X f (rOp nm X.K g) :=
 Aw.weak h λv u H Q z_=>by obtain⟨G,M,x,y,d,U,S,rv,ru,e,q⟩:=z_;exact w v u H Q G M x y d U S rv ru e q
def az9(ho:Aw X (binaryOp op) (rOp nm X.K (MW.zq G)))(ha:PE X a (tE nm W X.K a'))(hb:PE X b (tE nm W X.K b')):PE X (.BinOp a op b pos) (tE nm W X.K (.bin G a' b')) :=
 PE.of (ay4 ho ha hb) fun σ H Q ι ρ M d M' S R e q=>by rw[MW.al6] at e;obtain⟨x,M1,e1,e⟩:=dz e;obtain⟨y,M2,e2,e⟩:=dz e;exact two S R e1 e2 λU H2 v u le S2 _ rv ru=>⟨U,M2,x,y,d,M',S2,rv,ru,e,λZ H' w Vf S' r=>q Z H' w (le.trans Vf) S' r⟩
def a0a:Aw X (binaryOp .Sub) (rOp nm X.K (MW.zq .sub)) :=
 Aw.of at9 λv u H Q G M x y d M' S U Z e q=>by obtain⟨i,j,rfl,rfl,R⟩:=MW.aat e (by intro z;cases z);cases U;cases Z;cases R;exact⟨_,_,rfl,rfl,q G H _ (Le.refl _ _) S (.int _)⟩
def aom{g:Int->Int->Int}{P:Int->Int->Prop}[∀i j,Decidable (P i j)](h:Aw X (binaryOp op) r)(hb:∀x y M,MW.zq U x y M=MW.ii x y (λi j=>if P i j then .ok (.int (g i j)) M else .bad) .bad)(w:∀i j H Q,P i j->Q (.int (g i j)) H->r (.int i) (.int j) H Q):Aw X (binaryOp op) (rOp nm X.K (MW.zq U)) :=
 Aw.of h λv u H Q R M x y d M' S rv ru e q=>by
  rw[hb] at e;obtain⟨i,j,rfl,rfl,Z⟩:=MW.aat e (by intro z;cases z)
  by_cases G:P i j
  .rw[bh G] at Z
   cases rv;cases ru;cases Z;exact w i j H Q G (q R H _ (Le.refl _ _) S (.int _))
  .rw[bj G] at Z;cases Z
def a0b:Aw X (binaryOp .Mod) (rOp nm X.K (MW.zq .mod)):=aom aub (λ_ _ _=>rfl) λi j H Q h q=>⟨_,_,rfl,rfl,h,q⟩
def auz:Aw X (binaryOp .FloorDiv) (rOp nm X.K (MW.zq .fdiv)):=aom ank (λ_ _ _=>rfl) λi j H Q h q=>⟨_,_,rfl,rfl,h,q⟩
def a0c:Aw X (binaryOp .Pow) (rOp nm X.K (MW.zq .pow)):=aom auc (λ_ _ _=>rfl) λi j H Q h q=>⟨_,_,rfl,rfl,⟨h.1,by omega,h.2.2⟩,q⟩
set_option tactic.hygienic true in
def qp{X:Cx}(S:j7 nm X.K Z H M)(r:Rep X.K Z H d v)(h:MW.d8 M d=some ds):∃p vs,v=.ref p/\H p=some (.lst vs)/\lz X.K Z H ds vs:=by
 cases r with
 |vl e n r=>simp[MW.d8] at h;subst h;exact⟨_,_,rfl,e,r⟩
 |ref e =>
  rename_i n p;simp only[MW.d8] at h;split at h<;>simp at h;rename_i G Y;subst h;obtain⟨vs,U,J⟩:=S.obj n _ p Y e;exact⟨p,vs,rfl,U,J⟩
 |_=>simp[MW.d8] at h
def Em{X:Cx}(S:j7 nm X.K R H M)(r:Rep X.K R H d v)(h:MW.j8 M d=some ds):∃p vs,v=.ref p/\(H p=some (.lst vs)\/H p=some (.tup vs))/\lz X.K R H ds vs:=by
 cases r with
 |tup e r=>simp[MW.j8] at h;subst h;exact⟨_,_,rfl,.inr e,r⟩
 |vl e n r =>
  obtain⟨p,vs,U,Z,G⟩:=qp S (.vl e n r) (show MW.d8 M _=_ from h);exact⟨p,vs,U,.inl Z,G⟩
 |ref e =>
  obtain⟨p,vs,U,Z,G⟩:=qp S (.ref e) (show MW.d8 M _=_ from h);exact⟨p,vs,U,.inl Z,G⟩
 |_=>simp[MW.j8,MW.d8] at h
def W7{X:Cx}(S:j7 nm X.K Z H M)(U:H p=none)(r:lz X.K Z H ds G):j7 nm X.K Z (upd H p (.lst G)) M/\Le Z H Z (upd H p (.lst G))/\Rep X.K Z (upd H p (.lst G)) (.vl ds) (.ref p):=by obtain⟨R,le⟩:=S.laid U (.lst G);exact⟨R,le,.vl qu (S.fresh U) (r.mono le)⟩
def Ht{X:Cx}(S:j7 nm X.K Z H M)(R:H p=none)(r:lz X.K Z H ds G):j7 nm X.K Z (upd H p (.tup G)) M/\Le Z H Z (upd H p (.tup G))/\Rep X.K Z (upd H p (.tup G)) (.tup ds) (.ref p):=by obtain⟨U,le⟩:=S.laid R (.tup G);exact⟨U,le,.tup qu (r.mono le)⟩
def aea{X:Cx}(S:j7 nm X.K Z H M)(U:H p=none)(r:lz X.K Z H ds G):j7 nm X.K (Z.add p) (upd H p (.lst G)) (M++[.lst ds])/\Le Z H (Z.add p) (upd H p (.lst G))/\Rep X.K (Z.add p) (upd H p (.lst G)) (.ref M.length) (.ref p):=by
 obtain⟨R,le⟩:=S.new (H':=upd H p (.lst G)) (o:=.lst ds) U (λa u e=>by rw[jy (kj e U)];exact e) λle=>⟨G,qu,r.mono le⟩
 exact⟨R,le,.ref (by show(Z.l++[p])[M.length]?=some p;rw[<- S.len];simp)⟩
def Td:(100000:Nat)<=sizeLine:=by decide
set_option tactic.hygienic true in
def aon(h:MW.zq .add x y M=.ok d M'):(∃i j,x=.int i/\y=.int j/\d=.int (i+j)/\M'=M) \/
 (∃Z Y,x=.tup Z/\y=.tup Y/\Z.length+Y.length<=100000/\d=.tup (Z++Y)/\M'=M) \/
 ∃Z Y,MW.d8 M x=some Z/\MW.d8 M y=some Y/\Z.length+Y.length<=100000/\d=.vl (Z++Y)/\M'=M:=by
 have h:MW.aha x y M=.ok d M':=h;unfold MW.aha at h;split at h<;>try cases h
 .exact .inl ⟨_,_,rfl,rfl,rfl,rfl⟩
 .split at h<;>cases h
  rename_i J;exact .inr (.inl ⟨_,_,rfl,rfl,J,rfl,rfl⟩)
 .split at h
  .split at h<;>cases h
   rename_i C U G;exact .inr (.inr ⟨_,_,C,U,G,rfl,rfl⟩)
  .cases h
def a0d:Aw X (binaryOp .Mult) (rOp nm X.K (MW.zq .mul)):=aom aua (λ_ _ _=>rfl) λi j H Q h q=>⟨_,_,rfl,rfl,h,q⟩
def a0e:Aw X (binaryOp .Add) (rOp nm X.K (MW.zq .add)) :=
 Aw.of (at8.or (auu.or aoe)) λv u H Q ι M x y d M' S rv ru e q=>by
  have Z:∀R ys,MW.d8 M x=some R->MW.d8 M y=some ys->R.length+ys.length<=100000->d=.vl (R++ys)->M'=M->azz v u H Q:=λR ys h1 h2 hl hd hm=>by
   subst hd hm;obtain⟨p,vs,rfl,e1,U⟩:=qp S rv h1;obtain⟨p2,qq,rfl,e2,G⟩:=qp S ru h2;refine⟨p,p2,vs,qq,rfl,rfl,e1,e2,?_,λp3 h3=>?_⟩
   .rw[<- U.length,<- G.length];exact bw hl Td
   .obtain⟨a,b,c⟩:=W7 S h3 (U.append G)
    exact q ι _ _ b a c
  rcases aon e with⟨i,j,rfl,rfl,rfl,rfl⟩|⟨R,ys,rfl,rfl,hl,rfl,rfl⟩|⟨R,ys,h1,h2,hl,h3,h4⟩
  .cases rv;cases ru
   exact .inl ⟨_,_,rfl,rfl,q ι H _ (Le.refl _ _) S (.int _)⟩
  .cases rv with
   |tup e1 U =>
    cases ru with
    |tup e2 G =>
     refine .inr (.inr ⟨_,_,_,_,rfl,rfl,El.of e1,El.of e2,?_,λhn=>?_,λhn=>?_,λp hp=>?_⟩)
     .rw[<- U.length,<- G.length];exact bw hl Td
     .have:=U.length
      rw[hn] at this;rw[List.length_eq_zero_iff.mp this,List.nil_append] at q;exact q ι H _ (Le.refl _ _) S (.tup e2 G)
     .have:=G.length
      rw[hn] at this;rw[List.length_eq_zero_iff.mp this,yl] at q;exact q ι H _ (Le.refl _ _) S (.tup e1 U)
     .obtain⟨a,b,c⟩:=Ht S hp (U.append G)
      exact q ι _ _ b a c
  .exact .inr (.inl (Z _ _ h1 h2 hl h3 h4))
def au0{t:TE}(h:PT X a (λZ H Q=>t Z H λx H1=>∃c,x=.bl c/\Q c H1))(w:∀Z H Q,tE nm W X.K a' Z H Q->t Z H Q):PT X a (tQ nm W X.K a') :=
 PT.of h λZ H Q ι U M b M' S R e q=>w Z H _ ⟨ι,U,M,_,M',S,R,e,λG H' v le S' r=>by cases r;exact⟨b,rfl,q G H' le S'⟩⟩
def a0g(h:PE X a (tE nm W X.K U))(G:∀Z,isTrue a X.env Z=(do let v <- Z;standAt a.pos;holding [v] (truthy v))):PT X a (tQ nm W X.K U) :=
 au0 (atn h G) λ_ _ _ q=>q
def T7(G:Nm)(K:Fg)(U:Cp):R2:=λv u H Q=>∃Z M x y b,j7 G K Z H M/\Rep K Z H x v/\Rep K Z H y u/\MW.Iv U x y M=some b/\Q (.bl b) H
def Zg{X:Cx}:∀G H Q,tE nm W X.K (.cmp U a' b') G H Q->tOp (T7 nm X.K U) (tE nm W X.K a') (tE nm W X.K b') G H Q:=λG H Q hh=>by obtain⟨ι,ρ,M,d,M',S,R,e,q⟩:=hh;rw[MW.Kc] at e;obtain⟨x,M1,e1,e⟩:=dz e;obtain⟨y,M2,e2,e⟩:=dz e;obtain⟨e,rfl⟩:=su e;obtain⟨b,e3,rfl⟩:=bx.mp e;exact two S R e1 e2 λZ H2 v u le S2 _ rv ru=>⟨Z,M',x,y,b,S2,rv,ru,e3,q Z H2 _ le S2 (.bl b)⟩
def a0h(ho:Aw X (compareOp op) (T7 nm X.K Z))(G:PE X a (tE nm W X.K U))(hb:PE X b (tE nm W X.K b'))(R:behindInMarks op b=false):PE X (.Compare a [op] [b] pos) (tE nm W X.K (.cmp Z U b')) :=
 PE.weak (anl ho G hb R) Zg
def a0i(ho:Aw X (compareOp op) (T7 nm X.K Z))(R:PE X a (tE nm W X.K G))(hb:PE X b (tE nm W X.K U))(hm:behindInMarks op b=false):PT X (.Compare a [op] [b] pos) (tQ nm W X.K (.cmp Z G U)) :=
 au0 (t:=tOp (T7 nm X.K Z) (tE nm W X.K G) (tE nm W X.K U)) (anm ho R hb hm) Zg
def Te{X:Cx}:∀σ H Q,tE nm W X.K (.chain op1 op2 a' b' c') σ H Q->Wx (T7 nm X.K op1) (T7 nm X.K op2) (tE nm W X.K a') (tE nm W X.K b') (tE nm W X.K c') σ H Q:=fun σ H Q hh=>by
 obtain⟨ι,ρ,M,d,M',S,R,e,q⟩:=hh;rw[MW.afj] at e;obtain⟨x,M1,e1,e⟩:=dz e;obtain⟨y,M2,e2,e⟩:=dz e;obtain⟨k,Z,e3,e⟩:=dz e;obtain⟨e3,rfl⟩:=su e3;refine two S R e1 e2 λU H2 v u le S2 R2 rv ru=>⟨U,Z,x,y,k,S2,rv,ru,e3,k,rfl,?_⟩
 cases k with
 |false =>
  have e:Res.ok (MW.D.bl false) Z=.ok d M':=e;cases e;exact q U H2 _ le S2 (.bl false)
 |true =>
  have e:((c'.den W ρ Z).bind λz M3=>Res.qx ((MW.Iv op2 y z M3).map MW.D.bl) M3)=.ok d M':=e;obtain⟨z,M3,e4,e⟩:=dz e;obtain⟨e,rfl⟩:=su e;obtain⟨b,e5,rfl⟩:=bx.mp e;show tE nm W X.K c' σ H2 _;exact one S2 R2 e4 λG H3 w Qw S3 _ rw=>⟨G,M',y,z,b,S3,ru.mono Qw,rw,e5,q G H3 _ (le.trans Qw) S3 (.bl b)⟩
def aoo(h1:Aw X (compareOp G) (T7 nm X.K op1))(h2:Aw X (compareOp Z) (T7 nm X.K op2))(U:PE X a (tE nm W X.K R))(hb:PE X b (tE nm W X.K b'))(hc:PE X c (tE nm W X.K c'))(hm:lastMarks [G,Z] [b,c]=false) :
 PE X (.Compare a [G,Z] [b,c] pos) (tE nm W X.K (.chain op1 op2 R b' c')):=PE.weak (ajb h1 h2 U hb hc hm) Te
def aop(h1:Aw X (compareOp U) (T7 nm X.K op1))(h2:Aw X (compareOp G) (T7 nm X.K op2))(ha:PE X a (tE nm W X.K Z))(hb:PE X b (tE nm W X.K R))(hc:PE X c (tE nm W X.K c'))(hm:lastMarks [U,G] [b,c]=false) :
 PT X (.Compare a [U,G] [b,c] pos) (tQ nm W X.K (.chain op1 op2 Z R c')):=au0 (t:=Wx (T7 nm X.K op1) (T7 nm X.K op2) (tE nm W X.K Z) (tE nm W X.K R) (tE nm W X.K c')) (ajc h1 h2 ha hb hc hm) Te
def W8(h:Aw X (compareOp op) (rI0 λi j=>.bl (f i j)))(e:∀x y M,MW.Iv Z x y M=MW.X5 f x y):Aw X (compareOp op) (T7 nm X.K Z) :=
 Aw.weak h λv u H Q hh=>by obtain⟨ι,M,x,y,b,S,R,U,G,q⟩:=hh;rw[e] at G;obtain⟨i,j,rfl,rfl,e2⟩:=MW.aat G (by intro z;cases z);cases R;cases U;cases e2;exact⟨_,_,rfl,rfl,q⟩
def a7g:Aw X (compareOp .Lt) (T7 nm X.K .lt):=W8 ay9 λ_ _ _=>rfl
def a7h:Aw X (compareOp .LtE) (T7 nm X.K .le):=W8 aza λ_ _ _=>rfl
def a7i:Aw X (compareOp .Gt) (T7 nm X.K .gt):=W8 azb λ_ _ _=>rfl
def a7j:Aw X (compareOp .GtE) (T7 nm X.K .ge):=W8 azc λ_ _ _=>rfl
set_option tactic.hygienic true in
def aqy{Z:Ya}(ha:PE X a (tE nm W X.K a'))(hb:PE X (.BoolOp .And (b::Z) pos) (tE nm W X.K b')):PE X (.BoolOp .And (a::b::Z) pos) (tE nm W X.K (.and a' b')) :=
 PE.of (atq ha hb) fun σ H Q ι ρ M d M' S R e q=>by
  rw[MW.xg] at e;obtain⟨x,M1,U,e⟩:=dz e;refine one S R U λY H1 v le J C r=>?_
  cases r<;>try cases e
  rename_i k;refine⟨k,rfl,?_⟩;cases k with
  |false=>cases e;exact q Y H1 _ le J (.bl false)|true=>exact one J C e λG H2 w yd L _ r2=>q G H2 w (le.trans yd) L r2
set_option tactic.hygienic true in
def a0j{Z:Ya}(ha:PE X a (tE nm W X.K a'))(hb:PE X (.BoolOp .Or (b::Z) pos) (tE nm W X.K b')):PE X (.BoolOp .Or (a::b::Z) pos) (tE nm W X.K (.or a' b')) :=
 PE.of (ayt ha hb) fun σ H Q ι ρ M d M' S R e q=>by
  rw[MW.aau] at e;obtain⟨x,M1,U,e⟩:=dz e;refine one S R U λY H1 v le J C r=>?_
  cases r<;>try cases e
  rename_i k;refine⟨k,rfl,?_⟩;cases k with
  |true=>cases e;exact q Y H1 _ le J (.bl true)|false=>exact one J C e λG H2 w yd L _ r2=>q G H2 w (le.trans yd) L r2
def a0k(U:PE X a (tE nm W X.K a')):PE X (.UnaryOp .Not a pos) (tE nm W X.K (.not a')) :=
 PE.of (atr U) fun σ H Q ι ρ M d M' S R e q=>by
  rw[MW.ach] at e;obtain⟨x,M1,e1,e⟩:=dz e;refine one S R e1 λZ H1 v le G R1 r=>?_
  cases r<;>try cases e
  exact⟨_,rfl,q Z H1 _ le G (.bl _)⟩
def W9{X:Cx}{M1:dj}(S:j7 nm X.K ι H M)(R:qj X.K ι H ρ σ)(ha:a'.den W ρ M=.ok (.bl k) M1)(h:∀Z U,Le ι H Z U->j7 nm X.K Z U M1->qj X.K Z U ρ σ->G k U):tQ nm W X.K a' σ H G :=
 ⟨ι,ρ,M,k,M1,S,R,ha,λqq H' le S'=>h qq H' le S' (R.mono le)⟩
set_option tactic.hygienic true in
def aqz{rest:Ya}(L:PT X a (tQ nm W X.K a'))(hb:PW X (.BoolOp .And (b::rest) pos) (tQ nm W X.K b')):PW X (.BoolOp .And (a::b::rest) pos) (tQ nm W X.K (.and a' b')) :=
 λZ Y s σ H Q I ⟨ι,ρ,M,d,M',S,R,e,q⟩=>atp L hb Z Y s σ H Q I (by
  rw[MW.xg] at e;obtain⟨x,M1,e1,e⟩:=dz e;cases x<;>try cases e
  rename_i k;refine W9 S R e1 λG H1 le U R1=>?_
  cases k with
  | false=>cases e;exact q G H1 le U|true=>exact W9 U R1 e λJ H2 C S2 _=>q J H2 (le.trans C) S2)
set_option tactic.hygienic true in
def a0l{rest:Ya}(L:PT X a (tQ nm W X.K a'))(hb:PW X (.BoolOp .Or (b::rest) pos) (tQ nm W X.K b')):PW X (.BoolOp .Or (a::b::rest) pos) (tQ nm W X.K (.or a' b')) :=
 λZ Y s σ H Q I ⟨ι,ρ,M,d,M',S,R,e,q⟩=>ayq L hb Z Y s σ H Q I (by
  rw[MW.aau] at e;obtain⟨x,M1,e1,e⟩:=dz e;cases x<;>try cases e
  rename_i k;refine W9 S R e1 λG H1 le U R1=>?_
  cases k with
  | true=>cases e;exact q G H1 le U|false=>exact W9 U R1 e λJ H2 C S2 _=>q J H2 (le.trans C) S2)
def a0m(U:PT X a (tQ nm W X.K a')):PT X (.UnaryOp .Not a pos) (tQ nm W X.K (.not a')) :=
 PT.of (ai4 U) fun σ H Q ι ρ M d M' S R e q=>by
  rw[MW.ach] at e;obtain⟨x,M1,e1,e⟩:=dz e;cases x<;>try cases e
  exact W9 S R e1 λZ H1 le G R1=>q Z H1 le G
def aeb:PA X [] (Xv nm W X.K .nil):=PA.of aui fun σ H Q Z U M G M' S R e q=>by rw[MW.Bk] at e;cases e;exact q Z H _ (Le.refl _ _) S .nil
def Ud{X:Cx}{M1:dj}(S:j7 nm X.K ι H M)(R:qj X.K ι H ρ σ)(ha:es'.den W ρ M=.ok ds M1)(h:∀Z U vs,Le ι H Z U->j7 nm X.K Z U M1->qj X.K Z U ρ σ->lz X.K Z U ds vs->G vs U):Xv nm W X.K es' σ H G :=
 ⟨ι,ρ,M,ds,M1,S,R,ha,λqq H' v le S' r=>h qq H' v le S' (R.mono le) r⟩
def Xa(ha:PE X a (tE nm W X.K a'))(hr:PA X es (Xv nm W X.K Z))(hs:starEach (a::es) X.env=(false,eval a X.env)::starEach es X.env):PA X (a::es) (Xv nm W X.K (.cons a' Z)) :=
 PA.of (anr ha hr hs) fun σ H Q ι ρ M ds M' S R e q=>by rw[MW.Ag] at e;obtain⟨x,M1,e1,e⟩:=dz e;obtain⟨xs,M2,e2,e⟩:=dz e;cases e;exact one S R e1 λqq H1 v le S1 R1 r1=>Ud S1 R1 e2 λG H2 vs U S2 R2 r2=>q G H2 _ (le.trans U) S2 (.cons (r1.mono U) r2)
noncomputable def Dd.len:Dd->Nat
 |.nil=>0|.cons _ r=>Dd.len r+1
theorem G8{W:Ks}:∀{Z:Dd}{R:En}{M U:dj}{G:List Dv},Z.den W R M=.ok G U->G.length=Dd.len Z
 |.nil,_,_,_,_,e=>by rw[MW.Bk] at e;cases e;rfl
 |.cons _ r,_,_,_,_,e=>by
  rw[MW.Ag] at e;obtain⟨x,U,e1,e⟩:=dz e;obtain⟨xs,M2,e2,e⟩:=dz e;cases e;rw[d7,G8 e2];rfl
def a0n(h:PA X es (Xv nm W X.K Z))(hl:Dd.len Z<=1000):PE X (.Tuple es k pos) (tE nm W X.K (.tup Z)) :=
 PE.of (auj h) fun σ H Q ι ρ M d M' S R e q=>by
  rw[MW.al8] at e;obtain⟨ds,M1,U,e⟩:=dz e;cases e;refine Ud S R U λG H1 vs le S1 R1 r=>⟨?_,λp hp=>?_⟩
  .rw[<- r.length,G8 U];exact bw hl (by decide)
  .obtain⟨S2,yd,r2⟩:=Ht S1 hp r
   exact q G _ _ (le.trans yd) S2 r2
def au2(h:PA X es (Xv nm W X.K Z))(hl:Dd.len Z<=1000):PE X (.List es pos) (tE nm W X.K (.Ir Z)) :=
 PE.of (ajh h) fun σ H Q ι ρ M d M' S R e q=>by
  rw[MW.Jb] at e;obtain⟨ds,M1,U,e⟩:=dz e;cases e;refine Ud S R U λG H1 vs le S1 R1 r=>⟨?_,λp hp=>?_⟩
  .rw[<- r.length,G8 U];exact bw hl (by decide)
  .obtain⟨S2,yd,r2⟩:=W7 S1 hp r
   exact q G _ _ (le.trans yd) S2 r2
def a0o(h:PA X es (Xv nm W X.K Z))(hl:Dd.len Z<=1000):PE X (.List es pos) (tE nm W X.K (.lst Z)) :=
 PE.of (ajh h) fun σ H Q ι ρ M d M' S R e q=>by
  rw[MW.al9] at e;obtain⟨ds,M1,G,e⟩:=dz e;cases e;refine Ud S R G λqq H1 vs le U R1 r=>⟨?_,λp hp=>?_⟩
  .rw[<- r.length,G8 G];exact bw hl (by decide)
  .obtain⟨S2,yd,r2⟩:=aea U hp r
   exact q _ _ _ (le.trans yd) S2 r2
def a0p(U:PE X a (tE nm W X.K a')):PE X (.UnaryOp .USub a pos) (tE nm W X.K (.neg a')) :=
 PE.of (ay5 aud U) fun σ H Q ι ρ M d M' S R e q=>by
  rw[MW.al7] at e;obtain⟨x,M1,e1,e⟩:=dz e;refine one S R e1 λZ H1 v le G R1 r=>?_
  cases r<;>try cases e
  exact⟨_,rfl,q Z H1 _ le G (.int _)⟩
open PyProof.Rows (subscriptTail)
section
variable{κ:Type}[DecidableEq κ]{K:Fg}{ι:Io}{H:Hp}
theorem oh.length{κ Z:Type}{f:κ->Z->Prop}:∀{l:List (κ×Dv)}{G:List (Z×V)},oh K ι H f l G->l.length=G.length:=by intro _ _ h;induction h with|nil=>rfl|cons _ _ _ ih=>rw[d7,d7,ih]
theorem oh.look{k:κ}:∀{G:List (κ×Dv)}{l:List (κ×V)},oh K ι H (λk U=>k=U) G l->(∀d,MW.Ac G k=some d->∃v,Nt l k=some v/\Rep K ι H d v)/\(MW.Ac G k=none->Nt l k=none)
 |_,_,.nil=>⟨λd h=>by simp[MW.Ac] at h,λ_=>rfl⟩
 |_,_,.cons (k:=q) (k':=q') hk h t=>by
  subst hk;obtain⟨a,b⟩:=oh.look (k:=k) t
  by_cases e:q=k
  .refine⟨λd Z=>?_,λZ=>?_⟩
   .simp[MW.Ac,jw,e] at Z
    subst Z;exact⟨_,Nu e,h⟩
   .simp[MW.Ac,jw,e] at Z
  .have z:∀(d:Dv) r,MW.Ac ((q,d)::r) k=MW.Ac r k:=λd r=>by simp[MW.Ac,jw,e]
   rw[z,Nv (by exact e)];exact⟨a,b⟩
theorem oh.any{k:κ}:∀{Z:List (κ×Dv)}{l:List (κ×V)},oh K ι H (λk G=>k=G) Z l->(Z.any λkv=>decide (kv.1=k))=(l.any λkv=>decide (kv.1=k))
 |_,_,.nil=>rfl|_,_,.cons hk h t=>by subst hk;simp only[yg,oh.any t]
theorem oh.abp{k:κ}{d:Dv}{v:V}(r:Rep K ι H d v):∀{G:List (κ×Dv)}{l:List (κ×V)},oh K ι H (λk Z=>k=Z) G l ->
 oh K ι H (λk Z=>k=Z) (G.map λkv=>if kv.1=k then(kv.1,d) else kv) (l.map λkv=>if kv.1=k then(kv.1,v) else kv)
 |_,_,.nil=>.nil
 |_,_,.cons (k:=q) hk h t=>by
  subst hk;simp only[cz]
  by_cases e:q=k
  .simp only[e,j6];exact .cons rfl r (oh.abp r t)
  .simp only[e,jj];exact .cons rfl h (oh.abp r t)
theorem oh.snoc{κ Z:Type}{f:κ->Z->Prop}{k:κ}{G:Z}{d:Dv}{v:V}(R:f k G)(r:Rep K ι H d v):∀{l:List (κ×Dv)}{U:List (Z×V)},oh K ι H f l U->oh K ι H f (l++[(k,d)]) (U++[(G,v)])
 |_,_,.nil=>.cons R r .nil|_,_,.cons q h t=>.cons q h (oh.snoc R r t)
def oh.put{k:κ}(r:Rep K ι H d v)(t:oh K ι H (λk Z=>k=Z) G l):oh K ι H (λk Z=>k=Z) (MW.Mf G k d) (putK l k v):=by
 unfold MW.Mf putK;rw[t.any (k:=k)]
 by_cases e:(l.any λkv=>decide (kv.1=k))=true
 .rw[bh e,bh e];exact t.abp r
 .rw[bj e,bj e];exact t.snoc rfl r
theorem oh.fld{nm:Nm}{f:Nat}:∀{fs:List (Nat×Dv)}{l:List (Str×V)},oh K ι H (λk G=>G=nm.fld k) fs l->(∀d,fs.lookup f=some d->∃v,l.lookup (nm.fld f)=some v/\Rep K ι H d v)/\(fs.lookup f=none->l.lookup (nm.fld f)=none)
 |_,_,.nil=>⟨λd h=>by simp at h,λ_=>rfl⟩
 |_,_,.cons (k:=q) (k':=q') hk h t=>by
  subst hk;obtain⟨a,b⟩:=oh.fld (nm:=nm) (f:=f) t;rw[mq,mq]
  by_cases e:f=q
  .subst e
   simp only[yc];exact⟨λd Z=>by cases Z;exact⟨_,rfl,h⟩,λZ=>by cases Z⟩
  .have U:(f==q)=false:=by simpa using e
   have R:(nm.fld f==nm.fld q)=false:=by
    cases z:nm.fld f==nm.fld q with
    |false=>rfl|true=>exact absurd (nm.inj _ _ (eq_of_beq z)) e
   rw[U,R];exact⟨a,b⟩
theorem oh.Gb{Z:Nm}{f:Nat}{d:Dv}{v:V}(r:Rep K ι H d v):∀{fs:List (Nat×Dv)}{l:List (Str×V)},oh K ι H (λk G=>G=Z.fld k) fs l->oh K ι H (λk G=>G=Z.fld k) (MW.Q9 f d fs) (L2.Gb (Z.fld f) v l)
 |_,_,.nil=>.cons rfl r .nil
 |_,_,.cons (k:=q) (k':=q') hk h t=>by
  subst hk;unfold MW.Q9 L2.Gb
  by_cases e:q=f
  .subst e
   simp only[j6];exact .cons rfl r t
  .have U:¬Z.fld q=Z.fld f:=λz=>e (Z.inj _ _ z)
   rw[bj e,bj U];exact .cons rfl h (oh.Gb r t)
def au3(r:Rep K ι H d v)(h:MW.arn d=some k):v=kV k:=by cases r<;>simp[MW.arn] at h<;>subst h<;>rfl
set_option tactic.hygienic true in
theorem ajz:∀{Y:List Dv}{Z:List V}{ks:List Kx},lz K ι H Y Z->MW.aas Y=some ks->Z=ks.map kV
 |_,_,_,.nil,h=>by simp[MW.aas] at h;subst h;rfl
 |_,_,_,.cons r t,h=>by
  simp only[MW.aas] at h;split at h
  .rename_i k G U J
   cases h;rw[au3 r U,ajz t J];rfl
  .cases h
def Ox(r:Rep K ι H d v)(h:MW.Ha d=some ks):∃b,v=.ref b/\H b=some (.tup (ks.map kV)):=by
 cases r with
 |tup e r=>exact⟨_,rfl,by rw[<- ajz r h];exact e⟩|_=>simp[MW.Ha] at h
end
def au4(R:X.A.units+1<cLine):IxR X (λx y H Q=>∃a v,x=.ref a/\Su H a y (some v)/\Q v H):=by intro G Z U s σ H x y v u Q I rx ry h hs;obtain⟨p,z,rfl,g,q⟩:=h;cases rx;exact PyProof.Rows.tail_any (Y7 I g) PySem.F.slot_dict_getitem.lookup (af2 R I g ry λw' s' I' r=>⟨z,H,I',r,q⟩) hs
def a7k(G:Nm)(K:Fg):R2:=λv u H Q=>∃Z M x y d,j7 G K Z H M/\Rep K Z H x v/\Rep K Z H y u/\MW.w5 x y M=some d/\∀w,Rep K Z H d w->Q w H
set_option tactic.hygienic true in
def au5(hu:X.A.units+1<cLine):IxR X (a7k nm X.K):=by
 intro Z Y G s σ H v u v' u' Q I rv ru ⟨ι,M,x,y,d,S,rx,ry,e,q⟩ hs;have C:∀(p:Addr)(U:List V)(R:List Dv),v=.ref p->(Dt X.K H p U\/El X.K H p U)->lz X.K ι H R U->(match y with|.int i=>(MW.Q7 R.length i).bind λj=>R[j]?|_=>none)=some d ->
  wpAny (model X.prog X.w) X.A (subscriptTail Z Y v' u') (EP X G σ Q) X.xe s:=λp U R hv hq r e=>by
  subst hv;obtain⟨i,qk⟩:∃i,y=.int i:=by cases y<;>first|exact⟨_,rfl⟩|cases e
  subst qk;cases ry;obtain⟨j,J,e2⟩:=ir.mp e;obtain⟨z,h1,L⟩:=r.get e2;have qq:atI U i=some z:=by unfold atI;rw[show ixN U.length i=some j from by rw[<- r.length];exact J];exact h1
  rcases hq with hq|hq
  .exact L2.Ah Z Y G s σ H _ _ v' u' Q I rv ru ⟨p,U,i,z,rfl,rfl,hq,qq,q z L⟩ hs
  .exact L2.Oh Z Y G s σ H _ _ v' u' Q I rv ru ⟨p,U,i,z,rfl,rfl,hq,qq,q z L⟩ hs
 cases rx with
 |tup J r1=>exact C _ _ _ rfl (.inr (El.of J)) r1 (by cases ry<;>first|exact e|(simp[MW.w5,MW.ixL,MW.j8] at e))
 |vl J n1 r1=>exact C _ _ _ rfl (.inl (Dt.of J)) r1 (by cases ry<;>first|exact e|(simp[MW.w5,MW.ixL,MW.j8,MW.d8] at e))
 |fz J r1=>exact C _ _ _ rfl (.inl J.sq) r1 (by cases ry<;>first|exact e|(simp[MW.w5,MW.ixL] at e))
 |ref J =>
  rename_i n p;simp only[MW.w5] at e;split at e
  .rename_i m9 hn
   obtain⟨l,h1,L⟩:=S.obj n _ p hn J;obtain⟨k,e2,e3⟩:=ir.mp e;obtain⟨z,h3,h4⟩:=(L.look (k:=k)).1 d e3;obtain⟨b,rfl,hb⟩:=Ox ry e2;exact au4 hu Z Y G s σ H _ _ v' u' Q I rv ru ⟨p,z,rfl,.inr ⟨l,k,b,.inl h1,rfl,hb,h3.symm⟩,q z h4⟩ hs
  .cases hl:MW.d8 M (.ref n) with
   |none=>rw[hl] at e;cases e
   |some R =>
    obtain⟨p',U,hp,h1,L⟩:=qp S (.ref J) hl;cases hp;rw[hl] at e;exact C _ _ _ rfl (.inl (Dt.of h1)) L (by cases ry<;>first|exact e|cases e)
 |_=>simp[MW.w5,MW.ixL,MW.j8,MW.d8] at e
def a7l(U:X.A.units+1<cLine)(ha:PE X a (tE nm W X.K a'))(hb:PE X b (tE nm W X.K b'))(hs:W0 b):PE X (.Subscript a b pos) (tE nm W X.K (.ix a' b')) :=
 PE.of (azr (au5 (nm:=nm) U) ha hb hs) fun σ H Q ι ρ M d M' S R e q=>by rw[MW.aav] at e;obtain⟨x,M1,e1,e⟩:=dz e;obtain⟨y,M2,e2,e⟩:=dz e;obtain⟨e,rfl⟩:=su e;exact two S R e1 e2 λZ H2 v u le G _ rv ru=>⟨Z,M',x,y,d,G,rv,ru,e,λw r=>q Z H2 w le G r⟩
set_option tactic.hygienic true in
def a0q(hn:n=nm.fld f)(G:∀c C,nm.cls c=some C->Cls X.K C/\Dz X.K C n)(ha:PE X a (tE nm W X.K a'))(hb:attributeBase a n X.env (eval a X.env)=eval a X.env):PE X (.Attribute a n pos) (tE nm W X.K (.fld a' f)) :=
 PE.of (auf ha hb) fun σ H Q ι ρ M d M' S R e q=>by
  rw[MW.ama] at e;obtain⟨x,M1,U,e⟩:=dz e;obtain⟨e,rfl⟩:=su e;refine one S R U λZ H1 v le J R1 r=>?_
  obtain⟨m,Y⟩:∃m,x=.ref m:=by cases x<;>first|exact⟨_,rfl⟩|cases e
  subst Y;obtain⟨p,rfl,hp⟩:∃p,v=.ref p/\Z.l[m]?=some p:=by cases r with|ref z=>exact⟨_,rfl,z⟩
  simp only[MW.Gw] at e;split at e
  .rename_i c fs hm
   obtain⟨C,dx,l,h1,L,h3⟩:=J.obj m _ p hm hp;obtain⟨z,h4,h5⟩:=(h3.fld (nm:=nm) (f:=f)).1 d e;subst hn;obtain⟨g1,g2⟩:=G c C h1;exact⟨p,C,dx,l,z,rfl,L,g1,g2,h4,q Z H1 z le J h5⟩
  .cases e
open MW (Ex Dd OEx Lh Af m7 Lv Tg Res dj MO Ks Cp Op2 Blt Bm Kx Src)
noncomputable def Oz:Expr->Bool
 |.ListComp ..=>false|.SetComp ..=>false|.DictComp ..=>false|_=>true
def Jz(h:Oz e=true)(t:Option Expr)(l:Nat)(Z:Env):swapsWith e t l Z=pure false:=by cases e<;>first|rfl|(cases h)
noncomputable def Ge:Expr->Bool
 |.Set ..=>false|_=>true
def Cu(h:Ge e=true)(Z:Env)(x:Value):foldedSetIterable e Z x=pure x:=by cases e<;>first|rfl|(cases h)
def Qc(h:Ge e=true)(Z:CmpOp):behindInMarks Z e=false:=by cases e<;>first|rfl|(cases h)
noncomputable def aq0:Expr->Bool
 |.Tuple ..=>false|_=>true
noncomputable def noStar:Expr->Bool
 |.Starred ..=>false|_=>true
def qg(h:noStar e=true)(Z:Ya)(env:Env):starEach (e::Z) env=(false,eval e env)::starEach Z env:=by cases e<;>first|rfl|(cases h)
noncomputable def Xb:Expr->Bool
 |.Slice ..=>false|_=>true
def aj0(h:Xb e=true):W0 e:=by intro o i;cases e<;>first|rfl|(cases h)
noncomputable def zc:Tg->List Nat
 |.name i=>[i]|.names is=>is
def tGt(nm:Nm)(K:Fg)(t:Tg):TG:=λv R H Q=>∃U ρ M d G,j7 nm K U H M/\qj K U H ρ R/\Rep K U H d v/\t.put d ρ=some G/\∀Z,qj K U H G Z->Z.length=R.length->(∀j,j∉zc t->Z[j]?=R[j]?)->Q Z H
def PG.weak(h:PG X tg t)(w:∀v Z H Q,t' v Z H Q->t v Z H Q):PG X tg t':=λG s Z H v u Q I r q=>h G s Z H v u Q I r (w v Z H Q q)
def PG.of(h:PG X tg t)(w:∀v σ H Q U ρ M d G,j7 nm X.K U H M->qj X.K U H ρ σ->Rep X.K U H d v->tt.put d ρ=some G->(∀Z,qj X.K U H G Z->Z.length=σ.length->(∀j,j∉zc tt->Z[j]?=σ[j]?)->Q Z H)->t v σ H Q):PG X tg (tGt nm X.K tt) :=
 PG.weak h λv σ H Q z_=>by obtain⟨U,ρ,M,d,G,S,R,r,e,q⟩:=z_;exact w v σ H Q U ρ M d G S R r e q
def au6(Z:X.N.Nodup)(hi:X.N[i]?=some n)(G:Loc X.env.scope n)(hf:X.fn n=true\/X.env.scope.names.lookup n=some .local):PG X (.Name n pos) (tGt nm X.K (.name i)) :=
 PG.of (Wv Z hi G hf) λv σ H Q ι ρ M d qq S R r e q=>by cases e;exact q _ (R.set r i) (by simp) λj U=>rz (λz=>U (by simp[zc,z]))
noncomputable def Hu:List Nat->List V->St->St
 |i::is,v::vs,σ=>Hu is vs (σ.set i (some v))|_,_,σ=>σ
theorem Tf{Z:Io}{H:Hp}{K:Fg}:∀{is:Y3}{U:List Dv}{G:List V}{ρ:En}{σ:St},qj K Z H ρ σ->lz K Z H U G->qj K Z H (MW.Gr is U ρ) (Hu is G σ)
 |[],_,_,_,_,R,r=>by cases r<;>exact R|_::_,_,_,_,_,R,.nil=>R|i::is,_,_,_,_,R,.cons h t=>Tf (is:=is) (R.set h i) t
theorem Ny:∀{is:Y3}{G:List V}{Z:St}{j:Nat},j∉is->(Hu is G Z)[j]?=Z[j]?
 |[],G,Z,j,_=>by cases G<;>rfl|i::is,[],Z,j,_=>rfl
 |i::is,v::G,Z,j,h=>by
  show(Hu is G (Z.set i (some v)))[j]?=_;rw[Ny (λz=>h (bu _ z)),rz (λz=>h (by rw[z];exact bz))]
theorem Qd:∀{is:Y3}{G:List V}{Z:St},(Hu is G Z).length=Z.length
 |[],G,Z=>by cases G<;>rfl|_::_,[],Z=>rfl|i::is,v::G,Z=>by show(Hu is G (Z.set i (some v))).length=_;rw[Qd,ym]
inductive Hv(X:Cx):List Expr->List Nat->Prop
 |nil:Hv X [] []
 |cons {n:Str} {p:Pos} {i:Nat} {ts:Ya} {is:Y3} (hi:X.N[i]?=some n) (hx:Loc X.env.scope n) (hf:X.fn n=true\/X.env.scope.names.lookup n=some .local) (t:Hv X ts is):Hv X (.Name n p::ts) (i::is)
theorem Zh{X:Cx}(hN:X.N.Nodup):∀{ts:Ya}{is:Y3},Hv X ts is->PGs X ts (λG U H Q=>G.length=is.length/\Q (Hu is G U) H)
 |_,_,.nil=>λZ s U H G us Q I r q=>by
  obtain⟨R,h2⟩:=q;have hv:G=[]:=List.length_eq_zero_iff.mp R;subst hv;exact anh Z s U H [] us Q I r ⟨rfl,h2⟩
 |_,_,.cons hi hx hf t=>λZ s U H G us Q I r q=>by
  obtain⟨R,h2⟩:=q;cases G with
  |nil=>simp at R|cons v G=>exact ai6 (Wv hN hi hx hf) (Zh hN t) (by rfl) Z s U H (v::G) us Q I r ⟨v,G,rfl,by simpa using R,h2⟩
theorem Dh{X:Cx}{env:Env}:∀{Z:Ya}{is:Y3},Hv X Z is->(assignEach Z env).length=is.length/\(assignEach Z env).findIdx? (·.1)=none
 |_,_,.nil=>⟨rfl,rfl⟩
 |_,_,.cons hi hx hf t=>by
  obtain⟨U,G⟩:=Dh (env:=env) t;refine⟨by simp[assignEach,U],?_⟩;simp[assignEach,List.findIdx?_cons];simpa using G
set_option tactic.hygienic true in
def aoq(U:X.calm=true)(J:X.N.Nodup)(h:Hv X G is):PG X (.Tuple G k pos) (tGt nm X.K (.names is)) :=
 PG.of (atx U (Zh J h) (Dh h).1 (Dh h).2) λv σ H Q ι ρ M d qq S R r e q=>by
  cases r with
  |tup L Z =>
   simp only[Tg.put] at e;split at e<;>cases e;rename_i Y;exact⟨_,_,rfl,El.of L,by rw[<- Z.length];exact Y,by rw[<- Z.length];exact Y,q _ (Tf R Z) Qd λj C=>Ny C⟩
  |_=>simp[Tg.put] at e
def aj1(he:PE X a (tE nm W X.K a'))(hg:PG X tg (tGt nm X.K t))(hs:swapsWithSole [tg] a pos.line X.env=pure false)(hw:swappedStores [tg] a X.env=pure none)(h1:(assignEach [tg] X.env).map (·.2)=[assign tg X.env]) :
 PS X (.Assign [tg] a pos) (tS nm W X.K (.asg (.tg t) a')) :=
 PS.of (ai7 he hg hs hw h1) λD σ H ι ρ M fl U M' S R e q=>by rw[MW.V1] at e;obtain⟨x,M1,e1,e⟩:=dz e;obtain⟨qq,M2,e2,e⟩:=dz e;cases e;rw[MW.aaw] at e2;obtain⟨e3,e4⟩:=su e2;subst e4;exact one S R e1 λZ H1 v le S1 R1 r=>⟨Z,ρ,_,x,U,S1,R1,r,e3,λG R' _ _=>q Z H1 G le S1 R'⟩
def au7(he:PE X a (tE nm W X.K a'))(hs:swapsWith a none pos.line X.env=pure false):PS X (.Expr a pos) (tS nm W X.K (.expr a')) :=
 PS.of (ang he hs) λD σ H ι ρ M fl qq M' S R e q=>by rw[MW.acn] at e;obtain⟨x,M1,e1,e⟩:=dz e;cases e;exact one S R e1 λZ U v le G R1 r=>q Z U σ le G R1
def a0s(he:PE X a (tE nm W X.K a')):PS X (.Return (some a) pos) (tS nm W X.K (.ret a')) :=
 PS.of (atu he) λD σ H ι ρ M fl qq M' S R e q=>by rw[MW.arx] at e;obtain⟨x,M1,e1,e⟩:=dz e;cases e;exact one S R e1 λZ U v le G R1 r=>q Z U σ le G R1 v r
def Tc.mono{X:Cx}(le:Le ι H Z H')(q:Tc nm X.K D ι H fl ρ M):Tc nm X.K D Z H' fl ρ M:=λU H2 G R S2 R2=>q U H2 G (le.trans R) S2 R2
set_option tactic.hygienic true in
def a0t(hc:PT X c (tQ nm W X.K c'))(ht:Nr X ts (tSs nm W X.K G))(hf:Nr X fs (tSs nm W X.K J)):PS X (.If c ts fs pos) (tS nm W X.K (.iff c' G J)) :=
 PS.of (ayx hc ht hf) λD σ H ι ρ M U Y M' S R e q=>by
  rw[MW.arv] at e;obtain⟨x,C,e1,e⟩:=dz e;cases x<;>try cases e
  rename_i k;refine W9 S R e1 λZ H1 le L R1=>?_
  cases k with
  |true=>exact⟨Z,ρ,C,U,Y,M',L,R1,e,q.mono le⟩|false=>exact⟨Z,ρ,C,U,Y,M',L,R1,e,q.mono le⟩
def au8:Nr X [] (tSs nm W X.K .nil):=Nr.of anf λD U H Z ρ M fl G M' S R e q=>by rw[MW.amb] at e;cases e;exact q Z H U (Le.refl _ _) S R
def aor{G:List Stmt}(h1:PS X st (tS nm W X.K qv))(h2:Nr X G (tSs nm W X.K rest')):Nr X (st::G) (tSs nm W X.K (.cons qv rest')) :=
 Nr.of (ai5 h1 h2) λD σ H ι ρ M fl q0 M' S R e q=>by
  rw[MW.Yc] at e;obtain⟨⟨qq,qk⟩,M1,e1,e⟩:=dz e;refine⟨ι,ρ,M,qq,qk,M1,S,R,e1,λZ H1 U le S1 R1=>?_⟩;cases qq with
  |next=>exact⟨Z,qk,M1,fl,q0,M',S1,R1,e,q.mono le⟩|brk=>cases e;exact q Z H1 U le S1 R1|cont=>cases e;exact q Z H1 U le S1 R1|ret d=>cases e;exact q Z H1 U le S1 R1
set_option tactic.hygienic true in
def aq1(hp:PassesOwn (model X.prog X.w) X.A X.env X.xe)(hc:PT X c (tQ nm W X.K c'))(hb:Nr X body (tSs nm W X.K Th)):PS X (.While c body [] pos) (tS nm W X.K (.whl c' Th)) :=
 PS.of (ai8 hp hc hb) λD σ H ι ρ M fl q0 M' S R e q=>by
  rw[MW.Li] at e;refine⟨λm L H1=>∃J U M1,Le ι H J H1/\j7 nm X.K J H1 M1/\qj X.K J H1 U L/\MW.Ay (c'.den W) (Th.den W) m U M1=.ok (fl,q0) M',⟨MW.Rb,ι,ρ,M,Le.refl _ _,S,R,e⟩,?_⟩;rintro m L H1 ⟨J,U,M1,Zf,S1,R1,Y⟩;cases m with
  |zero=>cases Y
  |succ m =>
   simp only[MW.Ay] at Y;obtain⟨x,M2,e2,Y⟩:=dz Y;cases x<;>try cases Y
   rename_i k;refine W9 S1 R1 e2 λq1 H2 yd S2 R2=>?_
   cases k with
   |false=>cases Y;exact q q1 H2 L (Zf.trans yd) S2 R2
   |true =>
    obtain⟨⟨qk,qq⟩,M3,e3,Y⟩:=dz Y;refine⟨λG H4=>∃Z qv M4,Le ι H Z H4/\j7 nm X.K Z H4 M4/\qj X.K Z H4 qv G/\MW.Ay (c'.den W) (Th.den W) m qv M4=.ok (fl,q0) M',λG H4 h4=>⟨m,qw _,h4⟩,q1,U,M2,qk,qq,M3,S2,R2,e3,λZ H4 G C S4 R4=>?_⟩;cases qk with
    |next=>exact⟨Z,qq,M3,(Zf.trans yd).trans C,S4,R4,Y⟩|cont=>exact⟨Z,qq,M3,(Zf.trans yd).trans C,S4,R4,Y⟩|brk=>cases Y;exact q Z H4 G ((Zf.trans yd).trans C) S4 R4|ret d=>cases Y;exact q Z H4 G ((Zf.trans yd).trans C) S4 R4
def aga(nm:Nm)(K:Fg)(ι:Io)(H:Hp)(s:Src)(J:It):Prop:=∀Z G U,LeX ι H Z G->j7 nm K Z G U ->
 (∀i d,i<s.len->s.item i U=some d->J.go i G/\∀v R,J.yld i G v R->Le Z G Z R/\j7 nm K Z R U/\Rep K Z R d v)/\(s.fin U=true->J.stop s.len G)
def tI(U:Nm)(W:Ks)(K:Fg)(it:Lh):TI:=fun σ H R=>∃ι ρ M s M',j7 U K ι H M/\qj K ι H ρ σ/\it.den W ρ M=.ok s M'/\∀Z G J,Le ι H Z G->j7 U K Z G M'->aga U K Z G s J->R J G
set_option tactic.hygienic true in
def a0v(hp:PassesOwn (model X.prog X.w) X.A X.env X.xe)(hc:X.calm=true)(hi:PI X tg iter (tI nm W X.K it))(hg:PG X tg (tGt nm X.K t))(hb:Nr X body (tSs nm W X.K Th))(hs:Ge iter=true):PS X (.For tg iter body [] pos) (tS nm W X.K (.for_ t it Th)) :=
 PS.of (at4 hp hc hi hg hb (Cu hs X.env)) λD σ H ι ρ M fl G M' S R e q=>by
  rw[MW.ahk] at e;obtain⟨s,M1,e1,e⟩:=dz e;refine⟨ι,ρ,M,s,M1,S,R,e1,λq0 H1 J Zf S1 sj=>?_⟩;refine⟨λi m q1 H2=>m=s.len-i/\i<=s.len/\∃Y L M2,Le q0 H1 Y H2/\j7 nm X.K Y H2 M2/\qj X.K Y H2 L q1/\MW.Bg s.fin s.item (λd ρ M=>match t.put d ρ with|some G=>Th.den W G M|none=>.bad) m i L M2=.ok (fl,G) M',
   ⟨s.len,rfl,ie _,q0,ρ,M1,Le.refl _ _,S1,R.mono Zf,e⟩,?_⟩
  rintro i m q1 H2 ⟨hm,q9,Y,L,M2,yd,S2,R2,U⟩;obtain⟨go,q4⟩:=sj Y H2 M2 yd.toX S2;cases m with
  |zero =>
   simp only[MW.Bg] at U;split at U<;>cases U;rename_i Rf;have hi:i=s.len:=by lia
   subst hi;exact .inl ⟨q4 Rf,q Y H2 q1 (Zf.trans yd) S2 R2⟩
  |succ m =>
   simp only[MW.Bg] at U;split at U
   .cases U
   .rename_i d hd
    obtain⟨⟨q2,qv⟩,M3,e3,U⟩:=dz U;obtain⟨g1,g2⟩:=go i d (by omega) hd;refine .inr ⟨g1,λC H4=>∃Z qk M4,Le q0 H1 Z H4/\j7 nm X.K Z H4 M4/\qj X.K Z H4 qk C/\MW.Bg s.fin s.item (λd ρ M=>match t.put d ρ with|some G=>Th.den W G M|none=>.bad) m (i+1) qk M4=.ok (fl,G) M',
     λC H4 ⟨Z,qk,M4,h4⟩=>⟨m,qw _,by omega,by omega,Z,qk,M4,h4⟩,λv H3 yv=>?_⟩
    obtain⟨Qw,S3,r3⟩:=g2 v H3 yv;split at e3
    .rename_i q3 q5
     refine⟨Y,L,M2,d,q3,S3,R2.mono Qw,r3,q5,λq7 R5 _ _=>⟨Y,q3,M2,q2,qv,M3,S3,R5,e3,λZ H4 C q6 S4 R4=>?_⟩⟩;have qq:=(yd.trans Qw).trans q6;cases q2 with
     |next=>exact⟨Z,qv,M3,qq,S4,R4,U⟩|cont=>exact⟨Z,qv,M3,qq,S4,R4,U⟩|brk=>cases U;exact q Z H4 C (Zf.trans qq) S4 R4|ret d=>cases U;exact q Z H4 C (Zf.trans qq) S4 R4
    .cases e3
section
variable{nm:Nm}{W:Ks}{X:Cx}{a b c:Expr}{a' b' c':Ex}{pos pos':Pos}{ι:Io}{H:Hp}{σ:St}{ρ:En}{M M1 M2:dj}{x y:Dv}{es:Ya}{es':Dd}{tg iter elt:Expr}
def PI.weak(h:PI X tg iter G)(w:∀σ H R,wi' σ H R->G σ H R):PI X tg iter wi':=λZ s σ H R I q=>h Z s σ H R I (w σ H R q)
def PI.of(h:PI X tg iter wi)(w:∀σ H G ι ρ M s U,j7 nm X.K ι H M->qj X.K ι H ρ σ->it.den W ρ M=.ok s U->(∀Z H' J,Le ι H Z H'->j7 nm X.K Z H' U->aga nm X.K Z H' s J->G J H')->wi σ H G):PI X tg iter (tI nm W X.K it) :=
 PI.weak h fun σ H G z_=>by obtain⟨ι,ρ,M,s,U,S,R,e,q⟩:=z_;exact w σ H G ι ρ M s U S R e q
def au9(hl:PE X l tl):PI X tg l (fun σ H R=>tl σ H λx U=>∃a,x=.ref a/\((∃xs,Dt X.K U a xs)/\R (Itl X.K a) U\/(∃xs,El X.K U a xs)/\R (Itt X.K a) U)):=by
 intro qq s σ H R I h;refine zj (hl qq s σ H _ I h) λv Z z_=>?_
 obtain⟨x,U,G,r1,q1⟩:=z_;obtain⟨a,e,⟨⟨xs,hq⟩,q⟩|⟨⟨xs,hq⟩,q⟩⟩:=q1
 .subst e
  cases r1;obtain⟨q9,rv,p,hz⟩:=G.list hq;refine t8 p.isList ?_;refine⟨Z.heap.objs.size,[Z.heap.objs.size],_,_,U,rfl,G.kept (t':=Z.toks) λb o e=>ao _ e,aft a _,⟨_,bc _ rfl,rfl,rfl⟩,λb hb=>?_,q⟩;have e:b=Z.heap.objs.size:=by simpa using hb
  subst e;exact G.afs (az _) (G.yf.fresh (az _))
 .subst e
  cases r1;obtain⟨q9,rv,p,hz⟩:=G.tuple hq;refine nq (show Z.heap.IsTuple a q9.toArray from p) ?_;refine⟨Z.heap.objs.size,[Z.heap.objs.size],_,_,U,rfl,G.kept (t':=Z.toks) λb o e=>ao _ e,abb a _,⟨_,bc _ rfl,rfl,rfl⟩,λb hb=>?_,q⟩;have e:b=Z.heap.objs.size:=by simpa using hb
  subst e;exact G.afs (az _) (G.yf.fresh (az _))
def Vg{p:Addr}{ds:List Dv}{s:Src}(hs:∀Z U M1,LeX ι H Z U->j7 nm X.K Z U M1->(∀i d,s.item i M1=some d->∃G v,U p=some (.lst G)/\G[i]?=some v/\Rep X.K Z U d v)/\(s.fin M1=true->∃G,U p=some (.lst G)/\G.length<=s.len)) :
 aga nm X.K ι H s (Itl X.K p):=λZ U M1 le S1=>by
 obtain⟨a,b⟩:=hs Z U M1 le S1;refine⟨λi d hi hd=>?_,λhf=>?_⟩
 .obtain⟨G,v,h1,R,h3⟩:=a i d hd
  refine⟨⟨G,v,Dt.of h1,R⟩,λu H2 ⟨e,y⟩=>?_⟩;subst e;have:=y G (Dt.of h1);rw[R] at this;cases this;exact⟨Le.refl _ _,S1,h3⟩
 .obtain⟨G,h1,R⟩:=b hf
  exact⟨G,Dt.of h1,R⟩
set_option tactic.hygienic true in
def a0w(ha:PE X a (tE nm W X.K a')):PI X tg a (tI nm W X.K (.val a')) :=
 PI.of (au9 ha) fun σ H R' ι ρ M s M' S R e q=>by
  rw[MW.Mh] at e;obtain⟨x,M1,e1,e⟩:=dz e;obtain⟨e,rfl⟩:=su e;refine one S R e1 λU H1 v le S1 R1 r=>?_
  cases r with
  |@tup p Z J h1 r1 =>
   simp only[MW.srcOf] at e;cases e;refine⟨p,rfl,.inr ⟨⟨J,El.of h1⟩,q U H1 _ le S1 λqk H2 M2 G S2=>⟨λi d hi Y=>?_,λ_=>⟨J,El.of (G.tup _ _ h1),by rw[<- r1.length];exact az _⟩⟩⟩⟩;have Y:Z[i]?=some d:=Y;obtain⟨v,g1,g2⟩:=(r1.Gm G).get Y;refine⟨⟨J,v,El.of (G.tup _ _ h1),g1⟩,λu H3 ⟨ee,yy⟩=>?_⟩;subst ee;have:=yy J (El.of (G.tup _ _ h1));rw[g1] at this;cases this;exact⟨Le.refl _ _,S2,g2⟩
  |@vl p Z J h1 n1 r1 =>
   simp only[MW.srcOf] at e;cases e;refine⟨p,rfl,.inl ⟨⟨J,Dt.of h1⟩,q U H1 _ le S1 (Vg (ds:=Z) λqk H2 M2 G S2=>⟨λi d Y=>?_,λ_=>⟨J,G.lst _ _ n1.1 h1,by rw[<- r1.length];exact az _⟩⟩)⟩⟩;have Y:Z[i]?=some d:=Y;obtain⟨v,g1,g2⟩:=(r1.Gm G).get Y;exact⟨J,v,G.lst _ _ n1.1 h1,g1,g2⟩
  |@ref n p h1 =>
   simp only[MW.srcOf] at e;obtain⟨Z,hn,rfl⟩:∃Z,M'[n]?=some (.lst Z)/\s=.live n Z.length:=by
    split at e
    .rename_i Z hn;cases e;exact⟨Z,hn,rfl⟩
    .cases e
   obtain⟨J,g1,g2⟩:=S1.obj n _ p hn h1;refine⟨p,rfl,.inl ⟨⟨J,Dt.of g1⟩,q U H1 _ le S1 (Vg (ds:=Z) λqk H2 M2 G S2=>⟨λi d Y=>?_,λhf=>?_⟩)⟩⟩
   .simp only[Src.item] at Y
    split at Y
    .rename_i qq L
     split at Y
     .obtain⟨C,k1,k2⟩:=S2.obj n _ p L (G.get h1)
      obtain⟨v,k3,k4⟩:=k2.get Y;exact⟨C,v,k1,k3,k4⟩
     .cases Y
    .cases Y
   .simp only[Src.fin] at hf
    split at hf
    .rename_i qq L
     obtain⟨C,k1,k2⟩:=S2.obj n _ p L (G.get h1);refine⟨C,k1,?_⟩;rw[<- k2.length];have:qq.length=Z.length:=by simpa using hf
     rw[this];exact az _
    .cases hf
  |_=>simp[MW.srcOf] at e
set_option tactic.hygienic true in
def a0x(hg:Gl X "range")(hm:X.mg "range" = none)(ha:PE X a (tE nm W X.K a'))(Y:noStar a=true):PI X tg (.Call (.Name "range" pr) [a] [] pos) (tI nm W X.K (.T6 a')) :=
 PI.of (afu hg hm (Xa ha aeb (qg Y _ _)) (qg Y _ _)) fun σ H R' ι ρ M s M' S R e q=>by
  rw[MW.Qo] at e;obtain⟨x,M1,U,e⟩:=dz e;refine Ud (es':=.cons a' .nil) (ds:=[x]) (M1:=M1) S R (by rw[MW.Ag,U];simp) λG H1 vs le S1 R1 r=>?_
  obtain⟨i,hx⟩:∃i,x=.int i:=by cases x<;>first|exact⟨_,rfl⟩|cases e
  subst hx;have e:(if i.natAbs<=100000 then Res.ok (Src.con ((List.range i.toNat).map λ(k:Nat)=>MW.D.int (k:Int))) M1 else .bad)=.ok s M':=e;split at e<;>cases e;rename_i hi;cases r with
  |cons r1 r2 =>
   cases r1;cases r2;refine⟨i,rfl,by lia,by omega,q G H1 _ le S1 λqq H2 M2 yd C=>⟨λj d L Z=>?_,λ_=>?_⟩⟩
   .have J:j<i.toNat:=by simpa[Src.len] using L
    have Z:((List.range i.toNat).map λ(k:Nat)=>MW.D.int (k:Int))[j]?=some d:=Z;rw[ig,List.getElem?_range J] at Z;have Z:MW.D.int (j:Int)=d:=by simpa using Z
    subst Z;refine⟨J,λu H3 ⟨ee,yy⟩=>?_⟩;subst ee yy;exact⟨Le.refl _ _,C,by rw[Int.zero_add];exact .int _⟩
   .show i.toNat<=_
    simp[Src.len]
def agb(R:qj K ι H ρ σ):qj K ι H (ρ++List.replicate k none) (σ++List.replicate k none):=R.append (qj.ajx k (by simp))
def aj2{Z:St}(U:σ.length=n)(R:∀i∈zc t,n<=i)(h:∀j,j∉zc t->Z[j]?=(σ++List.replicate k none)[j]?):∀(j:Nat) v,(σ++List.replicate k none)[j]?=some (some v)->Z[j]?=some (some v):=λj v e=>by
 by_cases G:j∈zc t
 .have:=R j G
  rw[ou (a_ (f_ U) this),List.getElem?_replicate] at e;split at e<;>simp at e
 .rw[h j G];exact e
noncomputable def aq2(o:Option Dv):List Dv:=match o with|some x=>[x]|none=>[]
set_option tactic.hygienic true in
def Zi(h:MW.Ad fin item body (k+1) i M=.ok ds Z) :
 ∃d o M1 rest,item i M=some d/\body d M=.ok o M1/\MW.Ad fin item body k (i+1) M1=.ok rest Z/\ds=aq2 o++rest:=by
 simp only[MW.Ad] at h;split at h
 .cases h
 .rename_i d Y
  obtain⟨o,M1,G,h⟩:=dz h;obtain⟨rest,M2,J,h⟩:=dz h;cases h;exact⟨d,o,M1,rest,Y,G,J,by cases o<;>rfl⟩
def lz.snoc(r:lz K ι H ds Z)(h:Rep K ι H d v):lz K ι H (ds++[d]) (Z++[v]):=r.append (.cons h .nil)
set_option tactic.hygienic true in
def Qx(e:MW.za s body M1=.ok ds M2):s.len<=100000/\MW.Ad s.fin s.item body s.len 0 M1=.ok ds M2:=by
 unfold MW.za at e;split at e
 .rename_i Z
  exact⟨Z,e⟩
 .cases e
def keptAs(v:Bool)(Z:List Dv)(M:dj):Res Dv:=if v=true then .ok (.vl Z) M else MW.new (.lst Z) M
def agc(h:(Ex.comp v k t it e').den W ρ M=.ok d M'):∃s M1 Z M2,it.den W ρ M=.ok s M1/\s.len<=100000 /\
 MW.Ad s.fin s.item (λd M=>match t.put d (ρ++List.replicate k none) with|some G=>(e'.den W G M).bind λx M'=>.ok (some x) M'|none=>.bad) s.len 0 M1=.ok Z M2/\keptAs v Z M2=.ok d M':=by
 rw[MW.X8] at h;obtain⟨s,M1,R,h⟩:=dz h;obtain⟨Z,M2,U,h⟩:=dz h;exact⟨s,M1,Z,M2,R,(Qx U).1,(Qx U).2,h⟩
def Io.adopt(ι:Io)(H:Hp)(D:Addr):Tr K (ι.hide D) H (ι.add D) H:=⟨λ_ _ e=>e,λ_ _ e n=>⟨e,λm=>(cg.mp m).elim n.1 λz=>n.2 (by rw[jz.mp z];exact bz),λm=>n.2 (bu _ m)⟩,λ_ _ e=>e,λn a e=>by
 have e:ι.l[n]?=some a:=e;show(ι.l++[D])[n]?=_;rw[gm (ak.mp e).1];exact e⟩
theorem Rep.adopt(r:Rep K (ι.hide D) H d v):Rep K (ι.add D) H d v:=r.tr (ι.adopt H D)
theorem lz.adopt(r:lz K (ι.hide D) H d v):lz K (ι.add D) H d v:=r.tr (ι.adopt H D)
theorem j7.adopt(S:j7 nm K (ι.hide D) H M)(hd:H D=some (.lst U))(r:lz K (ι.hide D) H ds U)(G:ι.off D):j7 nm K (ι.add D) H (M++[.lst ds]):=by
 refine⟨by have:=S.len;simp only[Io.hide] at this;simp[Io.add,this],?_,λa Z=>?_,λn o a R Z=>?_⟩
 .exact n6.mpr ⟨S.nd,by simp,by
   intro x hx y hy;have:y=D:=by simpa using hy
   subst this;intro e;subst e;exact G.1 hx⟩
 .obtain⟨h1,U,h2⟩:=S.del a (bu _ Z)
  exact⟨λm=>(cg.mp m).elim h1 λz=>G.2 (by rw[<- jz.mp z];exact Z),U,h2⟩
 .rcases zu R with q|⟨q,rfl⟩
  .rcases zu Z with z|⟨z,_⟩
   .exact(S.obj n o a q z).tr (ι.adopt H D) rfl
   .exact absurd (MW.rn q) (by rw[z,<- S.len];exact lg _)
  .rcases zu Z with z|⟨_,rfl⟩
   .exact absurd (ak.mp z).1 (by rw[q,<- S.len];exact lg _)
   .exact⟨U,hd,r.adopt⟩
def aj3(S:j7 nm K (ι.hide D) H M)(hd:H D=some (.lst vs))(r:lz K (ι.hide D) H ds vs)(G:ι.off D)(le:Le U R ι H)(h0:R D=none)(h:keptAs v ds M=.ok d M') :
 ∃Z,Le U R Z H/\j7 nm K Z H M'/\Rep K Z H d (.ref D):=by
 unfold keptAs at h;split at h
 .cases h
  exact⟨ι,le,S.show,.vl hd G r.show⟩
 .cases h
  refine⟨ι.add D,⟨?_,le.del,le.tup,le.Gu,le.lst,le.dom⟩,S.adopt hd r G,.ref ?_⟩
  .obtain⟨Y,e,hY⟩:=le.ext
   exact⟨Y++[D],by show ι.l++[D]=_;rw[e,wz],λa ha=>(cg.mp ha).elim (hY a) λz=>by rw[jz.mp z];exact h0⟩
  .show(ι.l++[D])[M.length]?=some D
   rw[<- S.len];simp[Io.hide]
def BodyOk(nm:Nm)(K:Fg)(G:St)(tc:TT)(te:TE)(R:En)(M:dj)(o:Option Dv)(M':dj):Prop:=∀ι H (G1:V->Hp->Prop) (G0:Hp->Prop),j7 nm K ι H M->qj K ι H R G ->
 (∀Z U v,Le ι H Z U->j7 nm K Z U M'->(match o with|some x=>Rep K Z U x v->G1 v U|none=>G0 U))->tc G H λb H3=>if b=true then te G H3 λv H4=>G1 v H4 else G0 H3
set_option tactic.hygienic true in
def Vh{N:Yf}(hk:N.length-X.N.length=k)(ho:∀i∈zc t,X.N.length<=i)(z5:σ.length=X.N.length)(S:j7 nm X.K ι H M)(R:qj X.K ι H ρ σ)(e1:it.den W ρ M=.ok s M1)(q5:s.len<=100000)(e2:MW.Ad s.fin s.item body s.len 0 M1=.ok ds M')(ek:keptAs v0 ds M'=.ok d0 M0)(q:∀q1 H' v,Le ι H q1 H'->j7 nm X.K q1 H' M0->Rep X.K q1 H' d0 v->Q v H')(hb:∀d M2 o M3,body d M2=.ok o M3->∃q0,t.put d (ρ++List.replicate k none)=some q0/\∀q2,BodyOk nm X.K q2 tc te q0 M2 o M3):Ze (N.length-X.N.length) (tI nm W X.K it) (tGt nm X.K t) tc te σ H Q:=by
 refine⟨ι,ρ,M,s,M1,S,R,e1,λC H1 J Zf S1 sj D hD=>?_⟩;rw[hk];refine⟨λi m H2=>m=s.len-i/\i<=s.len/\∃Z M2 G vs qq,LeD D C H1 (Io.hide Z D) H2/\j7 nm X.K (Io.hide Z D) H2 M2/\H2 D=some (.lst vs)/\lz X.K (Io.hide Z D) H2 G vs/\G.length<=i /\
  MW.Ad s.fin s.item body m i M2=.ok qq M'/\ds=G++qq,?_,?_⟩
 .exact⟨s.len,rfl,ie _,C,M1,[],[],ds,LeD.start hD _,S1.hide hD,qu,.nil,az _,e2,rfl⟩
 .rintro i m H2 ⟨hm,zv,Z,M2,G,vs,qq,yd,S2,q9,q3,Uc,e3,qv⟩
  have q6:Le C H1 Z H2:=LeD.done yd;have zw:Z.δ=C.δ:=q6.del;have zk:Z.off D:=⟨(S2.del D bz).1,λz=>by rw[zw] at z;exact(S1.fresh hD).2 z⟩;obtain⟨go,zz⟩:=sj (Io.hide Z D) H2 M2 (yd.toX hD) S2;cases m with
  |zero =>
   simp only[MW.Ad] at e3;split at e3<;>cases e3;rename_i Rf;refine hG λ_ _k=>?_
   have hi:i=s.len:=by lia
   subst hi;rw[yl] at qv;subst qv;obtain⟨z1,z2,S9,r9⟩:=aj3 S2 q9 q3 zk q6 hD ek;apply _k;exact .inl ⟨zz Rf,q z1 H2 _ (Zf.trans z2) S9 r9⟩
  |succ m =>
   refine hG λ_ _k=>?_
   obtain⟨d,o,M3,L,h1,h2,h3,h4⟩:=Zi e3;obtain⟨g1,g2⟩:=go i d (by lia) h1;apply _k;refine .inr ⟨g1,λv H3 yv=>?_⟩;refine hG λ_ _k=>?_
   obtain⟨Qw,S3,r3⟩:=g2 v H3 yv;obtain⟨q0,z4,z0⟩:=hb d M2 o M3 h2;have R3:qj X.K (Io.hide Z D) H3 ρ σ:=((R.mono Zf).Gm (yd.toX hD)).mono Qw;apply _k;refine⟨Io.hide Z D,ρ++List.replicate k none,M2,d,q0,S3,agb R3,r3,z4,λq2 R5 l5 k5=>⟨l5,aj2 z5 ho k5,?_⟩⟩;have z3:=Qw.lst D vs (S2.del D bz).1 q9;refine z0 q2 (Io.hide Z D) H3 _ _ S3 R5 (λY H6 u qk S6=>by
    have U:=qk.lst D vs (S2.del D bz).1 z3;have q4:LeD D C H1 Y H6:=(yd.go Qw).go qk;have ei:Y=Io.hide ⟨Y.l,Z.δ⟩ D:=by have:=qk.del;obtain⟨l6,z6⟩:=Y;simp only[Io.hide] at this ⊢;rw[this]
    rw[ei] at q4 S6;have q7:lz X.K (Io.hide ⟨Y.l,Z.δ⟩ D) H6 G vs:=by rw[<- ei];exact(q3.mono Qw).mono qk
    cases o with
    |none =>
     refine⟨m,qw _,by lia,by lia,⟨Y.l,Z.δ⟩,M3,G,vs,L,q4,S6,U,q7,a_ Uc x_,h3,?_⟩;rw[qv,h4];rfl
    |some x =>
     intro r6;rw[ei] at r6;have Vw:D∈(Io.hide ⟨Y.l,Z.δ⟩ D).δ:=bz;refine⟨vs,m,U,?_,qw _,by lia,by lia,⟨Y.l,Z.δ⟩,M3,G++[x],vs++[u],L,q4.grow hD U,S6.grow U Vw,qu,(q7.snoc r6).tr (ad9 U Vw),by simp;exact Uc,h3,?_⟩
     .rw[<- q3.length]
      exact qz (bw Uc (bw zv q5)) (by decide)
     .rw[qv,h4];simp[aq2])
set_option tactic.hygienic true in
def Vi{N:Yf}(hk:N.length-X.N.length=k)(ho:∀i∈zc t,X.N.length<=i):∀σ H Q,σ.length=X.N.length->tE nm W X.K (.comp v0 k t it e') σ H Q ->
 Ze (N.length-X.N.length) (tI nm W X.K it) (tGt nm X.K t) (λ_ H Q=>Q true H) (tE nm W X.K e') σ H Q:=fun σ H Q C hh=>by
 obtain⟨ι,ρ,M,d,M',S,R,e,q⟩:=hh;obtain⟨s,M1,ds,M2,e1,Y,e2,ek⟩:=agc e;refine Vh hk ho C S R e1 Y e2 ek q λd M2 o M3 Z=>?_
 split at Z
 .rename_i L J
  obtain⟨x,M4,e5,Z⟩:=dz Z;cases Z;refine⟨L,J,λqk qq H5 G1 G0 S5 R5 g=>?_⟩;show if true=true then _ else _
  rw[bh rfl];exact one (X:=X) S5 R5 e5 λU H6 u G S6 R6 r6=>g U H6 u G S6 r6
 .cases Z
def Zj(h:(Ex.yz v k t it c' e').den W ρ M=.ok d M'):∃s M1 G M2,it.den W ρ M=.ok s M1/\s.len<=100000 /\
 MW.Ad s.fin s.item (λd M=>match t.put d (ρ++List.replicate k none) with|some Z=>(c'.den W Z M).bind λb M'=>(match b with|.bl true=>(e'.den W Z M').bind λx U=>.ok (some x) U|.bl false=>.ok none M'|_=>.bad)|none=>.bad) s.len 0 M1=.ok G M2/\keptAs v G M2=.ok d M':=by
 rw[MW.Rc] at h;obtain⟨s,M1,e1,h⟩:=dz h;obtain⟨G,M2,R,h⟩:=dz h;exact⟨s,M1,G,M2,e1,(Qx R).1,(Qx R).2,h⟩
set_option tactic.hygienic true in
def Qe{N:Yf}(hk:N.length-X.N.length=k)(ho:∀i∈zc t,X.N.length<=i):∀σ H Q,σ.length=X.N.length->tE nm W X.K (.yz v0 k t it c' e') σ H Q ->
 Ze (N.length-X.N.length) (tI nm W X.K it) (tGt nm X.K t) (tQ nm W X.K c') (tE nm W X.K e') σ H Q:=fun σ H Q qq hh=>by
 obtain⟨ι,ρ,M,d,M',S,R,e,q⟩:=hh;obtain⟨s,M1,ds,M2,e1,J,e2,ek⟩:=Zj e;refine Vh hk ho qq S R e1 J e2 ek q λd M2 o M3 Z=>?_
 split at Z
 .rename_i qk C
  obtain⟨x,M4,e5,Z⟩:=dz Z;refine⟨qk,C,λq1 q0 H5 G1 G0 S5 R5 g=>?_⟩;split at Z
  .obtain⟨y,M6,e6,Z⟩:=dz Z
   cases Z;refine W9 (X:=X) S5 R5 e5 λG H6 Y L R6=>?_
   rw[bh rfl];exact one (X:=X) L R6 e6 λU H7 u qv S7 R7 r7=>g U H7 u (Y.trans qv) S7 r7
  .cases Z
   refine W9 (X:=X) S5 R5 e5 λG H6 Y L R6=>?_
   rw[bj (by simp)];exact g G H6 .non Y L
  .cases Z
 .cases Z
def PE.Zk(h:PE X e t)(w:∀σ H Q,σ.length=X.N.length->t' σ H Q->t σ H Q):PE X e t':=λZ s σ H Q I q=>h Z s σ H Q I (w σ H Q I.len q)
def PS.Zk(h:PS X st t)(w:∀D σ H,σ.length=X.N.length->t' D σ H->t D σ H):PS X st t':=λZ s σ H D I q=>h Z s σ H D I (w D σ H I.len q)
def avc(B:Ed X N scope)(U:X.calm=true)(hi:PI X tg iter (tI nm W X.K it))(G:∀C Z s H,PG (Ip X N scope C Z s H) tg (tGt nm X.K t))(he:∀C Z s H,PE (Ip X N scope C Z s H) elt (tE nm W X.K e'))(hs:Ge iter=true)(R:N.length-X.N.length=k)(ho:∀i∈zc t,X.N.length<=i):PE X (.ListComp elt [⟨tg,iter,[],0⟩] scope pos) (tE nm W X.K (.comp v0 k t it e')) :=
 PE.Zk (ad6 B U hi G (λ_ _ _ _=>.inl ⟨rfl,rfl⟩) he (Cu hs X.env)) (Vi R ho)
def aj4(B:Ed X N scope)(R:X.calm=true)(hi:PI X tg iter (tI nm W X.K it))(G:∀C Z s H,PG (Ip X N scope C Z s H) tg (tGt nm X.K t))(U:∀C Z s H,PT (Ip X N scope C Z s H) c (tQ nm W X.K c'))(he:∀C Z s H,PE (Ip X N scope C Z s H) elt (tE nm W X.K e'))(hs:Ge iter=true)(hk:N.length-X.N.length=k)(ho:∀i∈zc t,X.N.length<=i):PE X (.ListComp elt [⟨tg,iter,[c],0⟩] scope pos) (tE nm W X.K (.yz v0 k t it c' e')) :=
 PE.Zk (ad6 B R hi G (λ_ _ _ _=>.inr ⟨c,rfl,U _ _ _ _⟩) he (Cu hs X.env)) (Qe hk ho)
def Zm(h:∀σ H Q,σ.length=X.N.length->tE nm W X.K e' σ H Q->tt σ H Q):∀D σ H,σ.length=X.N.length->tS nm W X.K (.asg (.tg (.name i)) e') D σ H->atz tt (adt i) D σ H:=λD σ H G hh=>by obtain⟨ι,ρ,M,fl,qk,M',S,R,e,q⟩:=hh;rw[MW.V1] at e;obtain⟨x,M1,e1,e⟩:=dz e;obtain⟨qq,M2,U,e⟩:=dz e;cases e;rw[MW.aaw] at U;obtain⟨e3,e4⟩:=su U;subst e4;cases e3;exact h σ H _ G (one S R e1 λZ H1 v le S1 R1 r=>q Z H1 _ le S1 (R1.set r i))
def agd{y:Str}(B:Ed X N scope)(Gk:X.calm=true)(hi:PI X tg iter (tI nm W X.K it))(U:∀C Z s H,PG (Ip X N scope C Z s H) tg (tGt nm X.K t))(he:∀C Z s H,PE (Ip X N scope C Z s H) elt (tE nm W X.K e'))(hs:Ge iter=true)(hk:N.length-X.N.length=k)(ho:∀i∈zc t,X.N.length<=i)(hN:X.N.Nodup)(hy:X.N[i]?=some y)(R:X.env.scope.names.lookup y=some .local)(G:swapsWith (.ListComp elt [⟨tg,iter,[],0⟩] scope pos) (some (.Name y py)) ajw.line X.env=pure true):PS X (.Assign [.Name y py] (.ListComp elt [⟨tg,iter,[],0⟩] scope pos) ajw) (tS nm W X.K (.asg (.tg (.name i)) (.comp v0 k t it e'))) :=
 PS.Zk (ad7 B Gk hi U (λ_ _ _ _=>.inl ⟨rfl,rfl⟩) he (Cu hs X.env) hN hy R G) (Zm (Vi hk ho))
def Zn{y:Str}(B:Ed X N scope)(Gk:X.calm=true)(hi:PI X tg iter (tI nm W X.K it))(U:∀C Z s H,PG (Ip X N scope C Z s H) tg (tGt nm X.K t))(hc:∀C Z s H,PT (Ip X N scope C Z s H) c (tQ nm W X.K c'))(he:∀C Z s H,PE (Ip X N scope C Z s H) elt (tE nm W X.K e'))(hs:Ge iter=true)(hk:N.length-X.N.length=k)(ho:∀i∈zc t,X.N.length<=i)(hN:X.N.Nodup)(hy:X.N[i]?=some y)(R:X.env.scope.names.lookup y=some .local)(G:swapsWith (.ListComp elt [⟨tg,iter,[c],0⟩] scope pos) (some (.Name y py)) ajw.line X.env=pure true):PS X (.Assign [.Name y py] (.ListComp elt [⟨tg,iter,[c],0⟩] scope pos) ajw) (tS nm W X.K (.asg (.tg (.name i)) (.yz v0 k t it c' e'))) :=
 PS.Zk (ad7 B Gk hi U (λ_ _ _ _=>.inr ⟨c,rfl,hc _ _ _ _⟩) he (Cu hs X.env) hN hy R G) (Zm (Qe hk ho))
end
def spF(nm:Nm)(W:Ks)(K:Fg)(n f:Nat):Sp:=λvs H Q _=>∃R M U d M',j7 nm K R H M/\lz K R H U vs/\U.length=n/\W.call f U M=.ok d M'/\∀Z G v,Le R H Z G->j7 nm K Z G M'->Rep K Z G d v->Q v G
def s_call(F:Ea X.prog X.w X.K X.mg X.base Xu k fa fd ps (spF nm W X.K n f))(hr:ye k X.A)(hg:Gl X x)(hm:X.mg x=some (.ref fa))(hk:PySem.W.keepIn X.K (.ref fa)=true)(hb:Binds X.K fd ps [])(G:Dd.len Z=n)(ha:PA X (a::es) (Xv nm W X.K Z))(Wy:(x==("__debug__" : Str))=false)(he:starEach (a::es) X.env=(false,eval a X.env)::starEach es X.env)(Kq:(backTo pos (starEach es X.env)).any (·.1)=false) :
 PE X (.Call (.Name x p) (a::es) [] pos) (tE nm W X.K (.call f Z)) :=
 PE.of (ant (E:=E0) F hr hg hm hk hb .nil ajt ha Wy he Kq) fun σ H Q ι ρ M d M' S R e q=>by
  rw[MW.X7] at e;obtain⟨ds,M1,e1,e⟩:=dz e;refine Ud S R e1 λqq H1 vs le S1 R1 r=>?_
  rw[yl];exact⟨qq,M1,ds,d,M',S1,r,(G8 e1).trans G,e,λU H' v Vf S' r'=>q U H' v (le.trans Vf) S' r'⟩
def avd(q2:Mk X.K C fa)(F:Ea X.prog X.w X.K X.mg X.base Xu k fa fd ps (spF nm W X.K 1 f))(hr:ye (k+1) X.A)(hg:Gl X x)(hm:X.mg x=some (.ref C))(hb:Binds X.K fd ps [])(qk:W.cls[U]?=some cl)(q0:cl.init=f)(qv:nm.cls U=some C)(Wy:(x==("__debug__" : Str))=false) :
 PE X (.Call (.Name x p) [] [] pos) (tE nm W X.K (.make U)) :=
 PE.of (ajk (E:=E0) q2 F hr hg hm hb .nil ajt Wy) fun σ H Q ι ρ M d M' S R e q=>by
  rw[MW.ahh,qk] at e;have e:((W.call cl.init [.ref M.length] (M++[.ins U []])).bind λr M2=>match r with|.non=>.ok (.ref M.length) M2|_=>.bad)=.ok d M':=e;obtain⟨r0,M2,e2,e⟩:=dz e;intro p G hp q1 Qh;have Z:∀a u,H a=some u->upd (upd H G (.own p)) p (.ins C G []) a=some u:=λa u e=>by rw[jy (kj e hp),jy (kj e q1)];exact e
  obtain⟨S2,yd⟩:=S.new (o:=.ins U []) hp Z λ_=>⟨C,G,[],qv,qu,.nil⟩
  have rp:Rep X.K (ι.add p) (upd (upd H G (.own p)) p (.ins C G [])) (.ref M.length) (.ref p):=.ref (by show(ι.l++[p])[M.length]?=some p;rw[<- S.len];simp);refine⟨ι.add p,M++[.ins U []],[.ref M.length],r0,M2,S2,.cons rp .nil,rfl,by rw[<- q0];exact e2,λqq H' v Vf S' r'=>?_⟩;cases r'<;>try cases e
  exact⟨rfl,q qq H' _ (yd.trans Vf) S' (rp.mono Vf)⟩
theorem Zo{G:Nm}{R:Io}{H:Hp}{m:Str}{K:Fg}(Z:∀i,G.fld i≠m):∀{fs:List (Nat×Dv)}{l:List (Str×V)},oh K R H (λk U=>U=G.fld k) fs l->l.lookup m=none
 |_,_,.nil=>rfl
 |_,_,.cons (k:=kk) (k':=kk') hk h t=>by
  subst hk;rw[mq];have z:(m==G.fld kk)=false:=by
   cases z:m==G.fld kk with
   |false=>rfl|true=>exact absurd (eq_of_beq z).symm (Z kk)
  rw[z];exact Zo Z t
def ave{nm:Nm}{W:Ks}{X:Cx}{a o:Expr}{o':Ex}{Z G:Pos}{es:Ya}{qq:Dd}{k n f:Nat}{fa C:Addr}{fd:FuncData}{ps:Yf}{m:Str}{mi ci:Nat}{cl:MW.Cl}{pl:Sem Bool}(ho:PE X o (tE nm W X.K o'))(c0:Cls X.K C)(qv:Meth X.K C m fa)(F:Ea X.prog X.w X.K X.mg X.base Xu k fa fd ps (spF nm W X.K (n+1) f))(hr:ye k X.A)(hb:Binds X.K fd ps [])
 (q3:∀c' U,W.cls[c']?=some U->∀g,U.meths.lookup mi=some g->nm.cls c'=some C/\g=f) (q4:∀i,nm.fld i≠m)
 (qk:Dd.len qq=n) (ha:PA X (a::es) (Xv nm W X.K qq)) (he:starEach (a::es) X.env=(false,eval a X.env)::starEach es X.env) (Kq:(backTo Z (starEach es X.env)).any (·.1)=false)
 (ht:eval (.Call (.Attribute o m G) (a::es) [] Z) X.env=(do
  let ov <- eval o X.env
  standAt G.atName
  let (f,first) <- holding [ov] (getMethod ov m pl)
  callWith Z f first (backTo Z (starEach (a::es) X.env)) (backToKw Z (keywordEach [] X.env)))) :
 PE X (.Call (.Attribute o m G) (a::es) [] Z) (tE nm W X.K (.meth o' mi qq)) :=
 PE.of (anu (E:=E0) ho c0 qv F hr hb .nil ajt ha he Kq ht) fun σ H Q ι ρ M d M' S R e q=>by
  rw[MW.ahi] at e;obtain⟨x,M1,e1,e⟩:=dz e;obtain⟨ds,M2,e2,e⟩:=dz e;refine one S R e1 λq1 H1 v le S1 R1 r=>?_
  obtain⟨j,hx⟩:∃j,x=.ref j:=by cases x<;>first|exact⟨_,rfl⟩|cases e
  subst hx;obtain⟨p,rfl,hp⟩:∃p,v=.ref p/\q1.l[j]?=some p:=by cases r with|ref z=>exact⟨_,rfl,z⟩
  have e:(match M1[j]? with
   | some (.ins c _)=>(match(W.cls[c]?).bind λC=>C.meths.lookup mi with
    | some f=>W.call f (.ref j::ds) M2|none=>.bad)
   | _=>.bad)=Res.ok d M':=e
  cases hM:M1[j]? with
  |none=>rw[hM] at e;cases e
  |some ob =>
   rw[hM] at e;cases ob with
   |ins ci fs =>
    have e:(match(W.cls[ci]?).bind λC=>C.meths.lookup mi with|some f=>W.call f (.ref j::ds) M2|none=>.bad)=Res.ok d M':=e;cases hL:(W.cls[ci]?).bind λC=>C.meths.lookup mi with
    |none=>rw[hL] at e;cases e
    |some g =>
     rw[hL] at e;have e:W.call g (.ref j::ds) M2=.ok d M':=e;obtain⟨U,h1,h2⟩:=ir.mp hL;obtain⟨h3,rfl⟩:=q3 ci U h1 g h2;obtain⟨C',dx,l,g1,g2,g3⟩:=S1.obj j _ p hM hp;rw[h3] at g1;cases g1;have q2:l.lookup m=none:=Zo q4 g3;refine⟨p,dx,l,rfl,g2,q2,Ud S1 R1 e2 λq5 H2 vs yd S2 R2 r2=>?_⟩;rw[yl];exact⟨q5,M2,.ref j::ds,d,M',S2,.cons (r.mono yd) r2,by rw[d7,G8 e2,qk],e,λq0 H' v Vf S' r'=>q q0 H' v ((le.trans yd).trans Vf) S' r'⟩
   |_=>cases e
def avf:PE X (.Dict [] [] pos) (tE nm W X.K .Xz):=PE.of ajo fun σ H Q U ρ M d M' S R e q=>by
 rw[MW.ahg] at e;cases e;intro p Z;obtain⟨S2,G⟩:=S.new (o:=.dT []) (H':=upd H p (.dT [])) Z (λa u e=>by rw[jy (kj e Z)];exact e) λ_=>⟨[],qu,.nil⟩
 exact q _ _ _ G S2 (.ref (by show(U.l++[p])[M.length]?=some p;rw[<- S.len];simp))
def a7r(U:Nm)(K:Fg):atv:=λo i v H Q=>∃Z M x y d R,j7 U K Z H M/\Rep K Z H x o/\Rep K Z H y i/\Rep K Z H d v/\MW.setOp x y d M=some R/\∀G,Le Z H Z G->j7 U K Z G R->Q G
def Nz(h:n<100000):n<sizeLine:=gf h Td
set_option tactic.hygienic true in
def aos(hu:X.A.units+1<cLine):atw X (a7r nm X.K):=by
 intro Y s σ H o i v ov iv u Q I ro ri rv hh;obtain⟨ι,M,x,y,d,M',S,rx,ry,rd,e,q⟩:=hh;obtain⟨j,hx⟩:∃j,x=.ref j:=by cases x<;>first|exact⟨_,rfl⟩|cases e
 subst hx;obtain⟨p,rfl,U⟩:∃p,o=.ref p/\ι.l[j]?=some p:=by cases rx with|ref z=>exact⟨_,rfl,z⟩
 simp only[MW.setOp] at e;split at e
 .rename_i xs G
  split at e
  .rename_i k
   obtain⟨J,C,e2⟩:=bx.mp e;subst e2;cases ry;obtain⟨vs,R,Z⟩:=S.obj j _ p G U;refine set_list Y s σ H _ _ v ov iv u Q I ro ri rv ⟨p,vs,k,J,rfl,rfl,R,by rw[<- Z.length];exact C,?_⟩;obtain⟨L,yd⟩:=S.put (u:=.lst (vs.set J v)) (o:=.lst (xs.set J d)) G U λle=>⟨_,qu,(Z.mono le).set (rd.mono le) J⟩
   exact q _ yd L
  .cases e
 .rename_i m9 G
  obtain⟨k,C,e⟩:=ir.mp e;split at e<;>cases e;rename_i hl;obtain⟨l,R,Z⟩:=S.obj j _ p G U;obtain⟨b,rfl,hb⟩:=Ox ry C;cases ro;refine af3 (H':=upd H p (.dT (putK l k v))) (y:=.ref b) (v:=v) hu I (anv.t R hb (by rw[<- Z.length];exact Nz hl)) ri rv λs' I'=>⟨_,I',?_⟩
  obtain⟨L,yd⟩:=S.put (u:=.dT (putK l k v)) (o:=.dT (MW.Mf m9 k d)) G U λle=>⟨_,qu,(Z.mono le).put (rd.mono le)⟩
  exact q _ yd L
 .cases e
def Ti(h:Oz e=true)(t:Expr)(l:Nat)(Z:Env):swapsWithSole [t] e l Z=pure false:=by unfold swapsWithSole;exact Jz h _ _ _
def aj5(e o b:Expr)(p:Pos)(l:Nat)(Z:Env):swapsWithSole [.Subscript o b p] e l Z=pure false:=by cases e<;>rfl
def aj6(hu:X.A.units+1<cLine)(he:PE X a (tE nm W X.K a'))(ho:PE X o (tE nm W X.K o'))(hi:PE X b (tE nm W X.K b'))(ha:∀v,assign (.Subscript o b pos') X.env v=(do
 let U <- holding [v] (eval o X.env)
 let iv <- holding [v,U] (eval b X.env)
 standAt pos'
 holding [v,U,iv] (setItem U iv v)
 release [v,U,iv] [])):PS X (.Assign [.Subscript o b pos'] a pos) (tS nm W X.K (.asg (.sub o' b') a')) :=
 PS.of (ai7 he (aty ho hi (aos (nm:=nm) hu) ha) (aj5 _ _ _ _ _ _) (by rfl) (by rfl)) λD σ H ι ρ M fl qv M' S R e q=>by
  rw[MW.V1] at e;obtain⟨x,M1,e1,e⟩:=dz e;obtain⟨qq,M2,Z,e⟩:=dz e;cases e;rw[MW.amc] at Z;obtain⟨y,M3,e3,Z⟩:=dz Z;obtain⟨z,M4,e4,Z⟩:=dz Z;obtain⟨M5,M6,e5,e6⟩:=dz Z;obtain⟨e7,e8⟩:=su e5;subst e8;cases e6;refine one S R e1 λqk H1 v le S1 R1 r=>?_
  refine one S1 R1 e3 λq0 H2 v2 yd S2 R2 r2=>one S2 R2 e4 λG H3 v3 Qw S3 R3 r3=>?_
  exact⟨G,_,y,z,x,_,S3,r2.mono Qw,r3,(r.mono yd).mono Qw,e7,λH' Vf S'=>q G H' σ (((le.trans yd).trans Qw).trans Vf) S' (R3.mono Vf)⟩
set_option tactic.hygienic true in
def aj7(hn:n=nm.fld f)(J:∀c C,nm.cls c=some C->Cls X.K C/\Dz X.K C n)(he:PE X a (tE nm W X.K a'))(ho:PE X o (tE nm W X.K o'))(Kq:Oz a=true) :
 PS X (.Assign [.Attribute o n pos'] a pos) (tS nm W X.K (.asg (.fld o' f) a')) :=
 PS.of (auh ho he (Jz Kq _ _ _)) λD σ H ι ρ M fl qv M' S R e q=>by
  rw[MW.V1] at e;obtain⟨x,M1,e1,e⟩:=dz e;obtain⟨qq,M2,G,e⟩:=dz e;cases e;rw[MW.amd] at G;obtain⟨y,M3,e3,G⟩:=dz G;obtain⟨M5,M6,e5,e6⟩:=dz G;obtain⟨Z,e8⟩:=su e5;subst e8;cases e6;refine one S R e1 λqk H1 v le S1 R1 r=>one S1 R1 e3 λY H2 v2 yd S2 R2 r2=>?_
  obtain⟨j,hx⟩:∃j,y=.ref j:=by cases y<;>first|exact⟨_,rfl⟩|cases Z
  subst hx;obtain⟨p,rfl,hp⟩:∃p,v2=.ref p/\Y.l[j]?=some p:=by cases r2 with|ref z=>exact⟨_,rfl,z⟩
  simp only[MW.Ra] at Z;split at Z
  .rename_i c fs hM
   have L:fs.length<1000:=by
    by_cases z:fs.length<1000
    .exact z
    .rw[bj z] at Z;cases Z
   rw[bh L] at Z;cases Z;obtain⟨C,U,l,h1,h2,h3⟩:=S2.obj j _ p hM hp;subst hn;obtain⟨g1,g2⟩:=J c C h1;refine⟨p,C,U,l,rfl,h2,g1,g2,by rw[<- h3.length];exact L,?_⟩;obtain⟨S3,Qw⟩:=S2.put (u:=.ins C U (Gb (nm.fld f) v l)) (o:=.ins c (MW.Q9 f x fs)) hM hp λVf=>⟨C,U,_,h1,qu,(h3.mono Vf).Gb ((r.mono yd).mono Vf)⟩
   exact q Y _ σ ((le.trans yd).trans Qw) S3 (R2.mono Qw)
  .cases Z
def zp.weak(h:zp X f r)(w:∀Z H Q,r' Z H Q->r Z H Q):zp X f r':=λG s R H Z U Q I rs q=>h G s R H Z U Q I rs (w Z H Q q)
def rB(R:Nm)(K:Fg)(b:Blt):List V->Hp->VK->Prop:=λvs H Q=>∃U M ds d M',j7 R K U H M/\lz K U H ds vs/\MW.v9 b ds M=.ok d M'/\∀Z G v,Le U H Z G->j7 R K Z G M'->Rep K Z G d v->Q v G
def zp.of(h:zp X f r)(w:∀U H Q G M R d M',j7 nm X.K G H M->lz X.K G H R U->MW.v9 bb R M=.ok d M'->(∀Z H' v,Le G H Z H'->j7 nm X.K Z H' M'->Rep X.K Z H' d v->Q v H')->r U H Q):zp X f (rB nm X.K bb) :=
 zp.weak h λU H Q z_=>by obtain⟨G,M,R,d,M',S,r,e,q⟩:=z_;exact w U H Q G M R d M' S r e q
def Zq{X:Cx}:∀σ H Q,tE nm W X.K (.blt t G) σ H Q->tCB (rB nm X.K t) (Xv nm W X.K G) σ H Q:=fun σ H Q hh=>by obtain⟨ι,ρ,M,d,M',S,R,e,q⟩:=hh;rw[MW.Mg] at e;obtain⟨ds,M1,e1,e⟩:=dz e;exact Ud S R e1 λU H1 vs le S1 R1 r=>⟨U,M1,ds,d,M',S1,r,e,λZ H' v Vf S' r'=>q Z H' v (le.trans Vf) S' r'⟩
def aed{id:String}(hc:zp X (.builtin id) (rB nm X.K t))(G:Gl X x)(hm:X.mg x=none)(hv:bootBuiltins x=some (.builtin id))(R:PA X (a::es) (Xv nm W X.K Z))(hn:x≠"__name__")(U:(x==("__debug__" : Str))=false)(he:starEach (a::es) X.env=(false,eval a X.env)::starEach es X.env)(Kq:(backTo pos (starEach es X.env)).any (·.1)=false):PE X (.Call (.Name x p) (a::es) [] pos) (tE nm W X.K (.blt t Z)):=PE.weak (ajm hc G hm hv R hn U he Kq) Zq
def Xc(hc:zp X (.type T) (rB nm X.K t))(G:Gl X x)(hm:X.mg x=none)(hv:bootBuiltins x=some (.type T))(R:PA X (a::es) (Xv nm W X.K Z))(hn:x≠"__name__")(U:(x==("__debug__" : Str))=false)(he:starEach (a::es) X.env=(false,eval a X.env)::starEach es X.env)(Kq:(backTo pos (starEach es X.env)).any (·.1)=false):PE X (.Call (.Name x p) (a::es) [] pos) (tE nm W X.K (.blt t Z)):=PE.weak (af1 hc G hm hv R hn U he Kq) Zq
def Hw(r:lz K G H ds Z)(h:ds=[d]):∃v,Z=[v]/\Rep K G H d v:=by subst h;cases r with|cons h t=>cases t;exact⟨_,rfl,h⟩
def aot:zp X (.type "tuple") (rB nm X.K .tuple):=zp.of Ub λvs H Q G M ds d M' S r e q=>by
 cases r with
 |nil=>simp[MW.v9] at e
 |@cons x v _ _ h t =>
  cases t with
  |cons h2 t2=>simp[MW.v9] at e
  |nil =>
   have e:Res.qx ((MW.j8 M x).map MW.D.tup) M=.ok d M':=e;obtain⟨e1,e2⟩:=su e;subst e2;obtain⟨xs,e3,rfl⟩:=bx.mp e1;obtain⟨p,R,rfl,Z,U⟩:=Em S h e3;rcases Z with Z|Z
   .refine⟨p,R,rfl,.inl ⟨Dt.of Z,λl hl=>?_⟩⟩
    obtain⟨S2,yd,r2⟩:=Ht S hl U;exact q G _ _ yd S2 r2
   .exact⟨p,R,rfl,.inr ⟨El.of Z,q G H _ (Le.refl _ _) S (.tup Z U)⟩⟩
set_option tactic.hygienic true in
def a00:zp X (.builtin "len") (rB nm X.K .len):=zp.of W4 λvs H Q C M Y d M' S r e q=>by
 cases r with
 |nil=>simp[MW.v9] at e
 |@cons x v _ _ h t =>
  cases t with
  |cons h2 t2=>simp[MW.v9] at e
  |nil =>
   have fin:∀J,(MW.j8 M x=some J)->d=.int J.length->M'=M->∃p U,[v]=[V.ref p]/\(Dt X.K H p U\/El X.K H p U)/\Q (.int U.length) H:=λJ L Z e2=>by subst Z e2;obtain⟨p,us,rfl,hp,R⟩:=Em S h L;exact⟨p,us,rfl,hp.imp Dt.of El.of,by rw[<- R.length];exact q C H _ (Le.refl _ _) S (.int _)⟩
   cases h with
   |fz Z G =>
    cases e;exact⟨_,_,rfl,.inl Z.sq,by rw[<- G.length];exact q C H _ (Le.refl _ _) S (.int _)⟩
   |@ref n p Z =>
    have e:(match M[n]? with|some (.lst Y)=>Res.ok (MW.D.int Y.length) M|_=>.bad)=Res.ok d M':=e;split at e
    .rename_i Y hM
     cases e;exact fin Y (by simp[MW.j8,MW.d8,hM]) rfl rfl
    .cases e
   |tup Z G=>cases e;exact fin _ rfl rfl rfl|vl Z n1 G=>cases e;exact fin _ rfl rfl rfl|_=>cases e
noncomputable def Ef(f:Dv->Dv->Option Bool)(Z bs:List Dv)(j:Nat):Bool:=match Z[j]?,bs[j]? with
 |some a,some b=>(f a b).getD false|_,_=>false
set_option tactic.hygienic true in
theorem Fw{f:Dv->Dv->Option Bool}:∀{Z bs:List Dv}{r:Bool},MW.T8 f Z bs=some r->(∀(j:Nat) a b,Z[j]?=some a->bs[j]?=some b->∃c,f a b=some c) /\
 r=((List.range (min Z.length bs.length)).all (Ef f Z bs)&&Z.length==bs.length)
 |[],[],r,h=>by cases h;exact⟨λj a b e=>by simp at e,by simp⟩
 |[],b::bs,r,h=>by cases h;exact⟨λj a b e=>by simp at e,by simp⟩
 |a::Z,[],r,h=>by cases h;exact⟨λj a b _ e=>by simp at e,by simp⟩
 |a::Z,b::bs,r,h=>by
  simp only[MW.T8] at h;split at h
  .rename_i x y J h2
   cases h;obtain⟨R,U⟩:=Fw h2;refine⟨λj C b' Y G=>?_,?_⟩
   .cases j with
    |zero=>simp at Y G;subst Y G;exact⟨x,J⟩|succ j=>exact R j C b' (by simpa using Y) (by simpa using G)
   .rw[d7,d7,Nat.succ_min_succ,List.range_succ_eq_map,List.all_cons,List.all_map]
    have z:Ef f (a::Z) (b::bs) 0=x:=by simp[Ef,J]
    have L:(Ef f (a::Z) (b::bs) ∘ Nat.succ)=Ef f Z bs:=by funext j;simp[Ef]
    rw[z,L,U];have S:(Z.length+1==bs.length+1)=(Z.length==bs.length):=by
     by_cases q:Z.length=bs.length
     .simp[q]
     .have:¬(Z.length+1=bs.length+1):=by lia
      simp[q,this]
    rw[S,Bool.and_assoc]
  .cases h
set_option tactic.hygienic true in
theorem J0{Z:Io}{H:Hp}{K:Fg}{f:Dv->Dv->Option Bool}(G:∀x y v r,Rep K Z H x v->Rep K Z H y v->f x y=some r->r=true):∀{J bs:List Dv}{Y:List V}{r:Bool},lz K Z H J Y->lz K Z H bs Y->MW.T8 f J bs=some r->r=true
 |_,_,_,_,.nil,.nil,h=>by cases h;rfl
 |_,_,_,_,.cons h1 t1,.cons h2 t2,h=>by
  simp only[MW.T8] at h;split at h
  .rename_i x y U C
   cases h;rw[G _ _ _ _ h1 h2 U,J0 G t1 t2 C];rfl
  .cases h
inductive EqI(M:dj)(f:Dv->Dv->Option Bool):Dv->Dv->Bool->Prop
 |bl (a b:Bool):EqI M f (.bl a) (.bl b) (a==b)
 |int (a b:Int):EqI M f (.int a) (.int b) (decide (a=b))
 |str (a b:Str):EqI M f (.str a) (.str b) (decide (a=b))
 |tup {as bs:List Dv} {r:Bool} (h:MW.T8 f as bs=some r):EqI M f (.tup as) (.tup bs) r
 |lst {x y:Dv} {as bs:List Dv} {r:Bool} (h1:MW.d8 M x=some as) (h2:MW.d8 M y=some bs) (h:(if as.length=bs.length then MW.T8 f as bs else some false)=some r):EqI M f x y r
set_option tactic.hygienic true in
def Xd(h:MW.Og M (k+1) x y=some r):EqI M (MW.Og M k) x y r:=by
 unfold MW.Og at h;split at h
 .cases h;exact .int _ _
 .cases h;exact .bl _ _
 .cases h;exact .str _ _
 .exact .tup h
 .split at h
  .rename_i Y Z;exact .lst Y Z h
  .cases h
def Zr{X:Cx}(S:j7 nm X.K Z H M)(rx:Rep X.K Z H x v)(R:Rep X.K Z H y v)(h1:MW.d8 M x=some ds)(h2:MW.d8 M y=some es):∃vs,lz X.K Z H ds vs/\lz X.K Z H es vs:=by obtain⟨p,vs,rfl,g1,U⟩:=qp S rx h1;obtain⟨p',ws,hw,G,g4⟩:=qp S R h2;cases hw;rw[g1] at G;cases G;exact⟨vs,U,g4⟩
theorem Xe{nm:Nm}{U:Io}{H:Hp}{M:dj}{X:Cx}(S:j7 nm X.K U H M):∀(k:Nat)(x y:Dv)(v:V)(r:Bool),Rep X.K U H x v->Rep X.K U H y v->MW.Og M k x y=some r->r=true
 |0,_,_,_,_,_,_,h=>by cases h
 |k+1,x,y,v,r,rx,ry,h=>by
  have R:=Xe S k;cases Xd h with
  |bl a b=>cases rx;cases ry;simp|int a b=>cases rx;cases ry;simp|str a b=>cases rx;cases ry;simp
  |tup h=>cases rx with
   |tup e1 Z=>cases ry with
    |tup e2 G=>rw[e1] at e2;cases e2;exact J0 R Z G h
  |lst h1 h2 h3 =>
   obtain⟨vs,Z,G⟩:=Zr S rx ry h1 h2;rw[bh (Z.length.trans G.length.symm)] at h3;exact J0 R Z G h3
def Vals.abx{j:Nat}(r:Vals G U)(h1:G[j]?=some v)(h2:U[j]?=some u):RelV v u:=by obtain⟨u',Z,R⟩:=L2.Vals.get r h1;rw[h2] at Z;cases Z;exact R
set_option tactic.hygienic true in
theorem Tj{nm:Nm}{X:Cx}{ι:Io}{H:Hp}{σ:St}{M:dj}{q0:Zp}{s:Shared}(I:Inv X q0 σ H s)(S:j7 nm X.K ι H M):∀(k:Nat)(A:Around)(x y:Dv)(v u:V)(v' u':Value)(r:Bool),ye k A->Rep X.K ι H x v->Rep X.K ι H y u->RelV v v'->RelV u u'->MW.Og M k x y=some r->SeqAt.EqAt A s v' u' r
 |0,_,_,_,_,_,_,_,_,_,_,_,_,_,h=>by cases h
 |k+1,A,x,y,v,u,v',u',r,hr,rx,ry,rv,ru,h=>by
  have ih:=Tj I S k A.in1;have q4:=hr.in1;have elems:∀(Z Y:List Dv)(vs ws:List V)(is J:Zl)(rr:Bool),lz X.K ι H Z vs->lz X.K ι H Y ws->Vals vs is->Vals ws J->MW.T8 (MW.Og M k) Z Y=some rr ->
   ∀j (h1:j<is.toArray.size) (h2:j<J.toArray.size),SeqAt.EqAt A.in1 s is.toArray[j] J.toArray[j] (Ef (MW.Og M k) Z Y j):=λZ Y vs ws is J rr rd re K7 qv he j h1 h2=>by
   have l1:j<Z.length:=by rw[rd.length,K7.length];simpa using h1
   have l2:j<Y.length:=by rw[re.length,qv.length];simpa using h2
   have L:Z[j]?=some Z[j]:=by simp[l1]
   have G:Y[j]?=some Y[j]:=by simp[l2]
   obtain⟨c,hc⟩:=(Fw he).1 j _ _ L G;obtain⟨va,a1,a2⟩:=rd.get L;obtain⟨wa,b1,b2⟩:=re.get G;have q1:is[j]?=some is.toArray[j]:=by simp
   have q2:J[j]?=some J.toArray[j]:=by simp
   have:=ih _ _ va wa _ _ c q4 a2 b2 (Vals.abx K7 a1 q1) (Vals.abx qv b1 q2) hc;have z:Ef (MW.Og M k) Z Y j=c:=by simp[Ef,L,G,hc]
   rw[z];exact this
  have qk:∀(p p2:Addr)(Z Y:List Dv),v=.ref p->u=.ref p2->MW.d8 M x=some Z->MW.d8 M y=some Y->(if Z.length=Y.length then MW.T8 (MW.Og M k) Z Y else some false)=some r->SeqAt.EqAt A s v' u' r:=λp p2 Z Y hv hu h1 h2 R=>by
   subst hv hu;cases rv;cases ru;obtain⟨_,vs,hv,L,G⟩:=qp S rx h1;cases hv;obtain⟨_,ws,hw,g3,g4⟩:=qp S ry h2;cases hw
   by_cases U:p=p2
   .subst U
    have:r=true:=by rw[L] at g3;cases g3;rw[bh (G.length.trans g4.length.symm)] at R;exact J0 (λx y v r a b c=>Xe S k x y v r a b c) G g4 R
    rw[this];exact SeqAt.EqAt.same _
   .refine SeqAt.EqAt.of_refs U ?_
    obtain⟨is,r1,C,_⟩:=I.list (Dt.of L);obtain⟨J,r2,qq,_⟩:=I.list (Dt.of g3)
    by_cases hl:Z.length=Y.length
    .rw[bh hl] at R
     have q3:is.toArray.size=J.toArray.size:=by simp[<- r1.length,<- r2.length,<- G.length,<- g4.length,hl]
     have:=SeqAt.RcAt.lists (e:=Ef (MW.Og M k) Z Y) C.isList qq.isList q3 hr.Sq (elems Z Y vs ws is J r G g4 r1 r2 R);rw[(Fw R).2];have e1:is.toArray.size=min Z.length Y.length:=by simp[<- r1.length,<- G.length,hl]
     rw[e1] at this;simpa[hl] using this
    .rw[bj hl] at R
     cases R;exact SeqAt.RcAt.lists_lengths C.isList qq.isList (by simp[<- r1.length,<- r2.length,<- G.length,<- g4.length,hl]) hr.Sq
  cases Xd h with
  |bl a b=>cases rx;cases ry;cases rv;cases ru;exact SeqAt.EqAt.bool_bool _ _
  |int a b =>
   cases rx;cases ry;obtain⟨t,rfl⟩:=rv;obtain⟨t2,rfl⟩:=ru;rw[<- Bool.beq_eq_decide_eq];exact SeqAt.EqAt.int_int _ _ _ _
  |str a b =>
   cases rx;cases ry;obtain⟨t,rfl⟩:=rv;obtain⟨t2,rfl⟩:=ru;rw[<- Bool.beq_eq_decide_eq];exact SeqAt.EqAt.str_str _ _ _ _
  |@tup Z Y _ h=>cases rx with
   |@tup p _ vs e1 r1=>cases ry with
    |@tup p2 _ ws e2 r2 =>
     cases rv;cases ru
     by_cases U:p=p2
     .subst U
      have:r=true:=by rw[e1] at e2;cases e2;exact J0 (λx y v r a b c=>Xe S k x y v r a b c) r1 r2 h
      rw[this];exact SeqAt.EqAt.same _
     .refine SeqAt.EqAt.of_refs U ?_
      obtain⟨is,L,C,_⟩:=I.tuple (El.of e1);obtain⟨J,G,qq,_⟩:=I.tuple (El.of e2);have:=SeqAt.RcAt.tuples (e:=Ef (MW.Og M k) Z Y) (show s.heap.IsTuple p is.toArray from C) (show s.heap.IsTuple p2 J.toArray from qq) hr.Sq (elems Z Y vs ws is J r r1 r2 L G h);rw[(Fw h).2];have z1:is.toArray.size=Z.length:=by simp[<- L.length,<- r1.length]
      have z2:J.toArray.size=Y.length:=by simp[<- G.length,<- r2.length]
      rw[z1,z2] at this;exact this
  |lst h1 h2 R =>
   obtain⟨p,_,e1,_⟩:=qp S rx h1;obtain⟨p2,_,e2,_⟩:=qp S ry h2;exact qk p p2 _ _ e1 e2 h1 h2 R
inductive Xf(A:Around)(s:Shared):Value->Value->Bool->Prop
 |Sd {p p2:Addr} {is js:Xt} (e:Nat->Bool) (h1:s.heap.IsTuple p is) (h2:s.heap.IsTuple p2 js) (he:∀j (h1:j<is.size) (h2:j<js.size),SeqAt.EqAt A.in1 s is[j] js[j] (e j)):Xf A s (.ref p) (.ref p2) ((List.range (min is.size js.size)).all e&&is.size==js.size)
 |a02 {p p2:Addr} {is js:Xt} (e:Nat->Bool) (h1:s.heap.IsList p is) (h2:s.heap.IsList p2 js) (hz:is.size=js.size) (he:∀j (h1:j<is.size) (h2:j<js.size),SeqAt.EqAt A.in1 s is[j] js[j] (e j)):Xf A s (.ref p) (.ref p2) ((List.range is.size).all e)
 |lens {p p2:Addr} {is js:Xt} (h1:s.heap.IsList p is) (h2:s.heap.IsList p2 js) (hz:(is.size != js.size)=true):Xf A s (.ref p) (.ref p2) false
def Vj{A:Around}(I:Inv X pins σ H s)(S:j7 nm X.K ι H M)(hr:ye k A.in1)(rd:lz X.K ι H ds vs)(re:lz X.K ι H es ws)(K7:Vals vs is)(Z:Vals ws G)(he:MW.T8 (MW.Og M k) ds es=some rr) :
 ∀j (h1:j<is.toArray.size) (h2:j<G.toArray.size),SeqAt.EqAt A.in1 s is.toArray[j] G.toArray[j] (Ef (MW.Og M k) ds es j):=λj h1 h2=>by
 have l1:j<ds.length:=by rw[rd.length,K7.length];simpa using h1
 have l2:j<es.length:=by rw[re.length,Z.length];simpa using h2
 have R:ds[j]?=some ds[j]:=by simp[l1]
 have U:es[j]?=some es[j]:=by simp[l2]
 obtain⟨c,hc⟩:=(Fw he).1 j _ _ R U;obtain⟨va,a1,a2⟩:=rd.get R;obtain⟨wa,b1,b2⟩:=re.get U;have q1:is[j]?=some is.toArray[j]:=by simp
 have q2:G[j]?=some G.toArray[j]:=by simp
 have:=Tj I S k A.in1 _ _ va wa _ _ c hr a2 b2 (Vals.abx K7 a1 q1) (Vals.abx Z b1 q2) hc;have z:Ef (MW.Og M k) ds es j=c:=by simp[Ef,R,U,hc]
 rw[z];exact this
def aby(I:Inv X pins σ H s)(S:j7 nm X.K ι H M)(hr:ye k A.in1)(rx:Rep X.K ι H x v)(ry:Rep X.K ι H y u)(rv:RelV v v')(ru:RelV u u')(h1:MW.d8 M x=some ds)(h2:MW.d8 M y=some es)(U:(if ds.length=es.length then MW.T8 (MW.Og M k) ds es else some false)=some r):Xf A s v' u' r:=by
 obtain⟨p,vs,rfl,g1,g2⟩:=qp S rx h1;obtain⟨p2,ws,rfl,g3,g4⟩:=qp S ry h2;cases rv;cases ru;obtain⟨is,r1,G,_⟩:=I.list (Dt.of g1);obtain⟨js,r2,R,_⟩:=I.list (Dt.of g3)
 by_cases Z:ds.length=es.length
 .rw[bh Z] at U
  have qq:is.toArray.size=js.toArray.size:=by simp[<- r1.length,<- r2.length,<- g2.length,<- g4.length,Z]
  have z:=Xf.a02 (A:=A) (Ef (MW.Og M k) ds es) G.isList R.isList qq (Vj I S hr g2 g4 r1 r2 U);rw[(Fw U).2];have e1:is.toArray.size=min ds.length es.length:=by simp[<- r1.length,<- g2.length,Z]
  rw[e1] at z;simpa[Z] using z
 .rw[bj Z] at U
  cases U;exact .lens G.isList R.isList (by simp[<- r1.length,<- r2.length,<- g2.length,<- g4.length,Z])
set_option tactic.hygienic true in
def Zt(I:Inv X pins σ H s)(S:j7 nm X.K L H M)(hr:ye k A.in1)(Y:Rep X.K L H x v)(Z:Rep X.K L H y u)(rv:RelV v v')(C:RelV u u')(h:MW.Og M (k+1) x y=some r) :
 Xf A s v' u' r\/(aue v u=true/\r=decide (v=u)):=by
 cases Xd h with
 |bl a b=>cases Y;cases Z;exact .inr ⟨rfl,by by_cases z:a=b<;>simp[z]⟩|int a b=>cases Y;cases Z;exact .inr ⟨rfl,by by_cases z:a=b<;>simp[z]⟩|str a b=>cases Y;cases Z;exact .inr ⟨rfl,by by_cases z:a=b<;>simp[z]⟩
 |@tup ds es _ h=>cases Y with
  |@tup p _ vs e1 r1=>cases Z with
   |@tup p2 _ ws e2 r2 =>
    cases rv;cases C;obtain⟨is,R,G,_⟩:=I.tuple (El.of e1);obtain⟨js,U,J,_⟩:=I.tuple (El.of e2);have z:=Xf.Sd (A:=A) (Ef (MW.Og M k) ds es) (show s.heap.IsTuple p is.toArray from G) (show s.heap.IsTuple p2 js.toArray from J) (Vj I S hr r1 r2 R U h);rw[(Fw h).2];have z1:is.toArray.size=ds.length:=by simp[<- R.length,<- r1.length]
    have z2:js.toArray.size=es.length:=by simp[<- U.length,<- r2.length]
    rw[z1,z2] at z;exact .inl z
 |lst h1 h2 h3=>exact .inl (aby I S hr Y Z rv C h1 h2 h3)
def Xf.rc(h:Xf A s v u r)(U:A.units<cLine):SeqAt.RcAt A s v u r/\SeqAt.RcNeAt A s v u (!r):=by
 cases h with
 |Sd e G Z R=>exact⟨SeqAt.RcAt.tuples G Z U R,SeqAt.RcNeAt.tuples G Z U R⟩|a02 e G Z hz R=>exact⟨SeqAt.RcAt.lists G Z hz U R,SeqAt.RcNeAt.lists G Z hz U R⟩|lens G Z hz=>exact⟨SeqAt.RcAt.lists_lengths G Z hz U,SeqAt.RcNeAt.lists_lengths G Z hz U⟩
def a7s(R:ye 6 X.A):Aw X (compareOp .Eq) (T7 nm X.K .eq):=λZ s σ H v u v' u' Q I U G hh=>by
 obtain⟨ι,M,x,y,b,S,rx,ry,e,q⟩:=hh;have e:MW.Og M 6 x y=some b:=e;rcases Zt (A:=X.A) I S R.in1 rx ry U G e with h|⟨h1,h2⟩
 .exact(h.rc R.Sq).1 X.prog X.w X.xe _ ⟨.bl b,H,I,rfl,q⟩
 .subst h2
  exact ay7 Z s σ H v u v' u' Q I U G ⟨h1,q⟩
def a7t(R:ye 6 X.A):Aw X (compareOp .NotEq) (T7 nm X.K .ne):=λZ s σ H v u v' u' Q I U G hh=>by
 obtain⟨ι,M,x,y,b,S,rx,ry,e,q⟩:=hh;obtain⟨b',e1,e2⟩:=bx.mp (show(MW.n8 M x y).map not=some b from e);subst e2;rcases Zt (A:=X.A) I S R.in1 rx ry U G (show MW.Og M 6 x y=_ from e1) with h|⟨h1,h2⟩
 .exact(h.rc R.Sq).2 X.prog X.w X.xe _ ⟨.bl !b',H,I,rfl,q⟩
 .subst h2
  exact ay8 Z s σ H v u v' u' Q I U G ⟨h1,q⟩
section
variable{nm:Nm}{W:Ks}{X:Cx}{a b c o:Expr}{a' b' c' o':Ex}{pos pos' apos:Pos}{ι:Io}{H:Hp}{σ:St}{ρ:En}{M M1 M2:dj}{x y:Dv}{es:Ya}{es':Dd}
set_option tactic.hygienic true in
theorem Kp:∀{Z:List Dv}{bs:List Bool},MW.Qg M x Z=some bs->bs.length=Z.length/\∀(j:Nat) d,Z[j]?=some d->∃b,bs[j]?=some b/\MW.n8 M d x=some b
 |[],bs,h=>by cases h;exact⟨rfl,λj d e=>by simp at e⟩
 |y::ys,bs,h=>by
  simp only[MW.Qg] at h;split at h
  .rename_i a b U J
   cases h;obtain⟨G,Y⟩:=Kp J;refine⟨by simp[G],λj d e=>?_⟩;cases j with
   |zero=>simp at e;subst e;exact⟨a,rfl,U⟩|succ j=>simpa using Y j d (by simpa using e)
  .cases h
def Ej(I:Inv X pins σ H s)(e:W6 X.K H p G):(∃o,H p=some (.Gu o (.lst G)))\/(H p=none/\∃(o:Obj)(Z:Xt)(n:Nat),X.K.lookup p=some o/\o.data=.seq Z n/\Vals G Z.toList):=by
 rcases e with h|⟨o,Z,n,h1,_,_,h2,_,h3⟩
 .exact .inl h
 .exact .inr ⟨(I.bs p o (I.mod.kin p o h1)).2,o,Z,n,h1,h2,h3⟩
def avh(I:Inv X pins σ H s)(e:W6 X.K H p vs)(e2:W6 X.K H p ws):vs=ws:=by
 rcases Ej I e with⟨o,h⟩|⟨h,o,q9,n,h1,h2,h3⟩
 .rcases Ej I e2 with⟨o',Z⟩|⟨Z,_⟩
  .rw[h] at Z;cases Z;rfl
  .rw[h] at Z;cases Z
 .rcases Ej I e2 with⟨o',Z⟩|⟨_,o',qq,n',G,U,R⟩
  .rw[h] at Z;cases Z
  .rw[h1] at G;cases G
   rw[h2] at U;cases U;exact Vals.inj h3 R
mutual
theorem aee{R:Zp}{s:Shared}(I:Inv X R σ H s)(S:j7 nm X.K ι H M):∀{d d':Dv}{v:V},Rep X.K ι H d v->Rep X.K ι H d' v->d=d'
 |_,_,_,.non,r=>by cases r;rfl|_,_,_,.bl b,r=>by cases r;rfl|_,_,_,.int i,r=>by cases r;rfl|_,_,_,.str z,r=>by cases r;rfl
 |_,_,_,.tup e1 r1,r=>by
  cases r with
  |tup Z G =>
   rw[e1] at Z;cases Z;rw[N5 I S r1 G]
  |vl Z n2 G=>rw[e1] at Z;cases Z
  |fz Z G =>
   rcases Ej I Z with⟨o,h⟩|⟨h,_⟩
   .rw[e1] at h;cases h
   .rw[e1] at h;cases h
  |ref Z =>
   obtain⟨u,q,U⟩:=S.mem (bf Z);rw[e1] at U;exact U.elim
 |_,_,_,.vl e1 n1 r1,r=>by
  cases r with
  |tup Z G=>rw[e1] at Z;cases Z
  |vl Z n2 G =>
   rw[e1] at Z;cases Z;rw[N5 I S r1 G]
  |fz Z G =>
   rcases Ej I Z with⟨o,h⟩|⟨h,_⟩
   .rw[e1] at h;cases h
   .rw[e1] at h;cases h
  |ref Z=>exact absurd (bf Z) n1.1
 |_,_,_,.fz e1 r1,r=>by
  cases r with
  |tup Z G =>
   rcases Ej I e1 with⟨o,h⟩|⟨h,_⟩
   .rw[Z] at h;cases h
   .rw[Z] at h;cases h
  |vl Z n2 G =>
   rcases Ej I e1 with⟨o,h⟩|⟨h,_⟩
   .rw[Z] at h;cases h
   .rw[Z] at h;cases h
  |fz Z G =>
   have:=avh I e1 Z;subst this;rw[N5 I S r1 G]
  |ref Z =>
   obtain⟨u,q,U⟩:=S.mem (bf Z);rcases Ej I e1 with⟨o,h⟩|⟨h,_⟩
   .rw[h] at U;exact U.elim
   .rw[h] at q;cases q
 |_,_,_,.ref e1,r=>by
  cases r with
  |tup Z G =>
   obtain⟨u,q,U⟩:=S.mem (bf e1);rw[Z] at U;exact U.elim
  |vl Z n2 G=>exact absurd (bf e1) n2.1
  |fz Z G =>
   obtain⟨u,q,U⟩:=S.mem (bf e1);rcases Ej I Z with⟨o,h⟩|⟨h,_⟩
   .rw[h] at U;exact U.elim
   .rw[h] at q;cases q
  |ref Z =>
   obtain⟨l1,q1⟩:=ak.mp e1;obtain⟨l2,q2⟩:=ak.mp Z;rw[(xq S.nd).mp (q1.trans q2.symm)]
theorem N5{G:Zp}{s:Shared}(I:Inv X G σ H s)(S:j7 nm X.K ι H M):∀{R Z:List Dv}{U:List V},lz X.K ι H R U->lz X.K ι H Z U->R=Z
 |_,_,_,.nil,r=>by cases r;rfl
 |_,_,_,.cons h t,r=>by
  cases r with
  |cons h2 t2=>rw[aee I S h h2,N5 I S t t2]
end
def Xg(I:Inv X pins σ H s)(S:j7 nm X.K ι H M)(hr:ye 6 A)(rd:lz X.K ι H ds vs)(U:Vals vs is)(rx:Rep X.K ι H x u)(ru:RelV u u')(h:MW.Qg M x ds=some bs):∃e:Value->Bool,(∀w,w∈is.toArray->SeqAt.EqAt A s w u' (e w))/\∀(j:Nat)(w:Value),is[j]?=some w->bs[j]?=some (e w):=by
 obtain⟨g1,g2⟩:=Kp h;have G:∀(j:Nat)(w:Value),is[j]?=some w->∃b,bs[j]?=some b/\SeqAt.EqAt A s w u' b:=λj w hw=>by
  have lj:j<ds.length:=by rw[rd.length,U.length];exact(ak.mp hw).1
  have gd:ds[j]?=some ds[j]:=by simp[lj]
  obtain⟨b,R,e2⟩:=g2 j _ gd;obtain⟨v,a1,a2⟩:=rd.get gd;exact⟨b,R,Tj I S 6 A _ _ v u w u' b hr a2 rx (Vals.abx U a1 hw) ru e2⟩
 classical
 refine⟨λw=>if hw:∃j:Nat,is[j]?=some w then(bs[hw.choose]?).getD false else false,λw hw=>?_,λj w hw=>?_⟩
 .obtain⟨j,hj,e⟩:=v5 (by simpa using hw:w∈is)
  have Z:∃j:Nat,is[j]?=some w:=⟨j,by simp[hj,e]⟩;obtain⟨b,R,e2⟩:=G Z.choose w Z.choose_spec;simp only[dif_pos Z,R,Option.getD_some];exact e2
 .have Z:∃j:Nat,is[j]?=some w:=⟨j,hw⟩
  obtain⟨b,R,e2⟩:=G j w hw;obtain⟨b',e3,e4⟩:=G Z.choose w Z.choose_spec;simp only[dif_pos Z,e3,Option.getD_some];rw[R]
  congr 1
  have lj:j<ds.length:=by rw[rd.length,U.length];exact(ak.mp hw).1
  have lk:Z.choose<ds.length:=by rw[rd.length,U.length];exact(ak.mp Z.choose_spec).1
  have gd:ds[j]?=some ds[j]:=by simp[lj]
  have gk:ds[Z.choose]?=some ds[Z.choose]:=by simp[lk]
  obtain⟨c1,q1,q2⟩:=g2 j _ gd;obtain⟨c2,q3,q4⟩:=g2 Z.choose _ gk;obtain⟨v1,p1,p2⟩:=rd.get gd;obtain⟨v2,p3,p4⟩:=rd.get gk;have hv:v1=v2:=RelV.inj (Vals.abx U p1 hw) (Vals.abx U p3 Z.choose_spec);subst hv;rw[R] at q1;rw[e3] at q3;cases q1;cases q3;have hd:=aee I S p2 p4;rw[hd,q4] at q2;exact(gj q2).symm
def aow{is:Zl}{bs:List Bool}(Z:bs.length=is.length)(h:∀(j:Nat) (w:Value),is[j]?=some w->bs[j]?=some (e w)):bs=is.map e:=by
 apply List.ext_getElem?;intro j;rw[ig];cases q:is[j]? with
 |none=>rw[wy (by rw[Z];exact List.getElem?_eq_none_iff.mp q)];rfl|some w=>rw[h j w q];rfl
def aq4{b:Bool}(n:Bool)(hr:ye 8 X.A)(S:j7 nm X.K ι H M)(I:Inv X pins σ H s)(rv:RelV v v')(ru:RelV u u')(rx:Rep X.K ι H x v)(ry:Rep X.K ι H y u)(e:MW.Iu M x y=some b)(q:Q (.bl (cond n (!b) b)) H):wpAny (model X.prog X.w) X.A (compareOp (cond n .NotIn .In) v' u') (EP X pins σ Q) X.xe s:=by
 have qq:∀U,MW.j8 M y=some U->MW.memD M x U=some b->wpAny (model X.prog X.w) X.A (compareOp (cond n .NotIn .In) v' u') (EP X pins σ Q) X.xe s:=λU h1 R=>by
  obtain⟨bs,e1,e2⟩:=bx.mp (show(MW.Qg M x U).map (·.any id)=some b from R);obtain⟨p,vs,rfl,hp,r⟩:=Em S ry h1;cases ru;have fin:∀{is:Zl}{f:Value->Bool},Vals vs is->(∀(j:Nat)(w:Value),is[j]?=some w->bs[j]?=some (f w))->is.toArray.any f=b:=fun{is f} Z g2=>by have:=aow (by rw[(Kp e1).1,r.length,Z.length]) g2;rw[this] at e2;rw[<- e2];simp[List.any_map]
  rcases hp with hp|hp
  .obtain⟨is,Z,pl,_⟩:=I.list (Dt.of hp)
   obtain⟨f,g1,g2⟩:=Xg (A:=X.A.in1) I S ((hr.mono (by decide:7<=8)).in1) r Z rx rv e1;have a:=fin Z g2;subst a;cases n with
   |false=>exact SeqAt.in_listAt f pl.isList g1 ⟨.bl _,H,I,rfl,q⟩|true=>exact SeqAt.notIn_listAt f pl.isList g1 ⟨.bl _,H,I,rfl,q⟩
  .obtain⟨is,Z,pl,_⟩:=I.tuple (El.of hp)
   obtain⟨f,g1,g2⟩:=Xg (A:=X.A.in1) I S ((hr.mono (by decide:7<=8)).in1) r Z rx rv e1;have a:=fin Z g2;subst a;cases n with
   |false=>exact SeqAt.in_tupleAt f (show s.heap.IsTuple p is.toArray from pl) g1 ⟨.bl _,H,I,rfl,q⟩
   |true=>exact SeqAt.notIn_tupleAt f (show s.heap.IsTuple p is.toArray from pl) g1 ⟨.bl _,H,I,rfl,q⟩
 have G:(MW.j8 M y).bind (MW.memD M x)=some b->wpAny (model X.prog X.w) X.A (compareOp (cond n .NotIn .In) v' u') (EP X pins σ Q) X.xe s:=λe=>by obtain⟨U,h1,R⟩:=ir.mp e;exact qq U h1 R
 cases y with
 |ref m =>
  cases hM:M[m]? with
  |none=>simp only[MW.Iu,hM] at e;exact G e
  |some o=>cases o with
   |dT m9 =>
    simp only[MW.Iu,hM] at e;obtain⟨k,e2,e3⟩:=bx.mp e;cases ry with
    |ref e1 =>
     obtain⟨l,h1,R⟩:=S.obj m _ _ hM e1;obtain⟨bb,rfl,hb⟩:=Ox rx e2;cases ru;have a:b=(Nt l k).isSome:=by
      rw[<- e3];cases hk:MW.Ac m9 k with
      |none=>rw[(R.look (k:=k)).2 hk];rfl|some d=>obtain⟨z,h3,_⟩:=(R.look (k:=k)).1 d hk;rw[h3];rfl
     subst a;cases n with
     |false=>exact a6x (Vc hr) I (Su.t h1 hb) rv λs' I'=>⟨.bl _,H,I',rfl,q⟩
     |true=>exact anx (Vc hr) I (Su.t h1 hb) rv λs' I'=>⟨.bl _,H,I',rfl,q⟩
   |_=>simp only[MW.Iu,hM] at e;exact G e
 |_=>exact G e
def a7u(hr:ye 8 X.A):Aw X (compareOp .In) (T7 nm X.K .inn):=λZ s σ H v u v' u' Q I R U hh=>by obtain⟨ι,M,x,y,b,S,rx,G,e,q⟩:=hh;exact aq4 false hr S I R U rx G e q
def aox(hr:ye 8 X.A):Aw X (compareOp .NotIn) (T7 nm X.K .Uk):=λZ s σ H v u v' u' Q I rv R G=>by obtain⟨ι,M,x,y,c,S,rx,U,e,q⟩:=G;obtain⟨b,e',rfl⟩:=bx.mp (show(MW.Iu M x y).map not=some c from e);exact aq4 true hr S I rv R rx U e' q
end
def rM(R:Nm)(K:Fg)(m:Bm):V->List V->Hp->VK->Prop:=λv vs H Q=>∃G M x ds d M',j7 R K G H M/\Rep K G H x v/\lz K G H ds vs/\MW.Bj m x ds M=.ok d M' /\
 ∀Z U w,Le G H Z U->j7 R K Z U M'->Rep K Z U d w->Q w U
set_option tactic.hygienic true in
theorem aj8{id:String}(hT:∀L H M x v,j7 nm X.K L H M->Rep X.K L H x v->MW.Iz m x M=true->tyV X.K T v H)(pa:PlainAttrs T)(Y:Slot T name id)(qq:typeOf (.builtin id)=pure (.type "method_descriptor"))(hm:MtR X id (rM nm X.K m))(ho:PE X o (tE nm W X.K o'))(ha:PA X (e::es) (Xv nm W X.K C))(Y9:attributeBase o name X.env (eval o X.env)=eval o X.env)(qk:((backTo G (starEach (e::es) X.env)).all (λx=>!x.1)&&(backToKw G (keywordEach [] X.env)).all (λx=>x.1.isSome)
&&decide ((e::es).length+([]:List Keyword).length+(if([]:List Keyword).isEmpty then 0 else 1)<30))=true)(Za:(apos.endLine==G.line)=true)(hs:starEach (e::es) X.env=(false,eval e X.env)::starEach es X.env)(J:(backTo G (starEach es X.env)).any (·.1)=false) :
 PE X (.Call (.Attribute o name apos) (e::es) [] G) (tE nm W X.K (.bm m o' C)) :=
 PE.of (azv pa Y qq hm ho ha Y9 qk Za hs J) fun σ H Q L ρ M d M' S R e q=>by
  rw[MW.aru] at e;obtain⟨x,M1,e1,e⟩:=dz e;split at e
  .rename_i ht
   obtain⟨ds,M2,e2,e⟩:=dz e;exact one S R e1 λZ H1 v le S1 R1 r=>⟨hT Z H1 M1 x v S1 r ht,Z,ρ,M1,ds,M2,S1,R1,e2,λqv H2 vs yd S2 rs=>⟨qv,M2,x,ds,d,M',S2,r.mono yd,rs,e,λU H' w Vf S' r'=>q U H' w ((le.trans yd).trans Vf) S' r'⟩⟩
  .cases e
def aef(h:MW.onL o M f=.ok d M'):∃n Z,o=.ref n/\M[n]?=some (.lst Z)/\f n Z=.ok d M':=by
 cases o with
 |ref n =>
  simp only[MW.onL] at h;cases e:M[n]? with
  |none=>rw[e] at h;cases h
  |some o=>cases o with
   |lst Z=>rw[e] at h;exact⟨n,Z,rfl,e,h⟩|_=>rw[e] at h;cases h
 |_=>cases h
def Ls{Z:List Dv}(h:MW.Ga Z g=.ok d M'):∃x,Z=[x]/\g x=.ok d M':=by
 match Z,h with
 |[x],h=>exact⟨x,rfl,h⟩|[],h=>cases h|_::_::_,h=>cases h
def Tn{c:Prop}[Decidable c]{r:Res α}(h:(if c then r else .bad)=.ok d M'):c/\r=.ok d M':=by
 by_cases z:c
 .rw[bh z] at h;exact⟨z,h⟩
 .rw[bj z] at h;cases h
def ty_list{X:Cx}(S:j7 nm X.K G H M)(r:Rep X.K G H x v)(h:(MW.d8 M x).isSome=true):tyV X.K "list" v H:=by obtain⟨ds,R⟩:=jx.mp h;obtain⟨p,Z,rfl,U,_⟩:=qp S r R;exact .inl ⟨rfl,Z,Dt.of U⟩
def aj9:MtR X "list.append" (rM nm X.K .append):=λZ s σ H v vs u us Q I ru K7 hh=>by
 obtain⟨ι,M,x,ds,d,M',S,r,rs,e,q⟩:=hh;obtain⟨n,xs,rfl,R,e1⟩:=aef e;obtain⟨d0,rfl,e2⟩:=Ls e1;obtain⟨hl,e3⟩:=Tn e2;cases e3;cases r with
 |ref G =>
  obtain⟨ys,h3,U⟩:=S.obj n _ _ R G;cases rs with
  |cons hd ht =>
   cases ht;refine Va Z s σ H _ _ u us Q I ru K7 ⟨_,ys,_,rfl,rfl,h3,by rw[<- U.length];exact Nz hl,?_⟩;obtain⟨S2,yd⟩:=S.put (u:=.lst (ys++[_])) (o:=.lst (xs++[_])) R G λle=>⟨_,qu,(U.mono le).append (.cons (hd.mono le) .nil)⟩
   exact q _ _ _ yd S2 .non
def aka:MtR X "list.extend" (rM nm X.K .extend):=λZ s σ H v vs u us Q I ru K7 hh=>by
 obtain⟨ι,M,x,ds,d,M',S,r,rs,e,q⟩:=hh;obtain⟨n,xs,rfl,hM,e1⟩:=aef e;obtain⟨y,rfl,U⟩:=Ls e1;cases hy:MW.d8 M y with
 |none=>rw[hy] at U;cases U
 |some zs =>
  rw[hy] at U;obtain⟨⟨_,hl⟩,e3⟩:=Tn U;cases e3;cases r with
  |ref R =>
   obtain⟨ys,h3,h4⟩:=S.obj n _ _ hM R;cases rs with
   |cons hd ht =>
    cases ht;obtain⟨b,G,rfl,h5,h6⟩:=qp S hd hy;refine af4 Z s σ H _ _ u _ Q I ru K7 ⟨_,b,ys,G,rfl,rfl,h3,h5,by rw[<- h4.length,<- h6.length];exact u9 (Nz hl),?_⟩;obtain⟨S2,yd⟩:=S.put (u:=.lst (ys++G)) (o:=.lst (xs++zs)) hM R λle=>⟨_,qu,(h4.mono le).append (h6.mono le)⟩
    exact q _ _ _ yd S2 .non
set_option tactic.hygienic true in
theorem ints_rep{L:Io}{H:Hp}{K:Fg}:∀{G:List Dv}{Y:List V}{is:Zl}{J:X9},lz K L H G Y->Vals Y is->MW.inL G=some J->∃Z:Array (Int×Tok),is.toArray=intItems Z/\Z.toList.map (·.1)=J
 |_,_,_,_,.nil,.nil,h=>by cases h;exact⟨#[],by simp[intItems],rfl⟩
 |_,_,_,_,.cons r t,.cons rv tv,h=>by
  cases r<;>simp only[MW.inL] at h<;>try cases h
  rename_i i;obtain⟨qq,e1,e2⟩:=bx.mp h;obtain⟨Z,S,C⟩:=ints_rep t tv e1;obtain⟨R,rfl⟩:=rv;refine⟨#[(i,R)]++Z,?_,by simp[C,e2]⟩;have U:=o4 Array.toList S;apply Array.toList_inj.mp;simp[intItems] at U ⊢;exact U
theorem Zu:∀(l:X9)(z m:Int),(m=z\/m∈l)->z<=m->(∀a∈l,a<=m)->l.foldl (λm x=>if m<x then x else m) z=m
 |[],z,m,h,_,_=>by rcases h with h|h;exact h.symm;cases h
 |a::l,z,m,h,hz,Ld=>by
  rw[List.foldl_cons];have U:=Ld a bz;refine Zu l _ m ?_ (by split<;>lia) (λb G=>Ld b (bu _ G));rcases h with h|h
  .subst h;left;split<;>lia
  .rcases dh.mp h with h|h
   .subst h
    by_cases Z:z<m
    .left;rw[bh Z]
    .left;rw[bj Z];lia
   .exact .inr h
theorem Zv:∀(l:X9)(z m:Int),(m=z\/m∈l)->m<=z->(∀a∈l,m<=a)->l.foldl (λm x=>if x<m then x else m) z=m
 |[],z,m,h,_,_=>by rcases h with h|h;exact h.symm;cases h
 |a::l,z,m,h,hz,Ld=>by
  rw[List.foldl_cons];have U:=Ld a bz;refine Zv l _ m ?_ (by split<;>lia) (λb G=>Ld b (bu _ G));rcases h with h|h
  .subst h;left;split<;>lia
  .rcases dh.mp h with h|h
   .subst h
    by_cases Z:m<z
    .left;rw[bh Z]
    .left;rw[bj Z];lia
   .exact .inr h
def aoy(e:MW.two ds f g M=.ok d Z):Z=M/\((∃i j,ds=[.int i,.int j]/\d=.int (f i j))\/∃x m,ds=[x]/\g x=some m/\d=.int m):=by
 cases ds with
 |nil=>cases e
 |cons x r=>cases r with
  |nil =>
   obtain⟨R,e2⟩:=su (show Res.qx ((g x).map MW.D.int) M=.ok d Z from e);obtain⟨m,G,U⟩:=bx.mp R;exact⟨e2,.inr ⟨x,m,rfl,G,U.symm⟩⟩
  |cons y r=>cases r with
   |nil =>
    cases x<;>try cases e
    cases y<;>cases e;exact⟨rfl,.inl ⟨_,_,rfl,rfl⟩⟩
   |cons _ _=>cases e
def Zw{h:List Int->Option Int}(e:MW.two ds f (λd=>((MW.j8 M d).bind MW.inL).bind h) M=.ok d M'):M'=M/\((∃i j,ds=[.int i,.int j]/\d=.int (f i j))\/∃x G n Z m,ds=[x]/\MW.j8 M x=some G/\MW.inL G=some (n::Z)/\h (n::Z)=some m/\d=.int m\/h []=some m):=by
 obtain⟨a,b|⟨x,m,h3,R,h5⟩⟩:=aoy e
 .exact⟨a,.inl b⟩
 .obtain⟨Z,e5,U⟩:=ir.mp R
  obtain⟨G,e7,e8⟩:=ir.mp e5;cases Z with
  |nil=>exact⟨a,.inr ⟨x,G,0,[],m,.inr U⟩⟩|cons n Z=>exact⟨a,.inr ⟨x,G,n,Z,m,.inl ⟨h3,e7,e8,U,h5⟩⟩⟩
def abz(h:Vals [v] Z):∃u,Z=[u]/\RelV v u:=L2.Vals.one h
def Vl(h:i<Z.size):(Z.toList.map (·.1))[i]?=some (numAt Z i):=by simp[numAt,h]
def best{Z:Array (Int×Tok)}{R:Int->Int->Prop}(U:Z.toList.map (·.1)=n::l)(h:b<Z.size)(b2:∀i,i<Z.size->R (numAt Z i) (numAt Z b)):(numAt Z b=n\/numAt Z b∈l)/\∀a∈n::l,R a (numAt Z b):=by
 constructor
 .have:=bf (Vl h)
  rw[U] at this;exact dh.mp this
 .intro a ha
  rw[<- U] at ha;obtain⟨i,G⟩:=iy.mp ha;have li:i<Z.size:=by have:=(ak.mp G).1;simpa using this
  rw[Vl li] at G;cases G;exact b2 i li
def aeg(r:lz K ι H [.int i,.int j] Z):Z=[.int i,.int j]:=by
 cases r with
 |cons h1 G=>cases G with
  |cons R U=>cases U;cases h1;cases R;rfl
def aeh(I:Inv X pins σ H s)(S:j7 nm X.K ι H M)(r:lz X.K ι H [x] vs)(K7:Vals vs us)(e1:MW.j8 M x=some xs)(e2:MW.inL xs=some (n::ns)):∃a Z,us=[.ref a]/\(s.heap.IsList a (intItems Z)\/s.heap.IsTuple a (intItems Z))/\Z.toList.map (·.1)=n::ns/\0<Z.size:=by
 obtain⟨v,rfl,rv⟩:=Hw r rfl;obtain⟨u,rfl,ru⟩:=abz K7;obtain⟨p,ws,rfl,R,rl⟩:=Em S rv e1;cases ru;have fin:∀{Z:Array (Int×Tok)},Z.toList.map (·.1)=n::ns->0<Z.size:=fun{Z} g=>by have:=o4 List.length g;simp at this;lia
 rcases R with R|R
 .obtain⟨is,G,pl,_⟩:=I.list (Dt.of R)
  obtain⟨Z,g1,U⟩:=ints_rep rl G e2;exact⟨_,Z,rfl,.inl (by rw[<- g1];exact pl.isList),U,fin U⟩
 .obtain⟨is,G,pl,_⟩:=I.tuple (El.of R)
  obtain⟨Z,g1,U⟩:=ints_rep rl G e2;exact⟨_,Z,rfl,.inr (by rw[<- g1];exact pl),U,fin U⟩
def Vm{s:Shared}{Z:Heap}{R:Obj}(U:∀b o,b∉[s.heap.objs.size]->(s.heap.push R).get? b=some o->Z.get? b=some o):∀b o,s.heap.get? b=some o->Z.get? b=some o:=λb o e =>
 U b o (λG=>absurd (jz.mp G▸au e) (lg _)) (ao _ e)
def akb{s:Shared}{U:Obj}(G:l<s.heap.objs.size):∀b∈[s.heap.objs.size,l],b<(s.heap.push U).objs.size:=λb Z=>by
 rw[jq];simp only[dh,xu,or_false] at Z;rcases Z with rfl|rfl
 .exact qw _
 .exact Nat.lt_succ_of_lt G
def aoz{A:Around}{E:Y1}{Q:Y1}(hh:A.handled=none)(G:s.heap.IsList l (intItems Z)\/s.heap.IsTuple l (intItems Z))(Qh:0<Z.size)
 (h:∀v U R,(intItems Z)[argBest (λi j=>decide (numAt Z i > numAt Z j)) (Z.size-1)]?=some v->(∀b o,s.heap.get? b=some o->U.get? b=some o)->Q v { s with heap:=U,toks:=R }) :
 wpAny (model prog w) A (call (.builtin "max") [.ref l]) Q E s:=by
 rcases G with G|G
 .exact max_intList hh G Qh h
 .have Ik:l<s.heap.objs.size:=by obtain⟨_,e,_⟩:=G;exact au e
  refine call_max_walk (nq G ⟨_,_,_,_,_,_,_,rfl,Walks.tuple (A:=A.in1) hh _ l (fc Ik) (intItems Z),⟨⟨_,bc _ rfl,rfl,rfl⟩,G.at λo e=>ao _ e⟩,akb Ik,by simpa[intItems] using Qh,CmpOf.ints_gt (numAt Z) (λ_ _=>intItems_at),λv U R hP hk=>?_⟩);exact h v U R (by simpa[intItems] using hP) (Vm hk)
def ao0{A:Around}{E:Y1}{Q:Y1}(hh:A.handled=none)(G:s.heap.IsList l (intItems Z)\/s.heap.IsTuple l (intItems Z))(Qh:0<Z.size)
 (h:∀v U R,(intItems Z)[argBest (λi j=>decide (numAt Z i<numAt Z j)) (Z.size-1)]?=some v->(∀b o,s.heap.get? b=some o->U.get? b=some o)->Q v { s with heap:=U,toks:=R }) :
 wpAny (model prog w) A (call (.builtin "min") [.ref l]) Q E s:=by
 rcases G with G|G
 .exact min_intList hh G Qh h
 .have Ik:l<s.heap.objs.size:=by obtain⟨_,e,_⟩:=G;exact au e
  refine call_min_walk (nq G ⟨_,_,_,_,_,_,_,rfl,Walks.tuple (A:=A.in1) hh _ l (fc Ik) (intItems Z),⟨⟨_,bc _ rfl,rfl,rfl⟩,G.at λo e=>ao _ e⟩,akb Ik,by simpa[intItems] using Qh,CmpOf.ints_lt (numAt Z) (λ_ _=>intItems_at),λv U R hP hk=>?_⟩);exact h v U R (by simpa[intItems] using hP) (Vm hk)
def a03(hc:X.calm=true):zp X (.builtin "max") (rB nm X.K .max):=λZ s σ H vs us Q I K7 hh=>by
 obtain⟨ι,M,ds,d,M',S,r,e,q⟩:=hh;obtain⟨rfl,⟨i,j,rfl,rfl⟩|⟨x,xs,n,l,m,⟨rfl,e1,e2,U,rfl⟩|U⟩⟩:=Zw (h:=MW.al3) e
 .cases aeg r
  exact afw hc Z s σ H _ us Q I K7 ⟨i,j,rfl,q ι H _ (Le.refl _ _) S (.int _)⟩
 .obtain⟨a,xa,rfl,pl,g2,Qh⟩:=aeh I S r K7 e1 e2
  refine aoz (I.ok.hd hc) pl Qh λw h' tk hw G=>?_
  obtain⟨t,rfl⟩:=intItems_at hw;obtain⟨b1,b2⟩:=argBest_gt (numAt xa) (xa.size-1);obtain⟨c1,c2⟩:=best (R:=(·<=·)) g2 (by omega) λi hi=>b2 i (by lia)
  cases U;rw[Zu l n _ c1 (c2 n bz) λa h=>c2 a (bu _ h)] at q;exact⟨.int _,H,I.kept G,⟨t,rfl⟩,q ι H _ (Le.refl _ _) S (.int _)⟩
 .cases U
def N6(n d:Nat)(o:Option Int):HT.Du n d o=MW.clip n d o:=by
 cases o with
 |none=>rfl
 |some i =>
  show(if i<0 then(i+(n:Int)).toNat else min i.toNat n)=(if 0<=i then min i.toNat n else(i+(n:Int)).toNat)
  by_cases h:i<0
  .rw[bh h,bj (by lia)]
  .rw[bj h,bh (by lia)]
def tO(R:Nm)(W:Ks)(K:Fg)(o:OEx):TO:=fun σ H Q=>∃G ρ M d M',j7 R K G H M/\qj K G H ρ σ/\o.den W ρ M=.ok d M'/\∀Z U,Le G H Z U->j7 R K Z U M'->Q d U
def PO.weak(h:PO X e t)(w:∀Z H Q,t' Z H Q->t Z H Q):PO X e t':=λG s Z H Q I q=>h G s Z H Q I (w Z H Q q)
def PO.of(h:PO X e t)(w:∀σ H Q G U M d M',j7 nm X.K G H M->qj X.K G H U σ->o'.den W U M=.ok d M'->(∀Z H',Le G H Z H'->j7 nm X.K Z H' M'->Q d H')->t σ H Q):PO X e (tO nm W X.K o'):=PO.weak h fun σ H Q z_=>by obtain⟨G,U,M,d,M',S,R,e,q⟩:=z_;exact w σ H Q G U M d M' S R e q
def ao1:PO X none (tO nm W X.K .none):=PO.of aoc λU H Q Z ρ M d G S R e q=>by rw[MW.Ul] at e;cases e;exact q Z H (Le.refl _ _) S
set_option tactic.hygienic true in
def ao2(G:PE X a (tE nm W X.K U)):PO X (some a) (tO nm W X.K (.some U)):=PO.of (aod G) fun σ H Q ι ρ M d M' S R e q=>by rw[MW.Um] at e;obtain⟨x,L,C,e⟩:=dz e;split at e<;>cases e;rename_i i;exact one S R C λZ J v le Y R1 r=>by cases r;exact⟨i,rfl,q Z J le Y⟩
set_option tactic.hygienic true in
def a04(ha:PE X a (tE nm W X.K a'))(hl:PO X lo (tO nm W X.K q0))(hh:PO X hi (tO nm W X.K qv)):PE X (.Subscript a (.Slice lo hi none p2) pos) (tE nm W X.K (.cut a' q0 qv)) :=
 PE.of (ajq (SlR.or aof aup) ha hl hh) fun σ H Q ι ρ M d M' S R e q=>by
  rw[MW.aci] at e;obtain⟨x,M1,e1,e⟩:=dz e;obtain⟨l,M2,e2,e⟩:=dz e;obtain⟨h,M3,e3,e⟩:=dz e;obtain⟨L,e5⟩:=su e;subst e5;refine one S R e1 λqk H1 v le S1 R1 r=>⟨qk,ρ,M1,l,M2,S1,R1,e2,λq1 H2 yd S2=>⟨q1,ρ,M2,h,_,S2,R1.mono yd,e3,λJ H3 Qw C=>?_⟩⟩
  have r3:=(r.mono yd).mono Qw;have fin:=λqq H' w Vf S' r'=>q qq H' w (((le.trans yd).trans Qw).trans Vf) S' r'
  have lst:∀Z,MW.d8 M' x=some Z->d=.vl (MW.Gq Z l h)->azt X.K v l h H3 Q:=λZ hd ed=>by
   obtain⟨p,vs,rfl,hp,U⟩:=qp C r3 hd;refine⟨p,vs,rfl,Dt.of hp,λp' Y=>?_⟩;have:lz X.K J H3 (MW.Gq Z l h) (Ql vs l h):=by unfold MW.Gq Ql;rw[N6,N6,<- U.length];exact(U.drop _).take _
   obtain⟨S4,G,r4⟩:=W7 (X:=X) C Y this;subst ed;exact fin _ _ _ G S4 r4
  cases x with
  |tup Z =>
   right
   simp only[MW.Iw] at L;cases L;cases r3 with
   |@tup p _ vs hp U =>
    have:lz X.K J H3 (MW.Gq Z l h) (Ql vs l h):=by unfold MW.Gq Ql;rw[N6,N6,<- U.length];exact(U.drop _).take _
    refine⟨p,vs,rfl,El.of hp,λz1 z2=>?_,λp' Y=>?_⟩
    .have e:Ql vs l h=vs:=by
      unfold Ql;rw[z1,z2];simp
     rw[e] at this;exact fin _ _ _ (Le.refl _ _) C (.tup hp this)
    .obtain⟨S4,G,r4⟩:=Ht (X:=X) C Y this
     exact fin _ _ _ G S4 r4
  |_ =>
   left
   simp only[MW.Iw] at L;obtain⟨Z,hd,ed⟩:=bx.mp L;exact lst Z hd ed.symm
def a05(hc:X.calm=true):zp X (.builtin "min") (rB nm X.K .min):=λZ s σ H vs us Q I K7 hh=>by
 obtain⟨ι,M,ds,d,M',S,r,e,q⟩:=hh;obtain⟨rfl,⟨i,j,rfl,rfl⟩|⟨x,xs,n,l,m,⟨rfl,e1,e2,U,rfl⟩|U⟩⟩:=Zw (h:=MW.axh) e
 .cases aeg r
  exact afx hc Z s σ H _ us Q I K7 ⟨i,j,rfl,q ι H _ (Le.refl _ _) S (.int _)⟩
 .obtain⟨a,xa,rfl,pl,g2,Qh⟩:=aeh I S r K7 e1 e2
  refine ao0 (I.ok.hd hc) pl Qh λw h' tk hw G=>?_
  obtain⟨t,rfl⟩:=intItems_at hw;obtain⟨b1,b2⟩:=argBest_lt (numAt xa) (xa.size-1);obtain⟨c1,c2⟩:=best (R:=λa b=>b<=a) g2 (by omega) λi hi=>b2 i (by lia)
  cases U;rw[Zv l n _ c1 (c2 n bz) λa h=>c2 a (bu _ h)] at q;exact⟨.int _,H,I.kept G,⟨t,rfl⟩,q ι H _ (Le.refl _ _) S (.int _)⟩
 .cases U
def akc(K:Fg)(T:String):PySem.W.kitOne K (.type T) (.type T)=some true:=by unfold PySem.W.kitOne;rw[bh (by simp)]
def akd(hg:Gl X n)(hm:X.mg n=none)(hv:bootBuiltins n=some (.builtin "isinstance"))(hn:n≠"__name__")(Wy:(n==("__debug__" : Str))=false)(qv:Gl X G)(q1:X.mg G=none)(qq:bootBuiltins G=some (.type "bool"))(q0:G≠"__name__")(q2:(G==("__debug__" : Str))=false)(ha:PE X a (tE nm W X.K a'))(he:starEach [a,.Name G p'] X.env=(false,eval a X.env)::starEach [.Name G p'] X.env)(qk:starEach [.Name G p'] X.env=(false,eval (.Name G p') X.env)::starEach [] X.env)(Kq:(backTo pos (starEach [.Name G p'] X.env)).any (·.1)=false):PE X (.Call (.Name n p) [a,.Name G p'] [] pos) (tE nm W X.K (.blt .isBool (.cons a' .nil))):=by
 intro U s σ H Q I hh;obtain⟨ι,ρ,M,d,M',S,R,e,q⟩:=hh;rw[MW.Mg] at e;obtain⟨ds,M1,e1,e⟩:=dz e;rw[MW.Ag] at e1;obtain⟨x,M2,e2,e1⟩:=dz e1;rw[MW.Bk] at e1;cases e1;refine nj (Hr I hg hm hv ?_ hn Wy);refine vy (Q:=EP X U σ Q) ?_ he Kq;rw[he];show wpAny _ _ (spliced ((false,eval a X.env)::backTo pos (starEach [.Name G p'] X.env))) _ _ s;refine Calls.spliced_cons (zj (ha U s σ H (λv H1=>∃Z,Le ι H Z H1/\j7 nm X.K Z H1 M1/\Rep X.K Z H1 x v) I ⟨ι,ρ,M,x,M1,S,R,e2,λZ H1 v le S1 r=>⟨Z,le,S1,r⟩⟩) λu s1 z_=>?_);obtain⟨v,H1,I1,r1,Z,le,S1,r⟩:=z_;rw[qk];show wpAny _ _ (spliced ((false,eval (.Name G p') X.env)::backTo pos (starEach [] X.env))) _ _ s1;refine Calls.spliced_cons (Hr I1 qv q1 qq ?_ q0 q2);refine Calls.spliced_nil ?_;cases r with
 |bl b =>
  cases e;cases(show u=Value.bool b from r1);exact PySem.W.kia_one PySem.W.kitx_bool I1.kIn True.intro (akc _ _) (λz=>nomatch z) λtk=>⟨.bl true,H1,I1.tok _,rfl,q Z H1 _ le S1 (.bl true)⟩
 |_=>cases e
end Sm
namespace EnT
open PySem PySem.Spec
open AutoSeq1 (wpAny_loadPart')
set_option tactic.hygienic true in
def ake(a:s.heap.IsTupleIter it t i)(b:s.heap.IsTuple t U)(e:U[i]?=some x)(q:∀G,G.IsTupleIter it t (i+1)->Heap.SameBut it s.heap G->Q x { s with heap:=G }):wpAny (model prog w) A (Builtin.SmallTypes.nextOf (.ref it)) Q E s:=by obtain⟨o,Y,C,Z⟩:=id a;obtain⟨S,L,R,nl,J⟩:=b;unfold Builtin.SmallTypes.nextOf;refine aa (je (name:=Str.ofString "__next__") a.typeIs qi (jn qi a.typeIs F.entry_tuple_iterator_next ?_ (F.args_tuple_iterator_next_1 _)));show wpAny _ _ (field (.ref it) 0 >>= _) _ _ s;refine aa (fu Y Z (x:=.ref t) rfl ?_);show wpAny _ _ (if(Value.ref t==Value.none)=true then _ else field (.ref it) 1 >>= _) _ _ s;rw[bj (show ¬((Value.ref t==Value.none)=true) by exact gq)];refine aa (fu Y Z (x:=.int i 0) rfl (aa (m6 L J ?_)));simp only[m5,e];refine aa (sr Y Z (by simp) (aj ⟨x,rfl,aj (q _ ⟨_,lr _ Y (Obj.isFreed_of_fields (p6 Z _)),(Obj.cls_mapFields ..).trans C,?_⟩ (iw ..))⟩));rw[p6 Z];simp[rawInt]
set_option tactic.hygienic true in
def ao3(L:A.handled=none)(a:s.heap.IsTupleIter it t i)(b:s.heap.IsTuple t U)(e:U[i]?=none)(q:∀Z x,Heap.ExtBut it s.heap Z->(∃o,Z.get? x=some o/\o.cls=.type "StopIteration")->E (.ref x) { s with heap:=Z }):wpAny (model prog w) A (Builtin.SmallTypes.nextOf (.ref it)) Q E s:=by obtain⟨o,G,R,Y⟩:=id a;obtain⟨S,C,l2,nl,J⟩:=b;unfold Builtin.SmallTypes.nextOf;refine aa (je (name:=Str.ofString "__next__") a.typeIs qi (jn qi a.typeIs F.entry_tuple_iterator_next ?_ (F.args_tuple_iterator_next_1 _)));show wpAny _ _ (field (.ref it) 0 >>= _) _ _ s;refine aa (fu G Y (x:=.ref t) rfl ?_);show wpAny _ _ (if(Value.ref t==Value.none)=true then _ else field (.ref it) 1 >>= _) _ _ s;rw[bj (show ¬((Value.ref t==Value.none)=true) by exact gq)];refine aa (fu G Y (x:=.int i 0) rfl (aa (m6 C J ?_)));simp only[m5,e];refine aa (qd (aa (sr G Y (by simp) ?_)));show wpAny _ _ (newExc (.type "StopIteration") [] >>= raiseNew) _ _ _;exact STb.Vr L λZ x k e=>q Z x (λb o n z=>k b o ((iw ..).extBut b o n z)) e
def Xh(b:Bool)(h:Heap)(it a:Addr)(i:Nat):Prop:=cond b (h.IsTupleIter it a i) (h.IsListIter it a i)
def Xi(b:Bool)(h:Heap)(a:Addr)(Z:Xt):Prop:=cond b (h.IsTuple a Z) (h.IsList a Z)
def Xh.at(x:Xh b h it a i)(k:∀o,h.get? it=some o->Z.get? it=some o):Xh b Z it a i:=by
 cases b with
 |true=>obtain⟨o,e,r⟩:=x;exact⟨o,k o e,r⟩
 |false=>obtain⟨o,e,r⟩:=x;exact⟨o,k o e,r⟩
def Xh.obj(x:Xh b h it a i):∃o,h.get? it=some o/\∀v,o.data≠.cell v:=by
 cases b with
 |true=>obtain⟨o,e,c,d⟩:=x;exact⟨o,e,λv z=>by rw[d] at z;cases z⟩
 |false=>obtain⟨o,e,c,d⟩:=x;exact⟨o,e,λv z=>by rw[d] at z;cases z⟩
def Tp(a:Xh b s.heap it t i)(c:Xi b s.heap t G)(e:G[i]?=some x)(q:∀Z,Xh b Z it t (i+1)->Heap.SameBut it s.heap Z->Q x { s with heap:=Z }):wpAny (model prog w) A (Builtin.SmallTypes.nextOf (.ref it)) Q E s:=by
 cases b with
 |true=>exact ake a c e q|false=>exact wpAny_nextOf_list_item a c e q
def aei(G:A.handled=none)(a:Xh b s.heap it t i)(c:Xi b s.heap t U)(e:U[i]?=none)(q:∀Z x,Heap.ExtBut it s.heap Z->(∃o,Z.get? x=some o/\o.cls=.type "StopIteration")->E (.ref x) { s with heap:=Z }):wpAny (model prog w) A (Builtin.SmallTypes.nextOf (.ref it)) Q E s:=by
 cases b with
 |true=>exact ao3 G a c e q|false=>exact wpAny_nextOf_list_end G a c e q
def ao4{i:Nat}{Q:Y1}(he:IsEnum s.heap e it i old)(a:Xh b s.heap it t i)(c:Xi b s.heap t xs)(ex:xs[i]?=some x)(ne:e≠it)(q:∀U,IsEnumOut U e it ((i:Int)+1) x s.heap.objs.size->Xh b U it t (i+1)->U.get? s.heap.objs.size=some { cls:=.type "tuple",data:=.seq #[.int i s.toks,x] }->U.objs.size=s.heap.objs.size+1 ->
 (∀y o,y≠e->y≠it->s.heap.get? y=some o->U.get? y=some o)->Q (.ref s.heap.objs.size) { s with heap:=U,toks:=s.toks+1 }) :
 wpAny (model prog w) A (Builtin.«enumerate.__next__» ⟨[.ref e],[]⟩) (λfin s'=>∃v,fin=.done (.ret v)/\Q v s') E s:=by
 obtain⟨G,g,d,tk,os⟩:=s;show wpAny _ _ (field (.ref e) 2 >>= _) _ _ _;refine aa (fu he rfl (x:=.ref it) rfl (aa (Tp a c ex λh1 a1 s1=>?_)));have s1:Heap.SameBut it G h1:=s1;have e1:IsEnum h1 e it i old:=(s1.2 e ne).trans he;refine aa (fu e1 rfl (x:=rawInt i) rfl (aa (fu e1 rfl (x:=.none) rfl (aa (wpAny_mkInt ?_)))));show wpAny _ _ (setField (.ref e) 3 (rawInt ((i:Int)+1)) >>= _) _ _ ⟨h1,g,d,tk+1,os⟩;refine aa (jo e1 (by simp) λh2 e2 s2=>?_);have s2:Heap.SameBut e h1 h2:=s2;have e2:IsEnum h2 e it ((i:Int)+1) old:=e2;refine aa (jo e2 (by simp) λh3 e3 s3=>?_);have s3:Heap.SameBut e h2 h3:=s3;have e3:IsEnum h3 e it ((i:Int)+1) old:=e3;refine aa (wpAny_newTuple ?_);have n3:h3.objs.size=G.objs.size:=by rw[s3.1,s2.1,s1.1]
 obtain⟨Z,d4⟩:∃Z,Z=h3.push { cls:=.type "tuple",data:=.seq #[.int i tk,x] }:=⟨_,rfl⟩;have e4:IsEnum Z e it ((i:Int)+1) old:=by rw[d4];exact ao _ e3
 have t4:Z.get? G.objs.size=some { cls:=.type "tuple",data:=.seq #[.int i tk,x] }:=by rw[d4,<- n3];exact bc _ rfl
 have n4:Z.objs.size=G.objs.size+1:=by rw[d4,jq,n3]
 have k3:∀y o,y≠e->h1.get? y=some o->Z.get? y=some o:=λy o R z=>by rw[d4];exact ao _ (s3.extBut y o R (s2.extBut y o R z))
 have a4:Xh b Z it t (i+1):=a1.at λo z=>k3 it o (jh ne) z
 have lt:e<G.objs.size:=au he
 show wpAny _ _ (Builtin.SmallTypes.ownedTupleIsFree (.ref e) >>= _) _ _ ⟨h3.push _,g,d,tk+1,os⟩;rw[n3,<- d4];refine aa ?_;unfold Builtin.SmallTypes.ownedTupleIsFree;refine aa (fu e4 rfl (x:=.none) rfl (aj ?_));simp only[j6];refine aa (qd (aa (fu e4 rfl (x:=old) rfl (aa (jo e4 (by simp) λh5 e5 s5=>?_)))));have s5:Heap.SameBut e Z h5:=s5;have e5:IsEnum h5 e it ((i:Int)+1) x:=e5;refine aa ?_;unfold Builtin.SmallTypes.ownedTupleHandOut;refine aa (jo e5 (by simp) λh6 e6 s6=>?_);have s6:Heap.SameBut e h5 h6:=s6;have e6:IsEnumOut h6 e it ((i:Int)+1) x G.objs.size:=e6;refine jo e6 (by simp) λh7 e7 s7=>?_
 have s7:Heap.SameBut e h6 h7:=s7;have k7:∀y o,y≠e->Z.get? y=some o->h7.get? y=some o:=λy o R z=>s7.extBut y o R (s6.extBut y o R (s5.extBut y o R z))
 exact aa (wpAny_letGo (aj ⟨_,rfl,q h7 e7 (a4.at λo z=>k7 it o (jh ne) z) (k7 _ _ (qt lt) t4) (by rw[s7.1,s6.1,s5.1,n4]) λy o y1 y2 z=>k7 y o y1 (k3 y o y1 (s1.extBut y o y2 z))⟩))
set_option tactic.hygienic true in
def ao5{i:Nat}(G:IsEnum s.heap e it i old)(a:Xh b s.heap it t i)(c:Xi b s.heap t R)(ex:R[i]?=some x)(J:e≠it)(q:∀Z,IsEnumOut Z e it ((i:Int)+1) x s.heap.objs.size->Xh b Z it t (i+1)->Z.get? s.heap.objs.size=some { cls:=.type "tuple",data:=.seq #[.int i s.toks,x] }->Z.objs.size=s.heap.objs.size+1 ->
 (∀y o,y≠e->y≠it->s.heap.get? y=some o->Z.get? y=some o)->Q (some (.ref s.heap.objs.size)) { s with heap:=Z,toks:=s.toks+1 }):wpAny (model prog w) A (pyNext (.ref e)) Q E s:=by
 have Y:s.TypeIs (.ref e) "enumerate" := ⟨_,G,rfl⟩;unfold pyNext;refine aa (wpAny_attempt (je (name:=Str.ofString "__next__") Y uf (jn uf Y F.entry_enumerate_next ?_ (F.args_enumerate_next_1 _))));exact ao4 G a c ex J λZ S y2 C L U=>aj (q Z S y2 C L U)
set_option tactic.hygienic true in
def ao6{i:Nat}(L:A.handled=none)(G:IsEnum s.heap e it i old)(a:Xh b s.heap it t i)(c:Xi b s.heap t J)(C:J[i]?=none)(q:∀Z,Heap.ExtBut it s.heap Z->Q none { s with heap:=Z }):wpAny (model prog w) A (pyNext (.ref e)) Q E s:=by have Y:s.TypeIs (.ref e) "enumerate" := ⟨_,G,rfl⟩;unfold pyNext;refine aa (wpAny_attempt (je (name:=Str.ofString "__next__") Y uf (jn uf Y F.entry_enumerate_next ?_ (F.args_enumerate_next_1 _))));show wpAny _ _ (field (.ref e) 2 >>= _) _ _ _;refine aa (fu G rfl (x:=.ref it) rfl (aa (aei L a c C λZ z k z_=>?_)));obtain⟨o,U,R⟩:=z_;exact aa (o5 (T := "StopIteration") (b:=true) ⟨o,U,R⟩ isSubtype_stop (aj (q _ k)))
set_option tactic.hygienic true in
def ao7(t:Addr)(xs:Xt)(n:Nat)(Y:Option Addr)(J:Array (Option Value)) :
 Meets (Builtin.«enumerate.__new__» ⟨[.type "enumerate",.ref t],[]⟩) (λ_ R s=>s.heap.get? t=some { cls:=.type "tuple",dict:=Y,data:=.seq xs n,slots:=J } /\
  R (.ok (.ret (.ref (s.heap.push { cls:=.type "tuple_iterator",data:=.fields #[.ref t,.int 0 0] }).objs.size)))
   { s with heap:=(s.heap.push { cls:=.type "tuple_iterator",data:=.fields #[.ref t,.int 0 0] }).push { cls:=.type "enumerate",data:=.fields #[.none,.bool false,.ref s.heap.objs.size,rawInt 0,.none,.none] } }) :=
 .of_wp λprog w A R s h=>by
  obtain⟨S,g,d,C,U⟩:=s;obtain⟨Z,h⟩:=h;have L:=sub_enumerate;have G:Heap.IsTuple (Shared.heap ⟨S,g,d,C,U⟩) t xs:=⟨_,Z,rfl,n,rfl⟩
  wp_walk using wpAny_loadPart' Z
  refine wpAny_stack_any λst=>aj ?_
  split
  .rename_i c _ _ _ _ _
   cases(c==Value.type "enumerate")<;>(wp_walk using wpAny_loadPart' Z,nq G)<;>exact⟨_,rfl,h⟩
  .wp_walk using wpAny_loadPart' Z,nq G
   exact⟨_,rfl,h⟩
def akf(c:s.heap.IsTuple t xs)(q:∀Z,IsEnum Z (s.heap.objs.size+1) s.heap.objs.size 0 .none->Z.IsTupleIter s.heap.objs.size t 0->Z.objs.size=s.heap.objs.size+2 ->
 (∀y o,s.heap.get? y=some o->Z.get? y=some o)->Q (.ref (s.heap.objs.size+1)) { s with heap:=Z }):wpAny (model prog w) A (call (.type "enumerate") [.ref t]) Q E s:=by
 obtain⟨⟨c0,U,dt,sl⟩,hl,G,n,hd⟩:=c;have G:c0=.type "tuple" := G;have hd:dt=.seq xs n:=hd;subst G hd;have R:(s.heap.push { cls:=.type "tuple_iterator",data:=.fields #[.ref t,.int 0 0] }).objs.size=s.heap.objs.size+1:=jq ..;refine callType_new F.called_enumerate (by decide) (F.typeCall_enumerate_1 _) (F.newCall_enumerate_1 _) (λobj=>F.args_object_init_2 obj _) F.entry_enumerate_new (ao7 t xs n U sl) ⟨hl,?_⟩;show _/\_;rw[R];have e1:IsEnum ((s.heap.push { cls:=.type "tuple_iterator",data:=.fields #[.ref t,.int 0 0] }).push { cls:=.type "enumerate",data:=.fields #[.none,.bool false,.ref s.heap.objs.size,rawInt 0,.none,.none] }) (s.heap.objs.size+1) s.heap.objs.size 0 .none:=by rw[<- R];exact bc _ rfl
 exact⟨⟨_,e1,rfl⟩,q _ e1 ⟨_,ao _ (bc _ rfl),rfl,rfl⟩ (by rw[jq,R]) λy o z=>ao _ (ao _ z)⟩
end EnT
namespace L2
open PySem PySem.Spec EnT
def Inv.Vn{ch:X1}(I:Inv X pins σ H s)(G:∀b∈ch,Qk X pins H b)(k:∀b o,b∉ch->s.heap.get? b=some o->h'.get? b=some o)(hn:s.heap.objs.size<=n)(new:yt X.prog X.w (upd H n (.tup vs)) h' n (.tup vs)):Inv X pins σ (upd H n (.tup vs)) { s with heap:=h',toks:=t' }:=by
 have U:H n=none:=I.yf.fresh hn;have R:∀b u,H b=some u->b∉ch:=λb u e z=>by rw[(G b z).1] at e;cases e
 have qq:∀b o,s.heap.get? b=some o->b≠n:=λb o e=>fc (gf (au e) hn)
 refine I.step (g':=s.gens) (d':=s.drawn) (ch:=ch) (λb hb=>⟨(G b hb).2.2.2.1,(G b hb).2.1,(G b hb).2.2.2.2.1,(G b hb).2.2.2.2.2⟩) (λb o _ _ Z e _=>k b o Z e) (λb o _ _ Z e _=>⟨o.slots,k b o Z e⟩) (λb o _ e n0=>by rw[jy (qq b o e)];exact n0)
  (λb o Z e=>⟨o,k b o Z e⟩) (λb xs e=>by rw[jy (kj e U)];exact e) (λb o u e=>by rw[jy (kj e U)];exact e) (λb ps e=>⟨#[],by rw[jy (kj e U),e];simp⟩) (λm hm=>?_) (λb u e=>?_) I.bare
 .obtain⟨o,es,ep,ho,r⟩:=hm
  exact⟨o,es,ep,k _ o (λz=>(G _ z).2.1 rfl) ho,r⟩
 .by_cases z:b=n
  .subst z;rw[qu] at e;cases e;exact new
  .rw[jy z] at e
   refine(I.yf b u e).stay (λc v Z q=>k c v ?_ q) (λc q=>by rw[jy (kj q U)];exact q) λc xs q=>by rw[jy (kj q U)];exact q
   rcases Z with y|y
   .rw[y];exact R b u e
   .exact R c _ y
def Inv.aej{ch:X1}(I:Inv X pins σ H s)(G:∀b∈ch,Qk X pins H b)(k:∀b o,b∉ch->s.heap.get? b=some o->h'.get? b=some o):Inv X pins σ H { s with heap:=h',toks:=t' }:=by
 have U:∀b u,H b=some u->b∉ch:=λb u e z=>by rw[(G b z).1] at e;cases e
 refine I.step (g':=s.gens) (d':=s.drawn) (ch:=ch) (λb R=>⟨(G b R).2.2.2.1,(G b R).2.1,(G b R).2.2.2.2.1,(G b R).2.2.2.2.2⟩) (λb o _ _ Z e _=>k b o Z e) (λb o _ _ Z e _=>⟨o.slots,k b o Z e⟩) (λb o _ e n0=>n0)
  (λb o Z e=>⟨o,k b o Z e⟩) (λb xs e=>e) (λb o u e=>e) (λb ps e=>⟨#[],by rw[e];simp⟩) (λm hm=>?_) (λb u e=>?_) I.bare
 .obtain⟨o,es,ep,ho,r⟩:=hm
  exact⟨o,es,ep,k _ o (λz=>(G _ z).2.1 rfl) ho,r⟩
 .refine(I.yf b u e).stay (λc v Z q=>k c v ?_ q) (λ_ q=>q) λ_ _ q=>q
  rcases Z with y|y
  .rw[y];exact U b u e
  .exact U c _ y
def SqX(b:Bool)(K:Fg)(H:Hp)(a:Addr)(Z:List V):Prop:=cond b (El K H a Z) (Dt K H a Z)
def Inv.ab0(I:Inv X pins σ H s)(h:SqX b X.K H a U):∃Z,Vals U Z/\Xi b s.heap a Z.toArray:=by
 cases b with
 |true=>obtain⟨Z,G,p,R⟩:=I.tuple h;exact⟨Z,G,show s.heap.IsTuple a Z.toArray from p⟩
 |false=>obtain⟨Z,G,p,R⟩:=I.list h;exact⟨Z,G,p.isList⟩
def Inv.Zx(I:Inv X pins σ H s)(h:SqX b X.K H a Z)(g:SqX b X.K H a ys):Z=ys:=by
 cases b with
 |true=>exact I.Uz h g|false=>exact I.Y4 h g
def Ien(b:Bool)(K:Fg)(a:Addr):It :=
 ⟨λi H=>∃Z x,SqX b K H a Z/\Z[i]?=some x,λi H v G=>∃p x,v=.ref p/\H p=none/\G=upd H p (.tup [.int (i:Nat),x])/\∀Z,SqX b K H a Z->Z[i]?=some x,λi H=>∃Z,SqX b K H a Z/\Z.length<=i⟩
set_option tactic.hygienic true in
theorem ao8(a e it:Addr)(ne:e≠it):Turn P w K (.Tuple ts k0 pt) (Ien b K a) [e,it] e (λi h=>(∃Z,IsEnum h e it ((i:Nat):Int) Z)/\Xh b h it a i) where
 mem:=by simp
 obj:=λi h U c Y=>by
  obtain⟨⟨Z,G⟩,J⟩:=U;rcases dh.mp Y with z|z
  .subst z;exact⟨_,G,λv z=>by cases z⟩
  .have z:c=it:=by simpa using z
   subst z;exact J.obj
 keep:=λi h h' U k=>by obtain⟨⟨Z,G⟩,J⟩:=U;exact⟨⟨Z,k e (by simp) _ G⟩,J.at λo z=>k it (by simp) o z⟩
 item:=by
  intro X hP hw hK Y i C s σ H E I S U hg;subst hP hw hK;obtain⟨xs,x,R,hx⟩:=hg;obtain⟨q9,rv,p⟩:=I.ab0 R;obtain⟨u,hu,ru⟩:=rv.get hx;obtain⟨⟨Z,G⟩,J⟩:=U;have lt:e<s.heap.objs.size:=au G
  refine ao5 G J p (x:=u) (by simpa using hu) ne λh1 o1 a1 t1 n1 k1=>⟨_,rfl,?_⟩
  refine wpAny_letOwnedTupleGo_enum o1 λh2 o2 L=>?_
  have L:Heap.SameBut e h1 h2:=L;have t2:h2.get? s.heap.objs.size=some { cls:=.type "tuple",data:=.seq #[.int i s.toks,u] }:=(L.2 _ (qt lt)).trans t1;refine⟨.ref s.heap.objs.size,upd H s.heap.objs.size (.tup [.int (i:Nat),x]),I.Vn (t':=s.toks+1) S (λc o Y z=>?_) (az _) ⟨by show 2<=sizeLine;decide,[.int i s.toks,u],.cons ⟨s.toks,rfl⟩ (.cons ru .nil),⟨_,t2,rfl,_,rfl,rfl⟩⟩,rfl,
   ⟨_,x,rfl,I.yf.fresh (az _),rfl,λys hy=>by rw[I.Zx hy R];exact hx⟩,⟨⟨u,?_⟩,a1.at λo z=>L.extBut it o (jh ne) z⟩,λc Y=>?_⟩
  .have c1:c≠e:=λz=>Y (by simp[z])
   have c2:c≠it:=λz=>Y (by simp[z])
   exact L.extBut c o c1 (k1 c o c1 c2 z)
  .have q:((i+1:Nat):Int)=(i:Int)+1:=by push_cast;rfl
   rw[q];exact o2
  .have qq:c<s.heap.objs.size:=by
    rcases dh.mp Y with z|z
    .rw[z];exact lt
    .have z:c=it:=by simpa using z
     obtain⟨o,z2,_⟩:=J.obj;rw[z];exact au z2
   rw[jy (fc qq)];exact(S c Y).1
 done:=by intro X hP hw hK Y i C s σ H E I S U hg;subst hP hw hK;obtain⟨xs,R,hx⟩:=hg;obtain⟨q9,rv,p⟩:=I.ab0 R;obtain⟨⟨Z,G⟩,J⟩:=U;have hl:=rv.length;refine ao6 (I.ok.hd Y) G J p (by simp;exact a_ (g_ hl) hx) λh' eb=>⟨rfl,I.aej (t':=s.toks) S λc o Y z=>eb c o (λy=>Y (by simp[y])) z⟩
 self:=λ_ _ _ _ _ U h=>by obtain⟨⟨Z,G⟩,J⟩:=U;exact wpAny_pyIter_enum G h
def a07(hg:Gl X "enumerate")(hm:X.mg "enumerate" = none)(ha:PA X [a] ta)(hs:starEach [a] X.env=[(false,eval a X.env)]) :
 PI X (.Tuple ts k0 pt) (.Call (.Name "enumerate" p) [a] [] pos) (fun σ H R=>ta σ H λvs H1=>∃b q,vs=[.ref q]/\(∃xs,SqX b X.K H1 q xs)/\R (Ien b X.K q) H1):=by
 intro U s σ H R I h;refine PyProof.Rows.Call_ (Hr I hg hm (show bootBuiltins "enumerate" = some (.type "enumerate") by decide+kernel) (qe (zj (ha pos U s σ H _ I h) λus Z ⟨vs,H1,I1,r1,q1⟩=>?_) hs rfl));obtain⟨b,q,rfl,⟨xs,hq⟩,hR⟩:=q1;cases r1 with
 |cons r rr =>
  cases rr;cases r;obtain⟨q9,rv,p⟩:=I1.ab0 hq;have fin:∀G,IsEnum G (Z.heap.objs.size+1) Z.heap.objs.size 0 .none->Xh b G Z.heap.objs.size q 0->(∀y o,Z.heap.get? y=some o->G.get? y=some o) ->
   wpAny (model X.prog X.w) X.A (pyIter (.ref (Z.heap.objs.size+1))) (PIE X U σ (.Tuple ts k0 pt) R) X.xe { Z with heap:=G }:=λG e1 e2 kk=>by
   refine wpAny_pyIter_enum e1 ?_;refine⟨Z.heap.objs.size+1,[Z.heap.objs.size+1,Z.heap.objs.size],_,_,H1,rfl,I1.kept (t':=Z.toks) kk,ao8 (b:=b) q _ _ (Nat.succ_ne_self _),⟨⟨.none,e1⟩,e2⟩,λc hc=>?_,hR⟩;have qq:Z.heap.objs.size<=c:=by
    rcases dh.mp hc with z|z
    .rw[z];exact o7 _
    .have z:c=Z.heap.objs.size:=by simpa using z
     rw[z];exact az _
   exact I1.afs qq (I1.yf.fresh qq)
  cases b with
  |true=>exact akf p λG e1 e2 _ kk=>fin G e1 e2 kk
  |false=>exact call_enumerate_list p λG e1 e2 _ kk=>fin G e1 e2 kk
end L2
namespace EnT
open PySem PySem.Spec
noncomputable def Zy(Z:Zl):Obj:={ cls:=.type "tuple",data:=.seq Z.toArray }
structure ZN(b:Nat->Bool)(h0:Heap)(n:Nat)(ls:Y3)(f0:Value)(ov:Zl)(k d:Nat)(g:Heap):Prop where
 z:IsZip g (n+ls.length+2) (n+ls.length) (n+ls.length+1) f0
 o:g.get? (n+ls.length+1)=some (Zy ov)
 a:∀(j:Nat) l,ls[j]?=some l->Xh (b l) g (n+j) l (if j<d then k+1 else k)
 low:∀c o,(c<n\/c=n+ls.length\/n+ls.length+2<c)->h0.get? c=some o->g.get? c=some o
def Xi.lt(x:Xi b h a Z):a<h.objs.size:=by
 cases b with
 |true=>obtain⟨o,c,_⟩:=x;exact au c
 |false=>obtain⟨o,c,_⟩:=x;exact au c
def Xi.at(x:Xi b h a xs)(e:∀o,h.get? a=some o->Z.get? a=some o):Xi b Z a xs:=by
 cases b with
 |true=>obtain⟨o,c,d⟩:=x;exact⟨o,e o c,d⟩
 |false=>obtain⟨o,c,d⟩:=x;exact⟨o,e o c,d⟩
def Zz{Z:Y3}{j:Nat}(h:Z[j]?=some l):j<Z.length:=(ak.mp h).1
def ZN.sz(H:ZN b h0 n Z f0 G k d g)(e:Heap.ExtBut (n+Z.length+2) g g')(z:IsZip g' (n+Z.length+2) (n+Z.length) (n+Z.length+1) f1):ZN b h0 n Z f1 G k d g' :=
 ⟨z,e _ _ (by lia) H.o,λj l h=>(H.a j l h).at λo=>e _ o (by have:=Zz h;lia),λc o U z=>e _ _ (by lia) (H.low c o U z)⟩
def ZN.so(H:ZN b h0 n Z f0 R k d g)(e:Heap.ExtBut (n+Z.length+1) g g')(z:g'.get? (n+Z.length+1)=some (Zy G)):ZN b h0 n Z f0 G k d g' :=
 ⟨e _ _ (by lia) H.z,z,λj l h=>(H.a j l h).at λo=>e _ o (by have:=Zz h;lia),λc o U z=>e _ _ (by lia) (H.low c o U z)⟩
def ZN.sa(H:ZN b h0 n Z f0 G k d g)(R:d<Z.length)(e:Heap.ExtBut (n+d) g g')(z:∀l,Z[d]?=some l->Xh (b l) g' (n+d) l (k+1)):ZN b h0 n Z f0 G k (d+1) g' :=
 ⟨e _ _ (by lia) H.z,e _ _ (by lia) H.o,λj l h=>by
  by_cases c:j=d
  .subst c;rw[bh (by lia)];exact z l h
  .have:=H.a j l h
   have i:(if j<d+1 then k+1 else k)=if j<d then k+1 else k:=by
    by_cases q:j<d
    .rw[bh q,bh (by lia)]
    .rw[bj q,bj (by lia)]
   rw[i];exact this.at λo=>e _ o (by lia),λc o U z=>e _ _ (by lia) (H.low c o U z)⟩
def ZN.up(H:ZN b h0 n Z f0 G k d g)(e:∀c o,g.get? c=some o->g'.get? c=some o):ZN b h0 n Z f0 G k d g' :=
 ⟨e _ _ H.z,e _ _ H.o,λj l h=>(H.a j l h).at (e _),λc o U z=>e _ _ (H.low c o U z)⟩
def ZN.nx(H:ZN b h0 n Z f0 G k Z.length g):ZN b h0 n Z f0 G (k+1) 0 g :=
 ⟨H.z,H.o,λj l h=>by have:=H.a j l h;rw[bh (Zz h)] at this;exact this,H.low⟩
def aek{T:Addr}{Q:Unit->Shared->Prop}(G:R.length<=3)(U:s.heap.get? T=some (Zy R))(h:∀Z,Z.get? T=some (Zy (R.set k x))->Heap.ExtBut T s.heap Z->Z.objs.size=s.heap.objs.size->Q () { s with heap:=Z }) :
 wpAny (model prog w) A (updateSeq T (·.setIfInBounds k x)) Q E s:=by
 have sb:Heap.SameBut T s.heap (s.heap.update T (Obj.mapSeq (·.setIfInBounds k x))):=iw ..;refine wpAny_updateSeq U rfl (h _ ?_ sb.extBut sb.1) (hz:=bw (by simpa using G) (show 3<=sizeLine by decide)) (_hz':=bw (by simpa using G) (show 3<=sizeLine+1 by decide));rw[lr _ U rfl];simp[Obj.mapSeq,Zy]
noncomputable def Di(n m:Nat):List Value:=(List.range m).map λj=>.ref (n+j)
def ael(n m:Nat):(Di n m).zipIdx=(List.range' 0 m).map λj=>(Value.ref (n+j),j):=by
 apply List.ext_getElem?;intro i;rw[vh]
 by_cases h:i<m
 .simp[Di,h]
 .simp[Di,h]
def At(b:Nat->Bool)(h:Heap)(U:Y3)(k:Nat)(G:Zl):Prop:=G.length=U.length/\∀(j:Nat) l,U[j]?=some l->∃Z x,Xi (b l) h l Z/\Z[k]?=some x/\G[j]?=some x
def ao9{n k:Nat}{Q:Y1}(Qh:Z≠[])(h3:Z.length<=3)(H:ZN b s.heap n Z .none G k 0 s.heap)(ho:G.length=Z.length)(hI:s.heap.get? (n+Z.length)=some (Zy (Di n Z.length)))(hl:∀l∈Z,l<n)(ha:At b s.heap Z k vs)
 (hq:∀h',ZN b s.heap n Z (rawInt s.heap.objs.size) vs (k+1) 0 h'->h'.get? s.heap.objs.size=some (Zy vs)->Q (.ref s.heap.objs.size) { s with heap:=h' }) :
 wpAny (model prog w) A (Builtin.«zip.__next__» ⟨[.ref (n+Z.length+2)],[]⟩) (λfin s'=>∃v,fin=.done (.ret v)/\Q v s') E s:=by
 have hz:=H.z;have ne:(Di n Z.length).toArray.isEmpty=false:=by cases Z with|nil=>exact absurd rfl Qh|cons a l=>simp[Di]
 show wpAny _ _ (field (.ref (n+Z.length+2)) 2 >>= _) _ _ _;refine aa (fu hz rfl (x:=.bool false) rfl (aa (fu hz rfl (x:=.ref (n+Z.length)) rfl (aa (m6 hI rfl ?_)))));simp only[ne,d9,jj];unfold Builtin.SmallTypes.ownedTupleIsFree;refine aa (aa (fu hz rfl (x:=.none) rfl (aj ?_)));simp only[j6];refine aa (qd (aa (fu hz rfl (x:=.ref (n+Z.length+1)) rfl (aa (jo hz (by simp) λg1 z1 s1=>?_)))));have H1:=H.sz s1.extBut (f1:=.ellipsis) z1;refine aa (uq _ (λU bb s'=>bb=(none,())/\∃d G g,U=((List.range' d (Z.length-d)).map λj=>(Value.ref (n+j),j))/\d<=Z.length/\s'={ s with heap:=g }/\ZN b s.heap n Z .ellipsis G k d g/\G.length=Z.length/\(∀i,i<d->G[i]?=vs[i]?)/\g.objs.size=s.heap.objs.size) _ (λx U bb s' hI=>?_) (λbb s' hI=>?_) _ _ ⟨rfl,0,G,g1,?_,ie _,rfl,H1,ho,λi hi=>absurd hi (o9 _),s1.1⟩)
 .obtain⟨rfl,d,G,g,e,R,rfl,H2,o2,v2,n2⟩:=hI
  have R:d<Z.length:=by
   rcases j9 d Z.length with h|h
   .exact h
   .rw[Nat.sub_eq_zero_of_le h] at e;cases e
  obtain⟨c,hc⟩:∃c,Z.length-d=c+1:=⟨Z.length-d-1,by lia⟩;rw[hc,xx,cz] at e;injection e with e1 e2
  subst e1 e2;obtain⟨l,el⟩:∃l,Z[d]?=some l:=⟨Z[d],by simp[R]⟩;obtain⟨xs,x,t1,t2,t3⟩:=ha.2 d l el;have i0:=H2.a d l el;rw[bj (lg _)] at i0;have ll:=hl l (bf el);refine aa (wpAny_onRaise (aa (Tp (s:={ s with heap:=g }) i0 (t1.at λo=>H2.low _ o (by lia)) t2 λg2 i2 s2=>aj ?_)));have H3:=H2.sa R s2.extBut λl' h=>by rw[el] at h;cases h;exact i2
  refine aa (m6 H3.o rfl (aa (aek (by rw[o2];exact h3) H3.o λg3 o3 s3 n3=>?_)));have H4:=H3.so s3 o3;refine aa (wpAny_letGo (aj ⟨rfl,d+1,G.set d x,g3,by rw[show Z.length-(d+1)=c by lia],R,rfl,H4,by rw[ym,o2],λi hi=>?_,by rw[n3,show g2.objs.size=g.objs.size from s2.1,n2]⟩))
  by_cases z:i=d
  .subst z
   rw[uo (by lia),t3]
  .rw[rz (jh z)];exact v2 i (by lia)
 .obtain⟨rfl,d,G,g,e,R,rfl,H2,o2,v2,n2⟩:=hI
  have R:d=Z.length:=by
   rcases j9 d Z.length with h|h
   .obtain⟨c,hc⟩:∃c,Z.length-d=c+1:=⟨Z.length-d-1,by lia⟩
    rw[hc,xx] at e;cases e
   .exact Nat.le_antisymm R h
  subst R;obtain rfl:G=vs:=by
   apply List.ext_getElem?;intro i;rcases j9 i Z.length with h|h
   .exact v2 i h
   .rw[wy (by lia),wy (by rw[ha.1];exact h)]
  refine aa (m6 H2.o rfl (aa (wpAny_newTuple ?_)));have H8:=H2.nx.up (g':=g.push (Zy G)) λc o e=>ao _ e
  refine aa ?_;unfold Builtin.SmallTypes.ownedTupleHandOut;refine aa (jo H8.z (by simp) λg9 z9 s9=>?_);have H9:=H8.sz s9.extBut (f1:=rawInt g.objs.size) z9;refine jo H9.z (by simp) λq0 q1 qv=>?_
  have qk:=H9.sz qv.extBut (f1:=rawInt g.objs.size) q1;have zl:n+Z.length+2<g.objs.size:=au H2.z
  have qq:q0.get? g.objs.size=some (Zy G):=qv.extBut _ _ (qt zl) (s9.extBut _ _ (qt zl) (bc _ rfl));refine aj ⟨_,rfl,?_⟩;show Q (.ref g.objs.size) _;rw[n2] at qk qq ⊢;exact hq q0 qk qq
 .show(Di n Z.length).zipIdx=_
  rw[ael];rfl
def avk{n k e:Nat}{Z:Y3}(hd:A.handled=none)(h0:Z[e]?=some l)(H:ZN b s.heap n Z .none U k 0 s.heap)(ho:U.length=Z.length)(h3:Z.length<=3)(hI:s.heap.get? (n+Z.length)=some (Zy (Di n Z.length)))(hl:∀l∈Z,l<n)(c1:Xi (b l) s.heap l xs)(e1:xs[k]?=none)
 (ha:∀(j:Nat) a,j<e->Z[j]?=some a->∃xs x,Xi (b a) s.heap a xs/\xs[k]?=some x)
 (hE:∀h' e,(∀c o,(c<n\/n+Z.length+2<c)->s.heap.get? c=some o->h'.get? c=some o)->(∃o,h'.get? e=some o/\o.cls=.type "StopIteration")->E (.ref e) { s with heap:=h' }) :
 wpAny (model prog w) A (Builtin.«zip.__next__» ⟨[.ref (n+Z.length+2)],[]⟩) Q E s:=by
 have hz:=H.z;have qk:=Zz h0;obtain⟨c,hc⟩:∃c,Z.length=c+1:=⟨Z.length-1,by lia⟩;have ne:(Di n Z.length).toArray.isEmpty=false:=by rw[hc];simp[Di]
 show wpAny _ _ (field (.ref (n+Z.length+2)) 2 >>= _) _ _ _;refine aa (fu hz rfl (x:=.bool false) rfl (aa (fu hz rfl (x:=.ref (n+Z.length)) rfl (aa (m6 hI rfl ?_)))));simp only[ne,d9,jj];unfold Builtin.SmallTypes.ownedTupleIsFree;refine aa (aa (fu hz rfl (x:=.none) rfl (aj ?_)));simp only[j6];refine aa (qd (aa (fu hz rfl (x:=.ref (n+Z.length+1)) rfl (aa (jo hz (by simp) λg1 z1 s1=>?_)))));have H1:=H.sz s1.extBut (f1:=.ellipsis) z1;refine aa (uq _ (λG bb s'=>bb=(none,())/\∃d U g,G=((List.range' d (Z.length-d)).map λj=>(Value.ref (n+j),j))/\d<=e/\s'={ s with heap:=g }/\ZN b s.heap n Z .ellipsis U k d g/\U.length=Z.length/\∀c o,(c<n\/n+Z.length+2<c)->s.heap.get? c=some o->g.get? c=some o) _ (λx G bb s' hI=>?_) (λbb s' hI=>?_) _ _ ⟨rfl,0,U,g1,?_,ie _,rfl,H1,ho,λc o y z=>s1.extBut _ _ (by lia) z⟩)
 .obtain⟨rfl,d,U,g,q,qq,rfl,H2,R,v2⟩:=hI
  obtain⟨c,hc⟩:∃c,Z.length-d=c+1:=⟨Z.length-d-1,by lia⟩;rw[hc,xx,cz] at q;injection q with q1 q2
  subst q1 q2;obtain⟨a,el⟩:∃a,Z[d]?=some a:=⟨Z[d],by simp[show d<Z.length by lia]⟩;have i0:=H2.a d a el;rw[bj (lg _)] at i0;have ll:=hl a (bf el);rcases j9 d e with hde|hde
  .obtain⟨ys,x,t1,t2⟩:=ha d a hde el
   refine aa (wpAny_onRaise (aa (Tp (s:={ s with heap:=g }) i0 (t1.at λo=>H2.low _ o (by lia)) t2 λg2 i2 s2=>aj ?_)));have H3:=H2.sa (show d<Z.length by lia) s2.extBut λl' h=>by rw[el] at h;cases h;exact i2
   refine aa (m6 H3.o rfl (aa (aek (by rw[R];exact h3) H3.o λg3 o3 s3 n3=>?_)));have H4:=H3.so s3 o3;exact aa (wpAny_letGo (aj ⟨rfl,d+1,U.set d x,g3,by rw[show Z.length-(d+1)=c by lia],hde,rfl,H4,by rw[ym,R],λc o y z=>s3 _ _ (by lia) (s2.extBut _ _ (by lia) (v2 c o y z))⟩))
  .obtain rfl:d=e:=by lia
   rw[el] at h0;cases h0;refine aa (wpAny_onRaise (aa (aei (s:={ s with heap:=g }) hd i0 (c1.at λo=>H2.low _ o (by lia)) e1 λg2 x s2 z_=>?_)));obtain⟨o,o1,R⟩:=z_;have z2:IsZip g2 (n+Z.length+2) (n+Z.length) (n+Z.length+1) .ellipsis:=s2 _ _ (by lia) H2.z;have ne:x≠n+Z.length+2:=λy=>by subst y;rw[z2] at o1;cases o1;simp at R
   exact jo z2 (by simp) λg3 _ s3=>hE g3 x (λc o y1 e=>s3.extBut _ _ (by lia) (s2 _ _ (by lia) (v2 c o y1 e))) ⟨o,s3.extBut _ _ ne o1,R⟩
 .obtain⟨rfl,d,U,g,q,qq,rfl,H2,R,v2⟩:=hI
  obtain⟨c,hc⟩:∃c,Z.length-d=c+1:=⟨Z.length-d-1,by lia⟩;rw[hc,xx] at q;cases q
 .show(Di n Z.length).zipIdx=_
  rw[ael];rfl
noncomputable def zI(b:Bool)(a:Addr):Obj:={ cls:=.type (cond b "tuple_iterator" "list_iterator"),data:=.fields #[.ref a,.int 0 0] }
def pI(b:Nat->Bool)(h:Heap)(Z:Y3):Heap:=Z.foldl (λh l=>h.push (zI (b l) l)) h
theorem Xj:∀(Z:Y3)(h:Heap),(pI b h Z).objs.size=h.objs.size+Z.length
 |[],h=>rfl
 |l::Z,h=>by
  have:=Xj (b:=b) Z (h.push (zI (b l) l));rw[jq] at this;rw[d7,<- Nat.add_assoc,Nat.add_right_comm];exact this
theorem aem:∀{ls:Y3}{h:Heap},h.get? c=some o->(pI b h ls).get? c=some o
 |[],_,e=>e|x::ls,h,e=>aem (ls:=ls) (h:=h.push (zI (b x) x)) (ao _ e)
theorem akg:∀{ls:Y3}{h:Heap}{j:Nat},ls[j]?=some l->(pI b h ls).get? (h.objs.size+j)=some (zI (b l) l)
 |x::ls,h,0,e=>by cases e;exact aem (ls:=ls) (h:=h.push (zI (b l) l)) (bc _ rfl)
 |x::ls,h,j+1,e=>by
  have:=akg (b:=b) (h:=h.push (zI (b x) x)) (ls:=ls) (j:=j) e;rw[jq] at this;rw[<- Nat.add_assoc,Nat.add_right_comm];exact this
def a08(h:g.get? i=some (zI b l)):Xh b g i l 0:=by
 cases b with
 |true=>exact⟨_,h,rfl,rfl⟩|false=>exact⟨_,h,rfl,rfl⟩
def avl{Q:Y1}(h:Xi b s.heap a Z)(q:Q (.ref s.heap.objs.size) { s with heap:=s.heap.push (zI b a) }):wpAny (model prog w) A (pyIter (.ref a)) Q E s:=by
 cases b with
 |true=>exact nq h q|false=>exact t8 h q
def apa{Q:List Value->Shared->Prop}(ht:∀l∈Z,∃xs,Xi (b l) s.heap l xs)(q:Q (Di s.heap.objs.size Z.length) { s with heap:=pI b s.heap Z }):wpAny (model prog w) A (Builtin.SmallTypes.iterAll (Z.map .ref)) Q E s:=by
 unfold Builtin.SmallTypes.iterAll;refine aa (uq _ (λU q9 R=>∃d,d<=Z.length/\U=(Z.drop d).map .ref/\q9=(Di s.heap.objs.size d).toArray/\R={ s with heap:=pI b s.heap (Z.take d) }) _ (λx U bb R hI=>?_) (λbb R hI=>?_) _ _ ⟨0,ie _,rfl,rfl,rfl⟩)
 .obtain⟨d,G,e,rfl,rfl⟩:=hI
  have G:d<Z.length:=by
   rcases j9 d Z.length with h|h
   .exact h
   .rw[List.drop_of_length_le h] at e;cases e
  rw[u6 G,cz] at e;injection e with e1 e2
  subst e1 e2;obtain⟨xs,hx⟩:=ht Z[d] (List.getElem_mem G);refine aa (jf (avl (hx.at λo e=>aem e) (aj ⟨d+1,G,rfl,?_,?_⟩)))
  .rw[Xj,xr,Nat.min_eq_left (u9 G)]
   simp[Di,List.range_succ]
  .have:pI b s.heap (Z.take (d+1))=(pI b s.heap (Z.take d)).push (zI (b Z[d]) Z[d]):=by
    rw[jd,dm G,pI,List.foldl_append];rfl
   rw[this]
 .obtain⟨d,G,e,rfl,rfl⟩:=hI
  have G:d=Z.length:=by
   rcases j9 d Z.length with h|h
   .rw[u6 h] at e;cases e
   .exact Nat.le_antisymm G h
  subst G;rw[jr];exact aj (by simpa using q)
def zB(b:Nat->Bool)(h:Heap)(Z:Y3):Heap:=(pI b h Z).push (Zy (Di h.objs.size Z.length))
def zC(b:Nat->Bool)(h:Heap)(Z:Y3):Heap:=(zB b h Z).push (Zy ((Di h.objs.size Z.length).map λ_=>.none))
def zD(b:Nat->Bool)(h:Heap)(Z:Y3):Heap:=(zC b h Z).push { cls:=.type "zip",data:=.fields #[.none,.bool false,.bool false,.ref (pI b h Z).objs.size,.ref (zB b h Z).objs.size] }
def akh(h3:Z.length<=3) :
 Meets (Builtin.«zip.__new__» ⟨.type "zip"::Z.map .ref,[]⟩) (λ_ R s=>(∀l∈Z,∃xs,Xi (b l) s.heap l xs)/\R (.ok (.ret (.ref (zC b s.heap Z).objs.size))) { s with heap:=zD b s.heap Z }) :=
 .of_wp λprog w A R s h=>by
  obtain⟨G,g,d,tk,U⟩:=s;obtain⟨ht,h⟩:=h;have qq:=sub_zip;have f1:∀{Q:List Value->Shared->Prop}{A E},Q (Di G.objs.size Z.length) ⟨pI b G Z,g,d,tk,U⟩->wpAny (model prog w) A (Builtin.SmallTypes.iterAll (Z.map .ref)) Q E ⟨G,g,d,tk,U⟩:=λq=>apa ht q
  have sz:∀(xs:Zl),xs.length<=3->xs.toArray.size<=sizeLine:=λxs h=>bw (by simpa using h) (show 3<=sizeLine by decide)
  have f2:∀{Q:Y1}{A E}{h:Heap},Q (.ref h.objs.size) ⟨h.push (Zy (Di G.objs.size Z.length)),g,d,tk,U⟩->wpAny (model prog w) A (newTuple (Di G.objs.size Z.length)) Q E ⟨h,g,d,tk,U⟩:=λq=>wpAny_newTuple q (sz _ (by simpa[Di] using h3))
  have f3:∀{Q:Y1}{A E}{h:Heap},Q (.ref h.objs.size) ⟨h.push (Zy ((Di G.objs.size Z.length).map λ_=>.none)),g,d,tk,U⟩->wpAny (model prog w) A (newTuple ((Di G.objs.size Z.length).map λ_=>.none)) Q E ⟨h,g,d,tk,U⟩:=λq=>wpAny_newTuple q (sz _ (by simpa[Di] using h3))
  wp_walk using f1,f2,f3
  exact⟨_,rfl,h⟩
def apb{n:Nat}(h3:Z.length<=3)(U:s.heap.objs.size=n)(ct:checkTypeCall "zip" ⟨Z.map .ref,[]⟩=pure ())(cb:checkBuiltinCall "zip.__new__" ⟨.type "zip"::Z.map .ref,[]⟩=pure ())(ca:∀obj,argsOk "object.__init__" ⟨obj::Z.map .ref,[]⟩)(ht:∀l∈Z,∃xs,Xi (b l) s.heap l xs)
 (h:∀G,ZN b G n Z .none ((Di n Z.length).map λ_=>.none) 0 0 G->G.get? (n+Z.length)=some (Zy (Di n Z.length))->(∀c o,s.heap.get? c=some o->G.get? c=some o)->Q (.ref (n+Z.length+2)) { s with heap:=G }):wpAny (model prog w) A (call (.type "zip") (Z.map .ref)) Q E s:=by
 refine callType_new F.called_zip (by decide) ct cb ca F.entry_zip_new (akh h3) ⟨ht,?_⟩;have R:(pI b s.heap Z).objs.size=n+Z.length:=by rw[Xj,U]
 have z4:(zB b s.heap Z).objs.size=n+Z.length+1:=by unfold zB;rw[jq,R]
 have z5:(zC b s.heap Z).objs.size=n+Z.length+2:=by unfold zC;rw[jq,z4]
 have up:∀{h:Heap}{o':Obj}{c:Addr}{o:Obj},h.get? c=some o->(h.push o').get? c=some o:=λe=>ao _ e
 have g6:(zD b s.heap Z).get? (zC b s.heap Z).objs.size=some _:=bc _ rfl;have g5:(zD b s.heap Z).get? (zB b s.heap Z).objs.size=some _:=up (bc _ rfl);have g4:(zD b s.heap Z).get? (pI b s.heap Z).objs.size=some _:=up (up (bc _ rfl));rw[R,z4,z5] at g6;rw[z4,U] at g5;rw[R,U] at g4;show _/\_;rw[z5];exact⟨⟨_,g6,rfl⟩,h _ ⟨g6,g5,λj l e=>a08 (up (up (up (by rw[<- U];exact akg e)))),λ_ _ _ e=>e⟩ g4 λc o e=>up (up (up (aem e)))⟩
theorem age:∀Z:List Value,Z.length=2->checkTypeCall "zip" ⟨Z,[]⟩=pure ()/\checkBuiltinCall "zip.__new__" ⟨.type "zip"::Z,[]⟩=pure ()/\∀obj,argsOk "object.__init__" ⟨obj::Z,[]⟩
 |[a,b],_=>⟨F.typeCall_zip_2 _ _,F.newCall_zip_2 _ _,λobj=>F.args_object_init_3 obj _ _⟩
end EnT
namespace L2
open PySem PySem.Spec EnT
def IzN(b:Nat->Bool)(K:Fg)(U:X1):It :=
 ⟨λi H=>∃G:List V,G.length=U.length/\∀(j:Nat) a,U[j]?=some a->∃Z x,SqX (b a) K H a Z/\Z[i]?=some x/\G[j]?=some x,
  λi H v H'=>∃p G,v=.ref p/\H p=none/\H'=upd H p (.tup G)/\G.length=U.length/\∀(j:Nat) a Z,U[j]?=some a->SqX (b a) K H a Z->G[j]?=Z[i]?,
  λi H=>∃(e:Nat)(a:Addr)(Z:List V),U[e]?=some a/\SqX (b a) K H a Z/\Z.length<=i/\∀(j:Nat) a,j<e->U[j]?=some a->∃R,SqX (b a) K H a R/\i<R.length⟩
def TN(b:Nat->Bool)(n:Nat)(Z:X1)(i:Nat)(h:Heap):Prop:=(∃G,ZN b h n Z .none G i 0 h/\G.length=Z.length)/\h.get? (n+Z.length)=some (Zy (Di n Z.length))
noncomputable def FN(n m:Nat):List Addr:=List.range' n (m+3)
def FN.mem{n m c:Nat}:c∈FN n m↔n<=c/\c<n+m+3:=List.mem_range'_1
theorem at_of(I:Inv X pins σ H s):∀{as:X1}{vs:List V},vs.length=as.length->(∀(j:Nat) a,as[j]?=some a->∃G x,SqX (b a) X.K H a G/\G[i]?=some x/\vs[j]?=some x)->∃Z,Vals vs Z/\At b s.heap as i Z
 |[],[],_,_=>⟨[],.nil,rfl,λj l h=>by simp at h⟩
 |a::as,v::vs,l,h=>by
  obtain⟨Z,r,e,q⟩:=at_of I (as:=as) (vs:=vs) (by simpa using l) (λj a e=>h (j+1) a e);obtain⟨G,x,q1,x1,hv⟩:=h 0 a rfl;cases hv;obtain⟨i1,r1,p1⟩:=I.ab0 q1;obtain⟨U,u1,w1⟩:=r1.get x1;refine⟨U::Z,.cons w1 r,by simp[e],λj l R=>?_⟩;cases j with
  |zero=>cases R;exact⟨i1.toArray,U,p1,by simpa using u1,rfl⟩|succ j=>exact q j l R
theorem apc{n:Nat}(h3:G.length<=3)(Qh:G≠[])(hl:∀a∈G,a<n):Turn P w K (.Tuple ts k0 pt) (IzN b K G) (FN n G.length) (n+G.length+2) (TN b n G) where
 mem:=FN.mem.mpr (by lia)
 obj:=λi h R e U=>by
  obtain⟨⟨ov,H,_⟩,hI⟩:=R;obtain⟨c1,c2⟩:=FN.mem.mp U
  by_cases z:e<n+G.length
  .have q:e-n<G.length:=by lia
   have z:=(H.a (e-n) G[e-n] (by simp[q])).obj;rw[show n+(e-n)=e by lia] at z;exact z
  .rcases(show e=n+G.length\/e=n+G.length+1\/e=n+G.length+2 by lia) with rfl|rfl|rfl
   .exact⟨_,hI,λv z=>by cases z⟩
   .exact⟨_,H.o,λv z=>by cases z⟩
   .exact⟨_,H.z,λv z=>by cases z⟩
 keep:=λi h h' R k=>by
  obtain⟨⟨ov,H,l⟩,hI⟩:=R;have kk:∀d o,n<=d->d<n+G.length+3->h.get? d=some o->h'.get? d=some o:=λd o h1 h2=>k d (FN.mem.mpr ⟨h1,h2⟩) o
  exact⟨⟨ov,⟨kk _ _ (by lia) (by lia) H.z,kk _ _ (by lia) (by lia) H.o,λj l h=>(H.a j l h).at λo=>kk _ o (by lia) (by have:=Zz h;lia),λ_ _ _ e=>e⟩,l⟩,kk _ _ (by lia) (by lia) hI⟩
 item:=by
  intro X hP hw hK U i qq s σ H E I hf R hg;subst hP hw hK;obtain⟨⟨ov,Z,lo⟩,hI⟩:=R;have lt:n+G.length+2<s.heap.objs.size:=au Z.z
  obtain⟨vs,lv,hg⟩:=hg;obtain⟨us,r,ha⟩:=at_of I lv hg;have ty:s.TypeIs (.ref (n+G.length+2)) "zip" := ⟨_,Z.z,rfl⟩;unfold pyNext;refine aa (wpAny_attempt (je (name:=Str.ofString "__next__") ty F.slot_zip_next (jn F.slot_zip_next ty F.entry_zip_next ?_ (F.args_zip_next_1 _))));refine ao9 Qh h3 Z lo hI hl ha λh1 Z1 t1=>aj ⟨_,rfl,?_⟩
  refine wpAny_letOwnedTupleGo_zip Z1.z λh2 z2 s2=>?_
  have s2:Heap.SameBut (n+G.length+2) h1 h2:=s2;have Z2:=Z1.sz s2.extBut (f1:=.none) z2;have t2:h2.get? s.heap.objs.size=some (Zy us):=s2.extBut _ _ (qt lt) t1;refine⟨.ref s.heap.objs.size,upd H s.heap.objs.size (.tup vs),I.Vn (t':=s.toks) hf (λc o U zz=>Z2.low c o (by rw[FN.mem] at U;lia) zz) (az _) ⟨by rw[lv];exact bw h3 (show 3<=sizeLine by decide),us,r,⟨_,t2,rfl,_,rfl,rfl⟩⟩,rfl,
   ⟨_,vs,rfl,I.yf.fresh (az _),rfl,lv,λj a ys ja hy=>?_⟩,⟨⟨us,⟨Z2.z,Z2.o,Z2.a,λ_ _ _ e=>e⟩,ha.1⟩,Z2.low _ _ (by lia) hI⟩,λc U=>?_⟩
  .obtain⟨xs,x,q1,q2,q3⟩:=hg j a ja
   rw[I.Zx hy q1,q2,q3]
  .rw[FN.mem] at U
   rw[jy (by lia)];exact(hf c (FN.mem.mpr U)).1
 done:=by
  intro X hP hw hK U i qq s σ H E I hf R hg;subst hP hw hK;obtain⟨⟨ov,Z,lo⟩,hI⟩:=R;obtain⟨e,a,xs,a0,q1,x1,hj⟩:=hg;obtain⟨i1,r1,p1⟩:=I.ab0 q1;have q4:=r1.length;have ty:s.TypeIs (.ref (n+G.length+2)) "zip" := ⟨_,Z.z,rfl⟩;unfold pyNext;refine aa (wpAny_attempt (je (name:=Str.ofString "__next__") ty F.slot_zip_next (jn F.slot_zip_next ty F.entry_zip_next ?_ (F.args_zip_next_1 _))));refine avk (I.ok.hd U) a0 Z lo h3 hI hl (xs:=i1.toArray) p1 (by simp;lia) (λj a' qv qk=>?_) λh' e k z_=>?_
  .obtain⟨ys,y1,y2⟩:=hj j a' qv qk
   obtain⟨i2,r2,p2⟩:=I.ab0 y1;have q0:=r2.length;exact⟨i2.toArray,i2[i]'(by lia),p2,by simp⟩
  obtain⟨o,o1,o2⟩:=z_;exact aa (o5 (T := "StopIteration") (b:=true) ⟨o,o1,o2⟩ isSubtype_stop (aj ⟨rfl,I.aej (t':=s.toks) hf λc o U zz=>k c o (by rw[FN.mem] at U;lia) zz⟩))
 self:=λ_ _ _ _ _ R h=>by obtain⟨⟨ov,Z,_⟩,_⟩:=R;exact wpAny_pyIter_zip Z.z h
theorem Vo:∀{Z:X1}{G:Zl},Vals (Z.map V.ref) G->G=Z.map Value.ref
 |[],_,h=>by cases h;rfl|_::_,_,h=>by cases h with|cons r t=>cases r;rw[Vo t];rfl
def a09(hg:Gl X "zip")(hm:X.mg "zip" = none)(ha:PA X (a::es) ta)(hs:starEach (a::es) X.env=(false,eval a X.env)::starEach es X.env)(Kq:(backTo pos (starEach es X.env)).any (·.1)=false) :
 PI X (.Tuple ts k0 pt) (.Call (.Name "zip" p) (a::es) [] pos) (fun σ H R=>ta σ H λvs H1=>∃(b:Nat->Bool)(G:X1),vs=G.map V.ref/\G.length=2/\(∀q∈G,∃xs,SqX (b q) X.K H1 q xs)/\R (IzN b X.K G) H1):=by
 intro U s σ H R I h;refine PyProof.Rows.Call_ (Hr I hg hm (show bootBuiltins "zip" = some (.type "zip") by decide+kernel) (qe (zj (ha pos U s σ H _ I h) λus s1 z=>?_) hs Kq));obtain⟨vs,H1,I1,r1,b,G,rfl,l,ht,hR⟩:=z;cases Vo r1;obtain⟨c1,c2,c3⟩:=age (G.map Value.ref) (by simpa using l);have h3:G.length<=3:=by lia
 have tp:∀q∈G,∃xs,Xi (b q) s1.heap q xs:=λq hq=>by obtain⟨xs,hx⟩:=ht q hq;obtain⟨i1,_,p1⟩:=I1.ab0 hx;exact⟨_,p1⟩
 refine apb h3 rfl c1 c2 c3 tp λh' Z hI kk=>wpAny_pyIter_zip Z.z ?_
 refine⟨s1.heap.objs.size+G.length+2,_,_,_,H1,rfl,I1.kept (t':=s1.toks) kk,apc h3 (λz=>by subst z;simp at l) λq hq=>by obtain⟨xs,e⟩:=tp q hq;exact e.lt,⟨⟨_,Z,by simp[Di]⟩,hI⟩,λc hc=>?_,hR⟩;have qq:=(FN.mem.mp hc).1;exact I1.afs qq (I1.yf.fresh qq)
end L2
namespace Sm
open PySem L2
open MW (Ex Dd OEx Lh Af m7 Lv Tg Res dj MO Ks Cp Op2 Blt Bm Kx Src)
def agf{i:Nat}(h:(MW.zx ds 0)[i]?=some d):∃z,ds[i]?=some z/\d=.tup [.int (i:Nat),z]:=by
 unfold MW.zx at h;rw[ig,vh] at h;cases e:ds[i]? with
 |none=>rw[e] at h;simp at h|some z=>rw[e] at h;simp at h;exact⟨z,rfl,h.symm⟩
def aen{X:Cx}(r:lz X.K ι H ds U)(R:∀Z G,LeX ι H Z G->SqX bb X.K G q U):aga nm X.K ι H (.con (MW.zx ds 0)) (Ien bb X.K q):=λZ G M1 le S1=>by
 refine⟨λi d hi hd=>?_,λ_=>⟨U,R Z G le,?_⟩⟩
 .obtain⟨z,e1,rfl⟩:=agf (show(MW.zx ds 0)[i]?=some d from hd)
  obtain⟨v,g1,g2⟩:=(r.Gm le).get e1;refine⟨⟨U,v,R Z G le,g1⟩,λu H2 ⟨p,x,e2,e3,e4,e5⟩=>?_⟩;have ex:x=v:=by have:=e5 U (R Z G le);rw[g1] at this;cases this;rfl
  subst ex e2 e4;obtain⟨S2,yd,r2⟩:=Ht (X:=X) S1 e3 (.cons (.int _) (.cons g2 .nil));exact⟨yd,S2,r2⟩
 .show U.length<=(MW.zx ds 0).length
  rw[<- r.length];simp[MW.zx]
def apd{X:Cx}{n k:Nat}(S:j7 nm X.K ι H M)(hM:M[n]?=some (.lst ds))(hn:ι.l[n]?=some q):aga nm X.K ι H (.el n k) (Ien false X.K q):=λqq H1 R le S1=>by
 refine⟨λi d hi Z=>?_,λG=>?_⟩
 .have Z:(match R[n]? with|some (.lst ds)=>if ds.length=k then(ds[i]?).map λd=>.tup [.int i,d] else none|_=>none)=some d:=Z
  cases e:R[n]? with
  |none=>rw[e] at Z;cases Z
  |some o=>cases o with
   |lst U =>
    rw[e] at Z;have Z:(if U.length=k then(U[i]?).map λd=>MW.D.tup [.int i,d] else none)=some d:=Z
    by_cases hz:U.length=k
    .rw[bh hz] at Z
     obtain⟨z,e1,rfl⟩:=bx.mp Z;obtain⟨us,k1,k2⟩:=S1.obj n _ q e (le.get hn);obtain⟨v,g1,g2⟩:=k2.get e1;refine⟨⟨us,v,Dt.of k1,g1⟩,λu H2 ⟨p,x,e2,e3,e4,e5⟩=>?_⟩;have ex:x=v:=by have:=e5 us (Dt.of k1);rw[g1] at this;cases this;rfl
     subst ex e2 e4;obtain⟨S2,yd,r2⟩:=Ht (X:=X) S1 e3 (.cons (.int _) (.cons g2 .nil));exact⟨yd,S2,r2⟩
    .rw[bj hz] at Z;cases Z
   |_=>rw[e] at Z;cases Z
 .have G:(match R[n]? with|some (.lst ds)=>ds.length==k|_=>false)=true:=G
  cases e:R[n]? with
  |none=>rw[e] at G;cases G
  |some o=>cases o with
   |lst U =>
    rw[e] at G;obtain⟨us,k1,k2⟩:=S1.obj n _ q e (le.get hn);exact⟨us,Dt.of k1,by rw[<- k2.length];exact f_ (show U.length=k by simpa using G)⟩
   |_=>rw[e] at G;cases G
def a1a(hg:Gl X "enumerate")(hm:X.mg "enumerate" = none)(ha:PE X a (tE nm W X.K a'))(qk:noStar a=true):PI X (.Tuple ts k0 pt) (.Call (.Name "enumerate" pr) [a] [] pos) (tI nm W X.K (.enm a')):=by
 intro qq s0 σ H R' I hh;obtain⟨ι,ρ,M,s,M',S,R,e,q⟩:=hh;rw[MW.Vz] at e;obtain⟨x,G,e1,e⟩:=dz e;refine PI.weak (a07 (ts:=ts) (k0:=k0) (pt:=pt) (p:=pr) (pos:=pos) hg hm (Xa ha aeb (qg qk _ _)) (qg qk _ _)) (wi':=λU H0 R0=>U=σ/\H0=H/\R0=R') (λU H0 R0 ⟨z1,z2,z3⟩=>?_) qq s0 σ H R' I ⟨rfl,rfl,rfl⟩;subst z1 z2 z3;refine Ud (es':=.cons a' .nil) (ds:=[x]) (M1:=G) S R (by rw[MW.Ag,e1];simp) λZ H1 vs le S1 R1 r=>?_
 cases r with
 |cons r1 r2 =>
  cases r2;cases r1 with
  |@tup p ds us h1 rr =>
   cases e;exact⟨true,p,rfl,⟨us,El.of h1⟩,q Z H1 _ le S1 (aen rr λqv H2 yd=>El.of (yd.tup _ _ h1))⟩
  |@vl p ds us h1 n1 rr =>
   cases e;exact⟨false,p,rfl,⟨us,Dt.of h1⟩,q Z H1 _ le S1 (aen rr λqv H2 yd=>Dt.of (yd.lst _ _ n1.1 h1))⟩
  |@ref n p h1 =>
   have e:(match G[n]? with|some (.lst ds)=>Res.ok (Src.el n ds.length) G|_=>.bad)=.ok s M':=e;cases hM:G[n]? with
   |none=>rw[hM] at e;cases e
   |some o=>cases o with
    |lst zs =>
     rw[hM] at e;cases e;obtain⟨us,k1,k2⟩:=S1.obj n _ p hM h1;exact⟨false,p,rfl,⟨us,Dt.of k1⟩,q Z H1 _ le S1 (apd S1 hM h1)⟩
    |_=>rw[hM] at e;cases e
  |_=>cases e
def ape:PS X st (tS nm W X.K .raise):=λZ s σ H D I U=>by obtain⟨ι,ρ,M,fl,G,M',S,R,e,q⟩:=U;rw[MW.ahj] at e;cases e
def aq5(h:PE X a t):PE X (.BoolOp op [a] pos) t:=λZ s G H Q I q=>PyProof.Rows.BoolOp_one (h Z s G H Q I q)
def aki{X:Cx}{p q:Addr}{us vs:List V}(r1:lz X.K ι H U us)(r2:lz X.K ι H R vs)(h1:H p=some (.tup us))(h2:H q=some (.tup vs)):aga nm X.K ι H (.con (MW.X6 U R)) (IzN (λ_=>true) X.K [p,q]):=λqq H1 M1 le S1=>by
 have k1:SqX true X.K H1 p us:=El.of (le.tup _ _ h1);have k2:SqX true X.K H1 q vs:=El.of (le.tup _ _ h2);have l1:=r1.length;have l2:=r2.length;refine⟨λi d hi hd=>?_,λ_=>?_⟩
 .have hd:((U.zip R).map λp=>MW.D.tup [p.1,p.2])[i]?=some d:=hd
  rw[ig] at hd;obtain⟨⟨x,y⟩,e,rfl⟩:=bx.mp hd;obtain⟨ex,ey⟩:=List.getElem?_zip_eq_some.mp e;obtain⟨u,g1,g2⟩:=(r1.Gm le).get ex;obtain⟨v,g3,g4⟩:=(r2.Gm le).get ey;refine⟨⟨[u,v],rfl,λj a Z=>?_⟩,λu' H2 z=>?_⟩
  .match j,Z with
   |0,Z=>cases Z;exact⟨us,u,k1,g1,rfl⟩|1,Z=>cases Z;exact⟨vs,v,k2,g3,rfl⟩
  .obtain⟨t,ws,rfl,e6,rfl,e8,e9⟩:=z
   have a1:=e9 0 p us rfl k1;have a2:=e9 1 q vs rfl k2
   match ws,e8,a1,a2 with
   |[w1,w2],_,a1,a2 =>
    rw[g1] at a1;rw[g3] at a2;cases a1;cases a2;obtain⟨S2,yd,r3⟩:=Ht (X:=X) S1 e6 (.cons g2 (.cons g4 .nil));exact⟨yd,S2,r3⟩
 .have G:(Src.con (MW.X6 U R)).len=min U.length R.length:=by simp[Src.len,MW.X6]
  rw[G];rcases j9 R.length U.length with h|h
  .exact⟨1,q,vs,rfl,k2,by lia,λj a Z ha=>by
    have:j=0:=by lia
    subst this;cases ha;exact⟨us,k1,by lia⟩⟩
  .exact⟨0,p,us,rfl,k1,by lia,λj a Z=>absurd Z (o9 _)⟩
def a1b(hg:Gl X "zip")(hm:X.mg "zip" = none)(ha:PA X (a::es) (Xv nm W X.K qq))(hs:starEach (a::es) X.env=(false,eval a X.env)::starEach es X.env)(Kq:(backTo pos (starEach es X.env)).any (·.1)=false) :
 PI X (.Tuple ts k0 pt) (.Call (.Name "zip" pr) (a::es) [] pos) (tI nm W X.K (.zip qq)):=by
 intro U s0 σ H R' I hh;obtain⟨ι,ρ,M,s,M',S,R,e,q⟩:=hh;rw[MW.acj] at e;obtain⟨ds,N1,e1,e⟩:=dz e;obtain⟨xs,ys,rfl,rfl,rfl⟩:∃xs ys,ds=[.tup xs,.tup ys]/\s=.con (MW.X6 xs ys)/\M'=N1:=by
  unfold MW.ars at e;split at e
  .cases e;exact⟨_,_,rfl,rfl,rfl⟩
  .cases e
 refine PI.weak (a09 (ts:=ts) (k0:=k0) (pt:=pt) (p:=pr) (pos:=pos) hg hm ha hs Kq) (wi':=λG H0 R0=>G=σ/\H0=H/\R0=R') (λG H0 R0 z=>?_) U s0 σ H R' I ⟨rfl,rfl,rfl⟩;obtain⟨rfl,rfl,rfl⟩:=z;refine Ud S R e1 λqk H1 vs le S1 R1 Z=>?_
 cases Z with
 |cons r1 Z=>cases Z with
  |cons r2 Z =>
   cases Z;cases r1 with
   |@tup p1 _ us1 h1 l1=>cases r2 with
    |@tup p2 _ us2 h2 l2 =>
     refine⟨λ_=>true,[p1,p2],rfl,rfl,λa ha=>?_,q qk H1 _ le S1 (aki l1 l2 h1 h2)⟩;simp only[dh,xu,or_false] at ha;rcases ha with rfl|rfl
     .exact⟨_,El.of h1⟩
     .exact⟨_,El.of h2⟩
theorem Z0:∀{Z:List Dv}{b:Bool},MW.allB Z=some b->∃bs:List Bool,Z=bs.map MW.D.bl/\b=bs.all id
 |[],b,e=>by cases e;exact⟨[],rfl,rfl⟩
 |.bl k::r,b,e=>by
  obtain⟨c,G,rfl⟩:=bx.mp (show(MW.allB r).map (k&&·)=some b from e);obtain⟨bs,rfl,rfl⟩:=Z0 G;exact⟨k::bs,rfl,by simp⟩
theorem Vp{U:Io}{H:Hp}{K:Fg}:∀{bs:List Bool}{Z:List V}{is:Zl},lz K U H (bs.map MW.D.bl) Z->Vals Z is->is=bs.map Value.bool
 |[],_,_,r,h=>by cases r;cases h;rfl
 |k::bs,_,_,r,h=>by
  cases r with
  |cons G r2 =>
   cases h with
   |cons h1 R =>
    cases G;cases h1;rw[Vp r2 R];rfl
def a1c(hc:X.calm=true):zp X (.builtin "all") (rB nm X.K .all):=λqk s σ H vs us Q I K7 hh=>by
 obtain⟨ι,M,ds,d,M',S,r,e,q⟩:=hh;obtain⟨x,rfl,e⟩:∃x,ds=[x]/\Res.qx (((MW.d8 M x).bind MW.allB).map MW.D.bl) M=.ok d M':=by
  cases ds with
  |nil=>cases e
  |cons x l=>cases l with
   |nil=>exact⟨x,rfl,e⟩|cons _ _=>cases e
 obtain⟨e1,rfl⟩:=su e;obtain⟨b,e2,rfl⟩:=bx.mp e1;obtain⟨xs,e3,e4⟩:=ir.mp e2;obtain⟨bs,rfl,rfl⟩:=Z0 e4;obtain⟨v,rfl,rv⟩:=Hw r rfl;obtain⟨u,rfl,ru⟩:=abz K7;obtain⟨p,ws,rfl,hp,rl⟩:=qp S rv e3;cases ru;obtain⟨is,qq,pl,_⟩:=I.list (Dt.of hp);have Z:=Vp rl qq;have Ik:p<s.heap.objs.size:=by obtain⟨_,e,_⟩:=pl.isList;exact au e
 refine call_all_walk (t8 pl.isList ?_);refine⟨_,_,_,_,_,_,λi=>bs.getD i true,rfl,Walks.list (A:=X.A.in1) (I.ok.hd hc) s.heap.objs.size p (fc Ik) is.toArray,⟨⟨_,bc _ rfl,rfl,rfl⟩,pl.isList.push _⟩,λi v s Q E hP hQ=>?_,λh' tk G=>?_⟩
 .have hv:is[i]?=some v:=by simpa using hP
  rw[Z,ig] at hv;obtain⟨k,G,rfl⟩:=bx.mp hv;refine ju ?_;have hQ:Q (bs.getD i true) s:=hQ;rw[ux,G] at hQ;exact hQ
 .have ha:(List.range is.toArray.size).all (λi=>bs.getD i true)=bs.all id:=by
   rw[Z];simp only[di,dg];rw[wu,uv,uv];constructor
   .intro h k G
    obtain⟨i,R,rfl⟩:=v5 G;have:=h i (km.mpr R);simpa[ux,R] using this
   .intro h i R
    have U:=km.mp R;have:=h bs[i] (List.getElem_mem U);simpa[ux,U] using this
  rw[ha];exact⟨.bl _,H,I.kept (t':=tk) (old_kept G),rfl,q ι H _ (Le.refl _ _) S (.bl _)⟩
def apf{prog:Program}{w:World}{R:Type}[DecidableEq R]{Z:HeapKind prog w R}{A:Around}{E:Y1}{s:Shared}{d a:Addr}{xs:List (R×Addr×Value)}{k:R}{v:Value}{Q:Y1}(hu:Z.room A)(G:Z.is s.heap k a)(hm:s.heap.DictOfH Z d xs)(hz:xs.length<=sizeLine)
 (h1:∀p,atKey xs k=some p->Q p.2 { s with toks:=s.toks+Z.draws k })
 (h2:atKey xs k=none->∀h',h'.DictOfH Z d (xs++[(k,a,v)])->Heap.SameBut d s.heap h'->Q v { s with heap:=h',toks:=s.toks+Z.draws k }) :
 wpAny (model prog w) A (dictSetDefault d (.ref a) v) Q E s:=by
 obtain⟨o,es,ep,c1,c2,U,c4,c5,c6⟩:=hm;unfold dictSetDefault;refine jf (aa (Z.pyHash hu G (aa (wpAny_dictFind_heap (s:={ s with toks:=s.toks+Z.draws k }) hu G c1 U c4 c5 c6 (λno=>?_) λj p hj=>?_))))
 .have z:=h2 (atKey_none_of_get no)
  have nk:=not_mem_keys_of_get no;have hs:=size_of_entries c4;have sb:Heap.SameBut d s.heap (s.heap.update d (Obj.mapDictKeys (·.push ⟨Z.hash k,.ref a,v⟩))):=iw ..;have kp:∀{x:R}{b:Addr},Z.is s.heap x b->Z.is (s.heap.update d (Obj.mapDictKeys (·.push ⟨Z.hash k,.ref a,v⟩))) x b:=λq=>Z.keeps q c1 U sb
  refine aa (qd (aa (wpAny_updateDictKeys (hz:=by lia) (s:={ s with toks:=s.toks+Z.draws k }) c1 U (aj (z _ ⟨_,_,ep+1,lr _ c1 (Obj.isFreed_of_dict (Obj.data_mapDictKeys U _)),c2.mapDictKeys _,Obj.data_mapDictKeys U _,by simp[c4,entryOfKey],λx hx=>?_,?_⟩ sb)))))
  .rcases cg.mp hx with q|q
   .exact kp (c5 x q)
   .cases jz.mp q;exact kp G
  .rw[gr]
   exact n6.mpr ⟨c6,by simp,λx hx y hy e=>nk (by cases jz.mp hy;rw[show x=k from e] at hx;exact hx)⟩
 .have z:=h1 p (atKey_of_get c6 hj)
  refine aa (t7 (s:={ s with toks:=s.toks+Z.draws k }) c1 U ?_);rw[entry_at c4 j,hj];exact aa (qd (aj z))
def ab1{prog:Program}{w:World}{κ:Type}[DecidableEq κ](Z:HeapKind prog w κ)(d a:Addr)(hd:(d==sysModules)=false)(v:Value) :
 MeetsIn prog w (Builtin.«dict.setdefault» ⟨[.ref d,.ref a,v],[]⟩) (λA R s=>Z.room A.in1/\∃k G,Z.is s.heap k a/\s.heap.DictOfH Z d G/\G.length<=sizeLine /\
  (∀p,atKey G k=some p->R (.ok (.ret p.2)) { s with toks:=s.toks+Z.draws k }) /\
  (atKey G k=none->∀U,U.DictOfH Z d (G++[(k,a,v)])->Heap.SameBut d s.heap U->R (.ok (.ret v)) { s with heap:=U,toks:=s.toks+Z.draws k })) :=
 .of_wp λA R s h=>by obtain⟨hu,k,G,hk,hm,hz,h1,h2⟩:=h;refine aa (aa (ug hm.typeIs (?_:wpAny _ _ (pure (d,Value.ref a,some v)) _ _ s)));refine aj (?_:wpAny _ _ (if(d==sysModules)=true then _ else(dictSetDefault d (.ref a) v >>= _)) _ _ s);rw[hd];exact aa (apf hu hk hm hz (λp q=>aj ⟨_,rfl,h1 p q⟩) λq U m sb=>aj ⟨_,rfl,h2 q U m sb⟩)
def aeo(h:MW.onT o M f=.ok d M'):∃n Z,o=.ref n/\M[n]?=some (.dT Z)/\f n Z=.ok d M':=by
 cases o with
 |ref n =>
  simp only[MW.onT] at h;cases e:M[n]? with
  |none=>rw[e] at h;cases h
  |some o=>cases o with
   |dT Z=>rw[e] at h;exact⟨n,Z,rfl,e,h⟩|_=>rw[e] at h;cases h
 |_=>cases h
def akj(e:MW.Bj .setdefault x ds M=.ok d R):∃n k U G q,x=.ref n/\ds=[k,U]/\M[n]?=some (.dT G)/\MW.Ha k=some q/\((MW.Ac G q=some d/\R=M)\/(MW.Ac G q=none/\G.length<100000/\d=U/\R=M.set n (.dT (G++[(q,U)])))):=by
 obtain⟨n,G,rfl,hM,Z⟩:=aeo e
 match ds,Z with
 |[k,U],Z =>
  cases hk:MW.Ha k with
  |none=>simp only[hk] at Z;cases Z
  |some q =>
   simp only[hk] at Z;refine⟨n,k,U,G,q,rfl,rfl,hM,hk,?_⟩;cases hl:MW.Ac G q with
   |some v=>simp only[hl] at Z;cases Z;exact .inl ⟨rfl,rfl⟩
   |none =>
    simp only[hl] at Z;obtain⟨h1,h2⟩:=Tn Z;cases h2;exact .inr ⟨rfl,h1,rfl,rfl⟩
 |[],Z=>cases Z|[_],Z=>cases Z|_::_::_::_,Z=>cases Z
set_option tactic.hygienic true in
def ty_dict{X:Cx}(S:j7 nm X.K Y H M)(r:Rep X.K Y H x v)(h:MW.Iz .setdefault x M=true):tyV X.K "dict" v H:=by
 cases r with
 |@ref n p hp =>
  have h:(match M[n]? with|some (.dT _)=>true|_=>false)=true:=h;split at h
  .rename_i G
   obtain⟨l,Z,_⟩:=S.obj n _ p G hp;exact .inr (.inr (.inl ⟨rfl,.inr ⟨_,Z⟩⟩))
  .cases h
 |_=>cases h
def avm(hu:X.A.units+1<cLine):MtR X "dict.setdefault" (rM nm X.K .setdefault):=λq1 s σ H v vs u us Q I ru K7 hh=>by
 obtain⟨ι,M,x,ds,d,M',S,r,rs,e,q⟩:=hh;obtain⟨n,k,d0,m9,U,rfl,rfl,hM,hk,hd⟩:=akj e;cases rs with
 |cons rk rt=>cases rt with
  |cons rd rt =>
   cases rt;cases K7 with
   |cons qv R=>cases R with
    |cons qk R =>
     cases R;cases r with
     |@ref _ p ha =>
      cases ru;obtain⟨l,h1,h2⟩:=S.obj n _ _ hM ha;obtain⟨b,rfl,hb⟩:=Ox rk hk;cases qv;obtain⟨z,qq,xs,G,dd⟩:=aqv I.yf h1;have q2:=Paired.length G;have Z:=G.val U;refine call_meetsIn PySem.F.slot_dict_setdefault dd.typeIs PySem.F.entry_dict_setdefault (PySem.F.args_dict_setdefault_3 _ _ _) (ab1 (tupleKind (sy X.prog X.w)) p b qq _) ⟨p8 hu,U,xs,Jw I.yf hb,dd,by lia,λpp hp=>?_,λhn h' q0 sb=>?_⟩
      .rw[hp] at Z
       rcases hd with⟨g1,rfl⟩|⟨g1,_⟩
       .obtain⟨y,g2,g3⟩:=(h2.look (k:=U)).1 d g1
        rw[g2] at Z;exact⟨y,H,I.tok _,Z,q ι H _ (Le.refl _ _) S g3⟩
       .rw[(h2.look (k:=U)).2 g1] at Z
        exact(show False from Z).elim
      .rw[hn] at Z
       rcases hd with⟨g1,_⟩|⟨g1,g2,rfl,rfl⟩
       .obtain⟨y,g3,_⟩:=(h2.look (k:=U)).1 d g1
        rw[g3] at Z;exact(show False from Z).elim
       .obtain⟨S2,yd⟩:=S.put (u:=.dT (l++[(U,_)])) (o:=.dT (m9++[(U,_)])) hM ha λle=>⟨_,qu,(h2.mono le).snoc rfl (rd.mono le)⟩
        refine⟨_,_,?_,qk,q _ _ _ yd S2 (rd.mono yd)⟩;obtain⟨o,es,ep,f1,f2,f3,f4,_,f5⟩:=q0;have q3:=h2.length;refine Wz I (by rw[h1];trivial) sb ⟨o,f1⟩ ⟨by have:=Nz g2;simp;lia,qq,_,KT.keeps (Paired.snoc G ⟨rfl,hb,qk⟩) λc ys ec=>?_,o,es,ep,f1,f2,f3,f4,f5⟩;rw[jy (Yz ec h1 (λz=>nomatch z))];exact ec
section
variable{prog:Program}{w:World}{A:Around}{E:Y1}{s:Shared}{it d:Addr}{i ep:Nat}{o:Obj}{es:Array DictEntry}{Q:Option Value->Shared->Prop}
def ab2(Z:(d==sysModules)=false) :
 MeetsIn prog w (Builtin.«dict.values» ⟨[.ref d],[]⟩) (λ_ R s=>s.TypeIs (.ref d) "dict"/\R (.ok (.ret (.ref s.heap.objs.size))) { s with heap:=s.heap.push { cls:=.type "dict_values",data:=.fields #[.ref d] } }) :=
 .of_wp λA R s h=>by obtain⟨T,h⟩:=h;refine aa (aa (ug T (?_:wpAny _ _ (pure d) _ _ s)));refine aj (?_:wpAny _ _ (Builtin.Dict.showsAll d >>= _) _ _ s);unfold Builtin.Dict.showsAll;rw[Z];exact aa (aj (aa (jt (aj ⟨_,rfl,h⟩))))
def agg{v:Addr}{Q:Y1}(Z:s.heap.IsValuesView v d)(G:s.heap.get? d=some o)(U:o.data=.dict es ep)
 (h:Q (.ref s.heap.objs.size) { s with heap:=s.heap.push { cls:=.type "dict_valueiterator",data:=.fields #[.ref d,.int 0 0,.int es.size 0,.int ep 0] } }):wpAny (model prog w) A (pyIter (.ref v)) Q E s:=by
 obtain⟨ov,R,v2,v3⟩:=id Z;refine wpAny_pyIter_slot Z.typeIs PySem.F.slot_dict_values_iter (jn PySem.F.slot_dict_values_iter Z.typeIs PySem.F.entry_dict_values_iter ?_ (PySem.F.args_dict_values_iter_1 _));refine aa (aj (aa (aa (fu R v3 (x:=.ref d) rfl (aj (aa ?_))))));unfold Builtin.Dict_items.newIterator;refine aa (t7 G U (aa (wpAny_dictEpoch G U ?_)));simp only[show Builtin.Dict_items.ownsTuple "dict_valueiterator" = false by decide,d9,jj];exact jt (aj ⟨_,rfl, "dict_valueiterator",_,⟨_,bc _ rfl,rfl⟩,rm.lookup,h⟩)
def Z3(R:s.heap.IsValIter it d i es.size ep)(ho:s.heap.get? d=some o)(hd:o.data=.dict es ep)
 (h1:∀G:i<es.size,∀Z,Z.IsValIter it d (i+1) es.size ep->Heap.SameBut it s.heap Z->Q (some es[i].val) { s with heap:=Z })
 (hh:A.handled=none) (h2:es.size<=i->∀Z,Heap.ExtBut it s.heap Z->Q none { s with heap:=Z }):wpAny (model prog w) A (pyNext (.ref it)) Q E s:=by
 have T:=R.typeIs;obtain⟨oi,hi,hc,U⟩:=id R;unfold pyNext;refine aa (wpAny_attempt (je (name:=Str.ofString "__next__") T rm (jn rm T PySem.F.entry_dict_valueiterator_next ?_ (PySem.F.args_dict_valueiterator_next_1 _))));refine aa (aj (aa (aa (aa (ud T (aj (aa (wpAny_fieldsOf hi U ?_))))))));rw[show Builtin.Dict_items.ownsTuple "dict_valueiterator" = false by decide];refine(?_:wpAny _ _ (if(Value.ref d==Value.none)=true then _ else _) _ _ s);rw[bj (nofun:¬((Value.ref d==Value.none)=true))];refine aa (aj (aa (t7 ho hd ?_)));rw[bj (by simp)];refine aa (aj (aa (wpAny_dictEpoch ho hd ?_)));rw[bj (by simp)];refine aj ?_;rcases j9 i es.size with G|G
 .have Z4:(s.heap.update it (Obj.mapFields (·.setIfInBounds 1 (rawInt ((i:Int)+1))))).IsValIter it d (i+1) es.size ep :=
   ⟨_,lr _ hi (Obj.isFreed_of_fields (p6 U _)),(Obj.cls_mapFields ..).trans hc,by rw[p6 U];simp[rawInt]⟩
  simp only[show ¬((i:Int)<0) by lia,jj,m5,u5 G];refine aa (aa (ud T (aj (aa (wpAny_isOneOf_valiter T ?_)))));refine(?_:wpAny _ _ (setField (.ref it) 1 (rawInt ((i:Int)+1)) >>= _) _ _ s);refine aa (sr hi U (by simp) (aa (jf (aa (wpAny_isOneOf_valiter (s:={ s with heap:=_ }) Z4.typeIs (aa (wpAny_isOneOf_valiter (s:={ s with heap:=_ }) Z4.typeIs ?_)))))));exact aj (aj ⟨_,rfl,aj (h1 G _ Z4 (iw ..))⟩)
 .simp only[show ¬((i:Int)<0) by lia,jj,m5,Array.getElem?_eq_none G]
  refine aa (aa (ud T (aj ?_)));refine(?_:wpAny _ _ (setField (.ref it) 0 .none >>= _) _ _ s);refine aa (sr hi U (by simp) ?_);refine STb.Vr (show A.in1.handled=none from hh) λZ x k z_=>?_
  obtain⟨o,e1,e2⟩:=z_;exact aa (o5 (T := "StopIteration") (b:=true) ⟨o,e1,e2⟩ isSubtype_stop (aj (h2 G _ λb o n z=>k b o ((iw ..).extBut b o n z))))
end
theorem aq6{R U:Type}{F:R->U->Prop}{b:U}:∀{G:List R}{Z:List U}{i:Nat},Paired F G Z->Z[i]?=some b->∃a,G[i]?=some a/\F a b
 |_,_,0,.cons h _,e=>by cases e;exact⟨_,rfl,h⟩|_,_,i+1,.cons _ t,e=>aq6 (i:=i) t e
noncomputable def Itv(a:Addr)(o:Obj)(l:List (List Key×V)):It :=
 ⟨λi H=>H a=some (.Gu o (.dT l))/\i<l.length,λi H x Z=>Z=H/\∃p,l[i]?=some p/\x=p.2,λi H=>H a=some (.Gu o (.dT l))/\l.length<=i⟩
theorem agh{es:Array DictEntry}{ep:Nat}{l:List (List Key×V)}(a it:Addr)(hd:o.data=.dict es ep)(hz:es.size=l.length):Turn P w K tg (Itv a o l) [it] it (λi h=>h.IsValIter it a i es.size ep) where
 mem:=by simp
 obj:=λi h Z b R=>by cases jz.mp R;obtain⟨o,e,c,d⟩:=Z;exact⟨o,e,λv z=>by rw[d] at z;cases z⟩
 keep:=λi h h' Z k=>Z.at λo e=>k it (by simp) o e
 item:=by
  intro X hP hw hK hc i G s σ H E I hf Z hg;subst hP hw hK;obtain⟨e,hl⟩:=hg;obtain⟨ho,_,_,xs,U,o',qv,q0,g1,g2,g3,g4,g5⟩:=(show yt X.prog X.w H s.heap a (.Gu o (.dT l)) from I.yf a _ e);rw[ho] at g1;cases g1;rw[hd] at g3;cases g3;obtain⟨f0,f1,f2,f3,f4,f5⟩:=hf it (by simp);refine Z3 Z ho hd (λqk h' qq sb=>?_) (I.ok.hd hc) (λz=>absurd hl (by lia));have I1:Inv X G σ H { s with heap:=h' }:=I.turned (t':=s.toks) (λb o R e=>(sb.2 b R).trans e) f0 f1 f3 f4 f5;have hx:xs[i]?=some (xs[i]'(by rw[<- U.length];exact hl)):=dm _;have hk:es[i].val=(xs[i]'(by rw[<- U.length];exact hl)).2.2:=by have:=entry_at g4 i;rw[hx,u5 qk] at this;exact o4 DictEntry.val (gj this)
  obtain⟨p,hp,q1,q2,q3⟩:=aq6 U hx;obtain⟨oi,e1,e2,e3⟩:=id qq;refine⟨_,rfl,adu (s:={ s with heap:=h' }) e1 e2 e3 (by decide) ⟨p.2,H,I1,by rw[hk];exact q3,⟨rfl,p,hp,rfl⟩,qq,λb R=>(hf b R).1⟩⟩
 done:=by intro X hP hw hK hc i G s σ H E I hf Z hg;subst hP hw hK;obtain⟨e,hl⟩:=hg;obtain⟨ho,_⟩:=(show yt X.prog X.w H s.heap a (.Gu o (.dT l)) from I.yf a _ e);obtain⟨f0,f1,f2,f3,f4,f5⟩:=hf it (by simp);exact Z3 Z ho hd (λz=>absurd hl (by lia)) (I.ok.hd hc) λ_ h' eb=>⟨rfl,I.turned (t':=s.toks) (λb o R e=>eb b o R e) f0 f1 f3 f4 f5⟩
 self:=λ_ _ _ _ _ Z h=>wpAny_pyIter_valiter Z h
def oh.vals{f:κ->qq->Prop}(h:oh K R H f l U):∀{i:Nat}{p Z},l[i]?=some p->U[i]?=some Z->Rep K R H p.2 Z.2:=by
 induction h with
 |nil=>intro i p Z e;simp at e
 |cons k r t ih =>
  intro i p Z e G;cases i with
  |zero=>cases e;cases G;exact r|succ i=>exact ih e G
def avo{G:Pos}(ha:PE X a (tE nm W X.K a'))(Y9:attributeBase a "values" X.env (eval a X.env)=eval a X.env)(Za:(G.endLine==pos.line)=true):PI X tg (.Call (.Attribute a "values" G) [] [] pos) (tI nm W X.K (.vals a')):=by
 intro U s σ H R I hh;obtain⟨ι,ρ,M,sc,M',S,Rv,e,q⟩:=hh;rw[MW.Yb] at e;obtain⟨x,M1,e1,e⟩:=dz e;refine wpAny_Call_method0_late Y9 Za (zj (ha U s σ H (λv H1=>∃Z,Le ι H Z H1/\j7 nm X.K Z H1 M1/\Rep X.K Z H1 x v) I (one S Rv e1 λZ H1 v le S1 R1 r=>⟨Z,le,S1,r⟩)) λv s1 z_=>?_);obtain⟨x',H1,I1,r1,Z,le,S1,r⟩:=z_;cases r with
 |@ref n p h1 =>
  have e:(match M1[n]? with|some (.dT m9)=>Res.ok (Src.con (m9.map Prod.snd)) (M1.set n (.dF m9))|_=>.bad)=.ok sc M':=e;cases hn:M1[n]? with
  |none=>rw[hn] at e;cases e
  |some ob=>cases ob with
   |dT m9 =>
    rw[hn] at e;cases e;cases r1;obtain⟨l,g1,g2⟩:=S1.obj n _ p hn h1;obtain⟨z,qk,xs,qq,o,es,ep,k1,k2,k3,k4,k5⟩:=(show yt X.prog X.w H1 s1.heap p (.dT l) from I1.yf p _ g1);have T:s1.TypeIs (.ref p) "dict" := ⟨o,k1,k2.1⟩;have hz:es.size=l.length:=(size_of_entries k4).trans qq.length.symm;obtain⟨S2,yd⟩:=S1.put (u:=.Gu o (.dT l)) (o:=.dF m9) hn h1 λle=>⟨l,o,qu,g2.mono le⟩
    have I2:Inv X U σ (upd H1 p (.Gu o (.dT l))) s1:=I1.write (x:=p) (e:=p) (t':=s1.toks) (by rw[g1];trivial) (.inl rfl) (λ_ _ _ z=>z) ⟨o,k1⟩ ⟨k1,z,qk,xs,KT.keeps qq λc ys ec=>by rw[jy (Yz ec g1 (λz=>nomatch z))];exact ec,o,es,ep,k1,k2,k3,k4,k5⟩;refine⟨"dict", "dict.values",PySem.F.plainAttrs_dict,PySem.F.slot_dict_values,PySem.F.type_dict_values,T,λa ea=>by cases ea;exact⟨o,k1,k2.2.1⟩,Calls.callWith_builtin rfl (PySem.evalArgs_none (call_meetsIn PySem.F.slot_dict_values T PySem.F.entry_dict_values (PySem.F.args_dict_values_1 _) (ab2 qk) ⟨T,?_⟩))⟩;have kp:∀{h:Heap}{ob:Obj}{b:Addr}{c:Obj},h.get? b=some c->(h.push ob).get? b=some c:=λe=>ao _ e
    refine agg (s:={ s1 with heap:=s1.heap.push { cls:=.type "dict_values",data:=.fields #[.ref p] } }) ⟨_,bc _ rfl,rfl,rfl⟩ (kp k1) k3 ?_;have qv:(s1.heap.push { cls:=.type "dict_values",data:=.fields #[.ref p] }).objs.size=s1.heap.objs.size+1:=jq ..;refine⟨_,[_],_,Itv p o l,upd H1 p (.Gu o (.dT l)),rfl,I2.kept (t':=s1.toks) λb c e=>kp (kp e),agh p _ k3 hz,⟨_,bc _ rfl,rfl,rfl⟩,λb hb=>?_,q Z _ _ (le.trans yd) S2 λq0 H3 M3 Qw S3=>⟨λi d hi hd=>?_,λ_=>⟨Qw.Gu _ _ _ qu,?_⟩⟩⟩
    .cases jz.mp hb
     rw[qv];exact I2.afs (o7 _) (I2.yf.fresh (o7 _))
    .have hd:(m9.map (·.2))[i]?=some d:=hd
     rw[ig] at hd;obtain⟨y,y1,rfl⟩:=bx.mp hd;refine⟨⟨Qw.Gu _ _ _ qu,by rw[g2.length.symm];simpa[Src.len] using hi⟩,λv H4 ⟨hH,pp,q1,q2⟩=>?_⟩;subst hH q2;exact⟨Le.refl _ _,S3,((g2.vals y1 q1).mono yd).Gm Qw⟩
    .rw[<- g2.length];simp[Src.len]
   |_=>rw[hn] at e;cases e
 |_=>cases e
open PySem L2 PyProof.Rows
def aep{X:Cx}(S:j7 nm X.K R H M)(r:Rep X.K R H x v)(e:MW.j8 M x=some ds):ano X.K v H (!ds.isEmpty):=by
 obtain⟨p,G,rfl,Z,h2⟩:=Em S r e;have U:(!ds.isEmpty)=!G.isEmpty:=by cases h2<;>rfl
 rcases Z with Z|Z
 .exact .inl ⟨G,Dt.of Z,U⟩
 .exact .inr (.inl ⟨G,El.of Z,U⟩)
def aq7(ha:PE X a (tE nm W X.K a'))(he:∀Z,isTrue a X.env Z=(do let v <- Z;standAt a.pos;holding [v] (truthy v))):PT X a (tQ nm W X.K (.tru a')):=by intro G s σ H Q I hh;obtain⟨ι,ρ,M,b,M',S,R,e,q⟩:=hh;rw[MW.ack] at e;obtain⟨x,M1,e1,e2⟩:=dz e;obtain⟨e3,rfl⟩:=su e2;obtain⟨ds,e4,e5⟩:=bx.mp e3;cases e5;refine aje ha he G s σ H Q I ⟨ι,ρ,M,x,M',S,R,e1,λU H1 v le S1 r=>?_⟩;exact⟨!ds.isEmpty,aep S1 r e4,q U H1 le S1⟩
def avp(ha:PE X a (tE nm W X.K a')):PE X (.UnaryOp .Not a pos) (tE nm W X.K (.ntr a')):=by
 intro Z s σ H Q I hh;obtain⟨ι,ρ,M,d,M',S,R,e,q⟩:=hh;rw[MW.V0] at e;obtain⟨x,M1,e3,e4⟩:=dz e;obtain⟨e5,rfl⟩:=su e4;obtain⟨ds,e6,rfl⟩:=bx.mp e5;refine UnaryOp_ (zj (ha Z s σ H (λv G=>∃k,ano X.K v G k/\Q (.bl !k) G) I ⟨ι,ρ,M,x,M',S,R,e3,λU G v le S1 r=>⟨!ds.isEmpty,aep S1 r e6,by rw[Bool.not_not];exact q U G _ le S1 (.bl _)⟩⟩) λv s1 z=>?_);obtain⟨y,G,I1,r1,q1⟩:=z;exact not_of (zj (ajd Z s1 σ G y v (λk G=>Q (.bl !k) G) I1 r1 q1) λk s2 z=>by
  obtain⟨H2,I2,q2⟩:=z;exact⟨.bl !k,H2,I2,rfl,q2⟩)
def avq(ha:PE X a (tE nm W X.K a'))(he:∀Z,isTrue a X.env Z=(do let v <- Z;standAt a.pos;holding [v] (truthy v))):PT X (.UnaryOp .Not a pos) (tQ nm W X.K (.ntr a')) :=
 PT.of (ai4 (aq7 ha he)) fun σ H Q ι ρ M b M' S R e q=>by rw[MW.V0] at e;obtain⟨x,M1,e3,e4⟩:=dz e;obtain⟨e5,rfl⟩:=su e4;obtain⟨U,e6,e7⟩:=bx.mp e5;cases e7;exact⟨ι,ρ,M,!U.isEmpty,M',S,R,by rw[MW.ack,e3];simp[e6],λG H' le S'=>by show Q (!!U.isEmpty) H';rw[Bool.not_not];exact q G H' le S'⟩
theorem Tq:∀(k:Int)(l:X9),k∈MW.Eo l↔k∈l
 |k,[]=>Iff.rfl
 |k,x::l=>by
  unfold MW.Eo;have Z:=Tq k l
  by_cases h:x∈l
  .rw[bh h,Z]
   exact⟨bu _,λq=>by rcases dh.mp q with rfl|q;exact h;exact q⟩
  .rw[bj h,dh,dh,Z]
theorem Xk:∀l,(MW.Eo l).Nodup
 |[]=>.nil
 |x::l=>by
  unfold MW.Eo
  by_cases h:x∈l
  .rw[bh h];exact Xk l
  .rw[bj h];exact o8.mpr ⟨λq=>h ((Tq x l).mp q),Xk l⟩
theorem Z5{R:Io}{H:Hp}{K:Fg}:∀{G:List Dv}{Z:List V}{is:Zl}{U:X9},lz K R H G Z->Vals Z is->MW.inL G=some U->PyProof.Rows.IntsAre is U
 |_,_,_,_,.nil,.nil,h=>by cases h;exact .nil
 |_,_,_,_,.cons r t,.cons rv tv,h=>by
  cases r<;>simp only[MW.inL] at h<;>try cases h
  obtain⟨qq,e1,e2⟩:=bx.mp h;subst e2;obtain⟨tk,rfl⟩:=rv;exact .cons _ _ (Z5 t tv e1)
def ab3(e:MW.v9 .Lg ds M=.ok d R):∃G Z,ds=[.tup G]/\MW.inL G=some Z/\Z.length<31/\d=.int (MW.Eo Z).length/\R=M:=by
 obtain⟨x,rfl,e⟩:=Ls e;cases x with
 |tup G =>
  obtain⟨e1,e2⟩:=su (show Res.qx ((MW.inL G).bind λis=>if is.length<31 then some (MW.D.int (MW.Eo is).length) else none) M=.ok d R from e);obtain⟨Z,e3,U⟩:=ir.mp e1
  by_cases h:Z.length<31
  .rw[bh h] at U
   exact⟨G,Z,rfl,e3,h,(gj U).symm,e2⟩
  .rw[bj h] at U;cases U
 |_=>cases e
def akk(hr:ye 8 X.A)(hg:Gl X n)(hm:X.mg n=none)(hv:bootBuiltins n=some (.builtin "len"))(hn:n≠"__name__")(Wy:(n==("__debug__" : Str))=false)(q5:Gl X tn)(q9:X.mg tn=none)(q3:bootBuiltins tn=some (.type "set"))(q0:tn≠"__name__")(zz:(tn==("__debug__" : Str))=false)(ha:PA X [a] (Xv nm W X.K (.cons a' .nil)))(he:starEach [.Call (.Name tn p') [a] [] q2] X.env=(false,eval (.Call (.Name tn p') [a] [] q2) X.env)::starEach [] X.env)(Kq:(backTo q1 (starEach [] X.env)).any (·.1)=false)(q4:starEach [a] X.env=(false,eval a X.env)::starEach [] X.env)(q6:(backTo q2 (starEach [] X.env)).any (·.1)=false) :
 PE X (.Call (.Name n p) [.Call (.Name tn p') [a] [] q2] [] q1) (tE nm W X.K (.blt .Lg (.cons a' .nil))):=by
 intro U s σ H Q I hh;obtain⟨ι,ρ,M,d,M',S,R,e,q⟩:=hh;rw[MW.Mg] at e;obtain⟨ds,M1,e1,e⟩:=dz e;obtain⟨xs,G,rfl,e3,hl,rfl,rfl⟩:=ab3 e;refine nj (Hr I hg hm hv ?_ hn Wy);refine vy (Q:=EP X U σ Q) ?_ he Kq;rw[he];show wpAny _ _ (spliced ((false,eval (.Call (.Name tn p') [a] [] q2) X.env)::backTo q1 (starEach [] X.env))) _ _ s;refine Calls.spliced_cons ?_;refine nj (Hr I q5 q9 q3 ?_ q0 zz);refine qe (zj (ha q2 U s σ H (λvs H1=>∃Z v,vs=[v]/\Rep X.K Z H1 (.tup xs) v/\Le ι H Z H1/\j7 nm X.K Z H1 M') I ⟨ι,ρ,M,[.tup xs],M',S,R,e1,λZ H1 vs le S1 r=>?_⟩) λus s1 z=>?_) q4 q6
 .obtain⟨v,ev,rv⟩:=Hw r rfl
  exact⟨Z,v,ev,rv,le,S1⟩
 obtain⟨vs,H1,I1,r1,Z,v,rfl,rx,Zf,S1⟩:=z;obtain⟨u,rfl,ru⟩:=abz r1;cases rx with
 |@tup p _ ws hp rl =>
  cases ru;obtain⟨is,q7,pl,_⟩:=I1.tuple (El.of hp);have nl:=STb.Q6 (Xk G) (λk hk=>(Tq k G).mp hk);refine STb.afe hr.hd (show s1.heap.IsTuple p is.toArray from pl) (by simpa using Z5 rl q7 e3) (B:=G) (λk hk=>hk) hl λh' tk n' qq hS Vx=>?_
  refine(?_:wpAny _ _ (spliced []) _ _ _);refine Calls.spliced_nil ?_;obtain⟨o,es,ep,t,g1,g2,g3,g4⟩:=hS.get;obtain⟨ys,o',qk,zk,t',SN,qv,q0,_⟩:=hS;have eo:o'=o:=gj (SN.get.symm.trans g1);subst eo;have ed:qk=es:=by have:=SN.dat.symm.trans g3;injection this
  subst ed;have sz:qk.size=(MW.Eo G).length:=by
   rw[SN.size];refine Nat.le_antisymm ?_ ?_
   .have:=STb.Q6 SN.nod (b:=MW.Eo G) λk hk=>(Tq k G).mpr ((qv k).mpr hk)
    rwa [dg] at this
   .have:=STb.Q6 (Xk G) (b:=ys.map (·.1)) λk hk=>(qv k).mp ((Tq k G).mp hk)
    rwa [dg] at this
  refine call_len_set (s:={ s1 with heap:=h',toks:=tk }) g1 g2 g3 g4 (by lia) ?_;rw[sz];exact⟨.int _,H1,I1.kept qq,⟨_,rfl⟩,q Z H1 _ Zf S1 (.int _)⟩
def apg(e:MW.Bj .index x ds M=.ok d R):∃Z G j,ds=[Z]/\MW.d8 M x=some G/\MW.aro M Z G=some j/\d=.int ((j:Nat):Int)/\R=M:=by obtain⟨Z,rfl,e0⟩:=Ls e;obtain⟨e1,e2⟩:=su e0;obtain⟨j,U,e4⟩:=bx.mp e1;obtain⟨G,e6,e7⟩:=ir.mp U;exact⟨Z,G,j,rfl,e6,e7,e4.symm,e2⟩
def Xl:∀{bs:List Bool}{j:Nat},bs.findIdx? id=some j->bs[j]?=some true/\∀m,m<j->bs[m]?=some false:=fun{bs j} h=>by obtain⟨G,U,R⟩:=List.findIdx?_eq_some_iff_getElem.mp h;refine⟨by rw[dm G];simpa using U,λm Z=>?_⟩;have:=R m Z;rw[dm (d_ Z G)];simpa using this
def aph(hr:ye 8 X.A):MtR X "list.index" (rM nm X.K .index):=λqv s σ H v vs u us Q I ru K7 hh=>by
 obtain⟨ι,M,x,ds,d,M',S,r,rs,e,q⟩:=hh;obtain⟨d0,xs,j,rfl,e1,e2,rfl,rfl⟩:=apg e;cases rs with
 |cons hd ht =>
  cases ht;cases K7 with
  |cons hu qq =>
   cases qq;obtain⟨bs,e3,e4⟩:=ir.mp (show(MW.Qg M' d0 xs).bind (·.findIdx? id)=some j from e2);obtain⟨p,ys,rfl,hp,rl⟩:=qp S r e1;cases ru;obtain⟨z,is,n,rv,hl,hg⟩:=I.abv hp;obtain⟨f,g1,g2⟩:=Xg (A:=X.A.in1) I S ((hr.mono (by decide:7<=8)).in1) rl rv hd hu e3;obtain⟨f1,f2⟩:=Xl e4;have hb:=(Kp e3).1;have G:is.length=bs.length:=by rw[hb,rl.length,hl]
   have lj:j<is.length:=by rw[G];exact(ak.mp f1).1
   have fa:∀m (Z:m<is.length),bs[m]?=some (f is[m]):=λm Z=>g2 m _ (dm Z)
   have hT:s.TypeIs (.ref p) "list" := ⟨_,hg,rfl⟩;have U:is.length<=sizeLine:=by rw[<- hl];exact z
   rw[sizeLine_eq] at U;refine call_meetsIn F.slot_list_index hT F.entry_list_index (F.args_list_index_2 _ _) (λA R s h=>SeqAt.list_indexAt p is.toArray n none #[] _ f j (by simpa using lj) (by lia) ?_ ?_ _ _ A R s h) ⟨hg,g1,?_⟩
   .have:=fa j lj;rw[f1] at this;simpa using(gj this).symm
   .intro m Z qk
    have Z:m<is.length:=by simpa using Z
    have:=fa m Z;rw[f2 m qk] at this;simpa using(gj this).symm
   .exact⟨.int j,H,I.tok _,⟨_,rfl⟩,q ι H _ (Le.refl _ _) S (.int _)⟩
def api(e:MW.Bj .get x ds M=.ok d M'):∃n k U G R,x=.ref n/\ds=[k,U]/\M[n]?=some (.dT G)/\MW.Ha k=some R/\d=(MW.Ac G R).getD U/\M'=M:=by
 obtain⟨n,G,rfl,hM,Z⟩:=aeo e
 match ds,Z with
 |[k,U],Z =>
  obtain⟨e2,e3⟩:=su Z;obtain⟨R,e4,e5⟩:=bx.mp e2;exact⟨n,k,U,G,R,rfl,rfl,hM,e4,e5.symm,e3⟩
 |[],Z=>cases Z|[_],Z=>cases Z|_::_::_::_,Z=>cases Z
def a1d(hu:X.A.units+1<cLine):MtR X "dict.get" (rM nm X.K .get):=λqk s σ H v vs u us Q I ru K7 hh=>by
 obtain⟨ι,M,x,ds,d,M',S,r,rs,e,q⟩:=hh;obtain⟨n,k,d0,m9,U,rfl,rfl,hM,hk,rfl,rfl⟩:=api e;cases rs with
 |cons rk rt =>
  cases rt with
  |cons rd rt =>
   cases rt;cases K7 with
   |cons G Z =>
    cases Z with
    |cons R Z =>
     cases Z;cases r with
     |ref ha =>
      cases ru;obtain⟨l,h1,h2⟩:=S.obj n _ _ hM ha;obtain⟨bb,rfl,hb⟩:=Ox rk hk;refine aun hu I (Su.t h1 hb) G R λw' s' I' qq=>⟨_,H,I',qq,q ι H _ (Le.refl _ _) S ?_⟩
      cases hl:MW.Ac m9 U with
      |none=>rw[(h2.look (k:=U)).2 hl];exact rd|some d=>obtain⟨z,h3,h4⟩:=(h2.look (k:=U)).1 d hl;rw[h3];exact h4
section
variable{prog:Program}{w:World}{A:Around}{E:Y1}{s:Shared}{it d:Addr}{i ep:Nat}{o:Obj}{es:Array DictEntry}{Q:Option Value->Shared->Prop}
def akl{Q:Y1}(Z:s.heap.get? d=some o)(R:o.ExactDict)(G:o.data=.dict es ep)(U:(d==sysModules)=false)
 (h:Q (.ref s.heap.objs.size) { s with heap:=s.heap.push { cls:=.type "dict_keyiterator",data:=.fields #[.ref d,.int 0 0,.int es.size 0,.int ep 0] } }):wpAny (model prog w) A (pyIter (.ref d)) Q E s:=by
 have T:s.TypeIs (.ref d) "dict" := ⟨o,Z,R.1⟩;refine wpAny_pyIter_slot T PySem.F.slot_dict_iter (jn PySem.F.slot_dict_iter T PySem.F.entry_dict_iter ?_ (PySem.F.args_dict_iter_1 _));unfold Builtin.«dict.__iter__» Builtin.Dict.dictSlotNone;refine aa (aa (ug T ?_));refine aj (?_:wpAny _ _ (Builtin.Dict.showsAll d >>= _) _ _ s);unfold Builtin.Dict.showsAll;rw[U];refine aa (aj (aa (t7 Z G (aa (wpAny_dictEpoch Z G ?_)))));exact aa (jt (aj ⟨_,rfl, "dict_keyiterator",_,⟨_,bc _ rfl,rfl⟩,ue.lookup,h⟩))
def Z6(R:s.heap.IsKeyIter it d i es.size ep)(ho:s.heap.get? d=some o)(hd:o.data=.dict es ep)
 (h1:∀G:i<es.size,∀Z,Z.IsKeyIter it d (i+1) es.size ep->Heap.SameBut it s.heap Z->Q (some es[i].key) { s with heap:=Z })
 (hh:A.handled=none) (h2:es.size<=i->∀Z,Heap.ExtBut it s.heap Z->Q none { s with heap:=Z }):wpAny (model prog w) A (pyNext (.ref it)) Q E s:=by
 have T:=R.typeIs;obtain⟨oi,hi,hc,U⟩:=id R;unfold pyNext;refine aa (wpAny_attempt (je (name:=Str.ofString "__next__") T ue (jn ue T PySem.F.entry_dict_keyiterator_next ?_ (PySem.F.args_dict_keyiterator_next_1 _))));refine aa (aj (aa (aa (aa (uc T (aj (aa (wpAny_fieldsOf hi U ?_))))))));rw[show Builtin.Dict_items.ownsTuple "dict_keyiterator" = false by decide];show wpAny _ _ (if(Value.ref d==Value.none)=true then _ else _) _ _ s;rw[bj (show ¬((Value.ref d==Value.none)=true) from gq)];refine aa (aj (aa (t7 ho hd ?_)));rw[bj (by simp)];refine aa (aj (aa (wpAny_dictEpoch ho hd ?_)));rw[bj (by simp)];refine aj ?_;rcases j9 i es.size with G|G
 .have Z4:(s.heap.update it (Obj.mapFields (·.setIfInBounds 1 (rawInt ((i:Int)+1))))).IsKeyIter it d (i+1) es.size ep :=
   ⟨_,lr _ hi (Obj.isFreed_of_fields (p6 U _)),(Obj.cls_mapFields ..).trans hc,by rw[p6 U];simp[rawInt]⟩
  simp only[show ¬((i:Int)<0) by lia,jj,m5,u5 G];refine aa (aa (uc T (aj (aa (wpAny_isOneOf_keyiter T ?_)))));refine(?_:wpAny _ _ (setField (.ref it) 1 (rawInt ((i:Int)+1)) >>= _) _ _ s);refine aa (sr hi U (by simp) (aa (jf (aa (wpAny_isOneOf_keyiter (s:={ s with heap:=_ }) Z4.typeIs ?_)))));exact aj (aj ⟨_,rfl,aj (h1 G _ Z4 (iw ..))⟩)
 .simp only[show ¬((i:Int)<0) by lia,jj,m5,Array.getElem?_eq_none G]
  refine aa (aa (uc T (aj ?_)));refine(?_:wpAny _ _ (setField (.ref it) 0 .none >>= _) _ _ s);refine aa (sr hi U (by simp) ?_);refine STb.Vr (show A.in1.handled=none from hh) λZ x k z_=>?_
  obtain⟨o,e1,e2⟩:=z_;exact aa (o5 (T := "StopIteration") (b:=true) ⟨o,e1,e2⟩ isSubtype_stop (aj (h2 G _ λb o n z=>k b o ((iw ..).extBut b o n z))))
theorem agi{I:Addr}(hh:A.handled=none)(hd:o.data=.dict es ep)(Qh:d≠I):Walks prog w A I [I,d] [I] es.size (λi v=>∃e,es[i]?=some e/\v=e.key) (λi h=>h.IsKeyIter I d i es.size ep/\h.get? d=some o) where
 sub:=λb G=>by simp at G;simp[G]
 frame:=λ_ _ _ Z hk=>⟨Z.1.at λo e=>hk _ (by simp) o e,hk d (by simp) o Z.2⟩
 item:=λi s1 Q E hi Z R=>Z6 Z.1 Z.2 hd (λU h' qq sb=>R _ h' s1.toks ⟨_,u5 U,rfl⟩ ⟨qq,(sb.2 d Qh).trans Z.2⟩ λb o G e=>(sb.2 b (λz=>G (by simp[z]))).trans e) hh λz=>absurd hi (by lia)
 done:=λs1 Q E Z R=>Z6 Z.1 Z.2 hd (λU=>absurd U (by lia)) hh λ_ h' eb=>R h' s1.toks λb o G e=>eb b o (λz=>G (by simp[z])) e
 self:=λ_ _ _ _ Z h=>wpAny_pyIter_keyiter Z.1 h
theorem akm(G:o.ExactDict)(U:o.data=.dict es ep)(hn:(d==sysModules)=false):PySem.W.KdlSrc prog w "dict" d d es.size (λi v=>∃e,es[i]?=some e/\v=e.key) (λh=>h.get? d=some o) where
 type:=λ_ h=>⟨o,h,G.1⟩
 there:=λ_ h=>⟨au h,au h⟩
 keep:=λ_ _ h hk=>hk d (.inl rfl) o h
 notList:=by decide
 notTuple:=by decide
 hint:=λ_ _ _ _ h Z=>PySem.W.kdl_hint_dict ⟨o,h,G.1⟩ Z
 iter:=λA s R h=>⟨_,_,(λ_ _ Z=>akl h G U hn Z),agi R U (fc (au h)),⟨_,bc _ rfl,rfl,rfl⟩,ao _ h⟩
end
theorem lz.keys{K:Fg}{Z:Io}{H:Hp}:∀k:List Kx,lz K Z H (k.map MW.axg) (k.map kV)
 |[]=>.nil|.inl i::k=>.cons (.int i) (lz.keys k)|.inr x::k=>.cons (.str x) (lz.keys k)
theorem oh.keys{K:Fg}{G:Io}{H:Hp}:∀{l:List (List Kx×Dv)}{Z:List (List Key×V)},oh K G H (λk U=>k=U) l Z->Z.map (·.1)=l.map (·.1)
 |_,_,.nil=>rfl|_,_,.cons k _ t=>by rw[cz,cz,oh.keys t,k]
theorem aeq{U R:Type}{F:U->R->Prop}{a:U}:∀{G:List U}{Z:List R}{i:Nat},Paired F G Z->G[i]?=some a->∃b,Z[i]?=some b/\F a b
 |_,_,0,.cons h _,e=>by cases e;exact⟨_,rfl,h⟩|_,_,i+1,.cons _ t,e=>aeq (i:=i) t e
theorem aer{K:Fg}{U:Io}{H:Hp}:∀{G:List Dv}{Z:List V},G.length=Z.length->(∀(i:Nat) d v,G[i]?=some d->Z[i]?=some v->Rep K U H d v)->lz K U H G Z
 |[],[],_,_=>.nil|d::G,v::Z,hl,h=>.cons (h 0 d v rfl rfl) (aer (by simpa using hl) λi d v a b=>h (i+1) d v a b)
theorem aes:∀{Z:List V}{G:Zl},Z.length=G.length->(∀(i:Nat) v u,Z[i]?=some v->G[i]?=some u->RelV v u)->Vals Z G
 |[],[],_,_=>.nil|v::Z,u::G,hl,h=>.cons (h 0 v u rfl rfl) (aes (by simpa using hl) λi d v a b=>h (i+1) d v a b)
def akn(e:MW.v9 .list ds M=.ok d U):∃x,ds=[x]/\((∃G,MW.j8 M x=some G/\MW.new (.lst G) M=.ok d U)\/∃n Z,x=.ref n/\M[n]?=some (.dT Z)/\Z.length<=1000/\d=.vl (Z.map λp=>MW.afh p.1)/\U=M):=by
 obtain⟨x,rfl,-⟩:=Ls e;refine⟨x,rfl,?_⟩;simp only[MW.v9,MW.Ga] at e;cases e3:MW.j8 M x with
 |some G=>rw[e3] at e;exact .inl ⟨G,rfl,e⟩
 |none =>
  rw[e3] at e;cases x with
  |ref n =>
   simp only at e;cases hn:M[n]? with
   |none=>rw[hn] at e;cases e
   |some ob =>
    rw[hn] at e;cases ob with
    |dT Z =>
     obtain⟨R,e⟩:=Tn e;cases e;exact .inr ⟨n,Z,rfl,hn,R,rfl,rfl⟩
    |_=>cases e
  |_=>cases e
def avr(hc:X.calm=true):zp X (.type "list") (rB nm X.K .list):=λqq s σ H vs us Q I K7 hh=>by
 obtain⟨ι,M,ds,d,M',S,r,e,q⟩:=hh;obtain⟨x,rfl,⟨xs,e3,e⟩|⟨n,m9,rfl,hn,hl,rfl,rfl⟩⟩:=akn e
 .cases e
  obtain⟨v,rfl,h⟩:=Hw r rfl;obtain⟨p,q3,rfl,hp,ru⟩:=Em S h e3;refine W5 qq s σ H _ us Q I K7 ⟨p,q3,rfl,hp.imp Dt.of El.of,λl hl=>?_⟩;obtain⟨S2,yd,r2⟩:=aea S hl ru;exact q _ _ _ yd S2 r2
 .obtain⟨v,rfl,h⟩:=Hw r rfl
  cases h with
  |@ref _ p hp =>
   obtain⟨l,h1,h2⟩:=S.obj n _ p hn hp;obtain⟨z,qv,xs,U,o,es,ep,g1,g2,g3,g4,g5⟩:=(show yt X.prog X.w H s.heap p (.dT l) from I.yf p _ h1);obtain⟨u,rfl,rx⟩:=vals1 K7;cases rx;have hz:es.size=l.length:=(size_of_entries g4).trans U.length.symm;refine PySem.W.kdl_call (akm g2 g3 qv) (I.ok.hd hc) g1 (by rw[hz];exact z) λh' tk Z c' kp hD Uc=>?_
   have qk:Z.size=l.length:=Uc.1.trans hz;have at_:∀(i:Nat)(y:List Key×V)(u:Value),l[i]?=some y->Z.toList[i]?=some u->∃b:Addr,xs[i]?.map (·.2.1)=some b/\u=.ref b/\H b=some (.tup (y.1.map kV)):=λi y u hy hu=>by obtain⟨e0,q1,q2⟩:=Uc.2 i u (by rw[<- nu];exact hu);obtain⟨b,hb,f1,f2,f3⟩:=aeq U hy;have:=entry_at g4 i;rw[hb,q1] at this;have ee:=gj this;exact⟨b.2.1,by rw[hb];rfl,by rw[q2,ee];rfl,f2⟩
   have ws:∃ks:List V,ks.length=l.length/\∀(i:Nat) k,ks[i]?=some k->∃b:Addr,xs[i]?.map (·.2.1)=some b/\k=.ref b:=⟨xs.map λx=>.ref x.2.1,by simpa using U.length.symm,λi k G=>by
    rw[ig] at G;obtain⟨x,hx,rfl⟩:=bx.mp G;exact⟨x.2.1,by rw[hx];rfl,rfl⟩⟩
   obtain⟨ks,k1,k2⟩:=ws;have vl:Vals ks Z.toList:=aes (k1.trans (qk.symm.trans ql.symm)) λi k u G hu=>by
    obtain⟨b,b1,rfl⟩:=k2 i k G;have R:i<l.length:=by rw[<- k1];exact(ak.mp G).1
    obtain⟨b',b2,rfl,_⟩:=at_ i _ u (dm R) hu;rw[b1] at b2;cases b2;rfl
   have rl:lz X.K ι H (m9.map λp=>MW.afh p.1) ks:=aer (by rw[k1,dg,h2.length]) λi d k hd G=>by
    rw[ig] at hd;obtain⟨y,hy,rfl⟩:=bx.mp hd;have R:i<l.length:=by rw[<- k1];exact(ak.mp G).1
    have ia:i<Z.toList.length:=by rw[ql,qk];exact R
    obtain⟨b',b2,_,b3⟩:=at_ i _ _ (dm R) (dm ia);obtain⟨b,b1,rfl⟩:=k2 i k G;rw[b1] at b2;cases b2;have q0:=h2.keys;have e1:(l.map (·.1))[i]?=some l[i].1:=by rw[ig,dm R];rfl
    rw[q0,ig,hy] at e1;have e1:y.1=l[i].1:=gj e1;rw[<- e1] at b3;exact .tup b3 (lz.keys _)
   have q4:=I.yf.fresh (az s.heap.objs.size);obtain⟨S2,yd,r2⟩:=W7 S q4 rl;exact⟨.ref s.heap.objs.size,_,I.laid (t':=tk) kp (az _) (show yt X.prog X.w _ h' _ (.lst ks) from⟨by rw[k1];exact z,Z.toList,c',vl,by simpa using hD⟩),rfl,q _ _ _ yd S2 r2⟩
def agj(e:MW.v9 .toInt ds M=.ok d Z):∃b,ds=[.bl b]/\d=.int (if b then 1 else 0)/\Z=M:=by
 obtain⟨x,rfl,-⟩:=Ls e;simp only[MW.v9,MW.Ga] at e;cases x with
 |bl b=>cases e;exact⟨b,rfl,rfl,rfl⟩|_=>cases e
def apj:zp X (.type "int") (rB nm X.K .toInt):=λZ s σ H vs us Q I G hh=>by obtain⟨U,M,ds,d,M',S,r,e,q⟩:=hh;obtain⟨b,rfl,rfl,rfl⟩:=agj e;obtain⟨v,rfl,h⟩:=Hw r rfl;obtain⟨u,rfl,R⟩:=vals1 G;cases h;cases R;exact call_int_bool ⟨.int (if b then 1 else 0),H,I.tok _,⟨_,rfl⟩,q U H _ (Le.refl _ _) S (.int _)⟩
section
variable{prog:Program}{w:World}{A:Around}{E:Y1}{s:Shared}
def agk{a:Addr}{xs:Xt}{k:Nat}{Q:Option Value->Shared->Prop}(hx:s.heap.get? a=some { cls:=.type "list",data:=.seq xs k })(hA:A.handled=none)
 (h:∀U tk,(∀b o,s.heap.get? b=some o->U.get? b=some o)->Q none { s with heap:=U,toks:=tk }):wpAny (model prog w) A (getAttr? (.ref a) "keys") Q E s:=by
 obtain⟨hp,g,d,tk,os⟩:=s;have R:∀G,(⟨hp,g,d,G,os⟩:Shared).TypeIs (.ref a) "list" := λ_=>⟨_,hx,rfl⟩
 have f1:=sub_AttributeError;have f3:=F.slot_list_getattribute.lookup;have f4:=F.slot_list_getattribute.bind (.ref a);have f5:=am_list_getattr_none;have hm:typeLookup (.type "list") "keys" = pure none:=am_miss_of_fast (by decide+kernel);unfold getAttr? getAttrBy? getAttrBy
 repeat (any_goals (first|assumption|exact R _|((with_reducible show wpAny _ _ (call (Value.builtin "list.__getattribute__") _ _) _ _ _);refine call_meets F.slot_list_getattribute (R _) am_entry_list_getattribute (F.args_list_getattribute_2 _ _) (meets_getattribute_miss_list a xs k #[] "keys" _ hm (by decide+kernel)) ⟨hx,hA,λU G e Z=>?_⟩)|wp_step))
 obtain⟨t',u',he⟩:=Z.there;show wpAny _ _ (getattributeRaised _ _ _ _ _ _ _) _ _ _;unfold getattributeRaised
 repeat (any_goals (first|assumption|wp_step))
 exact h _ _ Z.keeps
end
def J5:entryFor table "dict.update.loop" = some Builtin.«dict.update.loop»:=entryFor_of_tree (by kernel_rfl)
def Cw:plainId "dict.update.loop" = true:=by decide+kernel
section
variable{prog:Program}{w:World}{A:Around}{E:Y1}{s:Shared}
structure a1f(prog:Program)(w:World)(h:Heap)(items:Xt)(ps:List (List Key×Addr×Value)):Prop where
 at_:∀(j:Nat) p,ps[j]?=some p->∃a,items[j]?=some (.ref a)/\Qi h a #[.ref p.2.1,p.2.2]/\(tupleKind (sy prog w)).is h p.1 p.2.1
 len:items.size=ps.length
def Tt{h Z:Heap}{ks:List Key}{p:Addr}(x:(tupleKind (sy prog w)).is h ks p)(G:∀b o,h.get? b=some o->Z.get? b=some o):(tupleKind (sy prog w)).is Z ks p :=
 let ⟨o,items,n,ho,r⟩:=x;⟨o,items,n,G p o ho,r⟩
def ako{R:Result->Shared->Prop}(hh:A.handled=none)(hu:(tupleKind (sy prog w)).room A.in1){d I l:Addr}(qv:d≠I){items:Xt}{n:Nat}{Z:List (List Key×Addr×Value)}(nd:(Z.map (·.1)).Nodup)(q5:Z.length<=sizeLine){h0:Heap}(hP:a1f prog w h0 items Z)(hl:h0.IsList l items)(q3:h0.get? d=none)(qk:h0.get? I=none)
 (hR:∀U G,(∀b o,h0.get? b=some o->U.get? b=some o)->U.DictOfH (tupleKind (sy prog w)) d Z->R (.ok (.ret .none)) { s with heap:=U,toks:=G }) :
 ∀(k i:Nat)(h:Heap)(G:Nat)(t:Tok),Z.length-i=k->i<=Z.length->(∀b o,h0.get? b=some o->h.get? b=some o)->h.IsListIter I l i->h.DictOfH (tupleKind (sy prog w)) d (Z.take i) ->
  codeAny (model prog w) A (.builtin "dict.update.loop" ⟨[.ref d,.ref I,.int (i:Int) t,.none],[]⟩) R { s with heap:=h,toks:=G }:=by
 intro k
 induction k with
 |zero =>
  intro i h G t hk hi kp qq dd;have e:i=Z.length:=by lia
  subst e;rw[jr] at dd;refine codeAny_builtin J5 ?_;rw[uy Cw _];show wpAny _ A.in1 (pyNext (.ref I) >>= _) _ _ _;refine aa (wpAny_pyNext_list_end (s:={ s with heap:=h,toks:=G }) hh qq (hl.at λo e=>kp _ o e) (by rw[<- hP.len];simp) λU eb=>?_);refine aa (aj (aj (hR U G (λb o e=>eb b o (λz=>by rw[z,qk] at e;cases e) (kp b o e)) ?_)));obtain⟨o,es,ep,c1,c2,c3,c4,c5,c6⟩:=dd;exact⟨o,es,ep,eb d o qv c1,c2,c3,c4,λx hx=>by
   obtain⟨j,hj⟩:=iy.mp hx;obtain⟨_,_,_,q⟩:=hP.at_ j x hj;exact Tt q λb o e=>eb b o (λz=>by rw[z,qk] at e;cases e) (kp b o e),c6⟩
 |succ k ih =>
  intro i h G t hk hi kp qq dd;have Ik:i<Z.length:=by lia
  obtain⟨p,hp⟩:∃p,Z[i]?=some p:=⟨_,dm Ik⟩;obtain⟨a,g1,g2,g3⟩:=hP.at_ i p hp;refine codeAny_builtin J5 ?_;rw[uy Cw _];show wpAny _ A.in1 (pyNext (.ref I) >>= _) _ _ _;refine aa (wpAny_pyNext_list_item (s:={ s with heap:=h,toks:=G }) qq (hl.at λo e=>kp _ o e) g1 λU Z4 sb=>?_);have k1:∀b o,h0.get? b=some o->U.get? b=some o:=λb o e=>(sb.2 b (λz=>by rw[z,qk] at e;cases e)).trans (kp b o e)
  have q4:U.DictOfH (tupleKind (sy prog w)) d (Z.take i):=by obtain⟨o,es,ep,c1,c2,c3,c4,c5,c6⟩:=dd;refine⟨o,es,ep,(sb.2 d qv).trans c1,c2,c3,c4,λx hx=>?_,c6⟩;obtain⟨j,hj⟩:=iy.mp (w6 hx);obtain⟨_,_,_,q⟩:=hP.at_ j x hj;exact Tt q k1
  obtain⟨ot,t1,t2,nt,t3,t4⟩:=g2;have q0:=k1 _ _ t1;have no:atKey (Z.take i) p.1=none:=atKey_none_of_get λj q hj=>by
   rw[List.getElem?_take] at hj;split at hj
   .next hji=>exact absurd (idxH_unique nd hj (show Z[i]?=some (p.1,p.2) from hp)) (by lia)
   .cases hj
  show wpAny _ A.in1 (holding [.ref a] _ >>= _) _ _ _;refine aa (jf (aa (wpAny_tryCatch ?_)));unfold Builtin.Dict.pairItems;refine aa (wpAny_typeOf (T := "tuple") ⟨ot,q0,t2⟩ ?_);rw[bh (by decide)];refine aa (m6 (s:={ s with heap:=U,toks:=G }) q0 t3 (aj ?_));refine jf (wpAny_dictSet_heap (s:={ s with heap:=U,toks:=G }) hu (Tt g3 k1) q4 (λh2 q1 q2=>?_) (by rw[xr];lia));refine aj ⟨plainId_quiet Cw _,?_⟩;have:=ih (i+1) h2 (G+(tupleKind (sy prog w)).draws p.1) 0 (by lia) Ik (λb o e=>(q2.2 b (λz=>by rw[z,q3] at e;cases e)).trans (k1 b o e)) (Z4.at λo e=>(q2.2 I (jh qv)).trans e) (by
   rw[jd,hp];rw[storedH_new no] at q1;exact q1)
  exact this
def Ue{l:Addr}{items:Xt}{n:Nat}{R:List (List Key×Addr×Value)}{Q:Y1}(hh:A.handled=none)(hu:A.units+3<cLine)(hl:s.heap.get? l=some { cls:=.type "list",data:=.seq items n })(nd:(R.map (·.1)).Nodup)(q3:R.length<=sizeLine)(hP:a1f prog w s.heap items R)
 (h:∀h' tk,(∀b o,s.heap.get? b=some o->h'.get? b=some o)->h'.DictOfH (tupleKind (sy prog w)) s.heap.objs.size R->Q (.ref s.heap.objs.size) { s with heap:=h',toks:=tk }) :
 wpAny (model prog w) A (call (.type "dict") [.ref l]) Q E s:=by
 refine callType_codes (Q₁:=λobj Z=>obj=.ref s.heap.objs.size/\Z={ s with heap:=s.heap.push { cls:=.type "dict",data:=.dict #[] } }) F.kt_called_dict (F.kt_typeCall_dict_1 _) F.entry_dict_init (kt_code_dict_new _ ⟨rfl,rfl⟩) λobj Z qq=>?_
 obtain⟨rfl,rfl⟩:=qq;have G:∀b o,s.heap.get? b=some o->(s.heap.push { cls:=.type "dict",data:=.dict #[] }).get? b=some o:=λb o e=>ao _ e
 have qv:(s.heap.push { cls:=.type "dict",data:=.dict #[] }).get? s.heap.objs.size=some { cls:=.type "dict",data:=.dict #[] }:=bc _ rfl;have qk:Shared.TypeIs { s with heap:=s.heap.push { cls:=.type "dict",data:=.dict #[] } } (.ref s.heap.objs.size) "dict" := ⟨_,qv,rfl⟩;have U:=G _ _ hl;have q5:Shared.TypeIs { s with heap:=s.heap.push { cls:=.type "dict",data:=.dict #[] } } (.ref l) "list" := ⟨_,U,rfl⟩;refine⟨qk,F.args_dict_init_2 _ _,?_⟩;unfold Builtin.«dict.__init__»;refine aa ?_;unfold Builtin.Dict.selfAndRest;refine aa (ug qk ?_);show wpAny _ _ (pure (s.heap.objs.size,[Value.ref l])) _ _ _;refine aj ?_;show wpAny _ _ (Builtin.Dict.updateFrom "dict.__init__" s.heap.objs.size (.ref l) [] .none) _ _ _;unfold Builtin.Dict.updateFrom;refine aa (wpAny_typeOf q5 ?_);rw[bh (by decide)];refine aa (agk (s:={ s with heap:=s.heap.push { cls:=.type "dict",data:=.dict #[] } }) U hh λh1 q1 k1=>?_);rw[bh (show(none:Option Value).isNone=true from rfl)];have q6:=k1 _ _ U;have q0:=k1 _ _ qv;have q7:h1.IsList l items:=⟨_,q6,rfl,n,rfl⟩;refine aa (qd (aa (t8 (s:={ s with heap:=h1,toks:=q1 }) q7 ?_)));refine aj ⟨plainId_quiet Cw _,?_⟩;have q2:s.heap.objs.size<h1.objs.size:=au q0
 have ro:(tupleKind (sy prog w)).room A.in1.in1:=(show A.units+1+1<cLine by have:=hu;lia);have q4:(h1.push { cls:=.type "list_iterator",data:=.fields #[.ref l,.int 0 0] }).IsListIter h1.objs.size l 0:=⟨_,bc _ rfl,rfl,rfl⟩;refine ako (A:=A.in1) (s:=s) (h0:=s.heap) (l:=l) (items:=items) (n:=n) hh ro (fc q2) nd q3 hP ⟨_,hl,rfl,n,rfl⟩ (Heap.get?_none_of_le (az _)) (Heap.get?_none_of_le (u9 q2)) (λh' tk kp dd=>⟨rfl,h h' tk kp dd⟩) R.length 0 _ q1 0 (by lia) (ie _) (λb o e=>ao _ (k1 _ _ (G _ _ e))) q4 ?_;exact⟨_,#[],0,ao _ q0,⟨rfl,rfl,rfl⟩,rfl,rfl,by simp,by simp⟩
end
def apk{x:Dv}{Z:List Dv}(h:MW.Q8 (x::Z)=some l):∃k v q l',x=.tup [k,v]/\MW.Ha k=some q/\MW.Q8 Z=some l'/\l=(q,v)::l':=by
 cases x with
 |tup G =>
  match G,h with
  |[k,v],h =>
   simp only[MW.Q8] at h;cases h1:MW.Ha k with
   |none=>rw[h1] at h;cases h
   |some q =>
    rw[h1] at h;cases h2:MW.Q8 Z with
    |none=>rw[h2] at h;cases h|some l'=>rw[h2] at h;cases h;exact⟨k,v,q,l',rfl,h1,rfl,rfl⟩
  |[],h=>cases h|[_],h=>cases h|_::_::_::_,h=>cases h
 |_=>cases h
theorem aet{X:Cx}{ι:Io}{H:Hp}{h:Heap}(ok:K6 X.prog X.w H h):∀{xs:List Dv}{vs:List V}{R:Zl}{l:List (List Kx×Dv)},lz X.K ι H xs vs->Vals vs R->MW.Q8 xs=some l ->
 ∃(G:List (List Key×V))(Z:List (List Key×Addr×Value)),oh X.K ι H (λk k'=>k=k') l G/\Paired (λ(p:List Key×V) (q:List Key×Addr×Value)=>p.1=q.1/\H q.2.1=some (.tup (p.1.map kV))/\RelV p.2 q.2.2) G Z/\R.length=Z.length /\
  ∀(j:Nat) p,Z[j]?=some p->∃a,R[j]?=some (.ref a)/\Qi h a #[.ref p.2.1,p.2.2]/\(tupleKind (sy X.prog X.w)).is h p.1 p.2.1
 |_,_,_,_,.nil,.nil,e=>by cases e;exact⟨[],[],.nil,.nil,rfl,λj p U=>by simp at U⟩
 |_,_,_,_,.cons r rs,.cons u us,e=>by
  obtain⟨k,v,q,l1,rfl,h1,h2,rfl⟩:=apk e;obtain⟨G,Z,g1,g2,g3,g4⟩:=aet ok rs us h2;cases r with
  |@tup b _ ws e1 r1 =>
   cases r1 with
   |cons rk rt=>cases rt with
    |cons rv rt =>
     cases rt;obtain⟨c,rfl,hc⟩:=Ox rk h1;obtain⟨_,qq,w2,t2⟩:=(show yt X.prog X.w H h b (.tup [.ref c,_]) from ok b _ e1);cases w2 with
     |cons x1 w3=>cases w3 with
      |cons x2 w4 =>
       cases w4;cases x1;cases u;refine⟨(q,_)::G,(q,c,_)::Z,.cons rfl rv g1,.cons ⟨rfl,hc,x2⟩ g2,by simp[g3],λj p U=>?_⟩;cases j with
       |zero=>cases U;exact⟨b,rfl,t2,Jw ok hc⟩|succ j=>exact g4 j p U
theorem Z7{F:(List Key×V)->(List Key×Addr×Value)->Prop}(Z:∀p q,F p q->p.1=q.1):∀{G:List (List Key×V)}{U:List (List Key×Addr×Value)},Paired F G U->U.map (·.1)=G.map (·.1)
 |_,_,.nil=>rfl|_,_,.cons h t=>by rw[cz,cz,Z7 Z t,Z _ _ h]
def akp(e:MW.v9 .dict ds M=.ok d U):∃x Z l,ds=[x]/\MW.d8 M x=some Z/\MW.Q8 Z=some l/\(l.map (·.1)).Nodup/\l.length<=1000/\d=.ref M.length/\U=M++[.dT l]:=by
 obtain⟨x,rfl,-⟩:=Ls e;simp only[MW.v9,MW.Ga] at e;cases e1:MW.d8 M x with
 |none=>rw[e1] at e;cases e
 |some Z =>
  rw[e1] at e;cases e2:MW.Q8 Z with
  |none=>rw[wg,e2] at e;cases e
  |some l =>
   rw[wg,e2] at e;obtain⟨G,e⟩:=Tn e;cases e;exact⟨x,Z,l,rfl,e1,e2,G.1,G.2,rfl,rfl⟩
def avs(hc:X.calm=true)(hr:ye 8 X.A):zp X (.type "dict") (rB nm X.K .dict):=λqk s σ H vs us Q I K7 hh=>by
 obtain⟨ι,M,ds,d,M',S,r,e,q⟩:=hh;obtain⟨x,xs,l,rfl,e1,e2,nd,hl,rfl,rfl⟩:=akp e;obtain⟨v,rfl,h⟩:=Hw r rfl;obtain⟨p,ys,rfl,hp,ru⟩:=qp S h e1;obtain⟨u,rfl,rx⟩:=vals1 K7;cases rx;obtain⟨z,is,n,rv,qv,hg⟩:=I.abv hp;obtain⟨l',U,R,g2,g3,g4⟩:=aet I.yf ru rv e2;have hk:=R.keys;have G:U.length=l.length:=by rw[<- Paired.length g2,R.length]
 have qq:(U.map (·.1)).Nodup:=by rw[Z7 (λp q h=>h.1) g2,hk];exact nd
 have hz:U.length<=sizeLine:=by rw[G];exact u9 (Vd hl)
 refine Ue (I.ok.hd hc) (by have:=hr.units;lia) hg qq hz ⟨λj p hp=>by
  obtain⟨a,a1,a2,a3⟩:=g4 j p hp;exact⟨a,by simpa using a1,a2,a3⟩,by simpa using g3⟩ λh' tk kp dd=>?_
 have Z:=I.yf.fresh (az s.heap.objs.size);obtain⟨S2,yd⟩:=S.new (o:=.dT l) (H':=upd H s.heap.objs.size (.dT l')) Z (λa u e=>by rw[jy (kj e Z)];exact e) λle=>⟨l',qu,R.mono le⟩
 obtain⟨o,es,ep,f1,f2,f3,f4,_,f5⟩:=dd;refine⟨.ref s.heap.objs.size,_,I.laid (t':=tk) kp (az _) (show yt X.prog X.w _ h' _ (.dT l') from⟨by rw[<- R.length];exact u9 (Vd hl),uh.mpr (jh (fc I.big)),U,KT.keeps g2 λc ys ec=>by rw[jy (kj ec Z)];exact ec,o,es,ep,f1,f2,f3,f4,f5⟩),rfl,q _ _ _ yd S2 (.ref (by show(ι.l++[s.heap.objs.size])[M.length]?=some s.heap.objs.size;rw[<- S.len];simp))⟩
end Sm
namespace Ck
open PySem L2 Sm
open MW (Ex Dd OEx Lh Af m7 Lv Tg Res dj MO Ks Cp Op2 Blt Bm Kx Src)
structure Tab where
 fns:List (Option (Str×Nat))
 cls:List (Option (Str×Nat))
 mts:List (Str×Nat)
 Lw:List Str
 apl:List (Str×Int)
noncomputable def J6:List Str:=["len", "tuple", "list", "max", "min", "isinstance", "range", "enumerate", "set", "zip", "all", "bool", "dict", "int"]
structure akq(T:Tab)(nm:Nm)(W:Ks)(k:Nat)(P:Program)(w:World)(K:Fg)(mg:Zs)(base:Heap):Prop where
 fn:∀f x n,T.fns[f]?=some (some (x,n))->∃fa fd ps,Ea P w K mg base Xu k fa fd ps (spF nm W K n f)/\mg x=some (.ref fa)/\PySem.W.keepIn K (.ref fa)=true/\Binds K fd ps []
 cl:∀c x n,T.cls[c]?=some (some (x,n))->∃C fa fd ps cl,Mk K C fa/\Ea P w K mg base Xu k fa fd ps (spF nm W K (n+1) cl.init)/\mg x=some (.ref C)/\Binds K fd ps []/\W.cls[c]?=some cl/\nm.cls c=some C
 mt:∀m x n,T.mts[m]?=some (x,n)->∃C fa fd ps f,Cls K C/\Meth K C x fa/\Ea P w K mg base Xu k fa fd ps (spF nm W K (n+1) f)/\Binds K fd ps [] /\
  (∀c' cl',W.cls[c']?=some cl'->∀g,cl'.meths.lookup m=some g->nm.cls c'=some C/\g=f)/\∀i,nm.fld i≠x
 fl:∀f x,T.Lw[f]?=some x->x=nm.fld f/\∀c C,nm.cls c=some C->Cls K C/\Dz K C x
 cs:∀x i,(x,i)∈T.apl->∃t,mg x=some (.int i t)
 bt:∀x∈J6,mg x=none
structure Ctx where
 N:List Str
 sc:List (Str×NameKind)
 fn:Bool
structure De(T:Tab)(nm:Nm)(W:Ks)(k:Nat)(c:Ctx)(X:Cx):Prop where
 N:X.N=c.N
 nd:c.N.Nodup
 sc:X.env.scope.names=c.sc
 kd:X.env.scope.kind=.function
 calm:X.calm=true
 room:ye (k+16) X.A
 fnl:c.fn=true->(∀n,X.fn n=true)/\PassesOwn (model X.prog X.w) X.A X.env X.xe
 tab:akq T nm W k X.prog X.w X.K X.mg X.base
noncomputable def Tu(n:Str):Bool:=!(n==("__debug__" : Str))&&(!(n==("__classdict__" : Str))&&!(n==("__name__" : Str)))
noncomputable def agl(c:Ctx)(n:Str):Bool:=match c.sc.lookup n with|some .local=>true|some .cell=>true|some .free=>true|_=>false
noncomputable def avt(c:Ctx)(n:Str):Bool:=match c.sc.lookup n with|some .local=>true|some .cell=>c.fn|_=>false
def Ug(c:Ctx)(n:Str):Bool:=Tu n&&(match c.sc.lookup n with|some .globalImplicit=>true|_=>false)
noncomputable def aev(c:Ctx)(i:Nat)(n:Str):Bool:=match c.N[i]? with|some m=>m==n|none=>false
def xj:List Expr->Bool
 |[]=>true|e::r=>noStar e&&xj r
noncomputable def O1:Expr->Bool
 |.Name ..=>true|.Attribute ..=>true|.Subscript ..=>true|.Call (.Attribute ..) ..=>true|_=>false
def xm(h:Tu n=true):(n==("__debug__" : Str))=false/\(n==("__classdict__" : Str))=false/\n≠"__name__" := by simp only[Tu,aq,Bool.not_eq_true'] at h;exact⟨h.1,h.2.1,λz=>by have:=h.2.2;rw[z] at this;simp at this⟩
set_option tactic.hygienic true in
def avu(h:De T nm W k c X)(Z:agl c n=true):Vis X.env.scope n:=by unfold Vis;rw[h.sc];unfold agl at Z;split at Z<;>rename_i e<;>first|exact .inl e|exact .inr (.inl e)|exact .inr (.inr e)|cases Z
set_option tactic.hygienic true in
def avv(h:De T nm W k c X)(Z:avt c n=true):L2.Loc X.env.scope n/\(X.fn n=true\/X.env.scope.names.lookup n=some .local):=by
 unfold L2.Loc;rw[h.sc];unfold avt at Z;split at Z
 .rename_i e;exact⟨.inl e,.inr e⟩
 .rename_i e;exact⟨.inr e,.inl ((h.fnl Z).1 n)⟩
 .cases Z
set_option tactic.hygienic true in
def J7(h:De T nm W k c X)(Z:Ug c n=true):Gl X n/\Tu n=true:=by
 unfold Ug at Z;rw[aq] at Z;refine⟨?_,Z.1⟩;have Z:=Z.2;unfold Gl Env.kindOf;rw[h.sc];split at Z
 .rename_i e;exact e
 .cases Z
set_option tactic.hygienic true in
def slot_of(h:De T nm W k c X)(Z:aev c i n=true):X.N[i]?=some n:=by
 rw[h.N];unfold aev at Z;split at Z
 .rename_i m e;rw[e,eq_of_beq Z]
 .cases Z
theorem Tv{Z:Env}:∀{G:Ya},xj G=true->starEach G Z=G.map λe=>(false,eval e Z)
 |[],_=>rfl
 |e::r,h=>by
  simp only[xj,aq] at h;rw[qg h.1,Tv h.2];rfl
def xn(h:xj es=true):(backTo pos (starEach es env)).any (·.1)=false:=by rw[Tv h];simp[backTo]
def Tw(h:xj es=true):(backTo pos (starEach es env)).all (λx=>!x.1)=true:=by rw[Tv h];simp[backTo]
set_option tactic.hygienic true in
def Cr(h:O1 o=true):attributeBase o n env (eval o env)=eval o env:=by
 cases o<;>try first|rfl|(cases h;done)
 rename_i f Y Z p;cases f<;>first|rfl|(cases h)
def apm(h:O1 o=true)(R:xj es=true)(G:es.length<29)(hp:(apos.endLine==pos.line)=true) :
 eval (.Call (.Attribute o m apos) es [] pos) env=(do
  let Z <- eval o env
  standAt apos.atName
  let (f,first) <- holding [Z] (getMethod Z m (do return (<- importBound o env).getD true))
  callWith pos f first (backTo pos (starEach es env)) (backToKw pos (keywordEach [] env))):=by
 have U:methodCallForm (es.length+0) (backTo pos (starEach es env)) (backToKw pos (keywordEach [] env))=true:=by unfold methodCallForm;rw[Tw R];simp[keywordEach,backToKw];exact b_ G (by decide)
 show(do
  let Z <- attributeBase o m env (eval o env)
  standAt apos.atName
  methodCall o m apos pos env Z (es.length+0) (backTo pos (starEach es env)) (backToKw pos (keywordEach [] env)))=_
 rw[Cr h];unfold methodCall;rw[U];have hq:methodCallPos true o env apos pos=pure pos:=by unfold methodCallPos;rw[hp];rfl
 rw[hq];simp only[calleeOf,j6,pure_bind]
noncomputable def Ax{Z:Type}(o:Option Z)(f:Z->Bool):Bool:=match o with|some x=>f x|none=>false
def jm(h:Ax o f=true):∃x,o=some x/\f x=true:=by
 cases o with
 |none=>cases h|some x=>exact⟨x,rfl,h⟩
noncomputable def Tz{α:Type}(l:List α):Option α:=match l with|[x]=>some x|_=>none
def Ak(h:Tz l=some x):l=[x]:=by
 cases l with
 |nil=>cases h
 |cons y r=>cases r with
  |nil=>cases h;rfl|cons _ _=>cases h
def Vq{Z:Type}{P:Z->Prop}{o:Option {x // P x}}{q:Z}(h:o.map Subtype.val=some q):P q:=by
 cases o with
 |none=>cases h|some x=>cases h;exact x.2
noncomputable def K8(a:Expr):Option Str:=Option.map Subtype.val (α:={q:Str // ∃p,a=.Name q p}) (match a with|.Name n p=>some ⟨n,p,rfl⟩|_=>none)
noncomputable def akr(a:Expr):Option Const:=Option.map Subtype.val (α:={q:Const // ∃k p,a=.Constant q k p}) (match a with|.Constant n k p=>some ⟨n,k,p,rfl⟩|_=>none)
noncomputable def a1h(a:Expr):Option (Expr×Operator×Expr):=Option.map Subtype.val (α:={q:Expr×Operator×Expr // ∃p,a=.BinOp q.1 q.2.1 q.2.2 p}) (match a with|.BinOp l o r p=>some ⟨(l,o,r),p,rfl⟩|_=>none)
noncomputable def dUn(a:Expr):Option (UnaryOp×Expr):=Option.map Subtype.val (α:={q:UnaryOp×Expr // ∃p,a=.UnaryOp q.1 q.2 p}) (match a with|.UnaryOp o l p=>some ⟨(o,l),p,rfl⟩|_=>none)
noncomputable def avw(a:Expr):Option (Expr×List CmpOp×List Expr):=Option.map Subtype.val (α:={q:Expr×List CmpOp×List Expr // ∃p,a=.Compare q.1 q.2.1 q.2.2 p}) (match a with|.Compare l o r p=>some ⟨(l,o,r),p,rfl⟩|_=>none)
noncomputable def aq8(a:Expr):Option (BoolOp×List Expr×Pos):=Option.map Subtype.val (α:={q:BoolOp×List Expr×Pos // a=.BoolOp q.1 q.2.1 q.2.2}) (match a with|.BoolOp o l p=>some ⟨(o,l,p),rfl⟩|_=>none)
noncomputable def agm(a:Expr):Option (List Expr):=Option.map Subtype.val (α:={q:List Expr // ∃k p,a=.Tuple q k p}) (match a with|.Tuple l k p=>some ⟨l,k,p,rfl⟩|_=>none)
noncomputable def avx(a:Expr):Option (List Expr):=Option.map Subtype.val (α:={q:List Expr // ∃p,a=.List q p}) (match a with|.List l p=>some ⟨l,p,rfl⟩|_=>none)
noncomputable def a1i(a:Expr):Option (List (Option Expr)×List Expr):=Option.map Subtype.val (α:={q:List (Option Expr)×List Expr // ∃p,a=.Dict q.1 q.2 p}) (match a with|.Dict k v p=>some ⟨(k,v),p,rfl⟩|_=>none)
noncomputable def aks(a:Expr):Option (Expr×Expr):=Option.map Subtype.val (α:={q:Expr×Expr // ∃p,a=.Subscript q.1 q.2 p}) (match a with|.Subscript l r p=>some ⟨(l,r),p,rfl⟩|_=>none)
noncomputable def dSl(a:Expr):Option (Option Expr×Option Expr×Option Expr):=Option.map Subtype.val (α:={q:Option Expr×Option Expr×Option Expr // ∃p,a=.Slice q.1 q.2.1 q.2.2 p}) (match a with|.Slice l r s p=>some ⟨(l,r,s),p,rfl⟩|_=>none)
noncomputable def akt(a:Expr):Option (Expr×List Expr×List Keyword×Pos):=Option.map Subtype.val (α:={q:Expr×List Expr×List Keyword×Pos // a=.Call q.1 q.2.1 q.2.2.1 q.2.2.2}) (match a with|.Call f l k p=>some ⟨(f,l,k,p),rfl⟩|_=>none)
noncomputable def aku(a:Expr):Option (Expr×Str×Pos):=Option.map Subtype.val (α:={q:Expr×Str×Pos // a=.Attribute q.1 q.2.1 q.2.2}) (match a with|.Attribute l n p=>some ⟨(l,n,p),rfl⟩|_=>none)
noncomputable def Z8(a:Expr):Option (Expr×List Comprehension×Scope):=Option.map Subtype.val (α:={q:Expr×List Comprehension×Scope // ∃p,a=.ListComp q.1 q.2.1 q.2.2 p}) (match a with|.ListComp e g s p=>some ⟨(e,g,s),p,rfl⟩|_=>none)
def Dr(h:K8 a=some n):∃p,a=.Name n p:=(Vq h :)
def Qy(h:akr a=some n):∃k p,a=.Constant n k p:=(Vq h :)
def apn(h:a1h a=some (l,o,r)):∃p,a=.BinOp l o r p:=(Vq h :)
def ab4(h:dUn a=some (o,l)):∃p,a=.UnaryOp o l p:=(Vq h :)
def aew(h:avw a=some (l,o,r)):∃p,a=.Compare l o r p:=(Vq h :)
def akv(h:aq8 a=some (o,r,p)):a=.BoolOp o r p:=(Vq h :)
def N7(h:agm a=some l):∃k p,a=.Tuple l k p:=(Vq h :)
def aex(h:avx a=some l):∃p,a=.List l p:=(Vq h :)
def apo(h:a1i a=some (k,l)):∃p,a=.Dict k l p:=(Vq h :)
def Xm(h:aks a=some (l,r)):∃p,a=.Subscript l r p:=(Vq h :)
def avy(h:dSl a=some (l,r,s)):∃p,a=.Slice l r s p:=(Vq h :)
def Z9(h:akt a=some (f,l,k,p)):a=.Call f l k p:=(Vq h :)
def Xn(h:aku a=some (l,n,p)):a=.Attribute l n p:=(Vq h :)
def T3(h:Z8 a=some (e,g,s)):∃p,a=.ListComp e g s p:=(Vq h :)
def dCN(a:Expr):Option (Str×List Expr):=(akt a).bind λq=>if q.2.2.1.isEmpty then(K8 q.1).map λn=>(n,q.2.1) else none
set_option tactic.hygienic true in
def Hx(h:dCN a=some (n,l)):∃p p',a=.Call (.Name n p) l [] p':=by
 obtain⟨⟨f,L,k,p⟩,U,Y⟩:=ir.mp h;split at Y
 .rename_i Z
  obtain⟨C,J,G⟩:=bx.mp Y;obtain⟨p',e⟩:=Dr J;have e:f=_:=e;have Z:k=[]:=mj.mp Z;cases G;exact⟨p',p,by rw[Z9 U,e,Z]⟩
 .cases Y
def dCA(a:Expr):Option (Expr×Str×Pos×List Expr×Pos):=(akt a).bind λq=>if q.2.2.1.isEmpty then(aku q.1).map λn=>(n.1,n.2.1,n.2.2,q.2.1,q.2.2.2) else none
set_option tactic.hygienic true in
def ab5(h:dCA a=some (o,n,J,l,p)):a=.Call (.Attribute o n J) l [] p:=by
 obtain⟨⟨f,l',k,p'⟩,L,Y⟩:=ir.mp h;split at Y
 .rename_i Z
  obtain⟨⟨R,S,C⟩,U,G⟩:=bx.mp Y;have e:f=_:=Xn U;have Z:k=[]:=mj.mp Z;cases G;rw[Z9 L,e,Z]
 .cases Y
noncomputable def a1j(l:Ya):List Str:=l.filterMap K8
noncomputable def Cy(e:Expr):List Str:=match agm e with|some l=>a1j l|none=>a1j [e]
noncomputable def hid(i:Nat):Str:=⟨#[0,i]⟩
def agn(Z:Yf)(p:Str×Nat):Str:=if Z.contains p.1=true then hid p.2 else p.1
noncomputable def Qn(N Z:Yf):List Str:=N.zipIdx.map (agn Z)++Z
noncomputable def apq(c:Ctx)(Z:X0):List (Str×NameKind):=Z.map λy=>if(y.2==NameKind.free&&c.sc.lookup y.1==some .cell) then(y.1,NameKind.cell) else(y.1,y.2)
def aaa(c:Ctx)(G:Scope)(Z:Yf):Ctx:=⟨Qn c.N Z,apq c G.names,false⟩
def avz(c:Ctx)(Z:Scope)(G:Yf):Bool :=
 decide (Z.kind=.function)&&(Z.names.all (λy=>!(y.2==NameKind.cell))&&(Z.names.all (λy=>Z.names.lookup y.1==some y.2) &&
 (Z.names.all (λy=>!(y.2==NameKind.free)||(c.sc.lookup y.1==some .cell||c.sc.lookup y.1==some .free))&&(decide ((Qn c.N G).Nodup) &&
 c.N.zipIdx.all (λp=>!(agl (aaa c Z G) (agn G p))||(agn G p==p.1&&Z.names.lookup (agn G p)==some .free))))))
noncomputable def a1k:Op2->Operator
 |.add=>.Add|.sub=>.Sub|.mul=>.Mult|.fdiv=>.FloorDiv|.mod=>.Mod|.pow=>.Pow
noncomputable def apr:Cp->Option CmpOp
 |.eq=>some .Eq|.ne=>some .NotEq|.lt=>some .Lt|.le=>some .LtE|.gt=>some .Gt|.ge=>some .GtE|.inn=>some .In|.Uk=>some .NotIn
noncomputable def av0:Blt->Option Str
 |.len=>some "len"|.tuple=>some "tuple"|.list=>some "list"|.max=>some "max"|.min=>some "min"
 |.all=>some "all"|.dict=>some "dict"|.toInt=>some "int"
 |_=>none
noncomputable def bmN:Bm->Option Str
 |.append=>some "append"|.extend=>some "extend"|.setdefault=>some "setdefault"|.get=>some "get"|.index=>some "index"
def av1(T:Tab)(c:Ctx)(d:MW.D)(a:Expr):Bool :=
 match d with
 |.int i=>Ax (akr a) (λk=>decide (k=.int i))||Ax (K8 a) λn=>Ug c n&&T.apl.contains (n,i)
 |.bl i=>Ax (akr a) λk=>decide (k=.bool i)
 |.str i=>Ax (akr a) λk=>decide (k=.str i)
 |.non=>Ax (akr a) λk=>decide (k=.none)
 |_=>false
def tg1(c:Ctx)(Z i:Nat)(e:Expr):Bool:=Ax (K8 e) λn=>aev c i n&&(avt c n&&decide (Z<=i))
def ago(c:Ctx)(Z:Nat):List Nat->List Expr->Bool
 |[],[]=>true|i::is,e::ts=>tg1 c Z i e&&ago c Z is ts|_,_=>false
def tgB(c:Ctx)(Z:Nat)(t:Tg)(e:Expr):Bool :=
 match t with
 |.name i=>tg1 c Z i e|.names is=>Ax (agm e) λG=>ago c Z is G
noncomputable def N8:Expr->Bool|.IfExp ..=>false|_=>true
noncomputable def fnB(l:List (Option (Str×Nat)))(f:Nat)(n:Str)(k:Nat):Bool:=decide (l[f]?=some (some (n,k)))
noncomputable def mtB(l:List (Str×Nat))(f:Nat)(n:Str)(k:Nat):Bool:=decide (l[f]?=some (n,k))
noncomputable def flB(l:Yf)(f:Nat)(n:Str):Bool:=decide (l[f]?=some n)
def aey(c:Ctx)(k:Nat)(t:Tg)(g:Comprehension)(Z:Scope):Bool :=
 avz c Z (Cy g.target)&&((k==(Cy g.target).length)&&(tgB (aaa c Z (Cy g.target)) c.N.length t g.target&&(Ge g.iter&&decide (g.is_async=0))))
def aky(o:BoolOp)(a:Expr)(x y:Expr->Bool):Bool :=
 Ax (aq8 a) λq=>decide (q.1=o)&&(match q.2.1 with
  |l::r::rest=>(N8 l&&x l)&&(match rest with|[]=>N8 r&&y r|_::_=>y (.BoolOp o (r::rest) q.2.2))
  | _=>false)
def a1l(c:Ctx)(G:Str)(a:Expr)(f:Expr->Bool):Bool:=Ax (dCN a) λq=>match q.2 with
 |[l,t]=>Ax (K8 t) λZ=>(decide (q.1 = "isinstance")&&decide (Z=G))&&((Ug c q.1&&Ug c Z)&&(noStar l&&f l))
 |_=>false
def aps(h:a1l c ty a f=true):∃l p R G,a=.Call (.Name "isinstance" p) [l,.Name ty R] [] G/\Ug c "isinstance" = true/\Ug c ty=true/\noStar l=true/\f l=true:=by
 obtain⟨⟨n,ls⟩,U,h0⟩:=jm h;clear h;obtain⟨p,p',rfl⟩:=Hx U
 match ls,U,h0 with
 |[l,t],U,h =>
  replace h:=jm (f:=λZ=>(decide (n = "isinstance")&&decide (Z=ty))&&((Ug c n&&Ug c Z)&&(noStar l&&f l))) h;obtain⟨Z,h2,h⟩:=h;obtain⟨G,rfl⟩:=Dr h2;simp only[aq,du] at h;obtain⟨⟨rfl,rfl⟩,⟨h3,h4⟩,h5,h6⟩:=h;exact⟨l,p,G,p',rfl,h3,h4,h5,h6⟩
 |[],_,h=>cases h|[_],_,h=>cases h|_::_::_::_,_,h=>cases h
def av2(c:Ctx)(Z G:Str)(a:Expr)(f:Expr->Bool):Bool:=Ax (dCN a) λq=>Ax (Tz q.2) λr=>Ax (dCN r) λu=>Ax (Tz u.2) λl=>((decide (q.1=Z)&&decide (u.1=G))&&(Ug c q.1&&Ug c u.1))&&(noStar l&&f l)
def apt(h:av2 c ty G a f=true):∃l p U Z p3,a=.Call (.Name ty p) [.Call (.Name G U) [l] [] Z] [] p3/\Ug c ty=true/\Ug c G=true/\noStar l=true/\f l=true:=by replace h:=jm h;obtain⟨⟨n,ls⟩,h1,h⟩:=h;obtain⟨p,p',rfl⟩:=Hx h1;replace h:=jm h;obtain⟨r,h2,h⟩:=h;cases Ak h2;replace h:=jm h;obtain⟨⟨m,ms⟩,h3,h⟩:=h;obtain⟨Z,q2,rfl⟩:=Hx h3;replace h:=jm h;obtain⟨l,h4,h⟩:=h;cases Ak h4;simp only[aq,du] at h;obtain⟨⟨⟨rfl,rfl⟩,h5,h6⟩,R,h8⟩:=h;exact⟨l,p,Z,q2,p',rfl,h5,h6,R,h8⟩
mutual
def yq(T:Tab):Ex->Ctx->Expr->Bool
 |.var i,c,a=>Ax (K8 a) λn=>aev c i n&&(agl c n&&Tu n)
 |.tru _,_,_=>false|.cst d,c,a=>av1 T c d a|.bin op x y,c,a=>Ax (a1h a) λq=>decide (q.2.1=a1k op)&&(yq T x c q.1&&yq T y c q.2.2)
 |.neg x,c,a=>Ax (dUn a) λq=>decide (q.1=.USub)&&yq T x c q.2
 |.cmp op x y,c,a=>Ax (avw a) λq=>Ax (Tz q.2.1) λo=>Ax (Tz q.2.2) λr=>decide (apr op=some o)&&(Ge r&&(yq T x c q.1&&yq T y c r))
 |.chain o1 o2 x y z,c,a=>Ax (avw a) λq=>match q.2.1,q.2.2 with
  |[p1,p2],[r,s]=>(decide (apr o1=some p1)&&decide (apr o2=some p2))&&(Ge s&&(yq T x c q.1&&(yq T y c r&&yq T z c s)))|_,_=>false
 |.and x y,c,a=>aky .And a (yq T x c) (yq T y c)|.or x y,c,a=>aky .Or a (yq T x c) (yq T y c)|.ntr x,c,a=>Ax (dUn a) λq=>decide (q.1=.Not)&&((K8 q.2).isSome&&yq T x c q.2)
 |.not x,c,a=>Ax (dUn a) λq=>decide (q.1=.Not)&&(N8 q.2&&yq T x c q.2)
 |.tup es,c,a=>Ax (agm a) λl=>decide (Dd.len es<=1000)&&Ij T es c l
 |.lst es,c,a=>Ax (avx a) λl=>decide (Dd.len es<=1000)&&Ij T es c l
 |.Ir es,c,a=>Ax (avx a) λl=>decide (Dd.len es<=1000)&&Ij T es c l
 |.Xz,_,a=>Ax (a1i a) λq=>q.1.isEmpty&&q.2.isEmpty
 |.ix x y,c,a=>Ax (aks a) λq=>Xb q.2&&(yq T x c q.1&&yq T y c q.2)
 |.cut x lo hi,c,a=>Ax (aks a) λq=>Ax (dSl q.2) λs=>s.2.2.isNone&&(yq T x c q.1&&(av3 T lo c s.1&&av3 T hi c s.2.1))
 |.call f es,c,a=>Ax (dCN a) λq=>(fnB T.fns f q.1 (Dd.len es)&&(Ug c q.1&&!q.2.isEmpty))&&Ij T es c q.2
 |.make f,c,a=>Ax (dCN a) λq=>fnB T.cls f q.1 0&&(Ug c q.1&&q.2.isEmpty)
 |.meth o m es,c,a=>Ax (dCA a) λq=>((mtB T.mts m q.2.1 (Dd.len es)&&O1 q.1)&&(decide (q.2.2.2.1.length<29)&&((q.2.2.1.endLine==q.2.2.2.2.line)&&!q.2.2.2.1.isEmpty)))&&(yq T o c q.1&&Ij T es c q.2.2.2.1)
 |.fld o f,c,a=>Ax (aku a) λq=>(flB T.Lw f q.2.1&&O1 q.1)&&yq T o c q.1
 |.blt .Lg (.cons x .nil),c,a=>av2 c "len" "set" a (yq T x c)|.blt .isBool (.cons x .nil),c,a=>a1l c "bool" a (yq T x c)|.blt b es,c,a=>Ax (dCN a) λq=>(decide (av0 b=some q.1)&&(Ug c q.1&&!q.2.isEmpty))&&Ij T es c q.2
 |.bm m o es,c,a=>Ax (dCA a) λq=>((decide (bmN m=some q.2.1)&&O1 q.1)&&(decide (q.2.2.2.1.length<29)&&((q.2.2.1.endLine==q.2.2.2.2.line)&&!q.2.2.2.1.isEmpty)))&&(yq T o c q.1&&Ij T es c q.2.2.2.1)
 |.comp v k t it e,c,a=>Ax (Z8 a) λq=>Ax (Tz q.2.1) λg=>(aey c k t g q.2.2&&g.ifs.isEmpty)&&(apu T it c g.target g.iter&&yq T e (aaa c q.2.2 (Cy g.target)) q.1)
 |.yz v k t it i e,c,a=>Ax (Z8 a) λq=>Ax (Tz q.2.1) λg=>Ax (Tz g.ifs) λd=>(aey c k t g q.2.2&&N8 d)&&(apu T it c g.target g.iter&&(yq T i (aaa c q.2.2 (Cy g.target)) d&&yq T e (aaa c q.2.2 (Cy g.target)) q.1))
def Ij(T:Tab):Dd->Ctx->List Expr->Bool
 |.nil,_,a=>a.isEmpty|.cons e es,c,a=>match a with|l::ls=>noStar l&&(yq T e c l&&Ij T es c ls)|_=>false
def av3(T:Tab):OEx->Ctx->Option Expr->Bool
 |.none,_,a=>a.isNone|.some e,c,a=>Ax a (yq T e c)
def apu(T:Tab):Lh->Ctx->Expr->Expr->Bool
 |.val e,c,_,a=>yq T e c a|.T6 e,c,_,a=>Ax (dCN a) λq=>Ax (Tz q.2) λl=>(decide (q.1 = "range")&&Ug c q.1)&&(noStar l&&yq T e c l)
 |.enm e,c,tg,a=>Ax (dCN a) λq=>Ax (Tz q.2) λl=>((agm tg).isSome&&(decide (q.1 = "enumerate")&&Ug c q.1))&&(noStar l&&yq T e c l)
 |.zip es,c,tg,a=>Ax (dCN a) λq=>((agm tg).isSome&&(decide (q.1 = "zip")&&(Ug c q.1&&!q.2.isEmpty)))&&Ij T es c q.2
 |.vals e,c,_,a=>Ax (dCA a) λq=>((decide (q.2.1 = "values")&&O1 q.1)&&((q.2.2.1.endLine==q.2.2.2.2.line)&&q.2.2.2.1.isEmpty))&&yq T e c q.1
end
def K9(h:De T nm W k c X)(G:Scope):(relabel G X.env).names=apq c G.names:=by
 unfold relabel apq;refine j5 λy _=>?_
 obtain⟨n,Z⟩:=y;show(if(Z==NameKind.free&&X.env.scope.kind==.function&&X.env.kindOf n==some .cell)=true then _ else _)=_;have e:(Z==NameKind.free&&X.env.scope.kind==.function&&X.env.kindOf n==some .cell)=(Z==NameKind.free&&c.sc.lookup n==some .cell):=by unfold Env.kindOf;rw[h.kd,h.sc];simp
 rw[e]
def av4(h:De T nm W k c X)(hb:avz c sc G=true):Ed X (Qn c.N G) sc/\∀C fp s H,De T nm W k (aaa c sc G) (Ip X (Qn c.N G) sc C fp s H):=by
 simp only[avz,aq,du,uv] at hb;obtain⟨h1,h2,h3,h4,h5,h6⟩:=hb;have Z:∀x kd,(x,kd)∈sc.names->sc.names.lookup x=some kd:=λx kd m=>by have:=h3 (x,kd) m;simpa using this
 refine⟨⟨h1,λy m=>by have:=h2 y m;simpa using this,λy m e=>by rw[Z y.1 y.2 m,e],λy m e=>?_,Z,?_,λi x hi U hv=>?_⟩,λC fp s H=>⟨rfl,h5,K9 h sc,h1,h.calm,h.room,(λz=>by cases z),h.tab⟩⟩
 .have:=h4 y m
  rw[e] at this;unfold Env.kindOf;rw[h.sc];simpa using this
 .rw[h.N];simp[Qn]
 .rw[h.N] at hi
  have hl:i<(c.N.zipIdx.map (agn G)).length:=by simpa using hi
  unfold Qn at U;rw[gm hl,ig,vh] at U;obtain⟨n,R⟩:∃n,c.N[i]?=some n:=⟨c.N[i],by simp[hi]⟩;rw[R] at U;have U:agn G (n,i)=x:=by simpa using U
  have m:(n,i)∈c.N.zipIdx:=by rw[iy];exact⟨i,by rw[vh,R];simp⟩
  have q:=h6 (n,i) m;rw[U] at q;have v:agl (aaa c sc G) x=true:=by unfold Vis at hv;rw[K9 h] at hv;unfold agl;show(match(apq c sc.names).lookup x with|some .local=>true|some .cell=>true|some .free=>true|_=>false)=true;rcases hv with e|e|e<;>rw[e]
  rw[v] at q;simp only[Bool.not_true,Bool.false_or,aq] at q;rw[h.N,R];have e1:x=n:=eq_of_beq q.1;exact⟨by rw[e1],by have:=q.2;simpa using this⟩
def a1m(h:o=a1k op):Aw X (binaryOp o) (rOp nm X.K (MW.zq op)):=by
 subst h;cases op with
 |add=>exact a0e|sub=>exact a0a|mul=>exact a0d|fdiv=>exact auz|mod=>exact a0b|pow=>exact a0c
def akz(Z:ye 8 X.A)(h:apr op=some o):Aw X (compareOp o) (T7 nm X.K op):=by
 have G:ye 6 X.A:=Z.mono (by decide);cases op with
 |eq=>cases h;exact a7s G|ne=>cases h;exact a7t G|lt=>cases h;exact a7g|le=>cases h;exact a7h|gt=>cases h;exact a7i|ge=>cases h;exact a7j|inn=>cases h;exact a7u Z|Uk=>cases h;exact aox Z
def ab6(h:De T nm W k c X)(G:tg1 c lo i e=true):∃n p,e=.Name n p/\X.N[i]?=some n/\L2.Loc X.env.scope n/\(X.fn n=true\/X.env.scope.names.lookup n=some .local)/\lo<=i:=by obtain⟨n,h1,Z⟩:=jm G;obtain⟨p,rfl⟩:=Dr h1;simp only[aq,du] at Z;obtain⟨R,U⟩:=avv h Z.2.1;exact⟨n,p,rfl,slot_of h Z.1,R,U,Z.2.2⟩
theorem ak0{T:Tab}{U:Nm}{W:Ks}{k:Nat}{c:Ctx}{X:Cx}(h:De T U W k c X){G:Nat}:∀{is:Y3}{Z:Ya},ago c G is Z=true->Hv X Z is/\∀i∈is,G<=i
 |[],[],_=>⟨.nil,by simp⟩|[],_::_,e=>by cases e|_::_,[],e=>by cases e
 |i::is,a::Z,e=>by
  unfold ago at e;rw[aq] at e;obtain⟨n,p,rfl,e1,e2,e3,e4⟩:=ab6 h e.1;obtain⟨g1,R⟩:=ak0 h e.2;refine⟨.cons e1 e2 e3 g1,λj hj=>?_⟩;rcases dh.mp hj with z|z
  .rw[z];exact e4
  .exact R j z
def aez(h:De T nm W k c X)(G:tgB c lo t e=true):PG X e (tGt nm X.K t)/\∀i∈zc t,lo<=i:=by
 have Z:X.N.Nodup:=by rw[h.N];exact h.nd
 cases t with
 |name i =>
  obtain⟨n,p,rfl,e1,e2,e3,e4⟩:=ab6 h G;exact⟨au6 Z e1 e2 e3,λi hi=>by rw[jz.mp hi];exact e4⟩
 |names is =>
  obtain⟨ts,h1,U⟩:=jm G;obtain⟨k0,p,rfl⟩:=N7 h1;obtain⟨g1,R⟩:=ak0 h U;exact⟨aoq h.calm Z g1,R⟩
structure Got(nm:Nm)(W:Ks)(X:Cx)(a:Expr)(e:Ex):Prop where
 v:PE X a (tE nm W X.K e)
 q:N8 a=true->PT X a (tQ nm W X.K e)
 w:∀op ls p,a=.BoolOp op ls p->PW X a (tQ nm W X.K e)
noncomputable def a1n:Expr->Bool
 |.BoolOp ..=>false|.UnaryOp .Not _ _=>false|.IfExp ..=>false|.Compare ..=>false|_=>true
set_option tactic.hygienic true in
def vq(h:PE X a (tE nm W X.K e))(Y:a1n a=true):Got nm W X a e:=by
 refine⟨h,λU=>a0g h λZ=>?_,λG J p z=>by subst z;cases Y⟩;cases a<;>first|rfl|(cases Y)|skip
 rename_i G x p;cases G<;>first|rfl|cases Y
def av5(h:De T nm W k c X)(G:av1 T c d a=true):PE X a (tE nm W X.K (.cst d))/\a1n a=true:=by
 cases d with
 |int i =>
  simp only[av1,Bool.or_eq_true] at G;rcases G with G|G
  .obtain⟨k,U,Z⟩:=jm G
   obtain⟨j,p,rfl⟩:=Qy U;rw[kh Z];exact⟨az6,rfl⟩
  .obtain⟨n,U,Z⟩:=jm G
   obtain⟨p,rfl⟩:=Dr U;rw[aq] at Z;obtain⟨g1,R⟩:=J7 h Z.1;obtain⟨t,ht⟩:=h.tab.cs _ _ (List.contains_iff_mem.mp Z.2);exact⟨auy g1 ht (xm R).1,rfl⟩
 |bl i =>
  obtain⟨k,U,Z⟩:=jm G;obtain⟨j,p,rfl⟩:=Qy U;rw[kh Z];exact⟨a7e,rfl⟩
 |str i =>
  obtain⟨k,U,Z⟩:=jm G;obtain⟨j,p,rfl⟩:=Qy U;rw[kh Z];exact⟨az8,rfl⟩
 |non =>
  obtain⟨k,U,Z⟩:=jm G;obtain⟨j,p,rfl⟩:=Qy U;rw[kh Z];exact⟨az7,rfl⟩
 |_=>cases G
section
variable{T:Tab}{nm:Nm}{W:Ks}{k:Nat}
def De.r8(h:De T nm W k c X):ye 8 X.A:=h.room.mono (by lia)
theorem De.mg(h:De T nm W k c X)(m:n∈J6):X.mg n=none:=h.tab.bt n m
theorem Qf{c:Ctx}{G:Nat}:∀{is:Y3}{Z:Ya},ago c G is Z=true->∀i∈is,G<=i
 |[],_,_=>by simp|_::_,[],e=>by cases e
 |i::is,a::Z,e=>by
  unfold ago at e;rw[aq] at e;intro j R;rcases dh.mp R with z|z
  .obtain⟨n,h1,U⟩:=jm e.1
   simp only[aq,du] at U;rw[z];exact U.2.2
  .exact Qf e.2 j z
def ab7(h:tgB c lo t e=true):∀i∈zc t,lo<=i:=by
 cases t with
 |name j =>
  obtain⟨n,G,Z⟩:=jm h;simp only[aq,du] at Z;intro i U;rw[jz.mp U];exact Z.2.2
 |names is =>
  obtain⟨R,G,Z⟩:=jm h;exact Qf Z
def ak1:(Qn N Z).length-N.length=Z.length:=by simp[Qn]
def Oa(G:De T nm W k c X)(h:aey c j t g sc=true) :
 Ge g.iter=true/\g.is_async=0/\Ed X (Qn c.N (Cy g.target)) sc/\(∀C Z s H,De T nm W k (aaa c sc (Cy g.target)) (Ip X (Qn c.N (Cy g.target)) sc C Z s H)) /\
 (∀C Z s H,PG (Ip X (Qn c.N (Cy g.target)) sc C Z s H) g.target (tGt nm X.K t))/\(Qn c.N (Cy g.target)).length-X.N.length=j/\∀i∈zc t,X.N.length<=i:=by
 simp only[aey,aq,du] at h;obtain⟨h2,h3,R,h5,h6⟩:=h;obtain⟨B,U⟩:=av4 G h2;exact⟨h5,h6,B,U,λC Z s H=>(aez (U C Z s H) R).1,by rw[G.N,ak1];exact(eq_of_beq h3).symm,λi hi=>by rw[G.N];exact ab7 R i hi⟩
def ae0(h:aky o a x y=true):(∃l r p,a=.BoolOp o [l,r] p/\N8 l=true/\x l=true/\N8 r=true/\y r=true) \/
 ∃l r s Z p,a=.BoolOp o (l::r::s::Z) p/\N8 l=true/\x l=true/\y (.BoolOp o (r::s::Z) p)=true:=by
 obtain⟨⟨R,U,p⟩,h1,G⟩:=jm h;cases akv h1;rw[aq] at G;obtain⟨h3,G⟩:=G;cases kh h3;cases U with
 |nil=>cases G
 |cons l U=>cases U with
  |nil=>cases G
  |cons r Z =>
   cases Z with
   |nil =>
    have G:((N8 l&&x l)&&(N8 r&&y r))=true:=G;simp only[aq] at G;exact .inl ⟨l,r,p,rfl,G.1.1,G.1.2,G.2.1,G.2.2⟩
   |cons s Z =>
    have G:((N8 l&&x l)&&y (.BoolOp R (r::s::Z) p))=true:=G;simp only[aq] at G;exact .inr ⟨l,r,s,Z,p,rfl,G.1.1,G.1.2,G.2⟩
def av6(R:De T nm W k c X)(Z:av0 b=some n)(hg:Ug c n=true)(e1:PA X (l::ls) (Xv nm W X.K es))(e2:xj (l::ls)=true):PE X (.Call (.Name n p) (l::ls) [] p') (tE nm W X.K (.blt b es)):=by
 obtain⟨g1,g2⟩:=J7 R hg;obtain⟨G,d2,d3⟩:=xm g2;simp only[xj,aq] at e2;have st:=qg e2.1 ls X.env;have U:=xn (env:=X.env) (pos:=p') e2.2;have mg:n∈J6->X.mg n=none:=R.mg;cases b with
 |len=>cases Z;exact aed (id := "len") a00 g1 (mg (by decide+kernel)) (by decide+kernel) e1 d3 G st U|max=>cases Z;exact aed (id := "max") (a03 R.calm) g1 (mg (by decide+kernel)) (by decide+kernel) e1 d3 G st U|all=>cases Z;exact aed (id := "all") (a1c R.calm) g1 (mg (by decide+kernel)) (by decide+kernel) e1 d3 G st U|min=>cases Z;exact aed (id := "min") (a05 R.calm) g1 (mg (by decide+kernel)) (by decide+kernel) e1 d3 G st U|tuple=>cases Z;exact Xc (T := "tuple") aot g1 (mg (by decide+kernel)) (by decide+kernel) e1 d3 G st U|list=>cases Z;exact Xc (T := "list") (avr R.calm) g1 (mg (by decide+kernel)) (by decide+kernel) e1 d3 G st U|dict=>cases Z;exact Xc (T := "dict") (avs R.calm R.r8) g1 (mg (by decide+kernel)) (by decide+kernel) e1 d3 G st U|toInt=>cases Z;exact Xc (T := "int") apj g1 (mg (by decide+kernel)) (by decide+kernel) e1 d3 G st U|_=>cases Z
def T4{Z:Type}{l:List Z}(h:(!l.isEmpty)=true):∃x r,l=x::r:=by
 cases l with
 |nil=>cases h|cons x r=>exact⟨x,r,rfl⟩
set_option tactic.hygienic true in
mutual
theorem jl:∀(e:Ex){c:Ctx}{X:Cx}{a:Expr},De T nm W k c X->yq T e c a=true->Got nm W X a e
 |.var i,c,X,a,hc,h=>by
  replace h:=jm h;obtain⟨n,Z,h⟩:=h;obtain⟨p,rfl⟩:=Dr Z;simp only[aq] at h;exact vq (az5 (slot_of hc h.1) (avu hc h.2.1) (xm h.2.2).1 (xm h.2.2).2.1) rfl
 |.tru e,c,X,a,hc,h=>by cases h
 |.cst d,c,X,a,hc,h=>by
  obtain⟨Z,U⟩:=av5 hc h;exact vq Z U
 |.bin op x y,c,X,a,hc,h=>by
  replace h:=jm h;obtain⟨⟨l,o,r⟩,Z,h⟩:=h;obtain⟨p,rfl⟩:=apn Z;simp only[aq,du] at h;exact vq (az9 (a1m h.1) (jl x hc h.2.1).v (jl y hc h.2.2).v) rfl
 |.neg x,c,X,a,hc,h=>by
  replace h:=jm h;obtain⟨⟨o,l⟩,Z,h⟩:=h;obtain⟨p,rfl⟩:=ab4 Z;simp only[aq,du] at h;obtain⟨rfl,h⟩:=h;exact vq (a0p (jl x hc h).v) rfl
 |.cmp op x y,c,X,a,hc,h=>by
  replace h:=jm h;obtain⟨⟨l,o,r⟩,Z,h⟩:=h;obtain⟨p,rfl⟩:=aew Z;replace h:=jm h;obtain⟨o1,U,h⟩:=h;replace h:=jm h;obtain⟨r1,R,h⟩:=h;cases Ak U;cases Ak R;simp only[aq,du] at h;have g:=akz (nm:=nm) hc.r8 h.1;have m:=Qc h.2.1 o1;exact⟨a0h g (jl x hc h.2.2.1).v (jl y hc h.2.2.2).v m,λ_=>a0i g (jl x hc h.2.2.1).v (jl y hc h.2.2.2).v m,λ_ _ _ z=>by cases z⟩
 |.chain o1 o2 x y z,c,X,a,hc,h=>by
  replace h:=jm h;obtain⟨⟨l,o,r⟩,Z,h⟩:=h;obtain⟨p,rfl⟩:=aew Z;dsimp only at h;split at h
  .rename_i p1 p2 r s
   simp only[aq,du] at h;have g1:=akz (nm:=nm) hc.r8 h.1.1;have g2:=akz (nm:=nm) hc.r8 h.1.2;have m:lastMarks [p1,p2] [r,s]=false:=Qc h.2.1 p2;exact⟨aoo g1 g2 (jl x hc h.2.2.1).v (jl y hc h.2.2.2.1).v (jl z hc h.2.2.2.2).v m,λ_=>aop g1 g2 (jl x hc h.2.2.1).v (jl y hc h.2.2.2.1).v (jl z hc h.2.2.2.2).v m,λ_ _ _ z=>by cases z⟩
  .cases h
 |.and x y,c,X,a,hc,h=>by
  rcases ae0 h with⟨l,r,p,rfl,Z,U,R,h4⟩|⟨l,r,s,qq,p,rfl,Z,U,R⟩
  .have g1:=jl x hc U
   have g2:=jl y hc h4;have w:=aqz (pos:=p) (rest:=[]) (g1.q Z) (ane (g2.q R));exact⟨aqy g1.v (aq5 g2.v),λ_=>w.pt,λ_ _ _ _=>w⟩
  .have g1:=jl x hc U
   have g2:=jl y hc R;have w:=aqz (g1.q Z) (g2.w _ _ _ rfl);exact⟨aqy g1.v g2.v,λ_=>w.pt,λ_ _ _ _=>w⟩
 |.or x y,c,X,a,hc,h=>by
  rcases ae0 h with⟨l,r,p,rfl,Z,U,R,h4⟩|⟨l,r,s,qq,p,rfl,Z,U,R⟩
  .have g1:=jl x hc U
   have g2:=jl y hc h4;have w:=a0l (pos:=p) (rest:=[]) (g1.q Z) (ato (g2.q R));exact⟨a0j g1.v (aq5 g2.v),λ_=>w.pt,λ_ _ _ _=>w⟩
  .have g1:=jl x hc U
   have g2:=jl y hc R;have w:=a0l (g1.q Z) (g2.w _ _ _ rfl);exact⟨a0j g1.v g2.v,λ_=>w.pt,λ_ _ _ _=>w⟩
 |.not x,c,X,a,hc,h=>by
  replace h:=jm h;obtain⟨⟨o,l⟩,Z,h⟩:=h;obtain⟨p,rfl⟩:=ab4 Z;simp only[aq,du] at h;obtain⟨rfl,h⟩:=h;have g:=jl x hc h.2;exact⟨a0k g.v,λ_=>a0m (g.q h.1),λ_ _ _ z=>by cases z⟩
 |.ntr x,c,X,a,hc,h=>by
  replace h:=jm h;obtain⟨⟨o,l⟩,Z,h⟩:=h;obtain⟨p,rfl⟩:=ab4 Z;simp only[aq,du] at h;obtain⟨rfl,U,R⟩:=h;obtain⟨z,U⟩:=jx.mp U;obtain⟨p',e⟩:=Dr U;have e:l=_:=e;subst e;have g:=(jl x hc R).v;exact⟨avp g,λ_=>avq g λ_=>rfl,λ_ _ _ z=>by cases z⟩
 |.tup es,c,X,a,hc,h=>by
  replace h:=jm h;obtain⟨l,Z,h⟩:=h;obtain⟨k0,p,rfl⟩:=N7 Z;simp only[aq,du] at h;exact vq (a0n (Dc es hc h.2).1 h.1) rfl
 |.lst es,c,X,a,hc,h=>by
  replace h:=jm h;obtain⟨l,Z,h⟩:=h;obtain⟨p,rfl⟩:=aex Z;simp only[aq,du] at h;exact vq (a0o (Dc es hc h.2).1 h.1) rfl
 |.Ir es,c,X,a,hc,h=>by
  replace h:=jm h;obtain⟨l,Z,h⟩:=h;obtain⟨p,rfl⟩:=aex Z;simp only[aq,du] at h;exact vq (au2 (Dc es hc h.2).1 h.1) rfl
 |.Xz,c,X,a,hc,h=>by
  replace h:=jm h;obtain⟨⟨q,l⟩,Z,h⟩:=h;obtain⟨p,rfl⟩:=apo Z;simp only[aq,mj] at h;obtain⟨rfl,rfl⟩:=h;exact vq avf rfl
 |.ix x y,c,X,a,hc,h=>by
  replace h:=jm h;obtain⟨⟨l,r⟩,Z,h⟩:=h;obtain⟨p,rfl⟩:=Xm Z;simp only[aq] at h;exact vq (a7l (Vc hc.room) (jl x hc h.2.1).v (jl y hc h.2.2).v (aj0 h.1)) rfl
 |.cut x lo hi,c,X,a,hc,h=>by
  replace h:=jm h;obtain⟨⟨l,r⟩,Z,h⟩:=h;obtain⟨p,rfl⟩:=Xm Z;replace h:=jm h;obtain⟨⟨u,v,st⟩,U,h⟩:=h;obtain⟨p2,e⟩:=avy U;have e:r=_:=e;subst e;simp only[aq,Option.isNone_iff_eq_none] at h;obtain⟨rfl,h⟩:=h;exact vq (a04 (jl x hc h.1).v (ae1 lo hc h.2.1) (ae1 hi hc h.2.2)) rfl
 |.call f es,c,X,a,hc,h=>by
  replace h:=jm h;obtain⟨⟨n,ls⟩,Z,h⟩:=h;obtain⟨p,p',rfl⟩:=Hx Z;simp only[aq] at h;obtain⟨⟨U,R,h4⟩,h5⟩:=h;obtain⟨l,ls,rfl⟩:=T4 h4;obtain⟨fa,fd,ps,F,m,kp,b⟩:=hc.tab.fn _ _ _ (kh U);obtain⟨g1,g2⟩:=J7 hc R;obtain⟨e1,e2⟩:=Dc es hc h5;simp only[xj,aq] at e2;exact vq (s_call F (hc.room.mono x_) g1 m kp b rfl e1 (xm g2).1 (qg e2.1 _ _) (xn e2.2)) rfl
 |.make f,c,X,a,hc,h=>by
  replace h:=jm h;obtain⟨⟨n,ls⟩,Z,h⟩:=h;obtain⟨p,p',rfl⟩:=Hx Z;simp only[aq,mj] at h;obtain⟨U,R,rfl⟩:=h;obtain⟨C,fa,fd,ps,cl,M0,F,m,b,d1,d2⟩:=hc.tab.cl _ _ _ (kh U);obtain⟨g1,g2⟩:=J7 hc R;exact vq (avd M0 F (hc.room.mono (w_ (by decide))) g1 m b d1 rfl d2 (xm g2).1) rfl
 |.meth o m es,c,X,a,hc,h=>by
  replace h:=jm h;obtain⟨⟨lo,n,ap,ls,p⟩,h0,h⟩:=h;cases ab5 h0;simp only[aq,du] at h;obtain⟨⟨⟨Z,U⟩,R,h4,h7⟩,h5,h6⟩:=h;obtain⟨l,ls,rfl⟩:=T4 h7;obtain⟨C,fa,fd,ps,f,C0,Me,F,b,u,nf⟩:=hc.tab.mt _ _ _ (kh Z);obtain⟨e1,e2⟩:=Dc es hc h6;have g:=jl o hc h5;have e3:=e2;simp only[xj,aq] at e3;exact vq (ave (ci:=0) (cl:=⟨0,[]⟩) g.v C0 Me F (hc.room.mono x_) b u nf rfl e1 (qg e3.1 _ _) (xn e3.2) (apm U e2 R h4)) rfl
 |.fld o f,c,X,a,hc,h=>by
  replace h:=jm h;obtain⟨⟨l,n,p⟩,Z,h⟩:=h;cases Xn Z;simp only[aq] at h;obtain⟨t1,t2⟩:=hc.tab.fl _ _ (kh h.1.1);exact vq (a0q t1 t2 (jl o hc h.2).v (Cr h.1.2)) rfl
 |.blt b es,c,X,a,hc,h=>by
  have G:(Ax (dCN a) λq=>(decide (av0 b=some q.1)&&(Ug c q.1&&!q.2.isEmpty))&&Ij T es c q.2)=true->Got nm W X a (.blt b es):=λhh=>by clear h;replace hh:=jm hh;obtain⟨⟨n,ls⟩,Z,h⟩:=hh;obtain⟨p,p',rfl⟩:=Hx Z;simp only[aq] at h;obtain⟨⟨U,R,h4⟩,h5⟩:=h;obtain⟨l,ls,rfl⟩:=T4 h4;obtain⟨e1,e2⟩:=Dc es hc h5;exact vq (av6 hc (kh U) R e1 e2) rfl
  match b,es,h,G with
  |.isBool,.cons x .nil,h,_ =>
   obtain⟨l,p,p1,p2,rfl,R,h4,h5,h6⟩:=aps h;obtain⟨g1,g2⟩:=J7 hc R;obtain⟨g3,g4⟩:=J7 hc h4;exact vq (akd g1 (hc.mg (by decide+kernel)) (by decide+kernel) (xm g2).2.2 (xm g2).1 g3 (hc.mg (by decide+kernel)) (by decide+kernel) (xm g4).2.2 (xm g4).1 (jl x hc h6).v (qg h5 _ _) (qg rfl _ _) (xn rfl)) rfl
  |.isBool,.nil,h,G=>exact G h|.isBool,.cons _ (.cons _ _),h,G=>exact G h|.len,_,h,G=>exact G h|.tuple,_,h,G=>exact G h|.dict,_,h,G=>exact G h|.toInt,_,h,G=>exact G h|.list,_,h,G=>exact G h|.max,_,h,G=>exact G h|.min,_,h,G=>exact G h|.all,_,h,G=>exact G h|.Lg,.nil,h,G=>exact G h|.Lg,.cons _ (.cons _ _),h,G=>exact G h
  |.Lg,.cons x .nil,h,_ =>
   obtain⟨l,p,p1,p2,p3,rfl,h5,h6,h7,h8⟩:=apt (show av2 c "len" "set" a (yq T x c)=true from h);obtain⟨g1,g2⟩:=J7 hc h5;obtain⟨g3,g4⟩:=J7 hc h6;exact vq (akk hc.r8 g1 (hc.mg (by decide+kernel)) (by decide+kernel) (xm g2).2.2 (xm g2).1 g3 (hc.mg (by decide+kernel)) (by decide+kernel) (xm g4).2.2 (xm g4).1
    (Xa (jl x hc h8).v aeb (qg h7 _ _)) (qg rfl _ _) (xn rfl) (qg h7 _ _) (xn rfl)) rfl
 |.bm m o es,c,X,a,hc,h=>by
  replace h:=jm h;obtain⟨⟨lo,n,ap,ls,p⟩,h0,h⟩:=h;cases ab5 h0;simp only[aq,du] at h;obtain⟨⟨⟨Z,U⟩,R,h4,q0⟩,h5,h6⟩:=h;obtain⟨l,ls,rfl⟩:=T4 q0;obtain⟨e1,e2⟩:=Dc es hc h6;have e3:=e2;simp only[xj,aq] at e3;have qk:((backTo p (starEach (l::ls) X.env)).all (λx=>!x.1)&&(backToKw p (keywordEach [] X.env)).all (λx=>x.1.isSome)&&decide ((l::ls).length+([]:List Keyword).length+(if([]:List Keyword).isEmpty then 0 else 1)<30))=true:=by rw[Tw e2];simp[keywordEach,backToKw];simp at R;exact b_ R (by decide)
  have g:=jl o hc h5;cases m with
  |append=>cases Z;exact vq (aj8 (T := "list") (id := "list.append") (fun ι H M x v S r t=>ty_list S r t) PySem.F.plainAttrs_list PySem.F.slot_list_append PySem.F.type_list_append aj9 g.v e1 (Cr U) qk h4 (qg e3.1 _ _) (xn e3.2)) rfl
  |extend=>cases Z;exact vq (aj8 (T := "list") (id := "list.extend") (fun ι H M x v S r t=>ty_list S r t) PySem.F.plainAttrs_list PySem.F.slot_list_extend PySem.F.type_list_extend aka g.v e1 (Cr U) qk h4 (qg e3.1 _ _) (xn e3.2)) rfl
  |setdefault=>cases Z;exact vq (aj8 (T := "dict") (id := "dict.setdefault") (fun ι H M x v S r t=>ty_dict S r t) PySem.F.plainAttrs_dict PySem.F.slot_dict_setdefault PySem.F.type_dict_setdefault (avm (Vc hc.room)) g.v e1 (Cr U) qk h4 (qg e3.1 _ _) (xn e3.2)) rfl
  |index=>cases Z;exact vq (aj8 (T := "list") (id := "list.index") (fun ι H M x v S r t=>ty_list S r t) PySem.F.plainAttrs_list PySem.F.slot_list_index PySem.F.type_list_index (aph hc.r8) g.v e1 (Cr U) qk h4 (qg e3.1 _ _) (xn e3.2)) rfl
  |get=>cases Z;exact vq (aj8 (T := "dict") (id := "dict.get") (fun ι H M x v S r t=>ty_dict S r t) PySem.F.plainAttrs_dict PySem.F.slot_dict_get PySem.F.type_dict_get (a1d (Vc hc.room)) g.v e1 (Cr U) qk h4 (qg e3.1 _ _) (xn e3.2)) rfl
 |.comp v j t it e,c,X,a,hc,h=>by
  replace h:=jm h;obtain⟨⟨q6,gs,sc⟩,Z,h⟩:=h;obtain⟨p,rfl⟩:=T3 Z;replace h:=jm h;obtain⟨⟨tg,qv,q5,as⟩,U,h⟩:=h;cases Ak U;simp only[aq,mj] at h;obtain⟨⟨R,rfl⟩,h4,h5⟩:=h;obtain⟨q1,q2,B,hB,hg,q3,q4⟩:=Oa hc R;cases q2;exact vq (avc B hc.calm (Ob it hc h4) hg (λC fp s H=>(jl e (hB C fp s H) h5).v) q1 q3 q4) rfl
 |.yz v j t it i e,c,X,a,hc,h=>by
  replace h:=jm h;obtain⟨⟨q6,gs,sc⟩,Z,h⟩:=h;obtain⟨p,rfl⟩:=T3 Z;replace h:=jm h;obtain⟨⟨tg,qv,q5,as⟩,U,h⟩:=h;cases Ak U;replace h:=jm h;obtain⟨d,h6,h⟩:=h;cases Ak h6;simp only[aq] at h;obtain⟨⟨R,h7⟩,h4,h8,h5⟩:=h;obtain⟨q1,q2,B,hB,hg,q3,q4⟩:=Oa hc R;cases q2;exact vq (aj4 B hc.calm (Ob it hc h4) hg (λC fp s H=>(jl i (hB C fp s H) h8).q h7) (λC fp s H=>(jl e (hB C fp s H) h5).v) q1 q3 q4) rfl
theorem Dc:∀(Z:Dd){c:Ctx}{X:Cx}{a:Ya},De T nm W k c X->Ij T Z c a=true->PA X a (Xv nm W X.K Z)/\xj a=true
 |.nil,c,X,a,hc,h=>by
  cases mj.mp h;exact⟨aeb,rfl⟩
 |.cons e Z,c,X,a,hc,h=>by
  cases a with
  |nil=>cases h
  |cons l U =>
   replace h:(noStar l&&(yq T e c l&&Ij T Z c U))=true:=h;simp only[aq] at h;obtain⟨R,G⟩:=Dc Z hc h.2.2;exact⟨Xa (jl e hc h.2.1).v R (qg h.1 _ _),by simp only[xj,aq];exact⟨h.1,G⟩⟩
theorem ae1:∀(e:OEx){c:Ctx}{X:Cx}{a:Option Expr},De T nm W k c X->av3 T e c a=true->PO X a (tO nm W X.K e)
 |.none,c,X,a,hc,h=>by
  cases Option.isNone_iff_eq_none.mp h;exact ao1
 |.some e,c,X,a,hc,h=>by
  replace h:=jm h;obtain⟨l,rfl,h⟩:=h;exact ao2 (jl e hc h).v
theorem Ob:∀(it:Lh){c:Ctx}{X:Cx}{Z a:Expr},De T nm W k c X->apu T it c Z a=true->PI X Z a (tI nm W X.K it)
 |.val e,c,X,Z,a,hc,h=>a0w (jl e hc h).v
 |.T6 e,c,X,Z,a,hc,h=>by
  replace h:=jm h;obtain⟨⟨n,ls⟩,h1,h⟩:=h;obtain⟨p,p',rfl⟩:=Hx h1;replace h:=jm h;obtain⟨l,U,h⟩:=h;cases Ak U;simp only[aq,du] at h;obtain⟨⟨rfl,R⟩,G,h5⟩:=h;exact a0x (J7 hc R).1 (hc.mg (by decide+kernel)) (jl e hc h5).v G
 |.enm e,c,X,Z,a,hc,h=>by
  replace h:=jm h;obtain⟨⟨n,ls⟩,h1,h⟩:=h;obtain⟨p,p',rfl⟩:=Hx h1;replace h:=jm h;obtain⟨l,U,h⟩:=h;cases Ak U;simp only[aq,du] at h;obtain⟨⟨h6,rfl,R⟩,G,h5⟩:=h;obtain⟨ts,h7⟩:=jx.mp h6;obtain⟨k0,pt,rfl⟩:=N7 h7;exact a1a (J7 hc R).1 (hc.mg (by decide+kernel)) (jl e hc h5).v G
 |.zip es,c,X,Z,a,hc,h=>by
  replace h:=jm h;obtain⟨⟨n,ls⟩,h1,h⟩:=h;obtain⟨p,p',rfl⟩:=Hx h1;simp only[aq,du] at h;obtain⟨⟨h6,rfl,R,G⟩,h7⟩:=h;obtain⟨l,ls,rfl⟩:=T4 G;obtain⟨e1,e2⟩:=Dc es hc h7;obtain⟨ts,h9⟩:=jx.mp h6;obtain⟨k0,pt,rfl⟩:=N7 h9;simp only[xj,aq] at e2;obtain⟨f1,f2⟩:=e2;exact a1b (J7 hc R).1 (hc.mg (by decide+kernel)) e1 (qg f1 _ _) (xn f2)
 |.vals e,c,X,Z,a,hc,h=>by
  replace h:=jm h;obtain⟨⟨lo,n,ap,ls,p⟩,h0,h⟩:=h;cases ab5 h0;simp only[aq,du,mj] at h;obtain⟨⟨⟨rfl,U⟩,G,rfl⟩,h5⟩:=h;exact avo (jl e hc h5).v (Cr U) G
end
end
noncomputable def a1o(e:Ex):Option {b:Bool // (∃v j t it x,e=.comp v j t it x)\/∃v j t it i x,e=.yz v j t it i x}:=match e with|.comp ..=>some ⟨true,.inl ⟨_,_,_,_,_,rfl⟩⟩|.yz ..=>some ⟨true,.inr ⟨_,_,_,_,_,_,rfl⟩⟩|_=>none
def av7(T:Tab)(c:Ctx)(l:Lv)(e:Ex)(Z v:Expr):Bool :=
 match l with
 |.tg t=>(tgB c 0 t Z&&((Oz v&&((K8 Z).isSome||aq0 v))||(match t with|.name _=>(Z8 v).isSome&&(a1o e).isSome|_=>false)))&&yq T e c v
 |.sub o i=>Ax (aks Z) λq=>Xb q.2&&(yq T e c v&&(yq T o c q.1&&yq T i c q.2))
 |.fld o f=>Ax (aku Z) λq=>(Oz v&&flB T.Lw f q.2.1)&&(yq T e c v&&yq T o c q.1)
noncomputable def a1p(a:Stmt):Option (List Expr×Expr):=Option.map Subtype.val (α:={q:List Expr×Expr // ∃p,a=.Assign q.1 q.2 p}) (match a with|.Assign t v p=>some ⟨(t,v),p,rfl⟩|_=>none)
noncomputable def a1q(a:Stmt):Option Expr:=Option.map Subtype.val (α:={q:Expr // ∃p,a=.Expr q p}) (match a with|.Expr v p=>some ⟨v,p,rfl⟩|_=>none)
noncomputable def a1r(a:Stmt):Option (Expr×List Stmt×List Stmt):=Option.map Subtype.val (α:={q:Expr×List Stmt×List Stmt // ∃p,a=.If q.1 q.2.1 q.2.2 p}) (match a with|.If t l r p=>some ⟨(t,l,r),p,rfl⟩|_=>none)
noncomputable def ak2(a:Stmt):Option (Expr×List Stmt×List Stmt):=Option.map Subtype.val (α:={q:Expr×List Stmt×List Stmt // ∃p,a=.While q.1 q.2.1 q.2.2 p}) (match a with|.While t l r p=>some ⟨(t,l,r),p,rfl⟩|_=>none)
noncomputable def a1s(a:Stmt):Option (Expr×Expr×List Stmt×List Stmt):=Option.map Subtype.val (α:={q:Expr×Expr×List Stmt×List Stmt // ∃p,a=.For q.1 q.2.1 q.2.2.1 q.2.2.2 p}) (match a with|.For t i l r p=>some ⟨(t,i,l,r),p,rfl⟩|_=>none)
noncomputable def a1t(a:Stmt):Option (Option Expr):=Option.map Subtype.val (α:={q:Option Expr // ∃p,a=.Return q p}) (match a with|.Return v p=>some ⟨v,p,rfl⟩|_=>none)
def apv(h:a1p a=some (t,v)):∃p,a=.Assign t v p:=(Vq h :)
def apw(h:a1q a=some v):∃p,a=.Expr v p:=(Vq h :)
def apx(h:a1r a=some (t,l,r)):∃p,a=.If t l r p:=(Vq h :)
def ae2(h:ak2 a=some (t,l,r)):∃p,a=.While t l r p:=(Vq h :)
def apy(h:a1s a=some (t,i,l,r)):∃p,a=.For t i l r p:=(Vq h :)
def apz(h:a1t a=some v):∃p,a=.Return v p:=(Vq h :)
mutual
def av8(T:Tab):Af->Ctx->Stmt->Bool
 |.asg l e,c,a=>Ax (a1p a) λq=>Ax (Tz q.1) λt=>av7 T c l e t q.2
 |.expr e,c,a=>Ax (a1q a) λv=>Oz v&&yq T e c v
 |.iff t x y,c,a=>Ax (a1r a) λq=>N8 q.1&&(yq T t c q.1&&(La T x c q.2.1&&La T y c q.2.2))
 |.whl (.tru y) x,c,a=>Ax (ak2 a) λq=>((K8 q.1).isSome&&q.2.2.isEmpty)&&(yq T y c q.1&&La T x c q.2.1)
 |.whl t x,c,a=>Ax (ak2 a) λq=>(N8 q.1&&q.2.2.isEmpty)&&(yq T t c q.1&&La T x c q.2.1)
 |.for_ t it x,c,a=>Ax (a1s a) λq=>(tgB c 0 t q.1&&(Ge q.2.1&&q.2.2.2.isEmpty))&&(apu T it c q.1 q.2.1&&La T x c q.2.2.1)
 |.ret e,c,a=>Ax (a1t a) λv=>Ax v (yq T e c)
 |.raise,_,_=>true
def La(T:Tab):m7->Ctx->List Stmt->Bool
 |.nil,_,a=>a.isEmpty|.cons s r,c,a=>match a with|st::rest=>av8 T s c st&&La T r c rest|_=>false
end
noncomputable def swB(c:Ctx)(t:Str)(pt Z:Pos)(G:Scope):Bool:=(c.sc.lookup t==some NameKind.local&&pt.line==Z.line)&&!(G.names.any λy=>y.1==t&&(y.2==.local||y.2==.cell))
def ab8(Z:De T nm W k c X):swapsWith (.ListComp elt gs sc vp) (some (.Name t pt)) l X.env=pure (swB c t pt vp sc):=by
 have b:X.env.blockKind=.function:=by unfold Env.blockKind;rw[Z.kd];rfl
 show(pure (X.env.blockKind==.function&&X.env.kindOf t==some .local&&pt.line==vp.line&&!(sc.names.any λ(n,k)=>n==t&&(k==.local||k==.cell))):Sem Bool)=_;rw[b];unfold Env.kindOf;rw[Z.sc];simp[swB]
def ak3(Z:De T nm W k c X)(ht:tgB c 0 (.name i) tg=true)(hv:(Z8 v).isSome=true)(hw:(a1o e).isSome=true)(h:yq T e c v=true):PS X (.Assign [tg] v p) (tS nm W X.K (.asg (.tg (.name i)) e)):=by
 have nd:X.N.Nodup:=by rw[Z.N];exact Z.nd
 obtain⟨⟨qq,gs,sc⟩,hq⟩:=jx.mp hv;obtain⟨y,py,rfl,hy,_⟩:=ab6 (nm:=nm) (W:=W) (k:=k) (T:=T) Z ht;obtain⟨⟨_,co⟩,_⟩:=jx.mp hw;obtain⟨vp,rfl⟩:=T3 hq;have U:=λl=>ab8 (T:=T) (nm:=nm) (W:=W) (k:=k) Z (elt:=qq) (gs:=gs) (sc:=sc) (vp:=vp) (pt:=py) (t:=y) (l:=l)
 cases hs:swB c y py vp sc with
 |false =>
  rw[hs] at U;exact aj1 (jl e Z h).v (aez Z ht).1 (U p.line) rfl rfl
 |true =>
  rw[hs] at U;simp only[swB,aq] at hs;have hl:X.env.scope.names.lookup y=some .local:=by rw[Z.sc];have:=hs.1.1;simpa using this
  rcases co with⟨v,j,t,it,x,rfl⟩|⟨v,j,t,it,i',x,rfl⟩
  .replace h:=jm h
   obtain⟨⟨q5,q0,qk⟩,h1,h⟩:=h;cases h1;replace h:=jm h;obtain⟨⟨tg,R,qv,as⟩,h2,h⟩:=h;cases Ak h2;simp only[aq,mj] at h;obtain⟨⟨h3,rfl⟩,h4,h5⟩:=h;obtain⟨q1,q2,B,hB,hg,q3,q4⟩:=Oa Z h3;cases q2;exact agd B Z.calm (Ob it Z h4) hg (λC G s H=>(jl x (hB C G s H) h5).v) q1 q3 q4 nd hy hl (U p.line)
  .replace h:=jm h
   obtain⟨⟨q5,q0,qk⟩,h1,h⟩:=h;cases h1;replace h:=jm h;obtain⟨⟨tg,R,qv,as⟩,h2,h⟩:=h;cases Ak h2;replace h:=jm h;obtain⟨d,h6,h⟩:=h;cases Ak h6;simp only[aq] at h;obtain⟨⟨h3,h7⟩,h4,h8,h5⟩:=h;obtain⟨q1,q2,B,hB,hg,q3,q4⟩:=Oa Z h3;cases q2;exact Zn B Z.calm (Ob it Z h4) hg (λC G s H=>(jl i' (hB C G s H) h8).q h7) (λC G s H=>(jl x (hB C G s H) h5).v) q1 q3 q4 nd hy hl (U p.line)
section
variable{T:Tab}{nm:Nm}{W:Ks}{k:Nat}
def ap0(G:De T nm W k c X)(h:av7 T c l e tg v=true):PS X (.Assign [tg] v p) (tS nm W X.K (.asg l e)):=by
 cases l with
 |tg t =>
  simp only[av7,aq,Bool.or_eq_true] at h;obtain⟨⟨h1,h2⟩,R⟩:=h;rcases h2 with⟨Z,U⟩|Z
  .have g:=aez (nm:=nm) G h1
   have sh:(∃n q,tg=.Name n q)\/∃ts k0 q,tg=.Tuple ts k0 q:=by
    cases t with
    |name i =>
     obtain⟨n,z1,_⟩:=jm h1;exact .inl ⟨n,Dr z1⟩
    |names is =>
     obtain⟨ts,z1,_⟩:=jm h1;exact .inr ⟨ts,N7 z1⟩
   rcases sh with⟨n,q,rfl⟩|⟨ts,k0,q,rfl⟩
   .exact aj1 (jl e G R).v g.1 (Ti Z _ _ _) rfl rfl
   .have w:aq0 v=true:=by
     rcases U with U|U
     .cases U
     .exact U
    have w2:swappedStores [.Tuple ts k0 q] v X.env=pure none:=by cases v<;>first|rfl|(cases w;done)
    exact aj1 (jl e G R).v g.1 (Ti Z _ _ _) w2 rfl
  .cases t with
   |name i=>rw[aq] at Z;exact ak3 G h1 Z.1 Z.2 R|names _=>cases Z
 |sub o i =>
  replace h:=jm (show Ax (aks tg) _=true from h);obtain⟨⟨lo,li⟩,h0,h⟩:=h;obtain⟨p',rfl⟩:=Xm h0;simp only[aq] at h;obtain⟨h2,R,Z,U⟩:=h;refine aj6 (Vc G.room) (jl e G R).v (jl o G Z).v (jl i G U).v λv=>?_
  cases li<;>first|rfl|(cases h2;done)
 |fld o f =>
  replace h:=jm (show Ax (aku tg) _=true from h);obtain⟨⟨lo,n,p'⟩,h0,h⟩:=h;cases Xn h0;simp only[aq] at h;obtain⟨⟨h1,h2⟩,R,Z⟩:=h;obtain⟨t1,t2⟩:=G.tab.fl _ _ (kh h2);exact aj7 t1 t2 (jl e G R).v (jl o G Z).v h1
mutual
theorem ap1:∀(s:Af){c:Ctx}{X:Cx}{a:Stmt},De T nm W k c X->c.fn=true->av8 T s c a=true->PS X a (tS nm W X.K s)
 |.asg l e,c,X,a,hc,hf,h=>by
  replace h:=jm h;obtain⟨⟨ts,v⟩,Z,h⟩:=h;obtain⟨p,rfl⟩:=apv Z;replace h:=jm h;obtain⟨t,G,h⟩:=h;cases Ak G;exact ap0 hc h
 |.expr e,c,X,a,hc,hf,h=>by
  replace h:=jm h;obtain⟨v,Z,h⟩:=h;obtain⟨p,rfl⟩:=apw Z;simp only[aq] at h;exact au7 (jl e hc h.2).v (Jz h.1 _ _ _)
 |.iff t x y,c,X,a,hc,hf,h=>by
  replace h:=jm h;obtain⟨⟨q,l,r⟩,Z,h⟩:=h;obtain⟨p,rfl⟩:=apx Z;simp only[aq] at h;exact a0t ((jl t hc h.2.1).q h.1) (Fy x hc hf h.2.2.1) (Fy y hc hf h.2.2.2)
 |.whl t x,c,X,a,hc,hf,h=>by
  by_cases ht:∃y,t=.tru y
  .obtain⟨y,rfl⟩:=ht
   replace h:=jm (show Ax (ak2 a) _=true from h);obtain⟨⟨q,l,r⟩,Z,h⟩:=h;obtain⟨p,rfl⟩:=ae2 Z;simp only[aq,mj] at h;obtain⟨⟨G,rfl⟩,R,U⟩:=h;obtain⟨z,G⟩:=jx.mp G;obtain⟨p',rfl⟩:=Dr G;exact aq1 (hc.fnl hf).2 (aq7 (jl y hc R).v λ_=>rfl) (Fy x hc hf U)
  replace h:Ax (ak2 a) (λq=>(N8 q.1&&q.2.2.isEmpty)&&(yq T t c q.1&&La T x c q.2.1))=true:=by cases t<;>first|exact h|exact absurd ⟨_,rfl⟩ ht
  replace h:=jm h;obtain⟨⟨q,l,r⟩,Z,h⟩:=h;obtain⟨p,rfl⟩:=ae2 Z;simp only[aq,mj] at h;obtain⟨⟨G,rfl⟩,R,U⟩:=h;exact aq1 (hc.fnl hf).2 ((jl t hc R).q G) (Fy x hc hf U)
 |.for_ t it x,c,X,a,hc,hf,h=>by
  replace h:=jm h;obtain⟨⟨tg,qq,l,r⟩,Z,h⟩:=h;obtain⟨p,rfl⟩:=apy Z;simp only[aq,mj] at h;obtain⟨⟨G,R,rfl⟩,U,h5⟩:=h;exact a0v (hc.fnl hf).2 hc.calm (Ob it hc U) (aez hc G).1 (Fy x hc hf h5) R
 |.ret e,c,X,a,hc,hf,h=>by
  replace h:=jm h;obtain⟨v,Z,h⟩:=h;obtain⟨p,rfl⟩:=apz Z;replace h:=jm h;obtain⟨w,rfl,h⟩:=h;exact a0s (jl e hc h).v
 |.raise,c,X,a,hc,hf,h=>ape
theorem Fy:∀(s:m7){c:Ctx}{X:Cx}{a:List Stmt},De T nm W k c X->c.fn=true->La T s c a=true->Nr X a (tSs nm W X.K s)
 |.nil,c,X,a,hc,hf,h=>by
  cases mj.mp h;exact au8
 |.cons s r,c,X,a,hc,hf,h=>by
  cases a with
  |nil=>cases h
  |cons G Z =>
   replace h:(av8 T s c G&&La T r c Z)=true:=h;simp only[aq] at h;exact aor (ap1 s hc hf h.1) (Fy r hc hf h.2)
end
end
structure Def where
 x:Str
 qual:Str
 N:List Str
 ps:List Str
noncomputable def scB(N G:Yf)(Z:Scope):Bool :=
 (decide (Z.kind=.function)&&(!Z.isCoroutine&&!Z.isGenerator))&&((decide N.Nodup&&decide (N.take G.length=G)) &&
 (G.all (λx=>Z.names.lookup x==some .local||Z.names.lookup x==some .cell)&&Z.names.all (λy=>!(y.2==NameKind.free))))
def av9(h:scB N ps sc=true):Qv N ps sc:=by simp only[scB,aq,du,Bool.not_eq_true',uv] at h;obtain⟨⟨h1,h2,R⟩,⟨G,U⟩,h6,Z⟩:=h;exact⟨h1,h2,R,G,U,λx m=>by have:=h6 x m;simpa using this,λy m=>by have:=Z y m;simpa using this⟩
def agp(T:Tab)(d:Def)(F:MW.Fn)(Z:Stmt):Bool :=
 (scB d.N d.ps (yp Z)&&(decide (F.np=d.ps.length)&&decide (F.ns=d.N.length)))&&La T F.body ⟨d.N,(yp Z).names,true⟩ (Dn Z)
set_option tactic.hygienic true in
def ap2{F:MW.Fn}(h:F.run W ds M=.ok d U):ds.length=F.np/\∃Y Z,F.body.den W (ds.map some++List.replicate (F.ns-F.np) none) M=.ok (Y,Z) U/\(Y=.ret d\/(Y=.next/\d=.non)):=by
 unfold MW.Fn.run at h;split at h
 .rename_i J
  obtain⟨⟨Y,Z⟩,C,G,e⟩:=dz h;refine⟨J,Y,Z,?_⟩;cases Y with
  |ret z=>cases e;exact⟨G,.inl rfl⟩|next=>cases e;exact⟨G,.inr ⟨rfl,rfl⟩⟩|brk=>cases e|cont=>cases e
 .cases h
def awa{Z:MW.Prog}(U:Fun K d.x d.qual st f fd)(hF:Z.fns[i]?=some F)(h:agp T d F st=true)(hT:akq T nm ⟨Z.call n,Z.cls⟩ k P w K mg base):Ea P w K mg base Xu (k+17) f fd d.ps (spF nm ⟨Z.call (n+1),Z.cls⟩ K F.np i):=by
 simp only[agp,aq,du] at h;obtain⟨⟨h1,h2,h3⟩,h4⟩:=h;have S:=av9 h1;have go:∀R M d' M',MW.Ks.call ⟨Z.call (n+1),Z.cls⟩ i R M=.ok d' M'->F.run ⟨Z.call n,Z.cls⟩ R M=.ok d' M':=λR M d' M' e=>by have e:Z.call (n+1) i R M=.ok d' M':=e;unfold MW.Prog.call at e;rw[hF] at e;exact e
 refine U.ok (k:=k+16) S (λvs H Q E ⟨ι,M,R,d',M',_,r,l,e,_⟩=>by rw[<- r.length,l,h2]) (λqk A G s H vs Q E hr z_=>?_);obtain⟨ι,M,R,d',M',SM,r,l,e,q⟩:=z_;have hc:De T nm ⟨Z.call n,Z.cls⟩ k ⟨d.N,(yp st).names,true⟩ (abo Xu P w K mg base d.N d.qual (yp st) f qk A G s H E).nox :=
  ⟨rfl,S.nd,rfl,S.kind,rfl,hr,λ_=>⟨λ_=>rfl,PassesOwn.never⟩,hT⟩
 refine⟨_,Fy F.body hc rfl h4,?_⟩;obtain⟨hl,fl,qv,e1,e2⟩:=ap2 (go _ _ _ _ e);refine⟨ι,_,M,fl,qv,M',SM,?_,e1,λqq H' q0 le S' R'=>?_⟩
 .unfold L2.start
  exact(qj.ajy r).append (qj.ajx _ (by rw[List.length_replicate,h3,<- r.length,l]))
 .rcases e2 with rfl|⟨rfl,rfl⟩
  .exact λv rv=>q qq H' v le S' rv
  .exact q qq H' _ le S' .non
theorem ae3{nm:Nm}{P:Program}{w:World}{K:Fg}{mg:Zs}{base:Heap}{IR:MW.Prog}{T:Tab}{D:Nat->Def}{st:Nat->Stmt}{fa:Nat->Addr}{fd:Nat->FuncData}
 (U:∀i,i<IR.fns.length->Fun K (D i).x (D i).qual (st i) (fa i) (fd i)) (h:∀i F,IR.fns[i]?=some F->agp T (D i) F (st i)=true)
 (R:∀n,(∀i F,IR.fns[i]?=some F->Ea P w K mg base Xu (17*n) (fa i) (fd i) (D i).ps (spF nm ⟨IR.call n,IR.cls⟩ K F.np i))->akq T nm ⟨IR.call n,IR.cls⟩ (17*n) P w K mg base) :
 ∀n i F,IR.fns[i]?=some F->Ea P w K mg base Xu (17*n) (fa i) (fd i) (D i).ps (spF nm ⟨IR.call n,IR.cls⟩ K F.np i)
 |0,i,F,hF=>⟨(λvs H Q E ⟨ι,M,ds,d',M',_,r,l,e,_⟩=>by cases e),λA Z s H G us vs Q E hr he hb hv ⟨ι,M,ds,d',M',_,r,l,e,_⟩=>by cases e⟩
 |n+1,i,F,hF=>awa (U i (ak.mp hF).1) hF (h i F hF) (R n (ae3 U h R n))
noncomputable def awb(s:Str):Bool:=s.cps[0]?==some 0
def ak4(Z:Yf):Bool:=decide Z.Nodup&&Z.all λs=>!awb s
noncomputable def aab(Z:Yf)(i:Nat):Str:=match Z[i]? with|some s=>s|none=>⟨#[0,0,i]⟩
def ak5(h:ak4 Lw=true)(i j:Nat)(e:aab Lw i=aab Lw j):i=j:=by
 simp only[ak4,aq,du,uv] at h;have Z:∀k,awb ⟨#[0,0,k]⟩=true:=λk=>rfl
 unfold aab at e;cases hi:Lw[i]? with
 |some a =>
  rw[hi] at e;cases hj:Lw[j]? with
  |some b =>
   rw[hj] at e;have e:a=b:=e;subst e;obtain⟨l1,G⟩:=ak.mp hi;obtain⟨R,U⟩:=ak.mp hj;exact(xq h.1).mp (G.trans U.symm)
  |none =>
   rw[hj] at e;have e:a=⟨#[0,0,j]⟩:=e;have:=h.2 a (bf hi);rw[e,Z] at this;cases this
 |none =>
  rw[hi] at e;cases hj:Lw[j]? with
  |some b =>
   rw[hj] at e;have e:(⟨#[0,0,i]⟩:Str)=b:=e;have:=h.2 b (bf hj);rw[<- e,Z] at this;cases this
  |none =>
   rw[hj] at e;have e:(⟨#[0,0,i]⟩:Str)=⟨#[0,0,j]⟩:=e;simpa using e
def awc(Z:List (Option Addr))(G:Yf)(h:ak4 G=true):Nm:=⟨λc=>(Z[c]?).join,aab G,ak5 h⟩
def ak6(Z:Yf)(x:Str):Bool:=!(Z.contains x)&&!awb x
def ak7(h:ak6 Lw x=true)(i:Nat):aab Lw i≠x:=λe=>by
 simp only[ak6,aq,Bool.not_eq_true'] at h;unfold aab at e;cases hi:Lw[i]? with
 |some a =>
  rw[hi] at e;have e:a=x:=e;rw[<- e] at h;have:=List.contains_iff_mem.mpr (bf hi);rw[this] at h;cases h.1
 |none =>
  rw[hi] at e;have e:(⟨#[0,0,i]⟩:Str)=x:=e;rw[<- e] at h;cases h.2
section
variable(K:Fg)(mg:Zs)
def Xo:List Def->List Stmt->List Addr->List FuncData->Prop
 |d::ds,s::ss,a::as,f::fs=>(Fun K d.x d.qual s a f/\Binds K f d.ps [])/\Xo ds ss as fs|[],[],[],[]=>True|_,_,_,_=>False
def O2:List (Option (Str×Nat))->List Addr->Prop
 |some p::r,a::as=>mg p.1=some (.ref a)/\O2 r as|none::r,_::as=>O2 r as|_,_=>True
def aac(C:Addr)(Z:List (Str×Nat))(G:X1):List (Nat×Nat)->Prop
 |q::r=>(∃p a,Z[q.1]?=some p/\G[q.2]?=some a/\Meth K C p.1 a)/\aac C Z G r|[]=>True
def Xp(C:Addr):List Str->Prop
 |x::r=>Dz K C x/\Xp C r|[]=>True
structure ClF(T:Tab)(Im:X1)(x:Str)(C:Addr)(cl:MW.Cl):Prop where
 mg:mg x=some (.ref C)
 cs:Cls K C
 ini:∃f,Im[cl.init]?=some f/\Mk K C f
 me:aac K C T.mts Im cl.meths
 na:Xp K C T.Lw
def J8(T:Tab)(Z:X1):List (Option (Str×Nat))->List (Option Addr)->List MW.Cl->Prop
 |some p::r,some C::cs,cl::cls=>ClF K mg T Z p.1 C cl/\J8 T Z r cs cls|none::r,none::cs,_::cls=>J8 T Z r cs cls|[],[],[]=>True|_,_,_=>False
def Xq:List (Str×Int)->Prop
 |p::r=>(∃t,mg p.1=some (.int p.2 t))/\Xq r|[]=>True
def AllB:List Str->Prop
 |x::r=>mg x=none/\AllB r|[]=>True
end
theorem Xo.get{K:Fg}:∀{Z:List Def}{G:List Stmt}{as:X1}{fs:List FuncData}{i:Nat}{d:Def},Xo K Z G as fs->Z[i]?=some d->∃s a f,G[i]?=some s/\as[i]?=some a/\fs[i]?=some f/\Fun K d.x d.qual s a f/\Binds K f d.ps []
 |d::Z,s::G,a::as,f::fs,0,d',h,e=>by cases e;exact⟨s,a,f,rfl,rfl,rfl,h.1⟩
 |d::Z,s::G,a::as,f::fs,i+1,d',h,e=>by
  obtain⟨s',R,f',h1,h2,h3,U⟩:=Xo.get (i:=i) h.2 (by simpa using e);exact⟨s',R,f',by simpa using h1,by simpa using h2,by simpa using h3,U⟩
theorem O2.get{mg:Zs}:∀{l:List (Option (Str×Nat))}{as:X1}{i:Nat}{p:Str×Nat}{a:Addr},O2 mg l as->l[i]?=some (some p)->as[i]?=some a->mg p.1=some (.ref a)
 |some q::l,b::as,0,p,a,h,e,e2=>by cases e;cases e2;exact h.1|none::l,b::as,0,p,a,h,e,e2=>by cases e|some q::l,b::as,i+1,p,a,h,e,e2=>O2.get (i:=i) h.2 (by simpa using e) (by simpa using e2)|none::l,b::as,i+1,p,a,h,e,e2=>O2.get (i:=i) (l:=l) (as:=as) h (by simpa using e) (by simpa using e2)
theorem aac.get{K:Fg}{C:Addr}{Z:List (Str×Nat)}{G:X1}:∀{l:List (Nat×Nat)}{q:Nat×Nat},aac K C Z G l->q∈l->∃p a,Z[q.1]?=some p/\G[q.2]?=some a/\Meth K C p.1 a
 |q'::l,q,h,m=>by
  rcases dh.mp m with z|z
  .rw[z];exact h.1
  .exact aac.get h.2 z
theorem Xp.get{K:Fg}{C:Addr}:∀{l:Yf}{x:Str},Xp K C l->x∈l->Dz K C x
 |y::l,x,h,m=>by
  rcases dh.mp m with z|z
  .rw[z];exact h.1
  .exact Xp.get h.2 z
theorem J8.get{K:Fg}{mg:Zs}{T:Tab}{Im:X1}:∀{l:List (Option (Str×Nat))}{cs:List (Option Addr)}{cls:List MW.Cl}{c:Nat}{p:Str×Nat},J8 K mg T Im l cs cls->l[c]?=some (some p)->∃C G,cs[c]?=some (some C)/\cls[c]?=some G/\ClF K mg T Im p.1 C G
 |some q::l,some C::cs,G::cls,0,p,h,e=>by cases e;exact⟨C,G,rfl,rfl,h.1⟩
 |some q::l,some C::cs,G::cls,c+1,p,h,e=>by
  obtain⟨U,Z,h1,h2,R⟩:=J8.get (c:=c) h.2 (by simpa using e);exact⟨U,Z,by simpa using h1,by simpa using h2,R⟩
 |none::l,none::cs,G::cls,0,p,h,e=>by cases e
 |none::l,none::cs,G::cls,c+1,p,h,e=>by
  obtain⟨U,Z,h1,h2,R⟩:=J8.get (l:=l) (cs:=cs) (cls:=cls) (c:=c) h (by simpa using e);exact⟨U,Z,by simpa using h1,by simpa using h2,R⟩
theorem J8.at{K:Fg}{mg:Zs}{T:Tab}{Z:X1}:∀{l:List (Option (Str×Nat))}{cs:List (Option Addr)}{cls:List MW.Cl}{c:Nat}{C:Addr},J8 K mg T Z l cs cls->cs[c]?=some (some C)->Cls K C/\Xp K C T.Lw
 |some q::l,some C::cs,cl::cls,0,p,h,e=>by cases e;exact⟨h.1.cs,h.1.na⟩|some q::l,some C::cs,cl::cls,c+1,p,h,e=>J8.at (c:=c) h.2 (by simpa using e)|none::l,none::cs,cl::cls,0,p,h,e=>by cases e|[],[],_,_,_,_,e=>by simp at e|[],_::_,[],_,_,h,_=>h.elim|[],_::_,_::_,_,_,h,_=>h.elim|none::l,none::cs,cl::cls,c+1,p,h,e=>J8.at (l:=l) (cs:=cs) (cls:=cls) (c:=c) h (by simpa using e)
theorem Xq.get{mg:Zs}:∀{l:List (Str×Int)}{x:Str}{i:Int},Xq mg l->(x,i)∈l->∃t,mg x=some (.int i t)
 |q::l,x,i,h,m=>by
  rcases dh.mp m with z|z
  .rw[<- z] at h;exact h.1
  .exact Xq.get h.2 z
theorem AllB.get{mg:Zs}:∀{l:Yf}{x:Str},AllB mg l->x∈l->mg x=none
 |q::l,x,h,m=>by
  rcases dh.mp m with z|z
  .rw[z];exact h.1
  .exact AllB.get h.2 z
def ap3(T:Tab):List MW.Fn->List Def->List Stmt->Bool
 |F::Fs,d::ds,s::ss=>agp T d F s&&ap3 T Fs ds ss|[],[],[]=>true|_,_,_=>false
noncomputable def npB(Z:List MW.Fn)(f n:Nat):Bool:=match Z[f]? with|some F=>F.np==n|none=>false
def tfB(Z:List MW.Fn)(l:List (Option (Str×Nat))):Bool:=l.zipIdx.all λq=>match q.1 with|some p=>npB Z q.2 p.2|none=>true
def tcB(Z:MW.Prog)(l:List (Option (Str×Nat))):Bool:=l.zipIdx.all λq=>match q.1 with|some p=>(match Z.cls[q.2]? with|some G=>npB Z.fns G.init (p.2+1)|none=>false)|none=>true
noncomputable def a8b(Z:List MW.Cl)(m c f:Nat):Bool:=Z.zipIdx.all λq=>match q.1.meths.lookup m with|none=>true|some g=>q.2==c&&g==f
def tmB(G:MW.Prog)(T:Tab)(mcs:List (Nat×Nat)):Bool:=T.mts.zipIdx.all λq=>match mcs[q.2]? with
 |some Z=>(a8b G.cls q.2 Z.1 Z.2&&(npB G.fns Z.2 (q.1.2+1)&&ak6 T.Lw q.1.1))&&((match T.cls[Z.1]? with|some (some _)=>true|_=>false)&&(match G.cls[Z.1]? with|some U=>U.meths.lookup q.2==some Z.2|none=>false))
 |none=>false
def Hy{Z:Type}{l:List Z}{g:Z×Nat->Bool}(h:l.zipIdx.all g=true){x:Z}(e:l[i]?=some x):g (x,i)=true:=by rw[uv] at h;exact h (x,i) (by rw[iy];exact⟨i,by rw[vh,e];simp⟩)
set_option tactic.hygienic true in
def ab9(h:npB fns f n=true):∃F,fns[f]?=some F/\F.np=n:=by
 unfold npB at h;split at h
 .rename_i F e;exact⟨F,e,eq_of_beq h⟩
 .cases h
theorem T5{T:Tab}:∀{U:List MW.Fn}{Z:List Def}{G:List Stmt}{i:Nat}{F:MW.Fn},ap3 T U Z G=true->U[i]?=some F->∃d s,Z[i]?=some d/\G[i]?=some s/\agp T d F s=true
 |F::U,d::Z,s::G,0,F',h,e=>by
  replace h:=Bool.and_eq_true_iff.mp h;cases e;exact⟨d,s,rfl,rfl,h.1⟩
 |F::U,d::Z,s::G,i+1,F',h,e=>by
  replace h:=Bool.and_eq_true_iff.mp h;obtain⟨d',R,h1,h2,h3⟩:=T5 (i:=i) h.2 (by simpa using e);exact⟨d',R,by simpa using h1,by simpa using h2,h3⟩
 |[],_,_,_,_,_,e=>by simp at e|_::_,[],_,_,_,h,_=>by cases h|_::_,_::_,[],_,_,h,_=>by cases h
set_option tactic.hygienic true in
def aa5(qq:ak4 T.Lw=true)(hP:ap3 T IR.fns Ds ss=true)(h1:tfB IR.fns T.fns=true)(h2:tcB IR T.cls=true)(h3:tmB IR T mcs=true)(aF:Xo K Ds ss R fds)(aG:O2 mg T.fns R)(aC:J8 K mg T R T.cls cas IR.cls)(aV:Xq mg T.apl)(aB:AllB mg J6)(hF:IR.fns[i]?=some F) :
 ∃d a f,Ds[i]?=some d/\R[i]?=some a/\fds[i]?=some f/\Binds K f d.ps []/\Ea P w K mg base Xu (17*n) a f d.ps (spF (awc cas T.Lw qq) ⟨IR.call n,IR.cls⟩ K F.np i):=by
 let dd:Def:=⟨Str.empty,Str.empty,[],[]⟩
 let sd:Stmt:=.Pass ⟨0,0,0,0⟩
 obtain⟨d,s,g1,g2,g3⟩:=T5 hP hF;have all:∀(i:Nat)(F:MW.Fn),IR.fns[i]?=some F->∃d s a f,Ds[i]?=some d/\ss[i]?=some s/\R[i]?=some a/\fds[i]?=some f/\Fun K d.x d.qual s a f/\Binds K f d.ps []/\agp T d F s=true:=λi F e=>by
  refine hG λ_ _k=>?_
  obtain⟨d,s,g1,g2,g3⟩:=T5 hP e;obtain⟨s',a,f,Z,S,Y,U,k5⟩:=aF.get g1;rw[g2] at Z;cases Z;apply _k;exact⟨d,s,a,f,g1,g2,S,Y,U,k5,g3⟩
 have df:∀{j:Nat}{a:Addr}{f:FuncData}{d:Def},R[j]?=some a->fds[j]?=some f->Ds[j]?=some d->(R[j]?).getD 0=a/\Ds[j]?.getD dd=d:=λJ L e3=>⟨by rw[J];rfl,by rw[e3];rfl⟩
 obtain⟨qv,q6⟩:∃qv:FuncData,True:=by obtain⟨s',a,f,_⟩:=aF.get g1;exact⟨f,trivial⟩
 have qk:=ae3 (nm:=awc cas T.Lw qq) (P:=P) (w:=w) (K:=K) (mg:=mg) (base:=base) (IR:=IR) (T:=T) (D:=λi=>Ds[i]?.getD dd) (st:=λi=>ss[i]?.getD sd) (fa:=λi=>(R[i]?).getD 0) (fd:=λi=>(fds[i]?).getD qv)
  (λi hi=>by
   refine hG λ_ _k=>?_
   obtain⟨d,s,a,f,Z,S,Y,U,k5,k6,k7⟩:=all i IR.fns[i] (by simp[hi]);apply _k;rw[Z,S,Y,U];exact k5)
  (λi F e=>by
   refine hG λ_ _k=>?_
   obtain⟨d,s,a,f,Z,S,Y,U,k5,k6,k7⟩:=all i F e;apply _k;rw[Z,S];exact k7)
  (λn G=>?_) n i F hF
 .refine hG λ_ _k=>?_
  obtain⟨d',s',a,f,Z,S,Y,U,k5,k6,k7⟩:=all i F hF;apply _k;refine⟨d',a,f,Z,Y,U,k6,?_⟩;have:=qk;rw[Z,Y,U] at this;exact this
 ·
  have at_:∀{j:Nat}{F:MW.Fn}{a:Addr},IR.fns[j]?=some F->R[j]?=some a->∃(f:FuncData)(d:Def),Binds K f d.ps []/\Ea P w K mg base Xu (17*n) a f d.ps (spF (awc cas T.Lw qq) ⟨IR.call n,IR.cls⟩ K F.np j)/\PySem.W.keepIn K (.ref a)=true:=fun{j F a} J L=>by
   refine hG λ_ _k=>?_
   obtain⟨d,s,a',f,Z,S,Y,U,k5,k6,k7⟩:=all j F J;rw[L] at Y;cases Y;have g:=G j F J;rw[Z,L,U] at g;apply _k;exact⟨f,d,k6,g,k5.kp⟩
  have addr:∀{j:Nat}{F:MW.Fn},IR.fns[j]?=some F->∃a,R[j]?=some a:=fun{j F} e=>by
   refine hG λ_ _k=>?_
   obtain⟨d,s,a',f,Z,S,Y,_⟩:=all j F e;apply _k;exact⟨a',Y⟩
  refine⟨λf x m e=>?_,λc x m e=>?_,λm x j e=>?_,λf x e=>?_,λx i m=>aV.get m,λx m=>aB.get m⟩
  .refine hG λ_ _k=>?_
   obtain⟨F,J,L⟩:=ab9 (Hy h1 e);obtain⟨a,e3⟩:=addr J;obtain⟨fd,d,b,g,kp⟩:=at_ J e3;rw[L] at g;apply _k;exact⟨a,fd,d.ps,g,aG.get e e3,kp,b⟩
  .refine hG λ_ _k=>?_
   obtain⟨C,cl,q1,q2,q3⟩:=aC.get e;have z:=Hy h2 e;simp only[q2] at z;obtain⟨F,J,L⟩:=ab9 z;obtain⟨f,f1,f2⟩:=q3.ini;obtain⟨fd,d,b,g,kp⟩:=at_ J f1;rw[L] at g;apply _k;exact⟨C,f,fd,d.ps,cl,f2,g,q3.mg,b,q2,by show(cas[c]?).join=some C;rw[q1];rfl⟩
  .have z:=Hy h3 e
   simp only at z;split at z
   .rename_i cf q9
    simp only[aq] at z;refine hG λ_ _k=>?_
    obtain⟨⟨z1,z2,z3⟩,z4,z5⟩:=z;obtain⟨F,J,L⟩:=ab9 z2;apply _k;split at z4
    .rename_i p hp
     refine hG λ_ _k=>?_
     obtain⟨C,cl,q1,q2,q3⟩:=aC.get hp;rw[q2] at z5;simp only at z5;have mem:(m,cf.2)∈cl.meths:=mem_of_lookup (eq_of_beq z5);obtain⟨p',a,r1,r2,r3⟩:=q3.me.get mem;rw[e] at r1;cases r1;obtain⟨fd,d,b,g,kp⟩:=at_ J r2;rw[L] at g;apply _k;refine⟨C,a,fd,d.ps,cf.2,q3.cs,r3,g,b,λc' q7 q0 g' q4=>?_,ak7 z3⟩;have y:=Hy z1 q0;simp only[q4,aq] at y;have y1:c'=cf.1:=eq_of_beq y.1;exact⟨by show(cas[c']?).join=some C;rw[y1,q1];rfl,eq_of_beq y.2⟩
    .cases z4
   .cases z
  .refine⟨by show x=aab T.Lw f;unfold aab;rw[e],λc C hC=>?_⟩
   have hC:(cas[c]?).join=some C:=hC;have q5:cas[c]?=some (some C):=by
    cases q:cas[c]? with
    |none=>rw[q] at hC;cases hC
    |some o=>rw[q] at hC;cases o with
     |none=>cases hC|some C'=>cases hC;rfl
   obtain⟨y1,y2⟩:=aC.at q5;exact⟨y1,y2.get (bf e)⟩
def fN:Xo K [] [] [] []:=trivial
def gN:O2 mg [] as:=trivial
def gS(h:mg p.1=some (.ref a))(t:O2 mg r Z):O2 mg (some p::r) (a::Z):=⟨h,t⟩
def gO(t:O2 mg r Z):O2 mg (none::r) (a::Z):=t
def mN:aac K C mts Z []:=trivial
def mC(U:mts[q.1]?=some p)(G:Z[q.2]?=some a)(m:Meth K C p.1 a)(t:aac K C mts Z r):aac K C mts Z (q::r):=⟨⟨p,a,U,G,m⟩,t⟩
def nN:Xp K C []:=trivial
def nC(h:Dz K C x)(t:Xp K C r):Xp K C (x::r):=⟨h,t⟩
def cN:J8 K mg T Z [] [] []:=trivial
def cO(t:J8 K mg T Z r cs cls):J8 K mg T Z (none::r) (none::cs) (cl::cls):=t
def cS(h:ClF K mg T Z p.1 C cl)(t:J8 K mg T Z r cs cls):J8 K mg T Z (some p::r) (some C::cs) (cl::cls):=⟨h,t⟩
def vN:Xq mg []:=trivial
def vC(h:mg p.1=some (.int p.2 t))(q:Xq mg r):Xq mg (p::r):=⟨⟨t,h⟩,q⟩
def bN:AllB mg []:=trivial
def bC(h:mg x=none)(q:AllB mg r):AllB mg (x::r):=⟨h,q⟩
abbrev Lk(K:Fg)(f:Addr)(x q:Str)(st:Stmt)(oc:Value)(od:Option Addr)(kV dc pm:Value)(an:Option Addr)(cd ct:Value)(sl:Array (Option Value)):Prop :=
 K.lookup f=some ⟨oc,od,.func (PySem.W.fnOf x q (Gj st) (Dn st) (yp st) .none kV dc pm an cd ct),sl⟩/\PySem.W.codeIn K cd q=true/\PySem.W.keepIn K (.ref f)=true
noncomputable def awd:Nat->(List Value->Prop)->Prop|0,P=>P []|n+1,P=>∀a,awd n λZ=>P (a::Z)
theorem ae4:∀{us:Zl}{P:List Value->Prop},awd us.length P->P us|[],_,h=>h|a::us,_,h=>ae4 (us:=us) (h a)
def fE{kV:Value}(l:Lk K a d.x d.qual s oc od kV dc R Z cd ct sl)(r:Xo K ds ss as fs)
 (b:∀(kV G R:Value)(Z:Option Addr)(U ct:Value),awd d.ps.length λus=>bindArgs (PySem.W.fnOf d.x d.qual (Gj s) (Dn s) (yp s) .none kV G R Z U ct) ⟨us,[]⟩=pure (d.ps.zip us):=by(repeat intro _);rfl) :
 Xo K (d::ds) (s::ss) (a::as) (PySem.W.fnOf d.x d.qual (Gj s) (Dn s) (yp s) .none kV dc R Z cd ct::fs):=⟨⟨aju l.1 l.2.1 l.2.2,(aju l.1 l.2.1 l.2.2).binds λ_ _ _ _ _ _ _ e=>ae4 (e▸b _ _ _ _ _ _)⟩,r⟩
noncomputable def ae5(K:Fg):Sp:=λG H Q _=>∃(a:Addr)(Z:X9),G=[.ref a]/\Only H/\Dt K H a (Z.map V.int)/\Z.length<=63/\∀U,Q (.bl true) U
def ap4(o:Only H)(h:Dt K H a vs):W6 K H a vs:=by
 rcases h with(h|h)|h
 .rcases o a with z|⟨ob,xs,z⟩<;>rw[z] at h<;>cases h
 .exact .inl h
 .exact .inr h
def ap5(run:∀(Z:X9),Z.length<=63->∃G,W.call i [.fz (Z.map MW.D.int)] []=.ok (.bl true) G)(h:ae5 K vs H Q E):spF nm W K 1 i vs H Q E:=by obtain⟨a,Z,rfl,o,U,hl,k⟩:=h;obtain⟨G,e⟩:=run Z hl;refine⟨⟨[],[]⟩,[],_,_,G,⟨rfl,List.nodup_nil,by simp,λn o a h=>by simp at h⟩,.cons (.fz (ap4 o U) (lz.ints Z)) .nil,rfl,e,λR H' v le S' r=>?_⟩;cases r;exact k H'
def walk{l:PySem.W.OpenLaw}{K:Params->Fg}(hn:l.most=some 63)(G:d.params.defaults=[])(hY:∀(w:World) (h:Heap),YP w h->(K w.params).In h)(F:∀(w:World) (mg:Zs) (U:Addr) (h:Heap),(K w.params).In h->h.Ns mainGlobals mg->mg d.name=some (.ref U) ->
 ∃R:FuncData,(∀(s:Shared) (u:Value),BindsTo s R ⟨[u],[]⟩ [("script",u)])/\∀Z:Heap,(K w.params).In Z->Z.Ns mainGlobals mg->Ea l.prog w (K w.params) mg Z Xu 170 U R ["script"] (ae5 (K w.params))) :
 PySem.W.WalkO q loose XP YP l.row.toRowW d [] (λf vs=>PySem.call f vs) :=
 L2.aoj (n:=63) (k:=170) (x := "script") (CX:=λ_=>Xu) (sp:=λw=>ae5 (K w.params)) hn (by decide) G ⟨rfl,by decide,by decide⟩ hY F (λ_ _ a ns hl ho hS=>⟨a,ns,rfl,ho,hS,hl,λ_=>rfl⟩) λ_ _ _ _ _ z=>z
end Ck
namespace K75
open PySem L2
noncomputable def top(i:Nat):Stmt:=PySem.Challenge.pw_mapwright_k75_whole_what_follows.main.body.getD i (.Pass ⟨0,0,0,0⟩)
def sts:List Stmt:=[top 31,top 32,top 33,top 9,top 10,top 11,top 12,top 13,top 14,top 15,top 16,top 17,top 18,top 19,top 20,inClass (top 22) 0,inClass (top 22) 1,inClass (top 22) 2,inClass (top 22) 3,inClass (top 22) 4,top 23,top 24,top 25,top 27,top 28,top 29,top 34,top 35,top 36,top 37,top 38,top 39]
noncomputable def Ds:List Ck.Def:=[⟨"_law_cell_at", "_law_cell_at",["script", "k"],["script", "k"]⟩,⟨"_law_state", "_law_state",["script", "k", "cell"],["script", "k"]⟩,⟨"_law_take", "_law_take",["state", "many", "found", "mixed"],["state", "many"]⟩,⟨"check_saying", "check_saying",["saying", "ends"],["saying"]⟩,⟨"check_ends", "check_ends",["ends", "start", "goal"],["ends"]⟩,⟨"comes_back", "comes_back",["ends", "left", "many", "goals"],["ends"]⟩,⟨"check_given", "check_given",["ends", "given", "told"],["ends", "given"]⟩,⟨"can_be_given", "can_be_given",["ends", "told"],["ends", "told"]⟩,⟨"is_arrow", "is_arrow",["ends", "number"],["ends", "number"]⟩,⟨"is_way", "is_way",["ends", "way"],["ends", "way"]⟩,⟨"way_start", "way_start",["ends", "way"],["ends", "way"]⟩,⟨"way_goal", "way_goal",["ends", "way"],["ends", "way"]⟩,⟨"are_beside", "are_beside",["ends", "one", "other"],["ends", "one", "other"]⟩,⟨"all_ways", "all_ways",["ends", "told", "fresh", "longer", "way", "goal"],["ends"]⟩,⟨"apart_arrows", "apart_arrows",["given"],["given"]⟩,⟨"__init__", "Ties.__init__",["self"],["self"]⟩,⟨"mark", "Ties.mark",["self", "way"],["self", "way"]⟩,⟨"are_tied", "Ties.are_tied",["self", "one", "other"],["self", "one", "other"]⟩,⟨"take", "Ties.take",["self", "step", "kept", "gone", "way"],["self", "step"]⟩,⟨"offer", "Ties.offer",["self", "one", "other", "why"],["self", "one", "other", "why"]⟩,⟨"all_ties", "all_ties",["saying", "ties", "place", "told", "many"],["saying"]⟩,⟨"put_around", "put_around",["ties", "ends", "one", "other", "why", "arrow", "some"],["ties", "ends"]⟩,⟨"take_off", "take_off",["ties", "ends", "arrows", "arrow", "firsts", "way", "first"],["ties", "ends", "arrows"]⟩,⟨"judged", "judged",["saying", "ties"],["saying"]⟩,⟨"breaking_sets", "breaking_sets",["ends", "ties", "start", "rows", "way", "row", "maps", "arrow", "some", "goals"],["ends", "ties", "start"]⟩,⟨"set_count", "set_count",["ends"],["ends"]⟩,⟨"_law_all_ways", "_law_all_ways",["ends", "found", "at", "last"],["ends"]⟩,⟨"_law_alike_ends", "_law_alike_ends",["ends", "rows", "way", "pairs", "row", "one"],["ends"]⟩,⟨"_law_saying", "_law_saying",["state", "ends", "k", "one", "known", "pairs", "given", "turn", "unlike"],["state"]⟩,⟨"_law_marks", "_law_marks",["saying", "ends", "given", "aim", "ways", "marks", "joins", "one", "other", "low", "high", "way"],["saying"]⟩,⟨"_law_joins", "_law_joins",["ends", "given", "ways", "marks", "apart", "found", "one", "other", "k"],["ends", "given", "ways", "marks"]⟩,⟨"law", "law",["script", "state", "turn", "ends", "given", "aim", "marks", "due", "at"],["script"]⟩]
noncomputable def tab:Ck.Tab:=⟨[(some ("_law_cell_at",2):Y2),(some ("_law_state",2):Y2),(some ("_law_take",2):Y2),(some ("check_saying",1):Y2),(some ("check_ends",1):Y2),(some ("comes_back",1):Y2),(some ("check_given",2):Y2),(some ("can_be_given",2):Y2),(some ("is_arrow",2):Y2),(some ("is_way",2):Y2),(some ("way_start",2):Y2),(some ("way_goal",2):Y2),(some ("are_beside",3):Y2),(some ("all_ways",1):Y2),(some ("apart_arrows",1):Y2),none,none,none,none,none,(some ("all_ties",1):Y2),(some ("put_around",2):Y2),(some ("take_off",3):Y2),(some ("judged",1):Y2),(some ("breaking_sets",3):Y2),(some ("set_count",1):Y2),(some ("_law_all_ways",1):Y2),(some ("_law_alike_ends",1):Y2),(some ("_law_saying",1):Y2),(some ("_law_marks",1):Y2),(some ("_law_joins",4):Y2),(some ("law",1):Y2)],[none,none,none,some ("Ties",0)],[("mark",1),("are_tied",2),("take",1),("offer",3)],["marks", "steps"],[("MOST_ARROWS",10),("LAST_SET",7),("MOST_GIVEN",8),("MOST_WAYS",60)]⟩
noncomputable def mcs:List (Nat×Nat):=[(3,16),(3,17),(3,18),(3,19)]
def chk:Ck.ap3 tab prog.fns Ds sts=true:=by decide+kernel
def a8d:Ck.ak4 tab.Lw=true:=by decide+kernel
def a8e:Ck.tfB prog.fns tab.fns=true:=by decide+kernel
def a8f:Ck.tcB prog tab.cls=true:=by decide+kernel
def a8g:Ck.tmB prog tab mcs=true:=by decide+kernel
open PySem.W
set_option maxHeartbeats 0 in
def all_mk{l:OpenLaw}{K:Frag}{h:Heap}(X:K.In h)(G:h.Ns mainGlobals mg)(jv:mg "law" = some (.ref fa))
 (u4:nsIn K mainGlobals "Ties" = some (some (.ref U)))
 (a0:nsIn K mainGlobals "_law_cell_at" = some (some (.ref f0)))
 (l0:Ck.Lk K f0 "_law_cell_at" "_law_cell_at" (top 31) oc0 od0 kV0 dc0 pm0 an0 cd0 ct0 sl0)
 (a1:nsIn K mainGlobals "_law_state" = some (some (.ref f1)))
 (l1:Ck.Lk K f1 "_law_state" "_law_state" (top 32) oc1 od1 kV1 dc1 pm1 an1 cd1 ct1 sl1)
 (a2:nsIn K mainGlobals "_law_take" = some (some (.ref f2)))
 (l2:Ck.Lk K f2 "_law_take" "_law_take" (top 33) oc2 od2 kV2 dc2 pm2 an2 cd2 ct2 sl2)
 (a3:nsIn K mainGlobals "check_saying" = some (some (.ref f3)))
 (l3:Ck.Lk K f3 "check_saying" "check_saying" (top 9) oc3 od3 kV3 dc3 pm3 an3 cd3 ct3 sl3)
 (a4:nsIn K mainGlobals "check_ends" = some (some (.ref f4)))
 (l4:Ck.Lk K f4 "check_ends" "check_ends" (top 10) oc4 od4 kV4 dc4 pm4 an4 cd4 ct4 sl4)
 (a5:nsIn K mainGlobals "comes_back" = some (some (.ref f5)))
 (l5:Ck.Lk K f5 "comes_back" "comes_back" (top 11) oc5 od5 kV5 dc5 pm5 an5 cd5 ct5 sl5)
 (a6:nsIn K mainGlobals "check_given" = some (some (.ref f6)))
 (l6:Ck.Lk K f6 "check_given" "check_given" (top 12) oc6 od6 kV6 dc6 pm6 an6 cd6 ct6 sl6)
 (a7:nsIn K mainGlobals "can_be_given" = some (some (.ref f7)))
 (l7:Ck.Lk K f7 "can_be_given" "can_be_given" (top 13) oc7 od7 kV7 dc7 pm7 an7 cd7 ct7 sl7)
 (a8:nsIn K mainGlobals "is_arrow" = some (some (.ref f8)))
 (l8:Ck.Lk K f8 "is_arrow" "is_arrow" (top 14) oc8 od8 kV8 dc8 pm8 an8 cd8 ct8 sl8)
 (a9:nsIn K mainGlobals "is_way" = some (some (.ref f9)))
 (l9:Ck.Lk K f9 "is_way" "is_way" (top 15) oc9 od9 kV9 dc9 pm9 an9 cd9 ct9 sl9)
 (a10:nsIn K mainGlobals "way_start" = some (some (.ref f10)))
 (l10:Ck.Lk K f10 "way_start" "way_start" (top 16) bdr bds bdt bdu bdv bdw bdx bdz bd1)
 (yy:nsIn K mainGlobals "way_goal" = some (some (.ref f11)))
 (l11:Ck.Lk K f11 "way_goal" "way_goal" (top 17) bd3 bd4 bd5 bd6 bd7 bd8 bd9 bea beb)
 (xk:nsIn K mainGlobals "are_beside" = some (some (.ref f12)))
 (zk:Ck.Lk K f12 "are_beside" "are_beside" (top 18) bed bee bef beh bei bej bek bel bem)
 (x5:nsIn K mainGlobals "all_ways" = some (some (.ref f13)))
 (zz:Ck.Lk K f13 "all_ways" "all_ways" (top 19) beo bep ber bet beu bev bew bex bey)
 (x2:nsIn K mainGlobals "apart_arrows" = some (some (.ref f14)))
 (u2:Ck.Lk K f14 "apart_arrows" "apart_arrows" (top 20) be0 be1 be2 be3 be4 be5 be6 be7 be8)
 (zv:findIn K (.ref U) "__init__" = some (some (.ref f15)))
 (i15:isFn K (.ref f15)=true)
 (l15:Ck.Lk K f15 "__init__" "Ties.__init__" (inClass (top 22) 0) bfb bfc bfd bfe bff bfg bfh bfi bfj)
 (u7:findIn K (.ref U) "mark" = some (some (.ref f16)))
 (y8:isFn K (.ref f16)=true)
 (qk:Ck.Lk K f16 "mark" "Ties.mark" (inClass (top 22) 1) bfl bfm bfn bfo bfp bfq bfr bfs bft)
 (a17:findIn K (.ref U) "are_tied" = some (some (.ref f17)))
 (u3:isFn K (.ref f17)=true)
 (R:Ck.Lk K f17 "are_tied" "Ties.are_tied" (inClass (top 22) 2) bfv bfw bfx bfy bfz bf0 bf1 bf2 bf3)
 (x3:findIn K (.ref U) "take" = some (some (.ref f18)))
 (q3:isFn K (.ref f18)=true)
 (qv:Ck.Lk K f18 "take" "Ties.take" (inClass (top 22) 3) bf5 bf6 bf7 bf8 bf9 bga bgb bgc bgd)
 (y1:findIn K (.ref U) "offer" = some (some (.ref f19)))
 (uu:isFn K (.ref f19)=true)
 (qq:Ck.Lk K f19 "offer" "Ties.offer" (inClass (top 22) 4) bgf bgg bgh bgi bgj bgk bgl bgm bgn)
 (q6:nsIn K mainGlobals "all_ties" = some (some (.ref f20)))
 (xy:Ck.Lk K f20 "all_ties" "all_ties" (top 23) bgp bgq bgr bgs bgt bgu bgv bgw bgx)
 (y5:nsIn K mainGlobals "put_around" = some (some (.ref f21)))
 (q5:Ck.Lk K f21 "put_around" "put_around" (top 24) bgz bg0 bg1 bg2 bg3 bg4 bg5 bg6 bg7)
 (x6:nsIn K mainGlobals "take_off" = some (some (.ref f22)))
 (y6:Ck.Lk K f22 "take_off" "take_off" (top 25) bg9 bha bhb bhc bhd bhe bhf bhg bhh)
 (j4:nsIn K mainGlobals "judged" = some (some (.ref f23)))
 (q9:Ck.Lk K f23 "judged" "judged" (top 27) bhj bhk bhl bhm bhn bho bhp bhq bhr)
 (a24:nsIn K mainGlobals "breaking_sets" = some (some (.ref f24)))
 (y7:Ck.Lk K f24 "breaking_sets" "breaking_sets" (top 28) bht bhu bhv bhw bhx bhy bhz bh0 bh1)
 (q7:nsIn K mainGlobals "set_count" = some (some (.ref f25)))
 (x1:Ck.Lk K f25 "set_count" "set_count" (top 29) bh3 bh4 bh5 bh6 bh7 bh8 bh9 bia bib)
 (q4:nsIn K mainGlobals "_law_all_ways" = some (some (.ref f26)))
 (y9:Ck.Lk K f26 "_law_all_ways" "_law_all_ways" (top 34) bid bie bih bii bij bik bil bim bio)
 (q1:nsIn K mainGlobals "_law_alike_ends" = some (some (.ref f27)))
 (yk:Ck.Lk K f27 "_law_alike_ends" "_law_alike_ends" (top 35) biq bir bis biu biv biw bix biy biz)
 (j1:nsIn K mainGlobals "_law_saying" = some (some (.ref f28)))
 (uj:Ck.Lk K f28 "_law_saying" "_law_saying" (top 36) bi1 bi2 bi3 bi4 bi5 bi6 bi7 bi8 bi9)
 (uk:nsIn K mainGlobals "_law_marks" = some (some (.ref f29)))
 (y4:Ck.Lk K f29 "_law_marks" "_law_marks" (top 37) bjb bjc bjd bje bjf bjg bjh bji bjj)
 (y0:nsIn K mainGlobals "_law_joins" = some (some (.ref f30)))
 (x4:Ck.Lk K f30 "_law_joins" "_law_joins" (top 38) bjl bjm bjn bjo bjp bjq bjr bjs bjt)
 (q0:nsIn K mainGlobals "law" = some (some (.ref f31)))
 (y2:Ck.Lk K f31 "law" "law" (top 39) bjw bjx a8h a8i a8j a8k a8l a8m bjy)
 (xv:plainGet K U Str.empty=true)
 (xw:hasDictIn K U=true)
 (j3:plainOver K U=true)
 (zw:findIn K (.ref U) "__setattr__" = some (some (.builtin "object.__setattr__")))
 (x9:makesIn K U=true)
 (q2:keepIn K (.ref U)=true)
 (yv:findIn K (.ref U) "marks" = some none)
 (j2:findIn K (.ref U) "steps" = some none)
 (v0:nsIn K mainGlobals "MOST_ARROWS" = some (some (.int (10) tk0)))
 (v1:nsIn K mainGlobals "LAST_SET" = some (some (.int (7) tk1)))
 (v2:nsIn K mainGlobals "MOST_GIVEN" = some (some (.int (8) tk2)))
 (v3:nsIn K mainGlobals "MOST_WAYS" = some (some (.int (60) tk3)))
 (z0:nsIn K mainGlobals "len" = some none)
 (z1:nsIn K mainGlobals "tuple" = some none)
 (z2:nsIn K mainGlobals "list" = some none)
 (z3:nsIn K mainGlobals "max" = some none)
 (z4:nsIn K mainGlobals "min" = some none)
 (z5:nsIn K mainGlobals "isinstance" = some none)
 (z6:nsIn K mainGlobals "range" = some none)
 (z7:nsIn K mainGlobals "enumerate" = some none)
 (z8:nsIn K mainGlobals "set" = some none)
 (z9:nsIn K mainGlobals "zip" = some none)
 (u1:nsIn K mainGlobals "all" = some none)
 (x8:nsIn K mainGlobals "bool" = some none)
 (yz:nsIn K mainGlobals "dict" = some none)
 (y3:nsIn K mainGlobals "int" = some none)
 : ∃fd:FuncData,(∀(s:Shared)(v:Value),BindsTo s fd ⟨[v],[]⟩ [("script",v)])/\∀Z:Heap,K.In Z->Z.Ns mainGlobals mg->Ea l.prog w K mg Z Xu 170 fa fd ["script"] (Ck.ae5 K):=by
 have e:=(dw X G q0).symm.trans jv;cases e;have aF:Ck.Xo K Ds sts [f0,f1,f2,f3,f4,f5,f6,f7,f8,f9,f10,f11,f12,f13,f14,f15,f16,f17,f18,f19,f20,f21,f22,f23,f24,f25,f26,f27,f28,f29,f30,fa] [_,_,_,_,_,_,_,_,_,_,_,_,_,_,_,_,_,_,_,_,_,_,_,_,_,_,_,_,_,_,_,_]:=(Ck.fE l0 (Ck.fE l1 (Ck.fE l2 (Ck.fE l3 (Ck.fE l4 (Ck.fE l5 (Ck.fE l6 (Ck.fE l7 (Ck.fE l8 (Ck.fE l9 (Ck.fE l10 (Ck.fE l11 (Ck.fE zk (Ck.fE zz (Ck.fE u2 (Ck.fE l15 (Ck.fE qk (Ck.fE R (Ck.fE qv (Ck.fE qq (Ck.fE xy (Ck.fE q5 (Ck.fE y6 (Ck.fE q9 (Ck.fE y7 (Ck.fE x1 (Ck.fE y9 (Ck.fE yk (Ck.fE uj (Ck.fE y4 (Ck.fE x4 (Ck.fE y2 Ck.fN))))))))))))))))))))))))))))))));have aG:Ck.O2 mg tab.fns [f0,f1,f2,f3,f4,f5,f6,f7,f8,f9,f10,f11,f12,f13,f14,f15,f16,f17,f18,f19,f20,f21,f22,f23,f24,f25,f26,f27,f28,f29,f30,fa]:=(Ck.gS (dw X G a0) (Ck.gS (dw X G a1) (Ck.gS (dw X G a2) (Ck.gS (dw X G a3) (Ck.gS (dw X G a4) (Ck.gS (dw X G a5) (Ck.gS (dw X G a6) (Ck.gS (dw X G a7) (Ck.gS (dw X G a8) (Ck.gS (dw X G a9) (Ck.gS (dw X G a10) (Ck.gS (dw X G yy) (Ck.gS (dw X G xk) (Ck.gS (dw X G x5) (Ck.gS (dw X G x2) (Ck.gO (Ck.gO (Ck.gO (Ck.gO (Ck.gO (Ck.gS (dw X G q6) (Ck.gS (dw X G y5) (Ck.gS (dw X G x6) (Ck.gS (dw X G j4) (Ck.gS (dw X G a24) (Ck.gS (dw X G q7) (Ck.gS (dw X G q4) (Ck.gS (dw X G q1) (Ck.gS (dw X G j1) (Ck.gS (dw X G uk) (Ck.gS (dw X G y0) (Ck.gS (dw X G q0) Ck.gN))))))))))))))))))))))))))))))));have aC:Ck.J8 K mg tab [f0,f1,f2,f3,f4,f5,f6,f7,f8,f9,f10,f11,f12,f13,f14,f15,f16,f17,f18,f19,f20,f21,f22,f23,f24,f25,f26,f27,f28,f29,f30,fa] tab.cls [none,none,none,some U] prog.cls:=(Ck.cO (Ck.cO (Ck.cO (Ck.cS ⟨dw X G u4,⟨xv,xw,j3,zw⟩,⟨_,rfl,⟨x9,zv,i15,q2⟩⟩,(Ck.mC rfl rfl ⟨u7,y8,qk.2.2⟩ (Ck.mC rfl rfl ⟨a17,u3,R.2.2⟩ (Ck.mC rfl rfl ⟨x3,q3,qv.2.2⟩ (Ck.mC rfl rfl ⟨y1,uu,qq.2.2⟩ Ck.mN)))),(Ck.nC yv (Ck.nC j2 Ck.nN))⟩ Ck.cN))));have aV:Ck.Xq mg tab.apl:=(Ck.vC (dw X G v0) (Ck.vC (dw X G v1) (Ck.vC (dw X G v2) (Ck.vC (dw X G v3) Ck.vN))));have aB:Ck.AllB mg Ck.J6:=(Ck.bC (jk X G z0) (Ck.bC (jk X G z1) (Ck.bC (jk X G z2) (Ck.bC (jk X G z3) (Ck.bC (jk X G z4) (Ck.bC (jk X G z5) (Ck.bC (jk X G z6) (Ck.bC (jk X G z7) (Ck.bC (jk X G z8) (Ck.bC (jk X G z9) (Ck.bC (jk X G u1) (Ck.bC (jk X G x8) (Ck.bC (jk X G yz) (Ck.bC (jk X G y3) Ck.bN))))))))))))));refine⟨fnOf "law" "law" (Gj (top 39)) (Dn (top 39)) (yp (top 39)) .none a8h a8i a8j a8k a8l a8m,λs v=>.of_eq rfl,λZ _ _=>?_⟩;obtain⟨d,a,f,g1,g2,g3,g4,g5⟩:=Ck.aa5 (P:=l.prog) (w:=w) (base:=Z) (n:=10) (i:=31) (F:=ahs) a8d chk a8e a8f a8g aF aG aC aV aB rfl;cases g1;cases g2;cases g3;exact g5.imp λvs H Q E hh=>Ck.ap5 (λns hl=>as9 (by decide)) hh
end K75
open PySem PySem.W PyProof.Rows
namespace PySem.W.Fast
def tw7799874205973988117:=Nat
def tw2526445802475016453:=Nat
def tw13089849144057158256:=Nat
def tw11077075899999811576:=Nat
def tw18034631097046128405:=Nat
def tw4386149127133002355:=Nat
def tw5734164498952892778:=Nat
def tw3585652768240002348:=Nat
def tw7066322548445195450:=Nat
def tw15070981217629307860:=Nat
def tw13324459482934209126:=Nat
def tw10196085411203241362:=Nat
def tw1926994080781643392:=Nat
def tw12588020117499149445:=Nat
def tw11531666673708883327:=Nat
def tw11142881908094446614:=Nat
def tw2461604582905660276:=Nat
def tw1436168900981916192:=Nat
def tw4337459726895973652:=Nat
def tw14851589750835024819:=Nat
def tw18286366193986438248:=Nat
def tw16987395501687823829:=Nat
def tw7332072688386423258:=Nat
def tw13247545004635451021:=Nat
def tw243713047535469004:=Nat
def tw169112337244162227:=Nat
def tw6188305754255806523:=Nat
def tw2591188435745555665:=Nat
def tw9593945609210771504:=Nat
def tw3817661610901199616:=Nat
def tw4972433035120859452:=Nat
def tw575893425064506277:=Nat
def tw12941634837914720915:=Nat
def tw10051673185986848785:=Nat
def tw8145737239783332282:=Nat
def tw13636513444952845673:=Nat
def tw5690718579779341729:=Nat
def tw8632953711448360076:=Nat
def tw17340899338888130642:=Nat
def tw9447805048798591442:=Nat
def tw6418616953093476916:=Nat
def tw2635198274663255950:=Nat
def tw5667309027343334785:=Nat
def tw316064209971868040:=Nat
def tw3116694075235517286:=Nat
def tw1809373669698045513:=Nat
def tw9664371630998941190:=Nat
def tw3964684577043107534:=Nat
def tw296950881658969431:=Nat
def tw3968179336043157921:=Nat
def tw15624054931774413451:=Nat
def tw16669089975424080123:=Nat
def tw10172820470061948872:=Nat
def tw16629271348801243179:=Nat
def tw9699467705669195729:=Nat
def tw8086284515622234523:=Nat
def tw8686861773987396942:=Nat
def tw8889595540628743956:=Nat
def tw5028640266622403544:=Nat
def tw10370678734100535751:=Nat
def tw7919224923788499639:=Nat
def tw7671376515877701093:=Nat
def tw6629371308719114766:=Nat
def tw14284777066697571726:=Nat
def tw4645532453068085490:=Nat
def tw10910353305191737145:=Nat
def tw5922830584078462374:=Nat
def tw9371175257736777778:=Nat
def tw15456753123691194219:=Nat
def tw8794827593389566840:=Nat
def tw170852478829119332:=Nat
def tw10217029783165650046:=Nat
def tw6342820275179243475:=Nat
def tw1508741905060264546:=Nat
def tw8084341803874047265:=Nat
def tw1659577898069479970:=Nat
def tw6374614180208860853:=Nat
def tw13376036550484116637:=Nat
def tw1503951422967138821:=Nat
def tw1134600345531156330:=Nat
def tw17883372120205069844:=Nat
def tw5567842290137635155:=Nat
def tw16682445313552936231:=Nat
def tw8349215109729028738:=Nat
def tw7669648140350682925:=Nat
def tw13569987968875056246:=Nat
def tw9774394607244844520:=Nat
def tw3664827976946163069:=Nat
def tw14334923178320311867:=Nat
def tw10112450785150473931:=Nat
def tw2412934039711443945:=Nat
def tw10489651279721947137:=Nat
def tw13838175774170529934:=Nat
def tw11884577426440762769:=Nat
def tw4920074982528286593:=Nat
def tw2645767515856590363:=Nat
def tw12992345837733629649:=Nat
def tw17696114480650308620:=Nat
def tw11887173763059423437:=Nat
def tw6764941521978162724:=Nat
def tw17733155365384921808:=Nat
def tw15520541196724391230:=Nat
def tw14503738301888473221:=Nat
def tw3453234989600745172:=Nat
def tw16852020196537596511:=Nat
def tw12518763127072635903:=Nat
def tw4282298749221160158:=Nat
def tw12301812163191386450:=Nat
def tw8195736039398223924:=Nat
def tw1638263975636520678:=Nat
def tw4004875923947966387:=Nat
def tw8743466394774890309:=Nat
def tw15878921091151955453:=Nat
def tw13690535588527522408:=Nat
def tw13190273486036693221:=Nat
def tw10794652216649301622:=Nat
def tw745515201495110436:=Nat
def tw1073360065149307822:=Nat
def tw15775343199590235441:=Nat
def tw13533727675161918223:=Nat
def tw18431974576803624616:=Nat
def tw2932753381515989469:=Nat
def tw18239731094445430676:=Nat
def tw8927738451300348595:=Nat
def tw8750789413500650881:=Nat
def tw6938759871478603991:=Nat
def tw4251492970763771485:=Nat
def tw8857896296628874728:=Nat
def tw14438533773358245783:=Nat
def tw9348143338840594825:=Nat
def tw6826046818708478149:=Nat
def tw14728178016806822785:=Nat
def tw3764470501784749794:=Nat
def tw17171417736922734292:=Nat
def tw16588090074577324448:=Nat
def tw3388496999315521838:=Nat
def tw18372010759207265327:=Nat
def tw7644518231569889991:=Nat
def tw13479397841958420102:=Nat
def tw3561039080417095832:=Nat
def tw12224776966598014658:=Nat
def tw10861217029913852341:=Nat
def tw16914157002407033538:=Nat
def tw5548512601621184690:=Nat
def tw2449232918794316148:=Nat
def tw10225234252149946160:=Nat
def tw17975289089309736694:=Nat
def tw10113244001257027717:=Nat
def tw11453457233942845837:=Nat
def tw7753087773316898431:=Nat
def tw17225745192510771068:=Nat
def tw13940240592358219853:=Nat
def tw3800335784788766917:=Nat
def tw4640183277031346558:=Nat
def tw6660525479077113792:=Nat
def tw15270160857789184807:=Nat
def tw13896400002665706040:=Nat
def tw7737542214051367831:=Nat
def tw6507420795994037756:=Nat
def tw17280196293202725426:=Nat
def tw13196770525826551936:=Nat
def tw8950382158720549631:=Nat
def tw6386359545516865250:=Nat
def tw3924429877017349333:=Nat
def tw4582931003325983864:=Nat
def tw9075094279264000858:=Nat
def tw8907038216755693312:=Nat
def tw12752033269839948640:=Nat
def tw10430719505232897194:=Nat
def tw525316214989537847:=Nat
def tw6446326876373497109:=Nat
def tw13767048443339556767:=Nat
def tw15905874348959268292:=Nat
def tw7838111186528332475:=Nat
def tw7544981329138976848:=Nat
def tw7386934683285738563:=Nat
def tw6682365065249348827:=Nat
def tw16982973235322716846:=Nat
def tw8220852190191107913:=Nat
def tw7928867595174655112:=Nat
def tw4765717944895300687:=Nat
def tw3980732583269793429:=Nat
def tw2844247921642817629:=Nat
def tw9266934931951530441:=Nat
def tw143697881001655966:=Nat
def tw4839336847998921027:=Nat
def tw3314372817155668679:=Nat
def tw3012415850237864691:=Nat
def tw10627040508871978159:=Nat
def tw9418684724920304296:=Nat
def tw928600258796123493:=Nat
def tw9203957542172624118:=Nat
def tw8942005075219978112:=Nat
def tw8156708743309749487:=Nat
def tw8056438083608480344:=Nat
def tw7790041996790206815:=Nat
def tw7767649681593855840:=Nat
def tw6988440769354447989:=Nat
def tw6918150152237056379:=Nat
end PySem.W.Fast
set_option maxRecDepth 100000 in
set_option maxHeartbeats 0 in
theorem PySem.Challenge.cw_mapwright_k75_whole_what_follows_holds : PySem.Challenge.rw_mapwright_k75_whole_what_follows.Holds := by
 w_on;o_law;k_head;(case hw=>w_witness2)
 k_fill
 refine Ck.walk (l:=PySem.Challenge.rw_mapwright_k75_whole_what_follows) rfl rfl (λw h Y=>PySem.W.kIn_of Y) ?F
 case F =>
  intro w mg fa h KX G hmg;apply K75.all_mk KX G hmg<;>(try refine⟨?_,?_,?_⟩)<;>k_is
