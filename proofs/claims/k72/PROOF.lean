import PyProof.Rows.All
import Wide.All
import OpenK.AllK
import Wide.FinOn
import Lean
import PyProof.EqAt
import PyProof.EqKinds
import PyProof.TupleCall
import PyProof.NeKinds
import PyProof.Rows.MinMaxN
import PyProof.EnumMake
import PyProof.ZipIter
import PyProof.Rows.ZipGen
import PyProof.DictWalks
import PyProof.SetScanFacts
import PyProof.TupleKey
import PyProof.SetKind
import PyProof.IsRules
import PyProof.Rules
import PyProof.Rows.SetFrom
import KE.KDictList
import PySem.Challenge.RW_mapwright_k72_steps
set_option Elab.async false
set_option linter.all false
set_option tactic.hygienic false
set_option genSizeOf false
set_option genInjectivity false
set_option maxRecDepth 100000
abbrev Zl:=List PySem.Value
abbrev Zp:=List (PySem.Addr×PySem.Obj)
abbrev Zs:=PySem.Str->Option PySem.Value
abbrev Y1:=PySem.Value->PySem.Shared->Prop
abbrev Y2:=Option (PySem.Str×Nat)
abbrev Y3:=List Nat
abbrev Ya:=List PySem.Expr
abbrev Yf:=List PySem.Str
abbrev X0:=List (PySem.Str×PySem.NameKind)
abbrev X1:=List PySem.Addr
abbrev X9:=List Int
abbrev Xt:=List (PySem.Str×PySem.Addr)
abbrev U1:=Array PySem.Value
def vm:=@Array.getElem?_eq_getElem
def jj:=@Array.getElem?_eq_some_iff
def o7:=@Array.getElem?_toList
def su:=@Array.length_toList
def ao:=@Bool.and_eq_true
def yp:=@Bool.eq_iff_iff
def dj:=@Bool.false_eq_true
def ir:=@Bool.false_ne_true
def Aa:=@Bool.not_true
def jl:=@Function.comp_def
def yo:=@Int.emod_lt_of_pos
def Ad:=@Int.emod_nonneg
def jc:=@Int.natCast_nonneg
def jm:=@Int.toNat_natCast
def qw:=@List.all_eq_true
def wu:=@List.any_cons
def nq:=@List.append_assoc
def xj:=@List.append_cancel_left
def wz:=@List.append_cancel_right
def Ae:=@List.append_nil
def t7:=@List.cons.inj
def yh:=@List.dropLast_concat_getLast
def vo:=@List.drop_eq_getElem_cons
def yj:=@List.drop_of_length_le
def yx:=@List.drop_zero
def m5:=@List.find?_cons
def Af:=@List.foldl_cons
def vf:=@List.getD_eq_getElem?_getD
def gb:=@List.getElem?_append_left
def p8:=@List.getElem?_append_right
def xn:=@List.getElem?_cons_succ
def xq:=@List.getElem?_cons_zero
def bj:=@List.getElem?_eq_getElem
def yt:=@List.getElem?_eq_none
def ak:=@List.getElem?_eq_some_iff
def iu:=@List.getElem?_map
def uh:=@List.getElem?_set_ne
def ym:=@List.getElem?_set_self
def wy:=@List.getElem?_zipIdx
def zj:=@List.getElem_inj
def zm:=@List.getElem_mem
def xu:=@List.getElem_of_mem
def m6:=@List.isEmpty_iff
def jd:=@List.length_append
def d9:=@List.length_cons
def t8:=@List.length_filter_le
def dh:=@List.length_map
def uw:=@List.length_nil
def km:=@List.length_pos_iff
def u9:=@List.length_pos_of_mem
def Ag:=@List.length_set
def m7:=@List.lookup_cons
def gh:=@List.map_append
def m9:=@List.map_congr_left
def di:=@List.map_cons
def g8:=@List.map_map
def Ak:=@List.map_nil
def yq:=@List.map_take
def cz:=@List.mem_append
def jf:=@List.mem_append_left
def gf:=@List.mem_append_right
def dg:=@List.mem_cons
def bh:=@List.mem_cons_of_mem
def bx:=@List.mem_cons_self
def yz:=@List.mem_erase_of_ne
def sy:=@List.mem_filter
def jw:=@List.mem_iff_getElem?
def dq:=@List.mem_map
def au:=@List.mem_of_getElem?
def um:=@List.mem_of_mem_drop
def uo:=@List.mem_of_mem_take
def lq:=@List.mem_range
def ou:=@List.mem_singleton
def yr:=@List.nil_append
def nu:=@List.nodup_append
def o9:=@List.nodup_cons
def vd:=@List.not_mem_nil
def v9:=@List.of_mem_zip
def zq:=@List.range'_succ
def fc:=@List.size_toArray
def qg:=@List.take_append_drop
def uc:=@List.take_length
def mq:=@List.take_of_length_le
def vg:=@List.take_succ
def zr:=@Nat.le_add_right
def vq:=@Nat.le_of_lt
def bc:=@Nat.le_refl
def n6:=@Nat.le_succ
def Al:=@Nat.le_total
def az:=@Nat.le_trans
def o8:=@Nat.lt_irrefl
def gw:=@Nat.lt_of_lt_of_le
def jo:=@Nat.lt_or_ge
def ud:=@Nat.lt_succ_self
def wg:=@Nat.min_eq_left
def yg:=@Nat.min_eq_right
def vy:=@Nat.ne_of_gt
def ie:=@Nat.ne_of_lt
def qi:=@Nat.not_lt_zero
def vz:=@Nat.zero_add
def iy:=@Nat.zero_le
def kh:=@Ne.symm
def jb:=@Option.bind_eq_some_iff
def j9:=@Option.isSome_iff_exists
def bw:=@Option.map_eq_some_iff
def qj:=@Option.map_some
def gq:=@Option.some.inj
def qd:=@PyProof.Rows.F.entry_set_update_loop
def jz:=@PyProof.Rows.F.plain_set_update_loop
def xg:=@PyProof.Rows.callWith_builtin1
def qy:=@PyProof.Rows.callWith_type1
def wj:=@PyProof.Rows.slot_tuple_getitem
def vh:=@PySem.Around.under_plainId
def qu:=@PySem.F.called_set
def u5:=@PySem.F.slot_dict_keyiterator_next
def ug:=@PySem.F.slot_dict_valueiterator_next
def u6:=@PySem.F.slot_enumerate_next
def q8:=@PySem.F.slot_tuple_iterator_next
def gj:=@PySem.Heap.SameBut.update
def aq:=@PySem.Heap.get?_push_of_some
def bu:=@PySem.Heap.get?_push_size
def j7:=@PySem.Heap.get?_update_self
def bf:=@PySem.Heap.lt_size
def ju:=@PySem.Heap.size_push
def qt:=@PySem.Obj.data_mapFields
def kj:=@PySem.W.mg_none_of
def dw:=@PySem.W.mg_of
def yc:=@PySem.mem_of_lookup
def o4:=@PySem.wpAny_Call_Name_kw
def aa:=@PySem.wpAny_bind
def jh:=@PySem.wpAny_callSpecial?_slot
def jr:=@PySem.wpAny_call_entry
def ux:=@PySem.wpAny_dictEntries
def gm:=@PySem.wpAny_field
def sr:=@PySem.wpAny_forIn_list
def je:=@PySem.wpAny_holding
def qe:=@PySem.wpAny_isInstance
def m8:=@PySem.wpAny_mono
def jx:=@PySem.wpAny_newObj_type
def ql:=@PySem.wpAny_passesOwn
def aj:=@PySem.wpAny_pure
def o5:=@PySem.wpAny_pyIter_tuple
def oh:=@PySem.wpAny_seqItems
def uq:=@PySem.wpAny_setField
def jt:=@PySem.wpAny_setField_rec
def ph:=@PySem.wpAny_setState_of
def jy:=@PySem.wpAny_truthy_bool
def uy:=@PySem.wpAny_typeNameOfWhole_keyiter
def uz:=@PySem.wpAny_typeNameOfWhole_valiter
def ye:=@beq_eq_false_iff_ne
def zu:=@beq_self_eq_true
def mz:=@congrArg
def u0:=@decide_eq_false
def dm:=@decide_eq_true_eq
def jg:=@if_false
def cj:=@if_neg
def bz:=@if_pos
def jk:=@if_true
def jn:=@of_decide_eq_true
abbrev Fg:=PySem.W.Frag
def a_{a b c:Nat}(h:a<=b)(k:b<=c):a<=c:=az h k
def b_{a b c:Nat}(h:a<b)(k:b<=c):a<c:=gw h k
def c_{a b c:Nat}(h:a<=b)(k:b<c):a<c:=Nat.lt_of_le_of_lt h k
def d_{a b c:Nat}(h:a<b)(k:b<c):a<c:=Nat.lt_trans h k
def e_{a b:Nat}(h:a<b):a<=b:=vq h
def f_{a b:Nat}(h:a=b):a<=b:=Nat.le_of_eq h
def g_{a b:Nat}(h:a=b):b<=a:=Nat.le_of_eq h.symm
def i_{a b:Nat}(h:b<a):a≠b:=vy h
def j_{a b:Nat}(h:b<=a):¬a<b:=Nat.not_lt_of_le h
def l_{p:Prop}{a b:Nat}(h:a<b)(k:b<=a):p:=absurd h (Nat.not_lt_of_le k)
def m_{a b:Nat}(h:a<b):(a:Int)<(b:Int):=Int.ofNat_lt.mpr h
def q_{a:Nat}:(0:Int)<=(a:Int):=jc a
def r_{a b c:Nat}(h:a+c<=b):a<=b-c:=Nat.le_sub_of_add_le h
def s_{a b:Nat}(h:¬a<b):b<=a:=Nat.le_of_not_lt h
def t_{a b:Nat}(h:¬a<=b):b<a:=Nat.lt_of_not_le h
def u_{a b:Nat}(h:a<=b)(k:b<=a):a=b:=Nat.le_antisymm h k
def v_{a b c:Nat}(h:a<=b):a+c<=b+c:=Nat.add_le_add_right h c
def w_{a b c:Nat}(h:a<=b):c+a<=c+b:=Nat.add_le_add_left h c
def x_{a b:Nat}:a<=a+b:=zr a b
def z_{a b:Nat}(h:a<b+1):a<=b:=Nat.le_of_lt_succ h
def A_{a b:Nat}(h:a<=b):a<b+1:=Nat.lt_succ_of_le h
def C_{a b:Nat}:a-b<=a:=Nat.sub_le a b
def hG{P:Prop}(h:∀G:Prop,(P->G)->G):P:=h P id
noncomputable section
namespace STb
open PySem
def Xh{prog:Program}{w:World}{A:Around}{G:Type}{Q:G->Shared->Prop}{E:Y1}{s:Shared}(U:A.handled=none)(q:∀Z x,(∀b o,s.heap.get? b=some o->Z.get? b=some o)->(∃o,Z.get? x=some o/\o.cls=.type "StopIteration")->E (.ref x) { s with heap:=Z }):wpAny (model prog w) A (newExc (.type "StopIteration") [] >>= raiseNew) Q E s:=by simp only[newExc,newTuple];refine aa (aa (jx (aa (m:=firstArgMember _ _) (wpAny_of_eq (a:=Value.none) (by first|rfl|(simp only[firstArgMember];rfl)) (jx ?_ (by size_fits)))) (by size_fits)));simp only[raiseNew];refine aa (wpAny_handled ?_);rw[U];exact aa (aj (wpAny_throw (q _ _ (λb o e=>aq _ (aq _ e)) ⟨_,bu _ rfl,rfl⟩)))
open PySem SetTable
def Srt(Z:Array Nat):Prop:=∀(i j a b:Nat),Z[i]?=some a->Z[j]?=some b->i<j->a<b
def anh(hs:Srt U):∀(Z G hi:Nat),G<=hi->hi<=U.size->hi-G<=Z ->
 (∀(i a:Nat),U[i]?=some a->i<G->a<j)->(∀(i a:Nat),U[i]?=some a->hi<=i->j<=a) ->
 below.go U j Z G hi<=U.size/\(∀(i a:Nat),U[i]?=some a->i<below.go U j Z G hi->a<j)/\(∀(i a:Nat),U[i]?=some a->below.go U j Z G hi<=i->j<=a):=by
 intro Z
 induction Z with
 |zero =>
  intro G hi h1 h2 h3 h4 h5;unfold below.go;have:G=hi:=by lia
  subst this;exact⟨h2,h4,h5⟩
 |succ Z ih =>
  intro G hi h1 h2 h3 h4 h5;unfold below.go
  by_cases Iu:G<hi
  .simp only[bz Iu]
   have hm:(G+hi) / 2<U.size:=by lia
   have hg:U[(G+hi) / 2]?=some U[(G+hi) / 2]:=by simp[hm]
   have qq:U.getD ((G+hi) / 2) j=U[(G+hi) / 2]:=by simp[Array.getD,hm]
   rw[qq]
   by_cases hc:U[(G+hi) / 2]<j
   .rw[bz hc]
    refine ih _ _ (by lia) h2 (by omega) (λi a e l=>?_) h5
    by_cases R:i=(G+hi) / 2
    .subst R;rw[hg] at e;cases e;exact hc
    .exact Nat.lt_trans (hs _ _ _ _ e hg (by lia)) hc
   .rw[cj hc]
    refine ih _ _ (by lia) (e_ hm) (by omega) h4 (λi a e l=>?_)
    by_cases R:i=(G+hi) / 2
    .subst R;rw[hg] at e;cases e;exact s_ hc
    .have:=hs _ _ _ _ hg e (by lia);exact e_ (c_ (s_ hc) this)
  .rw[cj Iu]
   have:G=hi:=u_ h1 (s_ Iu);subst this;exact⟨h2,h4,h5⟩
def Iv(G:Srt Z):below Z j<=Z.size/\(∀(i a:Nat),Z[i]?=some a->i<below Z j->a<j)/\(∀(i a:Nat),Z[i]?=some a->below Z j<=i->j<=a) :=
 anh G _ _ _ (iy _) (bc _) C_ (λi a _ h=>absurd h (qi _)) (λi a e h=>by
  have:=(jj.mp e).1;lia)
def below_at(G:Srt Z)(h:Z[i]?=some j):below Z j=i:=by
 obtain⟨h1,h2,R⟩:=Iv (j:=j) G;rcases Nat.lt_trichotomy (below Z j) i with l|l|l
 .have li:=(jj.mp h).1
  have U:Z[below Z j]?=some Z[below Z j]:=by simp
  have a:=R _ _ U (bc _);have b:=G _ _ _ _ U h l
  lia
 .exact l
 .have:=h2 _ _ h l;lia
def V3(j:Nat):has #[] j=false:=by simp[has]
set_option tactic.hygienic true in
def Ph{t:SetTable}(Z:Srt t.place):t.slot j=.live i↔t.place[i]?=some j:=by
 unfold slot;constructor
 .intro h
  dsimp only at h;split at h
  .rename_i e;cases h;simpa using e
  .split at h<;>cases h
 .intro h
  dsimp only;rw[below_at Z h,h];simp
def ab2{t:SetTable}(Z:Srt t.place)(G:t.dummies=#[]):t.slot j=.empty↔∀i:Nat,t.place[i]?≠some j:=by
 constructor
 .intro h i e
  rw[(Ph Z).mpr e] at h;cases h
 .intro h
  unfold slot;dsimp only;rw[G,V3,cj (by simpa using h _)];rfl
def Lj(Z:Array α)(p:Nat)(x:α)(hp:p<=Z.size)(i:Nat):(insertAt Z p x)[i]?=if i<p then Z[i]? else if i=p then some x else Z[i-1]?:=by
 rw[<- o7,toList_insertAt];have U:(Z.toList.take p).length=p:=by simp;lia
 by_cases G:i<p
 .rw[bz G,gb (b_ G (g_ U)),List.getElem?_take,bz G,o7]
 .rw[cj G,p8 (a_ (f_ U) (s_ G)),U]
  by_cases R:i=p
  .subst R;simp
  .rw[cj R]
   obtain⟨q,hq⟩:∃q,i=p+q+1:=⟨i-p-1,by lia⟩;subst hq;rw[show p+q+1-p=q+1 by lia,xn,List.getElem?_drop,show p+q+1-1=p+q by lia,o7]
def Ka(Z:Array α)(p:Nat)(x:α):(insertAt Z p x).size=Z.size+1:=by have:=(insertAt_perm Z p x).length_eq;simpa using this
noncomputable def up(p i:Nat):Nat:=if i<p then i else i+1
def Mv(Z:Array α)(p:Nat)(x:α)(G:p<=Z.size)(i:Nat):(insertAt Z p x)[up p i]?=Z[i]?:=by
 rw[Lj Z p x G];unfold up
 by_cases h:i<p
 .simp[h]
 .rw[cj h,cj (j_ (a_ (s_ h) x_)),cj (i_ (A_ (s_ h)))];rfl
def Ii(Z:Array α)(p:Nat)(x:α)(G:p<=Z.size):(insertAt Z p x)[p]?=some x:=by rw[Lj Z p x G];simp
def Ln(p i:Nat):i=p\/∃k,i=up p k:=by
 unfold up;rcases Nat.lt_trichotomy i p with h|h|h
 .exact .inr ⟨i,by simp[h]⟩
 .exact .inl h
 .exact .inr ⟨i-1,by rw[cj (by omega)];lia⟩
def ani(hs:Srt U)(hn:∀i:Nat,U[i]?≠some j):Srt (insertAt U (below U j) j):=by
 obtain⟨R,h2,h3⟩:=Iv (j:=j) hs;intro a b x y G Z l;rcases Ln (below U j) a with rfl|⟨a',rfl⟩<;>rcases Ln (below U j) b with hb|⟨b',rfl⟩
 .subst hb;lia
 .rw[Ii _ _ _ R] at G
  rw[Mv _ _ _ R] at Z;cases G;have:below U j<=b':=by unfold up at l;split at l<;>omega
  have g:=h3 _ _ Z this;rcases Nat.lt_or_eq_of_le g with g|g
  .exact g
  .subst g;exact absurd Z (hn _)
 .subst hb
  rw[Ii _ _ _ R] at Z;rw[Mv _ _ _ R] at G;cases Z;exact h2 _ _ G (by unfold up at l;split at l<;>omega)
 .rw[Mv _ _ _ R] at G Z
  exact hs _ _ _ _ G Z (by unfold up at l;split at l<;>split at l<;>omega)
noncomputable def adv(m:Nat)(p:Probe):Probe:=({ SetTable.fresh 0 0 true with mask:=m }:SetTable).advance p
def ati(t:SetTable)(p:Probe):t.advance p=adv t.mask p:=rfl
def Xi(h:p.more > 0):adv m p={ p with j:=p.j+1,more:=p.more-1 }:=bz h
def Sv(h:¬p.more > 0):adv m p={ p with j:=(leap m p.i p.perturb).1,more:=runEnd m (leap m p.i p.perturb).1-(leap m p.i p.perturb).1,i:=(leap m p.i p.perturb).1,perturb:=(leap m p.i p.perturb).2 }:=cj h
noncomputable def beg(m i pt:Nat):Probe:={ j:=i,more:=runEnd m i-i,i:=i,perturb:=pt,dummy:=none }
def P(m:Nat)(h:Int):Nat->Probe
 |0=>beg m (bits h%(m+1)) (bits h)|n+1=>adv m (P m h n)
def Zt(t:SetTable)(h:Int):t.probeStart h=P t.mask h 0:=rfl
theorem Xj(m:Nat)(h:Int):∀n,(P m h n).dummy=none
 |0=>rfl
 |n+1=>by
  show(adv m (P m h n)).dummy=none
  by_cases q:(P m h n).more > 0
  .rw[Xi q];exact Xj m h n
  .rw[Sv q];exact Xj m h n
noncomputable def I(m:Nat)(h:Int):Nat->Nat
 |0=>bits h%(m+1)|T+1=>(I m h T*5+1+bits h / 32 ^ (T+1))%(m+1)
def anj(m i:Nat):runEnd m i-i<=9:=by unfold runEnd;split<;>lia
theorem Zu{m:Nat}{h:Int}{n i pt:Nat}(e:P m h n=beg m i pt):∀c,c<=runEnd m i-i->P m h (n+c)={ j:=i+c,more:=runEnd m i-i-c,i:=i,perturb:=pt,dummy:=none }
 |0,_=>by rw[Nat.add_zero,e];rfl
 |c+1,hc=>by
  have:=Zu e c (by lia);show adv m (P m h (n+c))=_;rw[this,Xi (by show 0<runEnd m i-i-c;lia)];simp only
  congr 1
def ah9(e:P m h n=beg m i pt):P m h (n+(runEnd m i-i)+1)=beg m ((i*5+1+pt / 32)%(m+1)) (pt / 32):=by show adv m (P m h (n+(runEnd m i-i)))=_;rw[Zu e _ (bc _),Sv (by simp)];rfl
theorem aia(m:Nat)(h:Int):∀T,∃n,n<=10*T/\P m h n=beg m (I m h T) (bits h / 32 ^ T)
 |0=>⟨0,iy _,by simp[P,I]⟩
 |T+1=>by
  obtain⟨n,G,Z⟩:=aia m h T;have:=anj m (I m h T);refine⟨_,?_,(ah9 Z).trans ?_⟩
  .lia
  .rw[Nat.div_div_eq_div_mul,<- Nat.pow_succ];rfl
noncomputable def f5(m x:Nat):Nat:=(x*5+1)%(m+1)
def it(m:Nat):Nat->Nat->Nat
 |0,x=>x|k+1,x=>f5 m (it m k x)
theorem Sw(m a x:Nat):∀k,it m (a+k) x=it m k (it m a x)
 |0=>rfl|k+1=>by show f5 m (it m (a+k) x)=_;rw[Sw m a x k];rfl
def Cov(m:Nat):Prop:=∀i j,i<=m->j<=m->∃k,k<=m/\it m k i=j
def atj(h0:it m (m+1) 0=0)(h:∀j,j<=m->∃k,k<=m/\it m k 0=j):Cov m:=λi j U hj=>by
 obtain⟨a,la,G⟩:=h i U;obtain⟨b,lb,Z⟩:=h j hj
 by_cases R:a<=b
 .refine⟨b-a,a_ C_ lb,?_⟩
  rw[<- G,<- Sw,show a+(b-a)=b by lia,Z]
 .refine⟨m+1+b-a,by omega,?_⟩
  rw[<- G,<- Sw,show a+(m+1+b-a)=(m+1)+b by lia,Sw,h0,Z]
def orb(m:Nat):Nat->Nat->List Nat
 |0,_=>[]|k+1,x=>x::orb m k (f5 m x)
theorem ad1{m:Nat}:∀{k x j:Nat},j∈orb m k x->∃q,q<k/\it m q x=j
 |0,_,_,h=>by simp[orb] at h
 |k+1,x,j,h=>by
  simp only[orb,dg] at h;rcases h with rfl|h
  .exact⟨0,A_ (iy _),rfl⟩
  .obtain⟨q,l,e⟩:=ad1 h
   refine⟨1+q,by lia,?_⟩;rw[Sw];exact e
def Nv(G:it m (m+1) 0=0)(h:((List.range (m+1)).all λj=>(orb m (m+1) 0).contains j)=true):Cov m :=
 atj G λj Z=>by have:=qw.mp h j (by simp;exact A_ Z);obtain⟨q,l,e⟩:=ad1 (by simpa using this);exact⟨q,z_ l,e⟩
def Msk(m:Nat):Prop:=m=7\/m=15\/m=31\/m=63\/m=127
def a6s:Cov 7:=Nv (by decide+kernel) (by decide+kernel)
def ay5:Cov 15:=Nv (by decide+kernel) (by decide+kernel)
def ay6:Cov 31:=Nv (by decide+kernel) (by decide+kernel)
def ay7:Cov 63:=Nv (by decide+kernel) (by decide+kernel)
def atk:Cov 127:=Nv (by decide+kernel) (by decide+kernel)
def Msk.cov(h:Msk m):Cov m:=by
 rcases h with rfl|rfl|rfl|rfl|rfl
 .exact a6s
 .exact ay5
 .exact ay6
 .exact ay7
 .exact atk
def ank(h:Int):bits h<2 ^ 64:=by
 unfold bits;have G:=Ad h (b:=2 ^ 64) (by decide);have Z:=yo h (b:=2 ^ 64) (by decide)
 lia
theorem ay8(m:Nat)(h:Int):∀T,I m h T<=m
 |0=>Nat.le_of_lt_succ (Nat.mod_lt (bits h) (Nat.succ_pos m))|T+1=>Nat.le_of_lt_succ (Nat.mod_lt (I m h T*5+1+bits h / 32 ^ (T+1)) (Nat.succ_pos m))
theorem aib(m:Nat)(h:Int):∀k,I m h (13+k)=it m k (I m h 13)
 |0=>rfl
 |k+1=>by
  show(I m h (13+k)*5+1+bits h / 32 ^ (13+k+1))%(m+1)=f5 m (it m k (I m h 13));have:bits h / 32 ^ (13+k+1)=0:=by
   apply Nat.div_eq_of_lt;refine gw (ank h) ?_
   calc 2 ^ 64<=32 ^ 13:=by decide
    _<=32 ^ (13+k+1):=Nat.pow_le_pow_right (by decide) (a_ x_ x_)
  rw[this,aib m h k];rfl
def cover(U:Msk m)(h:Int)(j:Nat)(G:j<=m):∃T,T<=13+m/\I m h T=j:=by obtain⟨k,Z,e⟩:=U.cov (I m h 13) j (ay8 m h 13) G;exact⟨13+k,w_ Z,(aib m h k).trans e⟩
def anl(U:Msk m)(h:Int)(j:Nat)(G:j<=m):∃n,n<10*turns m/\(P m h n).j=j:=by obtain⟨T,lT,e⟩:=cover U h j G;obtain⟨n,R,Z⟩:=aia m h T;exact⟨n,by unfold turns;lia,by rw[Z];exact e⟩
def mod_le(a m:Nat):a%(m+1)<=m:=Nat.le_of_lt_succ (Nat.mod_lt a (Nat.succ_pos m))
def Pj(h:i<=m):i<=runEnd m i/\runEnd m i<=m:=by unfold runEnd;split<;>omega
theorem ay9(m:Nat)(h:Int):∀n,(P m h n).j+(P m h n).more<=m
 |0=>by
  have:=Pj (mod_le (bits h) m);show bits h%(m+1)+(runEnd m (bits h%(m+1))-bits h%(m+1))<=m
  omega
 |n+1=>by
  have Z:=ay9 m h n;show(adv m (P m h n)).j+(adv m (P m h n)).more<=m
  by_cases q:(P m h n).more > 0
  .rw[Xi q];simp only;lia
  .rw[Sv q]
   have:=Pj (mod_le ((P m h n).i*5+1+(P m h n).perturb / 32) m);show(leap m (P m h n).i (P m h n).perturb).1+(runEnd m (leap m (P m h n).i (P m h n).perturb).1-(leap m (P m h n).i (P m h n).perturb).1)<=m
   have e:(leap m (P m h n).i (P m h n).perturb).1=((P m h n).i*5+1+(P m h n).perturb / 32)%(m+1):=rfl;rw[e];omega
def a6t(m:Nat)(h:Int)(n:Nat):(P m h n).j<=m:=by have:=ay9 m h n;lia
def Occ(t:SetTable)(j:Nat):Prop:=∃i:Nat,t.place[i]?=some j
structure V4(t:SetTable)(es:Array (Int×Value)):Prop where
 msk:Msk t.mask
 dum:t.dummies=#[]
 Zk:t.place.size=es.size
 srt:Srt t.place
 bnd:∀(i j:Nat),t.place[i]?=some j->j<=t.mask
 ful:t.place.size<=t.mask
 rch:∀(i j:Nat) e,t.place[i]?=some j->es[i]?=some e->∃n,(P t.mask e.1 n).j=j/\∀m,m<n->Occ t (P t.mask e.1 m).j
theorem V4.fits(k:V4 t es):t.fits es.size=true:=by unfold SetTable.fits fill;rw[k.dum];simp[k.Zk];have:=k.ful;have:=k.Zk;lia
def Msk.odd(h:Msk m):m%2=1:=by rcases h with rfl|rfl|rfl|rfl|rfl<;>rfl
def V4.way(k:V4 t es):t.gaveWay=false:=by unfold gaveWay;rw[k.msk.odd];rfl
def aic(hs:Srt G)(h:G.size<=m):∃j,j<=m/\∀i:Nat,G[i]?≠some j:=by
 apply Classical.byContradiction;intro hn;have all:∀j,j<=m->∃i:Nat,G[i]?=some j:=λj U=>by apply Classical.byContradiction;intro hc;exact hn ⟨j,U,λi e=>hc ⟨i,e⟩⟩
 have:∀j,j<=m->∀i:Nat,G[i]?=some j->j<=i:=by
  intro j
  induction j with
  |zero=>intro _ i _;exact iy _
  |succ j ih =>
   intro U i e;obtain⟨R,Z⟩:=all j (by lia);have:=ih (by lia) R Z;rcases Nat.lt_trichotomy i R with l|l|l
   .have:=hs _ _ _ _ e Z l;lia
   .subst l;rw[e] at Z;injection Z with Z;exact a_ (f_ Z) this
   .exact a_ (v_ this) l
 obtain⟨i,e⟩:=all m (bc _);have h1:=this m (bc _) i e;have h2:=(jj.mp e).1;exact l_ h2 (a_ h h1)
structure Fst(t:SetTable)(h:Int)(N:Nat):Prop where
 lt:N<10*turns t.mask
 emp:¬Occ t (P t.mask h N).j
 occ:∀m,m<N->Occ t (P t.mask h m).j
def least{p:Nat->Prop}:∀{n:Nat},p n->∃k,k<=n/\p k/\∀m,m<k->¬p m:=by
 intro n
 induction n using Nat.strongRecOn with
 |ind n U =>
  intro h
  by_cases G:∃m,m<n/\p m
  .obtain⟨m,l,Z⟩:=G
   obtain⟨k,R,a,b⟩:=U m l Z;exact⟨k,e_ (c_ R l),a,b⟩
  .exact⟨n,bc _,h,λm l Z=>G ⟨m,l,Z⟩⟩
def V4.fst(k:V4 t es)(h:Int):∃N,Fst t h N:=by obtain⟨j,G,e⟩:=aic k.srt k.ful;obtain⟨n,R,Z⟩:=anl k.msk h j G;obtain⟨N,l,a,b⟩:=least (p:=λn=>¬Occ t (P t.mask h n).j) (n:=n) (λ⟨i,c⟩=>e i (by rw[Z] at c;exact c));exact⟨N,c_ l R,a,λm U=>Classical.not_not.mp (b m U)⟩
theorem aid(k:V4 t es)(F:Fst t h N)(G:Nat->Int):∀(Z n:Nat),n<=N->N-n<Z ->
 (probe.go t G h Z (P t.mask h n)=some (.empty (P t.mask h N).j none)/\∀m,n<=m->m<N->∀i:Nat,t.place[i]?=some (P t.mask h m).j->G i≠h)
\/∃m i:Nat,n<=m/\m<N/\t.place[i]?=some (P t.mask h m).j/\G i=h/\(∀q,n<=q->q<m->∀i:Nat,t.place[i]?=some (P t.mask h q).j->G i≠h)
 /\probe.go t G h Z (P t.mask h n)=some (.candidate (P t.mask h m).j i (P t.mask h (m+1))):=by
 intro Z
 induction Z with
 |zero=>intro n _ l;omega
 |succ Z ih =>
  intro n hn l;unfold probe.go
  by_cases e:n=N
  .subst e
   left
   rw[(ab2 k.srt k.dum).mpr (λi c=>F.emp ⟨i,c⟩)];simp only;rw[Xj];exact⟨rfl,λm a b=>by lia⟩
  .obtain⟨i,hi⟩:=F.occ n (by lia)
   rw[(Ph k.srt).mpr hi];simp only[ati];have qq:adv t.mask (P t.mask h n)=P t.mask h (n+1):=rfl;rw[qq]
   by_cases R:G i=h
   .right
    refine⟨n,i,bc _,by lia,hi,R,λq a b=>by lia,?_⟩;rw[bz (by simp[R])]
   .rw[cj (by simp[R])]
    have un:∀U:Nat,t.place[U]?=some (P t.mask h n).j->G U≠h:=λU e'=>by have a:=below_at k.srt e';have b:=below_at k.srt hi;rw[<- a,b];exact R
    rcases ih (n+1) (by lia) (by lia) with⟨a,b⟩|⟨m,U,a,b,c,d,e1,e2⟩
    .left
     refine⟨a,λm x y=>?_⟩
     by_cases q:m=n
     .subst q;exact un
     .exact b m (by lia) y
    .right
     refine⟨m,U,by lia,b,c,d,λq x y=>?_,e2⟩
     by_cases z:q=n
     .subst z;exact un
     .exact e1 q (by lia) y
def V4.ahead(k:V4 t es)(F:Fst t h N){i:Nat}(G:es[i]?=some e)(R:e.1=h):∃m,m<N/\t.place[i]?=some (P t.mask h m).j:=by
 have U:i<t.place.size:=by rw[k.Zk];exact(jj.mp G).1
 have Z:t.place[i]?=some t.place[i]:=by simp[U]
 obtain⟨n,a,b⟩:=k.rch i _ e Z G;subst R;refine⟨n,?_,by rw[a];exact Z⟩;rcases Nat.lt_trichotomy n N with l|l|l
 .exact l
 .subst l;exact absurd ⟨i,by rw[a];exact Z⟩ F.emp
 .exact absurd (b N l) F.emp
def Xk(G:Srt t.place)(q:Nat):Occ (t.put j).1 q↔q=j\/Occ t q:=by
 obtain⟨Z,U,R⟩:=Iv (j:=j) G;constructor
 .rintro⟨i,e⟩
  have e:(insertAt t.place (below t.place j) j)[i]?=some q:=e;rcases Ln (below t.place j) i with rfl|⟨i',rfl⟩
  .rw[Ii _ _ _ Z] at e;cases e;exact .inl rfl
  .rw[Mv _ _ _ Z] at e;exact .inr ⟨i',e⟩
 .rintro(rfl|⟨i,e⟩)
  .exact⟨_,Ii _ _ _ Z⟩
  .exact⟨up (below t.place j) i,(Mv _ _ _ Z i).trans e⟩
theorem V4.put(k:V4 t es)(F:Fst t h N)(room:t.place.size+1<=t.mask) :
 V4 (t.put (P t.mask h N).j).1 (insertAt es (t.put (P t.mask h N).j).2 (h,x)):=by
 obtain⟨R,h2,h3⟩:=Iv (j:=(P t.mask h N).j) k.srt;have U:below t.place (P t.mask h N).j<=es.size:=by rw[<- k.Zk];exact R
 refine⟨k.msk,?_,?_,?_,?_,?_,?_⟩
 .show(if has t.dummies _ then _ else t.dummies)=#[]
  rw[k.dum,V3];rfl
 .show(insertAt t.place _ _).size=(insertAt es _ _).size
  rw[Ka,Ka,k.Zk]
 .exact ani k.srt (λi e=>F.emp ⟨i,e⟩)
 .intro i j e
  rcases(Xk k.srt j).mp ⟨i,e⟩ with rfl|⟨i',e'⟩
  .exact a6t _ _ _
  .exact k.bnd i' j e'
 .show(insertAt t.place _ _).size<=t.mask
  rw[Ka];exact room
 .intro i j e Z G
  have Z:(insertAt t.place (below t.place (P t.mask h N).j) (P t.mask h N).j)[i]?=some j:=Z;have G:(insertAt es (below t.place (P t.mask h N).j) (h,x))[i]?=some e:=G;show ∃n,(P t.mask e.1 n).j=j/\∀m,m<n->Occ (t.put (P t.mask h N).j).1 (P t.mask e.1 m).j
  rcases Ln (below t.place (P t.mask h N).j) i with rfl|⟨i',rfl⟩
  .rw[Ii _ _ _ R] at Z
   rw[Ii _ _ _ U] at G;cases Z;cases G;exact⟨N,rfl,λm l=>(Xk k.srt _).mpr (.inr (F.occ m l))⟩
  .rw[Mv _ _ _ R] at Z
   rw[Mv _ _ _ U] at G;obtain⟨n,a,b⟩:=k.rch i' j e Z G;exact⟨n,a,λm l=>(Xk k.srt _).mpr (.inr (b m l))⟩
abbrev OcO(ow:Array (Option Nat))(j:Nat):Prop:=∃i,ow[j]?=some (some i)
structure Own(m:Nat)(ow:Array (Option Nat))(hs:X9):Prop where
 Zk:ow.size=m+1
 cnt:ow.toList.countP Option.isSome=hs.length
 lt:∀(j i:Nat),ow[j]?=some (some i)->i<hs.length
 inj:∀(j j' i:Nat),ow[j]?=some (some i)->ow[j']?=some (some i)->j=j'
 at':∀(i:Nat) h,hs[i]?=some h->∃j n,ow[j]?=some (some i)/\(P m h n).j=j/\∀q,q<n->OcO ow (P m h q).j
def getD_none{Z:Array (Option Nat)}(G:Z.size=m+1)(h:(Z.getD j (some 0)).isNone=true):Z[j]?=some none:=by
 by_cases l:j<Z.size
 .simp[Array.getD,l] at h;simp[l,h]
 .simp[Array.getD,l] at h
def getD_some(G:Z.size=m+1)(U:j<=m)(h:¬(Z.getD j (some 0)).isNone=true):OcO Z j:=by
 have l:j<Z.size:=by lia
 simp[Array.getD,l] at h;unfold OcO;rw[show Z[j]?=some Z[j] by simp[l]];cases e:Z[j] with
 |none=>exact absurd e h|some i=>exact⟨i,rfl⟩
def agp(hz:G.size=m+1)(h:Int):∀(Z T n:Nat),P m h n=beg m (I m h T) (bits h / 32 ^ T)->(∀q,q<n->OcO G (P m h q).j) ->
 (∃k,k<Z/\G[I m h (T+k)]?=some none)->∃j R,layClean.free m G Z (I m h T) (bits h / 32 ^ T)=some j/\(P m h R).j=j/\G[j]?=some none/\∀q,q<R->OcO G (P m h q).j:=by
 intro Z
 induction Z with
 |zero=>rintro T n _ _ ⟨k,l,_⟩;lia
 |succ Z ih =>
  rintro T n e hq ⟨k,lk,ek⟩;have hI:=ay8 m h T;obtain⟨r1,r2⟩:=Pj hI;unfold layClean.free;cases hf:(List.range (runEnd m (I m h T)+1-I m h T)).find? λk=>(G.getD (I m h T+k) (some 0)).isNone with
  |some c =>
   obtain⟨a,b,d⟩:=List.find?_range_eq_some.mp hf;have b:=lq.mp b;refine⟨_,n+c,rfl,by rw[Zu e c (by omega)],getD_none hz a,λq l=>?_⟩
   by_cases hn:q<n
   .exact hq q hn
   .obtain⟨c',rfl⟩:∃c',q=n+c':=⟨q-n,by lia⟩
    rw[Zu e c' (by lia)];show OcO G (I m h T+c');exact getD_some hz (by lia) (λhh=>by
     have:=d c' (by lia);simp only[hh] at this;cases this)
  |none =>
   have J6:=List.find?_eq_none.mp hf;have U:∀c,c<=runEnd m (I m h T)-I m h T->OcO G (I m h T+c):=λc hc=>getD_some hz (by lia) (J6 c (lq.mpr (by lia)))
   cases k with
   |zero =>
    obtain⟨i,ei⟩:=U 0 (iy _);rw[Nat.add_zero] at ek ei;rw[ek] at ei;cases ei
   |succ k =>
    have pe:bits h / 32 ^ T / 32=bits h / 32 ^ (T+1):=by rw[Nat.div_div_eq_div_mul,<- Nat.pow_succ]
    have:=ih (T+1) (n+(runEnd m (I m h T)-I m h T)+1) (by rw[ah9 e,pe];rfl) (λq l=>?_) ⟨k,by lia,by rw[show T+1+k=T+(k+1) by lia];exact ek⟩
    .obtain⟨j,R,e1,e2⟩:=this
     refine⟨j,R,?_,e2⟩;rw[<- e1];show layClean.free m G Z ((I m h T*5+1+bits h / 32 ^ T / 32)%(m+1)) (bits h / 32 ^ T / 32)=_;rw[pe];rfl
    .by_cases hn:q<n
     .exact hq q hn
     .obtain⟨c',rfl⟩:∃c',q=n+c':=⟨q-n,by lia⟩
      rw[Zu e c' (by lia)];show OcO G (I m h T+c');exact U c' (by lia)
def Own.room(k:Own m Z hs)(h:hs.length<=m):∃j,j<=m/\Z[j]?=some none:=by
 apply Classical.byContradiction;intro hn;have:Z.toList.countP Option.isSome=Z.toList.length:=List.countP_eq_length.mpr λa R=>by
  obtain⟨j,U,e⟩:=xu R;cases a with
  |some i=>rfl
  |none =>
   have G:j<Z.size:=by simpa using U
   refine absurd ⟨j,by have:=k.Zk;exact z_ (b_ G (f_ this)),?_⟩ hn;rw[<- o7,bj U,e]
 rw[k.cnt] at this;have:=k.Zk;simp at *
 lia
theorem Own.free(hm:Msk m)(k:Own m Z R)(U:R.length<=m)(h:Int):∃j G,layClean.free m Z (turns m) (bits h%(m+1)) (bits h)=some j/\(P m h G).j=j/\Z[j]?=some none/\∀q,q<G->OcO Z (P m h q).j:=by obtain⟨j,hj,e⟩:=k.room U;obtain⟨T,lT,eT⟩:=cover hm h j hj;have:=agp k.Zk h (turns m) 0 0 (by simp[P,I]) (λq l=>by lia) ⟨T,by unfold turns;lia,by rw[vz,eT];exact e⟩;simpa[I] using this
def Own.lay(k:Own m Z G)(e1:(P m h n').j=j)(e2:Z[j]?=some none)(e3:∀q,q<n'->OcO Z (P m h q).j) :
 Own m (Z.setIfInBounds j (some G.length)) (G++[h]):=by
 have lj:j<Z.size:=(jj.mp e2).1
 have get:∀q:Nat,(Z.setIfInBounds j (some G.length))[q]?=if j=q then some (some G.length) else Z[q]?:=λq=>by rw[Array.getElem?_setIfInBounds];split<;>simp_all
 have U:∀q,OcO Z q->OcO (Z.setIfInBounds j (some G.length)) q:=λq ⟨i,e⟩=>by refine⟨i,?_⟩;rw[get,cj (λh=>by subst h;rw[e2] at e;cases e)];exact e
 refine⟨by simp[k.Zk],?_,λq i e=>?_,λq q' i e R=>?_,λi h' e=>?_⟩
 .rw[Array.toList_setIfInBounds,List.countP_set (by simpa using lj),k.cnt]
  have:Z.toList[j]'(by simpa using lj)=none:=by have:=(jj.mp e2).2;simpa using this
  rw[this];simp
 .rw[get] at e
  split at e
  .cases e;simp
  .have:=k.lt q i e;simp;exact A_ (e_ this)
 .rw[get] at e R
  split at e<;>split at R
  .lia
  .cases e;have:=k.lt _ _ R;lia
  .cases R;have:=k.lt _ _ e;lia
  .exact k.inj q q' i e R
 .by_cases l:i<G.length
  .rw[gb l] at e
   obtain⟨j',n,a,b,c⟩:=k.at' i h' e;refine⟨j',n,?_,b,λq l=>U _ (c q l)⟩;rw[get,cj (λh=>by subst h;rw[e2] at a;cases a)];exact a
  .have hi:i=G.length:=by
    have:=(ak.mp e).1;simp at this;exact u_ (z_ this) (s_ l)
   subst hi;simp at e;subst e;exact⟨j,n',by rw[get,bz rfl],e1,λq l=>U _ (e3 q l)⟩
theorem ad2{m:Nat}(hm:Msk m):∀(Z G:X9)(R:Array (Option Nat)),Own m R G->G.length+Z.length<=m+1 ->
 ∃U,Z.foldl (λqq h=>do
  let (owner,k) <- qq
  let j <- layClean.free m owner (turns m) (bits h%(m+1)) (bits h)
  pure (owner.setIfInBounds j (some k),k+1)) (some (R,G.length))=some (U,G.length+Z.length)/\Own m U (G++Z)
 |[],G,R,k,_=>⟨R,rfl,by simpa using k⟩
 |h::Z,G,R,k,l=>by
  obtain⟨j,n',e0,e1,e2,e3⟩:=k.free hm (by simp at l;lia) h;have k':=k.lay e1 e2 e3;obtain⟨U,a,b⟩:=ad2 hm Z (G++[h]) _ k' (by simp at l ⊢;lia);refine⟨U,?_,by simpa using b⟩;rw[Af];have:(do
   let (owner,k) <- some (R,G.length)
   let j <- layClean.free m owner (turns m) (bits h%(m+1)) (bits h)
   pure (owner.setIfInBounds j (some k),k+1))=some (R.setIfInBounds j (some G.length),(G++[h]).length):=by
   show(layClean.free m R (turns m) (bits h%(m+1)) (bits h) >>= _)=_;rw[e0];simp
  rw[this,a]
  simp;lia
def aie(R:Msk m)(Z:Array Int)(l:Z.size<=m+1):∃G,layClean m Z=some G/\Own m G Z.toList:=by have U:Own m (Array.replicate (m+1) none) []:=⟨by simp,by simp,λj i e=>by simp[Array.getElem?_replicate] at e,λj j' i e=>by simp[Array.getElem?_replicate] at e,λi h e=>by simp at e⟩;obtain⟨G,a,b⟩:=ad2 R Z.toList [] _ U (by simpa using l);refine⟨G,?_,by simpa using b⟩;unfold layClean;rw[<- Array.foldl_toList];exact(mz (Option.map (·.1)) a).trans rfl
noncomputable def lv(m:Nat)(Z:Array (Option Nat)):List (Nat×Nat):=(List.range (m+1)).filterMap λj=>(Z.getD j none).map (j,·)
def Mw(k:Own m Z R):(j,i)∈lv m Z↔Z[j]?=some (some i):=by
 unfold lv;rw[List.mem_filterMap];constructor
 .rintro⟨q,a,b⟩
  obtain⟨i',G,U⟩:=bw.mp b;cases U;have:j<Z.size:=by rw[k.Zk];exact lq.mp a
  simp[Array.getD,this] at G;simp[this,G]
 .intro e
  have l:=(jj.mp e).1;refine⟨j,lq.mpr (by rw[<- k.Zk];exact l),?_⟩;have:Z.getD j none=some i:=by simp[Array.getD,l,(jj.mp e).2]
  rw[this];rfl
def aif(m:Nat)(R:Array (Option Nat)):(lv m R).Pairwise λa b=>a.1<b.1:=by unfold lv;refine List.Pairwise.filterMap _ (λa a' G b U b' Z=>?_) List.pairwise_lt_range;obtain⟨_,_,rfl⟩:=bw.mp U;obtain⟨_,_,rfl⟩:=bw.mp Z;exact G
def anm(k:Own m G U):((lv m G).map (·.2)).Perm (List.range U.length):=by
 refine(List.perm_ext_iff_of_nodup ?_ List.nodup_range).mpr λi=>?_
 .rw[List.nodup_iff_pairwise_ne,List.pairwise_map]
  refine(aif m G).imp_of_mem fun{a b} Z hb Iu e=>?_
  have:=k.inj a.1 b.1 a.2 ((Mw k).mp Z) (by rw[e];exact(Mw k).mp hb);exact l_ Iu (g_ this)
 .rw[dq,lq]
  constructor
  .rintro⟨a,Z,rfl⟩;exact k.lt _ _ ((Mw k).mp Z)
  .intro l
   obtain⟨j,n,a,_⟩:=k.at' i _ (bj l);exact⟨(j,i),(Mw k).mpr a,rfl⟩
theorem aih{G U:Type}{g:G->Option U}:∀{l:List G},(∀x∈l,(g x).isSome=true)->∀q:Nat,(l.filterMap g)[q]?=l[q]?.bind g
 |[],_,q=>by simp
 |x::l,h,q=>by
  have Z:=h x (bx ..);obtain⟨y,e⟩:=j9.mp Z;rw[List.filterMap_cons_some e];cases q with
  |zero=>simp[e]|succ q=>simpa using aih (λx Z=>h x (bh _ Z)) q
def ad3(hm:Msk m)(fg mv:Nat)(ld pl:Bool)(G:Array (Int×Value))(l:G.size<=m) :
 ∃t Z,laid m fg mv ld pl (G.map (·.1))=some (t,Z)/\t.mask=m/\V4 t (Z.filterMap (G[·]?))/\(Z.filterMap (G[·]?)).toList.Perm G.toList/\(Z.filterMap (G[·]?)).size=G.size
 /\t.led=ld/\t.plain=pl/\t.finger=fg/\Z.toList.Perm (List.range G.size):=by
 obtain⟨U,e,k⟩:=aie hm (G.map (·.1)) (by simp;exact a_ l x_);have V5:=anm k;simp at V5;have qq:(lv m U).length=G.size:=by have:=V5.length_eq;simpa using this
 have qk:((((lv m U).map (·.2)).toArray).filterMap (G[·]?)).size=G.size:=by have:=(V5.filterMap (G[·]?)).length_eq;rw[filterMap_getElem?_range] at this;rw[<- su,Array.toList_filterMap,this];simp
 refine⟨{ mask:=m,place:=((lv m U).map (·.1)).toArray,dummies:=#[],finger:=fg,led:=ld,moves:=mv,plain:=pl },((lv m U).map (·.2)).toArray,?_,rfl,?_,?_,?_,rfl,rfl,rfl,V5⟩
 .unfold laid;rw[e];rfl
 .have q0:∀x∈(lv m U).map (·.2),(G[x]?).isSome=true:=λx hx=>by
   have:=lq.mp (V5.mem_iff.mp hx)
   simp;exact this
  have get:∀q:Nat,((((lv m U).map (·.2)).toArray).filterMap (G[·]?))[q]?=((lv m U)[q]?).bind λa=>G[a.2]?:=λq=>by rw[<- o7,Array.toList_filterMap,aih q0,iu];cases(lv m U)[q]?<;>rfl
  have R:∀q j:Nat,(((lv m U).map (·.1)).toArray)[q]?=some j↔∃i,(lv m U)[q]?=some (j,i):=λq j=>by
   simp only[List.getElem?_toArray,iu,bw];constructor
   .rintro⟨a,h,rfl⟩;exact⟨a.2,h⟩
   .rintro⟨i,h⟩;exact⟨_,h,rfl⟩
  refine⟨hm,rfl,?_,?_,?_,?_,?_⟩
  .show(((lv m U).map (·.1)).toArray).size=_
   rw[qk];simp[qq]
  .intro i j a b ea eb lt
   obtain⟨i1,e1⟩:=(R i a).mp ea;obtain⟨i2,e2⟩:=(R j b).mp eb;obtain⟨l1,g1⟩:=ak.mp e1;obtain⟨l2,g2⟩:=ak.mp e2;have:=List.pairwise_iff_getElem.mp (aif m U) i j l1 l2 lt;rw[g1,g2] at this;exact this
  .intro i j e
   obtain⟨i1,e1⟩:=(R i j).mp e;have:=(Mw k).mp (au e1);have:=(jj.mp this).1;rw[k.Zk] at this;show j<=m
   exact z_ this
  .show(((lv m U).map (·.1)).toArray).size<=m
   simp[qq];exact l
  .intro q j e' hp he
   obtain⟨i,e1⟩:=(R q j).mp hp;rw[get,e1] at he;have he:G[i]?=some e':=he;obtain⟨j',n,a,b,c⟩:=k.at' i e'.1 (by simp[he]);have hj:=k.inj j j' i ((Mw k).mp (au e1)) a;subst hj;refine⟨n,b,λw lw=>?_⟩;obtain⟨i',qv⟩:=c w lw;obtain⟨z,hz⟩:=jw.mp ((Mw k).mpr qv);exact⟨z,(R z _).mpr ⟨i',hz⟩⟩
 .rw[Array.toList_filterMap]
  have:=V5.filterMap (G[·]?);rw[filterMap_getElem?_range] at this;exact this
 .exact qk
def V6:∀n,n<32->Msk (sizeAbove (grown n)-1)/\n<=sizeAbove (grown n)-1/\n+1<=sizeAbove (grown n)-1/\¬(n*5 >= (sizeAbove (grown n)-1)*3)/\sizeAbove (grown n)<=128:=by unfold Msk;decide+kernel
section
variable{prog:Program}{w:World}{K:Type}[DecidableEq K]{knd:KeyKind prog w K}{A:Around}{E:Y1}{s:Shared}
def ab3(n:Nat)(h:carriedByValue v=true):ofAClassStatement n v=pure false:=by cases v<;>first|(simp[carriedByValue] at h;done)|(unfold ofAClassStatement;rfl)
def Sx(hk:IsTupleKey knd s.heap ks a)(h:Q false s):wpAny (model prog w) A (ofAClassStatement 8 (.ref a)) Q E s:=by
 have hT:=hk.typeIs;obtain⟨o,G,n,ho,_,hd,hi⟩:=hk;unfold ofAClassStatement;refine aa (wpAny_typeOf hT ?_);show wpAny _ _ (if("tuple"=="tuple")=true then _ else _) _ _ s;rw[bz (by decide)];refine aa (aj ?_);simp only[Aa,dj,jg];refine aa (oh ho hd ?_);refine aa ?_;show wpAny _ _ (forIn G _ _) _ _ s;rw[<- Array.forIn_toList];refine sr _ (λZ r U=>r.1=none/\U=s/\∀v∈Z,carriedByValue v=true) _ ?_ ?_ _ _ ⟨rfl,rfl,hi.byValue⟩
 .rintro v Z r U ⟨hr,rfl,J6⟩
  rw[ab3 _ (J6 v bx)];refine aa (aj ?_);simp only[dj,jg];exact aj ⟨rfl,rfl,λu R=>J6 u (bh _ R)⟩
 .rintro⟨r1,r2⟩ U ⟨hr,rfl,_⟩
  simp only at hr;subst hr;exact aj h
def aii(hk:IsTupleKey knd s.heap ks a)(hs:∀v∈st,∃ks b,v=.ref b/\IsTupleKey knd s.heap ks b)(h:Q false s) :
 wpAny (model prog w) A (searchCouldBeSeen (.ref a) st) Q E s:=by
 unfold searchCouldBeSeen;refine aa ?_;refine sr _ (λZ r U=>r.1=none/\U=s/\∀v∈Z,∃ks b,v=.ref b/\IsTupleKey knd s.heap ks b) _ ?_ ?_ _ _ ⟨rfl,rfl,hs⟩
 .rintro v Z r U ⟨R,rfl,J6⟩
  obtain⟨qq,b,rfl,hb⟩:=J6 v bx;have G:∀v∈Z,∃ks b,v=.ref b/\IsTupleKey knd U.heap ks b:=λv hv=>J6 v (bh _ hv)
  dsimp only;split
  .exact aj ⟨rfl,rfl,G⟩
  .refine aa (wpAny_eqIsQuiet_tuple hk ?_)
   simp only[Aa,dj,jg];refine aa (wpAny_eqIsQuiet_tuple hb ?_);simp only[Aa,dj,jg];refine aa (Sx hk ?_);simp only[dj,jg];refine aa (Sx hb ?_);simp only[dj,jg];exact aj ⟨rfl,rfl,G⟩
 .rintro⟨r1,r2⟩ U ⟨R,rfl,_⟩
  simp only at R;subst R;exact aj h
def ent(knd:KeyKind prog w K)(x:List K×Addr):Int×Value:=(tupleKeyHash knd x.1,.ref x.2)
def ab4{Z:Array (Int×Value)}{G:List (List K×Addr)}(U:Z.toList=G.map (ent knd))(j:Nat):Z[j]?=(G[j]?).map (ent knd):=by rw[<- o7,U,iu]
def agq{xs:List (List K×Addr)}(hu:A.units<cLine)(hk:IsTupleKey knd s.heap k p)(ho:s.heap.get? a=some o)(hd:o.data=.set es ep t)(T:V4 t es)(he:es.toList=xs.map (ent knd))(hx:∀x∈xs,IsTupleKey knd s.heap x.1 x.2)(hn:(xs.map (·.1)).Nodup)(F:Fst t (tupleKeyHash knd k) N)(zw:∀(i:Nat) x,xs[i]?=some x->x.1=k->Q (.there (if adding then none else some i)) s)(q7:(∀x∈xs,x.1≠k)->Q (.free (P t.mask (tupleKeyHash knd k) N).j false) s) :
 ∀(G n:Nat)(st:Option Probe),n<=N->N-n<G->st.getD (t.probeStart (tupleKeyHash knd k))=P t.mask (tupleKeyHash knd k) n ->
  (∀m,m<n->∀(i:Nat) x,t.place[i]?=some (P t.mask (tupleKeyHash knd k) m).j->xs[i]?=some x->x.1≠k) ->
  wpAny (model prog w) A (setSearchFrom a (.ref p) (tupleKeyHash knd k) adding G st) Q E s:=by
 intro G
 induction G with
 |zero=>intro n st _ l;omega
 |succ G ih =>
  intro n st z2 l Vp q2;unfold setSearchFrom;refine aa (ph ho hd T.fits ?_);dsimp only;rw[T.way,Vp];simp only[dj,jg];have q6:=aid T F (λi=>(es[i]?.map (·.1)).getD 0) (10*turns t.mask) n z2 (by have:=F.lt;exact c_ C_ this);generalize qq:t.probe _ (tupleKeyHash knd k) (P t.mask (tupleKeyHash knd k) n)=pr;have qq:t.probe (λi=>(es[i]?.map (·.1)).getD 0) (tupleKeyHash knd k) (P t.mask (tupleKeyHash knd k) n)=pr:=qq;have atI:∀(i j:Nat),t.place[i]?=some j->∃x,xs[i]?=some x/\es[i]?=some (ent knd x):=λi j e=>by
   have li:i<es.size:=by rw[<- T.Zk];exact(jj.mp e).1
   have lx:i<xs.length:=by have:=mz List.length he;simp at this;exact b_ li (f_ this)
   refine⟨xs[i],by simp[lx],?_⟩;rw[ab4 he];simp[lx]
  rcases q6 with⟨e,Zm⟩|⟨m,i,h1,h2,h3,h4,h5,e⟩
  .have e:pr=_:=qq.symm.trans e
   subst e;dsimp only;refine aj (q7 λx z1 Z=>?_);obtain⟨i,hi⟩:=jw.mp z1;have U:es[i]?=some (ent knd x):=by rw[ab4 he,hi];rfl
   obtain⟨m,lm,hp⟩:=T.ahead F U (by unfold ent;rw[Z])
   by_cases q5:m<n
   .exact q2 m q5 i x hp hi Z
   .refine Zm m (s_ q5) lm i hp ?_
    rw[U];show tupleKeyHash knd x.1=_;rw[Z]
  .have e:pr=_:=qq.symm.trans e
   subst e;dsimp only;obtain⟨x,q0,U⟩:=atI i _ h3;have z0:=hx x (au q0);have q4:∀{R:Bool->Shared->Prop},R false s->wpAny (model prog w) A (searchCouldBeSeen (.ref p) ((es.filter (·.1==tupleKeyHash knd k)).toList.map (·.2))) R E s:=λhR=>aii hk (λv hv=>by
    obtain⟨y,hy,rfl⟩:=dq.mp hv;have q3:y∈es.toList:=by simp at hy;simpa using hy.1
    rw[he] at q3;obtain⟨z,hz,rfl⟩:=dq.mp q3;exact⟨z.1,z.2,rfl,hx z hz⟩) hR
   rcases Bool.eq_false_or_eq_true t.led with azf|azf
   all_goals
    simp only[azf,Aa,Bool.not_false,dj,jg,jk]
    first
    |(rw[U];show wpAny _ _ (holding [.ref x.2] (eqBool (.ref x.2) (.ref p)) >>= _) _ _ _)
    |(refine aa (q4 ?_);simp only[dj,jg];rw[U];show wpAny _ _ (holding [.ref x.2] (eqBool (.ref x.2) (.ref p)) >>= _) _ _ _)
    refine aa (je (wpAny_eqBool_tuple hu z0 hk ?_));refine aa (ph ho hd T.fits ?_);dsimp only;have zk:t.sameMemory t.moves t.mask=some true:=by unfold sameMemory;simp
    rw[zk];dsimp only;rw[bz rfl,(Ph T.srt).mpr h3];dsimp only;rw[U]
    by_cases Z:x.1=k
    .have q1:decide (x.1=k)=true:=by simp[Z]
     rw[q1];have hq:=zw i x q0 Z;cases adding
     .simp only[Bool.false_and,dj,jg]
      refine aa (wpAny_isSame_ref_self ?_);refine aa (aj ?_);simpa using aj hq
     .simp only[Bool.and_self,jk]
      exact aj hq
    .have q1:decide (x.1=k)=false:=by simp[Z]
     rw[q1];simp only[Bool.and_false,dj,jg];refine aa (wpAny_isSame_ref_self ?_);refine aa (aj ?_);simp only[jk];refine ih (m+1) _ h2 (by lia) rfl λm' z3 i' x' qv qk=>?_
     by_cases hc:m'<n
     .exact q2 m' hc i' x' qv qk
     .by_cases hm:m'=m
      .subst hm
       have ei:i'=i:=by rw[<- below_at T.srt qv,<- below_at T.srt h3]
       subst ei;rw[q0] at qk;cases qk;exact Z
      .intro zz
       have zv:es[i']?=some (ent knd x'):=by rw[ab4 he,qk];rfl
       refine h5 m' (s_ hc) (by lia) i' qv ?_;rw[zv];show tupleKeyHash knd x'.1=_;rw[zz]
end
section
variable{prog:Program}{w:World}{K:Type}[DecidableEq K]{knd:KeyKind prog w K}{pk:List K×Addr->Prop}{A:Around}{E:Y1}{s:Shared}
noncomputable abbrev bt(w:World):Bool:=w.params.followText "set-order"
def a4u(h:Q (bt w) s):wpAny (model prog w) A setsByText Q E s:=by unfold setsByText;exact aa (wpAny_askSetting (aj h))
def ab5(knd:KeyKind prog w K)(pk:List K×Addr->Prop):Prop:=∀x,pk x->∀k∈x.1,∀v n,knd.is k v=true->hashByValue n v=pure true
theorem Qn:∀{ks:List K}{Z:Zl},ItemsAre knd ks Z->(∀k∈ks,∀v n,knd.is k v=true->hashByValue n v=pure true)->∀v∈Z,∀n,hashByValue n v=pure true
 |_,_,.nil,_,v,h=>by simp at h
 |_,_,.cons h t,hp,v,hv=>by
  rcases dg.mp hv with rfl|hv
  .exact λn=>hp _ bx _ n h
  .exact Qn t (λk G=>hp k (bh _ G)) v hv
def ab6(qq:ab5 knd pk)(hk:IsTupleKey knd s.heap ks a)(hp:pk (ks,a))(h:Q true s):wpAny (model prog w) A (hashByValue 8 (.ref a)) Q E s:=by
 have hT:=hk.typeIs;obtain⟨o,G,n,ho,_,hd,hi⟩:=hk;unfold hashByValue;refine aa (wpAny_specialOf hT F.slot_tuple_hash.lookup ?_);dsimp only;refine aa (oh ho hd ?_);refine aa ?_;show wpAny _ _ (forIn G _ _) _ _ s;rw[<- Array.forIn_toList];refine sr _ (λZ r U=>r.1=none/\U=s/\∀v∈Z,∀n,hashByValue n v=pure true) _ ?_ ?_ _ _ ⟨rfl,rfl,Qn hi (qq _ hp)⟩
 .rintro v Z r U ⟨hr,rfl,J6⟩
  rw[J6 v bx];refine aa (aj ?_);simp only[Aa,dj,jg];exact aj ⟨rfl,rfl,λu R=>J6 u (bh _ R)⟩
 .rintro⟨r1,r2⟩ U ⟨hr,rfl,_⟩
  simp only at hr;subst hr;exact aj h
structure Zv(knd:KeyKind prog w K)(pk:List K×Addr->Prop)(h:Heap)(a:Addr)(xs:List (List K×Addr))(o:Obj)(es:Array (Int×Value))(ep:Nat)(t:SetTable):Prop where
 get:h.get? a=some o
 exa:o.ExactSet
 dat:o.data=.set es ep t
 tab:V4 t es
 ent:es.toList=xs.map (ent knd)
 keys:∀x∈xs,IsTupleKey knd h x.1 x.2/\pk x
 nod:(xs.map (·.1)).Nodup
 led:t.led=!bt w
 pla:t.plain=true
def My(knd:KeyKind prog w K)(pk:List K×Addr->Prop)(h:Heap)(a:Addr)(S:List K->Prop)(n:Nat):Prop:=∃Z o G U t,Zv knd pk h a Z o G U t/\(∀k,S k↔k∈Z.map (·.1))/\Z.length=n/\t.place.size*5<t.mask*3
theorem Zv.size(X:Zv knd pk h a Z o es G t):es.size=Z.length:=by have:=mz List.length X.ent;simpa using this
def aij(p:Addr)(Z:Array (Int×Value)):byScan (.ref p) Z=false:=by unfold byScan;simp[Value.scannable]
def aik(h:Msk m):10*turns m<100000:=by rcases h with rfl|rfl|rfl|rfl|rfl<;>decide
def Sy(R:A.units<cLine)(hk:IsTupleKey knd s.heap k p)(X:Zv knd pk s.heap a U o es ep t)(F:Fst t (tupleKeyHash knd k) N)(Z:∀(i:Nat) x,U[i]?=some x->x.1=k->Q (.there (if adding then none else some i)) s)(G:(∀x∈U,x.1≠k)->Q (.free (P t.mask (tupleKeyHash knd k) N).j false) s) :
 wpAny (model prog w) A (setSearch a (.ref p) (tupleKeyHash knd k) adding) Q E s:=by
 unfold setSearch;exact agq R hk X.get X.dat X.tab X.ent (λx hx=>(X.keys x hx).1) X.nod F Z G 100000 0 none (iy _) (by have:=F.lt;have:=aik X.tab.msk;lia) (Zt _ _) (λm l=>by lia)
def a4v(U:A.units<cLine)(R:IsTupleKey knd s.heap k p)(hS:My knd pk s.heap a S n)(h:∀r:Option Nat,(r.isSome=true↔S k)->Q r s):wpAny (model prog w) A (setFind a (.ref p) (tupleKeyHash knd k)) Q E s:=by
 obtain⟨xs,o,es,ep,t,X,G,_,_⟩:=hS;obtain⟨N,F⟩:=X.tab.fst (tupleKeyHash knd k);unfold setFind setFindIn;refine aa (ph X.get X.dat X.tab.fits ?_);dsimp only;rw[aij];simp only[dj,jg];refine aa (Sy U R X F (λi x hi Z=>?_) (λZm=>?_))
 .simp only[dj,jg]
  exact aj (h _ (by simp;exact(G k).mpr (dq.mpr ⟨x,au hi,Z⟩)))
 .dsimp only
  refine aj (h _ ?_);simp only[Option.isSome_none,dj,false_iff];intro hs;obtain⟨x,Z,e⟩:=dq.mp ((G k).mp hs);exact Zm x Z e
end
def Fq{α β:Type}{f:α->β}:∀{l G:List β},l.Perm G->∀{xs:List α},G=xs.map f->∃Z:List α,l=Z.map f/\Z.Perm xs:=by
 intro l G p
 induction p with
 |nil=>intro xs e;cases xs with
  |nil=>exact⟨[],rfl,.nil⟩|cons _ _=>cases e
 |cons a p ih =>
  intro xs e;cases xs with
  |nil=>cases e
  |cons x xs =>
   simp only[di,List.cons.injEq] at e;obtain⟨Z,U,p1⟩:=ih e.2;exact⟨x::Z,by simp[U,e.1],p1.cons x⟩
 |swap a b l =>
  intro xs e
  match xs,e with
  |x::y::xs,e =>
   simp only[di,List.cons.injEq] at e;obtain⟨rfl,rfl,rfl⟩:=e;exact⟨y::x::xs,rfl,.swap x y xs⟩
 |trans p q qq R =>
  intro xs e;obtain⟨ys,U,p1⟩:=R e;obtain⟨zs,e2,p2⟩:=qq U;exact⟨zs,e2,p2.trans p1⟩
section
variable{prog:Program}{w:World}{K:Type}[DecidableEq K]{knd:KeyKind prog w K}{pk:List K×Addr->Prop}{A:Around}{E:Y1}{s:Shared}
def ar8(x:IsTupleKey knd h ks p)(ho:h.get? a=some o)(hd:o.data=.set es ep t)(hs:Heap.SameBut a h h'):IsTupleKey knd h' ks p:=by
 obtain⟨R,Z,n,U,hc,G,hi⟩:=x;have Pb:p≠a:=by rintro rfl;obtain rfl:R=o:=gq (U.symm.trans ho);rw[hd] at G;exact nomatch G
 exact⟨R,Z,n,(hs.2 p Pb).trans U,hc,G,hi⟩
def newX(X:Zv knd pk h a xs o es U t)(T':V4 t' Z)(he:Z.toList=G.map (ent knd))(R:∀x∈G,IsTupleKey knd h x.1 x.2/\pk x)(hn:(G.map (·.1)).Nodup)(hl:t'.led=!bt w)(hp:t'.plain=true) :
 Zv knd pk (h.update a (Obj.putSet Z t')) a G { o with data:=.set Z (U+1) t' } Z (U+1) t':=by
 have hg:(h.update a (Obj.putSet Z t')).get? a=some { o with data:=.set Z (U+1) t' }:=by have:=j7 (Obj.putSet Z t') X.get (by rw[putSet_of Z t' X.dat];rfl);rw[putSet_of Z t' X.dat] at this;exact this
 exact⟨hg,X.exa,rfl,T',he,λx hx=>⟨ar8 (R x hx).1 X.get X.dat (gj h a _),(R x hx).2⟩,hn,hl,hp⟩
def Ij(h:n<=128):n<=sizeLine:=by rw[sizeLine_eq];exact a_ h (by decide)
def ail(X:Zv knd pk s.heap a xs o es ep t)(hm:Msk (sizeAbove wanted-1))(hz:es.size<=sizeAbove wanted-1)(hb:sizeAbove wanted<=128)(h:∀U G o' qq qk t',Heap.SameBut a s.heap U->Zv knd pk U a G o' qq qk t'->G.Perm xs->t'.mask=sizeAbove wanted-1->t'.place.size=es.size->Q () { s with heap:=U }) :
 wpAny (model prog w) A (setRelay a wanted) Q E s:=by
 obtain⟨t',Z,e,e1,T',p,sz,hl,hp,_⟩:=ad3 hm t.finger (t.movedTo (sizeAbove wanted-1)) t.led t.plain es hz;unfold setRelay;refine aa (ph X.get X.dat X.tab.fits ?_);dsimp only;rw[cj (by have:=Ij hb;exact j_ this)];have er:t.relaid (es.map (·.1)) wanted=some (t',Z):=e;rw[er];refine aa ?_;have R:wpAny (model prog w) A (if((Z.filterMap (es[·]?)).size != es.size)=true then(do unsupported "internal:set-table-lost-an-element";pure (Z.filterMap (es[·]?),t')) else pure (Z.filterMap (es[·]?),t'))
  (λr s'=>wpAny (model prog w) A (storeSet a r.1 r.2) Q E s') E s:=by
  rw[cj (by simp[sz])];refine aj ?_;obtain⟨G,ex,px⟩:=Fq p X.ent;have hX:=newX X T' ex (λx hx=>X.keys x (px.mem_iff.mp hx)) ((px.map _).nodup_iff.mpr X.nod) (hl.trans X.led) (hp.trans X.pla);refine wpAny_storeSet_of X.get X.dat (h _ _ _ _ _ _ (gj s.heap a _) hX px e1 (by rw[T'.Zk,sz])) (Ij (by rw[sz];exact a_ hz (a_ C_ hb)))
 exact R
def atu(q6:ab5 knd pk)(hu:A.units<cLine)(hk:IsTupleKey knd s.heap k p)(hp:pk (k,p))(hS:My knd pk s.heap a S n)(hn:n+1<32)(h:∀h' n' b,Heap.SameBut a s.heap h'->My knd pk h' a (λG=>S G\/G=k) n'->n'<=n+1->Q b { s with heap:=h' }) :
 wpAny (model prog w) A (setAddHashed a (.ref p) (tupleKeyHash knd k)) Q E s:=by
 obtain⟨xs,o,es,ep,t,X,hm,hl,nf⟩:=hS;obtain⟨N,F⟩:=X.tab.fst (tupleKeyHash knd k);have qk:=X.size;unfold setAddHashed setAddHashedIn;refine je (aa (ph X.get X.dat X.tab.fits ?_));dsimp only;rw[aij];simp only[dj,jg];refine aa (Sy hu hk X F (λi x hi R=>?_) (λZm=>?_))
 .dsimp only
  refine aj ?_;have q0:S k:=(hm k).mpr (dq.mpr ⟨x,au hi,R⟩);have:=h s.heap n false (Heap.SameBut.refl a s.heap) ⟨xs,o,es,ep,t,X,λG=>by
   rw[<- hm G];exact⟨λh=>h.elim id (λe=>e▸q0),.inl⟩,hl,nf⟩ x_
  exact this
 .dsimp only
  refine aa (ph X.get X.dat X.tab.fits ?_);dsimp only;have room:t.place.size+1<=t.mask:=by have:=X.tab.msk;rcases this with e|e|e|e|e<;>lia
  have T':=X.tab.put (x:=.ref p) F room;have Lp:(t.put (P t.mask (tupleKeyHash knd k) N).j).1.plain=true:=X.pla;rw[Lp];simp only[jk];refine aa (ab6 q6 hk hp ?_);simp only[jk];obtain⟨U,ex,px⟩:=Fq (f:=ent knd) (insertAt_perm es (t.put (P t.mask (tupleKeyHash knd k) N).j).2 (tupleKeyHash knd k,.ref p)) (xs:=xs++[(k,p)]) (by rw[Array.toList_push,X.ent,gh];rfl);have pm:=px.map (·.1);have q5:(U.map (·.1)).Nodup:=pm.nodup_iff.mpr (by
   rw[gh,nu];refine⟨X.nod,by simp,λa ha b hb=>?_⟩;simp at hb;subst hb;rintro rfl;obtain⟨x,R,e⟩:=dq.mp ha;exact Zm x R e)
  have q2:∀x∈U,IsTupleKey knd s.heap x.1 x.2/\pk x:=λx R=>by
   rcases cz.mp (px.mem_iff.mp R) with R|R
   .exact X.keys x R
   .simp at R;subst R;exact⟨hk,hp⟩
  have hX:=newX X T' ex q2 q5 X.led X.pla;have Rg:∀G,(S G\/G=k)↔G∈U.map (·.1):=λG=>by rw[pm.mem_iff,gh,cz,hm G];simp
  have qq:U.length=n+1:=by rw[px.length_eq];simp[hl]
  have Zn:(insertAt es (t.put (P t.mask (tupleKeyHash knd k) N).j).2 (tupleKeyHash knd k,.ref p)).size=es.size+1:=Ka _ _ _;refine aa (wpAny_storeSet_of X.get X.dat ?_ (Ij (by rw[Zn];exact e_ (c_ (v_ (f_ qk)) (c_ (v_ (f_ hl)) (b_ hn (by decide)))))));have qv:(t.put (P t.mask (tupleKeyHash knd k) N).j).1.place.size=es.size+1:=by rw[T'.Zk,Zn]
  by_cases Z:(t.put (P t.mask (tupleKeyHash knd k) N).j).1.tooFull=true
  .rw[Z]
   simp only[Bool.not_false,Bool.and_self,jk];obtain⟨g1,g2,g3,g4,g5⟩:=V6 (es.size+1) (c_ (v_ (f_ qk)) (c_ (v_ (f_ hl)) hn));refine aa (ail hX g1 (by rw[Zn];exact g2) g5 λh' q3 o2 q1 q4 t2 sb X2 p2 em ps=>?_);refine aj (h h' (n+1) true ((gj s.heap a _).trans sb) ⟨q3,o2,q1,q4,t2,X2,λG=>?_,by rw[p2.length_eq,qq],?_⟩ (bc _))
   .exact(Rg G).trans (p2.map (·.1)).mem_iff.symm
   .rw[ps,em,Zn];exact t_ g4
  .rw[Bool.not_eq_true] at Z
   rw[Z];simp only[Bool.and_false,dj,jg];refine aj (h _ (n+1) true (gj s.heap a _) ⟨U,_,_,_,_,hX,Rg,qq,?_⟩ (bc _));unfold tooFull at Z;have hf:(t.put (P t.mask (tupleKeyHash knd k) N).j).1.fill=es.size+1:=by unfold fill;rw[qv,T'.dum];rfl
   rw[hf] at Z;rw[qv];simp at Z;exact Z
end
section
variable{prog:Program}{w:World}{K:Type}[DecidableEq K]{knd:KeyKind prog w K}{pk:List K×Addr->Prop}{A:Around}{E:Y1}{s:Shared}
def G9(Z:s.TypeIs v T)(U:isSubtype (.type T) (.type "set")=pure false)(G:isSubtype (.type T) (.type "frozenset")=pure false)(h:Q false s) :
 wpAny (model prog w) A (Builtin.Frozenset.isAnySet v) Q E s:=by
 unfold Builtin.Frozenset.isAnySet;refine aa (qe Z U ?_);exact qe Z G h
def bcp(Z:s.TypeIs v "set")(h:Q true s):wpAny (model prog w) A (Builtin.Frozenset.isAnySet v) Q E s:=by unfold Builtin.Frozenset.isAnySet;refine aa (qe Z sub_set_self ?_);exact aj h
def Cq(w:World):Obj:={ cls:=.type "set",dict:=none,data:=.set #[] 0 (.fresh 0 0 (!bt w)) }
theorem My.get(U:My knd pk h a S n):∃o Z G t,h.get? a=some o/\o.ExactSet/\o.data=.set Z G t/\t.fits Z.size=true :=
 let ⟨_,o,Z,G,t,X,_⟩:=U;⟨o,Z,G,t,X.get,X.exa,X.dat,X.tab.fits⟩
def My.typeIs(Z:My knd pk s.heap a S n):s.TypeIs (.ref a) "set" :=
 let ⟨o,_,_,_,ho,hc,_⟩:=Z.get;⟨o,ho,hc.1⟩
def My.congr(G:My knd pk h a S n)(e:∀k,S k↔Z k):My knd pk h a Z n :=
 let ⟨xs,o,es,ep,t,X,hm,r⟩:=G;⟨xs,o,es,ep,t,X,λk=>(e k).symm.trans (hm k),r⟩
end
section
variable{prog:Program}{w:World}{K:Type}[DecidableEq K]{knd:KeyKind prog w K}{pk:List K×Addr->Prop}{A:Around}{E:Y1}{s:Shared}
def ant(Z:R (.ref s.heap.objs.size) { s with heap:=s.heap.push (Cq w) }) :
 codeAny (model prog w) A (.call (.builtin "set.__new__") ⟨[.type "set",v],[]⟩) (wants R E) s:=by
 refine codeAny_call_builtin F.plain_set_new F.entry_set_new (wpAny_of_eq (F.newCall_set_1 v) ?_);have G:=sub_set_self;unfold Builtin.«set.__new__» Builtin.Frozenset.newClass
 wp_walk
 exact wpAny_askSetting (aj (aa (wpAny_alloc (aj (aj Z)))))
set_option maxHeartbeats 3200000 in
def Zw{R:Shared->Prop}(qq:wpAny (model prog w) A.in1.in1 (Builtin.Frozenset.updateFrom "set.__init__" s.heap.objs.size x) (λ_ s'=>R s') E { s with heap:=s.heap.push (Cq w) })(h:∀s',R s'->Q (.ref s.heap.objs.size) s') :
 wpAny (model prog w) A (call (.type "set") [x]) Q E s:=by
 obtain⟨c,tl,q3⟩:=qu.mro;have q1:=qu.made;have Zx:=qu.sub;refine wpAny_call (codeAny_of_tree ?_);show wpAny _ _ (callAny (.type "set") _) _ _ _;refine aj ⟨Code.quiet_builtin _ (by decide+kernel),codeAny_builtin F.entry_type_call ?_⟩;rw[Around.under_plain (weight_type_call_type "set" [x] []) rfl];have h1:=qu.notType;have h2:=qu.canCreate;have q2:=F.typeCall_set_1 x
 repeat (any_goals (first|assumption|wp_step))
 refine codeAny_mono (ant (v:=x) (E:=E) (R:=λobj U=>obj=.ref s.heap.objs.size/\U={ s with heap:=s.heap.push (Cq w) }) ⟨rfl,rfl⟩) λr U hr=>?_
 cases r with
 |error e=>exact hr
 |ok fl =>
  cases fl with
  |ret obj =>
   obtain⟨rfl,rfl⟩:=hr;have hS:(s.heap.push (Cq w)).get? s.heap.objs.size=some (Cq w):=bu _ rfl;have hT:Shared.TypeIs { s with heap:=s.heap.push (Cq w) } (.ref s.heap.objs.size) "set" := ⟨_,hS,rfl⟩;have q0:=qu.init.lookup;have q4:=qu.init.bind (.ref s.heap.objs.size)
   repeat (any_goals (first|assumption|wp_step))
   refine codeAny_mono (codeAny_call_builtin (R:=wants (λr G=>r=.none/\R G) E) qu.init.plain F.entry_set_init (check_set_init_1 hT ?_)) λqv G Z=>?_
   .unfold Builtin.«set.__init__» noKeywords
    generalize hUF:Builtin.Frozenset.updateFrom=UF at qq ⊢;unfold Cq at hS hT qq ⊢
    wp_walk
    exact m8 qq (λ_ s' hr=>aj ⟨rfl,hr⟩) (λe s' he=>he)
   .cases qv with
    |error e=>exact Z
    |ok qk =>
     cases qk with
     |ret r =>
      obtain⟨rfl,hq⟩:=Z
      repeat (any_goals (first|assumption|wp_step))
      exact h _ hq
     |_=>exact Z.elim
  |_=>exact hr.elim
end
open PyProof.Rows (F.entry_set_update_loop F.plain_set_update_loop)
section
variable{prog:Program}{w:World}{K:Type}[DecidableEq K]{knd:KeyKind prog w K}{pk:List K×Addr->Prop}{A:Around}{E:Y1}{s:Shared}
def V7{Z:X1}(G:IsTupleKey knd h ks p)(U:p∉Z)(hm:∀b o,b∉Z->h.get? b=some o->R.get? b=some o):IsTupleKey knd R ks p :=
 let ⟨o,items,n,ho,r⟩:=G;⟨o,items,n,hm p o U ho,r⟩
def My.moved{G:X1}(hS:My knd pk h a S n)(ha:a∉G)(hw:∀(b:Addr) (ks:List K),b∈G->¬IsTupleKey knd h ks b)(U:∀b o,b∉G->h.get? b=some o->h'.get? b=some o):My knd pk h' a S n :=
 let ⟨xs,o,es,ep,t,X,r⟩:=hS
 ⟨xs,o,es,ep,t,⟨U a o ha X.get,X.exa,X.dat,X.tab,X.ent,λx Z=>⟨V7 (X.keys x Z).1 (λR=>hw _ _ R (X.keys x Z).1) U,(X.keys x Z).2⟩,X.nod,X.led,X.pla⟩,r⟩
def ad7(z5:ab5 knd pk){I:Addr}{P:Nat->Value->Prop}(hu:A.in1.units<cLine)(W:WalksS prog w A.in1 I fp wr G n P St)(a:Addr)(q3:a∉fp)(ks:List (List K×Addr))(qv:ks.length=n)(zk:∀i v x,P i v->ks[i]?=some x->v=.ref x.2)(z1:∀x∈ks,pk x)(hb:n<31)(zz:∀x∈ks,x.2∉wr)(q4:∀i (s:Shared),St i s->∀(b:Addr) (ks:List K),b∈wr->¬IsTupleKey knd s.heap ks b) :
 ∀(k i n':Nat)(s:Shared),n-i=k->i<=n->St i s->(∀x∈ks,IsTupleKey knd s.heap x.1 x.2) ->
  My knd pk s.heap a (λk'=>k'∈(ks.take i).map (·.1)) n'->n'<=i ->
  (∀Z q7,Moved (a::wr) G s Z->My knd pk Z.heap a (λk'=>k'∈ks.map (·.1)) q7->R (.ok (.ret .none)) Z) ->
  codeAny (model prog w) A (.builtin "set.update.loop" ⟨[.ref a,.ref I],[]⟩) R s:=by
 have q1:a∉wr:=λh=>q3 (W.sub _ h)
 have Zx:∀b∈wr,b∈a::wr:=λb hb=>bh _ hb
 intro k
 induction k with
 |zero =>
  intro i n' s hk hi Vp q2 hS Vn hR;have z3:i=n:=by lia
  subst z3;refine codeAny_builtin qd ?_;rw[vh jz _];show wpAny _ A.in1 (pyNext (.ref I) >>= _) _ _ s;refine aa (W.done s _ _ Vp λZ hm=>?_);show wpAny _ A.in1 (ret Value.none) _ _ Z;refine aj (hR Z n' (hm.mono Zx) ((hS.moved q1 (q4 _ s Vp) hm.heap).congr λk=>?_));rw[mq (f_ qv)]
 |succ k ih =>
  intro i n' s hk hi Vp q2 hS Vn hR;have Iu:i<n:=by lia
  refine codeAny_builtin qd ?_;rw[vh jz _];show wpAny _ A.in1 (pyNext (.ref I) >>= _) _ _ s;refine aa (W.item i s _ _ Iu Vp λv Z hP q6 hm=>?_);have lx:i<ks.length:=b_ Iu (g_ qv)
  have q0:ks[i]?=some ks[i]:=by simp[lx]
  obtain rfl:=zk i v _ hP q0;have qk:=zm lx;have q5:=hS.moved q1 (q4 _ s Vp) hm.heap;have qq:∀x∈ks,IsTupleKey knd Z.heap x.1 x.2:=λx hx=>V7 (q2 x hx) (zz x hx) hm.heap
  show wpAny _ A.in1 (holding [Value.ref ks[i].2] (setAdd a (.ref ks[i].2)) >>= _) _ _ Z;refine aa (je ?_);unfold setAdd;refine je ?_;refine aa (wpAny_pyHash_tuple hu (qq _ qk) ?_);refine atu (s:={ Z with toks:=Z.toks+(ks[i].1.length+1) }) z5 hu (qq _ qk) (z1 _ qk) q5 (by lia) λh' n2 b U z7 z0=>?_
  obtain⟨oa,yu,z8,ta,zw,yy,z4,z9⟩:=q5.get;refine aj ⟨plainId_quiet jz _,ih (i+1) n2 _ (by lia) Iu (W.frame _ Z _ _ q6 (zr _ _) λb hb o e=>?_) (λx hx=>ar8 (qq x hx) zw z4 U) (z7.congr λk=>?_) (a_ z0 (v_ Vn)) λz2 n3 zv z6=>?_⟩
  .rw[U.2 b (λh:b=a=>q3 (by rw[<- h];exact hb))];exact e
  .rw[List.take_add_one,gh,cz,q0];simp
  .refine hR z2 n3 (Moved.trans W.gtrans ((hm.mono Zx).then_heap (zr _ _) λb o hb e=>?_) zv) z6
   rw[U.2 b (λh:b=a=>hb (by rw[h];exact bx))];exact e
end
def anu(k:V4 t es)(F:Fst t h N)(room:t.place.size+1<=t.mask) :
 layNew t es h x=(insertAt es (t.put (P t.mask h N).j).2 (h,x),(t.put (P t.mask h N).j).1,false,false):=by
 have e:t.freeSlot h=some ((P t.mask h N).j,false):=by
  unfold freeSlot probe;rw[Zt];rcases aid k F (λ_=>h+1) (10*turns t.mask) 0 (iy _) (by have:=F.lt;exact c_ C_ this) with⟨a,_⟩|⟨m,i,_,_,_,c,_⟩
  .rw[a];rfl
  .lia
 have f:=(k.put (x:=x) F room).fits;unfold layNew;rw[e];show(insertAt es (t.put (P t.mask h N).j).2 (h,x),(t.put (P t.mask h N).j).1.orStandIn (insertAt es (t.put (P t.mask h N).j).2 (h,x)).size,false,!(t.put (P t.mask h N).j).1.fits (insertAt es (t.put (P t.mask h N).j).2 (h,x)).size)=_;unfold orStandIn;rw[bz f,f];rfl
def ags(hm:Msk (sizeAbove wanted-1))(hz:es.size<=sizeAbove wanted-1) :
 ∃G t',relayAll t es wanted=(G,t',false)/\t'.mask=sizeAbove wanted-1/\V4 t' G/\G.toList.Perm es.toList/\t'.led=t.led/\t'.plain=t.plain:=by
 obtain⟨t',Z,e,e1,R,p,sz,hl,hp,_,U⟩:=ad3 hm t.finger (t.movedTo (sizeAbove wanted-1)) t.led t.plain es hz;have er:t.relaid (es.map (·.1)) wanted=some (t',Z):=e;refine⟨Z.filterMap (es[·]?),t',?_,e1,R,p,hl,hp⟩;unfold relayAll;rw[er];dsimp only;rw[bz];rw[ao];exact⟨by unfold coversAll;exact List.isPerm_iff.mpr U,R.fits⟩
noncomputable def enI(x:Int×Tok):Int×Value:=(hashInt x.1,.int x.1 x.2)
structure ab9(w:World)(h:Heap)(a:Addr)(xs:List (Int×Tok))(o:Obj)(es:Array (Int×Value))(ep:Nat)(t:SetTable):Prop where
 get:h.get? a=some o
 exa:o.ExactSet
 dat:o.data=.set es ep t
 tab:V4 t es
 ent:es.toList=xs.map enI
 nod:(xs.map (·.1)).Nodup
 led:t.led=!bt w
 pla:t.plain=true
def Bx(w:World)(h:Heap)(a:Addr)(S:Int->Prop)(n:Nat):Prop:=∃Z o G U t,ab9 w h a Z o G U t/\(∀k,S k↔k∈Z.map (·.1))/\Z.length=n/\t.place.size*5<t.mask*3
theorem ab9.size(X:ab9 w h a Z o es G t):es.size=Z.length:=by have:=mz List.length X.ent;simpa using this
def ab9.elems(X:ab9 w h a G o es U t):ElemsOf (intKind prog w) es.toList:=λe Z=>by rw[X.ent] at Z;obtain⟨x,_,rfl⟩:=dq.mp Z;exact⟨⟨x.1,by simp[enI,intKind,Value.isInt],rfl⟩,rfl⟩
def azl(X:ab9 w h a xs o es U t)(R:V4 t' Z)(he:Z.toList=G.map enI)(hn:(G.map (·.1)).Nodup)(hl:t'.led=!bt w)(hp:t'.plain=true) :
 ab9 w (h.update a (Obj.putSet Z t')) a G { o with data:=.set Z (U+1) t' } Z (U+1) t':=by
 have hg:(h.update a (Obj.putSet Z t')).get? a=some { o with data:=.set Z (U+1) t' }:=by have:=j7 (Obj.putSet Z t') X.get (by rw[putSet_of Z t' X.dat];rfl);rw[putSet_of Z t' X.dat] at this;exact this
 exact⟨hg,X.exa,rfl,R,he,hn,hl,hp⟩
theorem Bx.get(U:Bx w h a S n):∃o Z G t,h.get? a=some o/\o.ExactSet/\o.data=.set Z G t/\t.fits Z.size=true :=
 let ⟨_,o,Z,G,t,X,_⟩:=U;⟨o,Z,G,t,X.get,X.exa,X.dat,X.tab.fits⟩
theorem Tc:∀{a b:X9},a.Nodup->(∀x∈a,x∈b)->a.length<=b.length
 |[],_,_,_=>iy _
 |x::a,b,h,s=>by
  obtain⟨U,G⟩:=o9.mp h;have:=Tc (b:=b.erase x) G λy Z=>(yz (λe:y=x=>U (e▸Z))).mpr (s y (.tail _ Z))
  rw[List.length_erase_of_mem (s x (.head _))] at this;have:=u9 (s x (.head _));rw[d9];lia
def Bx.le(U:Bx w h a S n){B:X9}(G:∀k,S k->k∈B):n<=B.length:=by obtain⟨xs,o,es,ep,t,X,R,rfl,_⟩:=U;rw[<- dh (f:=(·.1))];exact Tc X.nod λk Z=>G k ((R k).mpr Z)
def Bx.congr(G:Bx w h a S n)(e:∀k,S k↔Z k):Bx w h a Z n :=
 let ⟨xs,o,es,ep,t,X,hm,r⟩:=G;⟨xs,o,es,ep,t,X,λk=>(e k).symm.trans (hm k),r⟩
def Bx.moved(U:Bx w h a S n)(Z:∀o,h.get? a=some o->G.get? a=some o):Bx w G a S n :=
 let ⟨xs,o,es,ep,t,X,r⟩:=U
 ⟨xs,o,es,ep,t,⟨Z o X.get,X.exa,X.dat,X.tab,X.ent,X.nod,X.led,X.pla⟩,r⟩
def aio(Z:h.get? a=some (Cq w)):Bx w h a (λ_=>False) 0 :=
 ⟨[],Cq w,#[],0,_,⟨Z,⟨rfl,rfl,rfl⟩,rfl,⟨.inl rfl,rfl,rfl,λi j a b e=>by simp[SetTable.fresh] at e,λi j e=>by simp[SetTable.fresh] at e,by simp[SetTable.fresh],λi j e a=>by simp[SetTable.fresh] at a⟩,
  rfl,List.nodup_nil,rfl,rfl⟩,λk=>by simp,rfl,by simp[SetTable.fresh]⟩
def anv(hS:Bx w s.heap a S n)(hn:n+1<32)(h:∀h' n' b,Heap.SameBut a s.heap h'->Bx w h' a (λU=>S U\/U=k) n'->n'<=n+1->Q b { s with heap:=h' }) :
 wpAny (model prog w) A (setAddHashed a (.int k R) (hashInt k)) Q E s:=by
 obtain⟨xs,o,G,ep,t,X,hm,hl,nf⟩:=hS;obtain⟨N,F⟩:=X.tab.fst (hashInt k);have z3:=X.size;have q3:=X.elems (prog:=prog);have zw:(intKind prog w).is k (.int k R)=true:=by simp[intKind,Value.isInt]
 unfold setAddHashed setAddHashedIn;refine je (aa (ph X.get X.dat X.tab.fits ?_));dsimp only;rw[byScan_of (knd:=intKind prog w) (x:=.int k R) rfl (by unfold scanBound;lia) q3];simp only[↓reduceIte];unfold setAddByScan;refine aa ?_;refine aa (wpAny_rule ?_);refine aa (wpAny_setScan_of (knd:=intKind prog w) (k:=k) zw X.get X.dat X.tab.fits q3 ?_);cases hr:List.findIdx? (λe=>(intKind prog w).is k e.2) G.toList with
 |some j =>
  dsimp only;obtain⟨hj,z2,_⟩:=List.findIdx?_eq_some_iff_getElem.mp hr;have zk:S k:=by
   obtain⟨x,hx,ex⟩:∃x∈xs,enI x=G.toList[j]:=by have Rg:=zm hj;generalize G.toList[j]=e at Rg;rw[X.ent] at Rg;exact dq.mp Rg
   have zz:(intKind prog w).is k (enI x).2=true:=by rw[ex];exact z2
   refine(hm k).mpr (dq.mpr ⟨x,hx,?_⟩);have:(intKind prog w).is x.1 (enI x).2=true:=by simp[enI,intKind,Value.isInt]
   exact(intKind prog w).inj _ _ _ this zz
  refine aj (aj ?_);have:=h s.heap n false (Heap.SameBut.refl a s.heap) ⟨xs,o,G,ep,t,X,λU=>by
   rw[<- hm U];exact⟨λh=>h.elim id (λe=>e▸zk),.inl⟩,hl,nf⟩ x_
  exact this
 |none =>
  dsimp only;have Zm:∀x∈xs,x.1≠k:=λx hx e=>by have:=List.findIdx?_eq_none_iff.mp hr (enI x) (by rw[X.ent];exact dq.mpr ⟨x,hx,rfl⟩);subst e;simp[enI,intKind,Value.isInt] at this
  have room:t.place.size+1<=t.mask:=by have:=X.tab.msk;rcases this with e|e|e|e|e<;>lia
  have T':=X.tab.put (x:=.int k R) F room;rw[anu X.tab F room];have Lp:(t.put (P t.mask (hashInt k) N).j).1.plain=true:=X.pla;have q5:(t.put (P t.mask (hashInt k) N).j).1.led=!bt w:=X.led;obtain⟨qq,ex,px⟩:=Fq (f:=enI) (insertAt_perm G (t.put (P t.mask (hashInt k) N).j).2 (hashInt k,.int k R)) (xs:=xs++[(k,R)]) (by rw[Array.toList_push,X.ent,gh];rfl);have pm:=px.map (·.1);have q4:(qq.map (·.1)).Nodup:=pm.nodup_iff.mpr (by
   rw[gh,nu];refine⟨X.nod,by simp,λa ha b hb=>?_⟩;simp at hb;subst hb;rintro rfl;obtain⟨x,hx,e⟩:=dq.mp ha;exact Zm x hx e)
  have hX:=azl X T' ex q4 q5 Lp;have Rg:∀U,(S U\/U=k)↔U∈qq.map (·.1):=λU=>by rw[pm.mem_iff,gh,cz,hm U];simp
  have qk:qq.length=n+1:=by rw[px.length_eq];simp[hl]
  have Zn:(insertAt G (t.put (P t.mask (hashInt k) N).j).2 (hashInt k,Value.int k R)).size=G.size+1:=Ka _ _ _;have q6:(t.put (P t.mask (hashInt k) N).j).1.place.size=G.size+1:=by rw[T'.Zk,Zn]
  have hf:(t.put (P t.mask (hashInt k) N).j).1.fill=G.size+1:=by unfold fill;rw[q6,T'.dum];rfl
  generalize insertAt G (t.put (P t.mask (hashInt k) N).j).2 (hashInt k,Value.int k R)=es1 at *;generalize(t.put (P t.mask (hashInt k) N).j).1=t1 at *;dsimp only;refine aa (aj ?_);rw[Lp];simp only[jk];refine aa ?_;rw[hashByValue_scannable 8 (x:=.int k R) rfl];refine aj ?_;have z0:plainKind (.int k R)=true:=rfl;simp only[z0,jk];refine aa (wpAny_storeSet_of X.get X.dat ?_ (Ij (by lia)))
  by_cases Z:t1.tooFull=true
  .rw[Z]
   simp only[Bool.not_false,Bool.and_self,jk];obtain⟨g1,g2,g3,g4,g5⟩:=V6 (G.size+1) (c_ (v_ (f_ z3)) (c_ (v_ (f_ hl)) hn));obtain⟨q1,t2,e2,m2,T2,p2,l2,q2⟩:=ags (t:=t1) (es:=es1) (wanted:=grown (G.size+1)) g1 (a_ (f_ Zn) g2);rw[Zn,e2];dsimp only;refine aa (aj ?_);obtain⟨zv,q7,qv⟩:=Fq p2 ex;have z1:=azl hX T2 q7 ((qv.map _).nodup_iff.mpr q4) (l2.trans q5) (q2.trans Lp);have q0:q1.size=G.size+1:=by have:=p2.length_eq;simp at this;exact this.trans Zn
   refine aa (wpAny_storeSet_of hX.get rfl ?_ (Ij (a_ (f_ q0) (a_ g2 (a_ C_ g5)))));refine aj (aj (h _ (n+1) true ((gj s.heap a _).trans (gj _ a _)) ⟨zv,_,q1,_,t2,z1,λU=>?_,by rw[qv.length_eq,qk],?_⟩ (bc _)))
   .exact(Rg U).trans (qv.map (·.1)).mem_iff.symm
   .rw[T2.Zk,m2,q0];exact t_ g4
  .rw[Bool.not_eq_true] at Z
   rw[Z];simp only[Bool.and_false,dj,jg];refine aj (aj (h _ (n+1) true (gj s.heap a _) ⟨qq,_,_,_,_,hX,Rg,qk,?_⟩ (bc _)));unfold tooFull at Z;rw[hf] at Z;rw[q6];simp at Z;exact Z
def aip{I:Addr}{P:Nat->Value->Prop}(W:WalksS prog w A.in1 I fp wr G n P St)(a:Addr)(q3:a∉fp)(ks:X9)(qk:ks.length=n)(q5:∀i v x,P i v->ks[i]?=some x->∃tk,v=.int x tk){B:X9}(hB:∀k∈ks,k∈B)(U:B.length<31) :
 ∀(k i n':Nat)(s:Shared),n-i=k->i<=n->St i s ->
  Bx w s.heap a (λk'=>k'∈ks.take i) n'->n'<=B.length ->
  (∀Z qq,Moved (a::wr) G s Z->Bx w Z.heap a (λk'=>k'∈ks) qq->qq<=B.length->R (.ok (.ret .none)) Z) ->
  codeAny (model prog w) A (.builtin "set.update.loop" ⟨[.ref a,.ref I],[]⟩) R s:=by
 have q0:a∉wr:=λh=>q3 (W.sub _ h)
 have Zx:∀b∈wr,b∈a::wr:=λb U=>bh _ U
 intro k
 induction k with
 |zero =>
  intro i n' s hk hi Vp hS Vn hR;have zz:i=n:=by lia
  subst zz;refine codeAny_builtin qd ?_;rw[vh jz _];show wpAny _ A.in1 (pyNext (.ref I) >>= _) _ _ s;refine aa (W.done s _ _ Vp λZ hm=>?_);show wpAny _ A.in1 (ret Value.none) _ _ Z;refine aj (hR Z n' (hm.mono Zx) ((hS.moved λo=>hm.heap a o q0).congr λk=>?_) Vn);rw[mq (f_ qk)]
 |succ k ih =>
  intro i n' s hk hi Vp hS Vn hR;have Iu:i<n:=by lia
  refine codeAny_builtin qd ?_;rw[vh jz _];show wpAny _ A.in1 (pyNext (.ref I) >>= _) _ _ s;refine aa (W.item i s _ _ Iu Vp λv Z hP q4 hm=>?_);have lx:i<ks.length:=b_ Iu (g_ qk)
  have qv:ks[i]?=some ks[i]:=by simp[lx]
  obtain⟨tk,rfl⟩:=q5 i v _ hP qv;have zv:=hS.moved λo=>hm.heap a o q0
  show wpAny _ A.in1 (holding [Value.int ks[i] tk] (setAdd a (.int ks[i] tk)) >>= _) _ _ Z;refine aa (je ?_);unfold setAdd;refine je ?_;refine aa (wpAny_pyHash_int ?_);refine anv (s:={ Z with toks:=Z.toks+1 }) zv (by lia) λh' n2 b q2 z0 z1=>?_
  have q1:Bx w h' a (λk=>k∈ks.take (i+1)) n2:=z0.congr λk=>by rw[List.take_add_one,cz,qv];simp
  refine aj ⟨plainId_quiet jz _,ih (i+1) n2 _ (by lia) Iu (W.frame _ Z _ _ q4 (zr _ _) λb U o e=>?_) q1 (q1.le λk hk=>hB k (uo hk)) λq7 n3 q6 zw zk=>?_⟩
  .rw[q2.2 b (λh:b=a=>q3 (by rw[<- h];exact U))];exact e
  .refine hR q7 n3 (Moved.trans W.gtrans ((hm.mono Zx).then_heap (zr _ _) λb o U e=>?_) q6) zw zk
   rw[q2.2 b (λh:b=a=>U (by rw[h];exact bx))];exact e
def anw{id T:String}{io lo:Obj}{Z:U1}{St:Nat->Heap->Prop}(hS:Bx w s.heap a (λ_=>False) 0)(U:s.heap.get? l=some lo)(hc:lo.cls=.type T)(q5:∀es ep t,lo.data≠.set es ep t)(n1:isSubtype (.type T) (.type "set")=pure false)(n2:isSubtype (.type T) (.type "frozenset")=pure false)(nd:(Value.type T==.type "dict")=false)
 (hi:∀{Q:Y1},Q (.ref s.heap.objs.size) { s with heap:=s.heap.push io }->wpAny (model prog w) A (pyIter (.ref l)) Q E s) (W:l≠s.heap.objs.size->Walks prog w A.in1 s.heap.objs.size [s.heap.objs.size,l] [s.heap.objs.size] Z.size (λi v=>Z[i]?=some v) St) (h0:St 0 (s.heap.push io))
 (qk:PyProof.Rows.IntsAre Z.toList ks) {B:X9} (hB:∀k∈ks,k∈B) (qq:B.length<31) (h:∀h' tk n',(∀b o,b≠a->s.heap.get? b=some o->h'.get? b=some o)->Bx w h' a (λk=>k∈ks) n'->n'<=B.length->Q () { s with heap:=h',toks:=tk }) :
 wpAny (model prog w) A (Builtin.Frozenset.updateFrom id a (.ref l)) Q E s:=by
 have hT:s.TypeIs (.ref l) T:=⟨lo,U,hc⟩;have q6:Z.size=ks.length:=by rw[<- su];exact PyProof.Rows.IntsAre.length qk
 obtain⟨oa,z1,zv,ta,R,z0,q7,zw⟩:=hS.get;unfold Builtin.Frozenset.updateFrom;refine aa (G9 hT n1 n2 ?_);simp only[dj,jg];refine aa (wpAny_typeOf hT ?_);rw[cj (by rw[nd];simp)];refine aa (hi ?_);refine aa (wpAny_runValue ?_);have Iu:l<s.heap.objs.size:=bf U
 have q1:a<s.heap.objs.size:=bf R
 have q2:l≠a:=by rintro rfl;rw[U] at R;cases R;exact q5 _ _ _ q7
 have q4:a∉[s.heap.objs.size,l]:=by simp only[dg,vd,or_false,not_or];exact⟨ie q1,λe=>q2 e.symm⟩
 have G:∀b o,s.heap.get? b=some o->(s.heap.push io).get? b=some o:=λb o e=>aq _ e
 refine aip ((W (ie Iu)).toS) a q4 ks q6.symm (λi v x hv hx=>?_) hB qq Z.size 0 0 _ rfl (iy _)
  h0 ?_ (iy _) ?_
 .obtain⟨tk,e⟩:=PyProof.Rows.IntsAre.int_at qk i v (by rw[o7];exact hv)
  rw[vf,hx] at e;exact⟨tk,e⟩
 .refine(hS.moved λo e=>G a o e).congr λk=>by simp
 .intro s' qv hm zz q3
  obtain⟨h',g',d',zk,q0⟩:=s';have eg:g'=s.gens:=hm.gens;have ed:d'=s.drawn:=hm.drawn;have eo:q0=s.os:=hm.os;subst eg;subst ed;subst eo;show wpAny _ _ _ _ _ _;refine aj (h h' zk qv (λb o hb e=>?_) zz q3);refine hm.heap b o ?_ (G b o e);simp only[dg,vd,or_false,not_or];exact⟨hb,ie (bf e)⟩
def aiq{id:String}(hh:A.handled=none)(hS:Bx w s.heap a (λ_=>False) 0)(hl:s.heap.IsTuple l items)(R:PyProof.Rows.IntsAre items.toList ks){B:X9}(hB:∀k∈ks,k∈B)(Z:B.length<31)(h:∀G tk n',(∀b o,b≠a->s.heap.get? b=some o->G.get? b=some o)->Bx w G a (λk=>k∈ks) n'->n'<=B.length->Q () { s with heap:=G,toks:=tk }) :
 wpAny (model prog w) A (Builtin.Frozenset.updateFrom id a (.ref l)) Q E s:=by
 have U:=hl;obtain⟨o,ho,hc,n,hd⟩:=U;exact anw hS ho hc (λ_ _ _ z=>by rw[hd] at z;cases z) (by rw[isSubtype_type];kernel_rfl) (by rw[isSubtype_type];kernel_rfl) (by decide) (o5 hl) (λne=>Walks.tuple (by simp[hh]) _ l ne items) ⟨⟨_,bu _ rfl,rfl,rfl⟩,o,aq _ ho,hc,n,hd⟩ R hB Z h
def agt(hh:A.handled=none)(hl:s.heap.IsTuple l items)(qk:PyProof.Rows.IntsAre items.toList ks){B:X9}(hB:∀k∈ks,k∈B)(qq:B.length<31)(h:∀Z tk G,(∀b o,s.heap.get? b=some o->Z.get? b=some o)->Bx w Z s.heap.objs.size (λk=>k∈ks) G->G<=B.length->Q (.ref s.heap.objs.size) { s with heap:=Z,toks:=tk }) :
 wpAny (model prog w) A (call (.type "set") [.ref l]) Q E s:=by
 refine Zw (R:=λs'=>∃Z tk G,s'={ s with heap:=Z,toks:=tk }/\(∀b o,s.heap.get? b=some o->Z.get? b=some o)/\Bx w Z s.heap.objs.size (λk=>k∈ks) G/\G<=B.length)
  (aiq (s:={ s with heap:=s.heap.push (Cq w) }) (by simp[hh]) (aio (bu _ rfl)) (let ⟨o,ho,r⟩:=hl;⟨o,aq _ ho,r⟩) qk hB qq λZ tk G hk U Vn=>⟨Z,tk,G,rfl,λb o e=>hk b o (ie (bf e)) (aq _ e),U,Vn⟩)
  λs' ⟨Z,tk,G,e,hk,U,Vn⟩=>by subst e;exact h Z tk G hk U Vn
end STb
namespace MW
open PySem (Str)
set_option genInjectivity true in
inductive D where
 |non|bl (b:Bool)|int (i:Int)|str (s:Str)|tup (ds:List D)|vl (ds:List D)|fz (ds:List D)|ref (n:Nat)
noncomputable abbrev Kx:=Sum Int Str
set_option genInjectivity true in
inductive MO where
 |lst (ds:List D)|dT (o6:List (List Kx×D))|dF (o6:List (List Kx×D))|ins (c:Nat) (fs:List (Nat×D))
noncomputable abbrev du:=List MO
noncomputable abbrev Env:=List (Option D)
set_option genInjectivity true in
inductive Res(α:Type) where
 |ok (a:α) (M:du)|bad
namespace Res
noncomputable def bind{Z β:Type}(r:Res Z)(f:Z->du->Res β):Res β :=
 match r with|ok a M=>f a M|bad=>bad
@[simp] def t6(a:α)(M:du)(f:α->du->Res β):(ok a M).bind f=f a M:=rfl
@[simp] def azm(f:α->du->Res β):(bad:Res α).bind f=bad:=rfl
noncomputable def rn{α:Type}(o:Option α)(M:du):Res α:=match o with|some a=>ok a M|none=>bad
@[simp] def qm(a:α)(M:du):rn (some a) M=ok a M:=rfl
@[simp] def at3(M:du):rn (none:Option α) M=bad:=rfl
end Res
inductive Op2 where|add|sub|mul|fdiv|mod|pow
inductive Cp where|eq|ne|lt|le|gt|ge|inn|Kc|is
inductive Blt where
 |len|tuple|list|max|min|all|isBool|Mz
inductive Bm where|append|extend|setdefault|get|index
inductive Tg where
 |name (i:Nat)|names (is:Y3)
mutual
inductive Ex where
 |var (i:Nat)|cst (d:D)
 |bin (op:Op2) (a b:Ex)|neg (a:Ex)
 |cmp (op:Cp) (a b:Ex)|chain (o1 o2:Cp) (a b c:Ex)
 |and (a b:Ex)|or (a b:Ex)|not (a:Ex)|ite (c a b:Ex)
 |tup (es:Eb)|lst (es:Eb)|Ax (es:Eb)|acb
 |ix (a b:Ex)|cut (a:Ex) (lo hi:OEx)
 |call (f:Nat) (es:Eb)|make (c:Nat)|meth (o:Ex) (m:Nat) (es:Eb)|fld (o:Ex) (f:Nat)
 |blt (b:Blt) (es:Eb)|bm (m:Bm) (o:Ex) (es:Eb)
 |comp (v:Bool) (k:Nat) (t:Tg) (it:Nb) (e:Ex)|yu (v:Bool) (k:Nat) (t:Tg) (it:Nb) (c:Ex) (e:Ex)
 |tru (e:Ex)|ntr (e:Ex)
inductive Eb where
 |nil|cons (e:Ex) (es:Eb)
inductive OEx where
 |none|some (e:Ex)
inductive Nb where
 |val (e:Ex)|Rh (e:Ex)|enm (e:Ex)|zip (es:Eb)|vals (e:Ex)
end
noncomputable abbrev Ex.v:=Ex.var
noncomputable abbrev Ex.i(n:Int):Ex:=.cst (.int n)
noncomputable abbrev Ex.l(e:Ex):Ex:=.blt .len (.cons e .nil)
noncomputable abbrev Eb.z:=Eb.nil
noncomputable abbrev Eb.c:=Eb.cons
noncomputable abbrev Eb.o(a:Ex):Eb:=.cons a .nil
noncomputable abbrev Eb.p(a b:Ex):Eb:=.cons a (.cons b .nil)
noncomputable abbrev Eb.q(a b c:Ex):Eb:=.cons a (.cons b (.cons c .nil))
inductive Lv where
 |tg (t:Tg)|sub (o i:Ex)|fld (o:Ex) (f:Nat)
mutual
inductive Aj where
 |asg (l:Lv) (e:Ex)|expr (e:Ex)|iff (c:Ex) (a b:my)|whl (c:Ex) (b:my)|for_ (t:Tg) (it:Nb) (b:my)
 |ret (e:Ex)|raise
inductive my where
 |nil|cons (s:Aj) (r:my)
end
noncomputable abbrev Aj.a(i:Nat)(e:Ex):Aj:=.asg (.tg (.name i)) e
noncomputable abbrev Aj.f(c:Ex)(b:my):Aj:=.iff c b .nil
noncomputable abbrev my.z:=my.nil
noncomputable abbrev my.c:=my.cons
noncomputable abbrev my.o(a:Aj):my:=.cons a .nil
noncomputable abbrev my.p(a b:Aj):my:=.cons a (.cons b .nil)
noncomputable abbrev my.q(a b c:Aj):my:=.cons a (.cons b (.cons c .nil))
structure Fn where
 np:Nat
 ns:Nat
 body:my
structure Cl where
 init:Nat
 meths:List (Nat×Nat)
noncomputable def fj(M:du):D->Option (List D)
 |.vl ds=>some ds|.ref n=>match M[n]? with|some (.lst ds)=>some ds|_=>none
 |_=>none
def j8(M:du):D->Option (List D)
 |.tup ds=>some ds|d=>fj M d
noncomputable def at4:D->Option Kx
 |.int i=>some (.inl i)|.str s=>some (.inr s)|_=>none
def acd:List D->Option (List Kx)
 |[]=>some []
 |d::ds=>match at4 d,acd ds with
  |some k,some ks=>some (k::ks)|_,_=>none
def Nx:D->Option (List Kx)
 |.tup ds=>acd ds|_=>none
noncomputable def azn:Kx->D
 |.inl i=>.int i|.inr s=>.str s
def agv(ks:List Kx):D:=.tup (ks.map azn)
noncomputable def Az(f:D->D->Option Bool)(a b:D):Option Bool:=match a,b with
 |.tup _,.int _=>some false|.int _,.tup _=>some false|a,b=>f a b
def Nq(f:D->D->Option Bool):List D->List D->Option Bool
 |[],[]=>some true
 |a::as,b::bs=>match Az f a b,Nq f as bs with
  |some x,some y=>some (x&&y)|_,_=>none
 |_,_=>some false
instance:DecidableEq Kx:=inferInstanceAs (DecidableEq (Sum Int Str))
noncomputable def Eh{Z:Type}[DecidableEq Z](G:List (Z×D))(k:Z):Option D:=(G.find? λp=>decide (p.1=k)).map (·.2)
def Dh(M:du):Nat->D->D->Option Bool
 |0,_,_=>none
 |n+1,a,b=>match a,b with
  |.int i,.int j=>some (decide (i=j))|.bl i,.bl j=>some (i==j)|.str i,.str j=>some (decide (i=j))|.tup as,.tup bs=>Nq (Dh M n) as bs|.tup _,.non=>some false
  |a,b=>match fj M a,fj M b with
   |some as,some bs=>if as.length=bs.length then Nq (Dh M n) as bs else some false
   |_,_=>none
def q9(M:du)(a b:D):Option Bool:=Dh M 6 a b
def Iw(M:du)(x:D):List D->Option (List Bool)
 |[]=>some []
 |y::ys=>match q9 M y x,Iw M x ys with
  |some a,some b=>some (a::b)|_,_=>none
def memD(M:du)(x:D)(Z:List D):Option Bool:=(Iw M x Z).map (·.any id)
def azo(M:du)(x:D)(Z:List D):Option Nat:=(Iw M x Z).bind (·.findIdx? id)
noncomputable def V8:List D->Option (List Int)
 |[]=>some []|.int i::r=>(V8 r).map (i::·)|_::_=>none
noncomputable def Td(n:Nat)(i:Int):Option Nat:=if 0<=i then(if i<n then some i.toNat else none) else if -(n:Int)<=i then some (i+n).toNat else none
noncomputable def clip(n:Nat)(d:Nat):Option Int->Nat
 |none=>d|some i=>if 0<=i then min i.toNat n else(i+n).toNat
def Ec(Z:List D)(G U:Option Int):List D:=(Z.drop (clip Z.length 0 G)).take (clip Z.length Z.length U-clip Z.length 0 G)
noncomputable def air:List Int->Option Int
 |[]=>none|a::r=>some (r.foldl (λm x=>if m<x then x else m) a)
noncomputable def at5:List Int->Option Int
 |[]=>none|a::r=>some (r.foldl (λm x=>if x<m then x else m) a)
noncomputable def Ga:List Int->List Int
 |[]=>[]|x::xs=>if x∈xs then Ga xs else x::Ga xs
noncomputable def Te{Z:Type}[DecidableEq Z](G:List (Z×D))(k:Z)(v:D):List (Z×D) :=
 if(G.any λkv=>decide (kv.1=k))=true then G.map (λkv=>if kv.1=k then(kv.1,v) else kv) else G++[(k,v)]
noncomputable def new(o:MO)(M:du):Res D:=.ok (.ref M.length) (M++[o])
def ais(a b:D)(M:du):Res D :=
 match a,b with
 |.int i,.int j=>.ok (.int (i+j)) M|.tup xs,.tup ys=>if xs.length+ys.length<=100000 then .ok (.tup (xs++ys)) M else .bad
 |x,y=>match fj M x,fj M y with
  |some xs,some ys=>if xs.length+ys.length<=100000 then .ok (.vl (xs++ys)) M else .bad
  |_,_=>.bad
noncomputable def ii{α:Type}(x y:D)(f:Int->Int->α)(z:α):α:=match x with|.int i=>(match y with|.int j=>f i j|_=>z)|_=>z
def ace(h:ii x y f z=r)(Z:z≠r):∃i j,x=.int i/\y=.int j/\f i j=r:=by
 cases x with
 |int i=>cases y with
  |int j=>exact⟨i,j,rfl,rfl,h⟩|_=>exact absurd h Z
 |_=>exact absurd h Z
@[simp] def a7c(i j:Int)(f:Int->Int->α)(z:α):ii (.int i) (.int j) f z=f i j:=rfl
def azp(a b:D)(M:du):Res D:=ii a b (λi j=>.ok (.int (i-j)) M) .bad
def azq(a b:D)(M:du):Res D:=ii a b (λi j=>if(-(2 ^ 64)<i/\i<2 ^ 64)\/(-(2 ^ 64)<j/\j<2 ^ 64) then .ok (.int (i*j)) M else .bad) .bad
def at6(a b:D)(M:du):Res D:=ii a b (λi j=>if 0<j/\j<1073741824 then .ok (.int (i / j)) M else .bad) .bad
def azr(a b:D)(M:du):Res D:=ii a b (λi j=>if 0<j then .ok (.int (i%j)) M else .bad) .bad
def asb(a b:D)(M:du):Res D:=ii a b (λi j=>if 0<=j/\j<=64/\i.natAbs<2 ^ 64 then .ok (.int (i ^ j.toNat)) M else .bad) .bad
def Bs(Z:Op2):D->D->du->Res D :=
 match Z with
 |.add=>ais|.sub=>azp|.mul=>azq|.fdiv=>at6|.mod=>azr|.pow=>asb
def Pk(M:du)(a b:D):Option Bool:=(j8 M b).bind (memD M a)
def Zy(f:Int->Int->Bool)(a b:D):Option Bool:=ii a b (λi j=>some (f i j)) none
def Ik(Z:Cp)(a b:D)(M:du):Option Bool :=
 match Z with
 |.lt=>Zy (λi j=>decide (i<j)) a b
 |.le=>Zy (λi j=>decide (i<=j)) a b
 |.gt=>Zy (λi j=>decide (j<i)) a b
 |.ge=>Zy (λi j=>decide (j<=i)) a b
 |.eq=>q9 M a b|.ne=>(q9 M a b).map not|.inn=>Pk M a b|.Kc=>(Pk M a b).map not
 |.is=>match b with
  |.non=>(match a with|.non=>some true|.tup _=>some false|_=>none)
  |_=>none
def ixL(Z:Option (List D))(b:D):Option D:=match Z,b with
 |some Z,.int i=>(Td Z.length i).bind λj=>Z[j]?
 |_,_=>none
def rz(a b:D)(M:du):Option D :=
 match a with
 |.fz ds=>ixL (some ds) b
 |.ref n=>match M[n]? with
  |some (.dT o6)=>(Nx b).bind (Eh o6)|_=>ixL (fj M a) b
 |_=>ixL (j8 M a) b
def Ef(a:D)(U G:Option Int)(M:du):Option D:=match a with
 |.tup Z=>some (.tup (Ec Z U G))|_=>(fj M a).map λZ=>.vl (Ec Z U G)
noncomputable def allB:List D->Option Bool
 |[]=>some true|.bl b::r=>(allB r).map (b&&·)|_::_=>none
noncomputable def Xl(M:du):D->Res D
 |.ref n=>match M[n]? with
  |some (.lst ds)=>.ok (.int ds.length) M|_=>.bad
 |.fz ds=>.ok (.int ds.length) M|.tup ds=>.ok (.int ds.length) M|.vl ds=>.ok (.int ds.length) M|_=>.bad
def two(Z:List D)(f:Int->Int->Int)(g:D->Option Int)(M:du):Res D :=
 match Z with
 |[a,b]=>(match a,b with|.int i,.int j=>.ok (.int (f i j)) M|_,_=>.bad)
 |[d]=>Res.rn ((g d).map D.int) M|_=>.bad
noncomputable def Ma(Z:List D)(g:D->Res D):Res D :=
 match Z with
 |[d]=>g d|_=>.bad
def v7(b:Blt)(Z:List D)(M:du):Res D :=
 match b with
 |.len=>Ma Z (Xl M)|.tuple=>Ma Z λd=>Res.rn ((j8 M d).map D.tup) M
 |.max=>two Z (λi j=>if i<j then j else i) (λd=>((j8 M d).bind V8).bind air) M
 |.min=>two Z (λi j=>if j<i then j else i) (λd=>((j8 M d).bind V8).bind at5) M
 |.all=>Ma Z λd=>Res.rn (((fj M d).bind allB).map D.bl) M
 |.isBool=>Ma Z λd=>match d with|.bl _=>.ok (.bl true) M|_=>.bad
 |.Mz=>Ma Z λd=>match d with
  |.tup Z=>Res.rn ((V8 Z).bind λis=>if is.length<31 then some (D.int (Ga is).length) else none) M
  |_=>.bad
 |.list=>Ma Z λd=>match j8 M d with
  |some G=>new (.lst G) M
  |none=>match d with
   |.ref n=>match M[n]? with
    |some (.dT o6)=>if o6.length<=1000 then .ok (.vl (o6.map λp=>agv p.1)) M else .bad
    |_=>.bad
   |_=>.bad
def Pn(m:Bm)(x:D)(M:du):Bool :=
 match m with
 |.setdefault=>(match x with|.ref n=>(match M[n]? with|some (.dT _)=>true|_=>false)|_=>false)
 |.get=>(match x with|.ref n=>(match M[n]? with|some (.dT _)=>true|_=>false)|_=>false)
 |_=>(fj M x).isSome
noncomputable def Pq(n:Nat):D->Bool
 |.ref k=>k != n|_=>true
noncomputable def onL(o:D)(M:du)(f:Nat->List D->Res D):Res D:=match o with
 |.ref n=>match M[n]? with|some (.lst xs)=>f n xs|_=>.bad
 |_=>.bad
noncomputable def onT(o:D)(M:du)(f:Nat->List (List Kx×D)->Res D):Res D:=match o with
 |.ref n=>match M[n]? with|some (.dT o6)=>f n o6|_=>.bad
 |_=>.bad
def Hs(m:Bm)(o:D)(Z:List D)(M:du):Res D :=
 match m with
 |.append=>onL o M λn U=>Ma Z λd=>if U.length<100000 then .ok .non (M.set n (.lst (U++[d]))) else .bad
 |.extend=>onL o M λn U=>Ma Z λy=>match fj M y with
  |some R=>if Pq n y=true/\U.length+R.length<100000 then .ok .non (M.set n (.lst (U++R))) else .bad
  |none=>.bad
 |.get=>onT o M λn G=>match Z with
  |[k,d]=>Res.rn ((Nx k).map λq=>(Eh G q).getD d) M
  |_=>.bad
 |.index=>Ma Z λd=>Res.rn (((fj M o).bind (azo M d)).map λ(j:Nat)=>.int (j:Int)) M
 |.setdefault=>onT o M λn G=>match Z with
  |[k,d]=>match Nx k with
   |some q=>match Eh G q with
    |some v=>.ok v M|none=>if G.length<100000 then .ok d (M.set n (.dT (G++[(q,d)]))) else .bad
   |none=>.bad
  |_=>.bad
def setOp(o i v:D)(M:du):Option du :=
 match o with
 |.ref n=>match M[n]? with
  |some (.lst xs)=>match i with
   |.int j=>(Td xs.length j).map λq=>M.set n (.lst (xs.set q v))
   |_=>none
  |some (.dT o6)=>(Nx i).bind λk=>if o6.length<100000 then some (M.set n (.dT (Te o6 k v))) else none
  |_=>none
 |_=>none
noncomputable def Tf(f:Nat)(v:D):List (Nat×D)->List (Nat×D)
 |[]=>[(f,v)]|(g,x)::r=>if g=f then(g,v)::r else(g,x)::Tf f v r
noncomputable def Il(o:D)(f:Nat)(M:du):Option D :=
 match o with
 |.ref n=>match M[n]? with
  |some (.ins _ fs)=>fs.lookup f|_=>none
 |_=>none
def Th(o:D)(f:Nat)(v:D)(M:du):Option du :=
 match o with
 |.ref n=>match M[n]? with
  |some (.ins c fs)=>if fs.length<1000 then some (M.set n (.ins c (Tf f v fs))) else none
  |_=>none
 |_=>none
inductive Src where
 |con (ds:List D)|live (n:Nat) (len:Nat)|el (n:Nat) (len:Nat)
noncomputable def Src.len:Src->Nat
 |.con ds=>ds.length|.live _ k=>k|.el _ k=>k
noncomputable def Src.item(s:Src)(i:Nat)(M:du):Option D :=
 match s with
 |.con ds=>ds[i]?
 |.live n k=>match M[n]? with
  |some (.lst ds)=>if ds.length=k then ds[i]? else none
  |_=>none
 |.el n k=>match M[n]? with
  |some (.lst ds)=>if ds.length=k then(ds[i]?).map λd=>.tup [.int i,d] else none
  |_=>none
noncomputable def Src.fin(s:Src)(M:du):Bool :=
 match s with
 |.con _=>true
 |.live n k=>match M[n]? with
  |some (.lst ds)=>ds.length==k|_=>false
 |.el n k=>match M[n]? with
  |some (.lst ds)=>ds.length==k|_=>false
noncomputable def srcOf(M:du)(d:D):Option Src :=
 match d with
 |.tup ds=>some (.con ds)|.vl ds=>some (.con ds)
 |.ref n=>match M[n]? with
  |some (.lst ds)=>some (.live n ds.length)|_=>none
 |_=>none
inductive Flow where
 |next|brk|cont|ret (d:D)
noncomputable def Gb:List Nat->List D->Env->Env
 |i::is,d::ds,ρ=>Gb is ds (ρ.set i (some d))|_,_,ρ=>ρ
def Tg.put(t:Tg)(d:D)(Z:Env):Option Env :=
 match t with
 |.name i=>some (Z.set i (some d))
 |.names is=>match d with
  |.tup ds=>if ds.length=is.length then some (Gb is ds Z) else none
  |_=>none
structure Mg where
 call:Nat->List D->du->Res D
 cls:List Cl
def Bq(fin:du->Bool)(item:Nat->du->Option D)(Z:D->Env->du->Res (Flow×Env)):Nat->Nat->Env->du->Res (Flow×Env)
 |0,_,ρ,M=>if fin M then .ok (.next,ρ) M else .bad
 |k+1,i,ρ,M=>match item i M with
  |none=>.bad
  |some d=>(Z d ρ M).bind λr G=>match r.1 with
   |.next=>Bq fin item Z k (i+1) r.2 G|.cont=>Bq fin item Z k (i+1) r.2 G|.brk=>.ok (.next,r.2) G|.ret v=>.ok (.ret v,r.2) G
def Ca(fin:du->Bool)(item:Nat->du->Option D)(Z:D->du->Res (Option D)):Nat->Nat->du->Res (List D)
 |0,_,M=>if fin M then .ok [] M else .bad
 |k+1,i,M=>match item i M with
  |none=>.bad|some d=>(Z d M).bind λo U=>(Ca fin item Z k (i+1) U).bind λG R=>.ok (match o with|some x=>x::G|none=>G) R
def Ba(s:Src)(Z:D->du->Res (Option D))(M:du):Res (List D):=if s.len<=100000 then Ca s.fin s.item Z s.len 0 M else .bad
def Cr(c:Env->du->Res D)(Z:Env->du->Res (Flow×Env)):Nat->Env->du->Res (Flow×Env)
 |0,_,_=>.bad
 |k+1,ρ,M=>(c ρ M).bind λb U=>match b with
  |.bl false=>.ok (.next,ρ) U
  |.bl true=>(Z ρ U).bind λr G=>match r.1 with
   |.next=>Cr c Z k r.2 G|.cont=>Cr c Z k r.2 G|.brk=>.ok (.next,r.2) G|.ret v=>.ok (.ret v,r.2) G
  |_=>.bad
noncomputable def Vq:Nat:=1000000
noncomputable def Ti(G Z:List D):List D:=(G.zip Z).map λp=>.tup [p.1,p.2]
noncomputable def Dj(Z:List D):Nat->List D:=λn=>(Z.zipIdx n).map λp=>D.tup [.int p.2,p.1]
noncomputable def ad8(d:D)(M:du):Res Src :=
 match d with
 |.ref n=>match M[n]? with
  |some (.dT o6)=>.ok (.con (o6.map (·.2))) (M.set n (.dF o6))|_=>.bad
 |_=>.bad
def aob(d:D)(M:du):Res Src :=
 match d with
 |.tup ds=>.ok (.con (Dj ds 0)) M|.vl ds=>.ok (.con (Dj ds 0)) M
 |.ref n=>match M[n]? with
  |some (.lst ds)=>.ok (.el n ds.length) M|_=>.bad
 |_=>.bad
def at9(Z:List D)(M:du):Res Src:=match Z with
 |[.tup xs,.tup ys]=>.ok (.con (Ti xs ys)) M|_=>.bad
mutual
def Ex.den(W:Mg):Ex->Env->du->Res D
 |.var i,ρ,M=>match ρ[i]? with
  |some (some d)=>.ok d M|_=>.bad
 |.cst d,_,M=>.ok d M|.bin op a b,ρ,M=>(a.den W ρ M).bind λx Z=>(b.den W ρ Z).bind λy G=>Bs op x y G
 |.neg a,ρ,M=>(a.den W ρ M).bind λx Z=>match x with|.int i=>.ok (.int (-i)) Z|_=>.bad
 |.cmp op a b,ρ,M=>(a.den W ρ M).bind λx Z=>(b.den W ρ Z).bind λy G=>Res.rn ((Ik op x y G).map D.bl) G
 |.chain o1 o2 a b c,ρ,M=>(a.den W ρ M).bind λx Z=>(b.den W ρ Z).bind λy G=>(Res.rn (Ik o1 x y G) G).bind λq G=>if q then(c.den W ρ G).bind λz M3=>Res.rn ((Ik o2 y z M3).map D.bl) M3 else .ok (.bl false) G
 |.and a b,ρ,M=>(a.den W ρ M).bind λx Z=>match x with|.bl true=>b.den W ρ Z|.bl false=>.ok (.bl false) Z|_=>.bad
 |.or a b,ρ,M=>(a.den W ρ M).bind λx Z=>match x with|.bl true=>.ok (.bl true) Z|.bl false=>b.den W ρ Z|_=>.bad
 |.ite c a b,ρ,M=>(c.den W ρ M).bind λx Z=>match x with|.bl true=>a.den W ρ Z|.bl false=>b.den W ρ Z|_=>.bad
 |.not a,ρ,M=>(a.den W ρ M).bind λx Z=>match x with|.bl b=>.ok (.bl !b) Z|_=>.bad
 |.tup es,ρ,M=>(es.den W ρ M).bind λU Z=>.ok (.tup U) Z
 |.lst es,ρ,M=>(es.den W ρ M).bind λU Z=>new (.lst U) Z
 |.Ax es,ρ,M=>(es.den W ρ M).bind λU Z=>.ok (.vl U) Z
 |.acb,_,M=>new (.dT []) M|.ix a b,ρ,M=>(a.den W ρ M).bind λx Z=>(b.den W ρ Z).bind λy G=>Res.rn (rz x y G) G
 |.cut a lo hi,ρ,M=>(a.den W ρ M).bind λx Z=>(lo.den W ρ Z).bind λl G=>(hi.den W ρ G).bind λh M3=>Res.rn (Ef x l h M3) M3
 |.call f es,ρ,M=>(es.den W ρ M).bind λU Z=>W.call f U Z
 |.make c,ρ,M=>match W.cls[c]? with
  |some C=>(W.call C.init [.ref M.length] (M++[.ins c []])).bind λr G=>match r with|.non=>.ok (.ref M.length) G|_=>.bad
  |none=>.bad
 |.meth o m es,ρ,M=>(o.den W ρ M).bind λx Z=>(es.den W ρ Z).bind λU G=>match x with
  |.ref n=>match Z[n]? with
   |some (.ins c _)=>match(W.cls[c]?).bind λC=>C.meths.lookup m with
    |some f=>W.call f (.ref n::U) G|none=>.bad
   |_=>.bad
  |_=>.bad
 |.fld o f,ρ,M=>(o.den W ρ M).bind λx Z=>Res.rn (Il x f Z) Z
 |.blt b es,ρ,M=>(es.den W ρ M).bind λU Z=>v7 b U Z
 |.bm m o es,ρ,M=>(o.den W ρ M).bind λx Z=>if Pn m x Z then(es.den W ρ Z).bind λU G=>Hs m x U G else .bad
 |.comp v k t it e,ρ,M=>(it.den W ρ M).bind λs Z =>
  (Ba s (λd M=>match t.put d (ρ++List.replicate k none) with
   |some R=>(e.den W R M).bind λx M'=>.ok (some x) M'
   | none=>.bad) Z).bind λU G=>if v then .ok (.vl U) G else new (.lst U) G
 |.yu v k t it c e,ρ,M=>(it.den W ρ M).bind λs Z =>
  (Ba s (λd M=>match t.put d (ρ++List.replicate k none) with
   |some R=>(c.den W R M).bind λb M'=>match b with
    |.bl true=>(e.den W R M').bind λx qq=>.ok (some x) qq
    |.bl false=>.ok none M'|_=>.bad
   | none=>.bad) Z).bind λU G=>if v then .ok (.vl U) G else new (.lst U) G
 |.ntr e,ρ,M=>(e.den W ρ M).bind λx Z=>Res.rn ((j8 Z x).map λU=>D.bl U.isEmpty) Z
 |.tru e,ρ,M=>(e.den W ρ M).bind λx Z=>Res.rn ((j8 Z x).map λU=>D.bl !U.isEmpty) Z
def Eb.den(W:Mg):Eb->Env->du->Res (List D)
 |.nil,_,M=>.ok [] M|.cons e es,ρ,M=>(e.den W ρ M).bind λx Z=>(es.den W ρ Z).bind λU G=>.ok (x::U) G
def OEx.den(W:Mg):OEx->Env->du->Res (Option Int)
 |.none,_,M=>.ok none M|.some e,ρ,M=>(e.den W ρ M).bind λx Z=>match x with|.int i=>.ok (some i) Z|_=>.bad
def Nb.den(W:Mg):Nb->Env->du->Res Src
 |.val e,ρ,M=>(e.den W ρ M).bind λx Z=>Res.rn (srcOf Z x) Z
 |.Rh e,ρ,M=>(e.den W ρ M).bind λx Z=>match x with
  |.int i=>if i.natAbs<=100000 then .ok (.con ((List.range i.toNat).map λ(k:Nat)=>D.int (k:Int))) Z else .bad
  |_=>.bad
 |.enm e,ρ,M=>(e.den W ρ M).bind aob|.zip es,ρ,M=>(es.den W ρ M).bind at9|.vals e,ρ,M=>(e.den W ρ M).bind ad8
end
def Lv.put(W:Mg)(l:Lv)(d:D)(Z:Env)(M:du):Res Env :=
 match l with
 |.tg t=>Res.rn (t.put d Z) M|.sub o i=>(o.den W Z M).bind λx G=>(i.den W Z G).bind λy U=>(Res.rn (setOp x y d U) U).bind λR _=>.ok Z R
 |.fld o f=>(o.den W Z M).bind λx G=>(Res.rn (Th x f d G) G).bind λU _=>.ok Z U
mutual
def Aj.den(W:Mg):Aj->Env->du->Res (Flow×Env)
 |.asg l e,Z,M=>(e.den W Z M).bind λx G=>(l.put W x Z G).bind λU R=>.ok (.next,U) R
 |.expr e,Z,M=>(e.den W Z M).bind λ_ G=>.ok (.next,Z) G
 |.iff c a b,Z,M=>(c.den W Z M).bind λx G=>match x with|.bl true=>a.den W Z G|.bl false=>b.den W Z G|_=>.bad
 |.whl c b,Z,M=>Cr (c.den W) (b.den W) Vq Z M
 | .for_ t it b,Z,M=>(it.den W Z M).bind λs G=>Bq s.fin s.item (λd Z M=>match t.put d Z with
  | some U=>b.den W U M|none=>.bad) s.len 0 Z G
 |.ret e,Z,M=>(e.den W Z M).bind λx G=>.ok (.ret x,Z) G
 |.raise,_,_=>.bad
def my.den(W:Mg):my->Env->du->Res (Flow×Env)
 |.nil,ρ,M=>.ok (.next,ρ) M
 |.cons s r,ρ,M=>(s.den W ρ M).bind λp Z=>match p.1 with
  |.next=>r.den W p.2 Z|.brk=>.ok (.brk,p.2) Z|.cont=>.ok (.cont,p.2) Z|.ret d=>.ok (.ret d,p.2) Z
end
structure Prog where
 fns:List Fn
 cls:List Cl
def Fn.run(W:Mg)(f:Fn)(Z:List D)(M:du):Res D :=
 if Z.length=f.np then
  (f.body.den W (Z.map some++List.replicate (f.ns-f.np) none) M).bind λp G=>match p.1 with
   |.ret d=>.ok d G|.next=>.ok .non G|_=>.bad
 else .bad
def Prog.call(P:Prog):Nat->Nat->List D->du->Res D
 |0,_,_,_=>.bad
 |n+1,f,ds,M=>match P.fns[f]? with
  |some F=>F.run ⟨P.call n,P.cls⟩ ds M|none=>.bad
@[simp] def aoc(i:Nat):(Ex.var i).den W Z M=match Z[i]? with|some (some d)=>.ok d M|_=>.bad:=rfl
@[simp high] theorem aua(d:D)(r:Env):(Ex.var 0).den W (some d::r) M=.ok d M:=rfl
@[simp high] theorem acf(Z:Option D)(d:D)(r:Env):(Ex.var 1).den W (Z::some d::r) M=.ok d M:=rfl
@[simp high] theorem a7d(G Z:Option D)(d:D)(r:Env):(Ex.var 2).den W (G::Z::some d::r) M=.ok d M:=rfl
@[simp high] theorem a7e(G Z U:Option D)(d:D)(r:Env):(Ex.var 3).den W (G::Z::U::some d::r) M=.ok d M:=rfl
@[simp high] theorem a7f(Z U R G:Option D)(d:D)(r:Env):(Ex.var 4).den W (Z::U::R::G::some d::r) M=.ok d M:=rfl
@[simp high] theorem a7g(G Z R U a4:Option D)(d:D)(r:Env):(Ex.var 5).den W (G::Z::R::U::a4::some d::r) M=.ok d M:=rfl
@[simp high] theorem a7h(U G a2 R a4 Z:Option D)(d:D)(r:Env):(Ex.var 6).den W (U::G::a2::R::a4::Z::some d::r) M=.ok d M:=rfl
@[simp high] theorem a7i(R U a2 a3 a4 Z G:Option D)(d:D)(r:Env):(Ex.var 7).den W (R::U::a2::a3::a4::Z::G::some d::r) M=.ok d M:=rfl
@[simp high] theorem aiu(R U a2 a3 a4 Z G a7:Option D)(d:D)(r:Env):(Ex.var 8).den W (R::U::a2::a3::a4::Z::G::a7::some d::r) M=.ok d M:=rfl
@[simp high] theorem a7j(a0 R a2 a3 a4 Z U a7 G:Option D)(d:D)(r:Env):(Ex.var 9).den W (a0::R::a2::a3::a4::Z::U::a7::G::some d::r) M=.ok d M:=rfl
@[simp high] theorem a4z(a0 R a2 a3 a4 Z U a7 G a9:Option D)(d:D)(r:Env):(Ex.var 10).den W (a0::R::a2::a3::a4::Z::U::a7::G::a9::some d::r) M=.ok d M:=rfl
@[simp high] theorem a5a(a0 a1 a2 a3 a4 G R a7 U a9 Z:Option D)(d:D)(r:Env):(Ex.var 11).den W (a0::a1::a2::a3::a4::G::R::a7::U::a9::Z::some d::r) M=.ok d M:=rfl
@[simp high] theorem a5b(a0 a1 a2 a3 a4 U a6 a7 R a9 Z G:Option D)(d:D)(r:Env):(Ex.var 12).den W (a0::a1::a2::a3::a4::U::a6::a7::R::a9::Z::G::some d::r) M=.ok d M:=rfl
@[simp] def Ha(d:D):(Ex.cst d).den W Z M=.ok d M:=rfl
@[simp] def aod(Z:Op2)(a b:Ex):(Ex.bin Z a b).den W G M=(a.den W G M).bind λx U=>(b.den W G U).bind λy M2=>Bs Z x y M2:=rfl
@[simp] def aoe(a:Ex):(Ex.neg a).den W G M=(a.den W G M).bind λx Z=>match x with|.int i=>.ok (.int (-i)) Z|_=>.bad:=rfl
@[simp] def Ro(Z:Cp)(a b:Ex):(Ex.cmp Z a b).den W G M=(a.den W G M).bind λx U=>(b.den W G U).bind λy M2=>Res.rn ((Ik Z x y M2).map D.bl) M2:=rfl
@[simp] def agw(U R:Cp)(a b c:Ex):(Ex.chain U R a b c).den W Z M=(a.den W Z M).bind λx M1=>(b.den W Z M1).bind λy M2=>(Res.rn (Ik U x y M2) M2).bind λq M2=>if q then(c.den W Z M2).bind λz G=>Res.rn ((Ik R y z G).map D.bl) G else .ok (.bl false) M2:=rfl
def ad9(a b:Ex):(Ex.and a b).den W G M=(a.den W G M).bind λx Z=>match x with|.bl true=>b.den W G Z|.bl false=>.ok (.bl false) Z|_=>.bad:=rfl
def aiv(a b:Ex):(Ex.or a b).den W G M=(a.den W G M).bind λx Z=>match x with|.bl true=>.ok (.bl true) Z|.bl false=>b.den W G Z|_=>.bad:=rfl
@[simp] def aea(a:Ex):(Ex.not a).den W G M=(a.den W G M).bind λx Z=>match x with|.bl b=>.ok (.bl !b) Z|_=>.bad:=rfl
@[simp] def aof(Z:Eb):(Ex.tup Z).den W U M=(Z.den W U M).bind λG M1=>.ok (.tup G) M1:=rfl
@[simp] def aog(Z:Eb):(Ex.lst Z).den W U M=(Z.den W U M).bind λG M1=>new (.lst G) M1:=rfl
@[simp] def Tj(Z:Eb):(Ex.Ax Z).den W U M=(Z.den W U M).bind λG M1=>.ok (.vl G) M1:=rfl
@[simp] def aiw:Ex.acb.den W Z M=new (.dT []) M:=rfl
@[simp] def aub(a b:Ex):(Ex.ix a b).den W Z M=(a.den W Z M).bind λx G=>(b.den W Z G).bind λy M2=>Res.rn (rz x y M2) M2:=rfl
@[simp] def Xm(a:Ex)(G U:OEx):(Ex.cut a G U).den W Z M=(a.den W Z M).bind λx M1=>(G.den W Z M1).bind λl R=>(U.den W Z R).bind λh M3=>Res.rn (Ef x l h M3) M3:=rfl
@[simp] def Zz(f:Nat)(Z:Eb):(Ex.call f Z).den W U M=(Z.den W U M).bind λG M1=>W.call f G M1:=rfl
@[simp] def aix(c:Nat):(Ex.make c).den W G M=(match W.cls[c]? with
 |some C=>(W.call C.init [.ref M.length] (M++[.ins c []])).bind λr Z=>match r with|.non=>.ok (.ref M.length) Z|_=>.bad
 | none=>.bad):=rfl
@[simp] def aiy(o:Ex)(m:Nat)(U:Eb):(Ex.meth o m U).den W Z M=(o.den W Z M).bind λx G=>(U.den W Z G).bind λds R=>(match x with
 |.ref n=>match G[n]? with
  |some (.ins c _)=>match(W.cls[c]?).bind λC=>C.meths.lookup m with
   |some f=>W.call f (.ref n::ds) R|none=>.bad
  |_=>.bad
 | _=>.bad):=rfl
@[simp] def aoh(o:Ex)(f:Nat):(Ex.fld o f).den W Z M=(o.den W Z M).bind λx M1=>Res.rn (Il x f M1) M1:=rfl
@[simp] def Xn(b:Blt)(Z:Eb):(Ex.blt b Z).den W U M=(Z.den W U M).bind λG M1=>v7 b G M1:=rfl
@[simp] def auc(m:Bm)(o:Ex)(U:Eb):(Ex.bm m o U).den W Z M=(o.den W Z M).bind λx G=>if Pn m x G then(U.den W Z G).bind λds R=>Hs m x ds R else .bad:=rfl
def Z0(v:Bool)(k:Nat)(t:Tg)(it:Nb)(e:Ex):(Ex.comp v k t it e).den W G M=(it.den W G M).bind λs M1 =>
 (Ba s (λd M=>match t.put d (G++List.replicate k none) with
  |some Z=>(e.den W Z M).bind λx R=>.ok (some x) R
  | none=>.bad) M1).bind λU M2=>if v then .ok (.vl U) M2 else new (.lst U) M2:=rfl
def Tn(v:Bool)(k:Nat)(t:Tg)(it:Nb)(c e:Ex):(Ex.yu v k t it c e).den W R M=(it.den W R M).bind λs M1 =>
 (Ba s (λd M=>match t.put d (R++List.replicate k none) with
  |some Z=>(c.den W Z M).bind λb U=>match b with
   |.bl true=>(e.den W Z U).bind λx G=>.ok (some x) G
   |.bl false=>.ok none U|_=>.bad
  | none=>.bad) M1).bind λds M2=>if v then .ok (.vl ds) M2 else new (.lst ds) M2:=rfl
@[simp] def Et:Eb.nil.den W Z M=.ok [] M:=rfl
@[simp] def Df(e:Ex)(Z:Eb):(Eb.cons e Z).den W G M=(e.den W G M).bind λx U=>(Z.den W G U).bind λR M2=>.ok (x::R) M2:=rfl
@[simp] def Pu:OEx.none.den W Z M=.ok none M:=rfl
@[simp] def Px(e:Ex):(OEx.some e).den W G M=(e.den W G M).bind λx Z=>match x with|.int i=>.ok (some i) Z|_=>.bad:=rfl
@[simp] def Em(e:Ex):(Nb.val e).den W Z M=(e.den W Z M).bind λx M1=>Res.rn (srcOf M1 x) M1:=rfl
@[simp] theorem Ny{W:Mg}{Z:Env}{M:du}(e:Ex):(Nb.Rh e).den W Z M=(e.den W Z M).bind λx G=>match x with
 |.int i=>if i.natAbs<=100000 then .ok (.con ((List.range i.toNat).map λ(k:Nat)=>D.int (k:Int))) G else .bad
 |_=>.bad:=rfl
@[simp] def aeb(e:Ex):(Nb.enm e).den W Z M=(e.den W Z M).bind aob:=rfl
@[simp] def Z3(e:Ex):(Nb.vals e).den W Z M=(e.den W Z M).bind ad8:=rfl
@[simp] def Xo(Z:Eb):(Nb.zip Z).den W G M=(Z.den W G M).bind at9:=rfl
@[simp] def Lq(e:Ex):(Ex.ntr e).den W G M=(e.den W G M).bind λx M1=>Res.rn ((j8 M1 x).map λZ=>D.bl Z.isEmpty) M1:=rfl
@[simp] def aec(e:Ex):(Ex.tru e).den W G M=(e.den W G M).bind λx M1=>Res.rn ((j8 M1 x).map λZ=>D.bl !Z.isEmpty) M1:=rfl
@[simp] def Xp(l:Lv)(e:Ex):(Aj.asg l e).den W G M=(e.den W G M).bind λx U=>(l.put W x G U).bind λZ M2=>.ok (.next,Z) M2:=rfl
@[simp] def aed(e:Ex):(Aj.expr e).den W Z M=(e.den W Z M).bind λ_ M1=>.ok (.next,Z) M1:=rfl
def aud(c:Ex)(a b:my):(Aj.iff c a b).den W Z M=(c.den W Z M).bind λx G=>match x with|.bl true=>a.den W Z G|.bl false=>b.den W Z G|_=>.bad:=rfl
@[simp] def aue(e:Ex):(Aj.ret e).den W Z M=(e.den W Z M).bind λx M1=>.ok (.ret x,Z) M1:=rfl
@[simp] def aiz:Aj.raise.den W Z M=.bad:=rfl
def Py(c:Ex)(b:my):(Aj.whl c b).den W Z M=Cr (c.den W) (b.den W) Vq Z M:=rfl
def ai0(t:Tg)(it:Nb)(b:my):(Aj.for_ t it b).den W Z M=(it.den W Z M).bind λs M1=>Bq s.fin s.item (λd Z M=>match t.put d Z with
 | some G=>b.den W G M|none=>.bad) s.len 0 Z M1:=rfl
@[simp] def Xq:my.nil.den W Z M=.ok (.next,Z) M:=rfl
theorem ai1{W:Mg}{Z:Env}{M:du}(s:Aj)(r:my):(my.cons s r).den W Z M=(s.den W Z M).bind λp M1=>match p.1 with
 |.next=>r.den W p.2 M1|.brk=>.ok (.brk,p.2) M1|.cont=>.ok (.cont,p.2) M1|.ret d=>.ok (.ret d,p.2) M1:=rfl
def Xr(W:Mg)(r:my)(x:Res (Flow×Env)):Res (Flow×Env):=x.bind λp Z=>match p.1 with
 |.next=>r.den W p.2 Z|.brk=>.ok (.brk,p.2) Z|.cont=>.ok (.cont,p.2) Z|.ret d=>.ok (.ret d,p.2) Z
@[simp] def qx(s:Aj)(r:my):(my.cons s r).den W Z M=Xr W r (s.den W Z M):=rfl
@[simp] def p6(r:my):Xr W r (.ok (.next,Z) M)=r.den W Z M:=rfl
@[simp] def a5c(r:my):Xr W r (.ok (.brk,Z) M)=.ok (.brk,Z) M:=rfl
@[simp] def azs(r:my):Xr W r (.ok (.cont,Z) M)=.ok (.cont,Z) M:=rfl
@[simp] def a5d(r:my)(d:D):Xr W r (.ok (.ret d,Z) M)=.ok (.ret d,Z) M:=rfl
def ifK{α:Type}(a b:du->Res α)(x:Res D):Res α:=x.bind λx Z=>match x with|.bl true=>a Z|.bl false=>b Z|_=>.bad
@[simp] def ai2(c:Ex)(a b:my):(Aj.iff c a b).den W Z M=ifK (a.den W Z) (b.den W Z) (c.den W Z M):=rfl
@[simp] def a7k(a b:Ex):(Ex.and a b).den W Z M=ifK (b.den W Z) (.ok (.bl false)) (a.den W Z M):=rfl
@[simp] def asd(a b:Ex):(Ex.or a b).den W Z M=ifK (.ok (.bl true)) (b.den W Z) (a.den W Z M):=rfl
def aoi(c a b:Ex):(Ex.ite c a b).den W Z M=(c.den W Z M).bind λx G=>match x with|.bl true=>a.den W Z G|.bl false=>b.den W Z G|_=>.bad:=rfl
@[simp] def a7l(c a b:Ex):(Ex.ite c a b).den W Z M=ifK (a.den W Z) (b.den W Z) (c.den W Z M):=rfl
@[simp] def azt(a b:du->Res α):ifK a b (.ok (.bl true) M)=a M:=rfl
@[simp] def ase(a b:du->Res α):ifK a b (.ok (.bl false) M)=b M:=rfl
@[simp] def acg(t:Tg)(d:D):(Lv.tg t).put W d Z M=Res.rn (t.put d Z) M:=rfl
@[simp] def aoj(o i:Ex)(d:D):(Lv.sub o i).put W d Z M=(o.den W Z M).bind λx U=>(i.den W Z U).bind λy G=>(Res.rn (setOp x y d G) G).bind λM3 _=>.ok Z M3:=rfl
@[simp] def aok(o:Ex)(f:Nat)(d:D):(Lv.fld o f).put W d G M=(o.den W G M).bind λx Z=>(Res.rn (Th x f d Z) Z).bind λM2 _=>.ok G M2:=rfl
@[simp] def ach(i:Nat)(d:D):(Tg.name i).put d Z=some (Z.set i (some d)):=rfl
@[simp] def asf(is:Y3)(Z:List D)(h:Z.length=is.length):(Tg.names is).put (.tup Z) G=some (Gb is Z G):=by simp[Tg.put,h]
@[simp] def ash(i:Nat)(is:Y3)(d:D)(Z:List D):Gb (i::is) (d::Z) G=Gb is Z (G.set i (some d)):=rfl
@[simp] def auh(Z:List D):Gb [] Z ρ=ρ:=by cases Z<;>rfl
@[simp] def azu(i j:Int):Bs .add (.int i) (.int j) M=.ok (.int (i+j)) M:=rfl
@[simp] def azv(i j:Int):Bs .sub (.int i) (.int j) M=.ok (.int (i-j)) M:=rfl
def Kd(i j:Int)(h:(-(2 ^ 64)<i/\i<2 ^ 64)\/(-(2 ^ 64)<j/\j<2 ^ 64)):Bs .mul (.int i) (.int j) M=.ok (.int (i*j)) M:=bz h
def V9(i j:Int)(h:0<j)(Z:j<1073741824):Bs .fdiv (.int i) (.int j) M=.ok (.int (i / j)) M:=bz ⟨h,Z⟩
@[simp] def azw(i j:Int)(h:0<j):Bs .mod (.int i) (.int j) M=.ok (.int (i%j)) M:=bz h
@[simp] def aui:Bs .pow (.int 10) (.int 18) M=.ok (.int (10 ^ 18)) M:=by simp[Bs,asb]
@[simp] def aol(ds:List D):aob (.tup ds) M=.ok (.con (Dj ds 0)) M:=rfl
@[simp] def a7m(Z:List D):aob (.vl Z) M=.ok (.con (Dj Z 0)) M:=rfl
@[simp] def eq_str(i j:PySem.Str):q9 M (.str i) (.str j)=some (decide (i=j)):=rfl
def Lr(G Z:List D)(h:G.length+Z.length<=100000):Bs .add (.tup G) (.tup Z) M=.ok (.tup (G++Z)) M:=bz h
def Fw(G Z:List D)(h:G.length+Z.length<=100000):Bs .add (.vl G) (.vl Z) M=.ok (.vl (G++Z)) M:=bz h
@[simp] def a7n(i j:Int):Ik .lt (.int i) (.int j) M=some (decide (i<j)):=rfl
@[simp] def a7o(i j:Int):Ik .le (.int i) (.int j) M=some (decide (i<=j)):=rfl
@[simp] def cmp_gt(i j:Int):Ik .gt (.int i) (.int j) M=some (decide (j<i)):=rfl
@[simp] def a7p(i j:Int):Ik .ge (.int i) (.int j) M=some (decide (j<=i)):=rfl
@[simp] def ai3(a b:D):Ik .eq a b M=q9 M a b:=rfl
@[simp] def a7q(a b:D):Ik .ne a b M=(q9 M a b).map not:=rfl
@[simp] def a7r(a b:D):Ik .inn a b M=Pk M a b:=rfl
@[simp] def ayl(a b:D):Ik .Kc a b M=(Pk M a b).map not:=rfl
def Xu(n:Nat)(i j:Int):Dh M (n+1) (.int i) (.int j)=some (decide (i=j)):=rfl
def An(G:Az f a b=some x)(Z:Nq f as bs=some y):Nq f (a::as) (b::bs)=some (x&&y):=by simp[Nq,G,Z]
@[simp] def eq_int(i j:Int):q9 M (.int i) (.int j)=some (decide (i=j)):=rfl
@[simp] def bax(i j:Bool):q9 M (.bl i) (.bl j)=some (i==j):=rfl
@[simp] def aym(ds:List D):fj M (.vl ds)=some ds:=rfl
@[simp] def azx(ds:List D):j8 M (.vl ds)=some ds:=rfl
@[simp] def ayn(ds:List D):j8 M (.tup ds)=some ds:=rfl
def iw(h:M[n]?=some (.lst ds)):fj M (.ref n)=some ds:=by simp[fj,h]
def Dk(h:fj M d=some ds):j8 M d=some ds:=by cases d<;>first|exact h|(simp[fj] at h)
set_option tactic.hygienic true in
def len_list(h:fj M d=some ds):v7 .len [d] M=.ok (.int ds.length) M:=by
 show Xl M d=_;cases d with
 |vl Y=>simp[fj] at h;subst h;rfl
 |ref n =>
  simp only[fj] at h;split at h<;>simp at h;rename_i Y Z;subst h;simp[Xl,Z]
 |_=>simp[fj] at h
@[simp] def azy(d:D)(g:D->Res D):Ma [d] g=g d:=rfl
@[simp] def azz(g:D->Res D):Ma [] g=.bad:=rfl
@[simp] def ayo(a b:D)(l:List D)(g:D->Res D):Ma (a::b::l) g=.bad:=rfl
@[simp] def a7s(i j:Int)(f:Int->Int->Int)(g:D->Option Int):two [.int i,.int j] f g M=.ok (.int (f i j)) M:=rfl
@[simp] def a5e(d:D)(f:Int->Int->Int)(g:D->Option Int):two [d] f g M=Res.rn ((g d).map D.int) M:=rfl
@[simp] def auj(Z:List D):Xl M (.tup Z)=.ok (.int Z.length) M:=rfl
def Bt:v7 .len [.tup ds] M=.ok (.int ds.length) M:=rfl
def yf(h:fj M d=some ds)(R:0<=i)(hx:ds[i.toNat]?=some x):rz d (.int i) M=some x:=by
 obtain⟨G,Z⟩:=ak.mp hx;have U:i<ds.length:=by lia
 cases d with
 |vl xs=>simp[fj] at h;subst h;simp[rz,ixL,j8,Td,R,U,G,Z]
 |ref n =>
  simp only[fj] at h;cases e:M[n]? with
  |none=>rw[e] at h;simp at h|some o=>rw[e] at h;cases o<;>simp at h<;>subst h<;>simp[rz,ixL,j8,fj,e,Td,R,U,G,Z]
 |_=>simp[fj] at h
def Iz(h0:0<=i)(R:ds[i.toNat]?=some x):rz (.tup ds) (.int i) M=some x:=by
 obtain⟨G,Z⟩:=ak.mp R;have U:i<ds.length:=by lia
 simp[rz,ixL,j8,Td,h0,U,G,Z]
def az0(h0:0<=i)(R:ds[i.toNat]?=some x):rz (.fz ds) (.int i) M=some x:=by
 obtain⟨G,Z⟩:=ak.mp R;have U:i<ds.length:=by lia
 simp[rz,ixL,Td,h0,U,G,Z]
def ai4:v7 .len [.fz ds] M=.ok (.int ds.length) M:=rfl
@[simp] def Bh(x:D)(r:List D):rz (.tup (x::r)) (.int 0) M=some x:=Iz (by decide) rfl
@[simp] def Cu(x y:D)(r:List D):rz (.tup (x::y::r)) (.int 1) M=some y:=Iz (by decide) rfl
@[simp] def Rp(x y z:D)(r:List D):rz (.tup (x::y::z::r)) (.int 2) M=some z:=Iz (by decide) rfl
@[simp] def bay(i j:Int):Nx (.tup [.int i,.int j])=some [.inl i,.inl j]:=rfl
def az1(h:M[n]?=some (.dT Z))(G:Nx b=some k):rz (.ref n) b M=Eh Z k:=by simp[rz,h,G]
def aci(h:M[n]?=some (.dT Z))(G:Nx b=some k)(U:Z.length<100000):setOp (.ref n) b d M=some (M.set n (.dT (Te Z k d))):=by simp[setOp,h,G,U]
def Ke(h:M[n]?=some (.lst Z)):Pn .append (.ref n) M=true:=by simp[Pn,fj,h]
def Hb(h:M[n]?=some (.lst Z))(G:Z.length<100000):Hs .append (.ref n) [d] M=.ok .non (M.set n (.lst (Z++[d]))):=by simp[Hs,onL,h,G]
def aee(h:M[n]?=some (.lst Z))(U:0<=i)(G:i<Z.length):setOp (.ref n) (.int i) d M=some (M.set n (.lst (Z.set i.toNat d))):=by simp[setOp,h,Td,U,G]
def yw{M:du}(h:M[a]?=some o):a<M.length:=(ak.mp h).1
def qp{M:du}(h:M[a]?=some p):(M.set a o)[a]?=some o:=by rw[ym (yw h)]
def lr{M:du}(h:b≠a):(M.set b o)[a]?=M[a]?:=uh h
def Cw{M:du}{a:Nat}(h:M[a]?=some o):(M++X)[a]?=some o:=by rw[gb (yw h)];exact h
@[simp] def Bj{M:du}:(M++[o])[M.length]?=some o:=by simp
theorem Xv{fin:du->Bool}{item:Nat->du->Option D}{U:D->Env->du->Res (Flow×Env)}(I:Nat->Env->du->Prop){n:Nat}
 (step:∀i Z M,i<n->I i Z M->∃d fl G R,item i M=some d/\U d Z M=.ok (fl,G) R/\(fl=.next\/fl=.cont)/\I (i+1) G R) (Tp:∀Z M,I n Z M->fin M=true) :
 ∀(k i:Nat)(Z:Env)(M:du),i+k=n->I i Z M->∃G R,Bq fin item U k i Z M=.ok (.next,G) R/\I n G R
 |0,i,Z,M,e,h=>by
  have q:i=n:=by lia
  rw[q] at h;exact⟨Z,M,by simp[Bq,Tp Z M h],h⟩
 |k+1,i,Z,M,e,h=>by
  obtain⟨d,fl,qk,M1,h1,h2,h3,h4⟩:=step i Z M (by lia) h;obtain⟨qq,M2,g1,g2⟩:=Xv I step Tp k (i+1) qk M1 (by lia) h4;refine⟨qq,M2,?_,g2⟩;rcases h3 with rfl|rfl<;>simp[Bq,h1,h2,g1]
def Xw(I:Nat->Env->du->Prop)(h0:I 0 G M)(step:∀i d G M,ds[i]?=some d->I i G M->∃U Z M',body d G M=.ok (U,Z) M'/\(U=.next\/U=.cont)/\I (i+1) Z M') :
 ∃Z M',Bq (Src.con ds).fin (Src.con ds).item body (Src.con ds).len 0 G M=.ok (.next,Z) M'/\I ds.length Z M':=by
 refine Xv I (λi G M R h=>?_) (λ_ _ _=>rfl) ds.length 0 G M (vz _) h0;obtain⟨U,Z,M',a,b,c⟩:=step i ds[i] G M (by simp[R]) h;exact⟨ds[i],U,Z,M',by simp[Src.item,R],a,b,c⟩
def aom(I:Nat->Env->du->Prop)(h0:I 0 G M)(step:∀i G M,i<n->I i G M->∃R Z M',body (.int i) G M=.ok (R,Z) M'/\(R=.next\/R=.cont)/\I (i+1) Z M') :
 ∃Z M',Bq (Src.con ((List.range n).map λ(k:Nat)=>D.int (k:Int))).fin (Src.con ((List.range n).map λ(k:Nat)=>D.int (k:Int))).item body (Src.con ((List.range n).map λ(k:Nat)=>D.int (k:Int))).len 0 G M=.ok (.next,Z) M'/\I n Z M':=by
 have:=Xw (ds:=(List.range n).map λ(k:Nat)=>D.int (k:Int)) (body:=body) I h0 (λi d G M U h=>by
  have hi:i<n:=by have:=(ak.mp U).1;simpa using this
  rw[iu,List.getElem?_range hi] at U;have U:D.int (i:Int)=d:=by simpa using U
  subst U;exact step i G M hi h)
 simpa using this
def ai5(I:Nat->Env->du->Prop)(h0:I 0 G M)(stay:∀i G M,I i G M->M[p]?=some (.lst ds))(step:∀i d G M,ds[i]?=some d->I i G M->∃U Z M',body d G M=.ok (U,Z) M'/\(U=.next\/U=.cont)/\I (i+1) Z M') :
 ∃Z M',Bq (Src.live p ds.length).fin (Src.live p ds.length).item body (Src.live p ds.length).len 0 G M=.ok (.next,Z) M'/\I ds.length Z M':=by
 refine Xv I (λi G M R h=>?_) (λG M h=>by simp[Src.fin,stay _ G M h]) ds.length 0 G M (vz _) h0;obtain⟨U,Z,M',a,b,c⟩:=step i ds[i] G M (by simp[R]) h;exact⟨ds[i],U,Z,M',by simp[Src.item,stay i G M h,R],a,b,c⟩
theorem Im{fin:du->Bool}{item:Nat->du->Option D}{body:D->du->Res (Option D)}(I:Nat->List D->du->Prop){n:Nat}
 (step:∀i Z M,i<n->I i Z M->∃d o G,item i M=some d/\body d M=.ok o G/\I (i+1) (Z++o.toList) G) (R:∀Z M,I n Z M->fin M=true) :
 ∀(k i:Nat)(Z:List D)(M:du),i+k=n->I i Z M->∃U G,Ca fin item body k i M=.ok U G/\I n (Z++U) G
 |0,i,Z,M,e,h=>by
  have q:i=n:=by lia
  rw[q] at h;exact⟨[],M,by simp[Ca,R Z M h],by simpa using h⟩
 |k+1,i,Z,M,e,h=>by
  obtain⟨d,o,M1,h1,h2,h3⟩:=step i Z M (by lia) h;obtain⟨U,M2,g1,g2⟩:=Im I step R k (i+1) (Z++o.toList) M1 (by lia) h3;refine⟨o.toList++U,M2,?_,by rw[<- nq];exact g2⟩;cases o<;>simp[Ca,h1,h2,g1]
def Wa{s:Src}{ds:List D}(Tp:s.fin M=true)(hl:s.len=ds.length)(hi:∀i,i<ds.length->s.item i M=ds[i]?)(h:∀d∈ds,body d M=.ok (g d) M) :
 Ca s.fin s.item body s.len 0 M=.ok (ds.filterMap g) M:=by
 obtain⟨ys,Z,e,h1,R⟩:=Im (fin:=s.fin) (item:=s.item) (body:=body) (λi U Z=>Z=M/\U=(ds.take i).filterMap g) (n:=ds.length) (λi U Z G hI=>by
  obtain⟨rfl,rfl⟩:=hI;refine⟨ds[i],g ds[i],Z,by rw[hi i G];simp[G],h _ (zm G),rfl,?_⟩;rw[vg,List.filterMap_append];simp[G];cases e:g ds[i]<;>simp[e]) (λU Z h=>by rw[h.1];exact Tp) ds.length 0 [] M (vz _) ⟨rfl,rfl⟩
 rw[hl,e,h1];simp at R;rw[R]
def ai6(h:∀d∈ds,body d M=.ok (some (g d)) M) :
 Ca (Src.con ds).fin (Src.con ds).item body (Src.con ds).len 0 M=.ok (ds.map g) M:=by
 rw[Wa (s:=.con ds) (ds:=ds) (g:=λd=>some (g d)) rfl rfl (λi _=>rfl) h,List.filterMap_eq_map']
end MW
namespace MW
theorem Fy{c:Env->du->Res D}{body:Env->du->Res (Flow×Env)}(I:Nat->Env->du->Prop)(R:Env->du->Prop)
 (step:∀m G M,I m G M->(∃U,c G M=.ok (.bl false) U/\R G U) \/
  ∃U fl Z M2 m',c G M=.ok (.bl true) U/\body G U=.ok (fl,Z) M2/\(fl=.next\/fl=.cont)/\m'<m/\I m' Z M2) :
 ∀(k m:Nat)(G:Env)(M:du),m<k->I m G M->∃Z M',Cr c body k G M=.ok (.next,Z) M'/\R Z M'
 |0,m,_,_,h,_=>absurd h (qi _)
 |k+1,m,G,M,h,hI=>by
  rcases step m G M hI with⟨U,h1,h2⟩|⟨U,fl,qk,M2,m',h1,h2,h3,h4,h5⟩
  .exact⟨G,U,by simp[Cr,h1],h2⟩
  .obtain⟨qq,M3,g1,g2⟩:=Fy I R step k m' qk M2 (b_ h4 (z_ h)) h5
   refine⟨qq,M3,?_,g2⟩;rcases h3 with rfl|rfl<;>simp[Cr,h1,h2,g1]
end MW
namespace MW
def ni(M Z:du):Prop:=∀(a:Nat)(o:MO),M[a]?=some o->Z[a]?=some o
def ni.refl(M:du):ni M M:=λ_ _ h=>h
def ni.trans(a:ni M Z)(b:ni Z M2):ni M M2:=λx o h=>b x o (a x o h)
def ni.app(M X:du):ni M (M++X):=λ_ _ h=>Cw h
def ni.len(k:ni M Z):M.length<=Z.length:=by
 rcases Nat.eq_zero_or_pos M.length with h|h
 .exact a_ (f_ h) (iy _)
 .have:=yw (k (M.length-1) M[M.length-1] (by simp))
  lia
theorem ni.fj(k:ni M Z)(h:fj M d=some ds):MW.fj Z d=some ds:=by
 cases d with
 |vl G=>exact h
 |ref n =>
  simp only[MW.fj] at h ⊢;cases e:M[n]? with
  |none=>rw[e] at h;simp at h|some o=>rw[e] at h;rw[k n o e];exact h
 |_=>simp[MW.fj] at h
def acj(I:Nat->Env->du->Prop)(U:fj M d=some ds)(h0:I 0 G M)(stay:∀i G M,I i G M->fj M d=some ds)(step:∀i x G M,ds[i]?=some x->I i G M->∃R Z M',body x G M=.ok (R,Z) M'/\(R=.next\/R=.cont)/\I (i+1) Z M') :
 ∃s,srcOf M d=some s/\∃Z M',Bq s.fin s.item body s.len 0 G M=.ok (.next,Z) M'/\I ds.length Z M':=by
 cases d with
 |vl xs=>simp[fj] at U;subst U;exact⟨_,rfl,Xw I h0 step⟩
 |ref n =>
  cases e:M[n]? with
  |none=>simp[fj,e] at U
  |some o =>
   cases o with
   |lst xs =>
    simp[fj,e] at U;subst U;refine⟨.live n xs.length,by simp[srcOf,e],ai5 I h0 (λi G M h=>?_) step⟩;have:=stay i G M h;simp only[fj] at this;split at this<;>simp_all
   |_=>simp[fj,e] at U
 |_=>simp[fj] at U
def aef(Z:ds.length<=100000)(h:∀d∈ds,body d M=.ok (some (g d)) M):Ba (.con ds) body M=.ok (ds.map g) M:=by rw[Ba,bz (show(Src.con ds).len<=100000 from Z)];exact ai6 h
def Z4(Z:ds.length<=100000)(h:∀d∈ds,body d M=.ok (g d) M):Ba (.con ds) body M=.ok (ds.filterMap g) M:=by rw[Ba,bz (show(Src.con ds).len<=100000 from Z)];exact Wa (s:=.con ds) rfl rfl (λ_ _=>rfl) h
def Lw(v:Bool)(k:Nat)(t:Tg)(it:Nb)(e:Ex):(Ex.comp v k t it e).den W G M=(it.den W G M).bind λs R =>
 (Ba s (λd M=>(Res.rn (t.put d (G++List.replicate k none)) M).bind λZ M=>(e.den W Z M).bind λx M'=>.ok (some x) M') R).bind λU M2=>if v then .ok (.vl U) M2 else new (.lst U) M2:=by
 rw[Z0]
 congr 1;funext s R;congr 2;funext d M
 cases t.put d (G++List.replicate k none)<;>rfl
def Hc(v:Bool)(k:Nat)(t:Tg)(it:Nb)(c e:Ex):(Ex.yu v k t it c e).den W U M=(it.den W U M).bind λs M1 =>
 (Ba s (λd M=>(Res.rn (t.put d (U++List.replicate k none)) M).bind λZ M=>(c.den W Z M).bind λb R =>
  match b with
   |.bl true=>(e.den W Z R).bind λx G=>.ok (some x) G
   | .bl false=>.ok none R|_=>.bad) M1).bind λds M2=>if v then .ok (.vl ds) M2 else new (.lst ds) M2:=by
 rw[Tn]
 congr 1;funext s M1;congr 2;funext d M
 cases t.put d (U++List.replicate k none)<;>rfl
def Hd(t:Tg)(it:Nb)(b:my):(Aj.for_ t it b).den W Z M=(it.den W Z M).bind λs M1=>Bq s.fin s.item (λd Z M=>(Res.rn (t.put d Z) M).bind λG M=>b.den W G M) s.len 0 Z M1:=by
 rw[ai0]
 congr 1;funext s M1;congr 1;funext d Z M
 cases t.put d Z<;>rfl
def Hf(R:it.den W ρ M=.ok (.int (n:Int)) M1)(hn:n<=100000)(I:Nat->Env->du->Prop)(h0:I 0 ρ M1)(step:∀i ρ M,i<n->I i ρ M->∃G U Z M',t.put (.int i) ρ=some G/\b.den W G M=.ok (U,Z) M'/\(U=.next\/U=.cont)/\I (i+1) Z M') :
 ∃Z M',(Aj.for_ t (.Rh it) b).den W ρ M=.ok (.next,Z) M'/\I n Z M':=by
 rw[Hd,Ny,R];have Vn:((n:Int)).natAbs<=100000:=by lia
 simp only[Res.t6,Vn,jk,jm];exact aom I h0 (λi ρ M hi h=>by
  obtain⟨G,U,Z,M',a,b,c,d⟩:=step i ρ M hi h;exact⟨U,Z,M',by rw[a];exact b,c,d⟩)
def zy(R:it.den W ρ M=.ok d M1)(hd:fj M1 d=some ds)(I:Nat->Env->du->Prop)(h0:I 0 ρ M1)(stay:∀i ρ M,I i ρ M->fj M d=some ds)(step:∀i x ρ M,ds[i]?=some x->I i ρ M->∃G U Z M',t.put x ρ=some G/\b.den W G M=.ok (U,Z) M'/\(U=.next\/U=.cont)/\I (i+1) Z M') :
 ∃Z M',(Aj.for_ t (.val it) b).den W ρ M=.ok (.next,Z) M'/\I ds.length Z M':=by
 rw[Hd,Em,R];obtain⟨s,h1,h2⟩:=acj (body:=λd ρ M=>(Res.rn (t.put d ρ) M).bind λZ M=>b.den W Z M) I hd h0 stay (λi x ρ M hx h=>by
  obtain⟨G,U,Z,M',a,b,c,d⟩:=step i x ρ M hx h;exact⟨U,Z,M',by rw[a];exact b,c,d⟩)
 simp only[Res.t6,h1,Res.qm];exact h2
def Kf(R:it.den W ρ M=.ok (.tup ds) M1)(I:Nat->Env->du->Prop)(h0:I 0 ρ M1)(step:∀i x ρ M,ds[i]?=some x->I i ρ M->∃G U Z M',t.put x ρ=some G/\b.den W G M=.ok (U,Z) M'/\(U=.next\/U=.cont)/\I (i+1) Z M') :
 ∃Z M',(Aj.for_ t (.val it) b).den W ρ M=.ok (.next,Z) M'/\I ds.length Z M':=by
 rw[Hd,Em,R];exact Xw I h0 (λi x ρ M hx h=>by
  obtain⟨G,U,Z,M',a,b,c,d⟩:=step i x ρ M hx h;exact⟨U,Z,M',by rw[a];exact b,c,d⟩)
def Ge(G:it.den W U M=.ok (.int (n:Int)) M1)(hl:n<=100000)(h:∀i,i<n->∃Z,t.put (.int i) (U++List.replicate k none)=some Z/\c.den W Z M1=.ok (.bl (q i)) M1/\(q i=true->e.den W Z M1=.ok (g i) M1)) :
 (Ex.yu v k t (.Rh it) c e).den W U M=if v then .ok (.vl (((List.range n).filter q).map g)) M1 else new (.lst (((List.range n).filter q).map g)) M1:=by
 rw[Hc,Ny,G];have Vn:((n:Int)).natAbs<=100000:=by lia
 simp only[Res.t6,Vn,jk,jm];rw[Z4 (ds:=(List.range n).map λ(k:Nat)=>D.int (k:Int)) (g:=λd=>match d with|.int i=>if q i.toNat then some (g i.toNat) else none|_=>none) (by simpa using hl) (λx hx=>by
  obtain⟨i,hi,rfl⟩:=dq.mp hx;obtain⟨Z,a,b,c⟩:=h i (lq.mp hi);rw[a,Res.qm,Res.t6,b,Res.t6];cases e:q i with
  | true=>simp[e,c e]|false=>simp[e])]
 have:(((List.range n).map λ(k:Nat)=>D.int (k:Int)).filterMap λd=>match d with|.int i=>if q i.toNat then some (g i.toNat) else none|_=>none)=((List.range n).filter q).map g:=by
  rw[List.filterMap_map]
  induction List.range n with
  |nil=>rfl|cons a l R=>by_cases e:q a=true<;>simp[e,R]
 rw[this];rfl
def Kg(R:it.den W ρ M=.ok (.tup ds) M1)(hl:ds.length<=100000)(h:∀(i:Nat) (x:D),ds[i]?=some x->∃Z,t.put (.tup [.int i,x]) (ρ++List.replicate k none)=some Z/\c.den W Z M1=.ok (.bl (q i)) M1/\(q i=true->e.den W Z M1=.ok (g i) M1)) :
 (Ex.yu v k t (.enm it) c e).den W ρ M=if v then .ok (.vl (((List.range ds.length).filter q).map g)) M1 else new (.lst (((List.range ds.length).filter q).map g)) M1:=by
 rw[Hc,aeb,R];simp only[Res.t6,aol];rw[Z4 (ds:=Dj ds 0) (g:=λd=>match d with|.tup [.int i,_]=>if q i.toNat then some (g i.toNat) else none|_=>none) (by simpa[Dj] using hl) (λx hx=>by
  obtain⟨i,hi,ei⟩:=xu hx;have qq:i<ds.length:=by simpa[Dj] using hi
  have G:x=.tup [.int i,ds[i]]:=by rw[<- ei];simp[Dj]
  subst G;obtain⟨Z,a,b,c⟩:=h i ds[i] (by simp[qq]);rw[a,Res.qm,Res.t6,b,Res.t6];cases e:q i with
  | true=>simp[e,c e]|false=>simp[e])]
 have:((Dj ds 0).filterMap λd=>match d with|.tup [.int i,_]=>if q i.toNat then some (g i.toNat) else none|_=>none)=((List.range ds.length).filter q).map g:=by
  have U:∀(l:List D)(s:Nat),((Dj l s).filterMap λd=>match d with|.tup [.int i,_]=>if q i.toNat then some (g i.toNat) else none|_=>none)=((List.range' s l.length).filter q).map g:=by
   intro l
   induction l with
   |nil=>intro s;rfl
   |cons a l ih =>
    intro s;have e1:Dj (a::l) s=.tup [.int s,a]::Dj l (s+1):=by simp[Dj]
    rw[e1,d9,zq]
    by_cases e:q s=true<;>simp[e,ih]
  rw[U,List.range_eq_range']
 rw[this];rfl
def Nz(qq:it.den W ρ M=.ok (.int (n:Int)) M1)(hn:n<=100000)(I:Nat->List D->du->Prop)(h0:I 0 [] M1)(step:∀i U M,i<n->I i U M->∃Z x M',t.put (.int i) (ρ++List.replicate k none)=some Z/\e.den W Z M=.ok x M'/\I (i+1) (U++[x]) M') :
 ∃G M',(Ex.comp v k t (.Rh it) e).den W ρ M=(if v then .ok (.vl G) M' else new (.lst G) M')/\I n G M':=by
 rw[Lw,Ny,qq];have Vn:((n:Int)).natAbs<=100000:=by lia
 simp only[Res.t6,Vn,jk,jm];obtain⟨G,M',g,h⟩:=Im (fin:=(Src.con ((List.range n).map λ(k:Nat)=>D.int (k:Int))).fin) (item:=(Src.con ((List.range n).map λ(k:Nat)=>D.int (k:Int))).item) (body:=λd M=>(Res.rn (t.put d (ρ++List.replicate k none)) M).bind λR M=>(e.den W R M).bind λx M'=>.ok (some x) M') I (n:=n) (λi U M hi h=>by
  obtain⟨Z,x,M',a,b,c⟩:=step i U M hi h;exact⟨.int i,some x,M',by simp[Src.item,hi],by rw[a];simp[b],by simpa using c⟩) (λ_ _ _=>rfl) n 0 [] M1 (vz _) h0
 have hl:(Src.con ((List.range n).map λ(k:Nat)=>D.int (k:Int))).len=n:=by simp[Src.len]
 refine⟨G,M',?_,by simpa using h⟩;rw[Ba,hl,bz hn,g];rfl
abbrev Goes(I:Nat->Env->du->Prop)(R:D->du->Prop)(i:Nat)(r:Res (Flow×Env)):Prop:=∃fl ρ' M',r=.ok (fl,ρ') M'/\((fl=.next/\I i ρ' M')\/∃v,fl=.ret v/\R v M')
theorem aeg{fin:du->Bool}{item:Nat->du->Option D}{G:D->Env->du->Res (Flow×Env)}(I:Nat->Env->du->Prop)(R:D->du->Prop){n:Nat}
 (step:∀i Z M,i<n->I i Z M->∃d,item i M=some d/\Goes I R (i+1) (G d Z M)) (hf:∀Z M,I n Z M->fin M=true) :
 ∀k i Z M,i+k=n->I i Z M->Goes I R n (Bq fin item G k i Z M)
 |0,i,Z,M,e,h=>by
  obtain rfl:i=n:=by lia
  exact⟨_,Z,M,by simp[Bq,hf Z M h],.inl ⟨rfl,h⟩⟩
 |k+1,i,Z,M,e,h=>by
  obtain⟨d,h1,fl,U,M',h2,⟨rfl,h4⟩|⟨v,rfl,h4⟩⟩:=step i Z M (by lia) h
  .have:=aeg I R step hf k (i+1) U M' (by lia) h4
   simpa[Bq,h1,h2] using this
  .exact⟨.ret v,U,M',by simp[Bq,h1,h2],.inr ⟨v,rfl,h4⟩⟩
section
variable{W:Mg}{ρ:Env}{M M1:du}{t:Tg}{b:my}
def Xx{it:Nb}{s:Src}{n:Nat}(G:it.den W ρ M=.ok s M1)(hn:s.len=n)(I:Nat->Env->du->Prop)(R:D->du->Prop)(h0:I 0 ρ M1)(hf:∀ρ M,I n ρ M->s.fin M=true)
 (step:∀i ρ M,i<n->I i ρ M->∃d Z,s.item i M=some d/\t.put d ρ=some Z/\Goes I R (i+1) (b.den W Z M)):Goes I R n ((Aj.for_ t it b).den W ρ M):=by
 rw[Hd,G,Res.t6,hn];exact aeg I R (λi ρ M U h=>by
  obtain⟨d,Z,a,b,c⟩:=step i ρ M U h;exact⟨d,a,by rw[b];exact c⟩) hf n 0 ρ M1 (vz n) h0
def aul{it:Nb}{s:Src}{n:Nat}(U:it.den W ρ M=.ok s M1)(hn:s.len=n)(I:Nat->Env->du->Prop)(h0:I 0 ρ M1)(hf:∀ρ M,I n ρ M->s.fin M=true)
 (step:∀i ρ M,i<n->I i ρ M->∃d G,s.item i M=some d/\t.put d ρ=some G/\∃Z M',b.den W G M=.ok (.next,Z) M'/\I (i+1) Z M'):∃Z M',(Aj.for_ t it b).den W ρ M=.ok (.next,Z) M'/\I n Z M':=by
 obtain⟨fl,Z,M',e,⟨rfl,h⟩|⟨v,rfl,h⟩⟩:=Xx U hn I (λ_ _=>False) h0 hf λi ρ M R h=>by obtain⟨d,G,a,b,Z,M',c,e⟩:=step i ρ M R h;exact⟨d,G,a,b,.next,Z,M',c,.inl ⟨rfl,e⟩⟩
 .exact⟨Z,M',e,h⟩
 .exact h.elim
def Qo{it:Ex}{n:Nat}(G:it.den W ρ M=.ok (.int (n:Int)) M1)(hn:n<=100000)(I:Nat->Env->du->Prop)(R:D->du->Prop)(h0:I 0 ρ M1)
 (step:∀i ρ M,i<n->I i ρ M->∃Z,t.put (.int i) ρ=some Z/\Goes I R (i+1) (b.den W Z M)):Goes I R n ((Aj.for_ t (.Rh it) b).den W ρ M):=by
 exact Xx (s:=.con ((List.range n).map λ(k:Nat)=>D.int (k:Int))) (by rw[Ny,G];simp[hn]) (by simp[Src.len]) I R h0 (λ_ _ _=>rfl) (λi ρ M U h=>by
  obtain⟨Z,a⟩:=step i ρ M U h;exact⟨.int i,Z,by simp[Src.item,U],a⟩)
end
end MW
namespace K72
open MW
noncomputable section
def Gf:my:=.p (.f (.cmp .lt (.v 1) (.l (.v 0))) (.o (.ret (.ix (.v 0) (.v 1))))) (.ret (.i 0))
def Gg:Fn:=⟨2,2,Gf⟩
def Ja:my:=.q (.a 2 (.call 0 (.p (.v 0) (.v 1)))) (.f (.cmp .ge (.v 2) (.bin .pow (.i 10) (.i 18))) (.o (.ret (.lst (.p (.bin .sub (.v 2) (.bin .pow (.i 10) (.i 18))) (.cst (.bl true))))))) (.ret (.lst (.p (.bin .mod (.v 2) (.i 2147483647)) (.cst (.bl false)))))
def Jb:Fn:=⟨2,3,Ja⟩
def Kh:my:=.c (.f (.ix (.v 0) (.i 1)) (.q (.a 2 (.bin .mod (.ix (.v 0) (.i 0)) (.v 1))) (.asg (.sub (.v 0) (.i 0)) (.bin .fdiv (.ix (.v 0) (.i 0)) (.v 1))) (.ret (.v 2)))) (.c (.asg (.sub (.v 0) (.i 0)) (.bin .mod (.bin .add (.bin .mul (.ix (.v 0) (.i 0)) (.i 48271)) (.i 29)) (.i 2147483647))) (.q (.a 3 (.bin .mod (.bin .add (.bin .add (.bin .mul (.ix (.v 0) (.i 0)) (.ix (.v 0) (.i 0))) (.bin .mul (.i 39373) (.ix (.v 0) (.i 0)))) (.i 7)) (.i 2147483629))) (.a 3 (.bin .mod (.bin .add (.bin .mul (.v 3) (.v 3)) (.bin .mul (.i 16807) (.v 3))) (.i 2147483587))) (.ret (.bin .mod (.bin .fdiv (.v 3) (.i 8)) (.v 1)))))
def Kl:Fn:=⟨2,4,Kh⟩
def Km:my:=.c (.a 1 (.ix (.v 0) (.i 0))) (.c (.expr (.call 4 (.o (.v 1)))) (.q (.expr (.call 6 (.p (.v 1) (.ix (.v 0) (.i 1))))) (.f (.not (.call 12 (.q (.v 1) (.ix (.ix (.v 0) (.i 2)) (.i 0)) (.ix (.ix (.v 0) (.i 2)) (.i 1))))) (.o .raise)) (.f (.cmp .gt (.l (.call 13 (.o (.v 1)))) (.i 60)) (.o .raise))))
def Ko:Fn:=⟨1,2,Km⟩
def Gh:my:=.o (.f (.not (.and (.chain .le .le (.i 0) (.v 1) (.i 7)) (.chain .le .le (.i 0) (.v 2) (.i 7)))) (.o .raise))
def Gi:Aj:=.for_ (.names [1,2]) (.val (.v 0)) Gh
def N5:my:=.q (.f (.not (.chain .le .le (.i 1) (.l (.v 0)) (.i 10))) (.o .raise)) Gi (.f (.call 5 (.o (.v 0))) (.o .raise))
def N6:Fn:=⟨1,3,N5⟩
def Gj:Ex:=.yu true 1 (.name 4) (.val (.v 1)) (.cmp .inn (.ix (.v 4) (.i 0)) (.v 3)) (.v 4)
def Gk:Ex:=.comp true 2 (.names [4,5]) (.val (.v 1)) (.v 5)
def Gm:my:=.q (.a 2 (.l (.v 1))) (.a 3 Gk) (.a 1 Gj)
def Kp:Aj:=.whl (.cmp .ne (.v 2) (.l (.v 1))) Gm
def N7:my:=.c (.a 1 (.blt .list (.o (.v 0)))) (.q (.a 2 (.neg (.i 1))) Kp (.ret (.cmp .gt (.v 2) (.i 0))))
def N8:Fn:=⟨1,4,N7⟩
def Fb:my:=.o (.f (.not (.call 7 (.p (.v 0) (.v 2)))) (.o .raise))
def Fe:Aj:=.for_ (.name 2) (.val (.v 1)) Fb
def Mh:my:=.p (.f (.cmp .gt (.l (.v 1)) (.i 8)) (.o .raise)) Fe
def Mi:Fn:=⟨2,3,Mh⟩
def Gp:my:=.p (.f (.cmp .eq (.ix (.v 1) (.i 0)) (.cst (.str (PySem.Str.ofString "same")))) (.o (.ret (.call 12 (.q (.v 0) (.ix (.v 1) (.i 1)) (.ix (.v 1) (.i 2))))))) (.ret (.and (.cmp .eq (.ix (.v 1) (.i 0)) (.cst (.str (PySem.Str.ofString "apart")))) (.call 8 (.p (.v 0) (.ix (.v 1) (.i 1))))))
def Gq:Fn:=⟨2,2,Gp⟩
def Nf:my:=.o (.ret (.chain .le .lt (.i 0) (.v 1) (.l (.v 0))))
def Ng:Fn:=⟨2,2,Nf⟩
def Gr:Ex:=.comp true 2 (.names [2,3]) (.zip (.p (.v 1) (.cut (.v 1) (.some (.i 1)) .none))) (.cmp .eq (.ix (.ix (.v 0) (.v 2)) (.i 1)) (.ix (.ix (.v 0) (.v 3)) (.i 0)))
def Gs:Ex:=.comp true 1 (.name 2) (.val (.v 1)) (.call 8 (.p (.v 0) (.v 2)))
def Tq:my:=.p (.f (.or (.ntr (.v 1)) (.not (.blt .all (.o Gs)))) (.o (.ret (.cst (.bl false))))) (.ret (.blt .all (.o Gr)))
def Tt:Fn:=⟨2,2,Tq⟩
def Qp:my:=.o (.ret (.ix (.ix (.v 0) (.ix (.v 1) (.i 0))) (.i 0)))
def Qq:Fn:=⟨2,2,Qp⟩
def Tu:my:=.o (.ret (.ix (.ix (.v 0) (.ix (.v 1) (.neg (.i 1)))) (.i 1)))
def Tv:Fn:=⟨2,2,Tu⟩
def Jc:my:=.p (.f (.not (.and (.call 9 (.p (.v 0) (.v 1))) (.call 9 (.p (.v 0) (.v 2))))) (.o (.ret (.cst (.bl false))))) (.ret (.and (.cmp .eq (.call 10 (.p (.v 0) (.v 1))) (.call 10 (.p (.v 0) (.v 2)))) (.cmp .eq (.call 11 (.p (.v 0) (.v 1))) (.call 11 (.p (.v 0) (.v 2))))))
def Jd:Fn:=⟨3,3,Jc⟩
def Je:Ex:=.yu true 2 (.names [6,7]) (.enm (.v 0)) (.cmp .eq (.ix (.v 7) (.i 0)) (.v 5)) (.bin .add (.v 4) (.tup (.o (.v 6))))
def Jf:my:=.p (.a 5 (.call 11 (.p (.v 0) (.v 4)))) (.expr (.bm .extend (.v 3) (.o Je)))
def Jg:Aj:=.for_ (.name 4) (.val (.v 2)) Jf
def Jh:my:=.c (.expr (.bm .extend (.v 1) (.o (.v 2)))) (.q (.a 3 (.lst .z)) Jg (.a 2 (.v 3)))
def Oa:Aj:=.whl (.tru (.v 2)) Jh
def Ji:Ex:=.comp true 1 (.name 6) (.Rh (.l (.v 0))) (.tup (.o (.v 6)))
def Tw:my:=.c (.a 1 (.lst .z)) (.q (.a 2 Ji) Oa (.ret (.v 1)))
def Tz:Fn:=⟨1,6,Tw⟩
def Ei:Ex:=.yu true 1 (.name 1) (.val (.v 0)) (.cmp .eq (.ix (.v 1) (.i 0)) (.cst (.str (PySem.Str.ofString "apart")))) (.ix (.v 1) (.i 1))
def Kq:my:=.o (.ret Ei)
def Kr:Fn:=⟨1,1,Kq⟩
def Mj:my:=.p (.asg (.fld (.v 0) 1) (.lst .z)) (.asg (.fld (.v 0) 0) .acb)
def Ml:Fn:=⟨1,1,Mj⟩
def Qs:my:=.o (.ret (.bm .get (.fld (.v 0) 0) (.p (.v 1) (.v 1))))
def Qt:Fn:=⟨2,2,Qs⟩
def Jx:my:=.o (.ret (.cmp .eq (.meth (.v 0) 0 (.o (.v 1))) (.meth (.v 0) 0 (.o (.v 2)))))
def Jy:Fn:=⟨3,3,Jx⟩
def Eo:my:=.o (.f (.cmp .eq (.ix (.fld (.v 0) 0) (.v 4)) (.v 3)) (.o (.asg (.sub (.fld (.v 0) 0) (.v 4)) (.v 2))))
def Ht:Aj:=.for_ (.name 4) (.val (.blt .list (.o (.fld (.v 0) 0)))) Eo
def Qu:my:=.c (.expr (.bm .append (.fld (.v 0) 1) (.o (.v 1)))) (.c (.a 2 (.meth (.v 0) 0 (.o (.ix (.v 1) (.i 0))))) (.c (.a 3 (.meth (.v 0) 0 (.o (.ix (.v 1) (.i 1))))) (.q (.asg (.sub (.fld (.v 0) 0) (.ix (.v 1) (.i 0))) (.v 2)) (.asg (.sub (.fld (.v 0) 0) (.ix (.v 1) (.i 1))) (.v 3)) Ht)))
def Qv:Fn:=⟨2,5,Qu⟩
def T6:my:=.c (.f (.not (.call 12 (.q (.ix (.v 0) (.i 0)) (.ix (.v 2) (.i 0)) (.ix (.v 2) (.i 1))))) (.o (.ret (.cst (.bl false))))) (.c (.a 3 (.ix (.v 2) (.i 2))) (.q (.f (.cmp .eq (.ix (.v 3) (.i 0)) (.cst (.str (PySem.Str.ofString "given")))) (.o (.ret (.call 20 (.q (.ix (.v 0) (.i 1)) (.v 2) (.ix (.v 3) (.i 1))))))) (.f (.cmp .eq (.ix (.v 3) (.i 0)) (.cst (.str (PySem.Str.ofString "put")))) (.o (.ret (.call 21 (.c (.v 1) (.q (.v 2) (.ix (.v 3) (.i 1)) (.ix (.v 3) (.i 2)))))))) (.ret (.call 23 (.c (.v 0) (.q (.v 1) (.v 2) (.ix (.v 3) (.i 1))))))))
def T9:Fn:=⟨3,4,T6⟩
def Ua:my:=.o (.ret (.and (.chain .le .lt (.i 0) (.v 2) (.l (.v 0))) (.cmp .eq (.ix (.v 0) (.v 2)) (.tup (.q (.cst (.str (PySem.Str.ofString "same"))) (.ix (.v 1) (.i 0)) (.ix (.v 1) (.i 1)))))))
def Ub:Fn:=⟨3,3,Ua⟩
def Z5:my:=.q (.a 4 (.call 22 (.q (.ix (.v 1) (.i 0)) (.v 2) (.v 3)))) (.a 5 (.call 22 (.q (.ix (.v 1) (.i 1)) (.v 2) (.v 3)))) (.ret (.and (.cmp .ne (.v 4) (.tup .z)) (.and (.cmp .ne (.v 5) (.tup .z)) (.meth (.v 0) 1 (.p (.v 4) (.v 5))))))
def Z6:Fn:=⟨4,6,Z5⟩
def Wb:my:=.q (.a 3 (.bin .sub (.l (.v 0)) (.l (.v 2)))) (.a 4 (.cut (.v 0) (.some (.l (.v 1))) (.some (.blt .max (.p (.v 3) (.i 0)))))) (.ret (.ite (.cmp .eq (.bin .add (.bin .add (.v 1) (.v 4)) (.v 2)) (.v 0)) (.v 4) (.tup .z)))
def Wc:Fn:=⟨3,5,Wb⟩
def Z7:my:=.c (.a 4 (.bin .add (.ix (.v 2) (.i 0)) (.tup (.o (.v 3))))) (.q (.a 5 (.bin .add (.ix (.v 2) (.i 1)) (.tup (.o (.v 3))))) (.f (.cmp .Kc (.v 3) (.call 14 (.o (.ix (.v 0) (.i 1))))) (.o (.ret (.cst (.bl false))))) (.ret (.and (.call 9 (.p (.ix (.v 0) (.i 0)) (.v 4))) (.and (.call 9 (.p (.ix (.v 0) (.i 0)) (.v 5))) (.meth (.v 1) 1 (.p (.v 4) (.v 5)))))))
def Z8:Fn:=⟨4,6,Z7⟩
def Ks:my:=.p (.f (.not (.call 19 (.q (.v 0) (.v 2) (.v 3)))) (.o (.ret (.cst (.bl false))))) (.expr (.meth (.v 2) 2 (.o (.v 3))))
def Ku:Aj:=.for_ (.name 3) (.val (.v 1)) Ks
def Pz:my:=.c (.expr (.call 3 (.o (.v 0)))) (.q (.a 2 (.make 3)) Ku (.ret (.meth (.v 2) 1 (.p (.ix (.ix (.v 0) (.i 2)) (.i 0)) (.ix (.ix (.v 0) (.i 2)) (.i 1))))))
def P0:Fn:=⟨2,4,Pz⟩
def Dl:Ex:=.yu true 1 (.name 4) (.Rh (.l (.v 0))) (.cmp .eq (.ix (.ix (.v 0) (.v 4)) (.i 0)) (.v 3)) (.bin .add (.ix (.v 1) (.v 2)) (.tup (.o (.v 4))))
def Dm:my:=.q (.a 3 (.ix (.ix (.v 0) (.ix (.ix (.v 1) (.v 2)) (.neg (.i 1)))) (.i 1))) (.expr (.bm .extend (.v 1) (.o Dl))) (.a 2 (.bin .add (.v 2) (.i 1)))
def Hg:Aj:=.whl (.cmp .lt (.v 2) (.l (.v 1))) Dm
def Dn:Ex:=.comp false 1 (.name 4) (.Rh (.l (.v 0))) (.tup (.o (.v 4)))
def Jz:my:=.c (.a 1 Dn) (.q (.a 2 (.i 0)) Hg (.ret (.v 1)))
def J0:Fn:=⟨1,4,Jz⟩
def Cd:Ex:=.comp true 1 (.name 6) (.val (.v 4)) (.tup (.p (.v 5) (.v 6)))
def Bb:my:=.o (.expr (.bm .extend (.v 3) (.o Cd)))
def Ce:Aj:=.for_ (.name 5) (.val (.v 4)) Bb
def Cg:my:=.o Ce
def Ci:Aj:=.for_ (.name 4) (.vals (.v 1)) Cg
def Fl:my:=.o (.expr (.bm .append (.bm .setdefault (.v 1) (.p (.tup (.p (.ix (.ix (.v 0) (.ix (.v 2) (.i 0))) (.i 0)) (.ix (.ix (.v 0) (.ix (.v 2) (.neg (.i 1)))) (.i 1)))) (.lst .z))) (.o (.v 2))))
def Cj:Aj:=.for_ (.name 2) (.val (.call 25 (.o (.v 0)))) Fl
def Hh:my:=.c (.a 1 .acb) (.c Cj (.q (.a 3 (.lst .z)) Ci (.ret (.v 3))))
def Hi:Fn:=⟨1,6,Hh⟩
def Bl:Ex:=.yu true 1 (.name 9) (.val (.v 5)) (.cmp .ne (.ix (.v 9) (.i 0)) (.ix (.v 9) (.i 1))) (.v 9)
def Cy:my:=.o (.expr (.bm .append (.v 6) (.o (.bin .add (.tup (.o (.cst (.str (PySem.Str.ofString "same"))))) (.ix (.v 5) (.call 2 (.p (.v 0) (.l (.v 5)))))))))
def Cz:Aj:=.for_ (.name 2) (.Rh (.call 2 (.p (.v 0) (.i 4)))) Cy
def Dc:Ex:=.comp false 1 (.name 9) (.Rh (.call 2 (.p (.v 0) (.i 4)))) (.tup (.p (.cst (.str (PySem.Str.ofString "apart"))) (.call 2 (.p (.v 0) (.l (.v 1))))))
def Dd:my:=.p (.a 3 (.call 2 (.p (.v 0) (.i 4)))) (.expr (.bm .append (.v 1) (.o (.tup (.p (.v 3) (.bin .add (.bin .add (.v 3) (.i 1)) (.call 2 (.p (.v 0) (.ix (.Ax (.c (.i 1) (.q (.i 1) (.i 2) (.i 3)))) (.call 2 (.p (.v 0) (.i 4))))))))))))
def De:Aj:=.for_ (.name 2) (.Rh (.bin .add (.i 1) (.call 2 (.p (.v 0) (.i 6))))) Dd
def Mm:my:=.c (.a 1 (.lst .z)) (.c De (.c (.a 4 (.Ax (.q (.tup (.q (.tup (.p (.i 0) (.i 1))) (.tup (.p (.i 0) (.i 1))) (.tup (.p (.i 1) (.i 2))))) (.tup (.c (.tup (.p (.i 0) (.i 1))) (.q (.tup (.p (.i 1) (.i 2))) (.tup (.p (.i 0) (.i 2))) (.tup (.p (.i 2) (.i 3)))))) (.tup (.c (.tup (.p (.i 0) (.i 1))) (.c (.tup (.p (.i 0) (.i 2))) (.q (.tup (.p (.i 1) (.i 3))) (.tup (.p (.i 2) (.i 3))) (.tup (.p (.i 3) (.i 4)))))))))) (.c (.a 4 (.bin .add (.v 4) (.Ax (.p (.tup (.c (.tup (.p (.i 0) (.i 1))) (.c (.tup (.p (.i 1) (.i 2))) (.c (.tup (.p (.i 0) (.i 3))) (.c (.tup (.p (.i 3) (.i 4))) (.q (.tup (.p (.i 1) (.i 4))) (.tup (.p (.i 2) (.i 5))) (.tup (.p (.i 4) (.i 5))))))))) (.tup (.c (.tup (.p (.i 3) (.i 1))) (.c (.tup (.p (.i 3) (.i 1))) (.q (.tup (.p (.i 1) (.i 0))) (.tup (.p (.i 1) (.i 0))) (.tup (.p (.i 0) (.i 2))))))))))) (.c (.f (.cmp .gt (.call 2 (.p (.v 0) (.i 3))) (.i 0)) (.o (.a 1 (.ix (.v 4) (.call 2 (.p (.v 0) (.i 5))))))) (.c (.a 5 (.call 26 (.o (.v 1)))) (.c (.a 6 Dc) (.c Cz (.c (.a 7 (.call 2 (.p (.v 0) (.bin .add (.i 1) (.l (.v 6)))))) (.q (.a 8 Bl) (.f (.or (.cmp .eq (.v 8) (.Ax .z)) (.cmp .eq (.call 2 (.p (.v 0) (.i 8))) (.i 0))) (.o (.a 8 (.v 5)))) (.ret (.tup (.q (.blt .tuple (.o (.v 1))) (.blt .tuple (.o (.bin .add (.cut (.v 6) (.some (.v 7)) .none) (.cut (.v 6) .none (.some (.v 7)))))) (.ix (.v 8) (.call 2 (.p (.v 0) (.l (.v 8)))))))))))))))))
def Mp:Fn:=⟨1,9,Mm⟩
def Bd:my:=.o (.f (.cmp .ne (.ix (.ix (.v 0) (.ix (.v 1) (.v 2))) (.i 1)) (.ix (.ix (.v 0) (.ix (.v 1) (.bin .add (.v 2) (.i 1)))) (.i 0))) (.o (.ret (.cst .non))))
def Be:Aj:=.for_ (.name 2) (.Rh (.bin .sub (.l (.v 1)) (.i 1))) Bd
def Gu:my:=.q (.f (.or (.cmp .eq (.l (.v 1)) (.i 0)) (.or (.cmp .lt (.blt .min (.o (.v 1))) (.i 0)) (.cmp .ge (.blt .max (.o (.v 1))) (.l (.v 0))))) (.o (.ret (.cst .non)))) Be (.ret (.tup (.p (.ix (.ix (.v 0) (.ix (.v 1) (.i 0))) (.i 0)) (.ix (.ix (.v 0) (.ix (.v 1) (.neg (.i 1)))) (.i 1)))))
def Gv:Fn:=⟨2,3,Gu⟩
def Ao:my:=.o (.f (.and (.cmp .eq (.v 6) (.ix (.v 3) (.v 4))) (.cmp .Kc (.v 7) (.v 3))) (.o (.expr (.bm .append (.v 3) (.o (.v 7))))))
def Hj:Aj:=.for_ (.names [6,7]) (.val (.Ax (.p (.tup (.p (.ix (.v 5) (.i 0)) (.ix (.v 5) (.i 1)))) (.tup (.p (.ix (.v 5) (.i 1)) (.ix (.v 5) (.i 0))))))) Ao
def Dp:my:=.o Hj
def Dq:Aj:=.for_ (.name 5) (.val (.v 0)) Dp
def Dr:my:=.p Dq (.a 4 (.bin .add (.v 4) (.i 1)))
def Hk:Aj:=.whl (.cmp .lt (.v 4) (.l (.v 3))) Dr
def J1:my:=.c (.a 3 (.lst (.o (.v 1)))) (.q (.a 4 (.i 0)) Hk (.ret (.cmp .inn (.v 2) (.v 3))))
def J2:Fn:=⟨3,8,J1⟩
def Bu:my:=.q (.a 12 (.bin .sub (.l (.v 11)) (.l (.ix (.v 8) (.i 2))))) (.f (.or (.cmp .le (.v 12) (.l (.ix (.v 8) (.i 1)))) (.or (.cmp .ne (.cut (.v 11) .none (.some (.l (.ix (.v 8) (.i 1))))) (.ix (.v 8) (.i 1))) (.cmp .ne (.cut (.v 11) (.some (.v 12)) .none) (.ix (.v 8) (.i 2))))) (.o (.ret (.cst (.bl false))))) (.expr (.bm .append (.v 10) (.o (.cut (.v 11) (.some (.l (.ix (.v 8) (.i 1)))) (.some (.v 12))))))
def Ab:Aj:=.for_ (.name 11) (.val (.Ax (.p (.v 6) (.v 7)))) Bu
def Kv:my:=.c (.asg (.tg (.names [3,4,5])) (.v 0)) (.c (.asg (.tg (.names [6,7,8])) (.v 2)) (.c (.f (.or (.cmp .is (.call 28 (.p (.v 3) (.v 6))) (.cst .non)) (.cmp .ne (.call 28 (.p (.v 3) (.v 6))) (.call 28 (.p (.v 3) (.v 7))))) (.o (.ret (.cst (.bl false))))) (.c (.f (.cmp .eq (.ix (.v 8) (.i 0)) (.cst (.str (PySem.Str.ofString "given")))) (.o (.ret (.and (.chain .le .lt (.i 0) (.ix (.v 8) (.i 1)) (.l (.v 4))) (.cmp .eq (.ix (.v 4) (.ix (.v 8) (.i 1))) (.tup (.q (.cst (.str (PySem.Str.ofString "same"))) (.v 6) (.v 7)))))))) (.c (.f (.cmp .eq (.ix (.v 8) (.i 0)) (.cst (.str (PySem.Str.ofString "off")))) (.q (.a 9 (.bin .add (.v 6) (.tup (.o (.ix (.v 8) (.i 1)))))) (.f (.or (.cmp .Kc (.tup (.p (.cst (.str (PySem.Str.ofString "apart"))) (.ix (.v 8) (.i 1)))) (.v 4)) (.cmp .is (.call 28 (.p (.v 3) (.v 9))) (.cst .non))) (.o (.ret (.cst (.bl false))))) (.ret (.call 29 (.q (.v 1) (.v 9) (.bin .add (.v 7) (.tup (.o (.ix (.v 8) (.i 1)))))))))) (.q (.a 10 (.lst .z)) Ab (.ret (.call 29 (.q (.v 1) (.ix (.v 10) (.i 0)) (.ix (.v 10) (.i 1))))))))))
def Kw:Fn:=⟨3,13,Kv⟩
def Gw:my:=.o (.f (.not (.call 30 (.q (.v 0) (.cut (.v 1) .none (.some (.v 2))) (.ix (.v 1) (.v 2))))) (.o (.ret (.cst (.bl false)))))
def Gx:Aj:=.for_ (.name 2) (.Rh (.l (.v 1))) Gw
def Jj:my:=.p Gx (.ret (.call 29 (.q (.v 1) (.ix (.ix (.v 0) (.i 2)) (.i 0)) (.ix (.ix (.v 0) (.i 2)) (.i 1)))))
def Jk:Fn:=⟨2,3,Jj⟩
def Hu:Ex:=.comp true 1 (.name 14) (.val (.v 13)) (.tup (.q (.cut (.v 6) .none (.some (.neg (.i 1)))) (.cut (.v 14) .none (.some (.neg (.i 1)))) (.tup (.p (.cst (.str (PySem.Str.ofString "off"))) (.ix (.v 11) (.i 1))))))
def Mq:Ex:=.yu true 1 (.name 14) (.val (.v 12)) (.and (.cmp .ne (.v 14) (.v 6)) (.call 29 (.q (.v 1) (.v 6) (.v 14)))) (.v 14)
def Ep:my:=.p (.a 13 Mq) (.expr (.bm .extend (.v 5) (.o Hu)))
def Hv:Aj:=.for_ (.name 6) (.val (.v 12)) Ep
def Hw:Ex:=.yu true 1 (.name 14) (.val (.call 25 (.o (.v 2)))) (.and (.cmp .gt (.l (.v 14)) (.i 1)) (.cmp .eq (.ix (.v 14) (.neg (.i 1))) (.ix (.v 11) (.i 1)))) (.v 14)
def Bo:my:=.o (.f (.cmp .eq (.ix (.v 11) (.i 0)) (.cst (.str (PySem.Str.ofString "apart")))) (.p (.a 12 Hw) Hv))
def Hx:Aj:=.for_ (.name 11) (.val (.v 3)) Bo
def Hy:Ex:=.yu true 1 (.name 14) (.Rh (.l (.v 2))) (.cmp .eq (.ix (.ix (.v 2) (.v 14)) (.i 1)) (.v 9)) (.tup (.q (.bin .add (.tup (.o (.v 14))) (.v 6)) (.bin .add (.tup (.o (.v 14))) (.v 7)) (.tup (.q (.cst (.str (PySem.Str.ofString "put"))) (.tup (.o (.v 14))) (.tup .z)))))
def Hz:Ex:=.yu true 1 (.name 14) (.Rh (.l (.v 2))) (.cmp .eq (.ix (.ix (.v 2) (.v 14)) (.i 0)) (.v 10)) (.tup (.q (.bin .add (.v 6) (.tup (.o (.v 14)))) (.bin .add (.v 7) (.tup (.o (.v 14)))) (.tup (.q (.cst (.str (PySem.Str.ofString "put"))) (.tup .z) (.tup (.o (.v 14)))))))
def Er:my:=.q (.asg (.tg (.names [9,10])) (.call 28 (.p (.v 2) (.v 6)))) (.expr (.bm .extend (.v 5) (.o Hz))) (.expr (.bm .extend (.v 5) (.o Hy)))
def Ia:Aj:=.for_ (.names [6,7,8]) (.val (.v 1)) Er
def Ib:Ex:=.yu false 2 (.names [14,15]) (.enm (.v 3)) (.cmp .eq (.ix (.v 15) (.i 0)) (.cst (.str (PySem.Str.ofString "same")))) (.tup (.q (.ix (.v 15) (.i 1)) (.ix (.v 15) (.i 2)) (.tup (.p (.cst (.str (PySem.Str.ofString "given"))) (.v 14)))))
def Qw:my:=.c (.asg (.tg (.names [2,3,4])) (.v 0)) (.c (.a 5 Ib) (.q Ia Hx (.ret (.v 5))))
def Qx:Fn:=⟨2,14,Qw⟩
def Dt:my:=.o (.f (.not (.call 29 (.q (.v 1) (.ix (.v 3) (.i 0)) (.ix (.v 3) (.i 1))))) (.p (.expr (.bm .append (.v 1) (.o (.v 3)))) (.a 2 (.cst (.bl true)))))
def Gy:Aj:=.for_ (.name 3) (.val (.call 32 (.p (.v 0) (.v 1)))) Dt
def Gz:my:=.p (.a 2 (.cst (.bl false))) Gy
def Ky:Aj:=.whl (.v 2) Gz
def Ob:my:=.c (.a 1 (.lst .z)) (.q (.a 2 (.cst (.bl true))) Ky (.ret (.v 1)))
def Oc:Fn:=⟨1,4,Ob⟩
def Uc:my:=.c (.a 3 (.bin .sub (.call 2 (.p (.v 0) (.i 4))) (.i 1))) (.c (.a 4 (.Ax (.q (.tup .z) (.tup (.o (.call 2 (.p (.v 0) (.l (.v 1)))))) (.tup (.o (.v 3)))))) (.q (.a 5 (.Ax (.c (.tup (.p (.cst (.str (PySem.Str.ofString "given"))) (.v 3))) (.q (.tup (.p (.cst (.str (PySem.Str.ofString "off"))) (.v 3))) (.tup (.p (.cst (.str (PySem.Str.ofString "off"))) (.call 2 (.p (.v 0) (.l (.v 1)))))) (.tup (.q (.cst (.str (PySem.Str.ofString "put"))) (.ix (.v 4) (.call 2 (.p (.v 0) (.i 3)))) (.tup .z))))))) (.a 5 (.bin .add (.v 5) (.Ax (.q (.tup (.q (.cst (.str (PySem.Str.ofString "put"))) (.tup .z) (.ix (.v 4) (.call 2 (.p (.v 0) (.i 3)))))) (.tup (.q (.cst (.str (PySem.Str.ofString "put"))) (.tup .z) (.tup .z))) (.v 2))))) (.ret (.ix (.v 5) (.call 2 (.p (.v 0) (.i 7)))))))
def Ud:Fn:=⟨3,6,Uc⟩
def Qy:my:=.c (.a 3 (.ix (.v 1) (.i 0))) (.c (.a 2 (.blt .list (.o (.v 2)))) (.c (.f (.cmp .eq (.v 2) (.Ax .z)) (.o (.ret (.v 2)))) (.c (.a 4 (.call 2 (.p (.v 0) (.l (.v 2))))) (.c (.asg (.tg (.names [5,6,7])) (.ix (.v 2) (.v 4))) (.c (.a 8 (.call 2 (.p (.v 0) (.i 8)))) (.c (.f (.cmp .eq (.v 8) (.i 0)) (.o (.ret (.bin .add (.cut (.v 2) .none (.some (.v 4))) (.cut (.v 2) (.some (.bin .add (.v 4) (.i 1))) .none))))) (.c (.f (.cmp .eq (.v 8) (.i 1)) (.o (.ret (.bin .add (.cut (.v 2) (.some (.v 4)) .none) (.cut (.v 2) .none (.some (.v 4))))))) (.c (.f (.cmp .eq (.v 8) (.i 2)) (.o (.ret (.bin .add (.v 2) (.Ax (.o (.ix (.v 2) (.v 4)))))))) (.c (.f (.cmp .eq (.v 8) (.i 3)) (.o (.ret (.bin .add (.bin .add (.cut (.v 2) .none (.some (.v 4))) (.Ax (.o (.tup (.q (.v 6) (.v 5) (.v 7)))))) (.cut (.v 2) (.some (.bin .add (.v 4) (.i 1))) .none))))) (.c (.a 9 (.call 25 (.o (.v 3)))) (.c (.a 10 (.ix (.Ax (.c (.ix (.v 9) (.call 2 (.p (.v 0) (.l (.v 9))))) (.c (.tup .z) (.q (.tup (.o (.neg (.i 1)))) (.bin .add (.v 5) (.tup (.o (.l (.v 3))))) (.bin .add (.v 5) (.v 5)))))) (.call 2 (.p (.v 0) (.i 5))))) (.q (.f (.cmp .eq (.v 8) (.i 4)) (.o (.ret (.bin .add (.bin .add (.cut (.v 2) .none (.some (.v 4))) (.Ax (.o (.ix (.Ax (.p (.tup (.q (.v 5) (.v 10) (.v 7))) (.tup (.q (.v 10) (.v 6) (.v 7))))) (.call 2 (.p (.v 0) (.i 2))))))) (.cut (.v 2) (.some (.bin .add (.v 4) (.i 1))) .none))))) (.f (.cmp .eq (.v 8) (.i 5)) (.o (.ret (.bin .add (.bin .add (.cut (.v 2) .none (.some (.v 4))) (.Ax (.o (.tup (.q (.v 10) (.v 10) (.v 7)))))) (.cut (.v 2) (.some (.v 4)) .none))))) (.ret (.bin .add (.bin .add (.cut (.v 2) .none (.some (.v 4))) (.Ax (.o (.tup (.q (.v 5) (.v 6) (.call 34 (.q (.v 0) (.v 3) (.v 7)))))))) (.cut (.v 2) (.some (.bin .add (.v 4) (.i 1))) .none)))))))))))))))
def Qz:Fn:=⟨3,11,Qy⟩
def Od:my:=.p (.a 7 (.call 24 (.p (.v 3) (.blt .tuple (.o (.v 6)))))) (.f (.or (.not (.blt .isBool (.o (.v 7)))) (.cmp .ne (.v 7) (.call 31 (.p (.v 3) (.v 6))))) (.o (.ret (.cst (.bl false)))))
def Rq:Aj:=.for_ (.name 6) (.val (.Ax (.c (.v 4) (.c (.v 5) (.q (.Ax .z) (.call 35 (.q (.v 1) (.v 3) (.v 4))) (.call 35 (.q (.v 1) (.v 3) (.v 5)))))))) Od
def Oe:Ex:=.yu true 1 (.name 9) (.val (.cut (.call 32 (.p (.v 3) (.v 4))) .none (.some (.i 12)))) (.cmp .Kc (.v 9) (.v 4)) (.v 9)
def Rr:my:=.c (.a 3 (.call 27 (.o (.v 1)))) (.c (.a 4 (.call 33 (.o (.v 3)))) (.c (.a 5 (.bin .add (.v 4) Oe)) (.q Rq (.a 8 (.call 35 (.q (.v 1) (.v 3) (.call 35 (.q (.v 1) (.v 3) (.v 4)))))) (.f (.cmp .ne (.call 24 (.p (.v 3) (.blt .tuple (.o (.v 8))))) (.call 31 (.p (.v 3) (.v 8)))) (.o (.ret (.cst (.bl false))))))))
def aeh:Aj:=.for_ (.name 2) (.Rh (.i 4)) Rr
def asj:my:=.q (.a 1 (.call 1 (.p (.v 0) (.i 0)))) aeh (.ret (.cst (.bl true)))
def ai7:Fn:=⟨1,9,asj⟩
def prog:Prog:=⟨[Gg,Jb,Kl,Ko,N6,N8,Mi,Gq,Ng,Tt,Qq,Tv,Jd,Tz,Kr,Ml,Qt,Jy,Qv,T9,Ub,Z6,Wc,Z8,P0,J0,Hi,Mp,Gv,J2,Kw,Jk,Qx,Oc,Ud,Qz,ai7],[⟨0,[]⟩,⟨0,[]⟩,⟨0,[]⟩,⟨15,[(0,16),(1,17),(2,18)]⟩]⟩
end
abbrev PW(m:Nat):Mg:=⟨prog.call m,prog.cls⟩
noncomputable abbrev sR(n:Nat):Option D:=some (.ref n)
noncomputable abbrev sI(i:Int):Option D:=some (.int i)
noncomputable def nD(x:Nat):D:=.int (x:Int)
def dz(r:Y3):D:=.tup (r.map nD)
def Hl(x y:Nat):decide ((x:Int)=(y:Int))=decide (x=y):=by
 by_cases h:x=y
 .simp[h]
 .have:¬((x:Int)=(y:Int)):=by lia
  simp[h,this]
def Rt(M:du)(n x y:Nat):Dh M (n+1) (.int x) (.int y)=some (decide (x=y)):=by rw[Xu,Hl]
theorem Lx(M:du)(n:Nat):∀r s:List Nat,Nq (Dh M (n+1)) (r.map nD) (s.map nD)=some (decide (r=s))
 |[],[]=>by simp[Nq]|[],_::_=>by simp[Nq]|_::_,[]=>by simp[Nq]
 |x::r,y::s=>by
  rw[di,di,An (f:=Dh M (n+1)) (a:=nD x) (b:=nD y) (Rt M n x y) (Lx M n r s)]
  by_cases h:x=y<;>simp[h]
def Ie(M:du)(r s:Y3):q9 M (dz r) (dz s)=some (decide (r=s)):=Lx M 4 r s
theorem aei(M:du)(g:Y3):∀fs:List (List Nat),Iw M (dz g) (fs.map dz)=some (fs.map λf=>decide (f=g))
 |[]=>rfl|f::fs=>by simp[Iw,Ie,aei M g fs]
def aej(M:du)(g:Y3)(fs:List (List Nat)):memD M (dz g) (fs.map dz)=some (decide (g∈fs)):=by
 rw[memD,aei,qj]
 congr 1
 rw[yp,List.any_eq_true,dm];constructor
 .rintro⟨b,G,Z⟩
  obtain⟨f,U,rfl⟩:=dq.mp G;simpa using(show f=g by simpa using Z)▸U
 .intro h
  exact⟨true,dq.mpr ⟨g,h,by simp⟩,rfl⟩
noncomputable abbrev Ar:=Nat×Nat
noncomputable def aD(e:Ar):D:=.tup [.int e.1,.int e.2]
noncomputable def at_(Z:List Ar)(i:Nat):Ar:=Z.getD i (0,0)
noncomputable def hw(w:Y3):Nat:=w.headD 0
noncomputable def lw(w:Y3):Nat:=w.getLastD 0
def Ej(Z:List Ar)(w:Y3):Nat:=(at_ Z (hw w)).1
def Aq(Z:List Ar)(w:Y3):Nat:=(at_ Z (lw w)).2
def Vo(Z:List Ar):List Nat->Prop
 |a::b::r=>(at_ Z a).2=(at_ Z b).1/\Vo Z (b::r)|_=>True
structure Way(es:List Ar)(w:Y3):Prop where
 ne:w≠[]
 lt:∀i∈w,i<es.length
 ch:Vo es w
def nxt(Z:List Ar)(v:Nat):List Nat:=(List.range Z.length).filter λk=>decide ((at_ Z k).1=v)
def ext(Z:List Ar)(w:Y3):List (List Nat):=(nxt Z (Aq Z w)).map λk=>w++[k]
structure Ends(es:List Ar)(V:Nat->Nat):Prop where
 pos:1<=es.length
 few:es.length<=10
 sm:∀e∈es,e.1<=7/\e.2<=7
 pot:∀v,((nxt es v).map λk=>1+V (at_ es k).2).sum<=V v
 tot:((List.range es.length).map λk=>1+V (at_ es k).2).sum<=60
def Phi(G:List Ar)(V:Nat->Nat)(Z:List (List Nat)):Nat:=(Z.map λw=>1+V (Aq G w)).sum
theorem Hm(G:List Ar)(V:Nat->Nat):∀Z:List (List Nat),Z.length+(Z.map λw=>V (Aq G w)).sum=Phi G V Z
 |[]=>rfl|w::Z=>by have:=Hm G V Z;simp[Phi] at this ⊢;lia
def aoo(Z:List Ar)(V:Nat->Nat)(a b:List (List Nat)):Phi Z V (a++b)=Phi Z V a+Phi Z V b:=by simp[Phi]
def Xy(E:Ends es V)(w:Y3):Phi es V (ext es w)<=V (Aq es w):=by
 have h:=E.pot (Aq es w);have e:(ext es w).map (λw=>1+V (Aq es w))=(nxt es (Aq es w)).map λk=>1+V (at_ es k).2:=by simp[ext,Aq,lw,g8,jl]
 rw[Phi,e];exact h
def Wd(h:i<es.length):es[i]?=some (at_ es i):=by simp[at_,List.getD,h]
theorem aek:∀{w:Y3},Vo es w->w≠[]->(at_ es k).1=Aq es w->Vo es (w++[k])
 |[],_,h,_=>absurd rfl h|[a],_,_,e=>⟨by simpa[Aq,lw] using e.symm,trivial⟩|a::b::r,h,_,e=>⟨h.1,aek (w:=b::r) h.2 (by simp) (by simpa[Aq,lw] using e)⟩
def Way.app(W:Way es w)(G:k<es.length)(e:(at_ es k).1=Aq es w):Way es (w++[k]) :=
 ⟨by simp,λi Z=>by rcases cz.mp Z with h|h;exact W.lt i h;simp at h;exact h▸G,aek W.ch W.ne e⟩
def Way.one(G:k<es.length):Way es [k]:=⟨by simp,λi Z=>by simp at Z;exact Z▸G,trivial⟩
def Jl:k∈nxt es v↔k<es.length/\(at_ es k).1=v:=by simp[nxt]
def ael(W:Way es w)(h:u∈ext es w):Way es u:=by obtain⟨k,G,rfl⟩:=dq.mp h;obtain⟨Z,U⟩:=Jl.mp G;exact W.app Z U
def call_of(U:1<=m)(Z:prog.fns[f]?=some G):prog.call m f ds M=G.run (PW (m-1)) ds M:=by obtain⟨n,rfl⟩:∃n,m=n+1:=⟨m-1,by lia⟩;simp[Prog.call,Z]
def aum(n:Int)(f:Bool):Prop:=0<=n/\(f=false->n<2147483647)
def Zo(t:Nat)(f:Bool)(M:du):Prop:=∃n,M[t]?=some (.lst [.int n,.bl f])/\aum n f
structure St(t:Nat)(f:Bool)(M M':du):Prop where
 len:M.length<=M'.length
 has:Zo t f M'
 keep:∀(a:Nat)(o:MO),a≠t->M[a]?=some o->M'[a]?=some o
def St.trans(a:St t f M Z)(b:St t f Z M2):St t f M M2 :=
 ⟨az a.len b.len,b.has,λx o n h=>b.keep x o n (a.keep x o n h)⟩
def St.of(h:Zo t f M)(k:ni M M'):St t f M M' :=
 ⟨k.len,let ⟨n,a,b⟩:=h;⟨n,k _ _ a,b⟩,λa o _ e=>k a o e⟩
def w6(hm:1<=m)(hs:Zo t f M)(Z:0<many)(hq:many<1073741824) :
 ∃(v:Nat)(G:du),prog.call m 2 [.ref t,.int many] M=.ok (.int v) G/\(v:Int)<many/\St t f M G/\G.length=M.length:=by
 obtain⟨n,h,U⟩:=hs;rw[call_of hm rfl];have hl:=iw h;have g0:=yf hl (i:=0) (by decide) rfl;have g1:=yf hl (i:=1) (by decide) rfl;have fin:∀n':Int,aum n' f->St t f M (M.set t (.lst [.int n',.bl f])):=λn' o=>⟨by simp,⟨n',qp h,o⟩,λa u e q=>by rw[lr (kh e)];exact q⟩
 have R:many≠0:=by lia
 have c1:∀y:Int,∃v:Nat,y%many=(v:Int)/\(v:Int)<many:=λy=>by have a:=Ad y R;have b:=yo y Z;exact⟨(y%many).toNat,by lia,by lia⟩
 cases f with
 |true =>
  obtain⟨v,e,l⟩:=c1 n;refine⟨v,_,?_,l,fin (n / many) ⟨Int.ediv_nonneg U.1 (by lia),by simp⟩,by simp⟩;simp[Fn.run,Kl,Kh,g0,g1,Z,V9 _ _ Z hq,aee h,e]
 |false =>
  have h1:=U.1;have h2:=U.2 rfl;obtain⟨n',en⟩:∃n',(n*48271+29)%2147483647=n':=⟨_,rfl⟩;have e1:0<=n':=en▸Ad _ (by decide)
  have e2:n'<2147483647:=en▸yo _ (by decide)
  obtain⟨x,ex⟩:∃x,(n'*n'+39373*n'+7)%2147483629=x:=⟨_,rfl⟩;have x1:0<=x:=ex▸Ad _ (by decide)
  have x2:x<2147483629:=ex▸yo _ (by decide)
  obtain⟨y,ey⟩:∃y,(x*x+16807*x)%2147483587=y:=⟨_,rfl⟩;obtain⟨v,e,l⟩:=c1 (y / 8);refine⟨v,_,?_,l,fin n' ⟨e1,λ_=>e2⟩,by simp⟩;have k:=qp (o:=.lst [.int n',.bl false]) h;have k0:=yf (iw k) (i:=0) (by decide) rfl;simp[Fn.run,Kl,Kh,g0,g1,Z,aee h,Kd n 48271 (.inr (by decide)),en,k0,Kd n' n' (.inl (by lia)),Kd 39373 n' (.inl (by decide)),ex,Kd x x (.inl (by lia)),Kd 16807 x (.inl (by decide)),ey,V9 _ 8 (by decide) (by decide),e]
def aem{k:Nat}{Z:X9}(U:1<=m):prog.call m 0 [.fz (Z.map D.int),.int k] M=.ok (.int (Z.getD k 0)) M:=by
 rw[call_of U rfl]
 by_cases G:k<Z.length
 .simp[Fn.run,Gg,Gf,ai4,G,az0 (ds:=Z.map D.int) (i:=k) (x:=.int (Z.getD k 0)) q_ (by simp[G])]
 .simp[Fn.run,Gg,Gf,ai4,G]
def ai8{k:Nat}{ns:X9}(Z:2<=m):∃n f,prog.call m 1 [.fz (ns.map D.int),.int k] M=.ok (.ref M.length) (M++[.lst [.int n,.bl f]])/\aum n f:=by
 rw[call_of (a_ (by decide) Z) rfl]
 by_cases h:(10:Int) ^ 18<=ns.getD k 0
 .refine⟨ns.getD k 0-10 ^ 18,true,?_,by lia,by simp⟩
  have G:(1000000000000000000:Int)<=ns[k]?.getD 0:=by simpa using h
  simp[Fn.run,Jb,Ja,aem (show 1<=m-1 by exact r_ Z),G,MW.new]
 .refine⟨ns.getD k 0%2147483647,false,?_,Ad _ (by decide),λ_=>yo _ (by decide)⟩
  have G:¬(1000000000000000000:Int)<=ns[k]?.getD 0:=by simpa using h
  simp[Fn.run,Jb,Ja,aem (show 1<=m-1 by exact r_ Z),G,MW.new]
def aun(h:j8 M d=some ds)(G:0<=i)(Z:ds[i.toNat]?=some x):rz d (.int i) M=some x:=by
 cases d with
 |tup l=>cases h;exact Iz G Z|_=>exact yf h G Z
def aop{Z:List D}(h:Z.getLast?=some x):rz (.tup Z) (.int (-1)) M=some x:=by
 rw[List.getLast?_eq_getElem?] at h;have R:=(ak.mp h).1;have e:Td Z.length (-1)=some (Z.length-1):=by
  have U:-(Z.length:Int)<=-1:=by lia
  have G:(-1+(Z.length:Int)).toNat=Z.length-1:=by lia
  rw[Td,cj (by decide),bz U,G]
 show(Td Z.length (-1)).bind (λj=>Z[j]?)=_;rw[e];exact h
def Eg{i:Nat}(G:j8 M d=some (es.map aD))(Z:i<es.length):rz d (.int i) M=some (aD (at_ es i)) :=
 aun G (jc _) (by simp[Wd Z])
def Xz{i:Nat}(h:w[i]?=some k):rz (dz w) (.int i) M=some (.int (k:Nat)) :=
 Iz (jc _) (by simp[h,nD])
def We{w:Y3}(h:w≠[]):w.getLast?=some (lw w)/\lw w∈w:=by
 cases e:w.getLast? with
 |none=>exact absurd (List.getLast?_eq_none_iff.mp e) h
 |some x =>
  have:lw w=x:=by rw[lw,List.getLastD_eq_getLast?,e];rfl
  rw[this];exact⟨rfl,List.mem_of_getLast? e⟩
def Kz(W:Way es w):rz (dz w) (.int (-1)) M=some (.int (lw w:Nat)) :=
 aop (by rw[List.getLast?_map,(We W.ne).1];rfl)
def Way.Ru(W:Way es w):lw w<es.length:=W.lt _ (We W.ne).2
def Ue(W:Way es w):rz (dz w) (.int 0) M=some (.int (hw w:Nat)):=by
 cases w with
 |nil=>exact absurd rfl W.ne|cons a r=>exact Bh _ _
def Way.Rw(W:Way es w):hw w<es.length:=by
 cases w with
 |nil=>exact absurd rfl W.ne|cons a r=>exact W.lt a bx
def Ug(G:1<=m)(Z:j8 M d=some (es.map aD))(W:Way es w):prog.call m 11 [d,dz w] M=.ok (.int (Aq es w)) M:=by rw[call_of G rfl];simp[Fn.run,Tv,Tu,Kz W,Eg Z W.Ru,aD,Aq]
def X3(G:1<=m)(Z:j8 M d=some (es.map aD))(W:Way es w):prog.call m 10 [d,dz w] M=.ok (.int (Ej es w)) M:=by rw[call_of G rfl];simp[Fn.run,Qq,Qp,Ue W,Eg Z W.Rw,aD,Ej]
def Nh(h:M[n]?=some (.lst Z)):Pn .extend (.ref n) M=true:=by simp[Pn,fj,h]
def X6(h:M[n]?=some (.lst Z))(G:Z.length+ys.length<100000):Hs .extend (.ref n) [.vl ys] M=.ok .non (M.set n (.lst (Z++ys))):=by simp[Hs,onL,h,G,Pq]
theorem ni.j8(k:ni M Z)(h:j8 M d=some ds):MW.j8 Z d=some ds:=by
 cases d with
 |tup l=>exact h|_=>simp only[MW.j8] at h ⊢;exact k.fj h
theorem ni.set(k:ni Z M)(h:Z.length<=p):ni Z (M.set p o):=λa u e=>by rw[lr (vy (gw (yw e) h))];exact k a u e
def Og(w:Y3)(k:Nat)(Z:w.length<1000):Bs .add (dz w) (.tup [.int k]) M=.ok (dz (w++[k])) M:=by rw[dz,Lr _ _ (by simp;lia)];simp[dz,nD]
def aen(Z:List Ar)(w:Y3):(((List.range Z.length).filter λk=>decide ((at_ Z k).1=Aq Z w)).map λk=>dz (w++[k]))=(ext Z w).map dz:=by simp[ext,nxt,g8,jl]
def Z9(G:List Ar)(V:Nat->Nat){Z:List (List Nat)}(h:Z[i]?=some w):((Z.drop i).map λw=>V (Aq G w)).sum=V (Aq G w)+((Z.drop (i+1)).map λw=>V (Aq G w)).sum:=by obtain⟨U,e⟩:=ak.mp h;rw[vo U,e];simp
structure Wys(es:List Ar)(ws:List (List Nat)):Prop where
 way:∀w∈ws,Way es w
 one:∀k,k<es.length->[k]∈ws
 ext:∀w∈ws,∀u∈ext es w,u∈ws
 few:ws.length<=60
 nd:ws.Nodup
structure Wk(es:List Ar)(V:Nat->Nat)(ws:List (List Nat))(i:Nat):Prop where
 way:∀w∈ws,Way es w
 one:∀k,k<es.length->[k]∈ws
 ext:∀j w,j<i->ws[j]?=some w->∀u∈ext es w,u∈ws
 le:i<=ws.length
 few:ws.length+((ws.drop i).map λw=>V (Aq es w)).sum<=60
 nd:ws.Nodup
 par:∀u∈ws,u.dropLast=[]\/∃j,j<i/\ws[j]?=some u.dropLast
def K1{Z:Type}{l:List Z}(h:l.Nodup){i j:Nat}{x:Z}(R:l[i]?=some x)(h2:l[j]?=some x):i=j:=by obtain⟨a1,U⟩:=ak.mp R;obtain⟨b1,G⟩:=ak.mp h2;exact(zj h).mp (U.trans G.symm)
theorem Qa{G U:Type}{f:G->U}(Z:∀a b,f a=f b->a=b):∀{l:List G},l.Nodup->(l.map f).Nodup
 |[],_=>by simp
 |a::l,h=>by
  have h:=o9.mp h;rw[di];refine o9.mpr ⟨λq=>?_,Qa Z h.2⟩;obtain⟨x,R,h2⟩:=dq.mp q;exact h.1 (Z _ _ h2▸R)
def auo(Z:List Ar)(w:Y3):(K72.ext Z w).Nodup:=Qa (λa b h=>by simpa using h) (List.Pairwise.filter _ List.nodup_range)
def Wk.step(E:Ends es V)(h:Wk es V G i)(hw:G[i]?=some w):Wk es V (G++K72.ext es w) (i+1):=by
 have W:=h.way w (au hw);have hl:=(ak.mp hw).1;have R:∀u∈K72.ext es w,u.dropLast=w:=λu Z=>by obtain⟨k,_,rfl⟩:=dq.mp Z;simp
 refine⟨λu Z=>?_,λk hk=>jf _ (h.one k hk),λj u hj Z v hv=>?_,by simp;lia,?_,nu.mpr ⟨h.nd,auo es w,λa ha b hb e=>?_⟩,λu Z=>?_⟩
 .rcases cz.mp Z with a|a
  .exact h.way u a
  .exact ael W a
 .have U:j<G.length:=by lia
  rw[gb U] at Z;rcases jo j i with a|a
  .exact jf _ (h.ext j u a Z v hv)
  .have:j=i:=by lia
   subst this;rw[hw] at Z;cases Z;exact gf _ hv
 .have a:=h.few
  rw[Z9 es V hw] at a;have b:=Xy E w;rw[<- Hm] at b;rw[List.drop_append_of_le_length (by lia),jd,gh,List.sum_append]
  lia
 .subst e
  have e:=R a hb;rcases h.par a ha with q|⟨j,q1,q2⟩
  .exact W.ne (e▸q)
  .rw[e] at q2
   have:=K1 h.nd hw q2
   lia
 .rcases cz.mp Z with a|a
  .rcases h.par u a with q|⟨j,q1,q2⟩
   .exact .inl q
   .exact .inr ⟨j,by lia,by rw[gb (by lia)];exact q2⟩
  .exact .inr ⟨i,by lia,by rw[R u a,gb hl];exact hw⟩
def Wk.start(E:Ends es V):Wk es V ((List.range es.length).map λk=>[k]) 0:=by
 refine⟨λw h=>?_,λk U=>dq.mpr ⟨k,lq.mpr U,rfl⟩,λj w G=>absurd G (qi _),iy _,?_,Qa (λa b h=>by simpa using h) List.nodup_range,λu Z=>?_⟩
 .obtain⟨k,R,rfl⟩:=dq.mp h
  exact Way.one (lq.mp R)
 .have a:=E.tot
  have b:=Hm es V ((List.range es.length).map λk=>[k]);have c:Phi es V ((List.range es.length).map λk=>[k])=((List.range es.length).map λk=>1+V (at_ es k).2).sum:=by simp[Phi,Aq,lw,g8,jl]
  rw[yx];lia
 .obtain⟨k,_,rfl⟩:=dq.mp Z
  exact .inl rfl
def V_lt(E:Ends es V)(G:k<es.length):V (at_ es k).2<V (at_ es k).1:=by
 have h:=E.pot (at_ es k).1;have m:k∈nxt es (at_ es k).1:=Jl.mpr ⟨G,rfl⟩;have:1+V (at_ es k).2<=((nxt es (at_ es k).1).map λk=>1+V (at_ es k).2).sum:=by
  generalize nxt es (at_ es k).1=l at m
  induction l with
  |nil=>cases m
  |cons a l Z =>
   simp only[di,List.sum_cons];rcases dg.mp m with rfl|m
   .lia
   .have:=Z m;lia
 lia
def a7t(E:Ends es V)(G:k<es.length):V (at_ es k).2<=59:=by
 have h:=E.tot;have m:k∈List.range es.length:=lq.mpr G;have:1+V (at_ es k).2<=((List.range es.length).map λk=>1+V (at_ es k).2).sum:=by
  generalize List.range es.length=l at m
  induction l with
  |nil=>cases m
  |cons a l Z =>
   simp only[di,List.sum_cons];rcases dg.mp m with rfl|m
   .lia
   .have:=Z m;lia
 lia
theorem asl(E:Ends es V):∀{w:Y3},Way es w->w.length+V (Aq es w)<=V (at_ es (hw w)).2+1
 |[],W=>absurd rfl W.ne|[a],_=>by simp[Aq,lw,hw];lia
 |a::b::r,W=>by
  have U:Way es (b::r):=⟨by simp,λi G=>W.lt i (bh _ G),W.ch.2⟩;have Z:=asl E U;have hb:=V_lt E (W.lt b (by simp));have e:=W.ch.1;have R:Aq es (a::b::r)=Aq es (b::r):=by simp[Aq,lw]
  rw[R];simp only[d9,hw,List.headD_cons] at Z ⊢;rw[e]
  lia
def Ai(E:Ends es V)(W:Way es w):w.length<=60:=by
 have a:=asl E W;have b:=a7t E W.Rw
 lia
def Wk.end_(h:Wk es V ws ws.length):Wys es ws:=by
 refine⟨h.way,h.one,λw hw u G=>?_,?_,h.nd⟩
 .obtain⟨j,Z⟩:=jw.mp hw
  exact h.ext j w (ak.mp Z).1 Z u G
 .have:=h.few;lia
theorem Vo.init:∀{w:Y3},Vo es (w++[k])->Vo es w
 |[],_=>trivial|[_],_=>trivial|a::b::r,h=>⟨h.1,Vo.init (w:=b::r) h.2⟩
theorem Vo.last:∀{w:Y3},w≠[]->Vo es (w++[k])->(at_ es k).1=Aq es w
 |[],h,_=>absurd rfl h|[a],_,h=>by simpa[Aq,lw] using h.1.symm|a::b::r,_,h=>by have:=Vo.last (w:=b::r) (by simp) h.2;simpa[Aq,lw] using this
theorem Wys.all(L:Wys es R):∀(n:Nat){w:Y3},w.length=n->Way es w->w∈R
 |0,w,h,W=>absurd (List.eq_nil_of_length_eq_zero h) W.ne
 |n+1,w,h,W=>by
  obtain⟨u,k,rfl⟩:∃u k,w=u++[k]:=⟨w.dropLast,w.getLast W.ne,(yh W.ne).symm⟩;have G:k<es.length:=W.lt k (by simp)
  by_cases Z:u=[]
  .subst Z;exact L.one k G
  .have Wu:Way es u:=⟨Z,λi U=>W.lt i (jf _ U),W.ch.init⟩
   have m:=L.all n (by simpa using h) Wu;exact L.ext u m _ (dq.mpr ⟨k,Jl.mpr ⟨G,Vo.last Z W.ch⟩,rfl⟩)
def Oh{g:Nat->D}(G:it.den W R M=.ok (.int (n:Int)) M1)(hn:n<=100000)(h:∀i,i<n->∃Z,t.put (.int i) (R++List.replicate k none)=some Z/\e.den W Z M1=.ok (g i) M1) :
 (Ex.comp v k t (.Rh it) e).den W R M=if v then .ok (.vl ((List.range n).map g)) M1 else new (.lst ((List.range n).map g)) M1:=by
 obtain⟨ys,M',a,rfl,rfl⟩:=Nz (v:=v) (k:=k) (t:=t) (e:=e) G hn (λi U M=>U=(List.range i).map g/\M=M1) ⟨rfl,rfl⟩ (λi U M hi hI=>by
  obtain⟨rfl,rfl⟩:=hI;obtain⟨Z,b,c⟩:=h i hi;exact⟨Z,_,_,b,c,by simp[List.range_succ],rfl⟩)
 exact a
def Hn(h:j8 M d=some ds):v7 .len [d] M=.ok (.int ds.length) M:=by
 cases d with
 |tup l=>cases h;rfl|_=>simp only[MW.j8] at h;exact len_list h
def Oi(hm:1<=m)(E:Ends es V)(hd:j8 M d=some (es.map aD)) :
 ∃Z M',prog.call m 25 [d] M=.ok (.ref M.length) M'/\M'[M.length]?=some (.lst (Z.map dz))/\Wys es Z/\ni M M':=by
 rw[call_of hm rfl];have hn:es.length<=100000:=az E.few (by decide)
 have c2:Dn.den (PW (m-1)) [some d,none,none,none] M=.ok (.ref M.length) (M++[.lst (((List.range es.length).map λk=>[k]).map dz)]):=by unfold Dn;rw[Oh (n:=es.length) (M1:=M) (g:=λk=>dz [k]) (by simp[Hn hd]) hn (λi hi=>⟨_,rfl,by simp[dz,nD]⟩)];simp[MW.new,g8,jl]
 obtain⟨qk,M',a,Z,b3,rfl,G,g2,U⟩:=Fy (c:=(Ex.cmp .lt (.v 2) (.l (.v 1))).den (PW (m-1))) (body:=Dm.den (PW (m-1)))
  (λn ρ M1=>∃(Z:List (List Nat))(i:Nat)(b3:Option D),ρ=[some d,sR M.length,sI i,b3]/\M1[M.length]?=some (.lst (Z.map dz))/\ni M M1/\Wk es V Z i/\n=60-i)
  (fun ρ M1=>∃(Z:List (List Nat))(b3:Option D),ρ=[some d,sR M.length,sI Z.length,b3]/\M1[M.length]?=some (.lst (Z.map dz))/\ni M M1/\Wys es Z)
  (λn ρ M1 hI=>by
   obtain⟨Z,i,b3,rfl,G,g2,U,rfl⟩:=hI;have hl:=len_list (iw G);rcases jo i Z.length with hi|hi
   .right
    obtain⟨w,hw⟩:∃w,Z[i]?=some w:=⟨_,bj hi⟩;have W:=U.way w (au hw);have R:=ni.j8 g2 hd;have x0:rz (.ref M.length) (.int i) M1=some (dz w):=yf (iw G) (jc _) (by simp[hw]);have wl:=Ai E W;have c1:Dl.den (PW (m-1)) [some d,sR M.length,sI i,sI (Aq es w)] M1=.ok (.vl ((ext es w).map dz)) M1:=by unfold Dl;rw[Ge (n:=es.length) (M1:=M1) (q:=λk=>decide ((at_ es k).1=Aq es w)) (g:=λk=>dz (w++[k])) (by simp[Hn R]) hn (λj hj=>⟨_,rfl,by simp[Eg R hj,aD,Hl],λ_=>by simp[x0,Og w j (by lia)]⟩)];rw[<- aen];rfl
    have qq:=U.few;have el:Z.length+(ext es w).length<=60:=by
     rw[Z9 es V hw] at qq;have b:=Xy E w;rw[<- Hm] at b
     lia
    refine⟨M1,.next,_,_,60-(i+1),?_,?_,.inl rfl,by have:=U.le;lia,Z++ext es w,i+1,sI (Aq es w),rfl,qp G,ni.set g2 (bc _),?_,rfl⟩
    .simp[hl,hi]
    .have lst:=Kz (M:=M1) W
     have e1:=Eg R W.Ru;simp only[Dm];simp[x0,lst,e1,aD,Nh G];rw[show(at_ es (lw w)).2=Aq es w from rfl];simp[c1,X6 G (ys:=(ext es w).map dz) (by simp;lia)]
    .exact U.step E hw
   .left
    have:i=Z.length:=by have:=U.le;lia
    subst this;exact⟨M1,by simp[hl],Z,b3,rfl,G,g2,U.end_⟩)
  Vq 60 [some d,sR M.length,sI 0,none] (M++[.lst (((List.range es.length).map λk=>[k]).map dz)]) (by decide)
  ⟨_,0,none,rfl,Bj,ni.app _ _,Wk.start E,rfl⟩
 refine⟨Z,M',?_,G,U,g2⟩;simp only[Fn.run,J0,Jz];simp[-List.map_map,c2,Hg,Py,a]
def aor(h:M[n]?=some (.lst Z))(hy:fj M y=some G)(R:Pq n y=true)(U:Z.length+G.length<100000):Hs .extend (.ref n) [y] M=.ok .non (M.set n (.lst (Z++G))):=by simp[Hs,onL,h,hy,R,U]
theorem Uh(E:Ends es V):∀Z:List (List Nat),Phi es V (Z.flatMap (ext es))<=(Z.map λw=>V (Aq es w)).sum
 |[]=>by simp[Phi]
 |w::Z=>by
  have a:=Xy E w;have b:=Uh E Z;rw[List.flatMap_cons,aoo,di,List.sum_cons]
  lia
def Mf(r:Nat)(M Z:du):Prop:=∀(a:Nat)(o:MO),a≠r->M[a]?=some o->Z[a]?=some o
def Mf.refl(r:Nat)(M:du):Mf r M M:=λ_ _ _ h=>h
def Mf.trans(a:Mf r M Z)(b:Mf r Z M2):Mf r M M2:=λx o n h=>b x o n (a x o n h)
theorem Mf.set(r:Nat)(M:du)(o:MO):Mf r M (M.set r o):=λa u n h=>by rw[lr (kh n)];exact h
theorem Mf.fj(k:Mf r M Z)(U:Pq r f=true)(h:fj M f=some ds):MW.fj Z f=some ds:=by
 cases f with
 |ref n =>
  have G:n≠r:=by simpa[Pq] using U
  cases e:M[n]? with
  |none=>simp[MW.fj,e] at h|some o=>cases o<;>simp[MW.fj,e] at h<;>subst h<;>simp[MW.fj,k n _ G e]
 |_=>exact h
def az2(hm:1<=m)(E:Ends es V)(hf:fj M f=some (ws.map dz))(hw:∀w∈ws,Way es w)(hp:Phi es V ws<=60)(hr:M[r]?=some (.lst []))(hk:Pq r f=true) :
 ∃G Z M',Jg.den (PW m) [some (.tup (es.map aD)),a1,some f,sR r,a4,a5] M=.ok (.next,[some (.tup (es.map aD)),a1,some f,sR r,G,Z]) M'/\M'[r]?=some (.lst ((ws.flatMap (ext es)).map dz))/\Mf r M M':=by
 unfold Jg;obtain⟨qk,M',a,G,Z,rfl,U,g2⟩:=zy (W:=PW m) (it:=.v 2) (t:=.name 4) (b:=Jf) (ρ:=[D.tup (es.map aD),a1,some f,sR r,a4,a5]) (M:=M) (M1:=M) rfl hf
  (λi ρ M1=>∃G Z:Option D,ρ=[some (.tup (es.map aD)),a1,some f,sR r,G,Z]/\M1[r]?=some (.lst (((ws.take i).flatMap (ext es)).map dz))/\Mf r M M1)
  ⟨a4,a5,rfl,by simpa using hr,Mf.refl r M⟩ (λi ρ M1 h=>by obtain⟨_,_,_,_,k⟩:=h;exact k.fj hk hf)
  (λi x ρ M1 R hI=>by
   obtain⟨G,Z,rfl,U,g2⟩:=hI;obtain⟨w,hi,rfl⟩:∃w,ws[i]?=some w/\dz w=x:=by simpa using R
   have W:=hw w (au hi);have qq:=(ak.mp hi).1;have wl:=Ai E W;have c1:Je.den (PW m) [some (.tup (es.map aD)),a1,some f,sR r,some (dz w),sI (Aq es w)] M1=.ok (.vl ((ext es w).map dz)) M1:=by
    unfold Je;rw[Kg (ds:=es.map aD) (M1:=M1) (q:=λk=>decide ((at_ es k).1=Aq es w)) (g:=λk=>dz (w++[k])) rfl (by simpa using az E.few (by decide)) (λj x R=>by
     have hj:j<es.length:=by simpa using(ak.mp R).1
     have ex:x=aD (at_ es j):=by simpa[Wd hj] using R.symm
     subst ex;exact⟨_,rfl,by simp[aD,Hl],λ_=>by simp[Og w j (by lia)]⟩)]
    simp only[dh,aen,jk]
   have el:(((ws.take i).flatMap (ext es)).map dz).length+((ext es w).map dz).length<100000:=by
    have e1:(ws.take (i+1)).flatMap (ext es)=(ws.take i).flatMap (ext es)++ext es w:=by rw[vg,hi];simp
    have e2:=Uh E (ws.take (i+1));rw[e1,<- Hm] at e2;have e3:((ws.take (i+1)).map λw=>V (Aq es w)).sum<=Phi es V ws:=by
     rw[<- Hm,<- qg (i+1) ws,gh,List.sum_append]
     simp;lia
    rw[jd] at e2;rw[dh,dh]
    lia
   refine⟨_,.next,_,_,rfl,?_,.inl rfl,some (dz w),sI (Aq es w),rfl,qp (o:=.lst (((ws.take (i+1)).flatMap (ext es)).map dz)) U,g2.trans (Mf.set r M1 _)⟩;simp only[Jf];simp[Ug hm (M:=M1) (d:=.tup (es.map aD)) rfl W,Nh U,c1,X6 U el];rw[vg,hi];simp)
 refine⟨G,Z,M',a,?_,g2⟩;simpa using U
def aaa(hm:2<=m)(E:Ends es V) :
 ∃(l:List D)(M':du),prog.call m 13 [.tup (es.map aD)] M=.ok (.ref M.length) M'/\M'[M.length]?=some (.lst l)/\l.length<=60/\ni M M':=by
 rw[call_of (az (by decide) hm) rfl];have hn:es.length<=100000:=az E.few (by decide)
 have c2:Ji.den (PW (m-1)) [some (.tup (es.map aD)),sR M.length,none,none,none,none] (M++[.lst []])=.ok (.vl (((List.range es.length).map λk=>[k]).map dz)) (M++[.lst []]):=by unfold Ji;rw[Oh (n:=es.length) (M1:=M++[.lst []]) (g:=λk=>dz [k]) (by simp[Bt]) hn (λi hi=>⟨_,rfl,by simp[dz,nD]⟩)];simp[g8,jl]
 obtain⟨qk,M',a,l,b2,b3,R,U,rfl,g1,g2,g3⟩:=Fy (c:=(Ex.tru (.v 2)).den (PW (m-1))) (body:=Jh.den (PW (m-1)))
  (λn ρ G=>∃(Z:List (List Nat))(l:List D)(f:D)(b3 R U:Option D),ρ=[some (.tup (es.map aD)),sR M.length,some f,b3,R,U]/\G[M.length]?=some (.lst l)/\ni M G/\fj G f=some (Z.map dz)/\Pq M.length f=true/\(∀w∈Z,Way es w)/\l.length+Phi es V Z<=60/\n=60-l.length)
  (fun ρ G=>∃(l:List D)(b2 b3 R U:Option D),ρ=[some (.tup (es.map aD)),sR M.length,b2,b3,R,U]/\G[M.length]?=some (.lst l)/\ni M G/\l.length<=60)
  (λn ρ G hI=>by
   obtain⟨Z,l,f,b3,R,U,rfl,g1,g2,g3,g4,g5,g6,rfl⟩:=hI;have hs:=Dk g3
   by_cases hw:Z=[]
   .left
    subst hw;exact⟨G,by simp[hs],l,some f,b3,R,U,rfl,g1,g2,by lia⟩
   .right
    have Lp:=Hm es V Z;have qq:0<Z.length:=km.mpr hw
    have x1:=aor g1 g3 g4 (by simp;lia);have k1:Mf M.length G (G.set M.length (.lst (l++Z.map dz))):=Mf.set _ _ _;have f1:=k1.fj g4 g3;generalize hM2:G.set M.length (.lst (l++Z.map dz))=M2 at x1 k1 f1;have t1:M2[M.length]?=some (.lst (l++Z.map dz)):=by rw[<- hM2];exact qp g1
    have f2:fj (M2++[.lst []]) f=some (Z.map dz):=(ni.app _ _).fj f1;have hr:Pq M2.length f=true:=by
     cases f with
     |ref n =>
      have:n<M2.length:=by
       cases e:M2[n]? with
       |none=>simp[MW.fj,e] at f1|some o=>exact yw e
      simpa[Pq] using ie this
     |_=>rfl
    obtain⟨c4,c5,M3,e3,h3,k3⟩:=az2 (m:=m-1) (a1:=sR M.length) (a4:=R) (a5:=U) (by lia) E f2 g5 (by lia) Bj hr;have tl:M.length<M2.length:=yw t1
    refine⟨G,.next,[some (.tup (es.map aD)),sR M.length,sR M2.length,sR M2.length,c4,c5],M3,60-(l++Z.map dz).length,?_,?_,.inl rfl,by simp;lia,Z.flatMap (ext es),l++Z.map dz,.ref M2.length,_,_,_,rfl,k3 _ _ (ie tl) (Cw t1),?_,iw h3,?_,?_,?_,rfl⟩
    .simp[hs,hw]
    .simp only[Jh]
     simp[Nh g1,x1,MW.new,e3]
    .intro a o h
     have ha:=yw h;have:=g2 a o h;refine k3 a o (by lia) (Cw ?_);rw[<- hM2,lr (by lia)];exact this
    .simpa[Pq] using vy tl
    .intro u hu
     obtain⟨w,h1,h2⟩:=List.mem_flatMap.mp hu;exact ael (g5 w h1) h2
    .have:=Uh E Z
     rw[jd,dh]
     lia)
  Vq 60 [some (.tup (es.map aD)),sR M.length,some (.vl (((List.range es.length).map λk=>[k]).map dz)),none,none,none] (M++[.lst []]) (by decide)
  ⟨_,[],_,none,none,none,rfl,Bj,ni.app _ _,rfl,rfl,(Wk.start E).way,by
   have:=(Wk.start E).few;rw[yx,Hm] at this;simpa using this,rfl⟩
 refine⟨l,M',?_,g1,g3,g2⟩;simp only[Fn.run,Tz,Tw];simp[-List.map_map,MW.new,c2,Oa,Py,a]
def acn(Z:j8 U d=some ds):∃s,srcOf U d=some s/\s.len=ds.length/\(∀M i,j8 M d=some ds->s.item i M=ds[i]?)/\∀M,j8 M d=some ds->s.fin M=true:=by
 cases d with
 |vl G=>cases Z;exact⟨.con ds,rfl,rfl,λ_ _ _=>rfl,λ_ _=>rfl⟩
 |tup G=>cases Z;exact⟨.con ds,rfl,rfl,λ_ _ _=>rfl,λ_ _=>rfl⟩
 |ref p =>
  have get:∀{M:du},j8 M (.ref p)=some ds->M[p]?=some (.lst ds):=fun{M} h=>by
   cases e:M[p]? with
   |none=>simp[MW.j8,MW.fj,e] at h|some o=>cases o<;>simp[MW.j8,MW.fj,e] at h;subst h;rfl
  exact⟨.live p ds.length,by simp[srcOf,get Z],rfl,λM i h=>by simp[Src.item,get h],λM h=>by simp[Src.fin,get h]⟩
 |_=>cases Z
def Jm{U:Type}{f:U->D}{xs:List U}{q:U->Bool}{g:U->D}(qq:it.den W ρ M=.ok d M1)(hd:j8 M1 d=some (xs.map f))(hn:xs.length<=100000)
 (h:∀x∈xs,∃Z,t.put (f x) (ρ++List.replicate k none)=some Z/\c.den W Z M1=.ok (.bl (q x)) M1/\(q x=true->e.den W Z M1=.ok (g x) M1)) :
 (Ex.yu v k t (.val it) c e).den W ρ M=if v then .ok (.vl ((xs.filter q).map g)) M1 else new (.lst ((xs.filter q).map g)) M1:=by
 rw[Hc,Em,qq];obtain⟨s,hs,hl,hi,hf⟩:=acn hd;simp only[Res.t6,hs,Res.qm];obtain⟨ys,M',g1,g2,rfl⟩:=Im (fin:=s.fin) (item:=s.item) (body:=λd M=>(Res.rn (t.put d (ρ++List.replicate k none)) M).bind λG M=>(c.den W G M).bind λb M' =>
  match b with
   |.bl true=>(e.den W G M').bind λx qk=>.ok (some x) qk
   |.bl false=>.ok none M'|_=>.bad) (λi R M=>R=((xs.take i).filter q).map g/\M=M1) (n:=xs.length) (λi R M Iu hI=>by
  obtain⟨rfl,rfl⟩:=hI;obtain⟨Z,a,b,c⟩:=h xs[i] (by simp);refine⟨f xs[i],if q xs[i] then some (g xs[i]) else none,M,by rw[hi M i hd];simp[Iu],?_,?_,rfl⟩
  .cases e:q xs[i] with
   |true=>simp only[a,Res.qm,Res.t6,b,e,c e,jk]|false=>simp only[a,Res.qm,Res.t6,b,e];rfl
  .rw[List.take_succ_eq_append_getElem Iu,List.filter_append,gh]
   cases e:q xs[i]<;>simp[e]) (λR M h=>h.2▸hf M1 hd) xs.length 0 [] M1 (vz _) ⟨by simp,rfl⟩
 rw[yr,uc] at g2;subst g2;rw[Ba,hl,dh,bz hn];exact mz (λr=>r.bind λds M2=>if v=true then Res.ok (.vl ds) M2 else new (.lst ds) M2) g1
def K3{α:Type}{f:α->D}{xs:List α}{g:α->D}(R:it.den W ρ M=.ok d M1)(U:j8 M1 d=some (xs.map f))(hn:xs.length<=100000)
 (h:∀x∈xs,∃Z,t.put (f x) (ρ++List.replicate k none)=some Z/\e.den W Z M1=.ok (g x) M1) :
 (Ex.comp v k t (.val it) e).den W ρ M=if v then .ok (.vl (xs.map g)) M1 else new (.lst (xs.map g)) M1:=by
 rw[Lw,Em,R];obtain⟨s,hs,hl,hi,hf⟩:=acn U;simp only[Res.t6,hs,Res.qm];obtain⟨ys,M',g1,g2,rfl⟩:=Im (fin:=s.fin) (item:=s.item) (body:=λd M=>(Res.rn (t.put d (ρ++List.replicate k none)) M).bind λqq M=>(e.den W qq M).bind λx M'=>.ok (some x) M') (λi G M=>G=(xs.take i).map g/\M=M1) (n:=xs.length) (λi G M Iu hI=>by
  obtain⟨rfl,rfl⟩:=hI;obtain⟨Z,a,b⟩:=h xs[i] (by simp);exact⟨f xs[i],some (g xs[i]),M,by rw[hi M i U];simp[Iu],by simp only[a,Res.qm,Res.t6,b],by rw[List.take_succ_eq_append_getElem Iu,gh];rfl,rfl⟩)
  (λG M h=>h.2▸hf M1 U) xs.length 0 [] M1 (vz _) ⟨by simp,rfl⟩
 rw[yr,uc] at g2;subst g2;rw[Ba,hl,dh,bz hn];exact mz (λr=>r.bind λds M2=>if v=true then Res.ok (.vl ds) M2 else new (.lst ds) M2) g1
theorem aeo(M:du)(g:Nat):∀fs:List Nat,Iw M (.int g) (fs.map nD)=some (fs.map λf=>decide (f=g))
 |[]=>rfl
 |f::fs=>by
  have:q9 M (nD f) (.int g)=some (decide (f=g)):=Rt M 5 f g;simp only[di,Iw,this,aeo M g fs]
def aos(M:du)(g:Nat)(fs:Y3):memD M (.int g) (fs.map nD)=some (decide (g∈fs)):=by
 rw[memD,aeo,qj]
 congr 1
 induction fs with
 |nil=>simp
 |cons f fs Z =>
  by_cases h:f=g
  .simp[h]
  .simp only[di,wu,Z,dg,id]
   simp[h,kh h]
def aup(h:e∈es):∃k,k<es.length/\at_ es k=e:=by obtain⟨k,Z⟩:=jw.mp h;have G:=(ak.mp Z).1;refine⟨k,G,?_⟩;have:=Wd G;rw[Z] at this;exact(gq this).symm
def aco(h:k<es.length):at_ es k∈es:=au (Wd h)
theorem ai9(V:Nat->Nat):∀G:List Ar,G≠[]->∃e∈G,∀u∈G,V u.1<=V e.1
 |[],h=>absurd rfl h|[a],_=>⟨a,by simp,by simp⟩
 |a::b::r,_=>by
  obtain⟨e,R,U⟩:=ai9 V (b::r) (by simp)
  by_cases h:V a.1<=V e.1
  .exact⟨e,bh _ R,λu Z=>by rcases dg.mp Z with rfl|Z;exact h;exact U u Z⟩
  .exact⟨a,bx,λu Z=>by rcases dg.mp Z with rfl|Z;exact bc _;have:=U u Z;lia⟩
noncomputable def lft(Z:List Ar):List Ar:=Z.filter λe=>decide (e.1∈Z.map (·.2))
def aja(E:Ends es V)(hs:∀e∈Z,e∈es)(hn:Z≠[]):(lft Z).length<Z.length:=by
 obtain⟨e,h1,h2⟩:=ai9 V Z hn;refine List.length_filter_lt_length_iff_exists.mpr ⟨e,h1,?_⟩;intro h;obtain⟨u,G,R⟩:=dq.mp (jn h);obtain⟨k,U,rfl⟩:=aup (hs u G);have a:=V_lt E U;have b:=h2 _ G;rw[R] at a
 lia
def aot(hm:1<=m)(E:Ends es V):∃M',prog.call m 5 [.tup (es.map aD)] M=.ok (.bl false) M'/\ni M M':=by
 rw[call_of hm rfl];obtain⟨qk,M',a,b1,G,rfl,g2⟩:=Fy (c:=(Ex.cmp .ne (.v 2) (.l (.v 1))).den (PW (m-1))) (body:=Gm.den (PW (m-1)))
  (λn ρ M1=>∃(Z:List Ar)(f:D)(R:Int)(G:Option D),ρ=[some (.tup (es.map aD)),some f,sI R,G]/\ni M M1/\j8 M1 f=some (Z.map aD)/\(∀e∈Z,e∈es)/\Z.length<=10/\(R=Z.length->Z=[])/\n=2*Z.length+if R=Z.length then 0 else 1)
  (fun ρ M1=>∃(b1 G:Option D),ρ=[some (.tup (es.map aD)),b1,sI 0,G]/\ni M M1)
  (λn ρ M1 hI=>by
   obtain⟨Z,f,R,G,rfl,g2,g3,g4,g5,g6,rfl⟩:=hI;have hl:=Hn g3;rw[dh] at hl
   by_cases e:R=Z.length
   .left
    have qq:=g6 e;subst qq;exact⟨M1,by simp[hl,e],some f,G,by simp[e],g2⟩
   .right
    have c2:Gk.den (PW (m-1)) [some (.tup (es.map aD)),some f,sI Z.length,G] M1=.ok (.vl ((Z.map (·.2)).map nD)) M1:=by unfold Gk;rw[K3 (d:=f) (M1:=M1) (xs:=Z) (f:=aD) (g:=λe=>nD e.2) rfl g3 (by lia) (λx hx=>⟨_,rfl,by simp[aD,nD,Gb]⟩)];simp[g8,jl]
    have c1:Gj.den (PW (m-1)) [some (.tup (es.map aD)),some f,sI Z.length,some (.vl ((Z.map (·.2)).map nD))] M1=.ok (.vl ((lft Z).map aD)) M1:=by
     unfold Gj;rw[Jm (d:=f) (M1:=M1) (xs:=Z) (f:=aD) (q:=λe=>decide (e.1∈Z.map (·.2))) (g:=aD) rfl g3 (by lia) (λx hx=>⟨_,rfl,by
      have:=aos M1 x.1 (Z.map (·.2));simp[-List.map_map,aD,Pk,this],λ_=>by simp⟩)]
     rfl
    refine⟨M1,.next,[some (.tup (es.map aD)),some (.vl ((lft Z).map aD)),sI Z.length,some (.vl ((Z.map (·.2)).map nD))],M1,_,by simp[hl,e],?_,.inl rfl,?_,lft Z,_,Z.length,_,rfl,g2,rfl,λu hu=>g4 u ((sy.mp hu).1),?_,?_,rfl⟩
    .simp only[Gm]
     simp[-List.map_map,hl,c2,c1]
    .by_cases U:Z=[]
     .subst U;simp[lft] at e ⊢;simp[e]
     .have:=aja E g4 U
      simp only[e,jg];split<;>lia
    .exact az (t8 _ _) g5
    .intro h
     by_cases U:Z=[]
     .subst U;rfl
     .have:=aja E g4 U;lia)
  Vq _ [some (.tup (es.map aD)),sR M.length,sI (-1),none] (M++[.lst (es.map aD)]) (by have:=E.few;show _<1000000;split<;>lia)
  ⟨es,.ref M.length,-1,none,rfl,ni.app _ _,Dk (iw Bj),λ_ h=>h,E.few,λh=>by lia,rfl⟩
 refine⟨M',?_,g2⟩;simp only[Fn.run,N8,N7];simp[v7,MW.new,Kp,Py,a]
def aab{Z:List Ar}{k:Nat}(U:1<=m)(G:j8 M d=some (Z.map aD)):prog.call m 8 [d,.int k] M=.ok (.bl (decide (k<Z.length))) M:=by rw[call_of U rfl];simp[Fn.run,Ng,Nf,Hn G]
theorem Wf{G:Type}:∀Z:List G,allB (Z.map λ_=>D.bl true)=some true
 |[]=>rfl|_::Z=>by simp[allB,Wf Z]
theorem Vo.zip:∀{w:Y3},Vo es w->∀p∈w.zip (w.drop 1),(at_ es p.1).2=(at_ es p.2).1
 |[],_,p,h=>by simp at h|[_],_,p,h=>by simp at h
 |a::b::r,c,p,h=>by
  simp only[List.drop_succ_cons,yx,List.zip_cons_cons,dg] at h;rcases h with rfl|h
  .exact c.1
  .exact Vo.zip (w:=b::r) c.2 p (by simpa using h)
def ajb(hm:2<=m)(Z:j8 M d=some (es.map aD))(Zn:es.length<=10)(E:w.length<=60)(W:Way es w):prog.call m 9 [d,dz w] M=.ok (.bl true) M:=by
 rw[call_of (az (by decide) hm) rfl];have c2:Gs.den (PW (m-1)) [some d,some (dz w)] M=.ok (.vl (w.map λ_=>.bl true)) M:=by
  unfold Gs;rw[K3 (d:=dz w) (M1:=M) (xs:=w) (f:=nD) (g:=λ_=>.bl true) rfl rfl (by lia) (λx U=>⟨_,rfl,by
   have:=aab (m:=m-1) (k:=x) (by lia) Z;simp[nD,this,W.lt x U]⟩)]
  rfl
 have hl:1<=w.length:=km.mpr W.ne
 have cu:Ef (dz w) (some 1) none M=some (dz (w.drop 1)):=by
  have:Ec (w.map nD) (some 1) none=(w.drop 1).map nD:=by
   have e:min 1 w.length=1:=by lia
   simp only[Ec,clip,dh];rw[bz (by decide),show(1:Int).toNat=1 from rfl,e,List.map_drop];exact mq (by simp)
  show some (D.tup (Ec (w.map nD) (some 1) none))=_;rw[this];rfl
 have zi:(Nb.zip (.p (.v 1) (.cut (.v 1) (.some (.i 1)) .none))).den (PW (m-1)) [some d,some (dz w)] M=.ok (.con (Ti (w.map nD) ((w.drop 1).map nD))) M:=by rw[Xo];simp only[Df,Et,acf,Xm,Px,Pu,Ha,Res.t6,cu,Res.qm];rfl
 have R:Gr.den (PW (m-1)) [some d,some (dz w)] M=.ok (.vl ((w.zip (w.drop 1)).map λ_=>.bl true)) M:=by
  unfold Gr;rw[Lw,zi];have ez:Ti (w.map nD) ((w.drop 1).map nD)=(w.zip (w.drop 1)).map λp=>.tup [nD p.1,nD p.2]:=by rw[Ti,List.zip_map,g8];rfl
  rw[ez,Res.t6,aef (g:=λ_=>.bl true) (by simp;lia) (λx U=>by
   obtain⟨p,G,rfl⟩:=dq.mp U;have z:=W.ch.zip p G;have p1:=W.lt p.1 (v9 G).1;have p2:=W.lt p.2 (um (v9 G).2);simp[nD,Gb,Eg Z p1,Eg Z p2,aD,z])]
  simp
 have Pb:w.isEmpty=false:=by cases w<;>first|exact absurd rfl W.ne|rfl
 simp only[Fn.run,Tt,Tq];have t0:(Ex.ntr (.v 1)).den (PW (m-1)) [some d,some (dz w)] M=.ok (.bl false) M:=by show Res.rn (some (D.bl (w.map nD).isEmpty)) M=_;rw[List.isEmpty_map,Pb];rfl
 simp[t0,-Lq,c2,R,v7,Wf]
structure Ly(es:List Ar)(a b:Y3):Prop where
 one:Way es a
 two:Way es b
 st:Ej es a=Ej es b
 go:Aq es a=Aq es b
def ajc(hm:3<=m)(Z:j8 M d=some (es.map aD))(E:Ends es V)(B:Ly es a b):prog.call m 12 [d,dz a,dz b] M=.ok (.bl true) M:=by rw[call_of (az (by decide) hm) rfl];have h1:=ajb (m:=m-1) (by lia) Z E.few (Ai E B.one) B.one;have R:=ajb (m:=m-1) (by lia) Z E.few (Ai E B.two) B.two;have U:=X3 (m:=m-1) (by lia) Z B.one;have G:=X3 (m:=m-1) (by lia) Z B.two;have h5:=Ug (m:=m-1) (by lia) Z B.one;have h6:=Ug (m:=m-1) (by lia) Z B.two;simp[Fn.run,Jd,Jc,h1,R,U,G,h5,h6,B.st,B.go]
inductive Gn where
 |same (a b:Y3)|apart (k:Nat)
def Gn.toD:Gn->D
 |.same a b=>.tup [.str (PySem.Str.ofString "same"),dz a,dz b]|.apart k=>.tup [.str (PySem.Str.ofString "apart"),.int (k:Nat)]
def Gd(Z:List Ar):Gn->Prop
 |.same a b=>Ly Z a b|.apart k=>k<Z.length
def ajd(G:4<=m)(Z:j8 M d=some (es.map aD))(E:Ends es V)(g:Gn)(h:Gd es g):prog.call m 7 [d,g.toD] M=.ok (.bl true) M:=by
 rw[call_of (az (by decide) G) rfl];cases g with
 |same a b =>
  have:=ajc (m:=m-1) (by lia) Z E h;simp[Fn.run,Gq,Gp,Gn.toD,this]
 |apart k =>
  have:=aab (m:=m-1) (k:=k) (by lia) Z;have U:PySem.Str.ofString "apart"≠PySem.Str.ofString "same" := by decide
  simp[Fn.run,Gq,Gp,Gn.toD,this,U,show k<es.length from h]
def aje(hm:2<=m)(E:Ends es V):∃M',prog.call m 4 [.tup (es.map aD)] M=.ok .non M'/\ni M M':=by
 rw[call_of (az (by decide) hm) rfl];obtain⟨M',a,k⟩:=aot (m:=m-1) (M:=M) (by lia) E;have lp:∃G Z:Option D,Gi.den (PW (m-1)) [some (.tup (es.map aD)),none,none] M=.ok (.next,[some (.tup (es.map aD)),G,Z]) M:=by
  unfold Gi;obtain⟨qq,U,e,G,Z,rfl,rfl⟩:=Kf (W:=PW (m-1)) (it:=.v 0) (t:=.names [1,2]) (b:=Gh) (ρ:=[D.tup (es.map aD),none,none]) (M:=M) (M1:=M) rfl
   (λ_ R U=>∃G Z:Option D,R=[some (.tup (es.map aD)),G,Z]/\U=M) ⟨none,none,rfl,rfl⟩ (λi x R U hx hI=>by
    obtain⟨G,Z,rfl,rfl⟩:=hI;obtain⟨e,h1,rfl⟩:∃e,es[i]?=some e/\aD e=x:=by simpa using hx
    have hs:=E.sm e (au h1);have s1:(e.1:Int)<=7:=by lia
    have s2:(e.2:Int)<=7:=by lia
    exact⟨_,.next,[some (.tup (es.map aD)),sI e.1,sI e.2],U,rfl,by simp[Gh,Gb,s1,s2],.inl rfl,_,_,rfl,rfl⟩)
  exact⟨G,Z,e⟩
 obtain⟨G,Z,e⟩:=lp;have p1:(1:Int)<=es.length:=by have:=E.pos;lia
 have p2:(es.length:Int)<=10:=by have:=E.few;lia
 refine⟨M',?_,k⟩;simp only[Fn.run,N6,N5];simp[Bt,p1,p2,e,a]
def aou{Z:List Gn}(hm:5<=m)(E:Ends es V)(hg:∀g∈Z,Gd es g)(hl:Z.length<=8):prog.call m 6 [.tup (es.map aD),.tup (Z.map Gn.toD)] M=.ok .non M:=by
 rw[call_of (az (by decide) hm) rfl];have lp:∃G:Option D,Fe.den (PW (m-1)) [some (.tup (es.map aD)),some (.tup (Z.map Gn.toD)),none] M=.ok (.next,[some (.tup (es.map aD)),some (.tup (Z.map Gn.toD)),G]) M:=by
  unfold Fe;obtain⟨qq,U,e,G,rfl,rfl⟩:=Kf (W:=PW (m-1)) (it:=.v 1) (t:=.name 2) (b:=Fb) (ρ:=[D.tup (es.map aD),D.tup (Z.map Gn.toD),none]) (M:=M) (M1:=M) rfl
   (λ_ R U=>∃G:Option D,R=[some (.tup (es.map aD)),some (.tup (Z.map Gn.toD)),G]/\U=M) ⟨none,rfl,rfl⟩ (λi x R U hx hI=>by
    obtain⟨G,rfl,rfl⟩:=hI;obtain⟨g,h1,rfl⟩:∃g,Z[i]?=some g/\g.toD=x:=by simpa using hx
    have:=ajd (m:=m-1) (M:=U) (d:=.tup (es.map aD)) (by lia) rfl E g (hg g (au h1));exact⟨_,.next,[some (.tup (es.map aD)),some (.tup (Z.map Gn.toD)),some g.toD],U,rfl,by simp[Fb,this],.inl rfl,_,rfl,rfl⟩)
  exact⟨G,e⟩
 obtain⟨G,e⟩:=lp;have p:¬(8:Int)<Z.length:=by lia
 simp only[Fn.run,Mi,Mh];simp[Bt,p,e]
structure Ui where
 es:List Ar
 gs:List Gn
 a:List Nat
 b:List Nat
def Ui.toD(s:Ui):D:=.tup [.tup (s.es.map aD),.tup (s.gs.map Gn.toD),.tup [dz s.a,dz s.b]]
structure Dg(s:Ui)(V:Nat->Nat):Prop where
 E:Ends s.es V
 gs:∀g∈s.gs,Gd s.es g
 few:s.gs.length<=8
 aim:Ly s.es s.a s.b
def ajf(hm:6<=m)(h:Dg s V):∃M',prog.call m 3 [s.toD] M=.ok .non M'/\ni M M':=by
 rw[call_of (az (by decide) hm) rfl];obtain⟨Z,U,G⟩:=aje (m:=m-1) (M:=M) (by lia) h.E;have e2:=aou (m:=m-1) (M:=Z) (by lia) h.E h.gs h.few;have e3:=ajc (m:=m-1) (M:=Z) (d:=.tup (s.es.map aD)) (by lia) rfl h.E h.aim;obtain⟨l,M2,R,g4,l4,k4⟩:=aaa (m:=m-1) (M:=Z) (by lia) h.E;have ll:=len_list (iw g4);have p:¬(60:Int)<l.length:=by lia
 refine⟨M2,?_,G.trans k4⟩;simp only[Fn.run,Ko,Km,Ui.toD];simp[U,e2,e3,R,ll,p]
noncomputable def iz(r:X9):D:=.tup (r.map D.int)
noncomputable def atI(r:X9)(x:Int):Int:=r.getD x.toNat 0
noncomputable def ajg(l:Y3)(a:Nat):Nat:=l.foldl (λm x=>if m<x then x else m) a
theorem Wg:∀(l:Y3)(a:Nat),(l.map λ(x:Nat)=>(x:Int)).foldl (λm x=>if m<x then x else m) (a:Int)=(ajg l a:Nat)
 |[],a=>rfl
 |x::l,a=>by
  have e:(if(a:Int)<(x:Int) then(x:Int) else(a:Int))=((if a<x then x else a:Nat):Int):=by split<;>split<;>lia
  show(l.map λ(x:Nat)=>(x:Int)).foldl (λm x=>if m<x then x else m) (if(a:Int)<(x:Int) then(x:Int) else(a:Int))=_;rw[e,Wg l];rfl
theorem aep:∀l:List Nat,V8 (l.map nD)=some (l.map λ(x:Nat)=>(x:Int))
 |[]=>rfl|x::l=>by simp[V8,nD,aep l]
def ajh(M:du)(Z:j8 M d=some ((a::l).map nD)):v7 .max [d] M=.ok (.int (ajg l a:Nat)) M:=by show Res.rn ((((j8 M d).bind V8).bind air).map D.int) M=_;rw[Z,Option.bind_some,aep,Option.bind_some,di,air,Wg];rfl
def Wh(e:Ar):rz (aD e) (.int 0) M=some (.int (e.1:Nat)):=Bh _ _
def Wi(e:Ar):rz (aD e) (.int 1) M=some (.int (e.2:Nat)):=Cu _ _ _
theorem aac{G:Type}(q:G->Bool):∀Z:List G,allB (Z.map λx=>D.bl (q x))=some (Z.all q)
 |[]=>rfl|x::Z=>by simp[allB,aac q Z]
def aji{G:Type}(q:G->Bool)(Z:List G):v7 .all [.vl (Z.map λx=>D.bl (q x))] M=.ok (.bl (Z.all q)) M:=by show Res.rn ((allB (Z.map λx=>D.bl (q x))).map D.bl) M=_;rw[aac];rfl
theorem X7:∀l:List Int,V8 (l.map D.int)=some l
 |[]=>rfl|x::l=>by simp[V8,X7 l]
def eq_nil(Z:List D):q9 M (.vl Z) (.vl [])=some Z.isEmpty:=by
 cases Z with
 |nil=>rfl|cons a l=>rfl
theorem aeq:∀(l:X9)(a:Int),l.foldl (λm x=>if x<m then x else m) a<0↔a<0\/∃x∈l,x<0
 |[],a=>by simp
 |x::l,a=>by
  rw[Af,aeq l];constructor
  .rintro(h|⟨y,Z,G⟩)
   .split at h
    .exact .inr ⟨x,bx,h⟩
    .exact .inl h
   .exact .inr ⟨y,bh _ Z,G⟩
  .rintro(h|⟨y,Z,G⟩)
   .left;split<;>lia
   .rcases dg.mp Z with rfl|Z
    .left;split<;>lia
    .exact .inr ⟨y,Z,G⟩
def ajj(Z:(zs:X9)≠[]):∃v:Int,v7 .min [iz zs] M=.ok (.int v) M/\(v<0↔∃z∈zs,z<0):=by
 cases zs with
 |nil=>exact absurd rfl Z
 |cons a l =>
  refine⟨l.foldl (λm x=>if x<m then x else m) a,?_,?_⟩
  .show Res.rn (((V8 ((a::l).map D.int)).bind at5).map D.int) M=_
   rw[X7];rfl
  .rw[aeq];simp
noncomputable def isS:Gn->Bool
 |.same _ _=>true|.apart _=>false
noncomputable def pr:Gn->List Nat×List Nat
 |.same a b=>(a,b)|.apart _=>([],[])
def pD(p:List Nat×List Nat):D:=.tup [dz p.1,dz p.2]
def acp:PySem.Str.ofString "apart"≠PySem.Str.ofString "same" := by decide
def ajk(xs:List D)(y:D):Ec (xs++[y]) none (some (-1))=xs:=by
 have h:(-1+((xs.length:Int)+1)).toNat=xs.length:=by lia
 simp only[Ec,clip,jd,d9,uw];rw[cj (by decide)];simp[h]
theorem aer:∀(l:Y3)(a:Nat),a<n->(∀x∈l,x<n)->ajg l a<n
 |[],a,h,_=>h
 |x::l,a,h,hl=>by
  show ajg l (if a<x then x else a)<n
  exact aer l _ (by have:=hl x bx;split<;>lia) (λy Z=>hl y (bh _ Z))
def asn(w:Y3):dz w=iz (w.map λ(x:Nat)=>(x:Int)):=by simp[dz,iz,nD,g8,jl]
theorem Vo.get:∀{w:Y3}{i:Nat},Vo es w->w[i]?=some a->w[i+1]?=some b->(at_ es a).2=(at_ es b).1
 |[],_,_,h,_=>by simp at h|[_],i,_,_,h=>by simp at h|x::y::r,0,c,h1,h2=>by simp at h1 h2;subst h1 h2;exact c.1|x::y::r,i+1,c,h1,h2=>Vo.get (w:=y::r) (i:=i) c.2 (by simpa using h1) (by simpa using h2)
def Oj(hm:1<=m)(U:j8 M d=some (es.map aD))(W:Way es w)(wl:w.length<=60):prog.call m 28 [d,dz w] M=.ok (aD (Ej es w,Aq es w)) M:=by
 rw[call_of hm rfl];have Pb:1<=w.length:=km.mpr W.ne
 have l1:v7 .len [dz w] M=.ok (.int w.length) M:=by simp[dz,Bt]
 obtain⟨v,mn,hv⟩:=ajj (M:=M) (zs:=w.map λ(x:Nat)=>(x:Int)) (by simpa using W.ne);rw[<- asn] at mn;have v0:¬v<0:=λh=>by
  obtain⟨z,h1,h2⟩:=hv.mp h;obtain⟨x,_,rfl⟩:=dq.mp h1
  lia
 obtain⟨t,qq,ht⟩:∃t:Nat,v7 .max [dz w] M=.ok (.int t) M/\t<es.length:=by
  cases w with
  |nil=>exact absurd rfl W.ne|cons a l=>exact⟨ajg l a,ajh M rfl,aer l a (W.lt a (by simp)) λx hx=>W.lt x (bh _ hx)⟩
 have le:=Hn U;rw[dh] at le;have t1:¬(es.length:Int)<=t:=by lia
 have n0:¬(w.length:Int)=0:=by lia
 have lp:∃G:Option D,Be.den (PW (m-1)) [some d,some (dz w),none] M=.ok (.next,[some d,some (dz w),G]) M:=by
  unfold Be;obtain⟨qk,Z,e,G,rfl,rfl⟩:=Hf (W:=PW (m-1)) (n:=w.length-1) (M1:=M) (t:=.name 2) (b:=Bd) (ρ:=[some d,dz w,none]) (M:=M) (it:=.bin .sub (.l (.v 1)) (.i 1)) (by
   have:(w.length:Int)-1=((w.length-1:Nat):Int):=by lia
   simp[l1,this]) (by lia) (λ_ ρ Z=>∃G:Option D,ρ=[some d,some (dz w),G]/\Z=M) ⟨none,rfl,rfl⟩ (λi ρ Z hi hI=>by
   obtain⟨G,rfl,rfl⟩:=hI;obtain⟨a,R⟩:∃a,w[i]?=some a:=⟨_,bj (by lia)⟩;obtain⟨b,hb⟩:∃b,w[i+1]?=some b:=⟨_,bj (by lia)⟩;have x1:=Xz (M:=Z) R;have ei:((i:Int)+1)=((i+1:Nat):Int):=by lia
   have x2:rz (dz w) (.int ((i:Int)+1)) Z=some (.int (b:Nat)):=by rw[ei];exact Xz hb
   have y1:=Eg U (W.lt a (au R));have y2:=Eg U (W.lt b (au hb));have c:=W.ch.get R hb;refine⟨_,.next,[some d,some (dz w),sI i],Z,rfl,?_,.inl rfl,_,rfl,rfl⟩;simp only[Bd];simp[x1,x2,y1,y2,Wh,Wi,c])
  exact⟨G,e⟩
 obtain⟨G,e⟩:=lp;simp only[Fn.run,Gv,Gu];simp[l1,mn,v0,qq,le,t1,n0,e,Ue W,Kz W,Eg U W.Rw,Eg U W.Ru,Wh,Wi,W.ne];simp[aD,Ej,Aq]
def aur(r:X9)(n:Nat):Ef (iz r) none (some (n:Int)) M=some (iz (r.take n)):=by
 have:Ec (r.map D.int) none (some (n:Int))=(r.take n).map D.int:=by
  simp only[Ec,clip,dh,yx,Nat.sub_zero];rw[bz (by lia),jm,<- yq]
  congr 1
  rcases Al n r.length with h|h
  .rw[wg h]
  .rw[yg h,uc,mq h]
 show some (D.tup (Ec (r.map D.int) none (some (n:Int))))=_;rw[this];rfl
def aad(r:X9)(n:Nat):Ef (iz r) (some (n:Int)) none M=some (iz (r.drop n)):=by
 have:Ec (r.map D.int) (some (n:Int)) none=(r.drop n).map D.int:=by
  simp only[Ec,clip,dh];rw[bz (by lia),jm,<- List.map_drop,<- yq]
  congr 1
  rw[mq (by simp)];rcases Al n r.length with h|h
  .rw[wg h]
  .rw[yg h,List.drop_length,yj h]
 show some (D.tup (Ec (r.map D.int) (some (n:Int)) none))=_;rw[this];rfl
def Rx(a b:X9)(h:a.length+b.length<=100000):Bs .add (iz a) (iz b) M=.ok (iz (a++b)) M:=by rw[iz,iz,Lr _ _ (by simpa using h)];simp[iz]
def add_one(a:X9)(x:Int)(h:a.length<=1000):Bs .add (iz a) (.tup [.int x]) M=.ok (iz (a++[x])) M :=
 Rx a [x] (by simp;lia)
inductive Wy where
 |given (i:Int)|off (i:Int)|put (h t:X9) (q:h.length<=1000/\t.length<=1000)
def Wy.toD:Wy->D
 |.given i=>.tup [.str (PySem.Str.ofString "given"),.int i]|.off i=>.tup [.str (PySem.Str.ofString "off"),.int i]|.put h t _=>.tup [.str (PySem.Str.ofString "put"),iz h,iz t]
structure Sp where
 a:List Nat
 b:List Nat
 y:Wy
def Sp.toD(s:Sp):D:=.tup [dz s.a,dz s.b,s.y.toD]
def Sp.of(s:Sp)(h t:Y3):Prop:=s.a=h/\s.b=t\/s.b=h/\s.a=t
inductive Ol(ss:List Sp)(a:Y3):List Nat->Prop
 |refl:Ol ss a a
 |step:Ol ss a b->s∈ss->s.of b c->Ol ss a c
theorem ajl{G:Type}[DecidableEq G]:∀{f S:List G},f.Nodup->(∀p∈f,p∈S)->f.length<=S.length
 |[],S,_,_=>iy _
 |a::f,S,nd,h=>by
  have Z:=o9.mp nd;have U:=h a bx;have:=ajl (f:=f) (S:=S.erase a) Z.2 (λp R=>(yz (λ(e:p=a)=>Z.1 (e▸R))).mpr (h p (bh _ R)));rw[List.length_erase_of_mem U] at this;have:=u9 U;simp only[d9];lia
structure Rch(ss:List Sp)(a:Y3)(ws r:List (List Nat)):Prop where
 hd:a∈r
 nd:r.Nodup
 sub:∀x∈r,x∈a::ws
 tog:∀x∈r,Ol ss a x
noncomputable def gr(x h t:Y3)(r:List (List Nat)):List (List Nat):=if h=x/\t∉r then r++[t] else r
def ajm(x h t:Y3)(r:List (List Nat)):∃l,gr x h t r=r++l:=by
 unfold gr;split
 .exact⟨_,rfl⟩
 .exact⟨[],by simp⟩
def ajn(r:List (List Nat)):x∈r->(h=x->t∈gr x h t r):=λ_ e=>by
 unfold gr
 by_cases q:t∈r
 .simp[q]
 .simp[q,e]
theorem Rch.gr(R:Rch ss a G r)(hx:x∈r)(hs:s∈ss)(ho:s.of h t)(hw:t∈G):Rch ss a G (gr x h t r):=by
 unfold K72.gr;split
 .next q =>
  obtain⟨rfl,q⟩:=q;refine⟨jf _ R.hd,nu.mpr ⟨R.nd,by simp,λu Z v U=>?_⟩,λu Z=>?_,λu Z=>?_⟩
  .simp at U;subst U;exact λe=>q (e▸Z)
  .rcases cz.mp Z with h|h
   .exact R.sub u h
   .simp at h;subst h;exact bh _ hw
  .rcases cz.mp Z with h|h
   .exact R.tog u h
   .simp at h;subst h;exact .step (R.tog _ hx) hs ho
 .exact R
def Rch.len(R:Rch ss a Z r)(hw:Z.length<=60):r.length<=61:=by have:=ajl R.nd R.sub;simp at this;lia
def ajo(h:M[p]?=some (.lst xs)):Pk M a (.ref p)=memD M a xs:=by simp[Pk,h,j8,fj]
def Mf.get(k:Mf r M Z)(G:a≠r)(h:M[a]?=some o):Z[a]?=some o:=k a o G h
abbrev ET(d:D)(a b:Y3)(p i:Nat)(b5 b6 b7:Option D):Env:=[some d,some (dz a),some (dz b),sR p,sI i,b5,b6,b7]
def tg2{r:List (List Nat)}(Z:M[p]?=some (.lst (r.map dz)))(hx:r[i]?=some x)(hl:r.length<=61) :
 ∃M',Ao.den (PW m) (ET d a b p i b5 (some (dz h)) (some (dz t))) M=.ok (.next,ET d a b p i b5 (some (dz h)) (some (dz t))) M'/\M'[p]?=some (.lst ((gr x h t r).map dz))/\Mf p M M':=by
 have R:rz (.ref p) (.int i) M=some (dz x):=yf (iw Z) (jc _) (by simp[hx]);have x1:=ajo (a:=dz t) Z;rw[aej] at x1
 by_cases G:h=x
 .by_cases U:t∈r
  .exact⟨M,by simp[Ao,R,Ie,G,x1,U],by simp[gr,U,Z],Mf.refl _ _⟩
  .refine⟨M.set p (.lst ((r++[t]).map dz)),?_,by simp only[gr,G,U,true_and,not_false_eq_true,jk];exact qp Z,Mf.set _ _ _⟩
   simp[Ao,R,Ie,G,x1,U,Ke Z,Hb Z (d:=dz t) (by simp;lia)]
 .exact⟨M,by simp[Ao,R,Ie,G],by simp[gr,G,Z],Mf.refl _ _⟩
def X8(Z:List Sp)(x:Y3)(r:List (List Nat)):Prop:=∀s∈Z,∀t,s.of x t->t∈r
def tg1{r:List (List Nat)}(hd:fj M d=some (ss.map Sp.toD))(hq:Pq p d=true)(hs:∀s∈ss,s.a∈ws/\s.b∈ws)(hw:ws.length<=60)(hp:M[p]?=some (.lst (r.map dz)))(hx:r[i]?=some x)(R:Rch ss a ws r) :
 ∃G Pg Z l M',Dq.den (PW m) (ET d a b p i b5 b6 b7) M=.ok (.next,ET d a b p i G Pg Z) M'/\M'[p]?=some (.lst ((r++l).map dz))/\Mf p M M'/\Rch ss a ws (r++l)/\X8 ss x (r++l):=by
 unfold Dq;obtain⟨qq,M',e,G,Pg,Z,l,rfl,g1,g2,g3,g4⟩:=zy (W:=PW m) (it:=.v 0) (t:=.name 5) (b:=Dp) (ρ:=ET d a b p i b5 b6 b7) (M:=M) (M1:=M) rfl hd
  (λj ρ M1=>∃(G Pg Z:Option D)(l:List (List Nat)),ρ=ET d a b p i G Pg Z/\M1[p]?=some (.lst ((r++l).map dz))/\Mf p M M1/\Rch ss a ws (r++l)/\∀s∈ss.take j,∀t,s.of x t->t∈r++l)
  ⟨b5,b6,b7,[],rfl,by simpa using hp,Mf.refl _ _,by simpa using R,by simp⟩ (λj ρ M1 h=>by obtain⟨_,_,_,_,_,_,k,_⟩:=h;exact k.fj hq hd)
  (λj z ρ M1 hz hI=>by
   obtain⟨G,Pg,Z,l,rfl,g1,g2,g3,g4⟩:=hI;obtain⟨s,hj,rfl⟩:∃s,ss[j]?=some s/\s.toD=z:=by simpa using hz
   have U:=au hj;have xr:∀l',(r++l')[i]?=some x:=λl'=>by rw[gb (ak.mp hx).1];exact hx
   have xm:∀l',x∈r++l':=λl'=>au (xr l')
   obtain⟨M2,e2,h2,k2⟩:=tg2 (m:=m) (d:=d) (a:=a) (b:=b) (b5:=some s.toD) (h:=s.a) (t:=s.b) g1 (xr l) (g3.len hw);obtain⟨l1,p1⟩:=ajm x s.a s.b (r++l);have R2:=g3.gr (xm l) U (.inl ⟨rfl,rfl⟩) (hs s U).2;have c1:s.a=x->s.b∈gr x s.a s.b (r++l):=ajn _ (xm l);rw[p1,nq] at h2 R2 c1;obtain⟨M3,e3,h3,k3⟩:=tg2 (m:=m) (d:=d) (a:=a) (b:=b) (b5:=some s.toD) (h:=s.b) (t:=s.a) h2 (xr _) (R2.len hw);obtain⟨l2,p2⟩:=ajm x s.b s.a (r++(l++l1));have R3:=R2.gr (xm _) U (.inr ⟨rfl,rfl⟩) (hs s U).1;have c2:s.b=x->s.a∈gr x s.b s.a (r++(l++l1)):=ajn _ (xm _);rw[p2,nq] at h3 R3 c2;refine⟨_,.next,ET d a b p i (some s.toD) (some (dz s.b)) (some (dz s.a)),M3,rfl,?_,.inl rfl,_,_,_,l++l1++l2,rfl,h3,(g2.trans k2).trans k3,R3,?_⟩
   .simp only[Dp,Hj]
    have it:(Ex.Ax (.p (.tup (.p (.ix (.v 5) (.i 0)) (.ix (.v 5) (.i 1)))) (.tup (.p (.ix (.v 5) (.i 1)) (.ix (.v 5) (.i 0)))))).den (PW m) (ET d a b p i (some s.toD) Pg Z) M1=.ok (.vl [.tup [dz s.a,dz s.b],.tup [dz s.b,dz s.a]]) M1:=by simp[Sp.toD]
    show(my.o _).den (PW m) (ET d a b p i (some s.toD) Pg Z) M1=_;rw[qx,Hd,Em,it];have t1:(Tg.names [6,7]).put (.tup [dz s.a,dz s.b]) (ET d a b p i (some s.toD) Pg Z)=some (ET d a b p i (some s.toD) (some (dz s.a)) (some (dz s.b))):=rfl;have t2:(Tg.names [6,7]).put (.tup [dz s.b,dz s.a]) (ET d a b p i (some s.toD) (some (dz s.a)) (some (dz s.b)))=some (ET d a b p i (some s.toD) (some (dz s.b)) (some (dz s.a))):=rfl;simp only[Res.t6,srcOf,Res.qm,Src.len,d9,uw,Bq,Src.item,xq,xn,t1,e2,t2,e3,Src.fin,jk,p6,Xq]
   .rw[vg,hj]
    intro u hu t ho;simp only[nq] at *;rcases cz.mp hu with q|q
    .have:=g4 u q t ho
     rcases cz.mp this with q|q
     .exact jf _ q
     .exact gf _ (jf _ q)
    .simp at q;subst q
     rcases ho with⟨h1,rfl⟩|⟨h1,rfl⟩
     .have:=c1 h1
      rcases cz.mp this with q|q
      .exact jf _ q
      .exact gf _ (by rw[<- nq];exact jf _ q)
     .exact c2 h1)
 refine⟨G,Pg,Z,l,M',e,g1,g2,g3,λs hs t ho=>g4 s ?_ t ho⟩;simpa using hs
def Uj{ws:List (List Nat)}(hm:1<=m)(hd:fj M d=some (ss.map Sp.toD))(hs:∀s∈ss,s.a∈ws/\s.b∈ws)(hw:ws.length<=60) :
 ∃(q:Bool)(M':du),prog.call m 29 [d,dz a,dz b] M=.ok (.bl q) M'/\(q=true↔Ol ss a b)/\ni M M':=by
 rw[call_of hm rfl];have hq:Pq M.length d=true:=by
  cases d with
  |ref n =>
   have:n<M.length:=by
    cases e:M[n]? with
    |none=>simp[MW.fj,e] at hd|some o=>exact yw e
   simpa[Pq] using ie this
  |_=>rfl
 obtain⟨qq,M',e,r,Z,R,U,rfl,g1,g2,g3,g4⟩:=Fy (c:=(Ex.cmp .lt (.v 4) (.l (.v 3))).den (PW (m-1))) (body:=Dr.den (PW (m-1)))
  (λn ρ G=>∃(r:List (List Nat))(i:Nat)(Z R U:Option D),ρ=ET d a b M.length i Z R U/\G[M.length]?=some (.lst (r.map dz))/\ni M G/\Rch ss a ws r/\i<=r.length/\(∀j x,j<i->r[j]?=some x->X8 ss x r)/\n=61-i)
  (fun ρ G=>∃(r:List (List Nat))(Z R U:Option D),ρ=ET d a b M.length r.length Z R U/\G[M.length]?=some (.lst (r.map dz))/\ni M G/\Rch ss a ws r/\∀x∈r,X8 ss x r)
  (λn ρ G hI=>by
   obtain⟨r,i,Z,R,U,rfl,g1,g2,g3,g4,g5,rfl⟩:=hI;have hl:=len_list (iw g1);rcases jo i r.length with hi|hi
   .right
    obtain⟨x,hx⟩:∃x,r[i]?=some x:=⟨_,bj hi⟩;obtain⟨c5,c6,c7,l,M2,e2,h2,k2,R2,C2⟩:=tg1 (m:=m-1) (b:=b) (b5:=Z) (b6:=R) (b7:=U) (g2.fj hd) hq hs hw g1 hx g3;have:=g3.len hw;refine⟨G,.next,ET d a b M.length (i+1:Nat) c5 c6 c7,M2,61-(i+1),by simp[hl,hi],?_,.inl rfl,by lia,r++l,i+1,c5,c6,c7,rfl,h2,λu o h=>k2 u o (by have:=yw h;lia) (g2 u o h),R2,by simp;lia,λj y hj hy=>?_,rfl⟩
    .simp only[Dr]
     simp[e2]
    .rw[gb (by lia)] at hy
     rcases jo j i with q|q
     .intro s h t ho;exact jf _ (g5 j y q hy s h t ho)
     .have:j=i:=by lia
      subst this;rw[hx] at hy;cases hy;exact C2
   .left
    have:i=r.length:=by lia
    subst this;refine⟨G,by simp[hl],r,Z,R,U,rfl,g1,g2,g3,λx hx=>?_⟩;obtain⟨j,hj⟩:=jw.mp hx;exact g5 j x (ak.mp hj).1 hj)
  Vq 61 (ET d a b M.length (0:Nat) none none none) (M++[.lst ([a].map dz)]) (by decide)
  ⟨[a],0,none,none,none,rfl,Bj,ni.app _ _,⟨by simp,by simp,by simp,by simp;exact .refl⟩,iy _,λj x hj=>absurd hj (qi _),rfl⟩
 have x1:=ajo (a:=dz b) g1;rw[aej] at x1;refine⟨decide (b∈r),M',?_,?_,g2⟩
 .simp only[Fn.run,J2,J1,Hk]
  have e':Cr _ _ Vq [some d,some (dz a),some (dz b),sR M.length,sI 0,none,none,none] (M++[.lst [dz a]])=_:=e;simp[MW.new,Py];simp[e',x1]
 .rw[dm]
  refine⟨g3.tog b,λh=>?_⟩;clear x1 e hs
  induction h with
  |refl=>exact g3.hd|step _ h1 h2 ih=>exact g4 _ ih _ h1 _ h2
def Uk{α:Type}{f g:α->D}{xs:List α}(qk:it.den W ρ M=.ok d M1)(hd:j8 M1 d=some (xs.map f))(hn:xs.length<=100000)(I:du->Prop)(P:α->Prop)(h0:I M1)(stay:∀M,I M->j8 M d=some (xs.map f))
 (step:∀x∈xs,∀M,I M->∃U b G,t.put (f x) (ρ++List.replicate k none)=some U/\c.den W U M=.ok (.bl b) G/\I G/\(b=true->P x/\e.den W U G=.ok (g x) G)) :
 ∃(Z:List α)(R:du),(Ex.yu true k t (.val it) c e).den W ρ M=.ok (.vl (Z.map g)) R/\I R/\(∀y∈Z,y∈xs/\P y)/\Z.length<=xs.length:=by
 rw[Hc,Em,qk];obtain⟨s,hs,hl,hi,hf⟩:=acn hd;simp only[Res.t6,hs,Res.qm];obtain⟨zs,R,g1,Z,g2,g3,g4,g5⟩:=Im (fin:=s.fin) (item:=s.item) (body:=λd M=>(Res.rn (t.put d (ρ++List.replicate k none)) M).bind λqq M=>(c.den W qq M).bind λb R =>
  match b with
   |.bl true=>(e.den W qq R).bind λx qv=>.ok (some x) qv
   |.bl false=>.ok none R|_=>.bad) (λi zs M=>∃Z:List α,zs=Z.map g/\I M/\(∀y∈Z,y∈xs/\P y)/\Z.length<=i) (n:=xs.length) (λi zs M Iu hI=>by
  obtain⟨Z,rfl,h1,h2,h3⟩:=hI;obtain⟨U,b,G,a1,a2,a3,a4⟩:=step xs[i] (by simp) M h1;refine⟨f xs[i],if b then some (g xs[i]) else none,G,by rw[hi M i (stay M h1)];simp[Iu],?_,?_⟩
  .cases b with
   |true=>simp only[a1,Res.qm,Res.t6,a2,(a4 rfl).2,jk]|false=>simp only[a1,Res.qm,Res.t6,a2];rfl
  .cases b with
   |true=>exact⟨Z++[xs[i]],by simp,a3,λy hy=>by rcases cz.mp hy with q|q;exact h2 y q;simp at q;exact q▸⟨by simp,(a4 rfl).1⟩,by simp;lia⟩
   | false=>exact⟨Z,by simp,a3,h2,by lia⟩)
  (λzs M h=>by obtain⟨_,_,h,_⟩:=h;exact hf M (stay M h)) xs.length 0 [] M1 (vz _) ⟨[],rfl,h0,by simp,bc _⟩
 refine⟨Z,R,?_,g3,g4,g5⟩;rw[yr] at g2;subst g2;rw[Ba,hl,dh,bz hn];exact mz (λr=>r.bind λds G=>if true=true then Res.ok (.vl ds) G else new (.lst ds) G) g1
theorem Way.cons(W:Way es w)(G:k<es.length)(e:(at_ es k).2=Ej es w):Way es (k::w):=by
 refine⟨by simp,λi Z=>?_,?_⟩
 .rcases dg.mp Z with rfl|h
  .exact G
  .exact W.lt i h
 .cases w with
  |nil=>exact absurd rfl W.ne|cons b r=>exact⟨e,W.ch⟩
def aus(h:w≠[]):hw (w++x)=hw w:=by
 cases w with
 |nil=>exact absurd rfl h|cons a l=>rfl
def Yb(h:w≠[]):Ej es (w++x)=Ej es w:=by rw[Ej,aus h,Ej]
def aes(w:Y3)(k:Nat):Aq es (w++[k])=(at_ es k).2:=by simp[Aq,lw]
def aae(h:w≠[]):Aq es (k::w)=Aq es w:=by
 cases w with
 |nil=>exact absurd rfl h|cons a l=>simp[Aq,lw]
theorem Ly.app(B:Ly es a b)(Z:k<es.length)(e:(at_ es k).1=Aq es a):Ly es (a++[k]) (b++[k]) :=
 ⟨B.one.app Z e,B.two.app Z (e.trans B.go),by rw[Yb B.one.ne,Yb B.two.ne,B.st],by rw[aes,aes]⟩
theorem Ly.cons(B:Ly es a b)(Z:k<es.length)(e:(at_ es k).2=Ej es a):Ly es (k::a) (k::b) :=
 ⟨B.one.cons Z e,B.two.cons Z (e.trans B.st),rfl,by rw[aae B.one.ne,aae B.two.ne,B.go]⟩
def Ol.bes(h:Ol ss a b)(G:∀s∈ss,Ly es s.a s.b)(W:Way es a):Ly es a b:=by
 induction h with
 |refl=>exact⟨W,W,rfl,rfl⟩
 |step _ R U Z =>
  have B:=G _ R;rcases U with⟨rfl,rfl⟩|⟨rfl,rfl⟩
  .exact⟨W,B.two,Z.st.trans B.st,Z.go.trans B.go⟩
  .exact⟨W,B.one,Z.st.trans B.st.symm,Z.go.trans B.go.symm⟩
def aut(w:Y3)(k:Nat):lw (w++[k])=k:=by simp[lw]
def Way.off(W:Way es w)(U:1<w.length):Way es w.dropLast/\Aq es w.dropLast=(at_ es (lw w)).1/\Ej es w.dropLast=Ej es w:=by
 obtain⟨u,k,rfl⟩:∃u k,w=u++[k]:=⟨w.dropLast,w.getLast W.ne,(yh W.ne).symm⟩;have Z:u≠[]:=by rintro rfl;simp at U
 rw[List.dropLast_concat,aut,Yb Z];exact⟨⟨Z,λi G=>W.lt i (jf _ G),W.ch.init⟩,(Vo.last Z W.ch).symm,rfl⟩
def aet(h:w≠[]):Ef (dz w) none (some (-1)) M=some (dz w.dropLast):=by obtain⟨u,k,rfl⟩:∃u k,w=u++[k]:=⟨w.dropLast,w.getLast h,(yh h).symm⟩;have:=ajk (u.map nD) (nD k);show some (D.tup (Ec ((u++[k]).map nD) none (some (-1))))=_;rw[gh,di,Ak,this,List.dropLast_concat];rfl
def Wj(w:Y3)(k:Nat)(Z:w.length<1000):Bs .add (.tup [.int k]) (dz w) M=.ok (dz (k::w)) M:=by rw[dz,Lr _ _ (by simp;lia)];simp[dz,nD]
abbrev EN(s:Ui)(d:D)(p:Nat)(b6 b7 b8 b9 b10 b11 b12 b13:Option D):Env :=
 [some s.toD,some d,some (.tup (s.es.map aD)),some (.tup (s.gs.map Gn.toD)),some (.tup [dz s.a,dz s.b]),sR p,b6,b7,b8,b9,b10,b11,b12,b13]
structure Fd(s:Ui)(p:Nat)(M:du)(n:Nat)(M1:du)(L:List Sp):Prop where
 g:M1[p]?=some (.lst (L.map Sp.toD))
 b:∀x∈L,Ly s.es x.a x.b
 l:L.length<=n
 k:ni M M1
def Fd.ext(F:Fd s p M n R L)(Z:M.length<=p)(U:∀x∈X,Ly s.es x.a x.b)(hl:X.length<=c):Fd s p M (n+c) (R.set p (.lst ((L++X).map Sp.toD))) (L++X) :=
 ⟨qp F.g,λx G=>by rcases cz.mp G with q|q;exact F.b x q;exact U x q,by have:=F.l;simp;lia,ni.set F.k Z⟩
def acr(F:Fd s p M n Z L)(G:n<=40000)(U:(X:List Sp).length<=3600):Hs .extend (.ref p) [.vl (X.map Sp.toD)] Z=.ok .non (Z.set p (.lst ((L++X).map Sp.toD))):=by rw[X6 F.g (by have:=F.l;simp;lia),gh]
def nx6(h:Dg s V):∃L,Ib.den W ([some s.toD,some d,some (.tup (s.es.map aD)),some (.tup (s.gs.map Gn.toD)),some (.tup [dz s.a,dz s.b]),none,none,none,none,none,none,none,none,none]) M=.ok (.ref M.length) (M++[.lst (L.map Sp.toD)])/\Fd s M.length M 8 (M++[.lst (L.map Sp.toD)]) L:=by
 have R:∀i x,s.gs[i]?=some x->s.gs.getD i (.apart 0)=x:=λi x h=>by simp[List.getD,h]
 refine⟨((List.range s.gs.length).filter λi=>isS (s.gs.getD i (.apart 0))).map λi=>⟨(pr (s.gs.getD i (.apart 0))).1,(pr (s.gs.getD i (.apart 0))).2,.given i⟩,?_,Bj,?_,?_,ni.app _ _⟩
 .unfold Ib
  rw[Kg (M1:=M) (ds:=s.gs.map Gn.toD) (q:=λi=>isS (s.gs.getD i (.apart 0))) (g:=λi=>Sp.toD ⟨(pr (s.gs.getD i (.apart 0))).1,(pr (s.gs.getD i (.apart 0))).2,.given i⟩) rfl (by have:=h.few;simp;lia) (λi x G=>by
   obtain⟨g,Z,rfl⟩:∃g,s.gs[i]?=some g/\g.toD=x:=by simpa using G
   rw[R i g Z];cases g with
   |same a b=>exact⟨_,rfl,by simp[Gn.toD,isS],λ_=>by simp[Gn.toD,pr,Sp.toD,Wy.toD]⟩
   | apart k=>exact⟨_,rfl,by simp[Gn.toD,isS,acp],λh=>by cases h⟩)]
  simp[MW.new,g8,jl]
 .intro x G
  obtain⟨i,hi,rfl⟩:=dq.mp G;obtain⟨U,h2⟩:=sy.mp hi;have U:=lq.mp U;obtain⟨g,Z⟩:∃g,s.gs[i]?=some g:=⟨_,bj U⟩;simp only[R i g Z] at h2 ⊢;have:=h.gs g (au Z);cases g with
  |same a b=>exact this|apart k=>cases h2
 .rw[dh]
  exact az (t8 _ _) (by rw[List.length_range];exact h.few)
def spA(x:Sp)(k:Nat):Sp:=⟨x.a++[k],x.b++[k],.put [] [(k:Int)] (by simp)⟩
def spB(x:Sp)(k:Nat):Sp:=⟨k::x.a,k::x.b,.put [(k:Int)] [] (by simp)⟩
noncomputable def spO(w:Y3)(k:Nat)(u:Y3):Sp:=⟨w.dropLast,u.dropLast,.off k⟩
def nx2{ss:List Sp}(hm:1<=m)(E:Ends s.es V)(hd:fj M d=some (ss.map Sp.toD))(hs:∀x∈ss,Ly s.es x.a x.b)(hn:ss.length<=60)(hp:M.length<=p)(F:Fd s p M 8 R L) :
 ∃L' b6 b7 b8 U Z M',Ia.den (PW m) (EN s d p none none none none none none none none) R=.ok (.next,EN s d p b6 b7 b8 U Z none none none) M'/\Fd s p M 1208 M' L':=by
 unfold Ia;have ef:=E.few;obtain⟨qk,M',e,L',b6,b7,b8,U,Z,rfl,G⟩:=zy (W:=PW m) (it:=.v 1) (t:=.names [6,7,8]) (b:=Er) (ρ:=EN s d p none none none none none none none none) (M:=R) (M1:=R) rfl (F.k.fj hd)
  (λj ρ M2=>∃(L':List Sp)(b6 b7 b8 U Z:Option D),ρ=EN s d p b6 b7 b8 U Z none none none/\Fd s p M (8+20*j) M2 L')
  ⟨L,none,none,none,none,none,rfl,F⟩ (λj ρ M2 h=>by obtain⟨_,_,_,_,_,_,_,G⟩:=h;exact ni.fj G.k hd)
  (λj z ρ M2 hz hI=>by
   obtain⟨L',b6,b7,b8,U,Z,rfl,G⟩:=hI;obtain⟨x,hj,rfl⟩:∃x,ss[j]?=some x/\x.toD=z:=by simpa using hz
   have qq:=(ak.mp hj).1;have B:=hs x (au hj);have la:=Ai E B.one;have lb:=Ai E B.two;have e1:=Oj (m:=m) (M:=M2) (d:=.tup (s.es.map aD)) (by lia) rfl B.one la;have c5:∀M3,Hz.den (PW m) (EN s d p (some (dz x.a)) (some (dz x.b)) (some x.y.toD) (sI (Ej s.es x.a)) (sI (Aq s.es x.a)) none none none) M3=.ok (.vl (((nxt s.es (Aq s.es x.a)).map (spA x)).map Sp.toD)) M3:=λM3=>by
    unfold Hz;rw[Ge (n:=s.es.length) (M1:=M3) (q:=λk=>decide ((at_ s.es k).1=Aq s.es x.a)) (g:=λk=>(spA x k).toD) (by simp[Bt]) (by lia) (λi hi=>⟨_,rfl,by
     simp[Eg (M:=M3) (d:=.tup (s.es.map aD)) rfl hi,Wh,Hl],λ_=>by simp[Og x.a i (by lia),Og x.b i (by lia),Sp.toD,spA,Wy.toD,iz]⟩)]
    simp[nxt,g8,jl]
   have c4:∀M3,Hy.den (PW m) (EN s d p (some (dz x.a)) (some (dz x.b)) (some x.y.toD) (sI (Ej s.es x.a)) (sI (Aq s.es x.a)) none none none) M3=.ok (.vl ((((List.range s.es.length).filter λk=>decide ((at_ s.es k).2=Ej s.es x.a)).map (spB x)).map Sp.toD)) M3:=λM3=>by
    unfold Hy;rw[Ge (n:=s.es.length) (M1:=M3) (q:=λk=>decide ((at_ s.es k).2=Ej s.es x.a)) (g:=λk=>(spB x k).toD) (by simp[Bt]) (by lia) (λi hi=>⟨_,rfl,by
     simp[Eg (M:=M3) (d:=.tup (s.es.map aD)) rfl hi,Wi,Hl],λ_=>by simp[Wj x.a i (by lia),Wj x.b i (by lia),Sp.toD,spB,Wy.toD,iz]⟩)]
    simp[g8,jl]
   have l5:((nxt s.es (Aq s.es x.a)).map (spA x)).length<=10:=by rw[dh];exact az (t8 _ _) (by simpa using ef)
   have l4:(((List.range s.es.length).filter λk=>decide ((at_ s.es k).2=Ej s.es x.a)).map (spB x)).length<=10:=by rw[dh];exact az (t8 _ _) (by simpa using ef)
   have b5:∀y∈(nxt s.es (Aq s.es x.a)).map (spA x),Ly s.es y.a y.b:=λy hy=>by obtain⟨k,hk,rfl⟩:=dq.mp hy;obtain⟨q1,q2⟩:=Jl.mp hk;exact B.app q1 q2
   have b4:∀y∈((List.range s.es.length).filter λk=>decide ((at_ s.es k).2=Ej s.es x.a)).map (spB x),Ly s.es y.a y.b:=λy hy=>by obtain⟨k,hk,rfl⟩:=dq.mp hy;obtain⟨q1,q2⟩:=sy.mp hk;exact B.cons (lq.mp q1) (jn q2)
   generalize(nxt s.es (Aq s.es x.a)).map (spA x)=X5 at c5 l5 b5;generalize((List.range s.es.length).filter λk=>decide ((at_ s.es k).2=Ej s.es x.a)).map (spB x)=X4 at c4 l4 b4;have x5:=acr G (by lia) (X:=X5) (by lia);have G5:=G.ext hp b5 l5;have x4:=acr G5 (by lia) (X:=X4) (by lia);have G4:=G5.ext hp b4 l4;refine⟨_,.next,EN s d p (some (dz x.a)) (some (dz x.b)) (some x.y.toD) (sI (Ej s.es x.a)) (sI (Aq s.es x.a)) none none none,_,rfl,?_,.inl rfl,_,_,_,_,_,_,rfl,G4⟩;have y0:(Tg.names [9,10]).put (aD (Ej s.es x.a,Aq s.es x.a)) (EN s d p (some (dz x.a)) (some (dz x.b)) (some x.y.toD) U Z none none none)=some (EN s d p (some (dz x.a)) (some (dz x.b)) (some x.y.toD) (sI (Ej s.es x.a)) (sI (Aq s.es x.a)) none none none):=rfl;show Er.den (PW m) (EN s d p (some (dz x.a)) (some (dz x.b)) (some x.y.toD) U Z none none none) M2=_;simp only[Er];simp[-List.map_append,e1,y0,Nh G.g,Nh G5.g,c5,c4,x5,x4])
 rw[dh] at G;exact⟨L',b6,b7,b8,U,Z,M',e,G.g,G.b,by have:=G.l;lia,G.k⟩
def nx1{ss:List Sp}{ls:List (List Nat)}(hm:1<=m)(E:Ends s.es V)(hd:fj M d=some (ss.map Sp.toD))(hs:∀x∈ss,Ly s.es x.a x.b)(L0:Wys s.es ws)(hp:M.length<=p)(hk:k<s.es.length)(ln:ls.length<=60)(hl:∀w∈ls,Way s.es w/\1<w.length/\lw w=k)(hc:n<=30000)(F:Fd s p M n M1 L) :
 ∃L' Pg U M',Hv.den (PW m) (EN s d p b6 b7 b8 b9 b10 (some (Gn.toD (.apart k))) (some (.vl (ls.map dz))) b13) M1=.ok (.next,EN s d p Pg b7 b8 b9 b10 (some (Gn.toD (.apart k))) (some (.vl (ls.map dz))) U) M'/\Fd s p M (n+3600) M' L':=by
 unfold Hv;have qq:∀x∈ss,x.a∈ws/\x.b∈ws:=λx hx=>⟨L0.all _ rfl (hs x hx).one,L0.all _ rfl (hs x hx).two⟩
 obtain⟨q0,M',e,L',Pg,U,rfl,G⟩:=zy (W:=PW m) (it:=.v 12) (t:=.name 6) (b:=Ep) (ρ:=EN s d p b6 b7 b8 b9 b10 (some (Gn.toD (.apart k))) (some (.vl (ls.map dz))) b13) (M:=M1) (M1:=M1) (d:=.vl (ls.map dz)) rfl rfl
  (λj ρ M2=>∃(L':List Sp)(Pg U:Option D),ρ=EN s d p Pg b7 b8 b9 b10 (some (Gn.toD (.apart k))) (some (.vl (ls.map dz))) U/\Fd s p M (n+60*j) M2 L')
  ⟨L,b6,b13,rfl,F⟩ (λ_ _ _ _=>rfl)
  (λj z ρ M2 hz hI=>by
   obtain⟨L',Pg,U,rfl,G⟩:=hI;obtain⟨w,hj,rfl⟩:∃w,ls[j]?=some w/\dz w=z:=by simpa using hz
   have qv:=(ak.mp hj).1;obtain⟨Ww,w1,w2⟩:=hl w (au hj);obtain⟨R,M3,e3,⟨Z,-⟩,h3,l3⟩:=Uk (W:=PW m) (ρ:=EN s d p (some (dz w)) b7 b8 b9 b10 (some (Gn.toD (.apart k))) (some (.vl (ls.map dz))) U) (M:=M2) (M1:=M2) (it:=.v 12) (t:=.name 14) (k:=1) (d:=.vl (ls.map dz)) (xs:=ls) (f:=dz) (g:=dz) (c:=.and (.cmp .ne (.v 14) (.v 6)) (.call 29 (.q (.v 1) (.v 6) (.v 14)))) (e:=.v 14) rfl rfl (by lia)
    (λM3=>Fd s p M (n+60*j) M3 L'/\True) (λu=>Ol ss w u) ⟨G,trivial⟩ (λ_ _=>rfl) (λu hu M3 hI=>by
     obtain⟨Z,-⟩:=hI
     by_cases e:u=w
     .exact⟨_,false,M3,rfl,by simp[Ie,e],⟨Z,trivial⟩,λh=>by cases h⟩
     .obtain⟨q,M4,e4,h4,k4⟩:=Uj (m:=m) (a:=w) (b:=u) hm (ni.fj Z.k hd) qq L0.few
      exact⟨_,q,M4,rfl,by simp[Ie,e,e4],⟨⟨k4 _ _ Z.g,Z.b,Z.l,ni.trans Z.k k4⟩,trivial⟩,λh=>⟨h4.mp h,by simp⟩⟩)
   have c1:Hu.den (PW m) (EN s d p (some (dz w)) b7 b8 b9 b10 (some (Gn.toD (.apart k))) (some (.vl (ls.map dz))) (some (.vl (R.map dz)))) M3=.ok (.vl ((R.map (spO w k)).map Sp.toD)) M3:=by
    unfold Hu;rw[K3 (d:=.vl (R.map dz)) (M1:=M3) (xs:=R) (f:=dz) (g:=λu=>(spO w k u).toD) rfl rfl (by lia) (λu hu=>⟨_,rfl,by
     have hu:=hl u (h3 u hu).1;simp[aet Ww.ne,aet hu.1.ne,Gn.toD,Sp.toD,spO,Wy.toD]⟩)]
    simp[g8,jl]
   have bb:∀y∈R.map (spO w k),Ly s.es y.a y.b:=λy hy=>by obtain⟨u,hu,rfl⟩:=dq.mp hy;obtain⟨h5,h6⟩:=h3 u hu;obtain⟨Wu,u1,u2⟩:=hl u h5;have B:=h6.bes hs Ww;obtain⟨a1,a2,a3⟩:=Ww.off w1;obtain⟨c1,c2,c3⟩:=Wu.off u1;exact⟨a1,c1,a3.trans (B.st.trans c3.symm),a2.trans ((by rw[w2,u2]:(at_ s.es (lw w)).1=(at_ s.es (lw u)).1).trans c2.symm)⟩
   have xx:=acr Z (by lia) (X:=R.map (spO w k)) (by simp;lia);have G4:=Z.ext hp bb (show _<=60 by simp;lia);refine⟨_,.next,EN s d p (some (dz w)) b7 b8 b9 b10 (some (Gn.toD (.apart k))) (some (.vl (ls.map dz))) (some (.vl (R.map dz))),_,rfl,?_,.inl rfl,_,_,_,rfl,G4⟩;show Ep.den (PW m) (EN s d p (some (dz w)) b7 b8 b9 b10 (some (Gn.toD (.apart k))) (some (.vl (ls.map dz))) U) M2=_;simp only[Ep];have qk:Mq.den (PW m) (EN s d p (some (dz w)) b7 b8 b9 b10 (some (Gn.toD (.apart k))) (some (.vl (ls.map dz))) U) M2=_:=e3;simp[-List.map_map,qk,Nh Z.g,c1,xx])
 rw[dh] at G;exact⟨L',Pg,U,M',e,G.g,G.b,by have:=G.l;lia,G.k⟩
def nx0{ss:List Sp}(hm:1<=m)(h:Dg s V)(hd:fj M d=some (ss.map Sp.toD))(hs:∀x∈ss,Ly s.es x.a x.b)(hp:M.length<=p)(F:Fd s p M 1208 M1 L) :
 ∃L' R Z Vr U M',Hx.den (PW m) (EN s d p b6 b7 b8 b9 b10 none none none) M1=.ok (.next,EN s d p R b7 b8 b9 b10 Z Vr U) M'/\Fd s p M 30008 M' L':=by
 unfold Hx;have hf:=h.few;obtain⟨qv,M',e,L',R,Z,Vr,U,rfl,G⟩:=Kf (W:=PW m) (it:=.v 3) (t:=.name 11) (b:=Bo) (ρ:=EN s d p b6 b7 b8 b9 b10 none none none) (M:=M1) (M1:=M1) (ds:=s.gs.map Gn.toD) rfl
  (λj ρ M2=>∃(L':List Sp)(R Z Vr U:Option D),ρ=EN s d p R b7 b8 b9 b10 Z Vr U/\Fd s p M (1208+3600*j) M2 L')
  ⟨L,b6,none,none,none,rfl,F⟩
  (λj z ρ M2 hz hI=>by
   obtain⟨L',R,Z,Vr,U,rfl,G⟩:=hI;obtain⟨g,hj,rfl⟩:∃g,s.gs[j]?=some g/\g.toD=z:=by simpa using hz
   have qk:=(ak.mp hj).1;have hg:=h.gs g (au hj);cases g with
   |same a b =>
    refine⟨_,.next,EN s d p R b7 b8 b9 b10 (some (Gn.toD (.same a b))) Vr U,M2,rfl,?_,.inl rfl,L',_,_,_,_,rfl,G.g,G.b,by have:=G.l;lia,G.k⟩;show Bo.den (PW m) (EN s d p R b7 b8 b9 b10 (some (Gn.toD (.same a b))) Vr U) M2=_;simp[Bo,Gn.toD,acp.symm]
   |apart k =>
    obtain⟨ws,M3,e3,g3,L0,k3⟩:=Oi (m:=m) (M:=M2) (d:=.tup (s.es.map aD)) hm h.E rfl;have c3:Hw.den (PW m) (EN s d p R b7 b8 b9 b10 (some (Gn.toD (.apart k))) Vr U) M2=.ok (.vl ((ws.filter λw=>decide (1<w.length)&&decide (lw w=k)).map dz)) M3:=by
     unfold Hw;rw[Jm (d:=.ref M2.length) (M1:=M3) (xs:=ws) (f:=dz) (q:=λw=>decide (1<w.length)&&decide (lw w=k)) (g:=dz) (by simp[e3]) (Dk (iw g3)) (by have:=L0.few;lia) (λw hw=>⟨_,rfl,by
      have ll:v7 .len [dz w] M3=.ok (.int w.length) M3:=by simp[dz,Bt]
      by_cases q:1<w.length
      .have q':(1:Int)<w.length:=by lia
       simp[ll,q,q',Kz (L0.way w hw),Gn.toD,Hl]
      .have q':¬(1:Int)<w.length:=by lia
       simp[ll,q,q'],λ_=>by simp⟩)]
     rfl
    have G3:Fd s p M (1208+3600*j) M3 L':=⟨k3 _ _ G.g,G.b,G.l,ni.trans G.k k3⟩;obtain⟨L4,c6,qq,M4,e4,G4⟩:=nx1 (m:=m) (b6:=R) (b7:=b7) (b8:=b8) (b9:=b9) (b10:=b10) (b13:=U) (ls:=ws.filter λw=>decide (1<w.length)&&decide (lw w=k)) hm h.E hd hs L0 hp hg (az (t8 _ _) L0.few) (λw hw=>by
     obtain⟨q1,q2⟩:=sy.mp hw;simp at q2;exact⟨L0.way w q1,q2.1,q2.2⟩) (by lia) G3
    refine⟨_,.next,EN s d p c6 b7 b8 b9 b10 (some (Gn.toD (.apart k))) (some (.vl ((ws.filter λw=>decide (1<w.length)&&decide (lw w=k)).map dz))) qq,M4,rfl,?_,.inl rfl,L4,_,_,_,_,rfl,G4.g,G4.b,by have:=G4.l;lia,G4.k⟩;show Bo.den (PW m) (EN s d p R b7 b8 b9 b10 (some (Gn.toD (.apart k))) Vr U) M2=_;have q0:rz (Gn.toD (.apart k)) (.int 0) M2=some (.str (PySem.Str.ofString "apart")):=Bh _ _;simp only[Bo];simp[q0,c3,e4])
 rw[dh] at G;exact⟨L',R,Z,Vr,U,M',e,G.g,G.b,by have:=G.l;lia,G.k⟩
def aeu{G:List Sp}(hm:2<=m)(h:Dg s V)(U:fj M d=some (G.map Sp.toD))(hs:∀x∈G,Ly s.es x.a x.b)(hn:G.length<=60) :
 ∃L M',prog.call m 32 [s.toD,d] M=.ok (.ref M.length) M'/\Fd s M.length M 30008 M' L:=by
 rw[call_of (az (by decide) hm) rfl];obtain⟨L1,e1,F1⟩:=nx6 (W:=PW (m-1)) (d:=d) (M:=M) h;obtain⟨L2,b6,b7,b8,R,Z,M2,e2,F2⟩:=nx2 (m:=m-1) (by lia) h.E U hs hn (bc _) F1;obtain⟨L3,c6,qq,qv,qk,M3,e3,F3⟩:=nx0 (m:=m-1) (b6:=b6) (b7:=b7) (b8:=b8) (b9:=R) (b10:=Z) (by lia) h U hs (bc _) F2;refine⟨L3,M3,?_,F3⟩;simp only[Fn.run,Qx,Qw];have y0:(Tg.names [2,3,4]).put s.toD [some s.toD,some d,none,none,none,none,none,none,none,none,none,none,none,none]=some [some s.toD,some d,some (.tup (s.es.map aD)),some (.tup (s.gs.map Gn.toD)),some (.tup [dz s.a,dz s.b]),none,none,none,none,none,none,none,none,none]:=rfl;simp[-List.map_map,y0,e1,e2,e3]
def Ol.trans(R:Ol ss a b)(h2:Ol ss b c):Ol ss a c:=by
 induction h2 with
 |refl=>exact R|step _ U G Z=>exact .step Z U G
def Ol.symm(h:Ol ss a b):Ol ss b a:=by
 induction h with
 |refl=>exact .refl
 |step _ q1 R U =>
  refine Ol.trans (.step .refl q1 ?_) U;rcases R with⟨Z,G⟩|⟨Z,G⟩
  .exact .inr ⟨G,Z⟩
  .exact .inl ⟨G,Z⟩
def Ol.more(h:Ol ss a b):Ol (ss++X) a b:=by
 induction h with
 |refl=>exact .refl|step _ Z U G=>exact .step G (jf _ Z) U
def Cv(G:List (List Nat))(Z:List Sp):Prop:=∃R:List (List Nat),(∀w∈G,∃r∈R,Ol Z w r)/\R.length+Z.length<=60
theorem Cv.step(C:Cv Z ss)(ha:x.a∈Z)(hb:x.b∈Z)(hn:¬Ol ss x.a x.b):Cv Z (ss++[x]):=by
 obtain⟨R,G,h2⟩:=C;obtain⟨ra,a1,a2⟩:=G _ ha;obtain⟨rb,b1,b2⟩:=G _ hb;have ne:ra≠rb:=by rintro rfl;exact hn (a2.trans b2.symm)
 refine⟨R.erase rb,λw hw=>?_,?_⟩
 .obtain⟨r,r1,U⟩:=G w hw
  by_cases e:r=rb
  .subst e
   refine⟨ra,(yz ne).mpr a1,?_⟩;have s1:Ol (ss++[x]) x.b x.a:=.step .refl (gf _ bx) (.inr ⟨rfl,rfl⟩);exact(U.more.trans b2.symm.more).trans (s1.trans a2.more)
  .exact⟨r,(yz e).mpr r1,U.more⟩
 .rw[List.length_erase_of_mem b1,jd]
  have:=u9 b1
  simp;lia
def Cv.len(C:Cv Z ss):ss.length<=60:=by obtain⟨R,_,h⟩:=C;lia
structure Sts(s:Ui)(ws:List (List Nat))(p:Nat)(M M1:du)(ss:List Sp):Prop where
 g:M1[p]?=some (.lst (ss.map Sp.toD))
 b:∀x∈ss,Ly s.es x.a x.b
 c:Cv ws ss
 k:ni M M1
def a7v(hm:3<=m)(h:Dg s V)(L0:Wys s.es ws)(hp:M.length<=p)(S:Sts s ws p M M1 ss) :
 ∃Z g U M',Gy.den (PW m) [some s.toD,sR p,some (.bl false),b3] M1=.ok (.next,[some s.toD,sR p,some (.bl g),U]) M'/\Sts s ws p M M' Z/\ss.length<=Z.length/\(g=true->ss.length<Z.length):=by
 unfold Gy;obtain⟨L,M2,e2,F⟩:=aeu (m:=m) (by lia) h (iw S.g) S.b S.c.len;have hq:p<M1.length:=yw S.g
 obtain⟨qq,M',e,Z,g,U,rfl,G,l1,l2,-⟩:=zy (W:=PW m) (it:=.call 32 (.p (.v 0) (.v 1))) (t:=.name 3) (b:=Dt) (ρ:=[some s.toD,sR p,D.bl false,b3]) (M:=M1) (M1:=M2) (d:=.ref M1.length) (by simp[e2]) (iw F.g)
  (λj ρ R=>∃(Z:List Sp)(g:Bool)(U:Option D),ρ=[some s.toD,sR p,some (.bl g),U]/\Sts s ws p M R Z/\ss.length<=Z.length/\(g=true->ss.length<Z.length)/\R[M1.length]?=some (.lst (L.map Sp.toD)))
  ⟨ss,false,b3,rfl,⟨ni.fj F.k (iw S.g) |> λ_=>F.k _ _ S.g,S.b,S.c,ni.trans S.k F.k⟩,bc _,λh=>by(cases h),F.g⟩
  (λj ρ R h=>by obtain⟨_,_,_,_,_,_,_,k⟩:=h;exact iw k)
  (λj z ρ R hz hI=>by
   obtain⟨Z,g,U,rfl,G,l1,l2,l3⟩:=hI;obtain⟨x,hj,rfl⟩:∃x,L[j]?=some x/\x.toD=z:=by simpa using hz
   have B:=F.b x (au hj);have wa:=L0.all _ rfl B.one;have wb:=L0.all _ rfl B.two;obtain⟨q,M4,e4,h4,k4⟩:=Uj (m:=m) (M:=R) (d:=.ref p) (ss:=Z) (a:=x.a) (b:=x.b) (by lia) (iw G.g) (λy hy=>⟨L0.all _ rfl (G.b y hy).one,L0.all _ rfl (G.b y hy).two⟩) L0.few;have x0:rz x.toD (.int 0) R=some (dz x.a):=Bh _ _;have x1:rz x.toD (.int 1) R=some (dz x.b):=Cu _ _ _;cases q with
   |true =>
    refine⟨_,.next,[some s.toD,sR p,some (.bl g),some x.toD],M4,rfl,?_,.inl rfl,Z,g,_,rfl,⟨k4 _ _ G.g,G.b,G.c,ni.trans G.k k4⟩,l1,l2,k4 _ _ l3⟩;simp[Dt,x0,x1,e4]
   |false =>
    have g4:=k4 _ _ G.g;have hn:¬Ol Z x.a x.b:=λq=>by have:=h4.mpr q;cases this
    have C:=G.c.step wa wb hn;refine⟨_,.next,[some s.toD,sR p,some (.bl true),some x.toD],M4.set p (.lst ((Z++[x]).map Sp.toD)),rfl,?_,.inl rfl,Z++[x],true,_,rfl,⟨qp g4,λy hy=>?_,C,ni.set (ni.trans G.k k4) hp⟩,by simp;lia,λ_=>by simp;lia,?_⟩
    .simp[Dt,x0,x1,e4,Ke g4,Hb g4 (d:=x.toD) (by have:=G.c.len;simp;lia)]
    .rcases cz.mp hy with q|q
     .exact G.b y q
     .simp at q;exact q▸B
    .rw[lr (by lia)];exact k4 _ _ l3)
 exact⟨Z,g,U,M',e,G,l1,l2⟩
def ajp(hm:4<=m)(h:Dg s V)(L0:Wys s.es ws):∃ss U,prog.call m 33 [s.toD] M=.ok (.ref M.length) U/\Sts s ws M.length M U ss:=by
 rw[call_of (az (by decide) hm) rfl];obtain⟨qv,U,e,ss,Z,rfl,S⟩:=Fy (c:=(Ex.v 2).den (PW (m-1))) (body:=Gz.den (PW (m-1)))
  (λn R G=>∃(ss:List Sp)(g:Bool)(Z:Option D),R=[some s.toD,sR M.length,some (.bl g),Z]/\Sts s ws M.length M G ss/\n=2*(60-ss.length)+if g then 1 else 0)
  (λR G=>∃(ss:List Sp)(Z:Option D),R=[some s.toD,sR M.length,some (.bl false),Z]/\Sts s ws M.length M G ss)
  (λn R G hI=>by
   obtain⟨ss,g,Z,rfl,S,rfl⟩:=hI;cases g with
   |false=>exact .inl ⟨G,by simp,ss,Z,rfl,S⟩
   |true =>
    right
    obtain⟨qk,g,qq,M2,e2,S2,l1,l2⟩:=a7v (m:=m-1) (b3:=Z) (by lia) h L0 (bc _) S;have c1:=S.c.len;have c2:=S2.c.len;refine⟨G,.next,_,M2,_,by simp,?_,.inl rfl,?_,qk,g,qq,rfl,S2,rfl⟩
    .simp[Gz,e2]
    .cases g with
     |true=>have:=l2 rfl;simp;lia
     | false=>simp;lia)
  Vq 121 [some s.toD,sR M.length,some (.bl true),none] (M++[.lst []]) (by decide)
  ⟨[],true,none,rfl,⟨Bj,by simp,⟨ws,λw hw=>⟨w,hw,.refl⟩,by simpa using L0.few⟩,ni.app _ _⟩,rfl⟩
 refine⟨ss,U,?_,S⟩;simp only[Fn.run,Oc,Ob,Ky];simp[MW.new,Py];have e':Cr _ _ Vq [some s.toD,sR M.length,some (.bl true),none] (M++[.lst []])=_:=e;simp[e']
abbrev Cs:=List (Ar×Nat)
noncomputable def kv(Z:Cs):List (List Kx×D):=Z.map λc=>([.inl (c.1.1:Int),.inl (c.1.2:Int)],.ref c.2)
noncomputable def up(Z:Nat->List (List Nat))(a:Nat)(w:Y3)(b:Nat):List (List Nat):=if b=a then Z a++[w] else Z b
noncomputable def Nr(G:Cs)(Z:Nat->List (List Nat)):Nat:=(G.map λc=>(Z c.2).length).sum
def ajq{Z:Cs}(h:∀c∈Z,c.2≠a):Nr Z (up ct a w)=Nr Z ct:=by
 unfold Nr
 congr 1
 refine m9 λc G=>?_
 simp[up,h c G]
theorem ajr:∀{Z:Cs},(Z.map (·.2)).Nodup->Nr Z (up ct a w)<=Nr Z ct+1
 |[],_=>iy _
 |c::Z,nd=>by
  rw[di] at nd;have G:=o9.mp nd
  by_cases e:c.2=a
  .have:Nr Z (up ct a w)=Nr Z ct:=ajq λx U q=>G.1 (by rw[e,<- q];exact dq.mpr ⟨x,U,rfl⟩)
   show(up ct a w c.2).length+Nr Z (up ct a w)<=(ct c.2).length+Nr Z ct+1
   rw[this,e];simp[up];lia
  .have:=ajr (ct:=ct) (a:=a) (w:=w) G.2
   show(up ct a w c.2).length+Nr Z (up ct a w)<=(ct c.2).length+Nr Z ct+1
   rw[show up ct a w c.2=ct c.2 by simp[up,e]];lia
def ajs{Z:Cs}:∀{c},c∈Z->(ct c.2).length<=Nr Z ct:=by
 induction Z with
 |nil=>intro c h;cases h
 |cons x l G =>
  intro c h;show _<=(ct x.2).length+Nr l ct
  rcases dg.mp h with rfl|h
  .lia
  .have:=G h;lia
def az8(Z:Cs)(k:Ar):(∃c∈Z,c.1=k/\Eh (kv Z) [.inl (k.1:Int),.inl (k.2:Int)]=some (.ref c.2))\/Eh (kv Z) [.inl (k.1:Int),.inl (k.2:Int)]=none:=by
 induction Z with
 |nil=>exact .inr rfl
 |cons c Z G =>
  by_cases e:c.1=k
  .subst e
   exact .inl ⟨c,bx,rfl,by simp[Eh,kv]⟩
  .have R:¬((c.1.1:Int)=k.1/\(c.1.2:Int)=k.2):=λq=>e (Prod.ext (by have:=q.1;lia) (by have:=q.2;lia))
   have U:Eh (kv (c::Z)) [.inl (k.1:Int),.inl (k.2:Int)]=Eh (kv Z) [.inl (k.1:Int),.inl (k.2:Int)]:=by
    have:¬((Sum.inl (c.1.1:Int):Kx)=.inl k.1/\(Sum.inl (c.1.2:Int):Kx)=.inl k.2):=λq=>R ⟨Sum.inl.inj q.1,Sum.inl.inj q.2⟩
    have d0:decide (([.inl (c.1.1:Int),.inl (c.1.2:Int)]:List Kx)=[.inl (k.1:Int),.inl (k.2:Int)])=false:=u0 λq=>this ⟨(t7 q).1,(t7 (t7 q).2).1⟩
    simp only[Eh,kv,di,m5,d0]
   rw[U];rcases G with⟨x,h1,h2,h3⟩|h
   .exact .inl ⟨x,bh _ h1,h2,h3⟩
   .exact .inr h
structure Rws(es:List Ar)(r q:Nat)(M M1:du)(cs:Cs)(ct:Nat->List (List Nat))(n:Nat):Prop where
 g:M1[r]?=some (.dT (kv cs))
 c:∀c∈cs,q<c.2/\M1[c.2]?=some (.lst ((ct c.2).map dz))/\ct c.2≠[]/\∀w∈ct c.2,Way es w/\(Ej es w,Aq es w)=c.1
 nd:(cs.map (·.2)).Nodup
 z:Nr cs ct<=n
 l:cs.length<=n
 ne:0<n->cs≠[]
 k:ni M M1
noncomputable def xK:Ex:=.bm .append (.bm .setdefault (.v 1) (.p (.tup (.p (.ix (.ix (.v 0) (.ix (.v 2) (.i 0))) (.i 0)) (.ix (.ix (.v 0) (.ix (.v 2) (.neg (.i 1)))) (.i 1)))) (.lst .z))) (.o (.v 2))
def Rws.step{G:Cs}{ct:Nat->List (List Nat)}(hd:j8 Z d=some (es.map aD))(R:Rws es r q M Z G ct n)(hr:M.length<=r)(hq:r<q)(q1:q<Z.length)(W:Way es w)(hn:n<=60) :
 ∃(q2:Cs)(qv:Nat->List (List Nat))(M':du),xK.den (PW m) [some d,sR r,some (dz w),b3,b4,b5] Z=.ok .non M'/\Rws es r q M M' q2 qv (n+1)/\∀a o,a<=q->a≠r->Z[a]?=some o->M'[a]?=some o:=by
 have kt:Nx (.tup [.int (Ej es w),.int (Aq es w)])=some [.inl (Ej es w:Int),.inl (Aq es w:Int)]:=rfl;have e1:=Ue (M:=Z) W;have e2:=Kz (M:=Z) W;have e3:=Eg hd W.Rw;have e4:=Eg hd W.Ru;have rl:=yw R.g;have r2:(Z++[.lst []])[r]?=some (.dT (kv G)):=Cw R.g;have q0:Pn .setdefault (.ref r) Z=true:=by simp[Pn,R.g]
 have qk:∀{v:D}{M2:du},Hs .setdefault (.ref r) [.tup [.int (Ej es w),.int (Aq es w)],.ref Z.length] (Z++[.lst []])=.ok v M2->Pn .append v M2=true->xK.den (PW m) [some d,sR r,some (dz w),b3,b4,b5] Z=Hs .append v [dz w] M2:=fun{v M2} h1 h2=>by simp[xK,q0,e1,e2,e3,e4,Wh,Wi,MW.new];rw[show(at_ es (hw w)).1=Ej es w from rfl,show(at_ es (lw w)).2=Aq es w from rfl,h1];simp[h2]
 rcases az8 G (Ej es w,Aq es w) with⟨c,h1,h2,h3⟩|h3
 .obtain⟨c1,c2,c3,c4⟩:=R.c c h1
  have cl:=yw c2;have g2:(Z++[.lst []])[c.2]?=some (.lst ((ct c.2).map dz)):=Cw c2;have s1:Hs .setdefault (.ref r) [.tup [.int (Ej es w),.int (Aq es w)],.ref Z.length] (Z++[.lst []])=.ok (.ref c.2) (Z++[.lst []]):=by simp only[Hs,onT,r2,kt];simp only at h3;simp only[h3]
  have zl:=ajs (ct:=ct) h1;have zn:=R.z;refine⟨G,up ct c.2 w,(Z++[MO.lst []]).set c.2 (.lst ((ct c.2++[w]).map dz)),?_,⟨?_,λx hx=>?_,R.nd,az (ajr R.nd) (by lia),by have:=R.l;lia,λ_ q=>by rw[q] at h1;(cases h1),ni.set (ni.trans R.k (ni.app _ _)) (by lia)⟩,λa o h1 h2 h=>?_⟩
  .rw[qk s1 (Ke g2),Hb g2 (by simp;lia)]
   simp
  .rw[lr (by lia)];exact r2
  .obtain⟨x1,x2,x3,x4⟩:=R.c x hx
   by_cases e:x.2=c.2
   .have ek:x.1=c.1:=by
     rw[e] at x3 x4;obtain⟨u,U⟩:=List.exists_mem_of_ne_nil _ x3;rw[<- (x4 u U).2,(c4 u U).2]
    rw[e];refine⟨c1,by rw[qp g2];simp[up],by simp[up],λu U=>?_⟩;have U:u∈ct c.2++[w]:=by simpa[up] using U
    rcases cz.mp U with q|q
    .rw[ek];exact c4 u q
    .simp at q;subst q;exact⟨W,by rw[ek,h2]⟩
   .have:up ct c.2 w x.2=ct x.2:=by simp[up,e]
    rw[this];exact⟨x1,by rw[lr (kh e)];exact Cw x2,x3,x4⟩
  .rw[lr (by lia)];exact Cw h
 .have fr:∀c∈G,c.2≠Z.length:=λc hc=>by have:=yw (R.c c hc).2.1;lia
  have s1:Hs .setdefault (.ref r) [.tup [.int (Ej es w),.int (Aq es w)],.ref Z.length] (Z++[.lst []])=.ok (.ref Z.length) ((Z++[MO.lst []]).set r (.dT (kv (G++[((Ej es w,Aq es w),Z.length)])))):=by
   have hl:(kv G).length<100000:=by have:=R.l;simp[kv];lia
   simp only[Hs,onT,r2,kt];simp only at h3;simp only[h3,hl,jk];simp[kv]
  have g3:((Z++[MO.lst []]).set r (.dT (kv (G++[((Ej es w,Aq es w),Z.length)]))))[Z.length]?=some (.lst []):=by rw[lr (by lia)];exact Bj
  have qq:Nr G (λb=>if b=Z.length then[w] else ct b)=Nr G ct:=by
   unfold Nr
   congr 1
   exact m9 λc hc=>by simp[fr c hc]
  have zn:=R.z;refine⟨G++[((Ej es w,Aq es w),Z.length)],λb=>if b=Z.length then[w] else ct b,((Z++[MO.lst []]).set r (.dT (kv (G++[((Ej es w,Aq es w),Z.length)])))).set Z.length (.lst [dz w]),?_,⟨?_,λx hx=>?_,?_,?_,by have:=R.l;simp;lia,λ_=>by simp,ni.set (ni.set (ni.trans R.k (ni.app _ _)) hr) (by lia)⟩,λa o h1 h2 h=>?_⟩
  .rw[qk s1 (Ke g3),Hb g3 (by simp)]
   simp
  .rw[lr (by lia)];exact qp r2
  .rcases cz.mp hx with q|q
   .obtain⟨x1,x2,x3,x4⟩:=R.c x q
    simp only[fr x q,jg];exact⟨x1,by rw[lr (kh (fr x q)),lr (by lia)];exact Cw x2,x3,x4⟩
   .simp at q;subst q
    simp only[jk];exact⟨q1,by rw[qp g3];rfl,by simp,λu U=>by simp at U;subst U;exact⟨W,rfl⟩⟩
  .rw[gh,nu]
   refine⟨R.nd,by simp,λa ha b hb=>?_⟩;simp at hb;subst hb;obtain⟨x,hx,rfl⟩:=dq.mp ha;exact fr x hx
  .have:Nr (G++[((Ej es w,Aq es w),Z.length)]) (λb=>if b=Z.length then[w] else ct b)=Nr G (λb=>if b=Z.length then[w] else ct b)+1:=by simp[Nr]
   rw[this,qq];lia
  .rw[lr (by lia),lr (kh h2)];exact Cw h
def al2(hm:1<=m)(E:Ends es V)(hd:j8 M d=some (es.map aD))(hr:M[r]?=some (.dT []))(hM:ni M0 M)(h0:M0.length<=r)(qk:j8 M0 d=some (es.map aD)) :
 ∃b2 U G M',Cj.den (PW m) [some d,sR r,none,none,none,none] M=.ok (.next,[some d,sR r,b2,none,none,none]) M'/\Rws es r M.length M0 M' U G 60:=by
 unfold Cj;obtain⟨ws,M1,e1,g1,L,k1⟩:=Oi (m:=m) (M:=M) (d:=d) hm E hd;have rl:=yw hr;have fw:=L.few;obtain⟨q1,M',e,b2,U,G,rfl,R,-,-⟩:=zy (W:=PW m) (it:=.call 25 (.o (.v 0))) (t:=.name 2) (b:=Fl) (ρ:=[some d,sR r,none,none,none,none]) (M:=M) (M1:=M1) (d:=.ref M.length) (by simp[e1]) (iw g1)
  (λi ρ Z=>∃(b2:Option D)(U:Cs)(G:Nat->List (List Nat)),ρ=[some d,sR r,b2,none,none,none]/\Rws es r M.length M0 Z U G i/\Z[M.length]?=some (.lst (ws.map dz))/\j8 Z d=some (es.map aD))
  ⟨none,[],λ_=>[],rfl,⟨k1 _ _ hr,by simp,by simp,iy _,iy _,λh=>absurd h (qi _),hM.trans k1⟩,g1,ni.j8 k1 hd⟩
  (λi ρ Z h=>by obtain⟨_,_,_,_,_,g,_⟩:=h;exact iw g)
  (λi z ρ Z hz hI=>by
   obtain⟨b2,U,G,rfl,R,g,qv⟩:=hI;obtain⟨w,hi,rfl⟩:∃w,ws[i]?=some w/\dz w=z:=by simpa using hz
   have il:=(ak.mp hi).1;obtain⟨q0,qq,M3,e3,R3,k3⟩:=R.step (m:=m) (b3:=none) (b4:=none) (b5:=none) qv h0 rl (yw g) (L.way w (au hi)) (by lia);refine⟨_,.next,[some d,sR r,some (dz w),none,none,none],M3,rfl,?_,.inl rfl,_,q0,qq,rfl,R3,k3 _ _ (bc _) (by lia) g,ni.j8 R3.k qk⟩;have e4:(Aj.expr xK).den (PW m) [some d,sR r,some (dz w),none,none,none] Z=.ok (.next,[some d,sR r,some (dz w),none,none,none]) M3:=by rw[aed,e3];rfl
   show(my.o (.expr xK)).den (PW m) [some d,sR r,some (dz w),none,none,none] Z=_;rw[qx,e4];rfl)
 rw[dh] at R;refine⟨b2,U,G,M',e,R.g,R.c,R.nd,az R.z fw,az R.l fw,λ_=>R.ne ?_,R.k⟩;have:=L.one 0 (by have:=E.pos;lia);exact u9 this
structure Prs(es:List Ar)(p:Nat)(M M1:du)(L:List (List Nat×List Nat))(n:Nat):Prop where
 g:M1[p]?=some (.lst (L.map pD))
 b:∀x∈L,Ly es x.1 x.2
 l:L.length<=n
 k:ni M M1
abbrev EA(d:D)(r p:Nat)(b2 b4 b5:Option D):Env:=[some d,sR r,b2,sR p,b4,b5]
def al1{l:List (List Nat)}(hl:l.length<=60)(qq:l≠[])(hb:∀w∈l,Way es w/\(Ej es w,Aq es w)=c)(ha:R[a]?=some (.lst (l.map dz)))(qk:a≠p)(hp:M.length<=p)(P:Prs es p M R L n)(hn:n<=3600) :
 ∃Z G M',Ce.den (PW m) (EA d r p b2 (sR a) b5) R=.ok (.next,EA d r p b2 (sR a) Z) M'/\Prs es p M M' G (n+60*l.length)/\G≠[]/\Mf p R M':=by
 unfold Ce;obtain⟨qv,M',e,Z,G,rfl,U,k',h'⟩:=zy (W:=PW m) (it:=.v 4) (t:=.name 5) (b:=Bb) (ρ:=EA d r p b2 (sR a) b5) (M:=R) (M1:=R) (d:=.ref a) rfl (iw ha)
  (λi ρ M2=>∃(Z:Option D)(G:List (List Nat×List Nat)),ρ=EA d r p b2 (sR a) Z/\Prs es p M M2 G (n+60*i)/\Mf p R M2/\(0<i->G≠[]))
  ⟨b5,L,rfl,P,Mf.refl _ _,λh=>absurd h (qi _)⟩
  (λi ρ M2 h=>by obtain⟨_,_,_,_,k,_⟩:=h;exact iw (k _ _ qk ha))
  (λi z ρ M2 hz hI=>by
   obtain⟨Z,G,rfl,U,k',h'⟩:=hI;obtain⟨w,hi,rfl⟩:∃w,l[i]?=some w/\dz w=z:=by simpa using hz
   have il:=(ak.mp hi).1;have a2:=k' _ _ qk ha;obtain⟨Ww,cw⟩:=hb w (au hi);have c1:Cd.den (PW m) (EA d r p b2 (sR a) (some (dz w))) M2=.ok (.vl ((l.map λu=>(w,u)).map pD)) M2:=by unfold Cd;rw[K3 (d:=.ref a) (M1:=M2) (xs:=l) (f:=dz) (g:=λu=>pD (w,u)) rfl (Dk (iw a2)) (by lia) (λu hu=>⟨_,rfl,by simp[pD]⟩)];simp[g8,jl]
   have lp:=U.l;refine⟨_,.next,EA d r p b2 (sR a) (some (dz w)),M2.set p (.lst ((G++l.map λu=>(w,u)).map pD)),rfl,?_,.inl rfl,_,G++l.map λu=>(w,u),rfl,⟨qp U.g,λx hx=>?_,by simp;lia,ni.set U.k hp⟩,k'.trans (Mf.set _ _ _),λ_=>by simp[qq]⟩
   .show Bb.den (PW m) (EA d r p b2 (sR a) (some (dz w))) M2=_
    simp only[Bb];simp[-List.map_map,Nh U.g,c1,X6 U.g (ys:=(l.map λu=>(w,u)).map pD) (by simp;lia)]
   .rcases cz.mp hx with q|q
    .exact U.b x q
    .obtain⟨u,hu,rfl⟩:=dq.mp q
     obtain⟨Wu,cu⟩:=hb u hu;have:=cw.trans cu.symm;exact⟨Ww,Wu,(Prod.ext_iff.mp this).1,(Prod.ext_iff.mp this).2⟩)
 rw[dh] at U h';exact⟨Z,G,M',e,U,h' (km.mpr qq),k'⟩
def ajt(hm:2<=m)(E:Ends es V)(hd:j8 M d=some (es.map aD)) :
 ∃p L M',prog.call m 26 [d] M=.ok (.ref p) M'/\M.length<=p/\Prs es p M M' L 3600/\L≠[]:=by
 rw[call_of (az (by decide) hm) rfl];obtain⟨b2,Z,ct,G,e1,R⟩:=al2 (m:=m-1) (M:=M++[.dT []]) (r:=M.length) (M0:=M) (by lia) E (ni.j8 (ni.app _ _) hd) Bj (ni.app _ _) (bc _) hd;have rl:=yw R.g;have q2:=R.z;have lp:∃b4 U L M',Ci.den (PW (m-1)) (EA d M.length G.length b2 none none) (G++[.lst []])=.ok (.next,EA d M.length G.length b2 b4 U) M'/\Prs es G.length M M' L 3600/\L≠[]:=by
  unfold Ci;have q0:(G++[.lst []])[M.length]?=some (.dT (kv Z)):=Cw R.g;obtain⟨q1,M',e,b4,U,L,rfl,P,Pb,-⟩:=aul (W:=PW (m-1)) (it:=.vals (.v 1)) (t:=.name 4) (b:=Cg) (ρ:=EA d M.length G.length b2 none none) (M:=G++[.lst []]) (M1:=(G++[MO.lst []]).set M.length (.dF (kv Z))) (s:=.con (Z.map λc=>.ref c.2)) (n:=Z.length)
   (by
    have:ad8 (.ref M.length) (G++[.lst []])=.ok (.con (Z.map λc=>.ref c.2)) ((G++[MO.lst []]).set M.length (.dF (kv Z))):=by simp only[ad8,q0];simp[kv,g8,jl]
    rw[Z3,acf];exact this) (by simp[Src.len])
   (λi ρ M2=>∃(b4 U:Option D)(L:List (List Nat×List Nat)),ρ=EA d M.length G.length b2 b4 U/\Prs es G.length M M2 L (60*Nr (Z.take i) ct)/\(0<i->L≠[])/\∀c∈Z,M2[c.2]?=some (.lst ((ct c.2).map dz)))
   ⟨none,none,[],rfl,⟨by rw[lr (by lia)];exact Bj,by simp,iy _,ni.set (ni.trans R.k (ni.app _ _)) (bc _)⟩,λh=>absurd h (qi _),λc hc=>by
    have:=(R.c c hc).1;rw[lr (by simp at this;lia)];exact Cw (R.c c hc).2.1⟩ (λ_ _ _=>rfl)
   (λi ρ M2 hi hI=>by
    obtain⟨b4,U,L,rfl,P,Pb,hc⟩:=hI;obtain⟨c,qk⟩:∃c,Z[i]?=some c:=⟨_,bj hi⟩;have qq:=au qk;obtain⟨c1,c2,c3,c4⟩:=R.c c qq;have cl:=ajs (ct:=ct) qq;have tk:Nr (Z.take (i+1)) ct=Nr (Z.take i) ct+(ct c.2).length:=by rw[vg,qk];simp[Nr]
    have tl:Nr (Z.take (i+1)) ct<=Nr Z ct:=by
     have:Nr Z ct=Nr (Z.take (i+1)) ct+Nr (Z.drop (i+1)) ct:=by
      conv=>lhs;rw[<- qg (i+1) Z]
      unfold Nr;rw[gh,List.sum_append]
     lia
    have cne:∀x∈Z,x.2≠G.length:=λx hx=>by have:=yw (R.c x hx).2.1;lia
    obtain⟨qv,L',M3,e3,P3,n3,k3⟩:=al1 (m:=m-1) (d:=d) (r:=M.length) (b2:=b2) (b5:=U) (l:=ct c.2) (by lia) c3 c4 (hc c qq) (cne c qq) (yw R.g |> λh=>by lia) P (by lia);refine⟨.ref c.2,EA d M.length G.length b2 (sR c.2) U,by simp[Src.item,qk],rfl,EA d M.length G.length b2 (sR c.2) qv,M3,?_,_,qv,L',rfl,⟨P3.g,P3.b,by have:=P3.l;rw[tk];lia,P3.k⟩,λ_=>n3,λx hx=>k3 _ _ (cne x hx) (hc x hx)⟩;simp only[Cg];simp[e3])
  exact⟨b4,U,L,M',e,⟨P.g,P.b,by have:=P.l;rw[uc] at this;lia,P.k⟩,Pb (km.mpr (R.ne (by decide)))⟩
 obtain⟨b4,U,L,M',e,P,Pb⟩:=lp;refine⟨G.length,L,M',?_,by lia,P,Pb⟩;simp only[Fn.run,Hi,Hh];simp[MW.new,e1,e]
def Om(h1:1<=es.length)(h2:es.length<=10)(Z:∀e∈es,(e:Ar).1<=7/\e.2<=7)(U:∀v,v<8->((nxt es v).map λk=>1+V (at_ es k).2).sum<=V v)(h5:((List.range es.length).map λk=>1+V (at_ es k).2).sum<=60):Ends es V :=
 ⟨h1,h2,Z,λv=>by
  rcases jo v 8 with h|h
  .exact U v h
  .have:nxt es v=[]:=List.eq_nil_iff_forall_not_mem.mpr λk G=>by
    obtain⟨R,q2⟩:=Jl.mp G;have:=(Z _ (aco R)).1
    lia
   rw[this];exact iy _,h5⟩
noncomputable def Vk(l:Y3)(v:Nat):Nat:=l.getD v 0
noncomputable def kn:List (List Ar):=[[(0,1),(0,1),(1,2)],[(0,1),(1,2),(0,2),(2,3)],[(0,1),(0,2),(1,3),(2,3),(3,4)],[(0,1),(1,2),(0,3),(3,4),(1,4),(2,5),(4,5)],[(3,1),(3,1),(1,0),(1,0),(0,2)]]
def aow(h:es∈kn):∃V,Ends es V:=by
 simp only[kn,dg,vd,or_false] at h;rcases h with rfl|rfl|rfl|rfl|rfl
 .exact⟨Vk [4,1],Om (by decide) (by decide) (by decide) (by decide+kernel) (by decide+kernel)⟩
 .exact⟨Vk [5,2,1],Om (by decide) (by decide) (by decide) (by decide+kernel) (by decide+kernel)⟩
 .exact⟨Vk [6,2,2,1],Om (by decide) (by decide) (by decide) (by decide+kernel) (by decide+kernel)⟩
 .exact⟨Vk [8,4,1,2,1],Om (by decide) (by decide) (by decide) (by decide+kernel) (by decide+kernel)⟩
 .exact⟨Vk [1,4,0,10],Om (by decide) (by decide) (by decide) (by decide+kernel) (by decide+kernel)⟩
structure Rnd(es:List Ar):Prop where
 r:∀e∈es,e.1<=3/\e.1<e.2/\e.2<=6
noncomputable def cn(Z:List Ar)(v:Nat):Nat:=(Z.filter λe=>decide (e.1=v)).length
def Pr(Z:List Ar):Nat->Nat
 |0=>(1+cn Z 0)*((1+cn Z 1)*((1+cn Z 2)*(1+cn Z 3)))|1=>(1+cn Z 1)*((1+cn Z 2)*(1+cn Z 3))|2=>(1+cn Z 2)*(1+cn Z 3)|3=>1+cn Z 3|_=>1
def aju(es:List Ar):(List.range es.length).map (at_ es)=es:=by
 refine List.ext_getElem? λi=>?_
 rcases jo i es.length with h|h
 .simp[h,Wd]
  have:=Wd h;rw[bj h] at this;exact(gq this).symm
 .simp[h]
def auw(Z:List Ar)(v:Nat):(nxt Z v).length=cn Z v:=by
 have:(Z.filter λe=>decide (e.1=v))=(nxt Z v).map (at_ Z):=by
  conv=>lhs;rw[<- aju Z]
  rw[List.filter_map];rfl
 rw[cn,this,dh]
theorem ajv{f:Nat->Nat}:∀{l:Y3},(∀k∈l,f k<=b)->(l.map f).sum<=l.length*b
 |[],_=>by simp
 |a::l,h=>by
  have:=ajv (l:=l) λk Z=>h k (bh _ Z)
  have:=h a bx;simp[Nat.add_mul];lia
def Du{a b c:Nat}(h:c<=b):c<=(1+a)*b:=by
 have:b<=(1+a)*b:=by rw[Nat.add_mul];lia
 lia
theorem ajw(Z:List Ar):∀v,1<=Pr Z v
 |0=>Du (Du (Du (by lia)))|1=>Du (Du (by lia))|2=>Du (by lia)|3=>by show 1<=1+cn Z 3;lia
 |_+4=>bc _
theorem aox(Z:List Ar):∀v,Pr Z (v+1)<=Pr Z v
 |0=>Du (bc _)|1=>Du (bc _)|2=>Du (bc _)|3=>ajw Z 3|_+4=>bc _
theorem Yc(Z:List Ar):∀{u v:Nat},v<=u->Pr Z u<=Pr Z v
 |0,v,h=>by rw[Nat.le_zero.mp h];exact bc _
 |u+1,v,h=>by
  rcases jo v (u+1) with q|q
  .exact az (aox Z u) (Yc Z (by lia))
  .have:v=u+1:=by lia
   rw[this];exact bc _
theorem auy(Z:List Ar):∀{v:Nat},v<=3->Pr Z v=(1+cn Z v)*Pr Z (v+1)
 |0,_=>rfl|1,_=>rfl|2,_=>rfl|3,_=>(Nat.mul_one _).symm
theorem acs:∀{es:List Ar},Rnd es->∀f:Nat->Nat,(es.map λe=>f e.1).sum=cn es 0*f 0+cn es 1*f 1+cn es 2*f 2+cn es 3*f 3
 |[],_,f=>by simp[cn]
 |e::es,R,f=>by
  have Z:=acs (es:=es) ⟨λx G=>R.r x (bh _ G)⟩ f;have h:=(R.r e bx).1;have c:∀v,cn (e::es) v=cn es v+if e.1=v then 1 else 0:=λv=>by
   unfold cn
   by_cases q:e.1=v<;>simp[q]
  rw[di,List.sum_cons,Z,c,c,c,c];have:e.1=0\/e.1=1\/e.1=2\/e.1=3:=by lia
  rcases this with q|q|q|q<;>simp[q,Nat.add_mul]<;>lia
theorem aev:∀l:List Ar,(l.map λ_=>1).sum=l.length
 |[]=>rfl|_::l=>by rw[di,List.sum_cons,aev l,d9];lia
def four:∀a,a<7->∀b,b<7->∀c,c<7->∀d,d<7->a+b+c+d<=6->a*((1+b)*((1+c)*(1+d)))+b*((1+c)*(1+d))+c*(1+d)+d<=60:=by decide+kernel
def ajx(R:Rnd es)(h1:1<=es.length)(h2:es.length<=6):Ends es λv=>Pr es v-1:=by
 have pp:=ajw es;have pe:∀v,1+(Pr es v-1)=Pr es v:=λv=>by have:=pp v;lia
 refine⟨h1,by lia,λe U=>by have:=R.r e U;lia,λv=>?_,?_⟩
 .simp only[pe]
  rcases jo 3 v with h|h
  .have:nxt es v=[]:=List.eq_nil_iff_forall_not_mem.mpr λk Z=>by
    obtain⟨G,q2⟩:=Jl.mp Z;have:=(R.r _ (aco G)).1
    lia
   rw[this];exact iy _
  .have:=ajv (f:=λk=>Pr es (at_ es k).2) (b:=Pr es (v+1)) (l:=nxt es v) λk Z=>by
    obtain⟨G,q2⟩:=Jl.mp Z;have:=(R.r _ (aco G)).2.1;exact Yc es (by lia)
   rw[auw] at this;have e:=auy es h;rw[Nat.add_mul,Nat.one_mul] at e;have:=pp (v+1)
   lia
 .simp only[pe]
  have a:((List.range es.length).map λk=>Pr es (at_ es k).2).sum=(es.map λe=>Pr es e.2).sum:=by have:=mz (List.map λe=>Pr es e.2) (aju es);rw[g8] at this;exact mz List.sum this
  have b:∀l:List Ar,(∀e∈l,e∈es)->(l.map λe=>Pr es e.2).sum<=(l.map λe=>Pr es (e.1+1)).sum:=by
   intro l
   induction l with
   |nil=>intro _;simp
   |cons x l ih =>
    intro h;have:=ih λe U=>h e (bh _ U)
    have:=Yc es (show x.1+1<=x.2 from(R.r x (h x bx)).2.1)
    simp;lia
  have c:(es.map λe=>Pr es (e.1+1)).sum=cn es 0*Pr es 1+cn es 1*Pr es 2+cn es 2*Pr es 3+cn es 3*Pr es 4:=acs R λv=>Pr es (v+1)
  have d:=acs R λ_=>1
  rw[aev] at d;simp only[Nat.mul_one] at d;have:=b es λ_ h=>h
  rw[a];have g:=four (cn es 0) (by lia) (cn es 1) (by lia) (cn es 2) (by lia) (cn es 3) (by lia) (by lia);rw[c,show Pr es 1=(1+cn es 1)*((1+cn es 2)*(1+cn es 3)) from rfl,show Pr es 2=(1+cn es 2)*(1+cn es 3) from rfl,show Pr es 3=1+cn es 3 from rfl,show Pr es 4=1 from rfl,Nat.mul_one] at this;exact az this g
def Zo.lt(h:Zo t f M):t<M.length:=by obtain⟨n,h,_⟩:=h;exact yw h
theorem St.set(S:St t f M G)(hp:M.length<=p)(R:t<M.length):St t f M (G.set p o):=by obtain⟨n,h,Z⟩:=S.has;exact⟨by simpa using S.len,⟨n,by rw[lr (by lia)];exact h,Z⟩,λa u U e=>by rw[lr (by have:=yw e;lia)];exact S.keep a u U e⟩
def St.keep'(S:St t f M Z)(k:ni Z M2):St t f M M2:=S.trans (.of S.has k)
theorem St.refl(h:Zo t f M):St t f M M:=.of h (ni.refl M)
abbrev EY(t:Nat)(b1 b2 b3 b4 b5 b6 b7 b8:Option D):Env:=[sR t,b1,b2,b3,b4,b5,b6,b7,b8]
theorem a0a(M:du):∀{v:Nat},v<4->∃z:Nat,rz (.vl [.int 1,.int 1,.int 2,.int 3]) (.int v) M=some (.int z)/\1<=z/\z<=3
 |0,_=>⟨1,rfl,by decide,by decide⟩|1,_=>⟨1,rfl,by decide,by decide⟩|2,_=>⟨2,rfl,by decide,by decide⟩|3,_=>⟨3,rfl,by decide,by decide⟩
def sy1(hm:1<=m)(hs:Zo t f M)(hp:R[p]?=some (.lst []))(S:St t f M R)(hl:M.length<=p) :
 ∃Z U G M',De.den (PW m) (EY t (sR p) none none none none none none none) R=.ok (.next,EY t (sR p) U G none none none none none) M'/\M'[p]?=some (.lst (Z.map aD))/\Rnd Z/\1<=Z.length/\Z.length<=6/\St t f M M':=by
 unfold De;obtain⟨v,M2,e2,hv,s2,l2⟩:=w6 (m:=m) (many:=6) hm S.has (by decide) (by decide);have tl:=hs.lt;obtain⟨qq,M',e,Z,U,G,rfl,g1,g2,g3,g4⟩:=Hf (W:=PW m) (n:=1+v) (M1:=M2) (t:=.name 2) (b:=Dd) (ρ:=EY t (sR p) none none none none none none none) (M:=R) (it:=.bin .add (.i 1) (.call 2 (.p (.v 0) (.i 6)))) (by
  simp[e2]) (by lia) (λi ρ M3=>∃(Z:List Ar)(U G:Option D),ρ=EY t (sR p) U G none none none none none/\M3[p]?=some (.lst (Z.map aD))/\Rnd Z/\Z.length=i/\St t f M M3) ⟨[],none,none,rfl,s2.keep _ _ (by lia) hp,⟨by simp⟩,rfl,S.trans s2⟩ (λi ρ M3 hi hI=>by
  obtain⟨Z,U,G,rfl,g1,g2,g3,g4⟩:=hI;obtain⟨a,M4,e4,h4,s4,_⟩:=w6 (m:=m) (many:=4) hm g4.has (by decide) (by decide);obtain⟨c,M5,e5,h5,s5,_⟩:=w6 (m:=m) (many:=4) hm s4.has (by decide) (by decide);obtain⟨z,e6,z1,z2⟩:=a0a M5 (v:=c) (by lia);obtain⟨x,M7,e7,h7,s7,_⟩:=w6 (m:=m) (many:=z) hm s5.has (by lia) (by lia);have S7:St t f M M7:=((g4.trans s4).trans s5).trans s7;have p4:M4[p]?=some (.lst (Z.map aD)):=s4.keep _ _ (by lia) g1;have p7:M7[p]?=some (.lst (Z.map aD)):=s7.keep _ _ (by lia) (s5.keep _ _ (by lia) p4);have ei:((a:Int)+1+(x:Int))=((a+1+x:Nat):Int):=by lia
  refine⟨_,.next,EY t (sR p) (sI i) (sI a) none none none none none,M7.set p (.lst ((Z++[(a,a+1+x)]).map aD)),rfl,?_,.inl rfl,Z++[(a,a+1+x)],_,_,rfl,qp p7,⟨λe he=>?_⟩,by simp;lia,S7.set hl tl⟩
  .show Dd.den (PW m) (EY t (sR p) (sI i) G none none none none none) M3=_
   simp only[Dd];simp[e4,Ke p4,e5,e6,e7,Hb p7 (d:=.tup [.int (a:Int),.int ((a:Int)+1+(x:Int))]) (by simp;lia),aD]
  .rcases cz.mp he with q|q
   .exact g2.r e q
   .simp at q;subst q
    exact⟨by show a<=3;lia,by show a<a+1+x;lia,by show a+1+x<=6;lia⟩)
 exact⟨Z,U,G,M',e,g1,g2,by lia,by lia,g4⟩
def sy2(hm:1<=m)(S:St t f M G)(tl:t<M.length)(hd:∀M2,St t f M M2->j8 M2 d=some (es.map aD))(E:Ends es V) :
 ∃(Z:List Gn)(U:du),Dc.den (PW m) (EY t (some d) b2 b3 b4 b5 none none none) G=.ok (.ref U.length) (U++[.lst (Z.map Gn.toD)])/\(∀g∈Z,Gd es g)/\Z.length<=3/\St t f M U/\G.length<=U.length/\(∀a o,a≠t->G[a]?=some o->U[a]?=some o):=by
 unfold Dc;obtain⟨v,M2,e2,hv,s2,l2⟩:=w6 (m:=m) (many:=4) hm S.has (by decide) (by decide);have hf:=E.few;have hp:=E.pos;obtain⟨ys,U,e,Z,rfl,h1,h2,R,h4,h5⟩:=Nz (W:=PW m) (v:=false) (k:=1) (n:=v) (M1:=M2) (t:=.name 9) (e:=.tup (.p (.cst (.str (PySem.Str.ofString "apart"))) (.call 2 (.p (.v 0) (.l (.v 1)))))) (ρ:=EY t (some d) b2 b3 b4 b5 none none none) (M:=G) (it:=.call 2 (.p (.v 0) (.i 4))) (by simp[e2]) (by lia)
  (λi xs M3=>∃Z:List Gn,xs=Z.map Gn.toD/\(∀g∈Z,Gd es g)/\Z.length=i/\St t f M M3/\G.length<=M3.length/\(∀a o,a≠t->G[a]?=some o->M3[a]?=some o)) ⟨[],rfl,by simp,rfl,S.trans s2,s2.len,s2.keep⟩ (λi xs M3 hi hI=>by
   obtain⟨Z,rfl,h1,h2,R,h4,h5⟩:=hI;have ll:=Hn (hd M3 R);rw[dh] at ll;obtain⟨k,M4,e4,hk,s4,_⟩:=w6 (m:=m) (many:=es.length) hm R.has (by lia) (by lia);refine⟨_,Gn.toD (.apart k),M4,rfl,?_,Z++[.apart k],by simp,λg hg=>?_,by simp;lia,R.trans s4,az h4 s4.len,λa o n h=>s4.keep a o n (h5 a o n h)⟩
   .simp[ll,e4,Gn.toD]
   .rcases cz.mp hg with q|q
    .exact h1 g q
    .simp at q;subst q;exact Int.ofNat_lt.mp hk)
 exact⟨Z,U,e,h1,by lia,R,h4,h5⟩
def ajy(x:List Nat×List Nat):Bs .add (.tup [.str (PySem.Str.ofString "same")]) (pD x) M=.ok (Gn.toD (.same x.1 x.2)) M:=by rw[pD,Lr _ _ (by simp)];rfl
def sy0{gs:List Gn}(hm:1<=m)(S:St t f M U)(tl:t<M.length)(hg:U[g]?=some (.lst (gs.map Gn.toD)))(qk:p≠g)(qq:M.length<=g)(Lp:M.length<=p)(hp:U[p]?=some (.lst ((L:List (List Nat×List Nat)).map pD)))(hb:∀x∈L,Ly es x.1 x.2)(hl:L.length<=3600)(Pb:L≠[])(qv:∀g∈gs,Gd es g)(q1:gs.length<=3) :
 ∃(Z:List Gn)(G:Option D)(M':du),Cz.den (PW m) (EY t b1 b2 b3 b4 (sR p) (sR g) none none) U=.ok (.next,EY t b1 G b3 b4 (sR p) (sR g) none none) M'/\M'[g]?=some (.lst (Z.map Gn.toD))/\M'[p]?=some (.lst (L.map pD))/\(∀g∈Z,Gd es g)/\Z.length<=6/\St t f M M':=by
 unfold Cz;obtain⟨v,M2,e2,hv,s2,l2⟩:=w6 (m:=m) (many:=4) hm S.has (by decide) (by decide);have lp:0<L.length:=km.mpr Pb
 obtain⟨q0,M',e,Z,G,rfl,h1,h2,h3,h4,h5⟩:=Hf (W:=PW m) (n:=v) (M1:=M2) (t:=.name 2) (b:=Cy) (ρ:=EY t b1 b2 b3 b4 (sR p) (sR g) none none) (M:=U) (it:=.call 2 (.p (.v 0) (.i 4))) (by simp[e2]) (by lia)
  (λi ρ R=>∃(Z:List Gn)(G:Option D),ρ=EY t b1 G b3 b4 (sR p) (sR g) none none/\R[g]?=some (.lst (Z.map Gn.toD))/\R[p]?=some (.lst (L.map pD))/\(∀g∈Z,Gd es g)/\Z.length<=3+i/\St t f M R) ⟨gs,b2,rfl,s2.keep _ _ (by lia) hg,s2.keep _ _ (by lia) hp,qv,by lia,S.trans s2⟩ (λi ρ R hi hI=>by
   obtain⟨Z,G,rfl,h1,h2,h3,h4,h5⟩:=hI;obtain⟨k,M4,e4,hk,s4,_⟩:=w6 (m:=m) (many:=L.length) hm h5.has (by lia) (by lia);have ll:=len_list (iw h2);rw[dh] at ll;have g4:=s4.keep _ _ (show g≠t by lia) h1;have p4:=s4.keep _ _ (show p≠t by lia) h2;obtain⟨x,hx⟩:∃x,L[k]?=some x:=⟨_,bj (by lia)⟩;have ix:rz (.ref p) (.int k) M4=some (pD x):=yf (iw p4) (jc _) (by simp[hx]);refine⟨_,.next,EY t b1 (sI i) b3 b4 (sR p) (sR g) none none,M4.set g (.lst ((Z++[Gn.same x.1 x.2]).map Gn.toD)),rfl,?_,.inl rfl,Z++[Gn.same x.1 x.2],_,rfl,qp g4,by rw[lr (kh qk)];exact p4,λy hy=>?_,by simp;lia,(h5.trans s4).set qq tl⟩
   .show Cy.den (PW m) (EY t b1 (sI i) b3 b4 (sR p) (sR g) none none) R=_
    simp only[Cy];simp[Ke h1,ll,e4,ix,ajy,Hb g4 (d:=Gn.toD (.same x.1 x.2)) (by simp;lia)]
   .rcases cz.mp hy with q|q
    .exact h3 y q
    .simp at q;subst q;exact hb x (au hx))
 exact⟨Z,G,M',e,h1,h2,h3,by lia,h5⟩
def Qc(Z:List D)(n:Nat):Ec Z (some (n:Int)) none=Z.drop n:=by
 simp only[Ec,clip];rw[bz (by lia),jm,mq (by simp)];rcases Al n Z.length with h|h
 .rw[wg h]
 .rw[yg h,List.drop_length,yj h]
def Ry(Z:List D)(n:Nat):Ec Z none (some (n:Int))=Z.take n:=by
 simp only[Ec,clip,yx,Nat.sub_zero];rw[bz (by lia),jm];rcases Al n Z.length with h|h
 .rw[wg h]
 .rw[yg h,uc,mq h]
def Oo(h:M[g]?=some (.lst ds))(G Z:Option Int):Ef (.ref g) G Z M=some (.vl (Ec ds G Z)):=by simp[Ef,fj,h]
def auz(Z:List D):v7 .tuple [.vl Z] M=.ok (.tup Z) M:=rfl
def tlS:my:=.c (.a 5 (.call 26 (.o (.v 1)))) (.c (.a 6 Dc) (.c Cz (.c (.a 7 (.call 2 (.p (.v 0) (.bin .add (.i 1) (.l (.v 6)))))) (.q (.a 8 Bl) (.f (.or (.cmp .eq (.v 8) (.Ax .z)) (.cmp .eq (.call 2 (.p (.v 0) (.i 8))) (.i 0))) (.o (.a 8 (.v 5)))) (.ret (.tup (.q (.blt .tuple (.o (.v 1))) (.blt .tuple (.o (.bin .add (.cut (.v 6) (.some (.v 7)) .none) (.cut (.v 6) .none (.some (.v 7)))))) (.ix (.v 8) (.call 2 (.p (.v 0) (.l (.v 8))))))))))))
def aoy(hm:2<=m)(hs:Zo t f M)(E:Ends es V)(hd:∀M5,St t f M M5->j8 M5 d=some (es.map aD)) :
 ∃s qv M',tlS.den (PW m) (EY t (some d) b2 b3 b4 none none none none) M=.ok (.ret s.toD,qv) M'/\Dg s V/\St t f M M':=by
 have tl:=hs.lt;obtain⟨p,L,M1,e1,p1,P,hL⟩:=ajt (m:=m) hm E (hd M (.refl hs));have S1:St t f M M1:=.of hs P.k;obtain⟨gs,Z,e2,g2,n2,S2,l2,k2⟩:=sy2 (m:=m) (b2:=b2) (b3:=b3) (b4:=b4) (b5:=sR p) (by lia) S1 tl hd E;have pl:=yw P.g;have qk:St t f M (Z++[.lst (gs.map Gn.toD)]):=S2.keep' (ni.app _ _);have lp:0<L.length:=km.mpr hL
 have Ll:=P.l;obtain⟨U,c2,M3,e3,g3,p3,d3,n3,S3⟩:=sy0 (m:=m) (b1:=some d) (b2:=b2) (b3:=b3) (b4:=b4) (g:=Z.length) (p:=p) (gs:=gs) (L:=L) (by lia) qk tl Bj (by lia) (by have:=S2.len;lia) p1 (Cw (k2 _ _ (by lia) P.g)) P.b P.l hL g2 n2;have l3:=len_list (iw g3);rw[dh] at l3;obtain⟨u,M4,e4,hu,S4,_⟩:=w6 (m:=m) (many:=1+U.length) (by lia) S3.has (by lia) (by lia);have p4:=S4.keep _ _ (show p≠t by lia) p3;have g4:=S4.keep _ _ (show Z.length≠t by have:=S2.len;lia) g3;have c1:Bl.den (PW m) (EY t (some d) c2 b3 b4 (sR p) (sR Z.length) (sI u) none) M4=.ok (.vl ((L.filter λx=>decide (x.1≠x.2)).map pD)) M4:=by unfold Bl;rw[Jm (d:=.ref p) (M1:=M4) (xs:=L) (f:=pD) (q:=λx=>decide (x.1≠x.2)) (g:=pD) rfl (Dk (iw p4)) (by lia) (λx hx=>⟨_,rfl,by simp[pD,Ie],λ_=>by simp⟩)];rfl
 have fin:∃v8 X M5,((Aj.f (.or (.cmp .eq (.v 8) (.Ax .z)) (.cmp .eq (.call 2 (.p (.v 0) (.i 8))) (.i 0))) (.o (.a 8 (.v 5)))).den (PW m) (EY t (some d) c2 b3 b4 (sR p) (sR Z.length) (sI u) (some (.vl ((L.filter λx=>decide (x.1≠x.2)).map pD)))) M4=.ok (.next,EY t (some d) c2 b3 b4 (sR p) (sR Z.length) (sI u) (some v8)) M5)/\fj M5 v8=some (X.map pD)/\(∀G,St t f M5 G->fj G v8=some (X.map pD))/\X≠[]/\X.length<=3600/\(∀x∈X,Ly es x.1 x.2)/\St t f M4 M5:=by
  by_cases h:L.filter (λx=>decide (x.1≠x.2))=[]
  .refine⟨.ref p,L,M4,?_,iw p4,λG s=>iw (s.keep _ _ (by lia) p4),hL,Ll,P.b,.refl S4.has⟩
   rw[h];simp[eq_nil]
  .obtain⟨q,M5,e5,hq,R,_⟩:=w6 (m:=m) (many:=8) (by lia) S4.has (by decide) (by decide)
   have he:((L.filter λx=>decide (x.1≠x.2)).map pD).isEmpty=false:=by rw[List.isEmpty_map];simpa using h
   by_cases q0:q=0
   .have p5:=R.keep _ _ (show p≠t by lia) p4
    refine⟨.ref p,L,M5,?_,iw p5,λG s=>iw (s.keep _ _ (by lia) p5),hL,Ll,P.b,R⟩;subst q0;rw[ai2,asd,Ro];simp only[Tj,Et,aiu,Res.t6,ai3,eq_nil,he,qj,Res.qm,ase];simp[e5]
   .refine⟨.vl ((L.filter λx=>decide (x.1≠x.2)).map pD),L.filter (λx=>decide (x.1≠x.2)),M5,?_,rfl,λ_ _=>rfl,h,az (t8 _ _) Ll,λx hx=>P.b x (sy.mp hx).1,R⟩
    rw[ai2,asd,Ro];have:¬(q:Int)=0:=by lia
    simp only[Tj,Et,aiu,Res.t6,ai3,eq_nil,he,qj,Res.qm,ase];simp[e5,this,q0]
 obtain⟨v8,X,M5,e5,a5,k5,nX,lX,bX,R⟩:=fin;have l5:=len_list a5;rw[dh] at l5;have xp:0<X.length:=km.mpr nX
 obtain⟨v,G,e6,hv,S6,_⟩:=w6 (m:=m) (many:=X.length) (by lia) R.has (by lia) (by lia);obtain⟨x,hx⟩:∃x,X[v]?=some x:=⟨_,bj (by lia)⟩;have i6:rz v8 (.int v) G=some (pD x):=yf (k5 G S6) (jc _) (by simp[hx]);have qq:St t f M M5:=(S3.trans S4).trans R;have d5:=hd M5 qq;have t5:v7 .tuple [d] M5=.ok (.tup (es.map aD)) M5:=by simp[v7,d5]
 have g5:=R.keep _ _ (show Z.length≠t by have:=S2.len;lia) g4;refine⟨⟨es,U.drop u++U.take u,x.1,x.2⟩,EY t (some d) c2 b3 b4 (sR p) (sR Z.length) (sI u) (some v8),G,?_,⟨E,λg hg=>?_,?_,bX x (au hx)⟩,qq.trans S6⟩
 .have q1:Bl.den (PW m) [sR t,some d,c2,b3,b4,sR p,sR Z.length,sI u,none] M4=_:=c1
  simp only[tlS];simp[e1,e2,e3,l3,e4];rw[q1];simp only[Res.t6,Res.qm,ach,acg,List.set_cons_succ,List.set_cons_zero,p6];simp only[qx,e5,p6];simp[t5,Oo g5,Qc,Ry,l5];rw[Fw _ _ (by simp;lia)];simp[auz,l5,e6,i6,Ui.toD,pD]
 .rcases cz.mp hg with q|q
  .exact d3 g (um q)
  .exact d3 g (uo q)
 .simp;lia
def knD:List D:=kn.map λZ=>.tup (Z.map aD)
noncomputable def kX1:Ex:=(.Ax (.q (.tup (.q (.tup (.p (.i 0) (.i 1))) (.tup (.p (.i 0) (.i 1))) (.tup (.p (.i 1) (.i 2))))) (.tup (.c (.tup (.p (.i 0) (.i 1))) (.q (.tup (.p (.i 1) (.i 2))) (.tup (.p (.i 0) (.i 2))) (.tup (.p (.i 2) (.i 3)))))) (.tup (.c (.tup (.p (.i 0) (.i 1))) (.c (.tup (.p (.i 0) (.i 2))) (.q (.tup (.p (.i 1) (.i 3))) (.tup (.p (.i 2) (.i 3))) (.tup (.p (.i 3) (.i 4)))))))))
noncomputable def kX2:Ex:=(.Ax (.p (.tup (.c (.tup (.p (.i 0) (.i 1))) (.c (.tup (.p (.i 1) (.i 2))) (.c (.tup (.p (.i 0) (.i 3))) (.c (.tup (.p (.i 3) (.i 4))) (.q (.tup (.p (.i 1) (.i 4))) (.tup (.p (.i 2) (.i 5))) (.tup (.p (.i 4) (.i 5))))))))) (.tup (.c (.tup (.p (.i 3) (.i 1))) (.c (.tup (.p (.i 3) (.i 1))) (.q (.tup (.p (.i 1) (.i 0))) (.tup (.p (.i 1) (.i 0))) (.tup (.p (.i 0) (.i 2)))))))))
def fS:Aj:=.f (.cmp .gt (.call 2 (.p (.v 0) (.i 3))) (.i 0)) (.o (.a 1 (.ix (.v 4) (.call 2 (.p (.v 0) (.i 5))))))
def agz(hm:3<=m)(hs:Zo t f M):∃s V M',prog.call m 27 [.ref t] M=.ok s.toD M'/\Dg s V/\St t f M M':=by
 rw[call_of (az (by decide) hm) rfl];have tl:=hs.lt;have S0:St t f M (M++[.lst []]):=.of hs (ni.app _ _);obtain⟨es,Z,G,M1,e1,g1,R,n1,n2,S1⟩:=sy1 (m:=m-1) (by lia) hs Bj S0 (bc _);obtain⟨v,M2,e2,hv,S2,_⟩:=w6 (m:=m-1) (many:=3) (by lia) S1.has (by decide) (by decide);have g2:=S2.keep _ _ (show M.length≠t by lia) g1;have qq:∃d es V M3,ifK ((my.o (.a 1 (.ix (.v 4) (.call 2 (.p (.v 0) (.i 5)))))).den (PW (m-1)) (EY t (sR M.length) Z G (some (.vl knD)) none none none none)) (my.nil.den (PW (m-1)) (EY t (sR M.length) Z G (some (.vl knD)) none none none none)) (.ok (.bl (decide (0<(v:Int)))) M2)=.ok (.next,EY t (some d) Z G (some (.vl knD)) none none none none) M3/\Ends es V/\(∀M5,St t f M3 M5->j8 M5 d=some (es.map aD))/\St t f M2 M3:=by
  by_cases h:v=0
  .subst h
   exact⟨.ref M.length,es,_,M2,rfl,ajx R n1 n2,λM5 s=>Dk (iw (s.keep _ _ (by lia) g2)),.refl S2.has⟩
  .obtain⟨k,M3,e3,hk,S3,_⟩:=w6 (m:=m-1) (many:=5) (by lia) S2.has (by decide) (by decide)
   obtain⟨x,hx⟩:∃x,kn[k]?=some x:=⟨_,bj (by show k<5;lia)⟩;obtain⟨V,E⟩:=aow (au hx);refine⟨.tup (x.map aD),x,V,M3,?_,E,λ_ _=>rfl,S3⟩;have h':(0:Int)<(v:Int):=by lia
   have i3:rz (.vl knD) (.int k) M3=some (.tup (x.map aD)):=yf rfl (jc _) (by simp[knD,hx]);rw[decide_eq_true h',azt];simp[e3,i3]
 obtain⟨d,q1,V,M3,e3,E,hd,S3⟩:=qq;obtain⟨s,q0,M4,e4,h4,S4⟩:=aoy (m:=m-1) (b2:=Z) (b3:=G) (b4:=some (.vl knD)) (by lia) S3.has E hd;refine⟨s,V,M4,?_,h4,((S1.trans S2).trans S3).trans S4⟩;have qv:∀U M,kX1.den (PW (m-1)) U M=.ok (.vl (knD.take 3)) M:=λU M=>rfl
 have qk:∀U M,kX2.den (PW (m-1)) U M=.ok (.vl (knD.drop 3)) M:=λU M=>rfl
 have ka:∀M,Bs .add (.vl (knD.take 3)) (.vl (knD.drop 3)) M=.ok (.vl knD) M:=λM=>by rw[Fw _ _ (by rw[<- jd,qg];show 5<=100000;decide),qg]
 have b0:Mm=.c (.a 1 (.lst .z)) (.c De (.c (.a 4 kX1) (.c (.a 4 (.bin .add (.v 4) kX2)) (.c fS tlS)))):=rfl;have e0:fS.den (PW (m-1)) (EY t (sR M.length) Z G (some (.vl knD)) none none none none) M1=.ok (.next,EY t (some d) Z G (some (.vl knD)) none none none none) M3:=by rw[fS,ai2,Ro,Zz];simp only[Df,Et,aua,Ha,Res.t6,e2,cmp_gt,qj,Res.qm];exact e3
 simp only[Fn.run,Mp,b0];simp[MW.new,e1,qv,qk,ka,e0,e4]
noncomputable abbrev Mk:=List (List Nat×List Nat)
noncomputable def mkOf(Z:Mk)(w:Y3):List Nat:=((Z.find? λp=>decide (p.1=w)).map (·.2)).getD w
noncomputable def kx(w:Y3):List Kx:=w.map λ(x:Nat)=>Sum.inl (x:Int)
def Nt(Z:Mk):List (List Kx×D):=Z.map λp=>(kx p.1,dz p.2)
theorem acu:∀{a b:Y3},kx a=kx b->a=b
 |[],[],_=>rfl|[],_::_,h=>by simp[kx] at h|_::_,[],h=>by simp[kx] at h
 |x::a,y::b,h=>by
  have Z:(Sum.inl (x:Int):Kx)=.inl (y:Int):=(t7 h).1;have G:(x:Int)=(y:Int):=Sum.inl.inj Z;rw[acu (t7 h).2,show x=y by lia]
def K4(w:Y3):Nx (dz w)=some (kx w):=by
 show acd (w.map nD)=some (kx w)
 induction w with
 |nil=>rfl|cons x w Z=>simp only[di,acd,Z];rfl
def ajz(a b:Y3):decide (kx a=kx b)=decide (a=b):=by
 by_cases h:a=b
 .simp[h]
 .have:¬kx a=kx b:=λe=>h (acu e)
  simp[h,this]
def lk_row(Z:Mk)(w:Y3):Eh (Nt Z) (kx w)=(Z.find? λp=>decide (p.1=w)).map λp=>dz p.2:=by
 unfold Eh Nt
 induction Z with
 |nil=>rfl
 |cons p Z G =>
  simp only[di,m5,ajz]
  by_cases h:p.1=w
  .simp[h]
  .simp only[h,decide_false];exact G
def au0(Z:Mk)(w:Y3):(Eh (Nt Z) (kx w)).getD (dz w)=dz (mkOf Z w):=by rw[lk_row,mkOf];cases Z.find? λp=>decide (p.1=w)<;>rfl
noncomputable def Di(Z:Mk)(w v:Y3):Mk:=if w∈Z.map (·.1) then Z.map (λp=>if p.1=w then(p.1,v) else p) else Z++[(w,v)]
def acv(mk:Mk)(w v:Y3):Te (Nt mk) (kx w) (dz v)=Nt (Di mk w v):=by
 have e:((Nt mk).any λkv=>decide (kv.1=kx w))=decide (w∈mk.map (·.1)):=by
  induction mk with
  |nil=>simp[Nt]
  |cons p mk Z =>
   have:Nt (p::mk)=(kx p.1,dz p.2)::Nt mk:=rfl;rw[this,wu,Z,ajz,di]
   by_cases h:p.1=w
   .simp[h]
   .simp[h,kh h]
 unfold Te Di;rw[e]
 by_cases h:w∈mk.map (·.1)
 .rw[bz (by simpa using h),bz h,Nt,Nt,g8,g8]
  refine m9 λp _=>?_
  show(if kx p.1=kx w then(kx p.1,dz v) else(kx p.1,dz p.2))=_
  by_cases q:p.1=w
  .simp[q]
  .have:¬kx p.1=kx w:=λe=>q (acu e)
   simp[q,this]
 .rw[cj (by simpa using h),cj h];simp[Nt]
def find_some{mk:Mk}(h:w∈mk.map (·.1)):∃v,mk.find? (λp=>decide (p.1=w))=some (w,v)/\(w,v)∈mk:=by
 induction mk with
 |nil=>cases h
 |cons p mk Z =>
  by_cases e:p.1=w
  .exact⟨p.2,by simp[<- e],by rw[<- e];exact bx⟩
  .rw[di] at h
   rcases dg.mp h with q|q
   .exact absurd q.symm e
   .obtain⟨v,U,G⟩:=Z q
    exact⟨v,by simp[e,U],bh _ G⟩
def find_none{Z:Mk}(h:w∉Z.map (·.1)):Z.find? (λp=>decide (p.1=w))=none:=by rw[List.find?_eq_none];intro p G e;exact h (dq.mpr ⟨p,G,by simpa using e⟩)
def Ul{Z:Mk}(h:w∉Z.map (·.1)):mkOf Z w=w:=by rw[mkOf,find_none h];rfl
def aoz{mk:Mk}(h:w∈mk.map (·.1)):(w,mkOf mk w)∈mk:=by obtain⟨v,G,Z⟩:=find_some h;rw[mkOf,G];exact Z
def Oq(Z:Mk)(w v:Y3):∀x,x∈(Di Z w v).map (·.1)↔x∈Z.map (·.1)\/x=w:=λx=>by
 unfold Di
 by_cases h:w∈Z.map (·.1)
 .rw[bz h,g8]
  have:(((λ(p:List Nat×List Nat)=>p.1) ∘ λp=>if p.1=w then(p.1,v) else p):List Nat×List Nat->List Nat)=λp=>p.1:=by funext p;by_cases q:p.1=w<;>simp[q]
  rw[this];exact⟨.inl,λq=>q.elim id λe=>e▸h⟩
 .rw[cj h];simp
def aj0(Z:Mk)(w v x:Y3):mkOf (Di Z w v) x=if x=w then v else mkOf Z x:=by
 unfold Di
 by_cases h:w∈Z.map (·.1)
 .rw[bz h]
  unfold mkOf;have e:∀l:Mk,((l.map λp=>if p.1=w then(p.1,v) else p).find? λp=>decide (p.1=x))=(l.find? λp=>decide (p.1=x)).map λp=>if p.1=w then(p.1,v) else p:=λl=>by
   induction l with
   |nil=>rfl
   |cons p l G =>
    have R:(if p.1=w then(p.1,v) else p).1=p.1:=by by_cases q:p.1=w<;>simp[q]
    simp only[di,m5,R,G]
    by_cases q:p.1=x<;>simp[q]
  rw[e]
  by_cases q:x=w
  .subst q
   obtain⟨u,U,_⟩:=find_some h;rw[U];simp
  .rw[cj q]
   cases hf:Z.find? λp=>decide (p.1=x) with
   |none=>rfl
   |some p =>
    have:p.1=x:=by have:=List.find?_some hf;simpa using this
    have:¬p.1=w:=by rw[this];exact q
    simp[this]
 .rw[cj h]
  unfold mkOf;rw[List.find?_append]
  by_cases q:x=w
  .subst q
   rw[find_none h];simp
  .rw[cj q]
   cases Z.find? λp=>decide (p.1=x) with
   |some p=>rfl|none=>simp[kh q]
def Qd{Z:Mk}(h:(Z.map (·.1)).Nodup)(w v:Y3):((Di Z w v).map (·.1)).Nodup:=by
 unfold Di
 by_cases q:w∈Z.map (·.1)
 .rw[bz q,g8]
  have:(((λ(p:List Nat×List Nat)=>p.1) ∘ λp=>if p.1=w then(p.1,v) else p):List Nat×List Nat->List Nat)=λp=>p.1:=by funext p;by_cases q:p.1=w<;>simp[q]
  rw[this];exact h
 .rw[cj q,gh]
  exact nu.mpr ⟨h,by simp,λa U b G e=>by simp at G;subst G;subst e;exact q U⟩
def Rz(Z:Mk)(w v:Y3):(Di Z w v).length<=Z.length+1:=by unfold Di;split<;>simp
noncomputable def Wl(kept Z:Y3)(p:List Nat×List Nat):List Nat×List Nat:=if p.2=Z then(p.1,kept) else p
def tkM(Z:Mk)(a b:Y3):Mk:=(Di (Di Z a (mkOf Z a)) b (mkOf Z b)).map (Wl (mkOf Z a) (mkOf Z b))
def aew(Z:Mk)(a b x:Y3):mkOf (Di (Di Z a (mkOf Z a)) b (mkOf Z b)) x=mkOf Z x:=by
 rw[aj0,aj0]
 by_cases h:x=b
 .rw[bz h,h]
 .rw[cj h]
  by_cases q:x=a
  .rw[bz q,q]
  .rw[cj q]
structure TI(ss:List Sp)(mk:Mk):Prop where
 nd:(mk.map (·.1)).Nodup
 vk:∀p∈mk,p.2∈mk.map (·.1)
 id:∀w,mkOf mk (mkOf mk w)=mkOf mk w
 tog:∀w u,mkOf mk w=mkOf mk u↔Ol ss w u
 l:mk.length<=2*ss.length
def Yd(k g:Y3)(p:List Nat×List Nat):(Wl k g p).1=p.1:=by unfold Wl;split<;>rfl
def R8(k g:Y3)(Z:Mk):(Z.map (Wl k g)).map (·.1)=Z.map (·.1):=by rw[g8];exact m9 λp _=>Yd k g p
def aj2(T:TI ss mk)(a b w:Y3):mkOf mk w∈mk.map (·.1)\/mkOf mk w=w:=by
 by_cases h:w∈mk.map (·.1)
 .exact .inl (T.vk _ (aoz h))
 .exact .inr (Ul h)
def a0b(T:TI ss mk)(a b w:Y3):mkOf (tkM mk a b) w=if mkOf mk w=mkOf mk b then mkOf mk a else mkOf mk w:=by
 have G:∀x,x=a\/x=b->mkOf mk x∈(Di (Di mk a (mkOf mk a)) b (mkOf mk b)).map (·.1):=λx hx=>by
  rw[Oq,Oq];rcases aj2 T a b x with q|q
  .exact .inl (.inl q)
  .rw[q];rcases hx with rfl|rfl
   .exact .inl (.inr rfl)
   .exact .inr rfl
 have Z:=aew mk a b w;unfold tkM
 by_cases h:w∈(Di (Di mk a (mkOf mk a)) b (mkOf mk b)).map (·.1)
 .obtain⟨v,U,_⟩:=find_some h
  have e:v=mkOf mk w:=by rw[<- Z,mkOf,U];rfl
  have f:∀l:Mk,l.find? (λp=>decide (p.1=w))=some (w,v)->(l.map (Wl (mkOf mk a) (mkOf mk b))).find? (λp=>decide (p.1=w))=some (Wl (mkOf mk a) (mkOf mk b) (w,v)):=λl=>by
   induction l with
   |nil=>intro h;cases h
   |cons p l R =>
    intro h;simp only[di,m5,Yd] at h ⊢
    by_cases q:p.1=w
    .simp only[q,decide_true] at h ⊢;cases h;rfl
    .simp only[q,decide_false] at h ⊢;exact R h
  rw[mkOf,f _ U,e];unfold Wl
  by_cases q:mkOf mk w=mkOf mk b<;>simp[q]
 .rw[Ul (by rw[R8];exact h)]
  have e:mkOf mk w=w:=by rw[<- Z];exact Ul h
  rw[e,cj];intro q;exact h (q▸G b (.inr rfl))
def ao0(T:TI ss mk)(x:Sp):TI (ss++[x]) (tkM mk x.a x.b):=by
 have R:=a0b T x.a x.b;have qq:=T.id x.a;refine⟨?_,λp hp=>?_,λw=>?_,λw u=>?_,?_⟩
 .unfold tkM;rw[R8];exact Qd (Qd T.nd _ _) _ _
 .have keys:∀y,y∈(tkM mk x.a x.b).map (·.1)↔(y∈mk.map (·.1)\/y=x.a)\/y=x.b:=λy=>by unfold tkM;rw[R8,Oq,Oq]
  have Z:∀y,y∈(tkM mk x.a x.b).map (·.1)->mkOf mk y∈(tkM mk x.a x.b).map (·.1):=λy hy=>by
   rcases aj2 T x.a x.b y with q|q
   .exact(keys _).mpr (.inl (.inl q))
   .rw[q];exact hy
  have hk:p.1∈(tkM mk x.a x.b).map (·.1):=dq.mpr ⟨p,hp,rfl⟩;obtain⟨r,hr,rfl⟩:=dq.mp hp;have qv:=Qd (Qd T.nd x.a (mkOf mk x.a)) x.b (mkOf mk x.b);have qk:r.1∈(Di (Di mk x.a (mkOf mk x.a)) x.b (mkOf mk x.b)).map (·.1):=dq.mpr ⟨r,hr,rfl⟩;have e:r.2=mkOf mk r.1:=by
   obtain⟨v,G,h2⟩:=find_some qk;have:v=mkOf mk r.1:=by rw[<- aew mk x.a x.b r.1,mkOf,G];rfl
   obtain⟨i,hi⟩:=jw.mp hr;obtain⟨j,U⟩:=jw.mp h2;have:i=j:=K1 qv (x:=r.1) (by rw[iu,hi];rfl) (by rw[iu,U];rfl);subst this;rw[hi] at U;have U:=gq U;rw[U];assumption
  rw[Yd] at hk;unfold Wl;split
  .exact Z x.a ((keys _).mpr (.inl (.inr rfl)))
  .rw[e];exact Z _ hk
 .rw[R,R w]
  by_cases q:mkOf mk w=mkOf mk x.b
  .rw[bz q]
   split
   .rfl
   .exact qq
  .rw[cj q,T.id,cj q]
 .rw[R,R]
  constructor
  .intro h
   have sw:Ol (ss++[x]) x.a x.b:=.step .refl (gf _ bx) (.inl ⟨rfl,rfl⟩)
   by_cases q:mkOf mk w=mkOf mk x.b
   .rw[bz q] at h
    have G:=((T.tog _ _).mp q).more (X:=[x])
    by_cases r:mkOf mk u=mkOf mk x.b
    .exact G.trans ((T.tog _ _).mp r).more.symm
    .rw[cj r] at h
     exact(G.trans sw.symm).trans ((T.tog _ _).mp h).more
   .rw[cj q] at h
    by_cases r:mkOf mk u=mkOf mk x.b
    .rw[bz r] at h
     exact(((T.tog _ _).mp h).more.trans sw).trans ((T.tog _ _).mp r).more.symm
    .rw[cj r] at h
     exact((T.tog _ _).mp h).more
  .intro h
   induction h with
   |refl=>rfl
   |step _ G h2 ih =>
    refine ih.trans ?_;have fin:∀{y z:Y3},mkOf mk y=mkOf mk z->(if mkOf mk y=mkOf mk x.b then mkOf mk x.a else mkOf mk y)=if mkOf mk z=mkOf mk x.b then mkOf mk x.a else mkOf mk z:=λe=>by rw[e]
    have Z:(if mkOf mk x.a=mkOf mk x.b then mkOf mk x.a else mkOf mk x.a)=if mkOf mk x.b=mkOf mk x.b then mkOf mk x.a else mkOf mk x.b:=by simp
    rcases cz.mp G with q|q
    .rcases h2 with⟨rfl,rfl⟩|⟨rfl,rfl⟩
     .exact fin ((T.tog _ _).mpr (.step .refl q (.inl ⟨rfl,rfl⟩)))
     .exact fin ((T.tog _ _).mpr (.step .refl q (.inr ⟨rfl,rfl⟩)))
    .simp at q;subst q
     rcases h2 with⟨rfl,rfl⟩|⟨rfl,rfl⟩
     .exact Z
     .exact Z.symm
 .unfold tkM
  have:=Rz (Di mk x.a (mkOf mk x.a)) x.b (mkOf mk x.b);have:=Rz mk x.a (mkOf mk x.a);have:=T.l
  simp;lia
def au1:TI [] []:=⟨by simp,by simp,λ_=>rfl,λw u=>⟨λh=>by have h:w=u:=h;rw[h];exact .refl,λh=>by
 induction h with
 | refl=>rfl|step _ Z _ _=>cases Z⟩,bc _⟩
structure Tie(t p q:Nat)(M:du)(ss:List Sp)(mk:Mk):Prop where
 i:M[t]?=some (.ins 3 [(1,.ref p),(0,.ref q)])
 s:M[p]?=some (.lst (ss.map Sp.toD))
 k:M[q]?=some (.dT (Nt mk))
def a0c{Z:Mk}(T:Tie t p q M ss Z):Il (.ref t) 1 M=some (.ref p):=by simp[Il,T.i,List.lookup]
def asp{Z:Mk}(T:Tie t p q M ss Z):Il (.ref t) 0 M=some (.ref q):=by simp[Il,T.i,List.lookup]
def au2{Z:Mk}(T:Tie t p q M ss Z):t≠p:=by rintro rfl;have:=T.i;rw[T.s] at this;cases this
def au3{Z:Mk}(T:Tie t p q M ss Z):t≠q:=by rintro rfl;have:=T.i;rw[T.k] at this;cases this
def au4{Z:Mk}(T:Tie t p q M ss Z):p≠q:=by rintro rfl;have:=T.s;rw[T.k] at this;cases this
def Two(p q:Nat)(M Z:du):Prop:=∀(a:Nat)(o:MO),a≠p->a≠q->M[a]?=some o->Z[a]?=some o
def Two.refl(p q:Nat)(M:du):Two p q M M:=λ_ _ _ _ h=>h
def Two.trans(a:Two p q M Z)(b:Two p q Z M2):Two p q M M2:=λx o n k h=>b x o n k (a x o n k h)
def Two.of(k:ni M M'):Two p q M M':=λa o _ _ h=>k a o h
def acx:prog.cls[3]?=some ⟨15,[(0,16),(1,17),(2,18)]⟩:=rfl
def au5(h:M[n]?=some (.dT Z)):Pn .get (.ref n) M=true:=by simp[Pn,h]
def aex{Z:Mk}(G:1<=m)(T:Tie t p q M ss Z):prog.call m 16 [.ref t,dz w] M=.ok (dz (mkOf Z w)) M:=by
 rw[call_of G rfl];have g:Hs .get (.ref q) [dz w,dz w] M=.ok (dz (mkOf Z w)) M:=by simp[Hs,onT,T.k,K4,au0]
 simp[Fn.run,Qt,Qs,asp T,au5 T.k,g]
def Ye{Z:Mk}(G:2<=m)(T:Tie t p q M ss Z):prog.call m 17 [.ref t,dz a,dz b] M=.ok (.bl (decide (mkOf Z a=mkOf Z b))) M:=by
 rw[call_of (az (by decide) G) rfl];have e:∀w,prog.call (m-1) 16 [.ref t,dz w] M=.ok (dz (mkOf Z w)) M:=λw=>aex (by lia) T
 simp[Fn.run,Jy,Jx,T.i,acx,List.lookup,e,Ie]
def ao2{A B:Mk}{pr:List Nat×List Nat}(h:((A++pr::B).map (·.1)).Nodup):Eh (Nt (A++pr::B)) (kx pr.1)=some (dz pr.2)/\∀v,Di (A++pr::B) pr.1 v=A++(pr.1,v)::B:=by
 have G:pr.1∉A.map (·.1):=by rw[gh,nu] at h;intro q;exact h.2.2 _ q pr.1 (by simp) rfl
 have nb:pr.1∉B.map (·.1):=by rw[gh,nu] at h;exact(o9.mp h.2.1).1
 have Z:∀(l:Mk)(v:Y3),pr.1∉l.map (·.1)->(l.map λp=>if p.1=pr.1 then(p.1,v) else p)=l:=λl v U=>by
  conv=>rhs;rw[<- List.map_id l]
  refine m9 λp R=>?_
  have:¬p.1=pr.1:=λe=>U (e▸dq.mpr ⟨p,R,rfl⟩)
  simp[this]
 constructor
 .rw[lk_row,List.find?_append,find_none G];simp
 .intro v
  unfold Di;rw[bz (by simp),gh,di,Z A v G,Z B v nb];simp
def ao3(w:Y3):agv (kx w)=dz w:=by unfold agv kx dz;rw[g8];rfl
def aj3(Z:Mk):((Nt Z).map λp=>agv p.1)=(Z.map (·.1)).map dz:=by rw[Nt,g8,g8];exact m9 λp _=>ao3 _
def ao4{Z:Mk}{M:du}(hi:M[t]?=some (.ins 3 [(1,.ref p),(0,.ref q)]))(hk:M[q]?=some (.dT (Nt Z)))(nd:(Z.map (·.1)).Nodup)(hl:Z.length<=1000)(qv:t≠q) :
 ∃R U,Ht.den (PW m) [sR t,b1,some (dz kept),some (dz gn),none] M=.ok (.next,[sR t,b1,some (dz kept),some (dz gn),R]) U/\U[q]?=some (.dT (Nt (Z.map (Wl kept gn))))/\Mf q M U/\U.length=M.length:=by
 unfold Ht;have li:v7 .list [.ref q] M=.ok (.vl ((Z.map (·.1)).map dz)) M:=by
  have a:j8 M (.ref q)=none:=by simp[j8,fj,hk]
  have l:(Nt Z).length<=1000:=by simpa[Nt] using hl
  simp only[v7,Ma,a,hk,bz l,aj3]
 have fl:Il (.ref t) 0 M=some (.ref q):=by simp[Il,hi,List.lookup]
 obtain⟨q1,U,e,R,rfl,h1,h2,h3⟩:=zy (W:=PW m) (it:=.blt .list (.o (.fld (.v 0) 0))) (t:=.name 4) (b:=Eo) (ρ:=[sR t,b1,dz kept,dz gn,none]) (M:=M) (M1:=M) (d:=.vl ((Z.map (·.1)).map dz)) (by simp[fl,li]) rfl
  (λi ρ G=>∃R,ρ=[sR t,b1,some (dz kept),some (dz gn),R]/\G[q]?=some (.dT (Nt ((Z.take i).map (Wl kept gn)++Z.drop i)))/\Mf q M G/\G.length=M.length)
  ⟨none,rfl,by simpa using hk,Mf.refl _ _,rfl⟩ (λ_ _ _ _=>rfl) (λi x ρ G hx hI=>by
   obtain⟨R,rfl,g1,g2,g3⟩:=hI;obtain⟨pr,hp,rfl⟩:∃pr,Z[i]?=some pr/\dz pr.1=x:=by simpa using hx
   have qk:=(ak.mp hp).1;have dr:Z.drop i=pr::Z.drop (i+1):=by rw[vo qk,(ak.mp hp).2]
   have q0:(((Z.take i).map (Wl kept gn)++pr::Z.drop (i+1)).map (·.1)).Nodup:=by
    have:((Z.take i).map (Wl kept gn)++pr::Z.drop (i+1)).map (·.1)=Z.map (·.1):=by rw[gh,R8,<- dr,<- gh,qg]
    rw[this];exact nd
   rw[dr] at g1;obtain⟨f1,f2⟩:=ao2 q0;have qq:Il (.ref t) 0 G=some (.ref q):=by simp[Il,g2 t _ qv hi,List.lookup]
   have x1:rz (.ref q) (dz pr.1) G=some (dz pr.2):=by rw[az1 g1 (K4 _),f1]
   have tk:(Z.take (i+1)).map (Wl kept gn)++Z.drop (i+1)=(Z.take i).map (Wl kept gn)++Wl kept gn pr::Z.drop (i+1):=by rw[vg,hp];simp
   by_cases e:pr.2=gn
   .refine⟨_,.next,[sR t,b1,some (dz kept),some (dz gn),some (dz pr.1)],G.set q (.dT (Nt ((Z.take (i+1)).map (Wl kept gn)++Z.drop (i+1)))),rfl,?_,.inl rfl,_,rfl,qp g1,g2.trans (Mf.set _ _ _),by simpa using g3⟩
    have st:=aci (d:=dz kept) g1 (K4 pr.1) (by simp[Nt];lia);rw[acv,f2] at st;rw[tk];have sw:Wl kept gn pr=(pr.1,kept):=by simp[Wl,e]
    simp[Eo,qq,x1,Ie,e,st,sw]
   .refine⟨_,.next,[sR t,b1,some (dz kept),some (dz gn),some (dz pr.1)],G,rfl,?_,.inl rfl,_,rfl,?_,g2,g3⟩
    .simp[Eo,qq,x1,Ie,e]
    .rw[tk,show Wl kept gn pr=pr by simp[Wl,e]];exact g1)
 refine⟨R,U,e,?_,h2,h3⟩;simpa using h1
def ao5{mk:Mk}(hm:2<=m)(T:Tie t p q M ss mk)(I:TI ss mk)(x:Sp)(hl:ss.length<=100) :
 ∃G,prog.call m 18 [.ref t,x.toD] M=.ok .non G/\Tie t p q G (ss++[x]) (tkM mk x.a x.b)/\Two p q M G/\G.length=M.length:=by
 rw[call_of (az (by decide) hm) rfl];have R:=au4 T;have tp:=au2 T;have U:=au3 T;have il:=I.l;have ap:=Hb (d:=x.toD) T.s (by simp;lia);generalize hM1:M.set p (.lst (ss.map Sp.toD++[x.toD]))=M1 at ap;have Z:Tie t p q M1 (ss++[x]) mk:=⟨by rw[<- hM1,lr (kh tp)];exact T.i,by rw[<- hM1,qp T.s];simp,by rw[<- hM1,lr R];exact T.k⟩;have e1:∀w,prog.call (m-1) 16 [.ref t,dz w] M1=.ok (dz (mkOf mk w)) M1:=λw=>aex (by lia) Z
 have s1:=aci (d:=dz (mkOf mk x.a)) Z.k (K4 x.a) (by simp[Nt];lia);rw[acv] at s1;generalize hM2:M1.set q (.dT (Nt (Di mk x.a (mkOf mk x.a))))=M2 at s1;have k2:M2[q]?=some (.dT (Nt (Di mk x.a (mkOf mk x.a)))):=by rw[<- hM2];exact qp Z.k
 have i2:M2[t]?=some (.ins 3 [(1,.ref p),(0,.ref q)]):=by rw[<- hM2,lr (kh U)];exact Z.i
 have l1:=Rz mk x.a (mkOf mk x.a);have s2:=aci (d:=dz (mkOf mk x.b)) k2 (K4 x.b) (by simp[Nt];lia);rw[acv] at s2;have l2:=Rz (Di mk x.a (mkOf mk x.a)) x.b (mkOf mk x.b);generalize hM3:M2.set q (.dT (Nt (Di (Di mk x.a (mkOf mk x.a)) x.b (mkOf mk x.b))))=M3 at s2;have k3:M3[q]?=some (.dT (Nt (Di (Di mk x.a (mkOf mk x.a)) x.b (mkOf mk x.b)))):=by rw[<- hM3];exact qp k2
 have i3:M3[t]?=some (.ins 3 [(1,.ref p),(0,.ref q)]):=by rw[<- hM3,lr (kh U)];exact i2
 obtain⟨b4,M4,e4,k4,B4,l4⟩:=ao4 (m:=m-1) (b1:=some x.toD) (kept:=mkOf mk x.a) (gn:=mkOf mk x.b) i3 k3 (Qd (Qd I.nd _ _) _ _) (by lia) U;have x0:∀M,rz x.toD (.int 0) M=some (dz x.a):=λM=>Bh _ _
 have x1:∀M,rz x.toD (.int 1) M=some (dz x.b):=λM=>Cu _ _ _
 have f2:Il (.ref t) 0 M2=some (.ref q):=by simp[Il,i2,List.lookup]
 refine⟨M4,?_,⟨B4 _ _ U i3,?_,k4⟩,?_,?_⟩
 .simp only[Fn.run,Qv,Qu]
  simp[a0c T,Ke T.s,ap,Z.i,acx,List.lookup,x0,x1,e1,asp Z,s1,f2,s2,e4]
 .refine B4 _ _ R ?_
  rw[<- hM3,lr (kh R),<- hM2,lr (kh R)];exact Z.s
 .intro a o n1 n2 h
  refine B4 a o n2 ?_;rw[<- hM3,lr (kh n2),<- hM2,lr (kh n2),<- hM1,lr (kh n1)];exact h
 .rw[l4,<- hM3,<- hM2,<- hM1];simp
def ao6(G:1<=m):prog.call m 15 [.ref M.length] (M++[.ins 3 []])=.ok .non (M++[.ins 3 [(1,.ref (M.length+1)),(0,.ref (M.length+2))],.lst [],.dT []]):=by
 rw[call_of G rfl];have Z:Th (.ref M.length) 1 (.ref (M.length+1)) (M++[.ins 3 [],.lst []])=some (M++[.ins 3 [(1,.ref (M.length+1))],.lst []]):=by simp[Th,Tf]
 have U:Th (.ref M.length) 0 (.ref (M.length+2)) (M++[.ins 3 [(1,.ref (M.length+1))],.lst [],.dT []])=some (M++[.ins 3 [(1,.ref (M.length+1)),(0,.ref (M.length+2))],.lst [],.dT []]):=by simp[Th,Tf]
 simp[Fn.run,Ml,Mj,MW.new,Z,U]
noncomputable def arw:Gn->Nat
 |.apart k=>k|.same _ _=>0
def Ui.ks(s:Ui):List Nat:=(s.gs.filter λg=>!isS g).map arw
def aj5{s:Ui}{k:Nat}:k∈s.ks↔.apart k∈s.gs:=by
 unfold Ui.ks;rw[dq];constructor
 .rintro⟨g,G,rfl⟩
  obtain⟨U,Z⟩:=sy.mp G;cases g with
  |same a b=>cases Z|apart k=>exact U
 .intro h
  exact⟨_,sy.mpr ⟨h,rfl⟩,rfl⟩
def a0f{s:Ui}(Z:1<=m)(U:s.gs.length<=8):prog.call m 14 [.tup (s.gs.map Gn.toD)] M=.ok (.vl (s.ks.map nD)) M:=by
 rw[call_of Z rfl];have c:Ei.den (PW (m-1)) [some (.tup (s.gs.map Gn.toD))] M=.ok (.vl (s.ks.map nD)) M:=by
  unfold Ei;rw[Jm (d:=.tup (s.gs.map Gn.toD)) (M1:=M) (xs:=s.gs) (f:=Gn.toD) (q:=λg=>!isS g) (g:=λg=>nD (arw g)) rfl rfl (by lia) (λg G=>⟨_,rfl,by
   cases g<;>simp[Gn.toD,isS,acp.symm],λh=>by
   cases g with
   | same a b=>cases h|apart k=>simp[Gn.toD,arw,nD]⟩)]
  simp[Ui.ks,g8,jl]
 simp[Fn.run,Kr,Kq,c]
noncomputable def cst(w:Y3):List Int:=w.map λ(x:Nat)=>(x:Int)
def Bg(w:Y3):iz (cst w)=dz w:=(asn w).symm
def Bk(w:Y3):(cst w).length=w.length:=by simp[cst]
def Ot(a b:Y3):cst (a++b)=cst a++cst b:=by simp[cst]
theorem za:∀{a b:Y3},cst a=cst b->a=b
 |[],[],_=>rfl|[],_::_,h=>by simp[cst] at h|_::_,[],h=>by simp[cst] at h
 |x::a,y::b,h=>by
  have Z:(x:Int)=(y:Int):=(t7 h).1;rw[za (t7 h).2,show x=y by lia]
theorem Ni:∀{r:X9},(∀x∈r,0<=x)->∃w,r=cst w
 |[],_=>⟨[],rfl⟩
 |x::r,h=>by
  obtain⟨w,rfl⟩:=Ni (r:=r) λy Z=>h y (bh _ Z)
  have:=h x bx;exact⟨x.toNat::w,by simp[cst];lia⟩
def Wm(h:cst u=a++b):∃c d,a=cst c/\b=cst d/\u=c++d:=by
 have G:∀x∈a++b,0<=x:=λx Z=>by
  rw[<- h] at Z;obtain⟨y,_,rfl⟩:=dq.mp Z
  lia
 obtain⟨c,rfl⟩:=Ni λx Z=>G x (jf b Z)
 obtain⟨d,rfl⟩:=Ni λx Z=>G x (gf (cst c) Z)
 exact⟨c,d,rfl,rfl,za (by rw[h,Ot])⟩
def IsW(Z:List Ar)(r:X9):Prop:=∃w,r=cst w/\Way Z w
def Um:IsW es (cst w)↔Way es w:=⟨λ⟨u,h,W⟩=>za h▸W,λW=>⟨w,rfl,W⟩⟩
def au6{Z:List Ar}{k:Int}(U:1<=m)(G:j8 M d=some (Z.map aD)):prog.call m 8 [d,.int k] M=.ok (.bl (decide (0<=k)&&decide (k<Z.length))) M:=by
 rw[call_of U rfl];have le:=Hn G;rw[dh] at le
 by_cases h:0<=k<;>simp[Fn.run,Ng,Nf,le,h]
theorem aey:∀{w:Y3},(∀p∈w.zip (w.drop 1),(at_ es p.1).2=(at_ es p.2).1)->Vo es w
 |[],_=>trivial|[_],_=>trivial
 | a::b::r,h=>⟨h (a,b) (by simp),aey (w:=b::r) λp Z=>h p (by
  simp only[List.drop_succ_cons,yx,List.zip_cons_cons,dg] at Z ⊢;exact .inr (by simpa using Z))⟩
def gW(Z:List Ar):D->D
 |.tup [.int a,.int b]=>.bl (decide ((at_ Z a.toNat).2=(at_ Z b.toNat).1))|_=>.non
def Ou{r:X9}(hm:2<=m)(hd:j8 M d=some (es.map aD))(Zn:es.length<=10)(rl:r.length<=1000):∃q,prog.call m 9 [d,iz r] M=.ok (.bl q) M/\(q=true↔IsW es r):=by
 rw[call_of (az (by decide) hm) rfl];simp only[Fn.run,Tt,Tq];have c2:Gs.den (PW (m-1)) [some d,some (iz r)] M=.ok (.vl (r.map λ(x:Int)=>.bl (decide (0<=x)&&decide (x<es.length)))) M:=by
  unfold Gs;rw[K3 (d:=iz r) (M1:=M) (xs:=r) (f:=D.int) (g:=λ(x:Int)=>.bl (decide (0<=x)&&decide (x<es.length))) rfl rfl (by lia) (λx Z=>⟨_,rfl,by
   have:=au6 (m:=m-1) (k:=x) (by lia) hd;simp[this]⟩)]
  rfl
 have t0:(Ex.ntr (.v 1)).den (PW (m-1)) [some d,some (iz r)] M=.ok (.bl r.isEmpty) M:=by show Res.rn (some (D.bl (r.map D.int).isEmpty)) M=_;rw[List.isEmpty_map];rfl
 have al:=aji (M:=M) (λx:Int=>decide (0<=x)&&decide (x<es.length)) r
 by_cases h0:r=[]
 .subst h0
  exact⟨false,by simp[t0,-Lq],by simp;rintro⟨w,G,W⟩;exact W.ne (za (a:=w) (b:=[]) G.symm)⟩
 have he:r.isEmpty=false:=by simpa using h0
 by_cases G:(r.all λx=>decide (0<=x)&&decide (x<es.length))=true
 case neg =>
  have G:(r.all λx=>decide (0<=x)&&decide (x<es.length))=false:=by simpa using G
  rw[G] at al;refine⟨false,by simp[t0,-Lq,he,c2,al],?_⟩;simp;rintro⟨w,rfl,W⟩;have:((cst w).all λx=>decide (0<=x)&&decide (x<es.length))=true:=by simp[cst];exact λx Z=>W.lt x Z
  rw[this] at G;cases G
 rw[G] at al;have h2:∀x∈r,0<=x/\x<es.length:=λx Z=>by simpa using qw.mp G x Z
 obtain⟨w,rfl⟩:=Ni λx Z=>(h2 x Z).1
 have U:∀x∈w,x<es.length:=λx Z=>by have:=(h2 x (dq.mpr ⟨x,Z,rfl⟩)).2;lia
 rw[Bk] at rl;have cu:Ef (iz (cst w)) (some 1) none M=some (iz (cst (w.drop 1))):=by have:=aad (M:=M) (cst w) 1;rw[show cst (w.drop 1)=(cst w).drop 1 by simp[cst]];exact this
 have zi:(Nb.zip (.p (.v 1) (.cut (.v 1) (.some (.i 1)) .none))).den (PW (m-1)) [some d,some (iz (cst w))] M=.ok (.con (Ti (w.map nD) ((w.drop 1).map nD))) M:=by rw[Xo];simp only[Df,Et,acf,Xm,Px,Pu,Ha,Res.t6,cu,Res.qm];rw[Bg,Bg];rfl
 have c1:Gr.den (PW (m-1)) [some d,some (iz (cst w))] M=.ok (.vl ((w.zip (w.drop 1)).map λp=>.bl (decide ((at_ es p.1).2=(at_ es p.2).1)))) M:=by
  unfold Gr;rw[Lw,zi];have ez:Ti (w.map nD) ((w.drop 1).map nD)=(w.zip (w.drop 1)).map λp=>.tup [nD p.1,nD p.2]:=by rw[Ti,List.zip_map,g8];rfl
  rw[ez,Res.t6];rw[aef (g:=gW es) (by simp;lia) (λx Z=>by
   obtain⟨p,R,rfl⟩:=dq.mp Z;have p1:=U p.1 (v9 R).1;have p2:=U p.2 (um (v9 R).2);simp[nD,Gb,Eg hd p1,Eg hd p2,aD,gW,Hl])]
  simp[g8,jl,gW,nD]
 have al2:=aji (M:=M) (λp:Nat×Nat=>decide ((at_ es p.1).2=(at_ es p.2).1)) (w.zip (w.drop 1));refine⟨(w.zip (w.drop 1)).all λp=>decide ((at_ es p.1).2=(at_ es p.2).1),?_,?_⟩
 .simp[-List.drop_one,t0,-Lq,he,c2,al,c1,al2]
 .rw[Um,qw]
  constructor
  .intro h
   exact⟨λq=>h0 (by rw[q];rfl),U,aey λp R=>jn (h p R)⟩
  .intro W p R
   exact decide_eq_true (W.ch.zip p R)
theorem aj6{n:Int}:∀(l:X9)(a:Int),n<=l.foldl (λm x=>if m<x then x else m) a↔n<=a\/∃x∈l,n<=x
 |[],a=>by simp
 |x::l,a=>by
  rw[Af,aj6 l];constructor
  .rintro(h|⟨y,Z,G⟩)
   .split at h
    .exact .inr ⟨x,bx,h⟩
    .exact .inl h
   .exact .inr ⟨y,bh _ Z,G⟩
  .rintro(h|⟨y,Z,G⟩)
   .left;split<;>lia
   .rcases dg.mp Z with rfl|Z
    .left;split<;>lia
    .exact .inr ⟨y,Z,G⟩
def au8{n:Int}(Z:(zs:X9)≠[]):∃v:Int,v7 .max [iz zs] M=.ok (.int v) M/\(n<=v↔∃z∈zs,n<=z):=by
 cases zs with
 |nil=>exact absurd rfl Z
 |cons a l =>
  refine⟨l.foldl (λm x=>if m<x then x else m) a,?_,?_⟩
  .show Res.rn (((V8 ((a::l).map D.int)).bind air).map D.int) M=_
   rw[X7];rfl
  .rw[aj6];simp
theorem aez:∀{w:Y3},(∀i a b,w[i]?=some a->w[i+1]?=some b->(at_ es a).2=(at_ es b).1)->Vo es w
 |[],_=>trivial|[_],_=>trivial|x::y::r,h=>⟨h 0 x y rfl rfl,aez (w:=y::r) λi a b G Z=>h (i+1) a b (by simpa using G) (by simpa using Z)⟩
def Qe{r:X9}(hm:1<=m)(hd:j8 M d=some (es.map aD))(rl:r.length<=1000)(hn:¬IsW es r):prog.call m 28 [d,iz r] M=.ok .non M:=by
 rw[call_of hm rfl];have le:=Hn hd;rw[dh] at le;have G:v7 .len [iz r] M=.ok (.int r.length) M:=by simp[iz,Bt]
 simp only[Fn.run,Gv,Gu]
 by_cases R:r=[]
 .subst R
  simp[G]
 have hp:0<r.length:=km.mpr R
 have n0:¬(r.length:Int)=0:=by lia
 obtain⟨v,mn,hv⟩:=ajj (M:=M) R
 by_cases v0:v<0
 .simp[G,n0,mn,v0,R]
 obtain⟨t,mx,ht⟩:=au8 (M:=M) (n:=es.length) R
 by_cases t0:(es.length:Int)<=t
 .simp[G,n0,mn,v0,mx,le,t0,R]
 have h1:∀x∈r,0<=x:=λx hx=>Int.not_lt.mp λg=>v0 (hv.mpr ⟨x,hx,g⟩)
 have h2:∀x∈r,x<es.length:=λx hx=>Int.not_le.mp λg=>t0 (ht.mpr ⟨x,hx,g⟩)
 obtain⟨w,rfl⟩:=Ni h1;have U:∀x∈w,x<es.length:=λx hx=>by have:=h2 x (dq.mpr ⟨x,hx,rfl⟩);lia
 rw[Bk] at hp rl G;have lp:Goes (λi ρ Z=>∃b2:Option D,ρ=[some d,some (dz w),b2]/\Z=M/\∀j a b,j<i->w[j]?=some a->w[j+1]?=some b->(at_ es a).2=(at_ es b).1) (λv Z=>v=.non/\Z=M) (w.length-1) (Be.den (PW (m-1)) [some d,some (dz w),none] M):=by
  unfold Be;refine Qo (n:=w.length-1) (M1:=M) (by
   have:(w.length:Int)-1=((w.length-1:Nat):Int):=by lia
   rw[Bg] at G;simp[G,this]) (by lia) _ _ ⟨none,rfl,rfl,λj a b hj=>absurd hj (qi _)⟩ (λi ρ Z hi hI=>?_)
  obtain⟨b2,rfl,rfl,hk⟩:=hI;obtain⟨a,ha⟩:∃a,w[i]?=some a:=⟨_,bj (by lia)⟩;obtain⟨b,hb⟩:∃b,w[i+1]?=some b:=⟨_,bj (by lia)⟩;have x1:=Xz (M:=Z) ha;have ei:((i:Int)+1)=((i+1:Nat):Int):=by lia
  have x2:rz (dz w) (.int ((i:Int)+1)) Z=some (.int (b:Nat)):=by rw[ei];exact Xz hb
  have y1:=Eg hd (U a (au ha));have y2:=Eg hd (U b (au hb));refine⟨_,rfl,?_⟩
  by_cases c:(at_ es a).2=(at_ es b).1
  .refine⟨.next,[some d,some (dz w),sI i],Z,?_,.inl ⟨rfl,_,rfl,rfl,λj a' b' hj g1 g2=>?_⟩⟩
   .simp only[Bd]
    simp[x1,x2,y1,y2,Wh,Wi,c]
   .rcases jo j i with q|q
    .exact hk j a' b' q g1 g2
    .have:j=i:=by lia
     subst this;rw[ha] at g1;rw[hb] at g2;cases g1;cases g2;exact c
  .refine⟨.ret .non,[some d,some (dz w),sI i],Z,?_,.inr ⟨_,rfl,rfl,rfl⟩⟩
   have c':¬((at_ es a).2:Int)=((at_ es b).1:Int):=by lia
   simp only[Bd];simp[x1,x2,y1,y2,Wh,Wi,c']
 obtain⟨fl,qq,Z,e,⟨rfl,b2,rfl,rfl,hk⟩|⟨v',rfl,rfl,rfl⟩⟩:=lp
 .exact absurd (Um.mpr ⟨λq=>R (by rw[q];rfl),U,aez λi a b g1 g2=>hk i a b (by have:=(ak.mp g2).1;lia) g1 g2⟩) hn
 .rw[Bg] at G mn mx ⊢
  have w0:¬w=[]:=λq=>by subst q;simp at hp
  rw[Bk] at n0;simp[G,n0,mn,v0,mx,le,t0,e,w0]
def ag0{a b:X9}(hm:3<=m)(Z:j8 M d=some (es.map aD))(E:Ends es V)(al:a.length<=1000)(bl:b.length<=1000):∃q,prog.call m 12 [d,iz a,iz b] M=.ok (.bl q) M/\(q=true↔∃u v,a=cst u/\b=cst v/\Ly es u v):=by
 rw[call_of (az (by decide) hm) rfl];obtain⟨q1,G,i1⟩:=Ou (m:=m-1) (M:=M) (r:=a) (by lia) Z E.few al;obtain⟨q2,h2,i2⟩:=Ou (m:=m-1) (M:=M) (r:=b) (by lia) Z E.few bl;simp only[Fn.run,Jd,Jc];cases q1 with
 |false =>
  refine⟨false,by simp[G],by simp;intro u R v hv B;have:=i1.mpr (R▸Um.mpr B.one);cases this⟩
 |true =>
  cases q2 with
  |false =>
   refine⟨false,by simp[G,h2],by simp;intro u R v hv B;have:=i2.mpr (hv▸Um.mpr B.two);cases this⟩
  |true =>
   obtain⟨u,rfl,U⟩:=i1.mp rfl;obtain⟨v,rfl,W⟩:=i2.mp rfl;rw[Bg] at G h2;rw[Bg,Bg];have h3:=X3 (m:=m-1) (M:=M) (by lia) Z U;have h4:=X3 (m:=m-1) (M:=M) (by lia) Z W;have h5:=Ug (m:=m-1) (M:=M) (by lia) Z U;have h6:=Ug (m:=m-1) (M:=M) (by lia) Z W;refine⟨decide (Ej es u=Ej es v)&&decide (Aq es u=Aq es v),?_,?_⟩
   .by_cases c:Ej es u=Ej es v
    .simp[G,h2,h3,h4,h5,h6,c,Hl]
    .have c':¬((Ej es u:Nat):Int)=(Ej es v:Nat):=by lia
     simp[G,h2,h3,h4,h5,h6,c,c']
   .simp
    constructor
    .intro h;exact⟨u,rfl,v,rfl,U,W,h.1,h.2⟩
    .rintro⟨u',R,v',hv,B⟩
     rw[za R,za hv];exact⟨B.st,B.go⟩
structure Rs where
 a:List Int
 b:List Int
 y:Wy
def Rs.toD(r:Rs):D:=.tup [iz r.a,iz r.b,r.y.toD]
def Sp.Wn(x:Sp):Rs:=⟨cst x.a,cst x.b,x.y⟩
def aaf(x:Sp):x.Wn.toD=x.toD:=by simp only[Sp.Wn,Rs.toD,Sp.toD,Bg]
def Uo(s:Ui)(Z:List Sp)(u v:Y3):Wy->Prop
 |.given i=>∃n:Nat,i=n/\s.gs[n]?=some (.same u v)|.off k=>∃n:Nat,k=n/\.apart n∈s.gs/\(at_ s.es n).1=Aq s.es u/\Ol Z (u++[n]) (v++[n])|.put h t _=>∃c d:List Nat,c≠[]/\d≠[]/\cst u=h++cst c++t/\cst v=h++cst d++t/\Ol Z c d
def Rgt(s:Ui)(Z:List Sp)(r:Rs):Prop:=∃u v,r.a=cst u/\r.b=cst v/\Ly s.es u v/\Uo s Z u v r.y
theorem Yg(M:du)(n:Nat):∀r s:List Int,Nq (Dh M (n+1)) (r.map D.int) (s.map D.int)=some (decide (r=s))
 |[],[]=>by simp[Nq]|[],_::_=>by simp[Nq]|_::_,[]=>by simp[Nq]
 |x::r,y::s=>by
  rw[di,di,An (f:=Dh M (n+1)) (a:=.int x) (b:=.int y) (Xu (M:=M) n x y) (Yg M n r s)]
  by_cases h:x=y<;>simp[h]
def Ov(M:du)(r s:X9):q9 M (iz r) (iz s)=some (decide (r=s)):=Yg M 4 r s
def aj7:PySem.Str.ofString "apart"≠PySem.Str.ofString "same" := by decide
def aag(M:du)(g:Gn)(u v:Y3):∃q,q9 M g.toD (.tup [.str (PySem.Str.ofString "same"),dz u,dz v])=some q/\(q=true↔g=.same u v):=by
 cases g with
 |same a b =>
  have Z:Az (Dh M 5) (dz a) (dz u)=some (decide (a=u)):=Lx M 3 a u;have U:Az (Dh M 5) (dz b) (dz v)=some (decide (b=v)):=Lx M 3 b v;have G:Az (Dh M 5) (.str (PySem.Str.ofString "same")) (.str (PySem.Str.ofString "same"))=some true:=by simp[Az,Dh]
  refine⟨true&&(decide (a=u)&&(decide (b=v)&&true)),An (f:=Dh M 5) G (An Z (An U rfl)),?_⟩;simp only[Bool.true_and,Bool.and_true,ao,dm];exact⟨λh=>by rw[h.1,h.2],λh=>by cases h;exact⟨rfl,rfl⟩⟩
 |apart k =>
  have Z:Az (Dh M 5) (.int k) (dz u)=some false:=rfl;have G:Az (Dh M 5) (.str (PySem.Str.ofString "apart")) (.str (PySem.Str.ofString "same"))=some false:=by simp[Az,Dh,aj7]
  refine⟨false&&(false&&false),An (f:=Dh M 5) (y:=false&&false) G (An (as:=[]) (bs:=[dz v]) (y:=false) Z rfl),?_⟩;simp
def au9{gs:List Gn}{i:Int}(hm:1<=m):∃q,prog.call m 20 [.tup (gs.map Gn.toD),Sp.toD ⟨u,v,y⟩,.int i] M=.ok (.bl q) M/\(q=true↔∃n:Nat,i=n/\gs[n]?=some (.same u v)):=by
 rw[call_of hm rfl];have Z:v7 .len [.tup (gs.map Gn.toD)] M=.ok (.int gs.length) M:=by simp[Bt]
 have y0:rz (Sp.toD ⟨u,v,y⟩) (.int 0) M=some (dz u):=Bh _ _;have y1:rz (Sp.toD ⟨u,v,y⟩) (.int 1) M=some (dz v):=Cu _ _ _;simp only[Fn.run,Ub,Ua]
 by_cases U:0<=i
 .by_cases R:i<gs.length
  .obtain⟨n,rfl⟩:∃n:Nat,i=n:=⟨i.toNat,by lia⟩
   obtain⟨g,G⟩:∃g,gs[n]?=some g:=⟨_,bj (by lia)⟩;have ig:rz (.tup (gs.map Gn.toD)) (.int n) M=some g.toD:=Iz (jc _) (by simp[G]);obtain⟨q,e,iq⟩:=aag M g u v;refine⟨q,?_,iq.trans ⟨λh=>⟨n,rfl,by rw[G,h]⟩,λ⟨k,hk,h⟩=>?_⟩⟩
   .simp[Z,R,ig,y0,y1,e]
   .have:k=n:=by lia
    subst this;rw[G] at h;exact gq h
  .refine⟨false,by simp[Z,U,R],by simp;intro n hn h;have:=(ak.mp h).1;lia⟩
 .refine⟨false,by simp[Z,U],by simp;intro n hn h;lia⟩
def Btw(r h t c:X9):Prop:=(c=[]/\∀Z,Z≠[]->r≠h++Z++t)\/(c≠[]/\r=h++c++t)
def aj8(Z:List D)(a b:Nat):Ec Z (some (a:Int)) (some (b:Int))=(Z.drop a).take (b-a):=by
 simp only[Ec,clip];rw[bz (by lia),bz (by lia),jm,jm];rcases Al a Z.length with h|h
 .rw[wg h]
  rcases Al b Z.length with k|k
  .rw[wg k]
  .rw[yg k,mq (by simp),mq (by simp;lia)]
 .rw[yg h,List.drop_length,yj h];simp
def ae0(r:X9)(a b:Nat):Ef (iz r) (some (a:Int)) (some (b:Int)) M=some (iz ((r.drop a).take (b-a))):=by show some (D.tup (Ec (r.map D.int) (some (a:Int)) (some (b:Int))))=_;rw[aj8,<- List.map_drop,<- yq];rfl
def aj9(r:X9):v7 .len [iz r] M=.ok (.int r.length) M:=by simp[iz,Bt]
def mx0(a b:Nat)(M:du):v7 .max [.int ((a:Int)-(b:Int)),.int 0] M=.ok (.int ((a-b:Nat):Int)) M:=by
 have:v7 .max [.int ((a:Int)-(b:Int)),.int 0] M=.ok (.int (if(a:Int)-(b:Int)<0 then 0 else(a:Int)-(b:Int))) M:=rfl;rw[this]
 congr 2
 split<;>lia
def aka{r h t:X9}(hm:1<=m)(rl:r.length<=1000)(hl:h.length<=1000)(tl:t.length<=1000):∃c,prog.call m 22 [iz r,iz h,iz t] M=.ok (iz c) M/\Btw r h t c:=by
 rw[call_of hm rfl];have U:=ae0 (M:=M) r h.length (r.length-t.length);have il:((r.drop h.length).take (r.length-t.length-h.length)).length<=1000:=by simp;lia
 have Z:∀c',r=h++c'++t->(r.drop h.length).take (r.length-t.length-h.length)=c':=λc' e=>by
  have:r.length-t.length-h.length=c'.length:=by rw[e];simp;lia
  rw[this,e,nq,List.drop_left,List.take_left]
 generalize(r.drop h.length).take (r.length-t.length-h.length)=I at U il Z;have a1:=Rx (M:=M) h I (by lia);have a2:=Rx (M:=M) (h++I) t (by simp;lia);have G:=Ov M (h++I++t) r;have m1:=mx0 r.length t.length M;have em:iz []=.tup []:=rfl;simp only[Fn.run,Wc,Wb]
 by_cases q:h++I++t=r
 .refine⟨I,?_,?_⟩
  .have G:q9 M (iz (h++I++t)) (iz r)=some true:=by rw[G];simp[q]
   simp[-List.append_assoc,aj9,m1,U,a1,a2,G]
  .by_cases z:I=[]
   .left
    refine⟨z,λc' R e=>R ?_⟩;rw[<- Z c' e,z]
   .exact .inr ⟨z,q.symm⟩
 .refine⟨[],?_,.inl ⟨rfl,λc' R e=>q ?_⟩⟩
  .have G:q9 M (iz (h++I++t)) (iz r)=some false:=by rw[G];simp only[q,decide_false]
   simp[-List.append_assoc,aj9,m1,U,a1,a2,G,em]
  .rw[Z c' e];exact e.symm
def ae1(h:Btw (cst u) a b c):∃w,c=cst w:=by
 rcases h with⟨rfl,_⟩|⟨_,e⟩
 .exact⟨[],rfl⟩
 .obtain⟨x,y,Z,U,_⟩:=Wm e
  obtain⟨p,q,_,G,_⟩:=Wm Z.symm;exact⟨q,G⟩
def ava{mk:Mk}{h t:X9}(hm:3<=m)(T:Tie o p q M ss mk)(I:TI ss mk)(ul:u.length<=1000)(vl:v.length<=1000)(w:h.length<=1000/\t.length<=1000) :
 ∃b,prog.call m 21 [.ref o,Sp.toD ⟨u,v,y⟩,iz h,iz t] M=.ok (.bl b) M/\(b=true↔Uo s ss u v (.put h t w)):=by
 rw[call_of (az (by decide) hm) rfl];have y0:rz (Sp.toD ⟨u,v,y⟩) (.int 0) M=some (iz (cst u)):=by rw[Bg];exact Bh _ _
 have y1:rz (Sp.toD ⟨u,v,y⟩) (.int 1) M=some (iz (cst v)):=by rw[Bg];exact Cu _ _ _
 obtain⟨c1,e1,B1⟩:=aka (m:=m-1) (M:=M) (r:=cst u) (h:=h) (t:=t) (by lia) (by rw[Bk];exact ul) w.1 w.2;obtain⟨c2,e2,B2⟩:=aka (m:=m-1) (M:=M) (r:=cst v) (h:=h) (t:=t) (by lia) (by rw[Bk];exact vl) w.1 w.2;obtain⟨w1,rfl⟩:=ae1 B1;obtain⟨w2,rfl⟩:=ae1 B2;have e3:=Ye (m:=m-1) (a:=w1) (b:=w2) (by lia) T;have em:D.tup []=iz []:=rfl;have Z:=Ov M (cst w1) [];have U:=Ov M (cst w2) [];have j:=T.i;simp only[Fn.run,Z6,Z5]
 by_cases G:cst w1=[]
 .have Z:q9 M (iz (cst w1)) (iz [])=some true:=by rw[Z];simp[G]
  refine⟨false,by simp[y0,y1,e1,e2,em,Z],?_⟩;simp only[dj,false_iff];rintro⟨c,d,hc,hd,e,_⟩;rcases B1 with⟨_,n⟩|⟨n,_⟩
  .exact n (cst c) (λq=>hc (za (b:=[]) q)) e
  .exact n G
 by_cases R:cst w2=[]
 .have Z:q9 M (iz (cst w1)) (iz [])=some false:=by rw[Z];simp[G]
  have U:q9 M (iz (cst w2)) (iz [])=some true:=by rw[U];simp[R]
  refine⟨false,by simp[y0,y1,e1,e2,em,Z,U],?_⟩;simp only[dj,false_iff];rintro⟨c,d,hc,hd,_,e,_⟩;rcases B2 with⟨_,n⟩|⟨n,_⟩
  .exact n (cst d) (λq=>hd (za (b:=[]) q)) e
  .exact n R
 rcases B1 with⟨n,_⟩|⟨_,q1⟩
 .exact absurd n G
 rcases B2 with⟨n,_⟩|⟨_,q2⟩
 .exact absurd n R
 refine⟨decide (mkOf mk w1=mkOf mk w2),?_,?_⟩
 .have Z:q9 M (iz (cst w1)) (iz [])=some false:=by rw[Z];simp[G]
  have U:q9 M (iz (cst w2)) (iz [])=some false:=by rw[U];simp[R]
  rw[<- Bg,<- Bg] at e3;simp[y0,y1,e1,e2,em,Z,U,j,acx,List.lookup,e3]
 .simp only[dm]
  rw[I.tog];constructor
  .intro g
   exact⟨w1,w2,λq=>G (by rw[q];rfl),λq=>R (by rw[q];rfl),q1,q2,g⟩
  .rintro⟨c,d,hc,hd,g1,g2,g⟩
   have x1:c=w1:=by rw[q1] at g1;have:=xj (wz g1);exact(za this).symm
   have x2:d=w2:=by rw[q2] at g2;have:=xj (wz g2);exact(za this).symm
   rw[<- x1,<- x2];exact g
def a0g{k:Int}(M:du)(ks:Y3):Pk M (.int k) (.vl (ks.map nD))=some (ks.any λ(n:Nat)=>decide ((n:Int)=k)):=by
 show memD M _ (ks.map nD)=_;have:∀ks:List Nat,Iw M (.int k) (ks.map nD)=some (ks.map λ(n:Nat)=>decide ((n:Int)=k)):=λks=>by
  induction ks with
  |nil=>rfl
  |cons n ks Z =>
   have e:q9 M (nD n) (.int k)=some (decide ((n:Int)=k)):=rfl;simp only[di,Iw,e,Z]
 rw[memD,this,qj,List.any_map];rfl
def Yh(W:Way es u)(Z:n<es.length):Way es (u++[n])↔(at_ es n).1=Aq es u:=⟨λA=>Vo.last W.ne A.ch,λe=>W.app Z e⟩
def avb{R:Mk}{k:Int}(hm:3<=m)(h:Dg s V)(T:Tie o p q M ss R)(I:TI ss R)(B:Ly s.es u v) :
 ∃b,prog.call m 23 [s.toD,.ref o,Sp.toD ⟨u,v,y⟩,.int k] M=.ok (.bl b) M/\(b=true↔Uo s ss u v (.off k)):=by
 rw[call_of (az (by decide) hm) rfl];have ul:=Ai h.E B.one;have vl:=Ai h.E B.two;have y0:rz (Sp.toD ⟨u,v,y⟩) (.int 0) M=some (iz (cst u)):=by rw[Bg];exact Bh _ _
 have y1:rz (Sp.toD ⟨u,v,y⟩) (.int 1) M=some (iz (cst v)):=by rw[Bg];exact Cu _ _ _
 have i0:rz s.toD (.int 0) M=some (.tup (s.es.map aD)):=Bh _ _;have i1:rz s.toD (.int 1) M=some (.tup (s.gs.map Gn.toD)):=Cu _ _ _;have U:=add_one (M:=M) (cst u) k (by rw[Bk];lia);have a2:=add_one (M:=M) (cst v) k (by rw[Bk];lia);have ap:=a0f (m:=m-1) (M:=M) (s:=s) (by lia) h.few;have G:=a0g (k:=k) M s.ks;simp only[Fn.run,Z8,Z7]
 by_cases c:(s.ks.any λn=>decide ((n:Int)=k))=true
 case neg =>
  have c:(s.ks.any λn=>decide ((n:Int)=k))=false:=by simpa using c
  rw[c] at G;refine⟨false,by simp[y0,y1,U,a2,i1,ap,G],?_⟩;simp only[dj,false_iff];rintro⟨n,rfl,hg,_⟩;have:=List.any_eq_false.mp c n (aj5.mpr hg);simp at this
 rw[c] at G;obtain⟨n,hn,hk⟩:=List.any_eq_true.mp c;have hk:(n:Int)=k:=jn hk;subst hk;have hg:=aj5.mp hn;have nl:n<s.es.length:=h.gs _ hg
 have eu:cst u++[(n:Int)]=cst (u++[n]):=by rw[Ot];rfl
 have ev:cst v++[(n:Int)]=cst (v++[n]):=by rw[Ot];rfl
 rw[eu] at U;rw[ev] at a2;obtain⟨b1,w1,j1⟩:=Ou (m:=m-1) (M:=M) (d:=.tup (s.es.map aD)) (r:=cst (u++[n])) (by lia) rfl h.E.few (by rw[Bk];simp;lia);obtain⟨b2,w2,j2⟩:=Ou (m:=m-1) (M:=M) (d:=.tup (s.es.map aD)) (r:=cst (v++[n])) (by lia) rfl h.E.few (by rw[Bk];simp;lia);rw[Um,Yh B.one nl] at j1;rw[Um,Yh B.two nl,<- B.go] at j2;have e3:=Ye (m:=m-1) (a:=u++[n]) (b:=v++[n]) (by lia) T;rw[<- Bg,<- Bg] at e3;have j:=T.i
 by_cases g:(at_ s.es n).1=Aq s.es u
 .have Z:=j1.mpr g
  have qq:=j2.mpr g;subst Z qq;refine⟨decide (mkOf R (u++[n])=mkOf R (v++[n])),?_,?_⟩
  .simp[y0,y1,U,a2,i0,i1,ap,G,w1,w2,j,acx,List.lookup,e3]
  .simp only[dm]
   rw[I.tog];constructor
   .intro t;exact⟨n,rfl,hg,g,t⟩
   .rintro⟨n',Vn,_,_,t⟩
    have:n'=n:=by lia
    subst this;exact t
 .have Z:b1=false:=by cases b1 with|false=>rfl|true=>exact absurd (j1.mp rfl) g
  subst Z;refine⟨false,by simp[y0,y1,U,a2,i0,i1,ap,G,w1],?_⟩;simp only[dj,false_iff];rintro⟨n',Vn,_,g',_⟩;have:n'=n:=by lia
  subst this;exact g g'
structure Rs.Sm(r:Rs):Prop where
 a:r.a.length<=1000
 b:r.b.length<=1000
def akb:PySem.Str.ofString "off"≠PySem.Str.ofString "given" := by decide
def akc:PySem.Str.ofString "put"≠PySem.Str.ofString "given" := by decide
def avc:PySem.Str.ofString "off"≠PySem.Str.ofString "put" := by decide
def avd:PySem.Str.ofString "put"≠PySem.Str.ofString "off" := by decide
def akd:Rgt s ss ⟨cst u,cst v,y⟩↔Ly s.es u v/\Uo s ss u v y:=by
 constructor
 .rintro⟨U,R,G,Z,B,W⟩
  cases za G;cases za Z;exact⟨B,W⟩
 .rintro⟨B,W⟩
  exact⟨u,v,rfl,rfl,B,W⟩
def ake{mk:Mk}{r:Rs}(hm:4<=m)(h:Dg s V)(T:Tie o p q M ss mk)(I:TI ss mk)(S:r.Sm) :
 ∃b,prog.call m 19 [s.toD,.ref o,r.toD] M=.ok (.bl b) M/\(b=true↔Rgt s ss r):=by
 rw[call_of (az (by decide) hm) rfl];obtain⟨b0,Z,j0⟩:=ag0 (m:=m-1) (M:=M) (d:=.tup (s.es.map aD)) (a:=r.a) (b:=r.b) (by lia) rfl h.E S.a S.b;have i0:rz s.toD (.int 0) M=some (.tup (s.es.map aD)):=Bh _ _;have i1:rz s.toD (.int 1) M=some (.tup (s.gs.map Gn.toD)):=Cu _ _ _;have U:rz r.toD (.int 0) M=some (iz r.a):=Bh _ _;have G:rz r.toD (.int 1) M=some (iz r.b):=Cu _ _ _;have y2:rz r.toD (.int 2) M=some r.y.toD:=Rp _ _ _ _;simp only[Fn.run,T9,T6];cases b0 with
 |false =>
  refine⟨false,by simp[i0,U,G,Z],?_⟩;simp only[dj,false_iff];rintro⟨u,v,h1,h2,B,_⟩;have:=j0.mpr ⟨u,v,h1,h2,B⟩;cases this
 |true =>
  obtain⟨u,v,h1,h2,B⟩:=j0.mp rfl;obtain⟨a,b,y⟩:=r;have h1:a=cst u:=h1;have h2:b=cst v:=h2;subst h1 h2;have ul:=Ai h.E B.one;have vl:=Ai h.E B.two;have rd:Rs.toD ⟨cst u,cst v,y⟩=Sp.toD ⟨u,v,y⟩:=aaf ⟨u,v,y⟩;have Z:prog.call (m-1) 12 [.tup (s.es.map aD),iz (cst u),iz (cst v)] M=.ok (.bl true) M:=Z;rw[akd];rw[rd] at U G y2 ⊢;cases y with
  |given i =>
   obtain⟨R,e3,j3⟩:=au9 (m:=m-1) (M:=M) (u:=u) (v:=v) (y:=.given i) (gs:=s.gs) (i:=i) (by lia);refine⟨R,?_,j3.trans ⟨λx=>⟨B,x⟩,λx=>x.2⟩⟩;simp[i0,U,G,Z,y2,Wy.toD,i1,e3]
  |put hh t w =>
   obtain⟨R,e3,j3⟩:=ava (m:=m-1) (M:=M) (u:=u) (v:=v) (y:=.put hh t w) (s:=s) (h:=hh) (t:=t) (by lia) T I (by lia) (by lia) w;refine⟨R,?_,j3.trans ⟨λx=>⟨B,x⟩,λx=>x.2⟩⟩;simp[i0,U,G,Z,y2,Wy.toD,akc,e3]
  |off k =>
   obtain⟨R,e3,j3⟩:=avb (m:=m-1) (M:=M) (u:=u) (v:=v) (y:=.off k) (k:=k) (by lia) h T I B;refine⟨R,?_,j3.trans ⟨λx=>⟨B,x⟩,λx=>x.2⟩⟩;simp[i0,U,G,Z,y2,Wy.toD,akb,avc,e3]
def Fol(s:Ui)(G:List Rs):Prop:=∃Z:List Sp,Z.map Sp.Wn=G/\(∀j x,Z[j]?=some x->Rgt s (Z.take j) x.Wn)/\Ol Z s.a s.b
theorem ao7:∀{x y:Sp},x.Wn=y.Wn->x=y
 |⟨a,b,y⟩,⟨a',b',y'⟩,h=>by
  have h:(⟨cst a,cst b,y⟩:Rs)=⟨cst a',cst b',y'⟩:=h;injection h with h1 h2 h3
  rw[za h1,za h2,h3]
theorem Up:∀{a b:List Sp},a.map Sp.Wn=b.map Sp.Wn->a=b
 |[],[],_=>rfl|[],_::_,h=>by simp at h|_::_,[],h=>by simp at h
 |x::a,y::b,h=>by
  have Z:x.Wn=y.Wn:=(t7 h).1;rw[ao7 Z,Up (t7 h).2]
structure Yi(s:Ui)(rs:List Rs)(i:Nat)(ss:List Sp):Prop where
 e:ss.map Sp.Wn=rs.take i
 r:∀j x,ss[j]?=some x->Rgt s (ss.take j) x.Wn
def aah(U:Yi s rs i ss)(Z:i<=rs.length):ss.length=i:=by have:=mz List.length U.e;simp at this;lia
def aai(U:Yi s rs i ss):∀x∈ss,Ly s.es x.a x.b:=λx G=>by obtain⟨j,Z⟩:=jw.mp G;exact(akd.mp (U.r j x Z)).1
def Wo(U:Yi s rs i ss)(hr:rs[i]?=some r)(R:Rgt s ss r):∃x:Sp,x.Wn=r/\Yi s rs (i+1) (ss++[x]):=by
 have qq:=(ak.mp hr).1;have sl:=aah U (vq qq);obtain⟨u,v,G,h2,B,W⟩:=R;have er:(⟨u,v,r.y⟩:Sp).Wn=r:=by obtain⟨a,b,y⟩:=r;have G:a=cst u:=G;have h2:b=cst v:=h2;subst G h2;rfl
 refine⟨⟨u,v,r.y⟩,er,?_,λj x Z=>?_⟩
 .rw[gh,U.e,vg,hr]
  simp[er]
 .rcases jo j ss.length with q|q
  .rw[gb q] at Z
   rw[List.take_append_of_le_length (vq q)];exact U.r j x Z
  .rw[p8 q] at Z
   obtain⟨q1,q2⟩:=ak.mp Z;have:j=ss.length:=by simp at q1;lia
   subst this;simp at Z;subst Z;rw[List.take_left,er];exact⟨u,v,G,h2,B,W⟩
def aaj(U:Yi s rs i ss)(hr:rs[i]?=some r)(R:¬Rgt s ss r):¬Fol s rs:=by
 rintro⟨Z,e,f,_⟩;have h1:Z.take i=ss:=Up (by rw[yq,e,U.e]);have h2:(Z.map Sp.Wn)[i]?=some r:=by rw[e];exact hr
 rw[iu] at h2;obtain⟨x,hx,G⟩:=bw.mp h2;have:=f i x hx;rw[h1,G] at this;exact R this
def aak(U:Yi s rs rs.length ss):Fol s rs↔Ol ss s.a s.b:=by
 have e:ss.map Sp.Wn=rs:=by rw[U.e,uc]
 constructor
 .rintro⟨Z,G,_,t⟩
  rw[Up (e.trans G.symm)];exact t
 .intro t;exact⟨ss,e,U.r,t⟩
def aal:Yi s rs 0 []:=⟨by simp,λj x h=>by simp at h⟩
def acy{G:List Rs}(hm:7<=m)(h:Dg s V)(hS:∀r∈G,r.Sm)(hl:G.length<=100):∃b M',prog.call m 24 [s.toD,.tup (G.map Rs.toD)] M=.ok (.bl b) M'/\ni M M'/\(b=true↔Fol s G):=by
 rw[call_of (az (by decide) hm) rfl];obtain⟨Z,e0,k0⟩:=ajf (m:=m-1) (M:=M) (by lia) h;have e1:=ao6 (m:=m-1) (M:=Z) (by lia);generalize hM1:Z++[.ins 3 [(1,.ref (Z.length+1)),(0,.ref (Z.length+2))],.lst [],.dT []]=M1 at e1;have T1:Tie Z.length (Z.length+1) (Z.length+2) M1 [] []:=⟨by rw[<- hM1];simp,by rw[<- hM1];simp,by rw[<- hM1];simp[Nt]⟩;have k1:ni Z M1:=hM1▸ni.app _ _;have l1:M1.length=Z.length+3:=by rw[<- hM1];simp
 have i2:∀M,rz s.toD (.int 2) M=some (.tup [dz s.a,dz s.b]):=λM=>Rp _ _ _ _
 have lp:Goes (λi ρ U=>∃(R:List Sp)(mk:Mk)(b3:Option D),ρ=[some s.toD,some (.tup (G.map Rs.toD)),sR Z.length,b3]/\Tie Z.length (Z.length+1) (Z.length+2) U R mk/\TI R mk/\Yi s G i R/\ni Z U) (λv U=>v=.bl false/\¬Fol s G/\ni Z U) G.length (Ku.den (PW (m-1)) [some s.toD,some (.tup (G.map Rs.toD)),sR Z.length,none] M1):=by
  unfold Ku;refine Xx (s:=.con (G.map Rs.toD)) (M1:=M1) rfl (by simp[Src.len]) _ _ ⟨[],[],none,rfl,T1,au1,aal,k1⟩ (λ_ _ _=>rfl) (λi ρ U hi hI=>?_);obtain⟨R,mk,b3,rfl,T2,I2,U2,k2⟩:=hI;obtain⟨r,hr⟩:∃r,G[i]?=some r:=⟨_,bj hi⟩;refine⟨r.toD,_,by simp[Src.item,hr],rfl,?_⟩;obtain⟨b,e2,j2⟩:=ake (m:=m-1) (M:=U) (r:=r) (by lia) h T2 I2 (hS r (au hr));cases b with
  |false =>
   have nr:¬Rgt s R r:=λq=>by have:=j2.mpr q;cases this
   refine⟨.ret (.bl false),[some s.toD,some (.tup (G.map Rs.toD)),sR Z.length,some r.toD],U,?_,.inr ⟨_,rfl,rfl,aaj U2 hr nr,k2⟩⟩;simp only[Ks];simp[e2]
  |true =>
   obtain⟨x,hx,U3⟩:=Wo U2 hr (j2.mp rfl);have sl:=aah U2 (vq hi);obtain⟨M3,e3,T3,B3,l3⟩:=ao5 (m:=m-1) (by lia) T2 I2 x (by lia);rw[<- aaf,hx] at e3;refine⟨.next,[some s.toD,some (.tup (G.map Rs.toD)),sR Z.length,some r.toD],M3,?_,.inl ⟨rfl,R++[x],_,_,rfl,T3,ao0 I2 x,U3,λa o ha=>B3 a o (by have:=yw ha;lia) (by have:=yw ha;lia) (k2 a o ha)⟩⟩;have j:=T2.i;simp only[Ks];simp[e2,j,acx,List.lookup,e3]
 obtain⟨fl,qq,U,e,⟨rfl,R,mk,b3,rfl,T2,I2,U2,k2⟩|⟨v,rfl,rfl,nf,k2⟩⟩:=lp
 .have e3:=Ye (m:=m-1) (a:=s.a) (b:=s.b) (by lia) T2
  have j:=T2.i;refine⟨decide (mkOf mk s.a=mkOf mk s.b),U,?_,ni.trans k0 k2,?_⟩
  .simp only[Fn.run,P0,Pz]
   simp[e0,acx,e1,e,i2,j,List.lookup,e3]
  .simp only[dm]
   rw[I2.tog,aak U2]
 .refine⟨false,U,?_,ni.trans k0 k2,by simp[nf]⟩
  simp only[Fn.run,P0,Pz];simp[e0,acx,e1,e]
def akf{k:Int}(M:du)(Z:List Gn):∃b,Pk M (.tup [.str (PySem.Str.ofString "apart"),.int k]) (.tup (Z.map Gn.toD))=some b/\(b=true↔∃n:Nat,k=n/\.apart n∈Z):=by
 show ∃b,memD M _ (Z.map Gn.toD)=some b/\_;have:∀Z:List Gn,∃bs:List Bool,Iw M (.tup [.str (PySem.Str.ofString "apart"),.int k]) (Z.map Gn.toD)=some bs/\((bs.any id)=true↔∃n:Nat,k=n/\.apart n∈Z):=λZ=>by
  induction Z with
  |nil=>exact⟨[],rfl,by simp⟩
  |cons g Z ih =>
   obtain⟨bs,e,i⟩:=ih;cases g with
   |same a b =>
    have R:q9 M (Gn.toD (.same a b)) (.tup [.str (PySem.Str.ofString "apart"),.int k])=some false:=by
     have x0:Az (Dh M 5) (.str (PySem.Str.ofString "same")) (.str (PySem.Str.ofString "apart"))=some false:=by simp[Az,Dh,aj7.symm]
     have x1:Az (Dh M 5) (dz a) (.int k)=some false:=rfl;exact An (f:=Dh M 5) (y:=false&&false) x0 (An (as:=[dz b]) (bs:=[]) (y:=false) x1 rfl)
    refine⟨false::bs,by simp only[di,Iw,R,e],?_⟩;simp only[wu,id,Bool.false_or];rw[i];simp
   |apart j =>
    have R:q9 M (Gn.toD (.apart j)) (.tup [.str (PySem.Str.ofString "apart"),.int k])=some (decide ((j:Int)=k)):=by
     have x0:Az (Dh M 5) (.str (PySem.Str.ofString "apart")) (.str (PySem.Str.ofString "apart"))=some true:=by simp[Az,Dh]
     have x1:Az (Dh M 5) (.int (j:Int)) (.int k)=some (decide ((j:Int)=k)):=Xu (M:=M) 4 (j:Int) k;have:=An (f:=Dh M 5) x0 (An (as:=[]) (bs:=[]) (y:=true) x1 rfl);have G:q9 M (Gn.toD (.apart j)) (.tup [.str (PySem.Str.ofString "apart"),.int k])=some (true&&(decide ((j:Int)=k)&&true)):=this;simpa using G
    refine⟨decide ((j:Int)=k)::bs,by simp only[di,Iw,R,e],?_⟩;simp only[wu,id,Bool.or_eq_true,dm];rw[i];constructor
    .rintro(h|⟨n,U,G⟩)
     .exact⟨j,h.symm,bx⟩
     .exact⟨n,U,bh _ G⟩
    .rintro⟨n,U,G⟩
     rcases dg.mp G with q|q
     .cases q;exact .inl U.symm
     .exact .inr ⟨n,U,q⟩
 obtain⟨bs,e,i⟩:=this Z;exact⟨bs.any id,by rw[memD,e];rfl,i⟩
abbrev EI(s:Ui)(d:D)(r:Rs)(b9 b10 b11 b12:Option D):Env :=
 [some s.toD,some d,some r.toD,some (.tup (s.es.map aD)),some (.tup (s.gs.map Gn.toD)),some (.tup [dz s.a,dz s.b]),some (iz r.a),some (iz r.b),some r.y.toD,b9,b10,b11,b12]
def asq{r:Rs}{w h t:X9}{w':h.length<=1000/\t.length<=1000}(hy:r.y=.put h t w')(wl:w.length<=1000)(hp:M[p]?=some (.lst (cs.map iz)))(hl:cs.length<=10) :
 (∃z,Bu.den W (EI s d r b9 (sR p) (some (iz w)) b12) M=.ok (.ret (.bl false),EI s d r b9 (sR p) (some (iz w)) (sI z)) M/\∀c,c≠[]->w≠h++c++t) \/
 ∃c z,Bu.den W (EI s d r b9 (sR p) (some (iz w)) b12) M=.ok (.next,EI s d r b9 (sR p) (some (iz w)) (sI z)) (M.set p (.lst ((cs++[c]).map iz)))/\c≠[]/\w=h++c++t:=by
 have yd:r.y.toD=.tup [.str (PySem.Str.ofString "put"),iz h,iz t]:=by rw[hy];rfl
 have x1:∀M,rz r.y.toD (.int 1) M=some (iz h):=λM=>by rw[yd];exact Cu _ _ _
 have x2:∀M,rz r.y.toD (.int 2) M=some (iz t):=λM=>by rw[yd];exact Rp _ _ _ _
 have l1:=λw=>aj9 (M:=M) w
 simp only[Bu]
 by_cases U:(w.length:Int)-(t.length:Int)<=(h.length:Int)
 .left
  refine⟨(w.length:Int)-(t.length:Int),?_,λc hc e=>?_⟩
  .simp[l1,x1,x2,U]
  .have:0<c.length:=km.mpr hc
   rw[e] at U;simp at U
   lia
 have en:(w.length:Int)-(t.length:Int)=((w.length-t.length:Nat):Int):=by lia
 have c1:=aur (M:=M) w h.length;have c2:=aad (M:=M) w (w.length-t.length);have c3:=ae0 (M:=M) w h.length (w.length-t.length);have Z:=Ov M (w.take h.length) h;have G:=Ov M (w.drop (w.length-t.length)) t;have qq:∀c,w=h++c++t->w.take h.length=h/\w.drop (w.length-t.length)=t:=λc e=>by
  have:w.length-t.length=(h++c).length:=by rw[e];simp;lia
  constructor
  .rw[e,nq,List.take_left]
  .rw[this,e,List.drop_left]
 rw[<- en] at c2 c3
 by_cases R:w.take h.length=h
 case neg =>
  left
  have Z:q9 M (iz (w.take h.length)) (iz h)=some false:=by rw[Z];simp only[R,decide_false]
  refine⟨(w.length:Int)-(t.length:Int),?_,λc hc e=>R (qq c e).1⟩;simp[l1,x1,x2,U,c1,Z]
 by_cases z2:w.drop (w.length-t.length)=t
 case neg =>
  left
  have Z:q9 M (iz (w.take h.length)) (iz h)=some true:=by rw[Z];simp only[R,decide_true]
  have G:q9 M (iz (w.drop (w.length-t.length))) (iz t)=some false:=by rw[G];simp only[z2,decide_false]
  refine⟨(w.length:Int)-(t.length:Int),?_,λc hc e=>z2 (qq c e).2⟩;simp[l1,x1,x2,U,c1,Z,c2,G]
 right
 have Z:q9 M (iz (w.take h.length)) (iz h)=some true:=by rw[Z];simp only[R,decide_true]
 have G:q9 M (iz (w.drop (w.length-t.length))) (iz t)=some true:=by rw[G];simp only[z2,decide_true]
 have ew:w=h++(w.drop h.length).take (w.length-t.length-h.length)++t:=by
  have h1:(w.drop h.length).drop (w.length-t.length-h.length)=t:=by rw[List.drop_drop,show h.length+(w.length-t.length-h.length)=w.length-t.length by lia];exact z2
  conv=>lhs;rw[<- qg h.length w,R,<- qg (w.length-t.length-h.length) (w.drop h.length),h1]
  rw[nq]
 have cn:(w.drop h.length).take (w.length-t.length-h.length)≠[]:=λq=>by
  have:=mz List.length q;simp at this
  lia
 generalize(w.drop h.length).take (w.length-t.length-h.length)=c at *;have ap:=Hb (d:=iz c) hp (by simp;lia);have ms:cs.map iz++[iz c]=(cs++[c]).map iz:=by simp
 rw[ms] at ap;refine⟨c,(w.length:Int)-(t.length:Int),?_,cn,ew⟩;simp[l1,x1,x2,U,c1,Z,c2,G,c3,Ke hp,ap]
def gN:Aj:=.f (.or (.cmp .is (.call 28 (.p (.v 3) (.v 6))) (.cst .non)) (.cmp .ne (.call 28 (.p (.v 3) (.v 6))) (.call 28 (.p (.v 3) (.v 7))))) (.o (.ret (.cst (.bl false))))
def gG:Aj:=.f (.cmp .eq (.ix (.v 8) (.i 0)) (.cst (.str (PySem.Str.ofString "given")))) (.o (.ret (.and (.chain .le .lt (.i 0) (.ix (.v 8) (.i 1)) (.l (.v 4))) (.cmp .eq (.ix (.v 4) (.ix (.v 8) (.i 1))) (.tup (.q (.cst (.str (PySem.Str.ofString "same"))) (.v 6) (.v 7)))))))
def gO:Aj:=.f (.cmp .eq (.ix (.v 8) (.i 0)) (.cst (.str (PySem.Str.ofString "off")))) (.q (.a 9 (.bin .add (.v 6) (.tup (.o (.ix (.v 8) (.i 1)))))) (.f (.or (.cmp .Kc (.tup (.p (.cst (.str (PySem.Str.ofString "apart"))) (.ix (.v 8) (.i 1)))) (.v 4)) (.cmp .is (.call 28 (.p (.v 3) (.v 9))) (.cst .non))) (.o (.ret (.cst (.bl false))))) (.ret (.call 29 (.q (.v 1) (.v 9) (.bin .add (.v 7) (.tup (.o (.ix (.v 8) (.i 1)))))))))
def gI:my:=.q (.a 10 (.lst .z)) Ab (.ret (.call 29 (.q (.v 1) (.ix (.v 10) (.i 0)) (.ix (.v 10) (.i 1)))))
def ag1(M:du)(x:Res (Flow×Env))(P:Prop):Prop:=∃b Z G,x=.ok (.ret (.bl b),Z) G/\ni M G/\(b=true↔P)
def a0h{r:Rs}{h t:X9}{w':h.length<=1000/\t.length<=1000}{ws:List (List Nat)}(hm:1<=m)(hy:r.y=.put h t w')(ea:r.a=cst u)(eb:r.b=cst v)(al:r.a.length<=1000)(bl:r.b.length<=1000)(hd:fj M d=some (ss.map Sp.toD))(hs:∀x∈ss,x.a∈ws/\x.b∈ws)(hw:ws.length<=60) :
 ag1 M (gI.den (PW m) (EI s d r none none none none) M) (Uo s ss u v (.put h t w')):=by
 have a1:(Aj.a 10 (.lst .z)).den (PW m) (EI s d r none none none none) M=.ok (.next,EI s d r none (sR M.length) none none) (M++[.lst []]):=rfl;have it:(Ex.Ax (.p (.v 6) (.v 7))).den (PW m) (EI s d r none (sR M.length) none none) (M++[.lst []])=.ok (.vl [iz r.a,iz r.b]) (M++[.lst []]):=rfl;have t1:(Tg.name 11).put (iz r.a) (EI s d r none (sR M.length) none none)=some (EI s d r none (sR M.length) (some (iz r.a)) none):=rfl;have lp:∀{x:Res (Flow×Env)},Ab.den (PW m) (EI s d r none (sR M.length) none none) (M++[.lst []])=x->gI.den (PW m) (EI s d r none none none none) M=Xr (PW m) (.o (.ret (.call 29 (.q (.v 1) (.ix (.v 10) (.i 0)) (.ix (.v 10) (.i 1)))))) x:=λe=>by unfold gI;rw[qx,a1,p6,qx,e]
 rcases asq (W:=PW m) (s:=s) (d:=d) (M:=M++[.lst []]) (p:=M.length) (cs:=[]) (b9:=none) (b12:=none) (w:=r.a) hy al Bj (by simp) with⟨z,G,n1⟩|⟨Z,z1,G,U,q1⟩
 .refine⟨false,EI s d r none (sR M.length) (some (iz r.a)) (sI z),M++[.lst []],?_,ni.app _ _,?_⟩
  .rw[lp (x:=.ok (.ret (.bl false),EI s d r none (sR M.length) (some (iz r.a)) (sI z)) (M++[.lst []])) (by
    unfold Ab;rw[Hd,Em,it];simp only[Res.t6,srcOf,Res.qm,Src.len,d9,uw,Bq,Src.item,xq,t1,G])]
   rfl
  .simp only[dj,false_iff]
   rintro⟨c,_,hc,_,e,_⟩;exact n1 (cst c) (λq=>hc (za (b:=[]) q)) (by rw[ea,e])
 have g1:((M++[MO.lst []]).set M.length (.lst (([]++[Z]).map iz)))[M.length]?=some (.lst (([]++[Z]).map iz)):=qp Bj;have k1:ni M ((M++[MO.lst []]).set M.length (.lst (([]++[Z]).map iz))):=ni.set (ni.app _ _) (bc _);generalize(M++[MO.lst []]).set M.length (.lst (([]++[Z]).map iz))=M1 at G g1 k1;have t2:(Tg.name 11).put (iz r.b) (EI s d r none (sR M.length) (some (iz r.a)) (sI z1))=some (EI s d r none (sR M.length) (some (iz r.b)) (sI z1)):=rfl;rcases asq (W:=PW m) (s:=s) (d:=d) (M:=M1) (p:=M.length) (cs:=[]++[Z]) (b9:=none) (b12:=sI z1) (w:=r.b) hy bl g1 (by simp) with⟨z,e2,n2⟩|⟨c2,z2,e2,R,q2⟩
 .refine⟨false,EI s d r none (sR M.length) (some (iz r.b)) (sI z),M1,?_,k1,?_⟩
  .rw[lp (x:=.ok (.ret (.bl false),EI s d r none (sR M.length) (some (iz r.b)) (sI z)) M1) (by
    unfold Ab;rw[Hd,Em,it];simp only[Res.t6,srcOf,Res.qm,Src.len,d9,uw,Bq,Src.item,xq,xn,t1,G,t2,e2])]
   rfl
  .simp only[dj,false_iff]
   rintro⟨_,c,_,hc,_,e,_⟩;exact n2 (cst c) (λq=>hc (za (b:=[]) q)) (by rw[eb,e])
 have g2:(M1.set M.length (.lst (([]++[Z]++[c2]).map iz)))[M.length]?=some (.lst [iz Z,iz c2]):=qp g1;have k2:ni M (M1.set M.length (.lst (([]++[Z]++[c2]).map iz))):=ni.set k1 (bc _);generalize M1.set M.length (.lst (([]++[Z]++[c2]).map iz))=M2 at e2 g2 k2;obtain⟨w1,rfl⟩:=ae1 (u:=u) (a:=h) (b:=t) (.inr ⟨U,ea▸q1⟩);obtain⟨w2,rfl⟩:=ae1 (u:=v) (a:=h) (b:=t) (.inr ⟨R,eb▸q2⟩);obtain⟨b,M3,e3,j3,k3⟩:=Uj (m:=m) (M:=M2) (a:=w1) (b:=w2) (d:=d) hm (ni.fj k2 hd) hs hw;have i0:rz (.ref M.length) (.int 0) M2=some (dz w1):=by rw[<- Bg];exact yf (iw g2) (by decide) rfl
 have i1:rz (.ref M.length) (.int 1) M2=some (dz w2):=by rw[<- Bg];exact yf (iw g2) (by decide) rfl
 refine⟨b,EI s d r none (sR M.length) (some (iz r.b)) (sI z2),M3,?_,ni.trans k2 k3,j3.trans ?_⟩
 .rw[lp (x:=.ok (.next,EI s d r none (sR M.length) (some (iz r.b)) (sI z2)) M2) (by
   unfold Ab;rw[Hd,Em,it];simp only[Res.t6,srcOf,Res.qm,Src.len,d9,uw,Bq,Src.item,xq,xn,t1,G,t2,e2,Src.fin,jk])]
  rw[p6];simp[i0,i1,e3]
 .constructor
  .intro g
   exact⟨w1,w2,λq=>U (by rw[q];rfl),λq=>R (by rw[q];rfl),ea▸q1,eb▸q2,g⟩
  .rintro⟨c,d',hc,qq,x1,x2,g⟩
   rw[ea,x1] at q1;rw[eb,x2] at q2;rw[<- za (xj (wz q1)),<- za (xj (wz q2))];exact g
def ao8(M:du)(x y:Ar):q9 M (aD x) (aD y)=some (decide (x.1=y.1)&&(decide (x.2=y.2)&&true)):=by have Z:Az (Dh M 5) (.int (x.1:Int)) (.int (y.1:Int))=some (decide (x.1=y.1)):=Rt M 4 x.1 y.1;have G:Az (Dh M 5) (.int (x.2:Int)) (.int (y.2:Int))=some (decide (x.2=y.2)):=Rt M 4 x.2 y.2;exact An (f:=Dh M 5) Z (An (as:=[]) (bs:=[]) (y:=true) G rfl)
def K5{r:my}(h:ag1 M x P):ag1 M (Xr W r x) P:=by obtain⟨b,Z,G,e,k,i⟩:=h;exact⟨b,Z,G,by rw[e];rfl,k,i⟩
def Jo(h:x=.ok (.ret (.bl false),ρ) M)(n:¬P):ag1 M x P:=⟨false,ρ,M,h,ni.refl M,by simp[n]⟩
def ave{R:List Sp}{r:Rs}(hm:2<=m)(h:Dg s V)(L:Wys s.es ws)(hd:fj M d=some (R.map Sp.toD))(hb:∀x∈R,Ly s.es x.a x.b)(S:r.Sm) :
 ∃b M',prog.call m 30 [s.toD,d,r.toD] M=.ok (.bl b) M'/\ni M M'/\(b=true↔Rgt s R r):=by
 have hw:∀y∈R,y.a∈ws/\y.b∈ws:=λy hy=>⟨L.all _ rfl (hb y hy).one,L.all _ rfl (hb y hy).two⟩
 have qv:(Aj.asg (.tg (.names [3,4,5])) (.v 0)).den (PW (m-1)) (some s.toD::some d::some r.toD::List.replicate 10 none) M=.ok (.next,[some s.toD,some d,some r.toD,some (.tup (s.es.map aD)),some (.tup (s.gs.map Gn.toD)),some (.tup [dz s.a,dz s.b]),none,none,none,none,none,none,none]) M:=rfl;have q0:(Aj.asg (.tg (.names [6,7,8])) (.v 2)).den (PW (m-1)) [some s.toD,some d,some r.toD,some (.tup (s.es.map aD)),some (.tup (s.gs.map Gn.toD)),some (.tup [dz s.a,dz s.b]),none,none,none,none,none,none,none] M=.ok (.next,EI s d r none none none none) M:=rfl;have b0:Kv=.c (.asg (.tg (.names [3,4,5])) (.v 0)) (.c (.asg (.tg (.names [6,7,8])) (.v 2)) (.c gN (.c gG (.c gO gI)))):=rfl;have fin:ag1 M (Xr (PW (m-1)) (.c gG (.c gO gI)) (gN.den (PW (m-1)) (EI s d r none none none none) M)) (Rgt s R r)->∃b M',prog.call m 30 [s.toD,d,r.toD] M=.ok (.bl b) M'/\ni M M'/\(b=true↔Rgt s R r):=λhf=>by obtain⟨b,qk,M',e,k,i⟩:=hf;refine⟨b,M',?_,k,i⟩;rw[call_of (az (by decide) hm) rfl];simp only[Fn.run,Kw,b0];simp only[d9,uw,jk,di,Ak,List.cons_append,yr,qx];rw[show(13-3:Nat)=10 from rfl,qv,p6,qx,q0,p6,qx,e];rfl
 refine fin ?_;have Zn:j8 M (.tup (s.es.map aD))=some (s.es.map aD):=rfl
 by_cases w1:IsW s.es r.a
 case neg =>
  have e1:=Qe (m:=m-1) (by lia) Zn S.a w1;have c:Ik .is .non .non M=some true:=rfl;refine K5 (Jo (ρ:=EI s d r none none none none) (by simp[gN,e1,c]) ?_);rintro⟨u,v,h1,_,B,_⟩;exact w1 ⟨u,h1,B.one⟩
 obtain⟨u,hu,U⟩:=w1;have e1:=Oj (m:=m-1) (M:=M) (by lia) Zn U (Ai h.E U);rw[<- Bg,<- hu] at e1;have ci:∀a M,Ik .is (aD a) .non M=some false:=λa M=>rfl
 by_cases w2:IsW s.es r.b
 case neg =>
  have e2:=Qe (m:=m-1) (by lia) Zn S.b w2;have c:q9 M (aD (Ej s.es u,Aq s.es u)) .non=some false:=rfl;refine K5 (Jo (ρ:=EI s d r none none none none) (by simp[gN,e1,e2,ci,c]) ?_);rintro⟨_,v,_,h2,B,_⟩;exact w2 ⟨v,h2,B.two⟩
 obtain⟨v,hv,Vw⟩:=w2;have e2:=Oj (m:=m-1) (M:=M) (by lia) Zn Vw (Ai h.E Vw);rw[<- Bg,<- hv] at e2;have qq:=ao8 M (Ej s.es u,Aq s.es u) (Ej s.es v,Aq s.es v)
 by_cases B:Ly s.es u v
 case neg =>
  have:(decide (Ej s.es u=Ej s.es v)&&(decide (Aq s.es u=Aq s.es v)&&true))=false:=by
   cases q:(decide (Ej s.es u=Ej s.es v)&&(decide (Aq s.es u=Aq s.es v)&&true)) with
   |false=>rfl|true=>simp at q;exact absurd ⟨U,Vw,q.1,q.2⟩ B
  have c:q9 M (aD (Ej s.es u,Aq s.es u)) (aD (Ej s.es v,Aq s.es v))=some false:=qq.trans (mz some this);refine K5 (Jo (ρ:=EI s d r none none none none) (by simp[gN,e1,e2,ci,c]) ?_);rintro⟨u',v',h1,h2,B',_⟩;rw[hu] at h1;rw[hv] at h2;rw[<- za h1,<- za h2] at B';exact B B'
 have c:q9 M (aD (Ej s.es u,Aq s.es u)) (aD (Ej s.es v,Aq s.es v))=some true:=by rw[qq];simp[B.st,B.go]
 have a3:gN.den (PW (m-1)) (EI s d r none none none none) M=.ok (.next,EI s d r none none none none) M:=by simp[gN,e1,e2,ci,c]
 rw[a3,p6,qx];obtain⟨a,b,y⟩:=r;have hu:a=cst u:=hu;have hv:b=cst v:=hv;subst hu hv;have rg:Rgt s R ⟨cst u,cst v,y⟩↔Uo s R u v y:=akd.trans ⟨λx=>x.2,λx=>⟨B,x⟩⟩;have ul:=Ai h.E B.one;have vl:=Ai h.E B.two
 suffices ag1 M (Xr (PW (m-1)) (.c gO gI) (gG.den (PW (m-1)) (EI s d ⟨cst u,cst v,y⟩ none none none none) M)) (Uo s R u v y) by obtain⟨b,qk,M',e,k,i⟩:=this;exact⟨b,qk,M',e,k,i.trans rg.symm⟩
 cases y with
 |given i =>
  refine K5 ?_;have G:∀M,rz (Wy.toD (.given i)) (.int 0) M=some (.str (PySem.Str.ofString "given")):=λM=>Bh _ _
  have y1:∀M,rz (Wy.toD (.given i)) (.int 1) M=some (.int i):=λM=>Cu _ _ _
  have lg:v7 .len [.tup (s.gs.map Gn.toD)] M=.ok (.int s.gs.length) M:=by simp[Bt]
  by_cases h0:0<=i
  .by_cases h1:i<s.gs.length
   .obtain⟨n,rfl⟩:∃n:Nat,i=n:=⟨i.toNat,by lia⟩
    obtain⟨g,hg⟩:∃g,s.gs[n]?=some g:=⟨_,bj (by lia)⟩;have ig:rz (.tup (s.gs.map Gn.toD)) (.int n) M=some g.toD:=Iz (jc _) (by simp[hg]);obtain⟨q,e,iq⟩:=aag M g u v;rw[<- Bg,<- Bg] at e;refine⟨q,EI s d ⟨cst u,cst v,.given n⟩ none none none none,M,?_,ni.refl M,iq.trans ⟨λZ=>⟨n,rfl,by rw[hg,Z]⟩,λ⟨k,hk,Z⟩=>?_⟩⟩
    .simp[gG,G,y1,lg,h1,ig,e]
    .have:k=n:=by lia
     subst this;rw[hg] at Z;exact gq Z
   .exact Jo (ρ:=EI s d ⟨cst u,cst v,.given i⟩ none none none none) (by simp[gG,G,y1,lg,h0,h1]) (by rintro⟨n,hn,Z⟩;have:=(ak.mp Z).1;lia)
  .exact Jo (ρ:=EI s d ⟨cst u,cst v,.given i⟩ none none none none) (by simp[gG,G,y1,lg,h0]) (by rintro⟨n,hn,Z⟩;lia)
 |put Z t w' =>
  have G:∀M,rz (Wy.toD (.put Z t w')) (.int 0) M=some (.str (PySem.Str.ofString "put")):=λM=>Bh _ _
  have g1:gG.den (PW (m-1)) (EI s d ⟨cst u,cst v,.put Z t w'⟩ none none none none) M=.ok (.next,EI s d ⟨cst u,cst v,.put Z t w'⟩ none none none none) M:=by simp[gG,G,akc]
  have g2:gO.den (PW (m-1)) (EI s d ⟨cst u,cst v,.put Z t w'⟩ none none none none) M=.ok (.next,EI s d ⟨cst u,cst v,.put Z t w'⟩ none none none none) M:=by simp[gO,G,avd]
  rw[g1,p6,qx,g2,p6];exact a0h (by lia) rfl rfl rfl S.a S.b hd hw L.few
 |off k =>
  have G:∀M,rz (Wy.toD (.off k)) (.int 0) M=some (.str (PySem.Str.ofString "off")):=λM=>Bh _ _
  have y1:∀M,rz (Wy.toD (.off k)) (.int 1) M=some (.int k):=λM=>Cu _ _ _
  have g1:gG.den (PW (m-1)) (EI s d ⟨cst u,cst v,.off k⟩ none none none none) M=.ok (.next,EI s d ⟨cst u,cst v,.off k⟩ none none none none) M:=by simp[gG,G,akb]
  rw[g1,p6,qx];refine K5 ?_;have a1:=λM=>add_one (M:=M) (cst u) k (by rw[Bk];lia)
  have a2:=λM=>add_one (M:=M) (cst v) k (by rw[Bk];lia)
  obtain⟨b,ia,ja⟩:=akf (k:=k) M s.gs;cases b with
  |false =>
   refine Jo (ρ:=EI s d ⟨cst u,cst v,.off k⟩ (some (iz (cst u++[k]))) none none none) (by simp[gO,G,y1,a1,ia]) ?_;rintro⟨n,hn,hg,_⟩;have:=ja.mpr ⟨n,hn,hg⟩;cases this
  |true =>
   obtain⟨n,rfl,hg⟩:=ja.mp rfl;have nl:n<s.es.length:=h.gs _ hg
   have eu:cst u++[(n:Int)]=cst (u++[n]):=by rw[Ot];rfl
   have ev:cst v++[(n:Int)]=cst (v++[n]):=by rw[Ot];rfl
   rw[eu] at a1;rw[ev] at a2
   by_cases g:(at_ s.es n).1=Aq s.es u
   .have W3:=B.one.app nl g
    have e3:=Oj (m:=m-1) (M:=M) (by lia) Zn W3 (Ai h.E W3);rw[<- Bg] at e3;obtain⟨b,M1,e4,j4,k4⟩:=Uj (m:=m-1) (M:=M) (a:=u++[n]) (b:=v++[n]) (d:=d) (by lia) hd hw L.few;rw[<- Bg,<- Bg] at e4;refine⟨b,EI s d ⟨cst u,cst v,.off n⟩ (some (iz (cst (u++[n])))) none none none,M1,?_,k4,j4.trans ⟨λt=>⟨n,rfl,hg,g,t⟩,?_⟩⟩
    .simp[gO,G,y1,a1,a2,ia,e3,ci,e4]
    .rintro⟨n',Vn,_,_,t⟩
     have:n'=n:=by lia
     subst this;exact t
   .have nw:¬IsW s.es (cst (u++[n])):=λq=>g ((Yh B.one nl).mp (Um.mp q))
    have e3:=Qe (m:=m-1) (by lia) Zn (by rw[Bk];simp;lia) nw;have cn:Ik .is .non .non M=some true:=rfl;refine Jo (ρ:=EI s d ⟨cst u,cst v,.off n⟩ (some (iz (cst (u++[n])))) none none none) (by simp[gO,G,y1,a1,ia,e3,cn]) ?_;rintro⟨n',Vn,_,g',_⟩;have:n'=n:=by lia
    subst this;exact g g'
def akg{G:List Rs}(hm:3<=m)(h:Dg s V)(hd:fj M d=some (G.map Rs.toD))(hS:∀r∈G,r.Sm)(hl:G.length<=100):∃b M',prog.call m 31 [s.toD,d] M=.ok (.bl b) M'/\ni M M'/\(b=true↔Fol s G):=by
 obtain⟨ws,_,_,_,L,_⟩:=Oi (m:=1) (M:=[]) (d:=.tup (s.es.map aD)) (by lia) h.E rfl;rw[call_of (az (by decide) hm) rfl];have ln:=len_list hd;rw[dh] at ln;have lp:Goes (λi ρ Z=>∃(R:List Sp)(b2:Option D),ρ=[some s.toD,some d,b2]/\Yi s G i R/\ni M Z) (λv Z=>v=.bl false/\¬Fol s G/\ni M Z) G.length (Gx.den (PW (m-1)) [some s.toD,some d,none] M):=by
  unfold Gx;refine Qo (n:=G.length) (M1:=M) (by simp[ln]) (by lia) _ _ ⟨[],none,rfl,aal,ni.refl M⟩ (λi ρ Z hi hI=>?_);obtain⟨R,b2,rfl,U,k1⟩:=hI;obtain⟨r,hr⟩:∃r,G[i]?=some r:=⟨_,bj hi⟩;have qq:=ni.fj k1 hd;have i1:rz d (.int i) Z=some r.toD:=yf qq (jc _) (by simp[hr]);have se:(G.take i).map Rs.toD=R.map Sp.toD:=by rw[<- U.e,g8];exact m9 λx _=>aaf x
  have c1:Ef d none (some (i:Int)) Z=some (.vl (R.map Sp.toD)):=by
   have:Ef d none (some (i:Int)) Z=(fj Z d).map λds=>.vl (Ec ds none (some (i:Int))):=by cases d<;>first|rfl|(simp[fj] at qq)
   rw[this,qq,qj,Ry,<- yq,se]
  obtain⟨b,M2,e2,k2,j2⟩:=ave (m:=m-1) (M:=Z) (d:=.vl (R.map Sp.toD)) (r:=r) (by lia) h L rfl (aai U) (hS r (au hr));refine⟨_,rfl,?_⟩;cases b with
  |false =>
   have nr:¬Rgt s R r:=λq=>by have:=j2.mpr q;cases this
   refine⟨.ret (.bl false),[some s.toD,some d,sI i],M2,?_,.inr ⟨_,rfl,rfl,aaj U hr nr,ni.trans k1 k2⟩⟩;simp only[Gw];simp[c1,i1,e2]
  |true =>
   obtain⟨x,hx,U3⟩:=Wo U hr (j2.mp rfl);refine⟨.next,[some s.toD,some d,sI i],M2,?_,.inl ⟨rfl,_,_,rfl,U3,ni.trans k1 k2⟩⟩;simp only[Gw];simp[c1,i1,e2]
 obtain⟨fl,qk,Z,e,⟨rfl,R,b2,rfl,U,k1⟩|⟨v,rfl,rfl,nf,k1⟩⟩:=lp
 .have hb:=aai U
  have hw:∀y∈R,y.a∈ws/\y.b∈ws:=λy hy=>⟨L.all _ rfl (hb y hy).one,L.all _ rfl (hb y hy).two⟩
  have se:G.map Rs.toD=R.map Sp.toD:=by have:=U.e;rw[uc] at this;rw[<- this,g8];exact m9 λx _=>aaf x
  obtain⟨q,M2,e2,i2,k2⟩:=Uj (m:=m-1) (M:=Z) (a:=s.a) (b:=s.b) (d:=d) (by lia) (by rw[<- se];exact ni.fj k1 hd) hw L.few;have j2:∀M,rz s.toD (.int 2) M=some (.tup [dz s.a,dz s.b]):=λM=>Rp _ _ _ _
  refine⟨q,M2,?_,ni.trans k1 k2,i2.trans (aak U).symm⟩;simp only[Fn.run,Jk,Jj];simp[e,j2,e2]
 .refine⟨false,Z,?_,k1,by simp[nf]⟩
  simp only[Fn.run,Jk,Jj];simp[e]
def avf{Z:List Ar}(hm:2<=m)(hs:Zo t f M)(h1:1<=Z.length)(h2:Z.length<=10)(y:Wy):∃G M',prog.call m 34 [.ref t,.tup (Z.map aD),y.toD] M=.ok (Wy.toD G) M'/\St t f M M':=by
 rw[call_of (az (by decide) hm) rfl];have le:∀M,v7 .len [.tup (Z.map aD)] M=.ok (.int Z.length) M:=λM=>by simp[Bt]
 obtain⟨a,M1,e1,_,s1,_⟩:=w6 (m:=m-1) (many:=4) (by lia) hs (by decide) (by decide);obtain⟨b,M2,e2,_,s2,_⟩:=w6 (m:=m-1) (many:=Z.length) (by lia) s1.has (by lia) (by lia);obtain⟨c,M3,e3,_,s3,_⟩:=w6 (m:=m-1) (many:=Z.length) (by lia) s2.has (by lia) (by lia);obtain⟨i,M4,e4,hi,s4,_⟩:=w6 (m:=m-1) (many:=3) (by lia) s3.has (by decide) (by decide);obtain⟨j,M5,e5,hj,s5,_⟩:=w6 (m:=m-1) (many:=3) (by lia) s4.has (by decide) (by decide);obtain⟨k,M6,e6,hk,s6,_⟩:=w6 (m:=m-1) (many:=7) (by lia) s5.has (by decide) (by decide);obtain⟨L,hL⟩:∃L:List (List Int),L=[[],[(b:Int)],[(a:Int)-1]]:=⟨_,rfl⟩;have L3:L.length=3:=by rw[hL];rfl
 have Ls:∀r∈L,r.length<=1000:=by rw[hL];simp
 obtain⟨R,q1⟩:∃r,L[i]?=some r:=⟨_,bj (by lia)⟩;obtain⟨U,q2⟩:∃r,L[j]?=some r:=⟨_,bj (by lia)⟩;have x1:rz (.vl (L.map iz)) (.int i) M4=some (iz R):=yf rfl (by lia) (by simp[q1]);have x2:rz (.vl (L.map iz)) (.int j) M5=some (iz U):=yf rfl (by lia) (by simp[q2]);have m1:=Ls R (au q1);have m2:=Ls U (au q2);obtain⟨Y,hY⟩:∃Y:List Wy,Y=[.given ((a:Int)-1),.off ((a:Int)-1),.off c,.put R [] ⟨m1,by simp⟩,.put [] U ⟨by simp,m2⟩,.put [] [] ⟨by simp,by simp⟩,y]:=⟨_,rfl⟩;have Y7:Y.length=7:=by rw[hY];rfl
 obtain⟨G,q3⟩:∃r,Y[k]?=some r:=⟨_,bj (by lia)⟩;have x3:rz (.vl (Y.map Wy.toD)) (.int k) M6=some G.toD:=yf rfl (by lia) (by simp[q3]);refine⟨G,M6,?_,((((s1.trans s2).trans s3).trans s4).trans s5).trans s6⟩;rw[hL] at x1 x2;rw[hY] at x3;simp only[di,Ak,iz] at x1 x2;have x3:rz (.vl [.tup [.str (PySem.Str.ofString "given"),.int ((a:Int)-1)],.tup [.str (PySem.Str.ofString "off"),.int ((a:Int)-1)],.tup [.str (PySem.Str.ofString "off"),.int (c:Int)],.tup [.str (PySem.Str.ofString "put"),.tup (R.map D.int),.tup []],.tup [.str (PySem.Str.ofString "put"),.tup [],.tup (U.map D.int)],.tup [.str (PySem.Str.ofString "put"),.tup [],.tup []],y.toD]) (.int k) M6=some G.toD:=x3;simp only[Fn.run,Ud,Uc];simp[e1,le,e2,e3,e4,x1,e5,x2,Fw,iz];rw[e6];simp only[Res.t6];rw[x3];rfl
structure Rs.Sb(n:Nat)(r:Rs):Prop where
 a:r.a.length<=n
 b:r.b.length<=n
structure Told(t:Nat)(f:Bool)(M:du)(d:D)(n l:Nat)(rs:List Rs):Prop where
 g:∀M2,St t f M M2->fj M2 d=some (rs.map Rs.toD)
 s:∀r∈rs,r.Sb n
 l:rs.length<=l
def R9(h:∀r∈rs,Rs.Sb n r)(Z:rs.length<=l):Told t f M (.vl (rs.map Rs.toD)) n l rs:=⟨λ_ _=>rfl,h,Z⟩
def ao9(h:fj M d=some ds):q9 M d (.vl [])=some ds.isEmpty:=by
 have e:q9 M d (.vl [])=(match fj M d,fj M (.vl []) with
  |some as,some bs=>if as.length=bs.length then Nq (Dh M 5) as bs else some false
  | _,_=>none):=by
  cases d<;>first|rfl|(simp[fj] at h)
 rw[e,h];cases ds<;>rfl
def akh(h:fj M d=some Z)(G:Z.length+ys.length<=100000):Bs .add d (.vl ys) M=.ok (.vl (Z++ys)) M:=by
 have e:Bs .add d (.vl ys) M=(match fj M d,fj M (.vl ys) with
  |some Z,some ys=>if Z.length+ys.length<=100000 then .ok (.vl (Z++ys)) M else .bad
  | _,_=>.bad):=by
  cases d<;>first|rfl|(simp[fj] at h)
 rw[e,h];exact bz G
abbrev EB(t:Nat)(s:Ui)(p:Nat)(b4 b5 b6 b7 b8 b9 b10:Option D):Env:=[sR t,some s.toD,sR p,some (.tup (s.es.map aD)),b4,b5,b6,b7,b8,b9,b10]
noncomputable def j0:Aj:=.f (.cmp .eq (.v 8) (.i 0)) (.o (.ret (.bin .add (.cut (.v 2) .none (.some (.v 4))) (.cut (.v 2) (.some (.bin .add (.v 4) (.i 1))) .none))))
noncomputable def j1:Aj:=.f (.cmp .eq (.v 8) (.i 1)) (.o (.ret (.bin .add (.cut (.v 2) (.some (.v 4)) .none) (.cut (.v 2) .none (.some (.v 4))))))
noncomputable def j2:Aj:=.f (.cmp .eq (.v 8) (.i 2)) (.o (.ret (.bin .add (.v 2) (.Ax (.o (.ix (.v 2) (.v 4)))))))
noncomputable def j3:Aj:=.f (.cmp .eq (.v 8) (.i 3)) (.o (.ret (.bin .add (.bin .add (.cut (.v 2) .none (.some (.v 4))) (.Ax (.o (.tup (.q (.v 6) (.v 5) (.v 7)))))) (.cut (.v 2) (.some (.bin .add (.v 4) (.i 1))) .none))))
def jX:Ex:=.ix (.Ax (.c (.ix (.v 9) (.call 2 (.p (.v 0) (.l (.v 9))))) (.c (.tup .z) (.q (.tup (.o (.neg (.i 1)))) (.bin .add (.v 5) (.tup (.o (.l (.v 3))))) (.bin .add (.v 5) (.v 5)))))) (.call 2 (.p (.v 0) (.i 5)))
def j4:Aj:=.f (.cmp .eq (.v 8) (.i 4)) (.o (.ret (.bin .add (.bin .add (.cut (.v 2) .none (.some (.v 4))) (.Ax (.o (.ix (.Ax (.p (.tup (.q (.v 5) (.v 10) (.v 7))) (.tup (.q (.v 10) (.v 6) (.v 7))))) (.call 2 (.p (.v 0) (.i 2))))))) (.cut (.v 2) (.some (.bin .add (.v 4) (.i 1))) .none))))
noncomputable def j5:Aj:=.f (.cmp .eq (.v 8) (.i 5)) (.o (.ret (.bin .add (.bin .add (.cut (.v 2) .none (.some (.v 4))) (.Ax (.o (.tup (.q (.v 10) (.v 10) (.v 7)))))) (.cut (.v 2) (.some (.v 4)) .none))))
def j6:Aj:=.ret (.bin .add (.bin .add (.cut (.v 2) .none (.some (.v 4))) (.Ax (.o (.tup (.q (.v 5) (.v 6) (.call 34 (.q (.v 0) (.v 3) (.v 7)))))))) (.cut (.v 2) (.some (.bin .add (.v 4) (.i 1))) .none))
def apa{n i j:Nat}{X Z:List Rs}(h:∀r∈Z,Rs.Sb n r)(G:∀r∈X,Rs.Sb n r):∀r∈Z.take i++X++Z.drop j,Rs.Sb n r:=λr U=>by
 rcases cz.mp U with q|q
 .rcases cz.mp q with q|q
  .exact h r (uo q)
  .exact G r q
 .exact h r (um q)
def avh{rs X:List Rs}{n j:Nat}(G:rs.length<=1000)(Z:X.length<=1):Bs .add (.vl ((rs.take n).map Rs.toD++X.map Rs.toD)) (.vl ((rs.drop j).map Rs.toD)) M=.ok (.vl ((rs.take n++X++rs.drop j).map Rs.toD)) M:=by rw[Fw _ _ (by simp;lia)];simp
def ae2(h:Rs.Sb n r)(Z:n<=k):Rs.Sb k r:=⟨az h.a Z,az h.b Z⟩
def jT:my:=.c j0 (.c j1 (.c j2 (.c j3 (.c (.a 9 (.call 25 (.o (.v 3)))) (.c (.a 10 jX) (.q j4 j5 j6))))))
abbrev EC(t:Nat)(s:Ui)(p:Nat)(k v:Nat)(r:Rs)(b9 b10:Option D):Env:=EB t s p (sI k) (some (iz r.a)) (some (iz r.b)) (some r.y.toD) (sI v) b9 b10
def acz{s:Ui}{r:Rs}{p k v:Nat}(hm:2<=m)(h:Dg s V)(hs:Zo t f M)(hr:r.Sb n)(qq:60<=n)(hn:n<=400) :
 ∃w b9 M',(my.c (.a 9 (.call 25 (.o (.v 3)))) (.c (.a 10 jX) q)).den (PW m) (EC t s p k v r none none) M=q.den (PW m) (EC t s p k v r b9 (some (iz w))) M'/\w.length<=2*n/\St t f M M':=by
 have tl:=hs.lt;obtain⟨R,M1,e1,g1,L,k1⟩:=Oi (m:=m) (M:=M) (d:=.tup (s.es.map aD)) (by lia) h.E rfl;have S1:St t f M M1:=.of hs k1;have wp:0<R.length:=u9 (L.one 0 h.E.pos)
 have wf:=L.few;have ln:=len_list (iw g1);rw[dh] at ln;obtain⟨i,M2,e2,hi,S2,_⟩:=w6 (m:=m) (many:=R.length) (by lia) S1.has (by lia) (by lia);have g2:=S2.keep _ _ (show M.length≠t by lia) g1;obtain⟨G,Z⟩:∃w,R[i]?=some w:=⟨_,bj (by lia)⟩;have W0:=Ai h.E (L.way G (au Z));have ix:rz (.ref M.length) (.int i) M2=some (iz (cst G)):=by rw[Bg];exact yf (iw g2) (jc _) (by simp[Z])
 obtain⟨j,M3,e3,hj,S3,_⟩:=w6 (m:=m) (many:=5) (by lia) S2.has (by decide) (by decide);have le:v7 .len [.tup (s.es.map aD)] M2=.ok (.int s.es.length) M2:=by simp[Bt]
 have ra:=hr.a;have a1:=add_one (M:=M2) r.a s.es.length (by lia);have a2:=Rx (M:=M2) r.a r.a (by lia);obtain⟨X,hX⟩:∃X:List (List Int),X=[cst G,[],[-1],r.a++[(s.es.length:Int)],r.a++r.a]:=⟨_,rfl⟩;have X5:X.length=5:=by rw[hX];rfl
 have Xs:∀w∈X,w.length<=2*n:=by
  rw[hX];intro w hw;simp only[dg,vd,or_false] at hw;rcases hw with rfl|rfl|rfl|rfl|rfl
  .rw[Bk];lia
  .simp
  .simp;lia
  .simp;lia
  .simp;lia
 obtain⟨w,hw⟩:∃w,X[j]?=some w:=⟨_,bj (by lia)⟩;have U:rz (.vl (X.map iz)) (.int j) M3=some (iz w):=yf rfl (by lia) (by simp[hw]);rw[hX] at U;have U:rz (.vl [iz (cst G),.tup [],.tup [.int (-1)],iz (r.a++[(s.es.length:Int)]),iz (r.a++r.a)]) (.int j) M3=some (iz w):=U;refine⟨w,sR M.length,M3,?_,Xs w (au hw),(S1.trans S2).trans S3⟩;have y1:(Aj.a 9 (.call 25 (.o (.v 3)))).den (PW m) (EC t s p k v r none none) M=.ok (.next,EC t s p k v r (sR M.length) none) M1:=by simp[e1]
 have y2:(Aj.a 10 jX).den (PW m) (EC t s p k v r (sR M.length) none) M1=.ok (.next,EC t s p k v r (sR M.length) (some (iz w))) M3:=by unfold jX;simp[ln,e2,ix,le,a1,a2,e3];rw[U];rfl
 rw[qx,y1,p6,qx,y2,p6]
def Wq{v a:Nat}(h:¬v=a):¬(v:Int)=(a:Int):=λq=>h (by lia)
def len_cat{Z:List Rs}{k j l:Nat}(x:Rs)(U:k<Z.length)(G:k<=j)(R:Z.length<=l):(Z.take k++[x]++Z.drop j).length<=l+1:=by simp;lia
def Ow{Z:List Rs}{k l n:Nat}{M:du}(R:∀r∈Z,Rs.Sb n r)(G:k<Z.length)(U:Z.length<=l)(x:Rs)(sx:x.Sb n)(j:Nat)(hj:k<=j):Told t f M (.vl ((Z.take k++[x]++Z.drop j).map Rs.toD)) n (l+1) (Z.take k++[x]++Z.drop j) :=
 R9 (apa R (by simpa using sx)) (len_cat x G hj U)
def aki{Z:List Rs}(k:Nat)(G:Z.length<=1000)(x:Rs):Bs .add (.vl ((Z.take k).map Rs.toD)) (.vl [x.toD]) M=.ok (.vl ((Z.take k).map Rs.toD++[x].map Rs.toD)) M:=by rw[Fw _ _ (by simp;lia)];rfl
def ae3{a b:List Rs}(h:a.length+b.length<=1000):Bs .add (.vl (a.map Rs.toD)) (.vl (b.map Rs.toD)) M=.ok (.vl ((a++b).map Rs.toD)) M:=by rw[Fw _ _ (by simp;lia),gh]
def asr(Z:List Rs)(k:Nat):(Z.take k).length+(Z.drop (k+1)).length<=Z.length:=by simp;lia
def ass(Z:List Rs)(k:Nat):(Z.drop k).length+(Z.take k).length<=Z.length:=by simp;lia
def akj{rs:List Rs}{n l:Nat}{r:Rs}{k v p:Nat}(hm:2<=m)(h:Dg s V)(hs:Zo t f M)(hp:M[p]?=some (.lst (rs.map Rs.toD)))(qv:p≠t)(hS:∀r∈rs,r.Sb n)(q6:60<=n)(hn:n<=400)(hl:rs.length<=l)(ll:l<=99)(hr:rs[k]?=some r) :
 ∃d' zz q7 M',jT.den (PW m) (EC t s p k v r none none) M=.ok (.ret d',q7) M'/\Told t f M' d' (2*n) (l+1) zz/\St t f M M':=by
 have qq:rs.length<=1000:=az hl (az ll (by decide))
 have n2:n<=2*n:=Nat.le_mul_of_pos_left n (by decide)
 have hk:=(ak.mp hr).1;have rS:=hS r (au hr);have R:r.Sb (2*n):=ae2 rS n2;have Z:∀r∈rs,r.Sb (2*n):=λr hr=>ae2 (hS r hr) n2
 have ek:((k:Int)+1)=((k+1:Nat):Int):=rfl;have G:∀U,U[p]?=some (.lst (rs.map Rs.toD))->Ef (.ref p) none (some (k:Int)) U=some (.vl ((rs.take k).map Rs.toD)):=λU g=>by rw[Oo g,Ry,yq]
 have cf:∀U,U[p]?=some (.lst (rs.map Rs.toD))->Ef (.ref p) (some (k:Int)) none U=some (.vl ((rs.drop k).map Rs.toD)):=λU g=>by rw[Oo g,Qc,List.map_drop]
 have cg:∀U,U[p]?=some (.lst (rs.map Rs.toD))->Ef (.ref p) (some ((k:Int)+1)) none U=some (.vl ((rs.drop (k+1)).map Rs.toD)):=λU g=>by rw[ek,Oo g,Qc,List.map_drop]
 have ap:=λ(x:Rs) (U:du)=>aki (M:=U) k qq x
 have qk:=λ(x:Rs) (j:Nat) (U:du)=>avh (M:=U) (rs:=rs) (X:=[x]) (n:=k) (j:=j) qq (bc 1)
 unfold jT
 by_cases v0:v=0
 .subst v0
  refine⟨.vl ((rs.take k++rs.drop (k+1)).map Rs.toD),rs.take k++rs.drop (k+1),EC t s p k 0 r none none,M,?_,R9 (λx hx=>?_) (by rw[jd];exact Nat.le_succ_of_le (az (asr rs k) hl)),.refl hs⟩
  .have a:=ae3 (M:=M) (a:=rs.take k) (b:=rs.drop (k+1)) (az (asr rs k) qq)
   have q:j0.den (PW m) (EC t s p k 0 r none none) M=.ok (.ret (.vl ((rs.take k++rs.drop (k+1)).map Rs.toD)),EC t s p k 0 r none none) M:=by unfold j0;have G:=G M hp;have cg:=cg M hp;generalize(rs.take k).map Rs.toD=A at *;generalize(rs.drop (k+1)).map Rs.toD=B at *;simp[-List.map_append,G,cg,a]
   rw[qx,q];rfl
  .rcases cz.mp hx with q|q
   .exact Z x (uo q)
   .exact Z x (um q)
 have w0:¬(v:Int)=0:=Wq v0;have q0:j0.den (PW m) (EC t s p k v r none none) M=.ok (.next,EC t s p k v r none none) M:=by simp[j0,w0,v0]
 rw[qx,q0,p6,qx]
 by_cases v1:v=1
 .subst v1
  refine⟨.vl ((rs.drop k++rs.take k).map Rs.toD),rs.drop k++rs.take k,EC t s p k 1 r none none,M,?_,R9 (λx hx=>?_) (by rw[jd];exact Nat.le_succ_of_le (az (ass rs k) hl)),.refl hs⟩
  .have a:=ae3 (M:=M) (a:=rs.drop k) (b:=rs.take k) (az (ass rs k) qq)
   have q:j1.den (PW m) (EC t s p k 1 r none none) M=.ok (.ret (.vl ((rs.drop k++rs.take k).map Rs.toD)),EC t s p k 1 r none none) M:=by unfold j1;have G:=G M hp;have cf:=cf M hp;generalize(rs.take k).map Rs.toD=A at *;generalize(rs.drop k).map Rs.toD=B at *;simp[-List.map_append,G,cf,a]
   rw[q];rfl
  .rcases cz.mp hx with q|q
   .exact Z x (um q)
   .exact Z x (uo q)
 have w1:¬(v:Int)=1:=Wq v1;have q1:j1.den (PW m) (EC t s p k v r none none) M=.ok (.next,EC t s p k v r none none) M:=by simp[j1,w1,v1]
 rw[q1,p6,qx]
 by_cases v2:v=2
 .subst v2
  refine⟨.vl ((rs++[r]).map Rs.toD),rs++[r],EC t s p k 2 r none none,M,?_,R9 (λx hx=>?_) (by rw[jd];exact Nat.succ_le_succ hl),.refl hs⟩
  .have a:=akh (ys:=[r.toD]) (iw hp) (by rw[dh];exact az (Nat.succ_le_succ qq) (by decide))
   have ix:rz (.ref p) (.int k) M=some r.toD:=yf (iw hp) (jc _) (by simp[hr]);have e:rs.map Rs.toD++[r.toD]=(rs++[r]).map Rs.toD:=by simp
   rw[e] at a;have q:j2.den (PW m) (EC t s p k 2 r none none) M=.ok (.ret (.vl ((rs++[r]).map Rs.toD)),EC t s p k 2 r none none) M:=by unfold j2;simp[-List.map_append,ix,a]
   rw[q];rfl
  .rcases cz.mp hx with q|q
   .exact Z x q
   .simp at q;subst q;exact R
 have w2:¬(v:Int)=2:=Wq v2;have q2:j2.den (PW m) (EC t s p k v r none none) M=.ok (.next,EC t s p k v r none none) M:=by simp[j2,w2,v2]
 rw[q2,p6,qx]
 by_cases v3:v=3
 .subst v3
  refine⟨_,_,EC t s p k 3 r none none,M,?_,Ow Z hk hl ⟨r.b,r.a,r.y⟩ ⟨R.b,R.a⟩ (k+1) (n6 k),.refl hs⟩;have a1:=ap ⟨r.b,r.a,r.y⟩ M;have a2:=qk ⟨r.b,r.a,r.y⟩ (k+1) M;have a1:Bs .add (.vl ((rs.take k).map Rs.toD)) (.vl [.tup [iz r.b,iz r.a,r.y.toD]]) M=_:=a1;have q:j3.den (PW m) (EC t s p k 3 r none none) M=.ok (.ret (.vl ((rs.take k++[(⟨r.b,r.a,r.y⟩:Rs)]++rs.drop (k+1)).map Rs.toD)),EC t s p k 3 r none none) M:=by unfold j3;have G:=G M hp;have cg:=cg M hp;generalize(rs.take k++[(⟨r.b,r.a,r.y⟩:Rs)]++rs.drop (k+1)).map Rs.toD=C at *;generalize(rs.take k).map Rs.toD++[(⟨r.b,r.a,r.y⟩:Rs)].map Rs.toD=A2 at *;generalize(rs.take k).map Rs.toD=A at *;generalize(rs.drop (k+1)).map Rs.toD=B at *;simp[G,cg,a1,a2]
  rw[q];rfl
 have w3:¬(v:Int)=3:=Wq v3;have q3:j3.den (PW m) (EC t s p k v r none none) M=.ok (.next,EC t s p k v r none none) M:=by simp[j3,w3,v3]
 rw[q3,p6];obtain⟨w,b9,M4,e4,wl,S4⟩:=acz (m:=m) (q:=.q j4 j5 j6) (p:=p) (k:=k) (v:=v) hm h hs rS q6 hn;rw[e4,qx];have g4:=S4.keep _ _ qv hp
 by_cases v4:v=4
 .subst v4
  obtain⟨i,M5,e5,hi,S5,_⟩:=w6 (m:=m) (many:=2) (by lia) S4.has (by decide) (by decide);have g5:=S5.keep _ _ qv g4;obtain⟨x,hx,sx⟩:∃x:Rs,rz (.vl [.tup [iz r.a,iz w,r.y.toD],.tup [iz w,iz r.b,r.y.toD]]) (.int i) M5=some x.toD/\x.Sb (2*n):=by
   have:i=0\/i=1:=by lia
   rcases this with rfl|rfl
   .exact⟨⟨r.a,w,r.y⟩,yf rfl (jc _) rfl,R.a,wl⟩
   .exact⟨⟨w,r.b,r.y⟩,yf rfl (jc _) rfl,wl,R.b⟩
  refine⟨.vl ((rs.take k++[x]++rs.drop (k+1)).map Rs.toD),rs.take k++[x]++rs.drop (k+1),EC t s p k 4 r b9 (some (iz w)),M5,?_,Ow Z hk hl x sx (k+1) (n6 k),S4.trans S5⟩;have a1:=ap x M5;have a2:=qk x (k+1) M5;have q:j4.den (PW m) (EC t s p k 4 r b9 (some (iz w))) M4=.ok (.ret (.vl ((rs.take k++[x]++rs.drop (k+1)).map Rs.toD)),EC t s p k 4 r b9 (some (iz w))) M5:=by unfold j4;have G:=G M4 g4;have cg:=cg M5 g5;generalize(rs.take k++[x]++rs.drop (k+1)).map Rs.toD=C at *;generalize(rs.take k).map Rs.toD++[x].map Rs.toD=A2 at *;generalize(rs.take k).map Rs.toD=A at *;generalize(rs.drop (k+1)).map Rs.toD=B at *;simp[G,cg,e5,hx,a1,a2]
  rw[q];rfl
 have w4:¬(v:Int)=4:=Wq v4;have q4:j4.den (PW m) (EC t s p k v r b9 (some (iz w))) M4=.ok (.next,EC t s p k v r b9 (some (iz w))) M4:=by simp[j4,w4,v4]
 rw[q4,p6,qx]
 by_cases v5:v=5
 .subst v5
  refine⟨_,_,EC t s p k 5 r b9 (some (iz w)),M4,?_,Ow Z hk hl ⟨w,w,r.y⟩ ⟨wl,wl⟩ k (bc k),S4⟩;have a1:Bs .add (.vl ((rs.take k).map Rs.toD)) (.vl [.tup [iz w,iz w,r.y.toD]]) M4=_:=ap ⟨w,w,r.y⟩ M4;have a2:=qk ⟨w,w,r.y⟩ k M4;have q:j5.den (PW m) (EC t s p k 5 r b9 (some (iz w))) M4=.ok (.ret (.vl ((rs.take k++[(⟨w,w,r.y⟩:Rs)]++rs.drop k).map Rs.toD)),EC t s p k 5 r b9 (some (iz w))) M4:=by unfold j5;have G:=G M4 g4;have cf:=cf M4 g4;generalize(rs.take k++[(⟨w,w,r.y⟩:Rs)]++rs.drop k).map Rs.toD=C at *;generalize(rs.take k).map Rs.toD++[(⟨w,w,r.y⟩:Rs)].map Rs.toD=A2 at *;generalize(rs.take k).map Rs.toD=A at *;generalize(rs.drop k).map Rs.toD=B at *;simp[G,cf,a1,a2]
  rw[q];rfl
 have w5:¬(v:Int)=5:=Wq v5;have q5:j5.den (PW m) (EC t s p k v r b9 (some (iz w))) M4=.ok (.next,EC t s p k v r b9 (some (iz w))) M4:=by simp[j5,w5,v5]
 rw[q5,p6];obtain⟨y',M5,e5,S5⟩:=avf (m:=m) hm S4.has h.E.pos h.E.few r.y;have g5:=S5.keep _ _ qv g4;refine⟨_,_,EC t s p k v r b9 (some (iz w)),M5,?_,Ow Z hk hl ⟨r.a,r.b,y'⟩ ⟨R.a,R.b⟩ (k+1) (n6 k),S4.trans S5⟩;have a1:Bs .add (.vl ((rs.take k).map Rs.toD)) (.vl [.tup [iz r.a,iz r.b,y'.toD]]) M5=_:=ap ⟨r.a,r.b,y'⟩ M5;have a2:=qk ⟨r.a,r.b,y'⟩ (k+1) M5;have q:j6.den (PW m) (EC t s p k v r b9 (some (iz w))) M4=.ok (.ret (.vl ((rs.take k++[(⟨r.a,r.b,y'⟩:Rs)]++rs.drop (k+1)).map Rs.toD)),EC t s p k v r b9 (some (iz w))) M5:=by unfold j6;have G:=G M4 g4;have cg:=cg M5 g5;generalize(rs.take k++[(⟨r.a,r.b,y'⟩:Rs)]++rs.drop (k+1)).map Rs.toD=C at *;generalize(rs.take k).map Rs.toD++[(⟨r.a,r.b,y'⟩:Rs)].map Rs.toD=A2 at *;generalize(rs.take k).map Rs.toD=A at *;generalize(rs.drop (k+1)).map Rs.toD=B at *;simp[G,cg,e5,a1,a2]
 rw[qx,q];rfl
def Sd{Z:List Rs}{n l:Nat}(hm:3<=m)(h:Dg s V)(hs:Zo t f M)(hd:fj M d=some (Z.map Rs.toD))(hS:∀r∈Z,r.Sb n)(qk:60<=n)(hn:n<=400)(hl:Z.length<=l)(ll:l<=99) :
 ∃d' G M',prog.call m 35 [.ref t,s.toD,d] M=.ok d' M'/\Told t f M' d' (2*n) (l+1) G/\St t f M M':=by
 rw[call_of (az (by decide) hm) rfl];have tl:=hs.lt;have i0:∀M,rz s.toD (.int 0) M=some (.tup (s.es.map aD)):=λM=>Bh _ _
 have li:v7 .list [d] M=.ok (.ref M.length) (M++[.lst (Z.map Rs.toD)]):=by simp only[v7,Ma,Dk hd,MW.new]
 have R:(M++[MO.lst (Z.map Rs.toD)])[M.length]?=some (.lst (Z.map Rs.toD)):=Bj;have S1:St t f M (M++[MO.lst (Z.map Rs.toD)]):=.of hs (ni.app _ _);generalize M++[MO.lst (Z.map Rs.toD)]=M1 at li R S1;have U:=ao9 (iw R);have b0:Qy=.c (.a 3 (.ix (.v 1) (.i 0))) (.c (.a 2 (.blt .list (.o (.v 2)))) (.c (.f (.cmp .eq (.v 2) (.Ax .z)) (.o (.ret (.v 2)))) (.c (.a 4 (.call 2 (.p (.v 0) (.l (.v 2))))) (.c (.asg (.tg (.names [5,6,7])) (.ix (.v 2) (.v 4))) (.c (.a 8 (.call 2 (.p (.v 0) (.i 8)))) jT))))):=rfl;have x1:(Aj.a 3 (.ix (.v 1) (.i 0))).den (PW (m-1)) [sR t,some s.toD,some d,none,none,none,none,none,none,none,none] M=.ok (.next,[sR t,some s.toD,some d,some (.tup (s.es.map aD)),none,none,none,none,none,none,none]) M:=by simp[i0]
 have x2:(Aj.a 2 (.blt .list (.o (.v 2)))).den (PW (m-1)) [sR t,some s.toD,some d,some (.tup (s.es.map aD)),none,none,none,none,none,none,none] M=.ok (.next,EB t s M.length none none none none none none none) M1:=by simp[li]
 simp only[Fn.run,Qz,b0];simp only[d9,uw,jk,di,Ak,List.cons_append,yr];rw[show(11-3:Nat)=8 from rfl,show List.replicate 8 (none:Option D)=[none,none,none,none,none,none,none,none] from rfl,qx,x1,p6,qx,x2,p6,qx]
 by_cases z:Z=[]
 .subst z
  refine⟨.ref M.length,[],M1,?_,⟨λM2 S=>iw (S.keep _ _ (by lia) R),by simp,by simp⟩,S1⟩;have U:q9 M1 (.ref M.length) (.vl [])=some true:=U;have x3:(Aj.f (.cmp .eq (.v 2) (.Ax .z)) (.o (.ret (.v 2)))).den (PW (m-1)) (EB t s M.length none none none none none none none) M1=.ok (.ret (.ref M.length),EB t s M.length none none none none none none none) M1:=by simp[U]
  rw[x3];rfl
 have zp:0<Z.length:=km.mpr z
 have U:q9 M1 (.ref M.length) (.vl [])=some false:=by rw[U];congr 1;rw[List.isEmpty_map];simpa using z
 have ln:=len_list (iw R);rw[dh] at ln;obtain⟨k,M2,e2,hk,S2,_⟩:=w6 (m:=m-1) (many:=Z.length) (by lia) S1.has (by lia) (by lia);have hk:k<Z.length:=by lia
 have g2:=S2.keep _ _ (show M.length≠t by lia) R;obtain⟨r,hr⟩:∃r,Z[k]?=some r:=⟨_,bj hk⟩;have qq:rz (.ref M.length) (.int k) M2=some r.toD:=yf (iw g2) (jc _) (by simp[hr]);obtain⟨v,M3,e3,hv,S3,_⟩:=w6 (m:=m-1) (many:=8) (by lia) S2.has (by decide) (by decide);have g3:=S3.keep _ _ (show M.length≠t by lia) g2;obtain⟨d',G,qv,M4,e4,T4,S4⟩:=akj (m:=m-1) (k:=k) (v:=v) (by lia) h S3.has g3 (by lia) hS qk hn hl ll hr;refine⟨d',G,M4,?_,T4,((S1.trans S2).trans S3).trans S4⟩;have nm:(Tg.names [5,6,7]).put r.toD (EB t s M.length (sI k) none none none none none none)=some (EB t s M.length (sI k) (some (iz r.a)) (some (iz r.b)) (some r.y.toD) none none none):=rfl;have x3:(Aj.f (.cmp .eq (.v 2) (.Ax .z)) (.o (.ret (.v 2)))).den (PW (m-1)) (EB t s M.length none none none none none none none) M1=.ok (.next,EB t s M.length none none none none none none none) M1:=by simp[U]
 have x4:(Aj.a 4 (.call 2 (.p (.v 0) (.l (.v 2))))).den (PW (m-1)) (EB t s M.length none none none none none none none) M1=.ok (.next,EB t s M.length (sI k) none none none none none none) M2:=by simp[ln,e2]
 have x5:(Aj.asg (.tg (.names [5,6,7])) (.ix (.v 2) (.v 4))).den (PW (m-1)) (EB t s M.length (sI k) none none none none none none) M2=.ok (.next,EB t s M.length (sI k) (some (iz r.a)) (some (iz r.b)) (some r.y.toD) none none none) M2:=by simp[qq,nm]
 have x6:(Aj.a 8 (.call 2 (.p (.v 0) (.i 8)))).den (PW (m-1)) (EB t s M.length (sI k) (some (iz r.a)) (some (iz r.b)) (some r.y.toD) none none none) M2=.ok (.next,EC t s M.length k v r none none) M3:=by simp[e3]
 rw[x3,p6,qx,x4,p6,qx,x5,p6,qx,x6,p6,e4];rfl
def By(R:∃c,Az f a b=some c)(h2:∃c,Nq f G bs=some c):∃c,Nq f (a::G) (b::bs)=some c:=by obtain⟨c,U⟩:=R;obtain⟨d,Z⟩:=h2;exact⟨_,An U Z⟩
def Q0{f:D->D->Option Bool}(bs:List D):∃c,Nq f [] bs=some c:=by cases bs<;>exact⟨_,rfl⟩
def Jp{Z bs:List D}(h:∃c,Nq (Dh M 4) Z bs=some c):∃c,Az (Dh M 5) (.tup Z) (.tup bs)=some c:=h
def asu{f:D->D->Option Bool}(Z:List D):∃c,Nq f Z []=some c:=by cases Z<;>exact⟨_,rfl⟩
def a0j(M:du)(x y:Wy):∃c,Az (Dh M 5) x.toD y.toD=some c:=by
 have Z:∀a b:PySem.Str,∃c,Az (Dh M 4) (.str a) (.str b)=some c:=λa b=>⟨_,rfl⟩
 have ii:∀a b:Int,∃c,Az (Dh M 4) (.int a) (.int b)=some c:=λa b=>⟨_,rfl⟩
 have it:∀(a:Int)(r:X9),∃c,Az (Dh M 4) (.int a) (iz r)=some c:=λa r=>⟨_,rfl⟩
 have U:∀(a:Int)(r:X9),∃c,Az (Dh M 4) (iz r) (.int a)=some c:=λa r=>⟨_,rfl⟩
 have G:∀(r q:X9),∃c,Az (Dh M 4) (iz r) (iz q)=some c:=λr q=>⟨_,Yg M 2 r q⟩
 cases x with
 |given i=>cases y with
  |given j=>exact Jp (By (Z _ _) (By (ii _ _) (Q0 _)))|off j=>exact Jp (By (Z _ _) (By (ii _ _) (Q0 _)))|put h t _=>exact Jp (By (Z _ _) (By (it _ _) (Q0 _)))
 |off i=>cases y with
  |given j=>exact Jp (By (Z _ _) (By (ii _ _) (Q0 _)))|off j=>exact Jp (By (Z _ _) (By (ii _ _) (Q0 _)))|put h t _=>exact Jp (By (Z _ _) (By (it _ _) (Q0 _)))
 |put a b _=>cases y with
  |given j=>exact Jp (By (Z _ _) (By (U _ _) (asu _)))|off j=>exact Jp (By (Z _ _) (By (U _ _) (asu _)))|put h t _=>exact Jp (By (Z _ _) (By (G _ _) (By (G _ _) (Q0 _))))
def a0k(M:du)(x y:Sp):∃c,q9 M x.toD y.toD=some c :=
 By (f:=Dh M 5) ⟨_,Lx M 3 x.a y.a⟩ (By ⟨_,Lx M 3 x.b y.b⟩ (By (a0j M x.y y.y) (Q0 _)))
def a0l(M:du)(x:Sp)(Z:List Sp)(U:j8 M d=some (Z.map Sp.toD)):∃c,Pk M x.toD d=some c:=by
 have:∀Z:List Sp,∃bs,Iw M x.toD (Z.map Sp.toD)=some bs:=λZ=>by
  induction Z with
  |nil=>exact⟨_,rfl⟩
  |cons y Z G =>
   obtain⟨bs,e⟩:=G;obtain⟨c,R⟩:=a0k M y x;exact⟨c::bs,by simp only[di,Iw,R,e]⟩
 obtain⟨bs,e⟩:=this Z;exact⟨_,by rw[Pk,U,Option.bind_some,memD,e];rfl⟩
def Sg(T:Told t f M d n l rs)(S:St t f M Z):Told t f Z d n l rs:=⟨λU G=>T.g U (S.trans G),T.s,T.l⟩
def akk(Z:List Sp):Z.map Sp.toD=(Z.map Sp.Wn).map Rs.toD:=by rw[g8];exact m9 λx _=>(aaf x).symm
def asv(h:Dg s V){ss:List Sp}(Z:∀x∈ss,Ly s.es x.a x.b):∀r∈ss.map Sp.Wn,r.Sb 60:=λr U=>by obtain⟨x,G,rfl⟩:=dq.mp U;exact⟨by show(cst x.a).length<=60;rw[Bk];exact Ai h.E (Z x G).one,by show(cst x.b).length<=60;rw[Bk];exact Ai h.E (Z x G).two⟩
def ae4(hm:7<=m)(h:Dg s V)(hs:Zo t f M)(T:Told t f M d n l rs)(hn:n<=1000)(hl:l<=100) :
 ∃b M1 Z,prog.call m 24 [s.toD,.tup (rs.map Rs.toD)] M=.ok (.bl b) M1/\prog.call m 31 [s.toD,d] M1=.ok (.bl b) Z/\St t f M Z/\v7 .tuple [d] M=.ok (.tup (rs.map Rs.toD)) M:=by
 have hS:∀r∈rs,r.Sm:=λr hr=>⟨az (T.s r hr).a hn,az (T.s r hr).b hn⟩
 have R:=az T.l hl;obtain⟨b,M1,e1,k1,i1⟩:=acy (m:=m) (M:=M) hm h hS R;have U:St t f M M1:=.of hs k1;obtain⟨G,Z,e2,k2,i2⟩:=akg (m:=m) (M:=M1) (d:=d) (by lia) h (T.g M1 U) hS R;have:G=b:=by
  cases b with
  |true=>exact i2.mpr (i1.mp rfl)
  |false=>cases G with
   |false=>rfl|true=>exact(i1.mpr (i2.mp rfl)).symm▸rfl
 subst this;refine⟨G,M1,Z,e1,e2,U.keep' k2,?_⟩;have q:=Dk (T.g M (.refl hs));simp[v7,q]
abbrev EL(sc:D)(t:Nat)(b2 b3 b4 b5 b6 b7 b8:Option D):Env:=[some sc,sR t,b2,b3,b4,b5,b6,b7,b8]
def apb{s:Ui}{G:List Sp}(hm:2<=m)(h:Dg s V)(hp:M[p]?=some (.lst (G.map Sp.toD)))(hb:∀x∈G,Ly s.es x.a x.b)(hn:G.length<=60) :
 ∃(Z:List Sp)(M':du),Oe.den (PW m) (EL sc t b2 (some s.toD) (sR p) b5 b6 b7 b8) M=.ok (.vl (Z.map Sp.toD)) M'/\ni M M'/\(∀y∈Z,Ly s.es y.a y.b)/\Z.length<=12:=by
 obtain⟨L,R,e1,F⟩:=aeu (m:=m) hm h (iw hp) hb hn;unfold Oe;have cu:Ef (.ref M.length) none (some 12) R=some (.vl ((L.take 12).map Sp.toD)):=by rw[Oo F.g,show(12:Int)=((12:Nat):Int) from rfl,Ry,yq]
 obtain⟨Z,M2,e2,k2,h2,l2⟩:=Uk (W:=PW m) (ρ:=EL sc t b2 (some s.toD) (sR p) none none none none) (M:=M) (M1:=R) (it:=.cut (.call 32 (.p (.v 3) (.v 4))) .none (.some (.i 12))) (t:=.name 9) (k:=1) (d:=.vl ((L.take 12).map Sp.toD)) (xs:=L.take 12) (f:=Sp.toD) (g:=Sp.toD) (c:=.cmp .Kc (.v 9) (.v 4)) (e:=.v 9) (by simp[-List.map_take,e1,cu]) rfl (az (List.length_take_le _ _) (by decide))
  (λU=>ni M U) (λ_=>True) F.k (λ_ _=>rfl) (λx hx U k3=>by
   obtain⟨c,hc⟩:=a0l U x G (Dk (iw (k3 _ _ hp)));exact⟨_,!c,U,rfl,by simp[hc],k3,λ_=>⟨trivial,by simp⟩⟩)
 exact⟨Z,M2,e2,k2,λy hy=>F.b y (uo (h2 y hy).1),az l2 (List.length_take_le _ _)⟩
def Tl(t:Nat)(f:Bool)(M:du)(d:D):Prop:=∃Z n l,Told t f M d n l Z/\n<=1000/\l<=100
def ad7{ds:List D}(hm:7<=m)(h:Dg s V)(hs:Zo t f M1)(qq:(Ex.Ax X).den (PW m) (EL sc t U (some s.toD) b4 G b6 b7 b8) M=.ok (.vl ds) M1)(hd:∀d∈ds,Tl t f M1 d) :
 ∃R Z M',(Aj.for_ (.name 6) (.val (.Ax X)) Od).den (PW m) (EL sc t U (some s.toD) b4 G b6 b7 b8) M=.ok (.next,EL sc t U (some s.toD) b4 G R Z b8) M'/\St t f M1 M':=by
 obtain⟨qk,M',e,R,Z,rfl,S⟩:=zy (W:=PW m) (it:=.Ax X) (t:=.name 6) (b:=Od) (ρ:=EL sc t U (some s.toD) b4 G b6 b7 b8) (M:=M) (M1:=M1) (d:=.vl ds) qq rfl
  (λ_ ρ M2=>∃R Z:Option D,ρ=EL sc t U (some s.toD) b4 G R Z b8/\St t f M1 M2) ⟨b6,b7,rfl,.refl hs⟩ (λ_ _ _ _=>rfl)
  (λi x ρ M2 hx hI=>by
   obtain⟨R,Z,rfl,S2⟩:=hI;obtain⟨rs,n,l,T,hn,hl⟩:=hd x (au hx);obtain⟨b,M3,M4,e3,e4,S4,tu⟩:=ae4 (m:=m) hm h S2.has (Sg T S2) hn hl;have ib:v7 .isBool [.bl b] M3=.ok (.bl true) M3:=rfl;refine⟨_,.next,EL sc t U (some s.toD) b4 G (some x) (some (.bl b)) b8,M4,rfl,?_,.inl rfl,_,_,rfl,S2.trans S4⟩;show Od.den (PW m) (EL sc t U (some s.toD) b4 G (some x) Z b8) M2=_;simp only[Od];simp[tu,e3,ib,e4])
 exact⟨R,Z,M',e,S⟩
def tA:Aj:=.a 8 (.call 35 (.q (.v 1) (.v 3) (.call 35 (.q (.v 1) (.v 3) (.v 4)))))
def tF:Aj:=.f (.cmp .ne (.call 24 (.p (.v 3) (.blt .tuple (.o (.v 8))))) (.call 31 (.p (.v 3) (.v 8)))) (.o (.ret (.cst (.bl false))))
def apc(hm:8<=m)(hs:Zo t f M):∃c3 c4 c5 Z G c8 M',Rr.den (PW m) (EL sc t b2 b3 b4 b5 b6 b7 b8) M=.ok (.next,EL sc t b2 c3 c4 c5 Z G c8) M'/\St t f M M':=by
 have tl:=hs.lt;obtain⟨s,V,M1,e1,h,S1⟩:=agz (m:=m) (by lia) hs;obtain⟨ws,_,_,_,L,_⟩:=Oi (m:=1) (M:=[]) (d:=.tup (s.es.map aD)) (by lia) h.E rfl;obtain⟨R,M2,e2,S⟩:=ajp (m:=m) (M:=M1) (by lia) h L;have S2:=S1.keep' S.k;have sn:=S.c.len;obtain⟨ys,M3,e3,k3,yb,yl⟩:=apb (m:=m) (sc:=sc) (t:=t) (b2:=b2) (b5:=b5) (b6:=b6) (b7:=b7) (b8:=b8) (by lia) h S.g S.b sn;have S3:=S2.keep' k3;have g3:=k3 _ _ S.g;have ad:=akh (ys:=ys.map Sp.toD) (iw g3) (by simp;lia);rw[<- gh] at ad;have pt:M1.length≠t:=by have:=S1.len;lia
 have sS:=asv h S.b;have sM:=asv (ss:=R++ys) h (λx hx=>by
  rcases cz.mp hx with q|q
  .exact S.b x q
  .exact yb x q)
 have TS:Told t f M3 (.ref M1.length) 60 60 (R.map Sp.Wn):=⟨λM' S'=>by rw[<- akk];exact iw (S'.keep _ _ pt g3),sS,by simpa using sn⟩;have TM:Told t f M3 (.vl ((R++ys).map Sp.toD)) 60 72 ((R++ys).map Sp.Wn):=⟨λM' S'=>by rw[<- akk];rfl,sM,by simp;lia⟩;obtain⟨d4,q1,M4,e4,T4,S4⟩:=Sd (m:=m) (by lia) h S3.has (TS.g M3 (.refl S3.has)) sS (bc 60) (by decide) TS.l (by decide);obtain⟨d5,q2,M5,e5,T5,S5⟩:=Sd (m:=m) (by lia) h S4.has (TM.g M4 S4) sM (bc 60) (by decide) TM.l (by decide);generalize(R++ys).map Sp.toD=mo at ad TM e5;have U:=S4.trans S5;have lp:∃Z G M',Rq.den (PW m) (EL sc t b2 (some s.toD) (sR M1.length) (some (.vl mo)) b6 b7 b8) M3=.ok (.next,EL sc t b2 (some s.toD) (sR M1.length) (some (.vl mo)) Z G b8) M'/\St t f M5 M':=by
  unfold Rq;refine ad7 (ds:=[.ref M1.length,.vl mo,.vl [],d4,d5]) (M1:=M5) (by lia) h S5.has (by simp[e4,e5]) (λd hd=>?_);simp only[dg,vd,or_false] at hd;rcases hd with rfl|rfl|rfl|rfl|rfl
  .exact⟨_,_,_,Sg TS U,by decide,by decide⟩
  .exact⟨_,_,_,Sg TM U,by decide,by decide⟩
  .exact⟨[],0,0,⟨λ_ _=>rfl,by simp,by simp⟩,by decide,by decide⟩
  .exact⟨_,_,_,Sg T4 S5,by decide,by decide⟩
  .exact⟨_,_,_,T5,by decide,by decide⟩
 obtain⟨Z,G,M6,e6,S6⟩:=lp;have qq:=U.trans S6;obtain⟨d7,q3,M7,e7,T7,S7⟩:=Sd (m:=m) (by lia) h S6.has (TS.g M6 qq) sS (bc 60) (by decide) TS.l (by decide);obtain⟨d8,q0,M8,e8,T8,S8⟩:=Sd (m:=m) (n:=2*60) (l:=60+1) (by lia) h S7.has (T7.g M7 (.refl S7.has)) T7.s (by decide) (by decide) T7.l (by decide);obtain⟨b,M9,M10,e9,qk,qv,tu⟩:=ae4 (m:=m) (by lia) h S8.has T8 (by decide) (by decide);refine⟨some s.toD,sR M1.length,some (.vl mo),Z,G,some d8,M10,?_,(((S3.trans qq).trans S7).trans S8).trans qv⟩;have b0:Rr=.c (.a 3 (.call 27 (.o (.v 1)))) (.c (.a 4 (.call 33 (.o (.v 3)))) (.c (.a 5 (.bin .add (.v 4) Oe)) (.q Rq tA tF))):=rfl;have x1:(Aj.a 3 (.call 27 (.o (.v 1)))).den (PW m) (EL sc t b2 b3 b4 b5 b6 b7 b8) M=.ok (.next,EL sc t b2 (some s.toD) b4 b5 b6 b7 b8) M1:=by simp[e1]
 have x2:(Aj.a 4 (.call 33 (.o (.v 3)))).den (PW m) (EL sc t b2 (some s.toD) b4 b5 b6 b7 b8) M1=.ok (.next,EL sc t b2 (some s.toD) (sR M1.length) b5 b6 b7 b8) M2:=by simp[e2]
 have x3:(Aj.a 5 (.bin .add (.v 4) Oe)).den (PW m) (EL sc t b2 (some s.toD) (sR M1.length) b5 b6 b7 b8) M2=.ok (.next,EL sc t b2 (some s.toD) (sR M1.length) (some (.vl mo)) b6 b7 b8) M3:=by simp[e3,ad]
 have x4:tA.den (PW m) (EL sc t b2 (some s.toD) (sR M1.length) (some (.vl mo)) Z G b8) M6=.ok (.next,EL sc t b2 (some s.toD) (sR M1.length) (some (.vl mo)) Z G (some d8)) M8:=by simp[tA,e7,e8]
 have x5:tF.den (PW m) (EL sc t b2 (some s.toD) (sR M1.length) (some (.vl mo)) Z G (some d8)) M8=.ok (.next,EL sc t b2 (some s.toD) (sR M1.length) (some (.vl mo)) Z G (some d8)) M10:=by simp[tF,tu,e9,qk]
 rw[b0,qx,x1,p6,qx,x2,p6,qx,x3,p6,qx,e6,p6,qx,x4,p6,qx,x5,p6,Xq]
def avj{m:Nat}{ns:X9}{M:du}(hm:9<=m):∃M',prog.call m 36 [.fz (ns.map D.int)] M=.ok (.bl true) M':=by
 rw[call_of (az (by decide) hm) rfl];obtain⟨n0,f0,s0,o0⟩:=ai8 (m:=m-1) (k:=0) (ns:=ns) (M:=M) (by lia);have s0:prog.call (m-1) 1 [.fz (ns.map D.int),.int 0] M=_:=s0;have qq:Zo M.length f0 (M++[.lst [.int n0,.bl f0]]):=⟨n0,by simp,o0⟩;obtain⟨qk,M',e,⟨b2,R,b4,Z,b6,G,U,rfl⟩,-⟩:=Hf (W:=PW (m-1)) (t:=.name 2) (b:=Rr) (it:=.i 4) (n:=4) (ρ:=EL (.fz (ns.map D.int)) M.length none none none none none none none) (M:=M++[.lst [.int n0,.bl f0]]) (M1:=M++[.lst [.int n0,.bl f0]]) rfl (by decide)
  (λ_ ρ M'=>(∃b2 R b4 Z b6 G U,ρ=EL (.fz (ns.map D.int)) M.length b2 R b4 Z b6 G U)/\Zo M.length f0 M') ⟨⟨none,none,none,none,none,none,none,rfl⟩,qq⟩
  (λi ρ M1 hi hI=>by
   obtain⟨⟨b2,R,b4,Z,b6,G,U,rfl⟩,h1⟩:=hI;obtain⟨c3,c4,c5,c6,c7,c8,M2,e2,S2⟩:=apc (m:=m-1) (sc:=.fz (ns.map D.int)) (b2:=sI i) (b3:=R) (b4:=b4) (b5:=Z) (b6:=b6) (b7:=G) (b8:=U) (by lia) h1;exact⟨_,.next,_,M2,rfl,e2,.inl rfl,⟨_,c3,c4,c5,c6,c7,c8,rfl⟩,S2.has⟩)
 have e':aeh.den (PW (m-1)) _ _=_:=e;exact⟨M',by simp[Fn.run,ai7,asj,s0,e']⟩
end K72
namespace L2
open PySem PySem.Spec PyProof.Rows
abbrev Key:=Sum Int Str
noncomputable def Wr:Key->Value->Bool
 |.inl k,v=>Value.isInt k v|.inr x,v=>Value.isStrOf x v
noncomputable def a75(w:World):Key->Int
 |.inl k=>hashInt k|.inr x=>hashStr w x
theorem Av:∀{k:Key}{v:Value},Wr k v=true->(∃i t,k=Sum.inl i/\v=Value.int i t)\/(∃x t,k=Sum.inr x/\v=Value.str x t)
 |.inl i,v,h=>by
  obtain⟨t,e⟩:=Value.isInt_shape (k:=i) (v:=v) h;exact .inl ⟨i,t,rfl,e⟩
 |.inr x,v,h=>by
  obtain⟨t,e⟩:=Value.isStrOf_shape (x:=x) (v:=v) h;exact .inr ⟨x,t,rfl,e⟩
def ag2(i:Int)(t:Tok):Wr (.inl i) (.int i t)=true:=by simp[Wr,Value.isInt]
def ag3(x:Str)(t:Tok):Wr (.inr x) (.str x t)=true:=by simp[Wr,Value.isStrOf]
def avk(a b:Int):decide ((Sum.inl a:Key)=Sum.inl b)=(a==b):=by
 by_cases e:a=b
 .subst e;simp
 .have h:¬(Sum.inl a:Key)=Sum.inl b:=λq=>e (Sum.inl.inj q)
  rw[u0 h];exact(ye.mpr e).symm
def avl(a b:Str):decide ((Sum.inr a:Key)=Sum.inr b)=decide (a=b):=by
 by_cases e:a=b
 .subst e;simp
 .have h:¬(Sum.inr a:Key)=Sum.inr b:=λq=>e (Sum.inr.inj q)
  rw[u0 h,u0 e]
def avm(a:Int)(b:Str):decide ((Sum.inl a:Key)=Sum.inr b)=false:=u0 (λq=>nomatch q)
def avn(a:Str)(b:Int):decide ((Sum.inr a:Key)=Sum.inl b)=false:=u0 (λq=>nomatch q)
def Aw(prog:Program)(w:World):PySem.KeyKind prog w Key where
 is:=Wr
 hash:=a75 w
 inj:=λv a b R G=>by
  rcases Av R with⟨i,t,rfl,rfl⟩|⟨x,t,rfl,rfl⟩
  .rcases Av G with⟨j,u,rfl,e⟩|⟨y,u,rfl,e⟩
   .injection e with e1 _;rw[e1]
   .exact nomatch e
  .rcases Av G with⟨j,u,rfl,e⟩|⟨y,u,rfl,e⟩
   .exact nomatch e
   .injection e with e1 _;rw[e1]
 byValue:=λk v h=>by rcases Av h with⟨i,t,rfl,rfl⟩|⟨x,t,rfl,rfl⟩<;>rfl
 pyHash:=λZ h=>by
  rcases Av Z with⟨i,t,rfl,rfl⟩|⟨x,t,rfl,rfl⟩
  .exact wpAny_pyHash_int h
  .exact wpAny_pyHash_str h
 eqBool:=λU Z h=>by
  rcases Av U with⟨i,t,rfl,rfl⟩|⟨x,t,rfl,rfl⟩
  .rcases Av Z with⟨j,u,rfl,rfl⟩|⟨y,u,rfl,rfl⟩
   .rw[avk] at h;exact wpAny_eqBool_int h
   .rw[avm] at h;exact SeqAt.EqAt.int_str i t y u _ _ _ _ h
  .rcases Av Z with⟨j,u,rfl,rfl⟩|⟨y,u,rfl,rfl⟩
   .rw[avn] at h;exact SeqAt.EqAt.str_int x t j u _ _ _ _ h
   .rw[avl] at h;exact wpAny_eqBool_str h
 «strs»:=λk x t v h=>by
  rcases Av h with⟨i,u,rfl,e⟩|⟨y,u,rfl,e⟩
  .exact nomatch e
  .injection e with e1 _
   subst e1;cases v<;>rfl
def aan(prog:Program)(w:World)(i:Int)(t:Tok):(Aw prog w).is (.inl i) (.int i t)=true:=ag2 i t
def aao(prog:Program)(w:World)(x:Str)(t:Tok):(Aw prog w).is (.inr x) (.str x t)=true:=ag3 x t
end L2
namespace L2
open PySem PySem.Spec PyProof.Rows
set_option genInjectivity true in
inductive V where
 |non|bl (b:Bool)|int (i:Int)|str (x:Str)|byt (b:Array UInt8)|flt (b:UInt64)|ref (a:Addr)|ty (n:String)
 deriving DecidableEq
def RelV:V->Value->Prop
 |.non,u=>u=Value.none|.bl b,u=>u=Value.bool b|.int i,u=>∃t,u=Value.int i t|.str x,u=>∃t,u=Value.str x t|.byt b,u=>∃t,u=Value.bytes b t|.flt b,u=>∃t,u=Value.float b t|.ref a,u=>u=Value.ref a|.ty n,u=>u=Value.type n
abbrev Vals:List V->List Value->Prop:=Paired RelV
theorem Vals.length(r:Vals G Z):G.length=Z.length:=Paired.length r
theorem Vals.get:∀{G:List V}{Z:Zl}{i:Nat}{x:V},Vals G Z->G[i]?=some x->∃u,Z[i]?=some u/\RelV x u
 |_,_,_,_,.nil,e=>by simp at e|_,_,0,_,.cons r _,e=>by simp at e;subst e;exact⟨_,rfl,r⟩
 |_,_,i+1,x,.cons _ t,e=>by
  obtain⟨u,R,U⟩:=Vals.get (i:=i) (x:=x) t (by simpa using e);exact⟨u,by simpa using R,U⟩
theorem Vals.set{x:V}{u:Value}(r:RelV x u):∀{G:List V}{Z:Zl}(i:Nat),Vals G Z->Vals (G.set i x) (Z.set i u)
 |_,_,_,.nil=>.nil|_,_,0,.cons _ t=>.cons r t|_,_,i+1,.cons q t=>.cons q (Vals.set r i t)
theorem Vals.append:∀{R G:List V}{U Z:Zl},Vals R U->Vals G Z->Vals (R++G) (U++Z):=by intro _ _ _ _ h r;induction h with|nil=>exact r|cons q t ih=>exact .cons q ih
theorem Vals.take:∀{G:List V}{Z:Zl}(n:Nat),Vals G Z->Vals (G.take n) (Z.take n)
 |_,_,0,_=>.nil|_,_,_+1,.nil=>.nil|_,_,n+1,.cons r t=>.cons r (Vals.take n t)
theorem Vals.drop:∀{G:List V}{Z:Zl}(n:Nat),Vals G Z->Vals (G.drop n) (Z.drop n)
 |_,_,0,r=>r|_,_,_+1,.nil=>.nil|_,_,n+1,.cons _ t=>Vals.drop n t
def J7:Option V->Option Value->Prop
 |some v,some u=>RelV v u|none,none=>True|_,_=>False
def KV{Z:Type}:List (Z×V)->List (Z×Value)->Prop:=Paired λ(p:Z×V) (q:Z×Value)=>p.1=q.1/\RelV p.2 q.2
noncomputable def kV:Key->V
 |.inl i=>.int i|.inr x=>.str x
inductive HO where
 |lst (xs:List V)
 |tup (xs:List V)
 |dK (o6:List (Key×V))|dT (o6:List (List Key×V))
 |set (S:Int->Bool) (n:Nat)
 |ins (C dx:Addr) (fs:List (Str×V))
 |own (x:Addr)
 |xd (fs:List (Str×V))
 |met (f x:Addr)
 |Rh (lo hi:Int)
 |Ih (o:Obj) (u:HO)
 |tbl (ps:U1)
 |ext (φ:Heap->Prop)
abbrev Hp:=Addr->Option HO
noncomputable def upd(H:Hp)(a:Addr)(o:HO):Hp:=λb=>if b=a then some o else H b
def uf:upd H a o a=some o:=by unfold upd;rw[bz rfl]
def lz(h:b≠a):upd H a o b=H b:=by unfold upd;rw[cj h]
def aap{H:Hp}(h:H a=some o)(Z:H b=some u)(d:o≠u):a≠b:=by intro e;subst e;rw[h] at Z;exact d (gq Z)
def n8{H:Hp}(h:H a=some o)(Z:H b=none):a≠b:=by intro e;subst e;rw[h] at Z;cases Z
section
variable(P:Program)(w:World)
def Vs(h:Heap)(a:Addr)(Z:U1):Prop:=∃o,h.get? a=some o/\o.cls=.type "tuple"/\∃n,o.data=.seq Z n/\o.dict=none
def Vs.is(x:Vs h a items):IsTup h a items:=let ⟨o,h1,h2,n,h3,_⟩:=x;⟨o,h1,h2,n,h3⟩
def Vs.new(h:Heap)(items:U1):Vs (h.push { cls:=.type "tuple",data:=.seq items }) h.objs.size items:=⟨_,bu _ rfl,rfl,_,rfl,rfl⟩
def Ay(H:Hp)(h:Heap)(a:Addr):HO->Prop
 |.lst Z=>Z.length<=sizeLine/\∃(U:Zl)(n:Nat),Vals Z U/\h.get? a=some { cls:=.type "list",data:=.seq U.toArray n }|.tup Z=>Z.length<=sizeLine/\∃U:List Value,Vals Z U/\Vs h a U.toArray|.dK o6=>o6.length<=sizeLine/\(a==sysModules)=false/\∃R,KV o6 R/\h.DictOf (Aw P w) a R
 |.dT o6=>o6.length<=sizeLine/\(a==sysModules)=false/\∃Z:List (List Key×Addr×Value),
  Paired (λ(p:List Key×V) (q:List Key×Addr×Value)=>p.1=q.1/\H q.2.1=some (.tup (p.1.map kV))/\RelV p.2 q.2.2) o6 Z /\
  ∃o es ep,h.get? a=some o/\o.ExactDict/\o.data=.dict es ep/\es.toList=Z.map (entryOfKey (tupleKind (Aw P w)))/\(Z.map (·.1)).Nodup
 |.set S n=>h.SetOf (intKind P w) a S n
 |.ins C dx fs=>H dx=some (.own a)/\fs.length<=1000/\dx≠a/\h.get? a=some (PySem.W.instObj C dx) /\
  ∃G,h.Ns1 dx G/\(∀f,J7 (fs.lookup f) (G f))/\PySem.Within G (fs.map (·.1))
 |.own _=>∃o,h.get? a=some o|.xd fs=>∃G,h.Ns1 a G/\∀f,J7 (fs.lookup f) (G f)|.Rh lo hi=>∃t u v,h.get? a=some { cls:=.type "range",data:=.fields #[.int lo t,.int hi u,.int 1 v] }|.Ih o u=>h.get? a=some o/\Ay H h a u|.tbl ps=>h.get? a=some { cls:=.none,data:=.fields ps }|.met f x=>h.get? a=some (PySem.W.methodObj (.ref f) (.ref x))|.ext φ=>φ h/\(∃o,h.get? a=some o)/\∀h1 h2:Heap,φ h1->(∀o,h1.get? a=some o->h2.get? a=some o)->φ h2
def Nj(H:Hp)(h:Heap):Prop:=∀a o,H a=some o->Ay P w H h a o
end
theorem Ay.lt(x:Ay P w H h a o):a<h.objs.size:=by
 cases o with
 |lst G=>obtain⟨_,_,_,_,e⟩:=x;exact bf e
 |tup G=>obtain⟨_,_,_,p⟩:=x;exact(Vs.is p).lt
 |dK Z=>obtain⟨_,_,_,_,o,_,_,e,_⟩:=x;exact bf e
 |dT Z=>obtain⟨_,_,_,_,o,_,_,e,_⟩:=x;exact bf e
 |set S n=>obtain⟨o,_,_,_,e,_⟩:=x;exact bf e
 |ins C dx fs=>obtain⟨_,_,_,e,_⟩:=x;exact bf e
 |own y=>obtain⟨_,e⟩:=x;exact bf e
 |xd fs=>obtain⟨_,⟨_,_,_,e,_⟩,_⟩:=x;exact bf e
 |Rh U hi=>obtain⟨_,_,_,e⟩:=x;exact bf e
 |Ih R u=>obtain⟨e,_⟩:=x;exact bf e
 |tbl ps=>exact bf (show h.get? a=some _ from x)
 |met f y=>exact bf (show h.get? a=some _ from x)
 |ext φ=>obtain⟨_,⟨_,e⟩,_⟩:=x;exact bf e
theorem Paired.avp{α R:Type}{F G:α->R->Prop}:∀{Z:List α}{U:List R},Paired F Z U->(∀a b,F a b->G a b)->Paired G Z U:=by intro _ _ h f;induction h with|nil=>exact .nil|cons r t ih=>exact .cons (f _ _ r) ih
def Ay.stay(x:Ay P w H h a o)(k:∀b u,(b=a\/H b=some (.own a))->h.get? b=some u->h'.get? b=some u)(ho:∀b,H b=some (.own a)->H' b=some (.own a))(ht:∀b R,H b=some (.tup R)->H' b=some (.tup R)):Ay P w H' h' a o:=by
 induction o with
 |lst R=>obtain⟨z,uv,n,r,e⟩:=x;exact⟨z,uv,n,r,k _ _ (.inl rfl) e⟩
 |tup R=>obtain⟨z,uv,r,Z,e,c⟩:=x;exact⟨z,uv,r,Z,k _ _ (.inl rfl) e,c⟩
 |dK o6=>obtain⟨z,y,vs,r,Z,G,U,e,c⟩:=x;exact⟨z,y,vs,r,Z,G,U,k _ _ (.inl rfl) e,c⟩
 |dT o6 =>
  obtain⟨z,y,R,r,Z,G,U,e,c⟩:=x;exact⟨z,y,R,Paired.avp r λp q z=>⟨z.1,ht _ _ z.2.1,z.2.2⟩,Z,G,U,k _ _ (.inl rfl) e,c⟩
 |set S n=>obtain⟨Z,G,U,t,e,c⟩:=x;exact⟨Z,G,U,t,k _ _ (.inl rfl) e,c⟩
 |ins C dx fs =>
  obtain⟨d,z,ne,e,mA,⟨od,G,U,e2,c⟩,r⟩:=x;exact⟨ho _ d,z,ne,k _ _ (.inl rfl) e,mA,⟨od,G,U,k _ _ (.inr d) e2,c⟩,r⟩
 |own y=>obtain⟨Z,e⟩:=x;exact⟨Z,k _ _ (.inl rfl) e⟩
 |xd fs=>obtain⟨mA,⟨od,G,U,e,c⟩,r⟩:=x;exact⟨mA,⟨od,G,U,k _ _ (.inl rfl) e,c⟩,r⟩
 |Rh lo hi=>obtain⟨t,u,v,e⟩:=x;exact⟨t,u,v,k _ _ (.inl rfl) e⟩
 |Ih Z u ih=>obtain⟨e,q⟩:=x;exact⟨k _ _ (.inl rfl) e,ih q⟩
 |tbl ps =>
  have e:h.get? a=some { cls:=.none,data:=.fields ps }:=x;show h'.get? a=some { cls:=.none,data:=.fields ps };exact k a _ (.inl rfl) e
 |met f y =>
  have e:h.get? a=some (PySem.W.methodObj (.ref f) (.ref y)):=x;show h'.get? a=some (PySem.W.methodObj (.ref f) (.ref y));exact k a _ (.inl rfl) e
 |ext φ=>obtain⟨p,⟨o,e⟩,st⟩:=x;exact⟨st _ _ p λo q=>k _ _ (.inl rfl) q,⟨o,k _ _ (.inl rfl) e⟩,st⟩
theorem Nj.lt(x:Nj P w H h)(e:H a=some o):a<h.objs.size:=(x a o e).lt
def Nj.fresh(x:Nj P w H h)(e:h.objs.size<=a):H a=none:=by
 cases q:H a with
 |none=>rfl|some u=>exact absurd (gw (x.lt q) e) (o8 _)
def Nj.kept(x:Nj P w H h)(k:∀b u,h.get? b=some u->h'.get? b=some u):Nj P w H h':=λa o e =>
 (x a o e).stay (λb u _ q=>k b u q) (λ_ q=>q) λ_ _ q=>q
def Nj.laid(x:Nj P w H h)(k:∀b u,h.get? b=some u->h'.get? b=some u)(U:h.objs.size<=a)(new:Ay P w (upd H a o) h' a o):Nj P w (upd H a o) h':=λb u e=>by
 have G:=x.fresh U
 by_cases Z:b=a
 .subst Z;rw[uf] at e;cases e;exact new
 .rw[lz Z] at e
  exact(x b u e).stay (λc v _ q=>k c v q) (λc q=>by rw[lz (n8 q G)];exact q) λc R q=>by rw[lz (n8 q G)];exact q
def Rd(H:Hp)(a:Addr)(u:HO):Prop:=H a=some u\/∃o,H a=some (.Ih o u)
def Rd.ok(r:Rd H a u)(x:Nj P w H h):Ay P w H h a u:=by
 rcases r with r|⟨o,r⟩
 .exact x a u r
 .obtain⟨_,q⟩:=x a _ r
  exact q
def Mut:Option HO->Prop
 |some (.lst _)=>True|some (.dK _)=>True|some (.dT _)=>True|some (.set _ _)=>True|some (.ins _ _ _)=>True|some (.ext _)=>True|_=>False
def Nj.write(ok:Nj P w H h)(mu:Mut (H x))(he:e=x\/H e=some (.own x))(k:∀b u,b≠e->h.get? b=some u->h'.get? b=some u)(qq:∃u,h'.get? e=some u)(new:Ay P w (upd H x o') h' x o'):Nj P w (upd H x o') h':=λb u q=>by
 have G:∀c y,H c=some (.own y)->c≠x:=λc y r z=>by subst z;rw[r] at mu;exact mu
 have qk:∀c R,H c=some (.tup R)->c≠x:=λc R r z=>by subst z;rw[r] at mu;exact mu
 by_cases hb:b=x
 .subst hb;rw[uf] at q;cases q;exact new
 .rw[lz hb] at q
  by_cases Z:b=e
  .have q':H b=some (.own x):=by
    rcases he with z|z
    .exact absurd (Z.trans z) hb
    .rw[Z];exact z
   rw[q] at q';cases q';obtain⟨v,hv⟩:=qq;exact⟨v,by rw[Z];exact hv⟩
  .refine(ok b u q).stay (λc v U r=>k c v ?_ r) (λc r=>by rw[lz (G c b r)];exact r) λc R r=>by rw[lz (qk c R r)];exact r
   rcases U with rfl|U
   .exact Z
   .rintro rfl
    rcases he with z|z
    .exact G c b U z
    .rw[U] at z;cases z;exact hb rfl
structure Un(fs ex:X1)(H H':Hp)(h h':Heap):Prop where
 keep:∀b o,h.get? b=some o->H b=none->b∉fs->b∉ex->h'.get? b=some o
 slot:∀b o,h.get? b=some o->H b=none->b∈fs->b∉ex->∃sl,h'.get? b=some { o with slots:=sl }
 free:∀b o,h.get? b=some o->H b=none->b∉ex->H' b=none
 there:∀b o,h.get? b=some o->b∉ex->∃o',h'.get? b=some o'
 Uq:∀b xs,H b=some (.tup xs)->H' b=some (.tup xs)
 Yj:∀b o u,H b=some (.Ih o u)->H' b=some (.Ih o u)
 aaq:∀b ps,H b=some (.tbl ps)->∃more,H' b=some (.tbl (ps++more))
def Un.any(u:Un fs ex H H1 h R)(q:h.get? b=some Z)(n:H b=none)(G:b∉ex):∃sl,R.get? b=some { Z with slots:=sl }:=by
 by_cases U:b∈fs
 .exact u.slot b Z q n U G
 .exact⟨Z.slots,u.keep b Z q n U G⟩
def Un.kept(k:∀b u,h.get? b=some u->h'.get? b=some u):Un fs ex H H h h' :=
 ⟨λb Z q _ _ _=>k b Z q,λb Z q _ _ _=>⟨Z.slots,k b Z q⟩,λ_ _ _ n _=>n,λb Z q _=>⟨Z,k b Z q⟩,λ_ _ q=>q,λ_ _ _ q=>q,λ_ G q=>⟨#[],by rw[q];simp⟩⟩
def Un.refl:Un fs ex H H h h:=Un.kept λ_ _ q=>q
theorem Un.laid(k:∀b u,h.get? b=some u->h'.get? b=some u)(U:h.objs.size<=a)(Z:H a=none):Un fs ex H (upd H a o) h h' where
 keep:=λb u q _ _ _=>k b u q
 slot:=λb u q _ _ _=>⟨u.slots,k b u q⟩
 free:=λb u q n _=>by rw[lz (ie (gw (bf q) U))];exact n
 there:=λb u q _=>⟨u,k b u q⟩
 Uq:=λb G q=>by rw[lz (n8 q Z)];exact q
 Yj:=λb u G q=>by rw[lz (n8 q Z)];exact q
 aaq:=λb R q=>⟨#[],by rw[lz (n8 q Z),q];simp⟩
def Un.write(G:Mut (H x))(he:e=x\/H e=some (.own x))(k:∀b u,b≠e->h.get? b=some u->h'.get? b=some u)(R:∃u,h'.get? e=some u):Un fs ex H (upd H x o) h h':=by
 have hx:∀b,H b=none->b≠x:=λb n z=>by subst z;rw[n] at G;exact G
 have hb:∀b,H b=none->b≠e:=λb n z=>by
  subst z;rcases he with r|r
  .exact hx b n r
  .rw[n] at r;cases r
 have U:∀b u,H b=some u->¬Mut (some u)->b≠x:=λb u q nm z=>by subst z;rw[q] at G;exact nm G
 refine⟨λb u q n _ _=>k b u (hb b n) q,λb u q n _ _=>⟨u.slots,k b u (hb b n) q⟩,λb u q n _=>by rw[lz (hx b n)];exact n,λb u q _=>?_,
  λb xs q=>by rw[lz (U b _ q λz=>z)];exact q,λb u xs q=>by rw[lz (U b _ q λz=>z)];exact q,λb ps q=>⟨#[],by rw[lz (U b _ q λz=>z),q];simp⟩⟩
 by_cases Z:b=e
 .subst Z;exact R
 .exact⟨u,k b u Z q⟩
noncomputable def trk(h:Heap)(H:Hp):List Addr:=(List.range h.objs.size).filter λa=>(H a).isSome
def Yk(h:Heap)(H:Hp):Heap:=PySem.W.hideAll h (trk h H)
def ag4(h:Heap)(H:Hp):(Yk h H).objs.size=h.objs.size:=PySem.W.hideAll_size _ _
def akl(e:h.get? b=some o)(n:H b=none):(Yk h H).get? b=some o :=
 PySem.W.hideAll_get _ e λZ=>by have q:(H b).isSome=true:=(sy.mp Z).2;rw[n] at q;simp at q
def apd(e:(Yk h H).get? b=some o):h.get? b=some o/\H b=none:=by
 have Z:h.get? b=some o:=PySem.W.of_hideAll (trk h H) e;refine⟨Z,?_⟩;cases q:H b with
 |none=>rfl
 |some x =>
  have G:b∈trk h H:=sy.mpr ⟨lq.mpr (bf Z),by simp[q]⟩;have z:(Yk h H).get? b=none:=PySem.W.hideAll_none (trk h H) G;rw[z] at e;cases e
end L2
namespace L2
open PySem PySem.Spec PyProof.Rows
structure Mod(K:Fg)(mg:Zs)(base:Heap):Prop where
 kin:K.In base
 glob:base.Ns mainGlobals mg
 blt:∃mb,base.Ns builtinsNs mb/\∀x:Str,x≠"__name__" -> mb x=bootBuiltins x
 nolimit:base.NoLimit
structure Cx where
 prog:Program
 w:World
 K:Fg
 mg:Str->Option Value
 base:Heap
 A:Around
 N:List Str
 s₀:Shared
 H₀:Hp
 env:Env
 outer:List Env
 stack:List Env
 ex:List Addr
 fn:Str->Bool
 calm:Bool
 pn:List (Addr×Obj)
 xe:Value->Shared->Prop
noncomputable def frs(l:List Env):List Addr:=l.filterMap (·.frame)
abbrev Cx.fs(X:Cx):List Addr:=frs X.outer
def Vis(Z:Scope)(x:Str):Prop:=Z.names.lookup x=some .local\/Z.names.lookup x=some .cell\/Z.names.lookup x=some .free
def Loc(Z:Scope)(x:Str):Prop:=Z.names.lookup x=some .local\/Z.names.lookup x=some .cell
def Look(Z:Env)(h:Heap)(m:Zs)(x:Str)(u:Value):Prop :=
 (Z.kindOf x=some .local/\m x=some u)\/((Z.kindOf x=some .cell\/Z.kindOf x=some .free)/\∃c,Z.cells.lookup x=some c/\h.IsCell c (some u))
structure Cx.Ok(X:Cx):Prop where
 mod:Mod X.K X.mg X.base
 kind:X.env.scope.kind=.function
 glob:X.env.globals=mainGlobals
 blt:X.env.builtins=builtinsNs
 above:X.s₀.heap.objs.size<=X.env.locals
 inj:∀x y c,X.env.cells.lookup x=some c->X.env.cells.lookup y=some c->x=y
 has:∀x,(X.env.kindOf x=some .cell\/X.env.kindOf x=some .free)->∃c,X.env.cells.lookup x=some c
 cab:∀x c,X.fn x=true->X.env.cells.lookup x=some c->X.s₀.heap.objs.size<=c
 hd:X.calm=true->X.A.handled=none
 frames:X.A.frames=some X.stack
 stk:X.stack=X.outer\/(X.stack=X.env::X.outer/\X.env.frame=some X.env.locals)
 exf:∀b∈X.ex,b≠X.env.locals/\∀x c,X.env.cells.lookup x=some c->c≠b
 bs:∀b o,X.base.get? b=some o->X.s₀.heap.get? b=some o/\X.H₀ b=none
 bsz:X.base.objs.size<=X.s₀.heap.objs.size
 akn:∀b o,X.base.get? b=some o->b∉X.ex
 apf:∀b∈X.ex,b∉X.fs
 Ri:X.s₀.heap.FunFrames X.base X.outer
 frf:∀b∈X.fs,X.H₀ b=none
structure Inv(X:Cx)(pins:Zp)(σ:List (Option V))(H:Hp)(s:Shared):Prop where
 ok:X.Ok
 os:s.os=X.s₀.os
 bare:AllBare s.gens
 base:Un X.fs X.ex X.H₀ H X.s₀.heap s.heap
 loc:∃m,s.heap.Ns X.env.locals m/\∀(i:Nat)(x:Str)(v:V),X.N[i]?=some x->σ[i]?=some (some v)->Vis X.env.scope x->∃u,RelV v u/\Look X.env s.heap m x u
 cell:∀x c,X.env.cells.lookup x=some c->∃v,s.heap.IsCell c v
 free:H X.env.locals=none
 K6:∀x c,X.env.cells.lookup x=some c->H c=none
 pin:∀p∈X.pn++pins,s.heap.get? p.1=some p.2/\H p.1=none/\p.1≠X.env.locals/\p.1∉X.fs/\∀v,p.2.data≠.cell v
 Am:Nj X.prog X.w H s.heap
 len:σ.length=X.N.length
def Cx.Ok.a77{X:Cx}(ok:X.Ok)(e:X.base.get? b=some o):b∉X.fs:=λZ=>by have:=(ok.Ri.mem Z).1;rw[e] at this;cases this
theorem Inv.bs(I:Inv X pins σ H s):∀b o,X.base.get? b=some o->s.heap.get? b=some o/\H b=none:=λb o e =>
 ⟨I.base.keep b o (I.ok.bs b o e).1 (I.ok.bs b o e).2 (I.ok.a77 e) (I.ok.akn b o e),I.base.free b o (I.ok.bs b o e).1 (I.ok.bs b o e).2 (I.ok.akn b o e)⟩
def Inv.bk(I:Inv X pins σ H s):∀b o,X.base.get? b=some o->s.heap.get? b=some o:=λb o e=>(I.bs b o e).1
theorem Inv.mod(I:Inv X pins σ H s):Mod X.K X.mg X.base:=I.ok.mod
def Inv.kIn(I:Inv X pins σ H s):X.K.In s.heap:=I.ok.mod.kin.keeps I.bk
theorem Inv.lt(I:Inv X pins σ H s):X.env.locals<s.heap.objs.size:=let ⟨_,hn,_⟩:=I.loc;hn.lt
def Inv.sz(I:Inv X pins σ H s):X.s₀.heap.objs.size<=s.heap.objs.size:=az I.ok.above (vq I.lt)
def Inv.a0o(I:Inv X pins σ H s)(h:s.heap.objs.size<=a):a∉X.fs:=λG=>by obtain⟨_,o,Z,_⟩:=I.ok.Ri.mem G;exact absurd (gw (bf Z) (az I.sz h)) (o8 _)
def Inv.cne(I:Inv X pins σ H s):∀x c,X.env.cells.lookup x=some c->c≠X.env.locals:=λx c e z=>by obtain⟨v,o,R,U⟩:=I.cell x c e;obtain⟨m,⟨o',es,ep,Z,G,_⟩,_⟩:=I.loc;rw[z,Z] at R;cases R;rw[G] at U;cases U
theorem Inv.Ri(I:Inv X pins σ H s):s.heap.FunFrames X.base X.outer:=by
 have all:∀(l:List Env),(∀b∈frs l,b∈X.fs)->X.s₀.heap.FunFrames X.base l->s.heap.FunFrames X.base l:=by
  intro l
  induction l with
  |nil=>intro _ _;trivial
  |cons qq r ih =>
   intro R hl;obtain⟨hk,⟨L,o,Z,hn,ho,hd⟩,hr⟩:=hl;have U:L∈X.fs:=R L (by unfold frs;rw[List.filterMap_cons,Z];exact bx);obtain⟨sl,e⟩:=I.base.slot L o ho (I.ok.frf L U) U λz=>I.ok.apf L z U
   exact⟨hk,⟨L,_,Z,hn,e,hd⟩,ih (λb G=>R b (by unfold frs;rw[List.filterMap_cons,Z];exact bh _ G)) hr⟩
 exact all X.outer (λ_ G=>G) I.ok.Ri
theorem Inv.stack(I:Inv X pins σ H s):s.heap.FunFrames X.base X.stack:=by
 rcases I.ok.stk with e|⟨e,hf⟩
 .rw[e];exact I.Ri
 .rw[e]
  obtain⟨m,Z,_⟩:=I.loc;refine .cons (by rw[I.ok.kind];decide) hf Z ?_ I.Ri;exact Heap.get?_none_of_le (az I.ok.bsz I.ok.above)
def Inv.Yl(I:Inv X pins σ H s):∀b∈frs X.stack,b∈X.env.locals::X.fs:=λb Z=>by
 rcases I.ok.stk with e|⟨e,hf⟩
 .rw[e] at Z;exact bh _ Z
 .rw[e] at Z
  unfold frs at Z;rw[List.filterMap_cons,hf] at Z;exact Z
def Inv.ae7(I:Inv X pins σ H s):∀b∈frs X.stack,H b=none:=λb Z=>by
 rcases dg.mp (I.Yl b Z) with e|Z
 .rw[e];exact I.free
 .obtain⟨_,o,G,_⟩:=I.ok.Ri.mem Z
  exact I.base.free b o G (I.ok.frf b Z) λz=>I.ok.apf b z Z
def Inv.step{ch:X1}(I:Inv X pins σ H s)(G:∀b∈ch,(b∈X.ex\/X.s₀.heap.objs.size<=b)/\b≠X.env.locals/\(∀x c,X.env.cells.lookup x=some c->c≠b)/\∀p∈X.pn++pins,p.1≠b)(qq:∀b o,b≠X.env.locals->b∉X.fs->b∉ch->s.heap.get? b=some o->H b=none->h'.get? b=some o)(qv:∀b o,b≠X.env.locals->b∈X.fs->b∉ch->s.heap.get? b=some o->H b=none->∃sl,h'.get? b=some { o with slots:=sl })(free:∀b o,b∉ch->s.heap.get? b=some o->H b=none->H' b=none)(q0:∀b o,b∉ch->s.heap.get? b=some o->∃o',h'.get? b=some o')(Uq:∀b xs,H b=some (.tup xs)->H' b=some (.tup xs))(Yj:∀b o u,H b=some (.Ih o u)->H' b=some (.Ih o u))(q3:∀b ps,H b=some (.tbl ps)->∃more,H' b=some (.tbl (ps++more)))(ns:∀m,s.heap.Ns X.env.locals m->h'.Ns X.env.locals m)(Am:Nj X.prog X.w H' h')(hg:AllBare g') :
 Inv X pins σ H' { s with heap:=h',gens:=g',drawn:=d',toks:=t' }:=by
 have q1:∀b o,X.s₀.heap.get? b=some o->b≠X.env.locals:=λb o e=>ie (gw (bf e) I.ok.above)
 have qk:∀b o,X.s₀.heap.get? b=some o->b∉X.ex->b∉ch:=λb o e Z hb=>by
  rcases(G b hb).1 with z|z
  .exact Z z
  .exact absurd (gw (bf e) z) (o8 _)
 have U:∀x c,X.env.cells.lookup x=some c->∀v,s.heap.IsCell c v->h'.IsCell c v:=λx c e v ⟨o,ho,hd⟩=>by
  have R:c∉ch:=λz=>(G c z).2.2.1 x c e rfl
  by_cases hc:c∈X.fs
  .obtain⟨sl,q⟩:=qv c o (I.cne x c e) hc R ho (I.K6 x c e)
   exact⟨_,q,hd⟩
  .exact⟨o,qq c o (I.cne x c e) hc R ho (I.K6 x c e),hd⟩
 refine⟨I.ok,I.os,hg,⟨λb o e n hb Z=>?_,λb o e n hb Z=>?_,λb o e n Z=>?_,λb o e Z=>?_,λb xs e=>Uq b xs (I.base.Uq b xs e),λb o xs e=>Yj b o xs (I.base.Yj b o xs e),λb ps e=>?_⟩,?_,λx c e=>?_,?_,λx c e=>?_,λp hp=>?_,Am,I.len⟩
 .exact qq b o (q1 b o e) hb (qk b o e Z) (I.base.keep b o e n hb Z) (I.base.free b o e n Z)
 .obtain⟨sl,e1⟩:=I.base.slot b o e n hb Z
  obtain⟨q2,e2⟩:=qv b _ (q1 b o e) hb (qk b o e Z) e1 (I.base.free b o e n Z);exact⟨q2,e2⟩
 .obtain⟨o',e1⟩:=I.base.there b o e Z
  exact free b o' (qk b o e Z) e1 (I.base.free b o e n Z)
 .obtain⟨o',e1⟩:=I.base.there b o e Z
  exact q0 b o' (qk b o e Z) e1
 .obtain⟨m1,e1⟩:=I.base.aaq b ps e
  obtain⟨m2,e2⟩:=q3 b _ e1;exact⟨m1++m2,by rw[e2,Array.append_assoc]⟩
 .obtain⟨m,hn,hl⟩:=I.loc
  refine⟨m,ns m hn,λi x v e1 e2 e3=>?_⟩;obtain⟨u,r,l⟩:=hl i x v e1 e2 e3;refine⟨u,r,?_⟩;rcases l with l|⟨k,c,e,z⟩
  .exact .inl l
  .exact .inr ⟨k,c,e,U x c e _ z⟩
 .obtain⟨v,z⟩:=I.cell x c e
  exact⟨v,U x c e v z⟩
 .obtain⟨m,⟨o,_,_,ho,_⟩,_⟩:=I.loc
  exact free _ o (λz=>(G _ z).2.1 rfl) ho I.free
 .obtain⟨v,o,ho,hd⟩:=I.cell x c e
  exact free c o (λz=>(G c z).2.2.1 x c e rfl) ho (I.K6 x c e)
 .obtain⟨e,n,ne,nf,d⟩:=I.pin p hp
  have R:p.1∉ch:=λz=>(G p.1 z).2.2.2 p hp rfl
  exact⟨qq p.1 p.2 ne nf R e n,free p.1 p.2 R e n,ne,nf,d⟩
def Inv.un(I:Inv X pins σ H s)(u:Un X.fs [] H H' s.heap h')(Am:Nj X.prog X.w H' h'):Inv X pins σ H' { s with heap:=h',toks:=t' }:=by
 obtain⟨m,⟨o,es,ep,ho,r⟩,_⟩:=id I.loc;obtain⟨sl,hL⟩:=u.any ho I.free (by simp);exact I.step (g':=s.gens) (d':=s.drawn) (ch:=[]) (λ_ z=>nomatch z) (λb o _ R _ e n=>u.keep b o e n R (by simp)) (λb o _ R _ e n=>u.slot b o e n R (by simp)) (λb o _ e n=>u.free b o e n (by simp)) (λb o _ e=>u.there b o e (by simp)) u.Uq u.Yj u.aaq (λm' hm=>by
  obtain⟨o',U,G,Z,r'⟩:=hm;rw[ho] at Z;cases Z;exact⟨_,U,G,hL,r'⟩) Am I.bare
def Inv.call(I:Inv X pins σ H s)(u:Un (frs X.stack) ch H H' s.heap h')(Am:Nj X.prog X.w H' h')(hg:AllBare g')(G:∀b∈ch,(b∈X.ex\/X.s₀.heap.objs.size<=b)/\b≠X.env.locals/\(∀x c,X.env.cells.lookup x=some c->c≠b)/\∀p∈X.pn++pins,p.1≠b) :
 Inv X pins σ H' { s with heap:=h',gens:=g',drawn:=d',toks:=t' }:=by
 obtain⟨m,⟨o,es,ep,ho,r⟩,_⟩:=id I.loc;obtain⟨sl,hL⟩:=u.any ho I.free λz=>(G _ z).2.1 rfl
 exact I.step (ch:=ch) G (λb o hL hb Z e n=>u.keep b o e n (λz=>(dg.mp (I.Yl b z)).elim hL hb) Z) (λb o _ _ Z e n=>u.any e n Z) (λb o Z e n=>u.free b o e n Z) (λb o Z e=>u.there b o e Z) u.Uq u.Yj u.aaq (λm' hm=>by
  obtain⟨o',qq,R,U,r'⟩:=hm;rw[ho] at U;cases U;exact⟨_,qq,R,hL,r'⟩) Am hg
def Inv.turned(I:Inv X pins σ H s)(k:∀b o,b≠it->s.heap.get? b=some o->h'.get? b=some o)(R:H it=none)(U:it≠X.env.locals)(h1:it∈X.ex\/X.s₀.heap.objs.size<=it)(h2:∀x c,X.env.cells.lookup x=some c->c≠it)(h3:∀p∈X.pn++pins,p.1≠it):Inv X pins σ H { s with heap:=h',toks:=t' }:=by
 have G:∀b u,H b=some u->b≠it:=λb u e z=>by rw[z,R] at e;cases e
 refine I.step (g':=s.gens) (d':=s.drawn) (ch:=[it]) (λb hb=>?_) (λb o _ _ Z e _=>k b o (λz=>Z (by simp[z])) e) (λb o _ _ Z e _=>⟨o.slots,k b o (λz=>Z (by simp[z])) e⟩) (λ_ _ _ _ n=>n)
  (λb o Z e=>⟨o,k b o (λz=>Z (by simp[z])) e⟩) (λ_ _ e=>e) (λ_ _ _ e=>e) (λb ps e=>⟨#[],by rw[e];simp⟩) (λm hm=>?_) (λb u e=>?_) I.bare
 .have e:b=it:=by simpa using hb
  subst e;exact⟨h1,U,h2,h3⟩
 .obtain⟨o,es,ep,ho,r⟩:=hm
  exact⟨o,es,ep,k _ o (kh U) ho,r⟩
 .refine(I.Am b u e).stay (λc v Z q=>k c v ?_ q) (λ_ q=>q) λ_ _ q=>q
  rcases Z with z|z
  .rw[z];exact G b u e
  .exact G c _ z
def Inv.tok(I:Inv X pins σ H s)(t:Nat):Inv X pins σ H { s with toks:=t }:=I.un (h':=s.heap) (t':=t) Un.refl I.Am
theorem Inv.kept(I:Inv X pins σ H s)(k:∀b u,s.heap.get? b=some u->Z.get? b=some u):Inv X pins σ H { s with heap:=Z,toks:=t' }:=I.un (Un.kept k) (I.Am.kept k)
theorem Inv.laid(I:Inv X pins σ H s)(k:∀b u,s.heap.get? b=some u->h'.get? b=some u)(Z:s.heap.objs.size<=a)(new:Ay X.prog X.w (upd H a o) h' a o) :
 Inv X pins σ (upd H a o) { s with heap:=h',toks:=t' }:=I.un (Un.laid k Z (I.Am.fresh Z)) (I.Am.laid k Z new)
theorem Inv.write(I:Inv X pins σ H s)(U:Mut (H x))(R:e=x\/H e=some (.own x))(k:∀b u,b≠e->s.heap.get? b=some u->G.get? b=some u)(Z:∃u,G.get? e=some u)(new:Ay X.prog X.w (upd H x o) G x o):Inv X pins σ (upd H x o) { s with heap:=G,toks:=t' }:=I.un (Un.write U R k Z) (I.Am.write U R k Z new)
def Inv.weak(I:Inv X pins σ H s)(R:σ'.length=σ.length)(w:∀(i:Nat) v,σ'[i]?=some (some v)->σ[i]?=some (some v)):Inv X pins σ' H s :=
 ⟨I.ok,I.os,I.bare,I.base,let ⟨m,hn,hl'⟩:=I.loc;⟨m,hn,λi x v G U Z=>hl' i x v G (w i v U) Z⟩,I.cell,I.free,I.K6,I.pin,I.Am,R.trans I.len⟩
def Inv.Ym(I:Inv X pins σ H s)(h:∀p∈ae8,s.heap.get? p.1=some p.2/\H p.1=none/\p.1≠X.env.locals/\p.1∉X.fs/\∀v,p.2.data≠.cell v):Inv X ae8 σ H s :=
 ⟨I.ok,I.os,I.bare,I.base,I.loc,I.cell,I.free,I.K6,λp Z=>(cz.mp Z).elim (λz=>I.pin p (jf _ z)) (h p),I.Am,I.len⟩
def K1{N:Yf}(G:N.Nodup){i:Nat}(a:N[i]?=some x)(b:N[j]?=some x):i=j:=by obtain⟨R,Z⟩:=ak.mp a;obtain⟨h2,U⟩:=ak.mp b;exact(zj G).mp (Z.trans U.symm)
def ag5(I:Inv X pins σ H s)(hN:X.N.Nodup)(hi:X.N[i]?=some x)(hx:Loc X.env.scope x)(r:RelV v u)(h:∀s',Inv X pins (σ.set i (some v)) H s'->(∃a,Heap.SameBut a s.heap s'.heap/\(a=X.env.locals\/X.env.cells.lookup x=some a))->Q () s')(hf:X.fn x=true\/X.env.scope.names.lookup x=some .local:=by first|exact .inl rfl|exact .inr rfl|assumption):wpAny M A (storeName X.env x u) Q E s:=by
 obtain⟨m,hn,hl⟩:=id I.loc;have q2:(X.env.scope.kind==.class||(X.env.scope.kind==.module&&X.env.locals != X.env.globals))=false:=by rw[I.ok.kind];rfl
 have qq:i < σ.length:=by rw[I.len];exact(ak.mp hi).1
 have cne:=I.cne;have G:∀{a:Addr}{h':Heap},(∃o,s.heap.get? a=some o/\H a=none)->Heap.SameBut a s.heap h'->Nj X.prog X.w H h':=fun{a h'} ha Z b ob e=>by
  obtain⟨_,_,Q3⟩:=ha;refine(I.Am b ob e).stay (λc w' R q=>(Z.2 c ?_).trans q) (λ_ q=>q) λ_ _ q=>q
  rintro rfl;rcases R with rfl|R
  .rw[Q3] at e;cases e
  .rw[Q3] at R;cases R
 rcases hx with hk|hk
 .refine wpAny_storeName_local hk hn (λh' Vn Z=>?_) q2
  obtain⟨oL,_,_,q3,_⟩:=id hn;refine h _ ⟨I.ok,I.os,I.bare,⟨λb o e n hb hx=>?_,λb o e n hb hx=>?_,I.base.free,λb o e hx=>?_,I.base.Uq,I.base.Yj,I.base.aaq⟩,⟨_,Vn,λj y v' U e2 e3=>?_⟩,λy c e=>?_,I.free,I.K6,λp hp=>?_,G ⟨oL,q3,I.free⟩ Z,by simpa using I.len⟩ ⟨_,Z,.inl rfl⟩
  .exact(Z.2 b (ie (gw (bf e) I.ok.above))).trans (I.base.keep b o e n hb hx)
  .obtain⟨sl,U⟩:=I.base.slot b o e n hb hx
   exact⟨sl,(Z.2 b (ie (gw (bf e) I.ok.above))).trans U⟩
  .obtain⟨o',U⟩:=I.base.there b o e hx
   exact⟨o',(Z.2 b (ie (gw (bf e) I.ok.above))).trans U⟩
  .by_cases hj:j=i
   .subst hj
    rw[hi] at U;cases U;rw[ym qq] at e2;cases e2;exact⟨u,r,.inl ⟨hk,by simp⟩⟩
   .rw[uh (kh hj)] at e2
    obtain⟨u',r',q⟩:=hl j y v' U e2 e3;refine⟨u',r',?_⟩;rcases q with⟨k,e⟩|⟨k,c,e,z⟩
    .refine .inl ⟨k,?_⟩
     have:y≠x:=λe=>hj (K1 hN U (e▸hi))
     simp[this,e]
    .exact .inr ⟨k,c,e,z.sameBut Z (cne y c e)⟩
  .obtain⟨w',z⟩:=I.cell y c e
   exact⟨w',z.sameBut Z (cne y c e)⟩
  .obtain⟨e,n,ne,nf,d⟩:=I.pin p hp
   exact⟨(Z.2 p.1 ne).trans e,n,ne,nf,d⟩
 .have qk:X.fn x=true:=by
   rcases hf with z|z
   .exact z
   .rw[z] at hk;cases hk
  obtain⟨c,R⟩:=I.ok.has x (.inl hk);obtain⟨w',z⟩:=I.cell x c R;refine wpAny_storeName_cell I.ok.kind hk R z (λh' q1 Z=>?_);obtain⟨oc,q0,q4⟩:=id z;refine h { s with heap:=h' } ⟨I.ok,I.os,I.bare,⟨λb o e n hb hx=>?_,λb o e n hb hx=>?_,I.base.free,λb o e hx=>?_,I.base.Uq,I.base.Yj,I.base.aaq⟩,⟨m,hn.sameBut Z (kh (cne x c R)),λj y v' U e2 e3=>?_⟩,λy c' e=>?_,I.free,I.K6,λp hp=>?_,G ⟨oc,q0,I.K6 x c R⟩ Z,by simpa using I.len⟩ ⟨c,Z,.inr R⟩
  .exact(Z.2 b (ie (gw (bf e) (I.ok.cab x c qk R)))).trans (I.base.keep b o e n hb hx)
  .obtain⟨sl,U⟩:=I.base.slot b o e n hb hx
   exact⟨sl,(Z.2 b (ie (gw (bf e) (I.ok.cab x c qk R)))).trans U⟩
  .obtain⟨o',U⟩:=I.base.there b o e hx
   exact⟨o',(Z.2 b (ie (gw (bf e) (I.ok.cab x c qk R)))).trans U⟩
  .by_cases hj:j=i
   .subst hj
    rw[hi] at U;cases U;rw[ym qq] at e2;cases e2;exact⟨u,r,.inr ⟨.inl hk,c,R,q1⟩⟩
   .rw[uh (kh hj)] at e2
    obtain⟨u',r',q⟩:=hl j y v' U e2 e3;refine⟨u',r',?_⟩;rcases q with q|⟨k,c',e,z'⟩
    .exact .inl q
    .refine .inr ⟨k,c',e,z'.sameBut Z ?_⟩
     rintro rfl;exact hj (K1 hN U (I.ok.inj _ _ _ e R▸hi))
  .by_cases qv:c'=c
   .subst qv;exact⟨_,q1⟩
   .obtain⟨w2,z2⟩:=I.cell y c' e
    exact⟨w2,z2.sameBut Z qv⟩
  .obtain⟨e,n,ne,nf,d⟩:=I.pin p hp
   refine⟨(Z.2 p.1 ?_).trans e,n,ne,nf,d⟩;intro q;rw[q,q0] at e;have q':oc=p.2:=gq e;exact d w' (by rw[<- q'];exact q4)
def akp(I:Inv X pins σ H s)(G:X.N.Nodup)(U:X.N[i]?=some x)(hx:Loc X.env.scope x)(r:RelV v u)(h:∀Z,Inv X pins (σ.set i (some v)) H Z->Q () Z)(R:X.fn x=true\/X.env.scope.names.lookup x=some .local:=by first|exact .inl rfl|exact .inr rfl|assumption):wpAny M A (storeName X.env x u) Q E s :=
 ag5 I G U hx r (λZ I' _=>h Z I') R
def Inv.call'(I:Inv X pins σ H s)(ho:s'.os=s.os)(u:Un (frs X.stack) ch H H' s.heap s'.heap)(Am:Nj X.prog X.w H' s'.heap)(hg:AllBare s'.gens)(Z:∀b∈ch,(b∈X.ex\/X.s₀.heap.objs.size<=b)/\b≠X.env.locals/\(∀x c,X.env.cells.lookup x=some c->c≠b)/\∀p∈X.pn++pins,p.1≠b):Inv X pins σ H' s':=by obtain⟨h',U,G,R,o'⟩:=s';have e:o'=s.os:=ho;subst e;exact I.call (g':=U) (t':=R) (d':=G) u Am hg Z
abbrev XK:=Value->Option Addr->Hp->Prop
abbrev St:=List (Option V)
abbrev VK:=V->Hp->Prop
abbrev TE:=St->Hp->VK->Prop
abbrev TT:=St->Hp->(Bool->Hp->Prop)->Prop
abbrev TA:=St->Hp->(List V->Hp->Prop)->Prop
structure Ends where
 nx:St->Hp->Prop
 rt:VK
 bk:St->Hp->Prop:=λ_ _=>False
 ct:St->Hp->Prop:=λ_ _=>False
abbrev TS:=Ends->St->Hp->Prop
def EP(X:Cx)(Z:Zp)(R:St)(Q:VK)(u:Value)(U:Shared):Prop:=∃v G,Inv X Z R G U/\RelV v u/\Q v G
def TP(X:Cx)(Z:Zp)(R:St)(Q:Bool->Hp->Prop)(b:Bool)(U:Shared):Prop:=∃G,Inv X Z R G U/\Q b G
def AP(X:Cx)(Z:Zp)(σ:St)(Q:List V->Hp->Prop)(us:Zl)(R:Shared):Prop:=∃G U,Inv X Z σ U R/\Vals G us/\Q G U
def SP(X:Cx)(G:Zp)(D:Ends)(f:Flow)(R:Shared):Prop :=
 match f with
 |.next=>∃Z U,Inv X G Z U R/\D.nx Z U|.brk=>∃Z U,Inv X G Z U R/\D.bk Z U|.cont=>∃Z U,Inv X G Z U R/\D.ct Z U|.ret u=>∃v Z U,Inv X G Z U R/\RelV v u/\D.rt v U
def PE(X:Cx)(e:Expr)(t:TE):Prop :=
 ∀(Z:Zp)(s:Shared)(G:St)(H:Hp)(Q:VK),Inv X Z G H s->t G H Q->wpAny (model X.prog X.w) X.A (eval e X.env) (EP X Z G Q) X.xe s
def PT(X:Cx)(e:Expr)(t:TT):Prop :=
 ∀(Z:Zp)(s:Shared)(G:St)(H:Hp)(Q:Bool->Hp->Prop),Inv X Z G H s->t G H Q->wpAny (model X.prog X.w) X.A (isTrue e X.env (eval e X.env)) (TP X Z G Q) X.xe s
def PW(X:Cx)(e:Expr)(t:TT):Prop :=
 ∀(G:Sem Value)(Z:Zp)(s:Shared)(U:St)(H:Hp)(Q:Bool->Hp->Prop),Inv X Z U H s->t U H Q->wpAny (model X.prog X.w) X.A (isTrue e X.env G) (TP X Z U Q) X.xe s
def PW.pt(h:PW X e t):PT X e t:=h _
def PA(X:Cx)(R:Ya)(t:TA):Prop :=
 ∀(U:Pos)(Z:Zp)(s:Shared)(G:St)(H:Hp)(Q:List V->Hp->Prop),Inv X Z G H s->t G H Q->wpAny (model X.prog X.w) X.A (spliced (backTo U (starEach R X.env))) (AP X Z G Q) X.xe s
def PS(X:Cx)(U:Stmt)(t:TS):Prop :=
 ∀(Z:Zp)(s:Shared)(G:St)(H:Hp)(D:Ends),Inv X Z G H s->t D G H->wpAny (model X.prog X.w) X.A (exec U X.env) (SP X Z D) X.xe s
def Ox(X:Cx)(U:List Stmt)(t:TS):Prop :=
 ∀(Z:Zp)(s:Shared)(G:St)(H:Hp)(D:Ends),Inv X Z G H s->t D G H->wpAny (model X.prog X.w) X.A (execs U X.env) (SP X Z D) X.xe s
def Bf(h:wpAny M A t Q E s)(Z:∀a s,Q a s->G a s):wpAny M A t G E s:=m8 h Z λ_ _ x=>x
end L2
namespace L2
open PySem PySem.Spec PyProof.Rows
def a8c(i:Nat):TE:=λZ H Q=>∃v,Z[i]?=some (some v)/\Q v H
def tC(v:V):TE:=λ_ H Q=>Q v H
def avt(hN:X.N[i]?=some x)(hv:Vis X.env.scope x)(hd:(x==("__debug__" : Str))=false:=by decide)(R:(x==("__classdict__" : Str))=false:=by decide):PE X (.Name x pos) (a8c i):=by
 intro U s σ H Q I h;obtain⟨v,e,h⟩:=h;obtain⟨m,hn,hl⟩:=I.loc;obtain⟨u,r,l⟩:=hl i x v hN e hv;have fin:EP X U σ Q u s:=⟨v,H,I,r,h⟩;rcases l with⟨Z,hm⟩|⟨Z,c,hc,G⟩
 .exact wpAny_Name (wpAny_loadName_local I.ok.kind Z hn hm fin) hd
 .rcases Z with Z|Z
  .exact wpAny_Name (wpAny_loadName_cell I.ok.kind Z hc G fin) hd
  .exact wpAny_Name (wpAny_loadName_free I.ok.kind Z hc G fin R) hd
def avu:PE X (.Constant (.int i) j pos) (tC (.int i)):=λ_ _ _ H _ I h=>wpAny_Constant_int ⟨.int i,H,I.tok _,⟨_,rfl⟩,h⟩
def a0q:PE X (.Constant (.bool b) j pos) (tC (.bl b)):=λ_ _ _ H _ I h=>Constant_bool ⟨.bl b,H,I,rfl,h⟩
def avv:PE X (.Constant .none j pos) (tC .non):=λ_ _ _ H _ I h=>Constant_none ⟨.non,H,I,rfl,h⟩
def avw:PE X (.Constant (.str x) j pos) (tC (.str x)):=λ_ _ _ H _ I h=>Calls.Constant_str ⟨.str x,H,I.tok _,⟨_,rfl⟩,h⟩
def Gl(X:Cx)(x:Str):Prop:=X.env.kindOf x=some .globalImplicit
def Yn(I:Inv X pins σ H s)(U:Gl X x)(G:X.mg x=some u)(h:Q u s)(Z:(x==("__debug__" : Str))=false:=by decide):wpAny (model X.prog X.w) X.A (eval (.Name x pos) X.env) Q E s :=
 Calls.Name_function_global I.ok.kind U (Calls.loadGlobal_global (by rw[I.ok.glob];exact I.mod.glob.keeps I.bk) G h) Z
def Jq(I:Inv X pins σ H s)(U:Gl X x)(hm:X.mg x=none)(G:bootBuiltins x=some u)(h:Q u s)(hn:x≠"__name__" := by decide)(Z:(x==("__debug__" : Str))=false:=by decide):wpAny (model X.prog X.w) X.A (eval (.Name x pos) X.env) Q E s:=by obtain⟨mb,R,h2⟩:=I.mod.blt;exact Calls.Name_function_global I.ok.kind U (Calls.loadGlobal_builtin (by rw[I.ok.glob];exact I.mod.glob.keeps I.bk) hm (by rw[I.ok.blt];exact R.keeps I.bk) ((h2 x hn).trans G) h) Z
def apg(U:Gl X x)(G:X.mg x=some u)(r:RelV v u)(Z:(x==("__debug__" : Str))=false:=by decide):PE X (.Name x pos) (tC v) :=
 λ_ _ _ H _ I h=>Yn I U G ⟨v,H,I,r,h⟩ Z
def tB(t:TE):TT:=λZ H Q=>t Z H λx G=>∃c,x=.bl c/\Q c G
def avx(h:PE X e t)(U:∀Z,isTrue e X.env Z=(do let v <- Z;standAt e.pos;holding [v] (truthy v)):=by intro _;rfl):PT X e (tB t):=by intro G s R H Q I hw;refine isTrue_plain (Bf (h G s R H _ I hw) λv s1 ⟨x,H1,I1,r1,q1⟩=>?_) (U _);obtain⟨d,rfl,q⟩:=q1;cases r1;exact jy ⟨H1,I1,q⟩
def a8d(t u:TT):TT:=λZ H Q=>t Z H λc G=>if c=true then u Z G Q else Q false G
def tOr(t u:TT):TT:=λZ H Q=>t Z H λc G=>if c=true then Q true G else u Z G Q
def a8e(t:TT):TT:=λZ H Q=>t Z H λc G=>Q (!c) G
def aph(G:PT X a tA):PW X (.BoolOp .And [a] pos) tA:=by
 intro wh Z s U H Q I h;refine isTrue_and (Bf (G Z s U H Q I h) λc R e=>?_);cases c with
 |true=>exact isTrue_and_nil e|false=>exact e
def avy(G:PT X a tA):PW X (.BoolOp .Or [a] pos) tA:=by
 intro wh Z s U H Q I h;refine isTrue_or (Bf (G Z s U H Q I h) λc R e=>?_);cases c with
 |false=>exact isTrue_or_nil e|true=>exact e
def avz{G:Ya}(ha:PT X a tA)(hb:PW X (.BoolOp .And (b::G) pos) tB'):PW X (.BoolOp .And (a::b::G) pos) (a8d tA tB'):=by
 intro wh Z s σ H Q I h;refine isTrue_and (Bf (ha Z s σ H _ I h) λc s1 z_=>?_);obtain⟨U,I1,R⟩:=z_;cases c with
 |true=>exact hb wh Z s1 σ U Q I1 R|false=>exact⟨U,I1,R⟩
def a0r{G:Ya}(ha:PT X a tA)(hb:PW X (.BoolOp .Or (b::G) pos) tB'):PW X (.BoolOp .Or (a::b::G) pos) (tOr tA tB'):=by
 intro wh Z s σ H Q I h;refine isTrue_or (Bf (ha Z s σ H _ I h) λc s1 z_=>?_);obtain⟨U,I1,R⟩:=z_;cases c with
 |true=>exact⟨U,I1,R⟩|false=>exact hb wh Z s1 σ U Q I1 R
def akr(G:PT X a tA):PT X (.UnaryOp .Not a pos) (a8e tA):=by intro Z s U H Q I h;exact isTrue_not (G Z s U H (λc R=>Q (!c) R) I h)
def a0s(R U:TE):TE:=λZ H Q=>R Z H λx G=>∃c,x=.bl c/\if c=true then U Z G Q else Q (.bl false) G
def a8g(R U:TE):TE:=λZ H Q=>R Z H λx G=>∃c,x=.bl c/\if c=true then Q (.bl true) G else U Z G Q
def a0t(G:TE):TE:=λZ H Q=>G Z H λx U=>∃c,x=.bl c/\Q (.bl (!c)) U
def av0{G:Ya}(ha:PE X a ta)(hb:PE X (.BoolOp .And (b::G) pos) tb):PE X (.BoolOp .And (a::b::G) pos) (a0s ta tb):=by
 intro Z s σ H Q I h;refine BoolOp_and (Bf (ha Z s σ H _ I h) λv s1 z_=>?_);obtain⟨x,R,I1,r1,U⟩:=z_;obtain⟨c,rfl,U⟩:=U;cases r1;refine jy ?_;cases c with
 |true=>exact hb Z s1 σ R Q I1 U|false=>exact⟨.bl false,R,I1,rfl,U⟩
def a0u{G:Ya}(ha:PE X a ta)(hb:PE X (.BoolOp .Or (b::G) pos) tb):PE X (.BoolOp .Or (a::b::G) pos) (a8g ta tb):=by
 intro Z s σ H Q I h;refine BoolOp_or (Bf (ha Z s σ H _ I h) λv s1 z_=>?_);obtain⟨x,R,I1,r1,U⟩:=z_;obtain⟨c,rfl,U⟩:=U;cases r1;refine jy ?_;cases c with
 |false=>exact hb Z s1 σ R Q I1 U|true=>exact⟨.bl true,R,I1,rfl,U⟩
def av1(ha:PE X a ta):PE X (.UnaryOp .Not a pos) (a0t ta):=by intro Z s σ H Q I h;refine UnaryOp_ (Bf (ha Z s σ H _ I h) λv s1 z_=>?_);obtain⟨x,U,I1,R,G⟩:=z_;obtain⟨c,rfl,G⟩:=G;cases R;exact not_of (jy ⟨.bl (!c),U,I1,rfl,G⟩)
def tIf(t:TT)(R U:TE):TE:=λZ H Q=>t Z H λc G=>if c=true then R Z G Q else U Z G Q
def aks(hc:PT X c tA)(ha:PE X a ta)(hb:PE X b tb):PE X (.IfExp c a b pos) (tIf tA ta tb):=by
 intro Z s G H Q I h;refine wpAny_IfExp (Bf (hc Z s G H _ I h) λd R z_=>?_);obtain⟨U,I1,q1⟩:=z_;cases d with
 |true=>exact ha Z R G U Q I1 q1|false=>exact hb Z R G U Q I1 q1
end L2
namespace L2
open PySem PySem.Spec PyProof.Rows
def Ew(K:Fg)(H:Hp)(a:Addr)(G:List V):Prop :=
 Rd H a (.lst G) \/
  ∃(o:Obj)(Z:U1)(n:Nat),K.lookup a=some o/\o.cls=.type "list"/\o.dict=none/\o.data=.seq Z n/\Z.size<=sizeLine/\Vals G Z.toList
def Ey(K:Fg)(H:Hp)(a:Addr)(G:List V):Prop :=
 Rd H a (.tup G) \/
  ∃(o:Obj)(Z:U1)(n:Nat),K.lookup a=some o/\o.cls=.type "tuple"/\o.data=.seq Z n/\Z.size<=sizeLine/\Vals G Z.toList
noncomputable def a8h:Value->Option V
 |.none=>some .non|.bool b=>some (.bl b)|.int i _=>some (.int i)|.str x _=>some (.str x)|.bytes b _=>some (.byt b)|.float b _=>some (.flt b)|.ref a=>some (.ref a)|.type n=>some (.ty n)|_=>none
def RelV.abs(r:RelV x u):a8h u=some x:=by
 cases x with
 |non=>cases r;rfl|bl _=>cases r;rfl|int _=>obtain⟨t,rfl⟩:=r;rfl
 |str _=>obtain⟨t,rfl⟩:=r;rfl
 |byt _=>obtain⟨t,rfl⟩:=r;rfl
 |flt _=>obtain⟨t,rfl⟩:=r;rfl
 |ref _=>cases r;rfl|ty _=>cases r;rfl
def RelV.inj(r:RelV x u)(q:RelV y u):x=y:=gq (r.abs.symm.trans q.abs)
theorem Vals.inj:∀{U Z:List V}{G:Zl},Vals U G->Vals Z G->U=Z
 |_,_,_,.nil,.nil=>rfl|_,_,_,.cons r t,.cons r' t'=>by rw[r.inj r',Vals.inj t t']
def Ew.of{K:Fg}(h:H a=some (.lst xs)):Ew K H a xs:=.inl (.inl h)
def Ey.of{K:Fg}(h:H a=some (.tup xs)):Ey K H a xs:=.inl (.inl h)
def Inv.list(I:Inv X pins σ H s)(h:Ew X.K H a G):∃Z:List Value,Vals G Z/\PlainL s.heap a Z.toArray/\G.length<=sizeLine:=by
 rcases h with h|⟨o,Z,n,hk,hc,hd,hs,hz,r⟩
 .obtain⟨z,Z,n,r,e⟩:=h.ok I.Am
  exact⟨Z,r,⟨_,n,e,rfl,rfl,rfl⟩,z⟩
 .refine⟨Z.toList,r,⟨o,n,I.kIn a o hk,hc,hd,by simpa using hs⟩,?_⟩
  have e:=r.length;simp only[su] at e;exact a_ (f_ e) hz
def Inv.tuple(I:Inv X pins σ H s)(h:Ey X.K H a G):∃Z:List Value,Vals G Z/\IsTup s.heap a Z.toArray/\G.length<=sizeLine:=by
 rcases h with h|⟨o,Z,n,hk,hc,hs,hz,r⟩
 .obtain⟨z,Z,r,p⟩:=h.ok I.Am
  exact⟨Z,r,p.is,z⟩
 .refine⟨Z.toList,r,⟨o,I.kIn a o hk,hc,n,by simpa using hs⟩,?_⟩
  have e:=r.length;simp only[su] at e;exact a_ (f_ e) hz
def Inv.aar(I:Inv X pins σ H s)(h:Ew X.K H a U)(R:Ew X.K H a ys):U=ys:=by
 obtain⟨uv,r,⟨o,n,e,_,_,d⟩,_⟩:=I.list h;obtain⟨its',r',⟨o',n',G,_,_,Z⟩,_⟩:=I.list R;rw[e] at G;cases G;rw[d] at Z;injection Z with d1 _
 have:uv=its':=by simpa using mz Array.toList d1
 subst this;exact r.inj r'
def Inv.Ws(I:Inv X pins σ H s)(h:Ey X.K H a U)(R:Ey X.K H a ys):U=ys:=by
 obtain⟨uv,r,⟨o,e,_,n,d⟩,_⟩:=I.tuple h;obtain⟨its',r',⟨o',G,_,n',Z⟩,_⟩:=I.tuple R;rw[e] at G;cases G;rw[d] at Z;injection Z with d1 _
 have:uv=its':=by simpa using mz Array.toList d1
 subst this;exact r.inj r'
noncomputable abbrev Cx.Vt(X:Cx)(E:Y1):Cx:={ X with xe:=E }
abbrev Cx.nox(X:Cx):Cx:=X.Vt λ_ _=>False
theorem Cx.Ok.Vt{X:Cx}(ok:X.Ok)(E:Y1):(X.Vt E).Ok :=
 ⟨ok.mod,ok.kind,ok.glob,ok.blt,ok.above,ok.inj,ok.has,ok.cab,ok.hd,ok.frames,ok.stk,ok.exf,ok.bs,ok.bsz,ok.akn,ok.apf,ok.Ri,ok.frf⟩
def Cx.Ok.K7{X:Cx}(ok:(X.Vt E).Ok):X.Ok :=
 ⟨ok.mod,ok.kind,ok.glob,ok.blt,ok.above,ok.inj,ok.has,ok.cab,ok.hd,ok.frames,ok.stk,ok.exf,ok.bs,ok.bsz,ok.akn,ok.apf,ok.Ri,ok.frf⟩
theorem Inv.Vt(I:Inv X pins σ H s)(E:Y1):Inv (X.Vt E) pins σ H s:=⟨I.ok.Vt E,I.os,I.bare,I.base,I.loc,I.cell,I.free,I.K6,I.pin,I.Am,I.len⟩
theorem Inv.K7(I:Inv (X.Vt E) pins σ H s):Inv X pins σ H s:=⟨I.ok.K7,I.os,I.bare,I.base,I.loc,I.cell,I.free,I.K6,I.pin,I.Am,I.len⟩
theorem SP.K7(h:SP (X.Vt E) pins D f s'):SP X pins D f s':=by
 cases f with
 |next=>obtain⟨Z,G,I,q⟩:=h;exact⟨Z,G,I.K7,q⟩
 |brk=>obtain⟨Z,G,I,q⟩:=h;exact⟨Z,G,I.K7,q⟩
 |cont=>obtain⟨Z,G,I,q⟩:=h;exact⟨Z,G,I.K7,q⟩
 |ret u=>obtain⟨v,Z,G,I,r,q⟩:=h;exact⟨v,Z,G,I.K7,r,q⟩
theorem Ox.nox{G:List Stmt}(h:Ox X.nox G t):Ox X G t:=λZ s U H D I hw =>
 m8 (h Z s U H D (I.Vt _) hw) (λ_ _ q=>q.K7) λ_ _ z=>False.elim z
def a0w:TS:=λD Z H=>D.nx Z H
def a8i(t u:TS):TS:=λD Z H=>t { D with nx:=u D } Z H
def api:Ox X [] a0w:=λ_ _ Z H _ I h=>wpAny_execs_nil ⟨Z,H,I,h⟩
def akt{R:Stmt}{G:List Stmt}(h1:PS X R t)(h2:Ox X G u):Ox X (R::G) (a8i t u):=by
 intro Z s σ H D I h;refine wpAny_execs_cons (Bf (h1 Z s σ H { D with nx:=u D } I h) λf s1 q=>?_);cases f with
 |next =>
  obtain⟨U,H',I',q⟩:=q;exact h2 Z s1 U H' D I' q
 |ret v=>exact q|brk=>exact q|cont=>exact q
def Inv.quiet(I:Inv X pins σ H s):interactive X.env=false:=by simp[interactive,I.ok.kind]
def a0x(G:TE):TS:=λD Z H=>G Z H λ_ U=>D.nx Z U
def apj(R:PE X e U)(hs:swapsWith e none pos.line X.env=pure false:=by rfl):PS X (.Expr e pos) (a0x U):=by intro Z s G H D I h;exact wpAny_Expr_any (Bf (R Z s G H _ I h) λv s1 ⟨x,H1,I1,r1,q1⟩=>⟨G,H1,I1,q1⟩) I.quiet hs
def a8j(G:TE):TS:=λD Z H=>G Z H D.rt
def av2(R:PE X e U):PS X (.Return (some e) pos) (a8j U):=by intro Z s G H D I h;exact wpAny_Return_some (Bf (R Z s G H _ I h) λv s1 ⟨x,H1,I1,r1,q1⟩=>⟨x,G,H1,I1,r1,q1⟩)
def a8k(c:TT)(t u:TS):TS:=λD Z H=>c Z H λb G=>if b=true then t D Z G else u D Z G
def a0y(hc:PT X c tc)(ha:Ox X a t)(hb:Ox X b u):PS X (.If c a b pos) (a8k tc t u):=by
 intro Z s G H D I h;refine wpAny_If (Bf (hc Z s G H _ I h) λd R z_=>?_);obtain⟨U,I1,q1⟩:=z_;cases d with
 |true=>exact ha Z R G U D I1 q1|false=>exact hb Z R G U D I1 q1
abbrev TG:=V->St->Hp->(St->Hp->Prop)->Prop
abbrev TGs:=List V->St->Hp->(St->Hp->Prop)->Prop
def PG(X:Cx)(Z:Expr)(t:TG):Prop :=
 ∀(G:Zp)(s:Shared)(σ:St)(H:Hp)(v:V)(u:Value)(Q:St->Hp->Prop),Inv X G σ H s->RelV v u->t v σ H Q ->
  wpAny (model X.prog X.w) X.A (assign Z X.env u) (λ_ s'=>∃U R,Inv X G U R s'/\Q U R) X.xe s
def PGs(X:Cx)(ts:Ya)(t:TGs):Prop :=
 ∀(Z:Zp)(s:Shared)(σ:St)(H:Hp)(R:List V)(U:Zl)(Q:St->Hp->Prop),Inv X Z σ H s->Vals R U->t R σ H Q ->
  wpAny (model X.prog X.w) X.A (assignInOrder ((assignEach ts X.env).map (·.2)) U) (λ_ s'=>∃G H',Inv X Z G H' s'/\Q G H') X.xe s
abbrev av3:=V->V->V->Hp->(Hp->Prop)->Prop
def av4(X:Cx)(t:av3):Prop :=
 ∀(Z:Zp)(s:Shared)(σ:St)(H:Hp)(o i v:V)(G U u:Value)(Q:Hp->Prop),Inv X Z σ H s->RelV o G->RelV i U->RelV v u->t o i v H Q ->
  wpAny (model X.prog X.w) X.A (setItem G U u) (λ_ s'=>∃R,Inv X Z σ R s'/\Q R) X.xe s
def ae9(i:Nat):TG:=λv Z H Q=>Q (Z.set i (some v)) H
def Yo(G:X.N.Nodup)(U:X.N[i]?=some x)(hx:Loc X.env.scope x)(R:X.fn x=true\/X.env.scope.names.lookup x=some .local:=by first|exact .inl rfl|exact .inr rfl|assumption):PG X (.Name x pos) (ae9 i):=by intro Z s σ H v u Q I r h;exact wpAny_assign_Name (akp I G U hx r (λs' I'=>⟨_,H,I',h⟩) R)
def a8l:TGs:=λZ G H Q=>Z=[]/\Q G H
def a01(t:TG)(u:TGs):TGs:=λG U H Q=>∃v r,G=v::r/\t v U H λZ R=>u r Z R Q
def apk:PGs X [] a8l:=by intro Z s G H U R Q I r h;obtain⟨e,h⟩:=h;subst e;cases r;exact assignInOrder_nil ⟨G,H,I,h⟩
def aku(h1:PG X e t)(h2:PGs X es u)(hs:(assignEach (e::es) X.env).map (·.2)=assign e X.env::(assignEach es X.env).map (·.2):=by rfl):PGs X (e::es) (a01 t u):=by
 intro Z s σ H vs us Q I r h;obtain⟨v,vr,U,h⟩:=h;subst U;cases r with
 |cons r rr =>
  rw[hs];refine assignInOrder_cons (Bf (h1 Z s σ H _ _ _ I r h) λ_ s1 z_=>?_);obtain⟨G,R,I1,q1⟩:=z_;exact h2 Z s1 G R _ _ Q I1 rr q1
def a8m(K:Fg)(n:Nat)(t:TGs):TG:=λv G H Q=>∃a Z,v=.ref a/\Ey K H a Z/\Z.length=n/\t Z G H Q
def av5(hc:X.calm=true)(h:PGs X es t)(hn:(assignEach es X.env).length=n:=by rfl)(Vp:(assignEach es X.env).findIdx? (·.1)=none:=by rfl):PG X (.Tuple es k pos) (a8m X.K n t):=by
 intro Z s G H v u Q I r hw;obtain⟨a,xs,R,hq,hl,hw⟩:=hw;subst R;cases r;obtain⟨uv,U,ht,hz⟩:=I.tuple hq;refine assign_Tuple_tuple (I.ok.hd hc) ht (by simp[hn,<- hl,U.length]) Vp λh' hx=>?_
 have I1:Inv X Z G H { s with heap:=h' }:=I.kept (t':=s.toks) λb o e=>hx b o (ie (bf e)) e
 exact h Z _ G H xs _ Q I1 (by simpa using U) hw
def a8n(to R:TE)(t:av3):TG:=λv Z H Q=>to Z H λo G=>R Z G λi H2=>t o i v H2 λU=>Q Z U
def av6(ho:PE X o to)(hi:PE X i ti)(hs:av4 X t)(ha:∀v,assign (.Subscript o i pos) X.env v=(do
 let G <- holding [v] (eval o X.env)
 let U <- holding [v,G] (eval i X.env)
 standAt pos
 holding [v,G,U] (setItem G U v)
 release [v,G,U] []):=by intro _;rfl):PG X (.Subscript o i pos) (a8n to ti t):=by
 intro Z s R H v u Q I r h;rw[ha];refine aa (je (Bf (ho Z s R H _ I h) λG s1 z_=>?_));obtain⟨x,H1,I1,r1,q1⟩:=z_;refine aa (je (Bf (hi Z s1 R H1 _ I1 q1) λU s2 z_=>?_));obtain⟨y,H2,I2,r2,q2⟩:=z_;refine aa (wpAny_standAt (aa (je (Bf (hs Z s2 R H2 x y v G U u _ I2 r1 r2 r q2) λ_ s3 z_=>?_))));obtain⟨H3,I3,q3⟩:=z_;exact wpAny_release ⟨R,H3,I3,q3⟩
def av7(G:TE)(g:TG):TS:=λD Z H=>G Z H λx U=>g x Z U D.nx
def akv(he:PE X e R)(hg:PG X tg g)(hs:swapsWithSole [tg] e pos.line X.env=pure false:=by rfl)(hw:swappedStores [tg] e X.env=pure none:=by rfl)(h1:(assignEach [tg] X.env).map (·.2)=[assign tg X.env]:=by rfl):PS X (.Assign [tg] e pos) (av7 R g):=by intro Z s G H D I h;refine wpAny_Assign_stores (Bf (he Z s G H _ I h) λv U ⟨x,H1,I1,r1,q1⟩=>?_) hs hw;rw[h1];exact Bf (hg Z U G H1 x v _ I1 r1 q1) λ_ s2 q=>q
def av8(c:TT)(tb:TS):TS:=λD Z H=>∃W:Nat->St->Hp->Prop,(∃m,W m Z H)/\∀m Z H,W m Z H ->
 c Z H λb U=>if b=true then ∃N:St->Hp->Prop,(∀G H',N G H'->∃R,R<m/\W R G H')/\tb { D with nx:=N,ct:=N,bk:=D.nx } Z U else D.nx Z U
def akx(hp:PassesOwn (model X.prog X.w) X.A X.env X.xe)(hc:PT X c tc)(hb:Ox X body tb):PS X (.While c body [] pos) (av8 tc tb):=by
 intro G s σ H D I h;obtain⟨W,⟨m0,w0⟩,R⟩:=h;refine wpAny_While (codeAny_whileLoop (λn s'=>∃qq H',Inv X G qq H' s'/\W n qq H') ?_ m0 ⟨σ,H,I,w0⟩);rintro n s1 ⟨U,H1,I1,w1⟩;refine ql hp (Bf (hc G s1 U H1 _ I1 (R n U H1 w1)) λb s2 z_=>?_);obtain⟨H2,I2,q2⟩:=z_;cases b with
 |true =>
  obtain⟨N,hN,q2⟩:=q2;rw[bz rfl];refine ql hp (Bf (hb G s2 U H2 _ I2 q2) λf s3 q3=>?_);cases f with
  |next =>
   obtain⟨Z,H3,I3,n3⟩:=q3;obtain⟨m',hm,w3⟩:=hN Z H3 n3;exact⟨m',hm,Z,H3,I3,w3⟩
  |cont =>
   obtain⟨Z,H3,I3,n3⟩:=q3;obtain⟨m',hm,w3⟩:=hN Z H3 n3;exact⟨m',hm,Z,H3,I3,w3⟩
  |brk=>exact q3|ret v=>exact q3
 |false =>
  rw[cj ir];exact wpAny_execs_nil ⟨U,H2,I2,q2⟩
structure It where
 go:Nat->Hp->Prop
 yld:Nat->Hp->V->Hp->Prop
 stop:Nat->Hp->Prop
def Rj(X:Cx)(Z:Zp)(H:Hp)(b:Addr):Prop :=
 H b=none/\b≠X.env.locals/\b∉X.fs/\(b∈X.ex\/X.s₀.heap.objs.size<=b)/\(∀x c,X.env.cells.lookup x=some c->c≠b)/\∀p∈X.pn++Z,p.1≠b
def Inv.ag6(I:Inv X pins σ H s)(Z:s.heap.objs.size<=b)(G:U b=none):Rj X pins U b:=by
 refine⟨G,vy (gw I.lt Z),I.a0o Z,.inr (az I.sz Z),λx c e z=>?_,λp R z=>?_⟩
 .obtain⟨v,q⟩:=I.cell x c e
  exact absurd (gw q.lt (by rw[z];exact Z)) (o8 _)
 .exact absurd (gw (bf (I.pin p R).1) (by rw[z];exact Z)) (o8 _)
structure Turn(P:Program)(w:World)(K:Fg)(tg:Expr)(J:It)(fp:X1)(it:Addr)(tn:Nat->Heap->Prop):Prop where
 mem:it∈fp
 obj:∀i h,tn i h->∀b∈fp,∃o,h.get? b=some o/\∀v,o.data≠.cell v
 keep:∀i h h',tn i h->(∀b∈fp,∀o,h.get? b=some o->h'.get? b=some o)->tn i h'
 item:∀(X:Cx),X.prog=P->X.w=w->X.K=K->X.calm=true->∀(i:Nat)(pins:Zp)(s:Shared)(σ:St)(H:Hp)(E:Y1),Inv X pins σ H s->(∀b∈fp,Rj X pins H b)->tn i s.heap->J.go i H ->
  wpAny (model P w) X.A (pyNext (.ref it)) (λr s1=>∃u,r=some u /\
   wpAny (model P w) X.A (letOwnedTupleGo tg (.ref it) u) (λ_ s2=>∃x H',Inv X pins σ H' s2/\RelV x u/\J.yld i H x H'/\tn (i+1) s2.heap/\∀b∈fp,H' b=none) E s1) E s
 done:∀(X:Cx),X.prog=P->X.w=w->X.K=K->X.calm=true->∀(i:Nat)(pins:Zp)(s:Shared)(σ:St)(H:Hp)(E:Y1),Inv X pins σ H s->(∀b∈fp,Rj X pins H b)->tn i s.heap->J.stop i H ->
  wpAny (model P w) X.A (pyNext (.ref it)) (λr s1=>r=none/\Inv X pins σ H s1) E s
 self:∀(A:Around)(i:Nat)(s:Shared)(Q:Y1)(E:Y1),tn i s.heap->Q (.ref it) s->wpAny (model P w) A (pyIter (.ref it)) Q E s
abbrev TI:=St->Hp->(It->Hp->Prop)->Prop
def PIE(X:Cx)(Z:Zp)(σ:St)(tg:Expr)(R:It->Hp->Prop)(U:Value)(s2:Shared):Prop :=
 ∃(it:Addr)(fp:X1)(tn:Nat->Heap->Prop)(J:It)(G:Hp),U=.ref it/\Inv X Z σ G s2/\Turn X.prog X.w X.K tg J fp it tn/\tn 0 s2.heap/\(∀b∈fp,Rj X Z G b)/\R J G
def PI(X:Cx)(tg G:Expr)(wi:TI):Prop :=
 ∀(Z:Zp)(s:Shared)(U:St)(H:Hp)(R:It->Hp->Prop),Inv X Z U H s->wi U H R ->
  wpAny (model X.prog X.w) X.A (eval G X.env) (λv s1=>wpAny (model X.prog X.w) X.A (pyIter v) (PIE X Z U tg R) X.xe s1) X.xe s
def afa(R:s.heap.get? it=some o)(U:o.cls=.type n)(G:o.data=.fields vs)(hn:["enumerate", "zip", "dict_itemiterator", "dict_reverseitemiterator", "odict_iterator", "itertools.zip_longest", "itertools.pairwise"].contains n=false)(Z:Q () s):wpAny M A (letOwnedTupleGo tg (.ref it) u) Q E s:=by
 unfold letOwnedTupleGo;cases tg<;>first
  |exact aj Z
  | (cases u<;>first
   |exact aj Z
   | (refine aa (wpAny_load R ?_)
      rw[U,G];show wpAny M A (if(["enumerate", "zip", "dict_itemiterator", "dict_reverseitemiterator", "odict_iterator", "itertools.zip_longest", "itertools.pairwise"].contains n&&vs[0]?==some (rawInt _))=true then _ else _) Q E s;rw[cj (by intro h;rw[hn,Bool.false_and] at h;cases h)];exact aj Z))
noncomputable def Itl(K:Fg)(a:Addr):It :=
 ⟨λi H=>∃Z x,Ew K H a Z/\Z[i]?=some x,λi H x G=>G=H/\∀Z,Ew K H a Z->Z[i]?=some x,λi H=>∃Z,Ew K H a Z/\Z.length<=i⟩
noncomputable def Itt(K:Fg)(a:Addr):It :=
 ⟨λi H=>∃Z x,Ey K H a Z/\Z[i]?=some x,λi H x G=>G=H/\∀Z,Ey K H a Z->Z[i]?=some x,λi H=>∃Z,Ey K H a Z/\Z.length<=i⟩
noncomputable def Nb(Z:Int)(n:Nat):It:=⟨λi _=>i<n,λi H x G=>G=H/\x=.int (Z+i),λi _=>n<=i⟩
theorem ag7{K:Fg}(a it:Addr):Turn P w K tg (Itl K a) [it] it (λi h=>h.IsListIter it a i) where
 mem:=by simp
 obj:=λi h Z b U=>by
  have e:b=it:=by simpa using U
  subst e;obtain⟨o,e,c,d⟩:=Z;exact⟨o,e,λv z=>by rw[d] at z;cases z⟩
 keep:=λi h h' Z k=>Z.at λo e=>k it (by simp) o e
 item:=by
  intro X hP hw hK hc i G s σ H E I hf Z hg;subst hP hw hK;obtain⟨xs,x,hq,hx⟩:=hg;obtain⟨uv,rv,p,hz⟩:=I.list hq;obtain⟨u,hu,ru⟩:=rv.get hx;obtain⟨f0,f1,f2,f3,f4,f5⟩:=hf it (by simp);refine wpAny_pyNext_list_item Z p.isList (x:=u) (by simpa using hu) λh' R sb=>?_
  have I1:Inv X G σ H { s with heap:=h' }:=I.turned (t':=s.toks) (λb o U e=>(sb.2 b U).trans e) f0 f1 f3 f4 f5;obtain⟨o,e,c,d⟩:=id R;exact⟨u,rfl,afa (s:={ s with heap:=h' }) e c d (by decide) ⟨x,H,I1,ru,⟨rfl,λys hy=>by rw[I.aar hy hq];exact hx⟩,R,λb U=>(hf b U).1⟩⟩
 done:=by intro X hP hw hK hc i G s σ H E I hf Z hg;subst hP hw hK;obtain⟨xs,hq,hx⟩:=hg;obtain⟨uv,rv,p,hz⟩:=I.list hq;obtain⟨f0,f1,f2,f3,f4,f5⟩:=hf it (by simp);have hl:=rv.length;exact wpAny_pyNext_list_end (I.ok.hd hc) Z p.isList (by simp;exact a_ (g_ hl) hx) λh' eb=>⟨rfl,I.turned (t':=s.toks) (λb o U e=>eb b o U e) f0 f1 f3 f4 f5⟩
 self:=λ_ _ _ _ _ Z h=>wpAny_pyIter_listiter Z h
theorem ac0{K:Fg}(a it:Addr):Turn P w K tg (Itt K a) [it] it (λi h=>h.IsTupleIter it a i) where
 mem:=by simp
 obj:=λi h Z b U=>by
  have e:b=it:=by simpa using U
  subst e;obtain⟨o,e,c,d⟩:=Z;exact⟨o,e,λv z=>by rw[d] at z;cases z⟩
 keep:=λi h h' Z k=>Z.at λo e=>k it (by simp) o e
 item:=by
  intro X hP hw hK hc i G s σ H E I hf Z hg;subst hP hw hK;obtain⟨xs,x,hq,hx⟩:=hg;obtain⟨uv,rv,p,hz⟩:=I.tuple hq;obtain⟨u,hu,ru⟩:=rv.get hx;obtain⟨f0,f1,f2,f3,f4,f5⟩:=hf it (by simp);refine wpAny_pyNext_tuple_item Z (show s.heap.IsTuple a uv.toArray from p) (x:=u) (by simpa using hu) λh' R sb=>?_
  have I1:Inv X G σ H { s with heap:=h' }:=I.turned (t':=s.toks) (λb o U e=>(sb.2 b U).trans e) f0 f1 f3 f4 f5;obtain⟨o,e,c,d⟩:=id R;exact⟨u,rfl,afa (s:={ s with heap:=h' }) e c d (by decide) ⟨x,H,I1,ru,⟨rfl,λys hy=>by rw[I.Ws hy hq];exact hx⟩,R,λb U=>(hf b U).1⟩⟩
 done:=by intro X hP hw hK hc i G s σ H E I hf Z hg;subst hP hw hK;obtain⟨xs,hq,hx⟩:=hg;obtain⟨uv,rv,p,hz⟩:=I.tuple hq;obtain⟨f0,f1,f2,f3,f4,f5⟩:=hf it (by simp);have hl:=rv.length;exact wpAny_pyNext_tuple_end (I.ok.hd hc) Z (show s.heap.IsTuple a uv.toArray from p) (by simp;exact a_ (g_ hl) hx) λh' eb=>⟨rfl,I.turned (t':=s.toks) (λb o U e=>eb b o U e) f0 f1 f3 f4 f5⟩
 self:=λ_ _ _ _ _ Z h=>wpAny_pyIter_tupleiter Z h
theorem ac1{K:Fg}(it:Addr)(lo:Int)(n:Nat):Turn P w K tg (Nb lo n) [it] it (λi h=>IsRangeIter h it (lo+(i:Nat)*1) ((n:Int)-(i:Nat)) 1) where
 mem:=by simp
 obj:=λi h Z b U=>by
  have e:b=it:=by simpa using U
  subst e;exact⟨_,Z,λv z=>by
   have z':Data.fields _=Data.cell v:=z;cases z'⟩
 keep:=λi h h' Z k=>k it (by simp) _ Z
 item:=by
  intro X hP hw hK hc i G s σ H E I hf Z hg;subst hP hw hK;obtain⟨f0,f1,f2,f3,f4,f5⟩:=hf it (by simp);have W:=Walks.range (prog:=X.prog) (w:=X.w) (I.ok.hd hc) it lo 1 n;refine W.item i s _ _ hg Z λv h' tk hv R kk=>?_
  obtain⟨t,rfl⟩:=hv;have I1:Inv X G σ H { s with heap:=h',toks:=tk }:=I.turned (λb o U e=>kk b o (by simpa using U) e) f0 f1 f3 f4 f5;refine⟨_,rfl,afa (s:={ s with heap:=h',toks:=tk }) (n := "range_iterator") R rfl rfl (by decide) ⟨.int (lo+i),H,I1,⟨t,?_⟩,⟨rfl,rfl⟩,R,λb U=>(hf b U).1⟩⟩;rw[Int.mul_one]
 done:=by intro X hP hw hK hc i G s σ H E I hf Z hg;subst hP hw hK;obtain⟨f0,f1,f2,f3,f4,f5⟩:=hf it (by simp);exact wpAny_pyNext_range_end (I.ok.hd hc) Z (by have:n<=i:=hg;lia) λh' eb=>⟨rfl,I.turned (t':=s.toks) (λb o U e=>eb b o U e) f0 f1 f3 f4 f5⟩
 self:=λ_ _ _ _ _ Z h=>wpAny_pyIter_rangeiter Z h
end L2
namespace L2
open PySem PySem.Spec PyProof.Rows
def aky{lo:Int}(I:Inv X pins σ H s)(h1:-(2 ^ 62)<=lo)(h2:lo<2 ^ 62)(h3:-(2 ^ 62)<=Z)(h4:Z<2 ^ 62)(q:R (Nb lo (Z-lo).toNat) H):wpAny (model X.prog X.w) X.A (pyIter (.ref s.heap.objs.size)) (PIE X pins σ tg R) E { s with heap:=s.heap.push { cls:=.type "range",data:=.fields #[.int lo t,.int Z u,.int 1 v] },toks:=U }:=by
 refine wpAny_pyIter_range (IsRange.new ..) (small_one h1 h2 h3 h4) ?_;have G:Inv X pins σ H { s with heap:=s.heap.push { cls:=.type "range",data:=.fields #[.int lo t,.int Z u,.int 1 v] },toks:=U }:=I.kept λb o e=>aq _ e
 refine⟨(s.heap.push { cls:=.type "range",data:=.fields #[.int lo t,.int Z u,.int 1 v] }).objs.size,[(s.heap.push { cls:=.type "range",data:=.fields #[.int lo t,.int Z u,.int 1 v] }).objs.size],_,_,H,rfl,
  G.kept (t':=U) λb o e=>aq _ e,ac1 _ lo (Z-lo).toNat,?_,λb hb=>?_,q⟩
 .have e1:lo+((0:Nat):Int)*1=lo:=by simp
  have e2:(((Z-lo).toNat:Nat):Int)-((0:Nat):Int)=Builtin.Range.rangeSize lo Z 1:=by rw[rangeSize_one];split<;>lia
  show IsRangeIter _ _ (lo+((0:Nat):Int)*1) ((((Z-lo).toNat:Nat):Int)-((0:Nat):Int)) 1;rw[e1,e2];exact bu _ rfl
 .have e:b=(s.heap.push { cls:=.type "range",data:=.fields #[.int lo t,.int Z u,.int 1 v] }).objs.size:=by simpa using hb
  subst e;exact G.ag6 (bc _) (G.Am.fresh (bc _))
def a03(U:TA):TI:=λG H R=>U G H λZ H1=>∃j:Int,Z=[.int j]/\-(2 ^ 62)<=j/\j<2 ^ 62/\R (Nb 0 j.toNat) H1
def ag8{X:Cx}{tg:Expr}(hg:Gl X "range")(hm:X.mg "range" = none)(ha:PA X [a] ta)(hs:starEach [a] X.env=[(false,eval a X.env)]:=by rfl):PI X tg (.Call (.Name "range" p) [a] [] pos) (a03 ta):=by
 intro Z s σ H R I h;refine Call_ (Jq I hg hm boot_range (qy (Bf (ha pos Z s σ H _ I h) λus s1 ⟨vs,H1,I1,r1,G⟩=>?_) hs rfl));obtain⟨j,e,G,U,q⟩:=G;subst e;cases r1 with
 |cons r rr =>
  cases rr;obtain⟨t,rfl⟩:=r;exact call_range_1 (aky I1 (by lia) (by lia) G U (by simpa using q))
def a8p(wi:TI)(g:TG)(tb:TS):TS:=λD Z H=>wi Z H λJ H1=>∃W:Nat->Nat->St->Hp->Prop,(∃m,W 0 m Z H1)/\∀i m Z H,W i m Z H ->
 (J.stop i H/\D.nx Z H)\/(J.go i H/\∃N:St->Hp->Prop,(∀G U,N G U->∃m',m'<m/\W (i+1) m' G U)/\∀x U,J.yld i H x U->g x Z U λR H2=>tb { D with nx:=N,ct:=N,bk:=D.nx } R H2)
noncomputable def Qf(Z:X1)(h:Heap):List (Addr×Obj):=Z.filterMap λb=>(h.get? b).map λo=>(b,o)
def Jr(Z:b∈G)(e:h.get? b=some o):(b,o)∈Qf G h:=List.mem_filterMap.mpr ⟨b,Z,by rw[e];rfl⟩
def ag9(R:p∈Qf G h):p.1∈G/\h.get? p.1=some p.2:=by
 obtain⟨b,Z,e⟩:=List.mem_filterMap.mp R;cases q:h.get? b with
 |none=>rw[q] at e;cases e
 |some o =>
  rw[q] at e;have U:(b,o)=p:=gq e;subst U;exact⟨Z,q⟩
def Inv.pinned{X:Cx}(I:Inv X pins σ H s)(hf:∀b∈U,Rj X pins H b)(ho:∀b∈U,∃o,s.heap.get? b=some o/\∀v,o.data≠.cell v):Inv X (pins++Qf U s.heap) σ H s :=
 I.Ym λp hp=>(cz.mp hp).elim (λz=>I.pin p (gf _ z)) λz=>by obtain⟨Z,e⟩:=ag9 z;obtain⟨R,f1,f2,_⟩:=hf p.1 Z;obtain⟨o,G,d⟩:=ho p.1 Z;rw[e] at G;cases G;exact⟨e,R,f1,f2,d⟩
def Inv.K8{X:Cx}(I:Inv X (pins++G) σ H s):Inv X pins σ H s:=I.Ym λp Z=>I.pin p (gf _ (jf _ Z))
def av9{X:Cx}{tg:Expr}(hp:PassesOwn (model X.prog X.w) X.A X.env X.xe)(hc:X.calm=true)(hi:PI X tg iter wi)(hg:PG X tg g)(hb:Ox X body tb)(hs:∀x,foldedSetIterable iter X.env x=pure x:=by intro _;rfl):PS X (.For tg iter body [] pos) (a8p wi g tb):=by
 intro Z s σ H D I h;refine wpAny_For (Bf (hi Z s σ H _ I h) λv s1 h1=>Bf h1 λzw s2 h2=>?_) hs;obtain⟨it,fp,tn,J,H2,e,I2,T,zv,f2,W,⟨m0,w0⟩,q1⟩:=h2;subst e;have qv:∀{H':Hp},(∀b∈fp,H' b=none)->∀b∈fp,Rj X Z H' b:=λhn b hb=>⟨hn b hb,(f2 b hb).2⟩
 refine codeAny_forLoop_any (λn s'=>∃i qk H',Inv X Z qk H' s'/\tn i s'.heap/\(∀b∈fp,H' b=none)/\W i n qk H') ?_ m0 ⟨0,σ,H2,I2,zv,λb hb=>(f2 b hb).1,w0⟩;rintro n s3 ⟨i,R,H3,I3,q4,q2,w3⟩;rcases q1 i n R H3 w3 with⟨q3,qn⟩|⟨go,N,hN,step⟩
 .refine ql hp (Bf (T.done X rfl rfl rfl hc i Z s3 R H3 X.xe I3 (qv q2) q4 q3) λr s4 z_=>?_)
  obtain⟨hr,I4⟩:=z_;subst hr;exact wpAny_execs_nil ⟨R,H3,I4,qn⟩
 .refine ql hp (Bf (T.item X rfl rfl rfl hc i Z s3 R H3 X.xe I3 (qv q2) q4 go) λr s4 z_=>?_)
  obtain⟨u,hr,h4⟩:=z_;subst hr;refine ql hp (Bf h4 λ_ s5 z_=>?_);obtain⟨x,H5,I5,r5,y5,q0,zz⟩:=z_;have q5:=I5.pinned (qv zz) (T.obj _ _ q0);refine ql hp (Bf (hg _ s5 R H5 x u _ q5 r5 (step x H5 y5)) λ_ s6 z_=>?_);obtain⟨zk,H6,I6,q6⟩:=z_;refine ql hp (Bf (hb _ s6 zk H6 _ I6 q6) λf s7 q7=>?_);have qq:∀{G:St}{H7:Hp},Inv X (Z++Qf fp s5.heap) G H7 s7->N G H7->∃m,m<n/\∃i qk H',Inv X Z qk H' s7/\tn i s7.heap/\(∀b∈fp,H' b=none)/\W i m qk H':=fun{G H7} U n7=>by obtain⟨m',hm,w7⟩:=hN G H7 n7;refine⟨m',hm,i+1,G,H7,U.K8,T.keep _ _ _ q0 λb hb o e=>(U.pin (b,o) (gf _ (gf _ (Jr hb e)))).1,λb hb=>?_,w7⟩;obtain⟨o,e,d⟩:=T.obj _ _ q0 b hb;exact(U.pin (b,o) (gf _ (gf _ (Jr hb e)))).2.1
  cases f with
  |next=>obtain⟨G,H7,U,n7⟩:=q7;exact qq U n7
  |cont=>obtain⟨G,H7,U,n7⟩:=q7;exact qq U n7
  |brk=>obtain⟨G,H7,U,q7⟩:=q7;exact⟨G,H7,U.K8,q7⟩
  |ret v=>obtain⟨x7,G,H7,U,r7,q7⟩:=q7;exact⟨x7,G,H7,U.K8,r7,q7⟩
end L2
namespace L2
open PySem PySem.Spec PyProof.Rows
abbrev R2:=V->V->Hp->VK->Prop
def Bv(X:Cx)(f:Value->Value->Sem Value)(r:R2):Prop :=
 ∀(Z:Zp)(s:Shared)(G:St)(H:Hp)(x y:V)(v u:Value)(Q:VK),Inv X Z G H s->RelV x v->RelV y u->r x y H Q ->
  wpAny (model X.prog X.w) X.A (f v u) (EP X Z G Q) X.xe s
def UnR(X:Cx)(f:Value->Sem Value)(r:V->Hp->VK->Prop):Prop :=
 ∀(Z:Zp)(s:Shared)(G:St)(H:Hp)(x:V)(v:Value)(Q:VK),Inv X Z G H s->RelV x v->r x H Q ->
  wpAny (model X.prog X.w) X.A (f v) (EP X Z G Q) X.xe s
def Br(X:Cx)(f:Value)(r:List V->Hp->VK->Prop):Prop :=
 ∀(Z:Zp)(s:Shared)(U:St)(H:Hp)(R:List V)(G:Zl)(Q:VK),Inv X Z U H s->Vals R G->r R H Q ->
  wpAny (model X.prog X.w) X.A (call f G) (EP X Z U Q) X.xe s
def a8t(X:Cx)(r:V->Hp->(Bool->Hp->Prop)->Prop):Prop :=
 ∀(Z:Zp)(s:Shared)(G:St)(H:Hp)(x:V)(v:Value)(Q:Bool->Hp->Prop),Inv X Z G H s->RelV x v->r x H Q ->
  wpAny (model X.prog X.w) X.A (truthy v) (TP X Z G Q) X.xe s
def tOp(r:R2)(R G:TE):TE:=λZ H Q=>R Z H λx U=>G Z U λy H2=>r x y H2 Q
def tUn(r:V->Hp->VK->Prop)(G:TE):TE:=λZ H Q=>G Z H λx U=>r x U Q
def rI(C:Int->Int->Prop)(g:Int->Int->V):R2:=λx y H Q=>∃i j,x=.int i/\y=.int j/\C i j/\Q (g i j) H
def rI0(g:Int->Int->V):R2:=λx y H Q=>∃i j,x=.int i/\y=.int j/\Q (g i j) H
def rU(g:Int->V):V->Hp->VK->Prop:=λx H Q=>∃i,x=.int i/\Q (g i) H
def awb{X:Cx}{a b:Expr}{ta tb:TE}(ha:PE X a ta)(hb:PE X b tb){Z:Zp}{s:Shared}{U:St}{H:Hp}{R:V->V->Hp->Prop}(I:Inv X Z U H s)
 (h:ta U H λx H1=>tb U H1 λy G=>R x y G) {Q:Y1} {f:Value->Value->Sem Value}
 (hf:∀v u s2 x y G,Inv X Z U G s2->RelV x v->RelV y u->R x y G->wpAny (model X.prog X.w) X.A (f v u) Q X.xe s2) :
 wpAny (model X.prog X.w) X.A (eval a X.env) (λv qk=>wpAny (model X.prog X.w) X.A (eval b X.env) (λu qq=>wpAny (model X.prog X.w) X.A (f v u) Q X.xe qq) X.xe qk) X.xe s:=by
 refine Bf (ha Z s U H _ I h) λv s1 z_=>?_
 obtain⟨x,H1,I1,r1,q1⟩:=z_;refine Bf (hb Z s1 U H1 _ I1 q1) λu s2 z_=>?_
 obtain⟨y,G,I2,r2,q2⟩:=z_;exact hf v u s2 x y G I2 r1 r2 q2
def a05{X:Cx}{a b:Expr}{R U:TE}{G:Pos}{op:Operator}{r:R2}(ho:Bv X (binaryOp op) r)(ha:PE X a R)(hb:PE X b U):PE X (.BinOp a op b G) (tOp r R U):=by intro Z s σ H Q I h;exact wpAny_BinOp (awb ha hb I h λv u s2 x y H2 I2 rx ry q=>ho Z s2 σ H2 x y v u Q I2 rx ry q)
def a06{X:Cx}{a:Expr}{ta:TE}{G:Pos}{U:UnaryOp}{r:V->Hp->VK->Prop}(ho:UnR X (unaryOp U) r)(ha:PE X a ta):PE X (.UnaryOp U a G) (tUn r ta):=by intro Z s R H Q I h;exact UnaryOp_ (Bf (ha Z s R H _ I h) λv s1 ⟨x,H1,I1,r1,q1⟩=>ho Z s1 R H1 x v Q I1 r1 q1)
def opI{X:Cx}{f:Value->Value->Sem Value}{C:Int->Int->Prop}{g:Int->Int->Int}
 (Z:∀(i j:Int)(t u:Tok)(s:Shared)(Q:Y1)(E:Y1),C i j->Q (.int (g i j) s.toks) { s with toks:=s.toks+1 }->wpAny (model X.prog X.w) X.A (f (.int i t) (.int j u)) Q E s) :
 Bv X f (rI C λi j=>.int (g i j)):=by
 intro G s σ H x y v u Q I U ry h;obtain⟨i,j,rfl,rfl,R,q⟩:=h;obtain⟨t,rfl⟩:=U;obtain⟨t',rfl⟩:=ry;exact Z i j t t' s _ _ R ⟨.int (g i j),H,I.tok _,⟨_,rfl⟩,q⟩
def a07{X:Cx}{f:Value->Value->Sem Value}{g:Int->Int->Int}
 (Z:∀(i j:Int)(t u:Tok)(s:Shared)(Q:Y1)(E:Y1),Q (.int (g i j) s.toks) { s with toks:=s.toks+1 }->wpAny (model X.prog X.w) X.A (f (.int i t) (.int j u)) Q E s) :
 Bv X f (rI0 λi j=>.int (g i j)):=by
 intro G s σ H x y v u Q I U R h;obtain⟨i,j,rfl,rfl,q⟩:=h;obtain⟨t,rfl⟩:=U;obtain⟨t',rfl⟩:=R;exact Z i j t t' s _ _ ⟨.int (g i j),H,I.tok _,⟨_,rfl⟩,q⟩
def apm{X:Cx}{f:Value->Value->Sem Value}{g:Int->Int->Bool}
 (Z:∀(i j:Int)(t u:Tok)(s:Shared)(Q:Y1)(E:Y1),Q (.bool (g i j)) s->wpAny (model X.prog X.w) X.A (f (.int i t) (.int j u)) Q E s) :
 Bv X f (rI0 λi j=>.bl (g i j)):=by
 intro G s σ H x y v u Q I U R h;obtain⟨i,j,rfl,rfl,q⟩:=h;obtain⟨t,rfl⟩:=U;obtain⟨t',rfl⟩:=R;exact Z i j t t' s _ _ ⟨.bl (g i j),H,I,rfl,q⟩
def a8u(i j:Int):Prop:=0<j/\j<1073741824
def a8v(i j:Int):Prop:=0<=j/\j<=1000000/\i.natAbs<2 ^ 64
def awc(i j:Int):Prop:=(-(2 ^ 64)<i/\i<2 ^ 64)\/(-(2 ^ 64)<j/\j<2 ^ 64)
def awc.ok{i j:Int}(h:awc i j):IntMulOk i j:=by
 rcases h with⟨G,Z⟩|⟨G,Z⟩
 .exact .of_left (intBits_le_64 G Z)
 .exact .of_right (intBits_le_64 G Z)
def awd{X:Cx}:Bv X (binaryOp .Add) (rI0 λi j=>.int (i+j)):=a07 λ_ _ _ _ _ _ _ q=>add_int q
def awe{X:Cx}:Bv X (binaryOp .Sub) (rI0 λi j=>.int (i-j)):=a07 λ_ _ _ _ _ _ _ q=>sub_int q
def awf{X:Cx}:Bv X (binaryOp .Mult) (rI awc λi j=>.int (i*j)):=opI λ_ _ _ _ _ _ _ Z q=>mul_int q Z.ok
def apn{X:Cx}:Bv X (binaryOp .FloorDiv) (rI a8u λi j=>.int (i / j)):=opI λi j _ _ _ _ _ Z q=>by
 have U:(0:Int)<j:=Z.1
 have G:j<1073741824:=Z.2
 exact floordiv_int (by lia) (by rw[Int.fdiv_eq_ediv_of_nonneg i (by lia)];exact q) (.inl (PyProof.noPylong_small (by omega)))
def awg{X:Cx}:Bv X (binaryOp .Mod) (rI (λ_ j=>0<j) λi j=>.int (i%j)):=opI λi j _ _ _ _ _ Z q=>by
 have G:(0:Int)<j:=Z
 exact mod_int' (by lia) (by rw[Int.fmod_eq_emod_of_nonneg i (by lia)];exact q)
def awh{X:Cx}:Bv X (binaryOp .Pow) (rI a8v λi j=>.int (i ^ j.toNat)):=opI λ_ _ _ _ _ _ _ Z q=>pow_int_small Z.1 Z.2.1 Z.2.2 q
def unI{X:Cx}{f:Value->Sem Value}{g:Int->Int}
 (Z:∀(i:Int)(t:Tok)(s:Shared)(Q:Y1)(E:Y1),Q (.int (g i) s.toks) { s with toks:=s.toks+1 }->wpAny (model X.prog X.w) X.A (f (.int i t)) Q E s) :
 UnR X f (rU λi=>.int (g i)):=by
 intro G s R H x v Q I U h;obtain⟨i,rfl,q⟩:=h;obtain⟨t,rfl⟩:=U;exact Z i t s _ _ ⟨.int (g i),H,I.tok _,⟨_,rfl⟩,q⟩
def awi{X:Cx}:UnR X (unaryOp .USub) (rU λi=>.int (-i)):=unI λ_ _ _ _ _ q=>neg_int q
noncomputable def awj:V->V->Bool
 |.non,.non=>true|.non,.int _=>true|.int _,.non=>true|.non,.bl _=>true|.bl _,.non=>true|.non,.str _=>true|.str _,.non=>true
 |.int _,.int _=>true|.bl _,.bl _=>true|.str _,.str _=>true|.byt _,.byt _=>true
 |.int _,.str _=>true|.str _,.int _=>true|.bl _,.str _=>true|.str _,.bl _=>true
 |_,_=>false
def rEq:R2:=λx y H Q=>awj x y=true/\Q (.bl (decide (x=y))) H
def rNe:R2:=λx y H Q=>awj x y=true/\Q (.bl (!decide (x=y))) H
def afb{i j:Int}:decide (V.int i=V.int j)=(i==j):=by rw[yp];simp
def akz{i j:Bool}:decide (V.bl i=V.bl j)=(i==j):=by rw[yp];simp
def afc{i j:Str}:decide (V.str i=V.str j)=(i==j):=by rw[yp];simp
def afd{i j:Array UInt8}:decide (V.byt i=V.byt j)=(i.toList==j.toList):=by rw[yp];cases i;cases j;simp
def wk{X:Cx}{Z:Zp}{U:St}{H:Hp}{s:Shared}{Q:VK}{k G:Bool}(I:Inv X Z U H s)(q:Q (.bl k) H)(e:k=G):EP X Z U Q (.bool G) s:=by subst e;exact⟨.bl k,H,I,rfl,q⟩
def a08{X:Cx}:Bv X (compareOp .Eq) rEq:=by
 intro qq s σ H x y v u Q I R Z h;obtain⟨U,q⟩:=h;cases x with
 |non =>
  cases R;cases y with
  |non=>cases Z;exact PySem.EqNone.eq_none_none (wk I q (by simp))|bl j=>cases Z;exact PySem.EqNone.eq_none_bool (wk I q (by simp))|int j=>obtain⟨G,rfl⟩:=Z;exact PySem.EqNone.eq_none_int (wk I q (by simp))
  |str j=>obtain⟨G,rfl⟩:=Z;exact PySem.EqNone.eq_none_str (wk I q (by simp))
  |_=>exact absurd (show false=true from U) ir
 |bl i =>
  cases R;cases y with
  |non=>cases Z;exact PySem.EqNone.eq_bool_none (wk I q (by simp))|bl j=>cases Z;exact eq_bool (wk I q akz)|str j=>obtain⟨G,rfl⟩:=Z;exact PySem.EqMixed.eq_bool_str (wk I q (by simp))
  |_=>exact absurd (show false=true from U) ir
 |int i =>
  obtain⟨t,rfl⟩:=R;cases y with
  |non=>cases Z;exact PySem.EqNone.eq_int_none (wk I q (by simp))|int j=>obtain⟨G,rfl⟩:=Z;exact eq_int (wk I q afb)
  |str j=>obtain⟨G,rfl⟩:=Z;exact PySem.EqMixed.eq_int_str (wk I q (by simp))
  |_=>exact absurd (show false=true from U) ir
 |str i =>
  obtain⟨t,rfl⟩:=R;cases y with
  |non=>cases Z;exact PySem.EqNone.eq_str_none (wk I q (by simp))|bl j=>cases Z;exact PySem.EqMixed.eq_str_bool (wk I q (by simp))|int j=>obtain⟨G,rfl⟩:=Z;exact PySem.EqMixed.eq_str_int (wk I q (by simp))
  |str j=>obtain⟨G,rfl⟩:=Z;exact eq_str (wk I q afc)
  |_=>exact absurd (show false=true from U) ir
 |byt i =>
  obtain⟨t,rfl⟩:=R;cases y with
  |byt j=>obtain⟨G,rfl⟩:=Z;exact PySem.W.eq_bytes (wk I q afd)
  |_=>exact absurd (show false=true from U) ir
 |_=>cases y<;>exact absurd (show false=true from U) ir
def a09{X:Cx}:Bv X (compareOp .NotEq) rNe:=by
 intro qq s σ H x y v u Q I R Z h;obtain⟨U,q⟩:=h;cases x with
 |non =>
  cases R;cases y with
  |non=>cases Z;exact PySem.EqNone.ne_none_none (wk I q (by simp))|bl j=>cases Z;exact PySem.EqNone.ne_none_bool (wk I q (by simp))|int j=>obtain⟨G,rfl⟩:=Z;exact PySem.EqNone.ne_none_int (wk I q (by simp))
  |str j=>obtain⟨G,rfl⟩:=Z;exact PySem.EqNone.ne_none_str (wk I q (by simp))
  |_=>exact absurd (show false=true from U) ir
 |bl i =>
  cases R;cases y with
  |non=>cases Z;exact PySem.EqNone.ne_bool_none (wk I q (by simp))|bl j=>cases Z;exact ne_bool (wk I q (mz not akz))|str j=>obtain⟨G,rfl⟩:=Z;exact PySem.EqMixed.ne_bool_str (wk I q (by simp))
  |_=>exact absurd (show false=true from U) ir
 |int i =>
  obtain⟨t,rfl⟩:=R;cases y with
  |non=>cases Z;exact PySem.EqNone.ne_int_none (wk I q (by simp))|int j=>obtain⟨G,rfl⟩:=Z;exact ne_int (wk I q (mz not afb))
  |str j=>obtain⟨G,rfl⟩:=Z;exact PySem.EqMixed.ne_int_str (wk I q (by simp))
  |_=>exact absurd (show false=true from U) ir
 |str i =>
  obtain⟨t,rfl⟩:=R;cases y with
  |non=>cases Z;exact PySem.EqNone.ne_str_none (wk I q (by simp))|bl j=>cases Z;exact PySem.EqMixed.ne_str_bool (wk I q (by simp))|int j=>obtain⟨G,rfl⟩:=Z;exact PySem.EqMixed.ne_str_int (wk I q (by simp))
  |str j=>obtain⟨G,rfl⟩:=Z;exact ne_str (wk I q (mz not afc))
  |_=>exact absurd (show false=true from U) ir
 |byt i =>
  obtain⟨t,rfl⟩:=R;cases y with
  |byt j=>obtain⟨G,rfl⟩:=Z;exact PySem.W.ne_bytes (wk I q (mz not afd))
  |_=>exact absurd (show false=true from U) ir
 |_=>cases y<;>exact absurd (show false=true from U) ir
def a1a{X:Cx}:Bv X (compareOp .Lt) (rI0 λi j=>.bl (decide (i<j))):=apm λ_ _ _ _ _ _ _ q=>lt_int q
def a1b{X:Cx}:Bv X (compareOp .LtE) (rI0 λi j=>.bl (decide (i<=j))):=apm λ_ _ _ _ _ _ _ q=>le_int q
def a1c{X:Cx}:Bv X (compareOp .Gt) (rI0 λi j=>.bl (decide (j<i))):=apm λ_ _ _ _ _ _ _ q=>gt_int q
def a1d{X:Cx}:Bv X (compareOp .GtE) (rI0 λi j=>.bl (decide (j<=i))):=apm λ_ _ _ _ _ _ _ q=>ge_int q
def awk{X:Cx}:Bv X (compareOp .Is) (λx y H Q=>y=.non/\Q (.bl (decide (x=.non))) H):=by
 intro Z s R H x y v u Q I G U h;obtain⟨rfl,q⟩:=h;cases U;refine is_none_gen (wk I q ?_);cases x<;>first
  |(cases G;rfl)
  |(obtain⟨t,rfl⟩:=G;rfl)
def Bv.or{X:Cx}{f:Value->Value->Sem Value}{r R:R2}(h:Bv X f r)(h':Bv X f R):Bv X f (λx y H Q=>r x y H Q\/R x y H Q):=by
 intro Z s σ H x y v u Q I G U q;rcases q with q|q
 .exact h Z s σ H x y v u Q I G U q
 .exact h' Z s σ H x y v u Q I G U q
def apo{X:Cx}{a b:Expr}{ta R:TE}{G:Pos}{U:CmpOp}{r:R2}(ho:Bv X (compareOp U) r)(ha:PE X a ta)(hb:PE X b R)(hm:behindInMarks U b=false):PE X (.Compare a [U] [b] G) (tOp r ta R):=by intro Z s σ H Q I h;exact wpAny_Compare1 (awb ha hb I h λv u s2 x y H2 I2 rx ry q=>ho Z s2 σ H2 x y v u Q I2 rx ry q) hm
def asy(t:TE):TT:=λZ H Q=>t Z H λx G=>∃k,x=.bl k/\Q k G
def apq{X:Cx}{a b:Expr}{ta tb:TE}{G:Pos}{U:CmpOp}{r:R2}(ho:Bv X (compareOp U) r)(ha:PE X a ta)(hb:PE X b tb)(hm:behindInMarks U b=false):PT X (.Compare a [U] [b] G) (asy (tOp r ta tb)):=by
 intro Z s R H Q I h;refine wpAny_isTrue_Compare1 (Bf (ha Z s R H _ I h) λv s1 ⟨x,H1,I1,r1,q1⟩=>Bf (hb Z s1 R H1 _ I1 q1) λu s2 ⟨y,H2,I2,r2,q2⟩ =>
  Bf (ho Z s2 R H2 x y v u _ I2 r1 r2 q2) λc s3 ⟨z,H3,I3,r3,k,e,q3⟩=>?_) hm
 subst e;cases r3;exact jy ⟨H3,I3,q3⟩
def Yp(r r':R2)(ta U tc:TE):TE:=λZ H Q=>ta Z H λx H1=>U Z H1 λy H2=>r x y H2 λz G=>∃k,z=.bl k /\
 (if k=true then tc Z G λR H4=>r' y R H4 Q else Q (.bl false) G)
def ak0{X:Cx}{a b c:Expr}{ta tb tc:TE}{R:Pos}{op G:CmpOp}{r r':R2}(ho:Bv X (compareOp op) r)(qq:Bv X (compareOp G) r')(ha:PE X a ta)(hb:PE X b tb)(hc:PE X c tc)
 (hm:lastMarks [op,G] [b,c]=false:=by with_unfolding_all rfl):PE X (.Compare a [op,G] [b,c] R) (Yp r r' ta tb tc):=by
 intro Z s U H Q I h;refine Compare_chain (Bf (ha Z s U H _ I h) λv s1 ⟨x,H1,I1,r1,q1⟩=>chain_link (Bf (hb Z s1 U H1 _ I1 q1) λu s2 ⟨y,H2,I2,r2,q2⟩ =>
  Bf (ho Z s2 U H2 x y v u _ I2 r1 r2 q2) λd s3 ⟨z,H3,I3,r3,k,e,q3⟩=>?_)) hm
 subst e;cases r3;refine jy ?_;cases k with
 |false=>exact ite_ff ⟨.bl false,H3,I3,rfl,q3⟩|true=>exact ite_tt (chain_last (Bf (hc Z s3 U H3 _ I3 q3) λw' s4 ⟨z',H4,I4,r4,q4⟩=>qq Z s4 U H4 y z' u w' Q I4 r2 r4 q4))
def ak1{X:Cx}{a b c:Expr}{ta tb tc:TE}{R:Pos}{op G:CmpOp}{r r':R2}(ho:Bv X (compareOp op) r)(qq:Bv X (compareOp G) r')(ha:PE X a ta)(hb:PE X b tb)(hc:PE X c tc)
 (hm:lastMarks [op,G] [b,c]=false:=by with_unfolding_all rfl):PT X (.Compare a [op,G] [b,c] R) (asy (Yp r r' ta tb tc)):=by
 intro Z s U H Q I h;refine isTrue_chain (Bf (ha Z s U H _ I h) λv s1 ⟨x,H1,I1,r1,q1⟩=>test_link (Bf (hb Z s1 U H1 _ I1 q1) λu s2 ⟨y,H2,I2,r2,q2⟩ =>
  Bf (ho Z s2 U H2 x y v u _ I2 r1 r2 q2) λd s3 ⟨z,H3,I3,r3,k,e,q3⟩=>?_)) hm
 subst e;cases r3;refine jy ?_;cases k with
 |false =>
  obtain⟨k',e',q'⟩:=q3;cases e';exact ite_ff ⟨H3,I3,q'⟩
 |true =>
  refine ite_tt (test_last (Bf (hc Z s3 U H3 _ I3 q3) λw' s4 ⟨z',H4,I4,r4,q4⟩=>Bf (qq Z s4 U H4 y z' u w' _ I4 r2 r4 q4) λd' s5 z_=>?_));obtain⟨z2,H5,I5,r5,k2,e2,q5⟩:=z_;subst e2;cases r5;exact jy ⟨H5,I5,q5⟩
def apr(K:Fg)(x:V)(H:Hp)(k:Bool):Prop :=
 match x with
 |.non=>k=false|.bl b=>k=b|.int i=>k=(i != 0)|.str y=>y.length<=sizeLine/\k=((y.length:Int) != 0)|.byt y=>y.size<=sizeLine/\k=((y.size:Int) != 0)|.ref p=>(∃Z,Ew K H p Z/\k=!Z.isEmpty)\/(∃Z,Ey K H p Z/\k=!Z.isEmpty)\/∃G,H p=some (.dK G)/\k=!G.isEmpty|_=>False
def ac3{U:Type}{Z:List (U×V)}{G:List (U×Value)}(r:KV Z G):(!G.isEmpty)=!Z.isEmpty:=by cases r<;>rfl
def Ur{G:List V}{Z:Zl}(r:Vals G Z):(!Z.toArray.isEmpty)=!G.isEmpty:=by cases r<;>simp
def Us:(sizeLine:Nat)<2 ^ 63:=by rw[sizeLine_eq];decide
def ak2{X:Cx}:a8t X (λx H Q=>∃k,apr X.K x H k/\Q k H):=by
 intro qq s σ H x v Q I rx h;obtain⟨k,e,q⟩:=h;have hl:=Us;have hs:sizeLine=16777216:=sizeLine_eq;cases x with
 |non =>
  cases rx;have Z:k=false:=e;subst Z;exact truthy_none ⟨H,I,q⟩
 |bl b =>
  cases rx;have Z:k=b:=e;subst Z;exact jy ⟨H,I,q⟩
 |int i =>
  obtain⟨t,rfl⟩:=rx;have Z:k=(i != 0):=e;subst Z;exact PySem.P.truthy_int ⟨H,I,q⟩
 |str y =>
  obtain⟨t,rfl⟩:=rx;obtain⟨hy,Z⟩:y.length<=sizeLine/\k=((y.length:Int) != 0):=e
  subst Z;exact PySem.P.truthy_str (by lia) ⟨H,I.tok _,q⟩
 |byt y =>
  obtain⟨t,rfl⟩:=rx;obtain⟨hy,Z⟩:y.size<=sizeLine/\k=((y.size:Int) != 0):=e
  subst Z;exact PySem.W.truthy_bytes (a_ hy (a_ (f_ hs) (by decide))) ⟨H,I.tok _,q⟩
 |ref p =>
  cases rx;have Z:(∃U,Ew X.K H p U/\k=!U.isEmpty)\/(∃U,Ey X.K H p U/\k=!U.isEmpty)\/∃R,H p=some (.dK R)/\k=!R.isEmpty:=e;rcases Z with⟨U,hx,Z⟩|⟨U,hx,Z⟩|⟨R,hx,Z⟩
  .subst Z
   obtain⟨uv,r,pl,hz⟩:=I.list hx;have G:=r.length;exact wpAny_truthy_list pl.isList (by simp only[fc];lia) ⟨H,I.tok _,by rw[Ur r];exact q⟩
  .subst Z
   obtain⟨uv,r,pl,hz⟩:=I.tuple hx;have G:=r.length;exact truthy_tuple pl (by simp only[fc];lia) ⟨H,I.tok _,by rw[Ur r];exact q⟩
  .subst Z
   obtain⟨hz,hS,vs,r,m⟩:R.length<=sizeLine/\(p==sysModules)=false/\∃vs,KV R vs/\s.heap.DictOf (Aw X.prog X.w) p vs:=I.Am p _ hx
   have G:R.length=vs.length:=Paired.length r;exact wpAny_truthy_dict hS m (by lia) ⟨H,I.tok _,by rw[ac3 r];exact q⟩
 |_=>exact(show False from e).elim
def ak3{X:Cx}{a:Expr}{ta:TE}(ha:PE X a ta)(he:∀Z,isTrue a X.env Z=(do let v <- Z;standAt a.pos;holding [v] (truthy v))) :
 PT X a (λU H Q=>ta U H λx R=>∃k,apr X.K x R k/\Q k R):=by
 intro G s U H Q I h;exact isTrue_plain (Bf (ha G s U H _ I h) λv s1 ⟨x,H1,I1,r1,q1⟩=>ak2 G s1 U H1 x v Q I1 r1 q1) (he _)
def vals1{x:V}{Z:Zl}(r:Vals [x] Z):∃u,Z=[u]/\RelV x u:=by
 cases r with
 |cons U G=>cases G;exact⟨_,rfl,U⟩
def vals2{x y:V}{Z:Zl}(r:Vals [x,y] Z):∃u w',Z=[u,w']/\RelV x u/\RelV y w':=by
 cases r with
 |cons R U =>
  cases U with
  |cons G r4=>cases r4;exact⟨_,_,rfl,R,G⟩
def aha{X:Cx}(R:X.calm=true):Br X (.builtin "max") (λG H Q=>∃i j,G=[.int i,.int j]/\Q (.int (if j > i then j else i)) H):=by
 intro U s σ H G us Q I r h;obtain⟨i,j,rfl,q⟩:=h;obtain⟨u,w',rfl,⟨t,rfl⟩,⟨t',rfl⟩⟩:=vals2 r;refine max_two_ints (I.ok.hd R) λh' tk k=>⟨_,H,I.kept k,?_,q⟩
 by_cases Z:j > i
 .rw[bz Z,bz Z];exact⟨_,rfl⟩
 .rw[cj Z,cj Z];exact⟨_,rfl⟩
def ahb{X:Cx}(R:X.calm=true):Br X (.builtin "min") (λG H Q=>∃i j,G=[.int i,.int j]/\Q (.int (if j<i then j else i)) H):=by
 intro U s σ H G us Q I r h;obtain⟨i,j,rfl,q⟩:=h;obtain⟨u,w',rfl,⟨t,rfl⟩,⟨t',rfl⟩⟩:=vals2 r;refine min_two_ints (I.ok.hd R) λh' tk k=>⟨_,H,I.kept k,?_,q⟩
 by_cases Z:j<i
 .rw[bz Z,bz Z];exact⟨_,rfl⟩
 .rw[cj Z,cj Z];exact⟨_,rfl⟩
end L2
namespace L2
open PySem PySem.Spec PyProof.Rows
structure ac4(h:Heap)(x dx C:Addr)(mA:Zs):Prop where
 obj:h.get? x=some (PySem.W.instObj C dx)
 ns:h.Ns1 dx mA
 ne:dx≠x
set_option tactic.hygienic true in
def ahc{h:Heap}{G:Addr}{C:Zs}(n:h.Ns1 G C):∃J,h.get? G=some J/\∀Z,PySem.W.lookIn Z J=some (C Z):=by
 obtain⟨o,U,ep,u,R,S,_,hm⟩:=n;refine⟨o,u,λZ=>?_⟩;have e:=hm Z;unfold nsFind findBy at e;rw[<- Array.find?_toList] at e;unfold PySem.W.lookIn;rw[R];dsimp only;split
 .rename_i y q
  rw[q] at e;exact mz some e
 .rename_i q
  rw[q] at e;have a:U.toList.any (·.refKey)=false:=by rw[List.any_eq_false];intro y hy;obtain⟨z,t,Y⟩:=S y (Array.mem_toList_iff.mp hy);simp[DictEntry.refKey,Y]
  have L:¬U.toList.any (·.refKey)=true:=by rw[a];exact ir
  rw[cj L];exact mz some e
def ac4.look{h:Heap}{x R C:Addr}{U:Zs}(I:ac4 h x R C U):∃G,PySem.W.InstAt h x (PySem.W.instObj C R) C (some G)/\∀Z,PySem.W.lookIn Z G=some (U Z) :=
 let ⟨G,ho,hl⟩:=ahc I.ns
 ⟨G,⟨I.obj,rfl,rfl,ho⟩,hl⟩
def get_map{prog:Program}{w:World}{A:Around}{E:Y1}{s:Shared}{K:Fg}{x dx C:Addr}{R:Zs}{Z:Str}{v:Value}{G:Bool}{Q:Y1}(X:K.In s.heap)(I:ac4 s.heap x dx C R)(hg:PySem.W.plainGet K C Z=true)(hh:PySem.W.hasDictIn K C=true)
 (ha:PySem.W.findIn K (.ref C) Z=some none) (hv:R Z=some v) (U:PySem.W.handedIn v=true) (h:Q v { s with toks:=s.toks+1 }) :
 wpAny (model prog w) A (getAttr (.ref x) Z G) Q E s:=by
 obtain⟨od,J,hl⟩:=I.look;exact PySem.W.get_value X J (PySem.W.plainGet_of hg).1 (PySem.W.findObj_own hh ha rfl (by rw[hl,hv])) U h
def ak4{prog:Program}{w:World}{A:Around}{E:Y1}{s:Shared}{K:Fg}{x dx C f:Addr}{U:Zs}{Z:Str}{pl:Sem Bool}{Q:Value×List Value->Shared->Prop}(X:K.In s.heap)(I:ac4 s.heap x dx C U)(G:PySem.W.plainGet K C Z=true)
 (hf:PySem.W.findIn K (.ref C) Z=some (some (.ref f))) (R:PySem.W.isFn K (.ref f)=true) (hv:U Z=none) (h:Q (.ref f,[.ref x]) s) :
 wpAny (model prog w) A (getMethod (.ref x) Z pl) Q E s:=by
 obtain⟨od,J,hl⟩:=I.look;exact PySem.W.method_fn X J (PySem.W.plainGet_of G).1 (PySem.W.plainGet_of G).2 hf (beq_iff_eq.mp R) (by show(PySem.W.lookIn Z od).map (·.isSome)=some false;rw[hl,hv];rfl) h
def aps{prog:Program}{w:World}{A:Around}{E:Y1}{s:Shared}{K:Fg}{x U C:Addr}{mA:Zs}{Z:Str}{v:Value}{ns:Yf}{Q:Unit->Shared->Prop}(X:K.In s.heap)(I:ac4 s.heap x U C mA)
 (hs:PySem.W.findIn K (.ref C) "__setattr__" = some (some (.builtin "object.__setattr__"))) (hp:PySem.W.plainOver K C=true) (ht:PySem.W.takerIn K C Z=some none) (hh:PySem.W.hasDictIn K C=true)
 (hw:PySem.Within mA ns) (qv:ns.length<=sizeLine)
 (h:∀h',ac4 h' x U C (λy=>if y=Z then some v else mA y)->Heap.SameBut U s.heap h'->Q () { s with heap:=h',toks:=s.toks+2 }) :
 wpAny (model prog w) A (setAttr (.ref x) Z v) Q E s:=by
 obtain⟨od,J,hl⟩:=I.look;refine PySem.W.set_plain X J hs (PySem.W.osa_open (s:={ s with toks:=s.toks+1 }) (r:=none) X J hp ht λb=>?_);obtain⟨cd,hc,qk⟩:=PySem.W.any_some hh;have hx:s.heap.get? x=some ⟨.ref C,some U,.plain,#[]⟩:=I.obj;refine aa (aj (aa (aa (wpAny_loadPart hx (aa (PySem.W.Looks.here (s:={ s with toks:=s.toks+1 }) (PySem.W.looks_clsIn X hc) ?_))))));rw[qk];refine aj (a:=some U) (aa (aj (aa ?_)));refine wpAny_nsSet1 (s:={ s with toks:=s.toks+1 }) I.ns λh' R G=>?_
 obtain⟨oD,q2,q3,q0,qq,q1⟩:=R.count (PySem.Within.cons Z v hw);refine aa (wpAny_lookBehind q0 (by rw[qq];exact pastItsLine_dict (az q1 (by rw[d9];exact v_ qv))) ?_);exact aj (h _ ⟨(G.2 _ (kh I.ne)).trans I.obj,R,I.ne⟩ G)
def ak5{prog:Program}{w:World}{A:Around}{s:Shared}{K:Fg}{C f:Addr}{R:Result->Shared->Prop}{G:Zl}{U:List (Str×Value)}(X:K.In s.heap)(hm:PySem.W.makesIn K C=true)
 (hi:PySem.W.findIn K (.ref C) "__init__" = some (some (.ref f))) (hf:PySem.W.typeIn K (.ref f)=some (.type "function"))
 (h:codeAny (model prog w) (A.under (.builtin "type.__call__" ⟨.ref C::G,U⟩)) (.call (.ref f) ⟨.ref (s.heap.objs.size+1)::G,U⟩) (PySem.W.InitBack (s.heap.objs.size+1) R)
  { s with heap:=(s.heap.push PySem.W.emptyDict).push (PySem.W.instObj C s.heap.objs.size) }) :
 codeAny (model prog w) A (.call (.ref C) ⟨G,U⟩) R s:=by
 obtain⟨hh,g,d,t,os⟩:=s;exact PySem.W.make_core (PySem.W.makes_of X hm) (PySem.W.looks_findIn X hi) (λZ=>PySem.W.bind_fn X Z hf) (.inl rfl) h
noncomputable def G8(f:Str)(v:V):List (Str×V)->List (Str×V)
 |[]=>[(f,v)]|(g,x)::r=>if g=f then(g,v)::r else(g,x)::G8 f v r
theorem Q4(f g:Str)(v:V):∀fs:List (Str×V),(G8 f v fs).lookup g=if g=f then some v else fs.lookup g
 |[]=>by
  show List.lookup g [(f,v)]=_
  by_cases h:g=f
  .have Z:(g==f)=true:=beq_iff_eq.mpr h
   simp only[List.lookup,Z,bz h]
  .have Z:(g==f)=false:=ye.mpr h
   simp only[List.lookup,Z,cj h]
 |(k,x)::r=>by
  have U:=Q4 f g v r;rw[show G8 f v ((k,x)::r)=(if k=f then(k,v)::r else(k,x)::G8 f v r) from rfl]
  by_cases G:k=f
  .rw[bz G]
   by_cases h:g=k
   .have Z:(g==k)=true:=beq_iff_eq.mpr h
    simp only[List.lookup,Z,bz (h.trans G)]
   .have Z:(g==k)=false:=ye.mpr h
    simp only[List.lookup,Z,cj (λe:g=f=>h (e.trans G.symm))]
  .rw[cj G]
   by_cases h:g=k
   .have Z:(g==k)=true:=beq_iff_eq.mpr h
    simp only[List.lookup,Z,cj (λe:g=f=>G (h.symm.trans e))]
   .have Z:(g==k)=false:=ye.mpr h
    simp only[List.lookup,Z];exact U
theorem Qg(f:Str)(v:V):∀fs:List (Str×V),f∈(G8 f v fs).map (·.1)/\∀g,g∈fs.map (·.1)->g∈(G8 f v fs).map (·.1)
 |[]=>⟨by simp[G8],λg h=>by simp at h⟩
 |(k,x)::r=>by
  obtain⟨G,U⟩:=Qg f v r;rw[show G8 f v ((k,x)::r)=(if k=f then(k,v)::r else(k,x)::G8 f v r) from rfl]
  by_cases Z:k=f
  .rw[bz Z]
   subst Z;exact⟨by simp,λg h=>by simpa using h⟩
  .rw[cj Z]
   refine⟨?_,λg h=>?_⟩
   .rw[di]
    exact bh _ G
   .rw[di] at h ⊢
    rcases dg.mp h with e|e
    .exact dg.mpr (.inl e)
    .exact bh _ (U g e)
theorem Q5(f:Str)(v:V):∀fs:List (Str×V),(G8 f v fs).length<=fs.length+1
 |[]=>by simp[G8]
 |(k,x)::r=>by
  have G:=Q5 f v r;rw[show G8 f v ((k,x)::r)=(if k=f then(k,v)::r else(k,x)::G8 f v r) from rfl]
  by_cases Z:k=f
  .rw[bz Z,d9,d9];exact x_
  .rw[cj Z,d9,d9];exact v_ G
def J7.some_of{v:V}{o:Option Value}(r:J7 (some v) o):∃u,o=some u/\RelV v u:=by
 cases o with
 |none=>exact(show False from r).elim
 |some u=>exact⟨u,rfl,r⟩
def J7.none_of{o:Option Value}(r:J7 none o):o=none:=by
 cases o with
 |none=>rfl|some u=>exact(show False from r).elim
def ahd{v:V}{u:Value}(r:RelV v u):PySem.W.handedIn u=true:=by
 cases v with
 |non=>cases(show u=Value.none from r);rfl
 |bl b=>cases(show u=Value.bool b from r);rfl
 |int i=>obtain⟨t,e⟩:=(show ∃t,u=Value.int i t from r);cases e;rfl
 |str x=>obtain⟨t,e⟩:=(show ∃t,u=Value.str x t from r);cases e;rfl
 |byt b=>obtain⟨t,e⟩:=(show ∃t,u=Value.bytes b t from r);cases e;rfl
 |flt b=>obtain⟨t,e⟩:=(show ∃t,u=Value.float b t from r);cases e;rfl
 |ref a=>cases(show u=Value.ref a from r);rfl
 |ty n=>cases(show u=Value.type n from r);rfl
def Lj{P:Program}{w:World}{H:Hp}{h:Heap}{a C G:Addr}{fs:List (Str×V)}(U:Nj P w H h)(e:H a=some (.ins C G fs)):∃Z,ac4 h a G C Z/\(∀f,J7 (fs.lookup f) (Z f))/\PySem.Within Z (fs.map (·.1))/\fs.length<=1000/\H G=some (.own a):=by obtain⟨d,z,ne,R,Z,n,r,q⟩:=(show Ay P w H h a (.ins C G fs) from U a _ e);exact⟨Z,⟨R,n,ne⟩,r,q,z,d⟩
structure X8(K:Fg)(C:Addr):Prop where
 pg:PySem.W.plainGet K C Str.empty=true
 hd:PySem.W.hasDictIn K C=true
 po:PySem.W.plainOver K C=true
 sa:PySem.W.findIn K (.ref C) "__setattr__" = some (some (.builtin "object.__setattr__"))
def X8.get{K:Fg}{C:Addr}(c:X8 K C)(f:Str):PySem.W.plainGet K C f=true:=c.pg
def Ff(K:Fg)(C:Addr)(f:Str):Prop:=PySem.W.findIn K (.ref C) f=some none
def Ff.taker{K:Fg}{C:Addr}{f:Str}(n:Ff K C f):PySem.W.takerIn K C f=some none:=by unfold PySem.W.takerIn;rw[show PySem.W.findIn K (.ref C) f=some none from n];rfl
structure Meth(K:Fg)(C:Addr)(m:Str)(f:Addr):Prop where
 at_:PySem.W.findIn K (.ref C) m=some (some (.ref f))
 fn:PySem.W.isFn K (.ref f)=true
 kp:PySem.W.keepIn K (.ref f)=true
def ac5{X:Cx}{Z:Zp}{R:St}{H:Hp}{s:Shared}{a C dx:Addr}{fs:List (Str×V)}{f:Str}{v:V}{A:Around}{E:Y1}{b:Bool}{Q:Y1}(I:Inv X Z R H s)(e:H a=some (.ins C dx fs))(c:X8 X.K C)(n:Ff X.K C f)(l:fs.lookup f=some v)
 (h:∀u G,Inv X Z R H G->RelV v u->Q u G):wpAny (model X.prog X.w) A (getAttr (.ref a) f b) Q E s:=by
 obtain⟨mA,O,r,_,_,_⟩:=Lj I.Am e;obtain⟨u,hu,U⟩:=J7.some_of (v:=v) (o:=mA f) (by rw[<- l];exact r f);exact get_map I.kIn O (c.get f) c.hd n hu (ahd U) (h u _ (I.tok _) U)
def ac6{X:Cx}{Z:Zp}{R:St}{H:Hp}{s:Shared}{a C G:Addr}{fs:List (Str×V)}{A:Around}{E:Y1}{m:Str}{g:Addr}{U:Sem Bool}{Q:Value×List Value->Shared->Prop}(I:Inv X Z R H s)(e:H a=some (.ins C G fs))(c:X8 X.K C)(k:Meth X.K C m g)(l:fs.lookup m=none)
 (h:Q (.ref g,[.ref a]) s):wpAny (model X.prog X.w) A (getMethod (.ref a) m U) Q E s:=by
 obtain⟨mA,O,r,_,_,_⟩:=Lj I.Am e;have hn:mA m=none:=J7.none_of (by rw[<- l];exact r m);exact ak4 I.kIn O (c.get m) k.at_ k.fn hn h
def ac7{X:Cx}{Z:Zp}{σ:St}{H:Hp}{s:Shared}{a C G:Addr}{fs:List (Str×V)}{f:Str}{A:Around}{E:Y1}{y:V}{u:Value}{Q:Unit->Shared->Prop}(I:Inv X Z σ H s)(e:H a=some (.ins C G fs))(c:X8 X.K C)(n:Ff X.K C f)(hl:fs.length<1000)(ry:RelV y u)
 (h:∀R,Inv X Z σ (upd H a (.ins C G (G8 f y fs))) R->Q () R):wpAny (model X.prog X.w) A (setAttr (.ref a) f u) Q E s:=by
 obtain⟨mA,O,r,wi,_,ho⟩:=Lj I.Am e;have hz:(fs.map (·.1)).length<=sizeLine:=by rw[dh,sizeLine_eq];exact e_ (b_ hl (by decide))
 refine aps I.kIn O c.sa c.po n.taker c.hd wi hz λh' U sb=>h _ ?_
 have hd:∃o,h'.get? G=some o:=let ⟨o,_,_,e',_⟩:=U.ns;⟨o,e'⟩;refine I.write (x:=a) (e:=G) (by rw[e];exact True.intro) (.inr ho) (λb q hb z=>(sb.2 b hb).trans z) hd ?_;refine⟨by rw[lz O.ne];exact ho,?_,O.ne,U.obj,_,U.ns,λg=>?_,λg hg=>?_⟩
 .have:=Q5 f y fs;exact a_ this hl
 .show J7 ((G8 f y fs).lookup g) (if g=f then some u else mA g)
  rw[Q4]
  by_cases q:g=f
  .rw[bz q,bz q];exact ry
  .rw[cj q,cj q];exact r g
 .by_cases q:g=f
  .rw[q];exact(Qg f y fs).1
  .refine(Qg f y fs).2 g (wi g λz=>hg ?_)
   show(if g=f then some u else mA g)=none;rw[cj q];exact z
def Inv.made{X:Cx}{Z:Zp}{R:St}{H:Hp}{s:Shared}{C:Addr}(I:Inv X Z R H s):Inv X Z R (upd (upd H s.heap.objs.size (.own (s.heap.objs.size+1))) (s.heap.objs.size+1) (.ins C s.heap.objs.size []))
 { s with heap:=(s.heap.push PySem.W.emptyDict).push (PySem.W.instObj C s.heap.objs.size) }:=by
 have G:(s.heap.push PySem.W.emptyDict).get? s.heap.objs.size=some PySem.W.emptyDict:=bu s.heap rfl;have e2:((s.heap.push PySem.W.emptyDict).push (PySem.W.instObj C s.heap.objs.size)).get? (s.heap.objs.size+1)=some (PySem.W.instObj C s.heap.objs.size):=by
  have:=bu (s.heap.push PySem.W.emptyDict) (o:=PySem.W.instObj C s.heap.objs.size) rfl
  rwa [ju] at this
 have e3:(s.heap.push PySem.W.emptyDict).Ns s.heap.objs.size (λ_=>none):=⟨PySem.W.emptyDict,#[],_,G,rfl,(λe he=>absurd he (by simp)),λ_=>rfl⟩;have I1:=I.laid (a:=s.heap.objs.size) (o:=.own (s.heap.objs.size+1)) (h':=s.heap.push PySem.W.emptyDict) (t':=s.toks) (λb u q=>aq _ q) (bc _) ⟨_,G⟩;refine I1.laid (a:=s.heap.objs.size+1) (o:=.ins C s.heap.objs.size []) (t':=s.toks) (λb u q=>aq _ q) (Nat.le_of_eq (ju _ _)) ?_;have U:s.heap.objs.size≠s.heap.objs.size+1:=ie (ud _);refine⟨by rw[lz U,uf],iy _,U,e2,λ_=>none,(Heap.Ns1.of_empty e3).at λo q=>aq _ q,λ_=>True.intro,λy hy=>absurd rfl hy⟩
def apt{A:Around}{E:Y1}{prog:Program}{w:World}{Z:Env}{e:Expr}{f:Str}{U:Pos}{s:Shared}{Q:Y1}(R:attributeBase e f Z (eval e Z)=eval e Z)
 (h:wpAny (model prog w) A (eval e Z) (λo G=>wpAny (model prog w) A (getAttr o f true) Q E G) E s):wpAny (model prog w) A (eval (.Attribute e f U) Z) Q E s :=
 Attribute_any_ h (by rw[arm_eval_Attribute,R])
def a8w(K:Fg)(U:TE)(f:Str):TE:=λG H Q=>U G H λx Z=>∃a C R fs v,x=.ref a/\Z a=some (.ins C R fs)/\X8 K C/\Ff K C f/\fs.lookup f=some v/\Q v Z
def a8x(K:Fg)(ta tv:TE)(f:Str):TS:=λD Z H=>tv Z H λy R=>ta Z R λx U=>∃a C G fs,x=.ref a/\U a=some (.ins C G fs)/\X8 K C/\Ff K C f/\fs.length<1000 /\
 D.nx Z (upd U a (.ins C G (G8 f y fs)))
def awl{X:Cx}{e:Expr}{f:Str}{G:Pos}{U:TE}(he:PE X e U)(hb:attributeBase e f X.env (eval e X.env)=eval e X.env):PE X (.Attribute e f G) (a8w X.K U f):=by intro Z s σ H Q I h;refine apt hb (Bf (he Z s σ H _ I h) λu s1 z_=>?_);obtain⟨x,H1,I1,R,a,C,dx,fs,v,ex,ea,c,n,l,q⟩:=z_;subst ex;obtain rfl:u=Value.ref a:=R;exact ac5 I1 ea c n l λu' s2 I2 ru=>⟨v,H1,I2,ru,q⟩
def awm{X:Cx}{o Z:Expr}{f:Str}{R U:Pos}{ta tv:TE}(ha:PE X o ta)(hv:PE X Z tv)(hs:swapsWith Z (some (.Attribute o f U)) R.line X.env=pure false):PS X (.Assign [.Attribute o f U] Z R) (a8x X.K ta tv f):=by intro G s σ H D I h;refine plainObj_wpAny_Assign_Attribute (Bf (hv G s σ H _ I h) λu s1 ⟨y,H1,I1,ry,q⟩=>Bf (ha G s1 σ H1 _ I1 q) λov s2 ⟨x,H2,I2,rx,a,C,dx,fs,ex,ea,c,n,l,q2⟩=>?_) hs;subst ex;obtain rfl:ov=Value.ref a:=rx;exact ac7 I2 ea c n l ry λs3 I3=>⟨σ,_,I3,q2⟩
end L2
namespace L2
open PySem PySem.Spec PyProof.Rows
structure Ac(k:Nat)(A:Around):Prop where
 hd:A.handled=none
 dp:A.depth+3*k+5<recursionLimit
 un:A.units+16*k+200<cLine
def Ac.mono{j k:Nat}{A:Around}(r:Ac k A)(h:j<=k):Ac j A:=⟨r.hd,by have:=r.dp;lia,by have:=r.un;lia⟩
theorem Ac.deeper{k:Nat}{A:Around}(r:Ac (k+1) A)(Z:Env):Ac k (A.deeper Z) :=
 ⟨r.hd,by have:=r.dp;show A.depth+1+3*k+5<_;lia,by have:=r.un;show A.units+3+16*k+200<_;lia⟩
theorem Ac.in1{k:Nat}{A:Around}(r:Ac (k+1) A):Ac k A.in1 :=
 ⟨r.hd,by have:=r.dp;show A.depth+3*k+5<_;lia,by have:=r.un;show A.units+1+16*k+200<_;lia⟩
def ac8{A:Around}{C:Addr}{G:Zl}{Z:List (Str×Value)}:(A.under (.builtin "type.__call__" ⟨.ref C::G,Z⟩)).depth=A.depth+1:=by first|rfl|simp[Around.under,Code.weight,Code.isCreation,Code.isGuard,Code.isCaller,Code.frames,Code.isFrame,guardIds]
def ac9{A:Around}{C:Addr}{G:Zl}{Z:List (Str×Value)}:(A.under (.builtin "type.__call__" ⟨.ref C::G,Z⟩)).units=A.units+1:=by first|rfl|simp[Around.under,Code.cUnits,Code.frames,Code.isFrame]
def Ac.make{k:Nat}{A:Around}(r:Ac (k+1) A)(C:Addr)(G:Zl)(Z:List (Str×Value)):Ac k (A.under (.builtin "type.__call__" ⟨.ref C::G,Z⟩)) :=
 ⟨r.hd,by have:=r.dp;rw[ac8];lia,by have:=r.un;rw[ac9];lia⟩
theorem Ac.depth{k:Nat}{A:Around}(r:Ac k A):A.depth<recursionLimit:=by have:=r.dp;lia
theorem Ac.units{k:Nat}{A:Around}(r:Ac k A):A.units+64<cLine:=by have:=r.un;lia
def Ac.K9{k:Nat}{A:Around}(r:Ac k A):A.units<cLine:=by have:=r.un;lia
def a1e:TA:=λ_ H Q=>Q [] H
def a1f(R:TE)(tr:TA):TA:=λZ H Q=>R Z H λx G=>tr Z G λU H2=>Q (x::U) H2
def awn{X:Cx}:PA X [] a1e:=λ_ _ _ _ H Q I h=>Calls.spliced_nil ⟨[],H,I,.nil,h⟩
def apu{X:Cx}{e:Expr}{U:Ya}{R:TE}{t:TA}(ha:PE X e R)(hr:PA X U t)(hs:starEach (e::U) X.env=(false,eval e X.env)::starEach U X.env:=by rfl):PA X (e::U) (a1f R t):=by intro G Z s σ H Q I h;rw[hs];show wpAny _ _ (spliced ((false,eval e X.env)::backTo G (starEach U X.env))) _ _ s;refine Calls.spliced_cons (Bf (ha Z s σ H _ I h) λu s1 z_=>?_);obtain⟨x,H1,I1,r1,q1⟩:=z_;exact Bf (hr G Z s1 σ H1 _ I1 q1) λus s2 ⟨xs,H2,I2,r2,q2⟩=>⟨x::xs,H2,I2,.cons r1 r2,q2⟩
def a8y(t:TA):TE:=λU H Q=>t U H λZ G=>Z.length<=sizeLine/\∀p,G p=none->Q (.ref p) (upd G p (.tup Z))
def a8z(t:TA):TE:=λU H Q=>t U H λZ G=>Z.length<=sizeLine/\∀p,G p=none->Q (.ref p) (upd G p (.lst Z))
def awo{X:Cx}{R:Ya}{t:TA}{Z:Pos}{x1}(h:PA X R t):PE X (.Tuple R x1 Z) (a8y t):=by intro G s σ H Q I hq;refine wpAny_Tuple_spliced (Bf (h Z G s σ H _ I hq) λus U ⟨xs,H1,I1,r,z,q⟩=>⟨by rw[<- r.length];exact z,?_⟩);have hf:H1 U.heap.objs.size=none:=I1.Am.fresh (bc _);refine⟨.ref U.heap.objs.size,upd H1 U.heap.objs.size (.tup xs),I1.laid (t':=U.toks) (λb u e=>aq _ e) (bc _) ?_,rfl,q _ hf⟩;exact⟨z,us,r,Vs.new _ _⟩
def ak6{X:Cx}{R:Ya}{t:TA}{Z:Pos}(h:PA X R t):PE X (.List R Z) (a8z t):=by intro G s σ H Q I hq;refine wpAny_List_spliced (Bf (h Z G s σ H _ I hq) λus U ⟨xs,H1,I1,r,z,q⟩=>⟨by rw[<- r.length];exact z,?_⟩);have hf:H1 U.heap.objs.size=none:=I1.Am.fresh (bc _);refine⟨.ref U.heap.objs.size,upd H1 U.heap.objs.size (.lst xs),I1.laid (t':=U.toks) (λb u e=>aq _ e) (bc _) ?_,rfl,q _ hf⟩;exact⟨z,us,0,r,bu _ rfl⟩
abbrev Sp:=List V->Hp->VK->XK->Prop
abbrev CXT:=List Env->Hp->Shared->XK->Value->Shared->Prop
structure ada(P:Program)(w:World)(K:Fg)(mg:Zs)(base:Heap)(A:Around)(outer:List Env)(s:Shared)(H:Hp):Prop where
 frames:A.frames=some outer
 mod:Mod K mg base
 bs:∀b o,base.get? b=some o->s.heap.get? b=some o/\H b=none
 bsz:base.objs.size<=s.heap.objs.size
 Ri:s.heap.FunFrames base outer
 frf:∀b∈frs outer,H b=none
 Am:Nj P w H s.heap
 bare:AllBare s.gens
def CE(Z:List Env)(P:Program)(w:World)(H:Hp)(s:Shared)(Q:VK)(u:Value)(G:Shared):Prop :=
 ∃v U,G.os=s.os/\AllBare G.gens/\Un (frs Z) [] H U s.heap G.heap/\Nj P w U G.heap/\RelV v u/\Q v U
def CR(U:CXT)(Z:List Env)(P:Program)(w:World)(H:Hp)(s:Shared)(Q:VK)(E:XK)(r:Result)(G:Shared):Prop :=
 match r with
 |.ok (.ret u)=>CE Z P w H s Q u G|.ok _=>False|.error e=>U Z H s E e G
structure Fi(P:Program)(w:World)(K:Fg)(mg:Zs)(base:Heap)(CX:CXT)(k:Nat)(f:Addr)(fd:FuncData)(ps:Yf)(sp:Sp):Prop where
 len:∀vs H Q E,sp vs H Q E->vs.length=ps.length
 run:∀(A:Around)(outer:List Env)(s:Shared)(H:Hp)(args:Args)(us:Zl)(vs:List V)(Q:VK)(E:XK),Ac k A->ada P w K mg base A outer s H->BindsTo s fd args (ps.zip us)->Vals vs us->sp vs H Q E ->
  codeAny (model P w) A (.call (.ref f) args) (CR CX outer P w H s Q E) s
def Fi.imp{P:Program}{w:World}{K:Fg}{mg:Zs}{Z:Heap}{CX:CXT}{k:Nat}{f:Addr}{fd:FuncData}{ps:Yf}{sp sp':Sp}(F:Fi P w K mg Z CX k f fd ps sp)
 (h:∀U H Q E,sp' U H Q E->sp U H Q E):Fi P w K mg Z CX k f fd ps sp' :=
 ⟨λU H Q E q=>F.len U H Q E (h _ _ _ _ q),λA G s H R us U Q E hr he hb hv hs=>F.run A G s H R us U Q E hr he hb hv (h _ _ _ _ hs)⟩
def ada.make{P:Program}{w:World}{K:Fg}{mg:Zs}{G:Heap}{A:Around}{Z:List Env}{s:Shared}{H:Hp}(e:ada P w K mg G A Z s H)(C:Addr)(R:Zl)(U:List (Str×Value)) :
 ada P w K mg G (A.under (.builtin "type.__call__" ⟨.ref C::R,U⟩)) Z s H:=⟨by first|exact e.frames|(simpa[Around.under,Code.envs,Code.isFrame,pushEnvs] using e.frames),e.mod,e.bs,e.bsz,e.Ri,e.frf,e.Am,e.bare⟩
def Inv.env0{X:Cx}{Z:Zp}{G:St}{H:Hp}{s:Shared}(I:Inv X Z G H s):ada X.prog X.w X.K X.mg X.base X.A X.stack s H :=
 ⟨I.ok.frames,I.ok.mod,I.bs,az I.ok.bsz I.sz,I.stack,I.ae7,I.Am,I.bare⟩
def Inv.after{X:Cx}{Z:Zp}{R:St}{H:Hp}{s s':Shared}{Q:VK}{u:Value}(I:Inv X Z R H s)(h:CE X.stack X.prog X.w H s Q u s'):EP X Z R Q u s':=by obtain⟨v,H',os,G,un,Am,r,q⟩:=h;obtain⟨hh,g,d,t,U⟩:=s';obtain rfl:U=s.os:=os;exact⟨v,H',I.call (h':=hh) (g':=g) (d':=d) (t':=t) (ch:=[]) un Am G (λb z=>absurd z (by simp)),r,q⟩
def a1g(sp:Sp)(U:List V)(E:XK)(t:TA):TE:=λR H Q=>t R H λG Z=>sp (G++U) Z Q E
def a1h(C:Addr)(m:Str)(sp:Sp)(Ut:List V)(E:XK)(ta:TE)(t:TA):TE:=λG H Q=>ta G H λx Z=>∃a U fs,x=.ref a/\Z a=some (.ins C U fs)/\fs.lookup m=none /\
 t G Z λR H2=>sp (x::(R++Ut)) H2 Q E
def a1i(C:Addr)(sp:Sp)(R:List V)(E:XK)(t:TA):TE:=fun σ H Q=>t σ H λU G=>∀x Z,G x=none->G Z=none->Z≠x ->
 sp (.ref x::(U++R)) (upd (upd G Z (.own x)) x (.ins C Z [])) (λv H2=>v=.non/\Q (.ref x) H2) E
def Binds(K:Fg)(R:FuncData)(U:Yf)(G:Zl):Prop :=
 ∀(s:Shared)(Z:Zl),K.In s.heap->(Z++G).length=U.length->BindsTo s R ⟨Z,[]⟩ (U.zip (Z++G))
def Binds.all{K:Fg}{R:FuncData}{G:Yf}(h:∀Z:List Value,Z.length=G.length->bindArgs R ⟨Z,[]⟩=pure (G.zip Z)):Binds K R G []:=λs Z _ U=>by rw[Ae] at U ⊢;exact .of_eq (h Z U)
def Passes(R:CXT)(X:Cx)(E:XK):Prop:=∀(Z:Zp)(U:St)(H:Hp)(s:Shared)(e:Value)(G:Shared),Inv X Z U H s->R X.stack H s E e G->X.xe e G
def ak7{X:Cx}{CX:CXT}{k:Nat}{f:Addr}{fd:FuncData}{ps:Yf}{sp:Sp}{R:List V}{U:Zl}{E:XK}{Z:Zp}{σ:St}{H:Hp}{s:Shared}{Q:VK}{us:Zl}{vs:List V}(F:Fi X.prog X.w X.K X.mg X.base CX k f fd ps sp)(hr:Ac k X.A)(hb:Binds X.K fd ps U)(hd:Vals R U)(hx:Passes CX X E)
 (I:Inv X Z σ H s) (r:Vals vs us) (h:sp (vs++R) H Q E):wpAny (model X.prog X.w) X.A (call (.ref f) us) (EP X Z σ Q) X.xe s:=by
 have r2:Vals (vs++R) (us++U):=r.append hd;have hl:(us++U).length=ps.length:=by rw[<- r2.length];exact F.len _ _ _ _ h
 refine wpAny_call (codeAny_mono (F.run X.A X.stack s H ⟨us,[]⟩ (us++U) (vs++R) Q E hr I.env0 (hb s us I.kIn hl) r2 h) λr s' G=>?_);cases r with
 |error e=>exact hx Z σ H s e s' I G
 |ok fl =>
  cases fl with
  |ret u=>exact I.after G|next=>exact False.elim G|brk=>exact False.elim G|cont=>exact False.elim G
def apv{X:Cx}{CX:CXT}{k:Nat}{f:Addr}{fd:FuncData}{ps:Yf}{sp:Sp}{Ut:List V}{R:Zl}{E:XK}{x:Str}{p Z:Pos}{e:Expr}{U:Ya}{t:TA}(F:Fi X.prog X.w X.K X.mg X.base CX k f fd ps sp)(hr:Ac k X.A)(hg:Gl X x)(hm:X.mg x=some (.ref f))(hk:PySem.W.keepIn X.K (.ref f)=true)(hb:Binds X.K fd ps R)(hd:Vals Ut R)(hx:Passes CX X E)
 (ha:PA X (e::U) t) (Yq:(x==("__debug__" : Str))=false:=by decide) (he:starEach (e::U) X.env=(false,eval e X.env)::starEach U X.env:=by rfl) (Lp:(backTo Z (starEach U X.env)).any (·.1)=false:=by rfl) :
 PE X (.Call (.Name x p) (e::U) [] Z) (a1g sp Ut E t):=by
 intro G s σ H Q I h;refine o4 (Yn I hg hm ?_ Yq);refine PySem.W.callWith_K (h₀:=X.base) I.ok.mod.kin hk (Bf (ha Z G s σ H _ I h) λus s1 ⟨vs,H1,I1,r,q⟩=>⟨I1.kIn,?_⟩) he Lp;exact ak7 F hr hb hd hx I1 r q
def apw{X:Cx}{CX:CXT}{k:Nat}{f C:Addr}{fd:FuncData}{ps:Yf}{sp:Sp}{Ut:List V}{ds:Zl}{E:XK}{m:Str}{Z G:Pos}{e o:Expr}{R:Ya}{ta:TE}{t:TA}{pl:Sem Bool}(he:PE X o ta)(c:X8 X.K C)(hm:Meth X.K C m f)(F:Fi X.prog X.w X.K X.mg X.base CX k f fd ps sp)(hr:Ac k X.A)(hb:Binds X.K fd ps ds)(hd:Vals Ut ds)(hx:Passes CX X E)(ha:PA X (e::R) t)
 (Vp:starEach (e::R) X.env=(false,eval e X.env)::starEach R X.env:=by rfl) (Lp:(backTo Z (starEach R X.env)).any (·.1)=false:=by rfl)
 (ht:eval (.Call (.Attribute o m G) (e::R) [] Z) X.env=(do
  let ov <- eval o X.env
  standAt G.atName
  let (f,first) <- holding [ov] (getMethod ov m pl)
  callWith Z f first (backTo Z (starEach (e::R) X.env)) (backToKw Z (keywordEach [] X.env))):=by rfl) :
 PE X (.Call (.Attribute o m G) (e::R) [] Z) (a1h C m sp Ut E ta t):=by
 intro U s σ H Q I h;refine PySem.W.methodCall_KW (pl:=pl) (Bf (he U s σ H _ I h) λu s1 ⟨x,H1,I1,rx,a,dx,fs,ex,ea,l,q⟩=>?_) ht;subst ex;obtain rfl:u=Value.ref a:=rx;refine ac6 I1 ea c hm l ?_;refine PySem.W.callWith_K (first:=[.ref a]) (h₀:=X.base) I.ok.mod.kin hm.kp (Bf (ha Z U s1 σ H1 _ I1 q) λus s2 ⟨vs,H2,I2,r,q2⟩=>⟨I2.kIn,?_⟩) Vp Lp;exact ak7 (us:=.ref a::us) (vs:=.ref a::vs) F hr hb hd hx I2 (.cons rfl r) q2
structure Mk(K:Fg)(C f:Addr):Prop where
 makes:PySem.W.makesIn K C=true
 init:PySem.W.findIn K (.ref C) "__init__" = some (some (.ref f))
 fn:PySem.W.isFn K (.ref f)=true
 kp:PySem.W.keepIn K (.ref C)=true
def ak8{X:Cx}{CX:CXT}{k:Nat}{f C:Addr}{fd:FuncData}{ps:Yf}{sp:Sp}{Ut:List V}{U:Zl}{E:XK}{G:Zp}{σ:St}{H:Hp}{s:Shared}{Q:VK}{us:Zl}{vs:List V}(M:Mk X.K C f)(F:Fi X.prog X.w X.K X.mg X.base CX k f fd ps sp)(hr:Ac (k+1) X.A)(hb:Binds X.K fd ps U)(hd:Vals Ut U)
 (hx:Passes CX X E) (I:Inv X G σ H s) (r:Vals vs us)
 (h:∀x R,H x=none->H R=none->R≠x->sp (.ref x::(vs++Ut)) (upd (upd H R (.own x)) x (.ins C R [])) (λv H2=>v=.non/\Q (.ref x) H2) E) :
 wpAny (model X.prog X.w) X.A (call (.ref C) us) (EP X G σ Q) X.xe s:=by
 have hq:=h (s.heap.objs.size+1) s.heap.objs.size (I.Am.fresh (n6 _)) (I.Am.fresh (bc _)) (ie (ud _));have I2:=Inv.made (C:=C) I;have r2:Vals (V.ref (s.heap.objs.size+1)::(vs++Ut)) (Value.ref (s.heap.objs.size+1)::(us++U)):=.cons rfl (r.append hd);have hl:(Value.ref (s.heap.objs.size+1)::us++U).length=ps.length:=by have e:=r2.length;rw[F.len _ _ _ _ hq] at e;exact e.symm
 refine wpAny_call (ak5 (f:=f) I.kIn M.makes M.init (beq_iff_eq.mp M.fn) (codeAny_mono (F.run _ X.stack _ _ ⟨Value.ref (s.heap.objs.size+1)::us,[]⟩ (Value.ref (s.heap.objs.size+1)::(us++U)) _ _ E (hr.make C us [])
  (I2.env0.make C us []) (hb _ (Value.ref (s.heap.objs.size+1)::us) I2.kIn hl) r2 hq) λr s' Z=>?_))
 cases r with
 |error e=>exact hx G σ _ _ e s' I2 Z
 |ok fl =>
  cases fl with
  |ret u =>
   obtain⟨v,H',I3,rv,ev,q3⟩:=I2.after Z;subst ev;exact⟨rv,⟨V.ref (s.heap.objs.size+1),H',I3,rfl,q3⟩⟩
  |next=>exact False.elim Z|brk=>exact False.elim Z|cont=>exact False.elim Z
def ak9{X:Cx}{G:CXT}{k:Nat}{f C:Addr}{U:FuncData}{R:Yf}{sp:Sp}{Ut:List V}{ds:Zl}{E:XK}{x:Str}{p Z:Pos}(M:Mk X.K C f)(F:Fi X.prog X.w X.K X.mg X.base G k f U R sp)(hr:Ac (k+1) X.A)(hg:Gl X x)(hm:X.mg x=some (.ref C))(hb:Binds X.K U R ds)(hd:Vals Ut ds)(hx:Passes G X E)
 (Yq:(x==("__debug__" : Str))=false:=by decide):PE X (.Call (.Name x p) [] [] Z) (a1i C sp Ut E a1e):=by
 intro qq s σ H Q I h;refine o4 (Yn I hg hm ?_ Yq);exact PySem.W.callWith_K0 I.kIn M.kp (ak8 (us:=[]) M F hr hb hd hx I .nil h)
structure Sh(N P:Yf)(sc:Scope):Prop where
 kind:sc.kind=.function
 co:sc.isCoroutine=false
 gen:sc.isGenerator=false
 nd:N.Nodup
 pre:N.take P.length=P
 par:∀x∈P,sc.names.lookup x=some .local\/sc.names.lookup x=some .cell
 awp:∀y∈sc.names,y.2≠.free
theorem Wt{Z:Str->Option NameKind}{x:Str}:∀{binds:List (Str×Value)}{m:Zs},(∀v,(x,v)∉binds)->bindL Z binds m x=m x
 |[],_,_=>rfl
 |(n,v)::r,m,h=>by
  unfold bindL;rw[Wt λw hw=>h w (bh _ hw)];split
  .have:x≠n:=by rintro rfl;exact h v bx
   simp[this]
  .rfl
theorem Wv{Z:Str->Option NameKind}{x:Str}:∀{binds:List (Str×Value)}{m:Zs},(∀v,(x,v)∉binds)->bindC Z binds m x=m x
 |[],_,_=>rfl
 |(n,v)::r,m,h=>by
  unfold bindC;rw[Wv λw hw=>h w (bh _ hw)];split
  .rfl
  .have:x≠n:=by rintro rfl;exact h v bx
   simp[this]
theorem Wx{Z:Str->Option NameKind}{x:Str}{v:Value}:∀{P:Yf}{G:Zl}{i:Nat}{m:Zs},P.Nodup->P[i]?=some x->G[i]?=some v->Z x=some .local ->
 bindL Z (P.zip G) m x=some v
 |[],_,_,_,_,h,_,_=>by simp at h|_::_,[],_,_,_,_,h,_=>by simp at h
 |p::P,w::G,0,m,nd,h1,h2,hk=>by
  simp at h1 h2;subst h1;subst h2;show bindL Z ((p,w)::P.zip G) m p=_;unfold bindL;rw[Wt λv U=>(o9.mp nd).1 (v9 U).1,bz hk];simp
 |p::P,w::G,i+1,m,nd,h1,h2,hk=>by
  show bindL Z ((p,w)::P.zip G) m x=_;unfold bindL;exact Wx (i:=i) (o9.mp nd).2 (by simpa using h1) (by simpa using h2) hk
theorem Wz{Z:Str->Option NameKind}{x:Str}{v:Value}:∀{P:Yf}{G:Zl}{i:Nat}{m:Zs},P.Nodup->P[i]?=some x->G[i]?=some v->Z x≠some .local ->
 bindC Z (P.zip G) m x=some v
 |[],_,_,_,_,h,_,_=>by simp at h|_::_,[],_,_,_,_,h,_=>by simp at h
 |p::P,w::G,0,m,nd,h1,h2,hk=>by
  simp at h1 h2;subst h1;subst h2;show bindC Z ((p,w)::P.zip G) m p=_;unfold bindC;rw[Wv λv U=>(o9.mp nd).1 (v9 U).1,cj hk];simp
 |p::P,w::G,i+1,m,nd,h1,h2,hk=>by
  show bindC Z ((p,w)::P.zip G) m x=_;unfold bindC;exact Wz (i:=i) (o9.mp nd).2 (by simpa using h1) (by simpa using h2) hk
noncomputable def start(N:Yf)(Z:List V):St:=Z.map some++List.replicate (N.length-Z.length) none
noncomputable def adb(CX:CXT)(P:Program)(w:World)(K:Fg)(mg:Zs)(base:Heap)(N:Yf)(G:Str)(Z:Scope)(f:Addr)(R:Value)(A:Around)(outer:List Env)(s:Shared)(H:Hp)(E:XK):Cx where
 prog:=P
 w:=w
 K:=K
 mg:=mg
 base:=base
 A:=A.deeper (envOfC G Z s.heap.objs.size f R)
 N:=N
 s₀:=s
 H₀:=H
 env:=envOfC G Z s.heap.objs.size f R
 outer:=outer
 stack:=envOfC G Z s.heap.objs.size f R::outer
 ex:=[]
 calm:=true
 fn:=λ_=>true
 pn:=[]
 xe:=λe s'=>wpAny (model P w) (A.deeper (envOfC G Z s.heap.objs.size f R)) (leaving (envOfC G Z s.heap.objs.size f R) e) (λ_ U=>CX outer H s E e U) (λe' U=>CX outer H s E e' U) s'
def aas{Z:Scope}{n:Nat}{x:Str}(h:Z.names.lookup x=some .cell):∃c,(cellsFrom n Z.names []).lookup x=some c:=by have q:=PySem.W.cellsFrom_some Z.names n [] (.inl h);exact j9.mp q
def ahe{CX:CXT}{P:Program}{w:World}{K:Fg}{mg:Zs}{qq:Heap}{N ps:Yf}{U:Str}{Z:Scope}{f:Addr}{cd:Value}{A:Around}{G:List Env}{s s1:Shared}{H:Hp}{E:XK}{us:Zl}{vs:List V}
 (S:Sh N ps Z) (hd:A.handled=none) (e0:ada P w K mg qq A G s H) (hl:vs.length=ps.length) (r:Vals vs us)
 (x:InCallC s s.heap.objs.size (bindL (envOfC U Z s.heap.objs.size f cd).kindOf (ps.zip us) λ_=>none) (cellsFrom (s.heap.objs.size+1) Z.names []) (bindC (envOfC U Z s.heap.objs.size f cd).kindOf (ps.zip us) λ_=>none) s1) :
 Inv (adb CX P w K mg qq N U Z f cd A G s H E) [] (start N vs) H s1:=by
 have Lp:ps.length<=N.length:=by have:=mz List.length S.pre;rw[List.length_take] at this;lia
 obtain⟨h1,tk,rfl,hk⟩:=x.done;have qk:∀b:Addr,b∉(adb CX P w K mg qq N U Z f cd A G s H E).ex:=λb z=>absurd (show b∈([]:X1) from z) (by simp)
 refine⟨⟨e0.mod,S.kind,rfl,rfl,bc _,λy z c h1 R=>?_,λy hy=>?_,λy c _ h=>?_,λ_=>hd,Around.frames_deeper e0.frames,.inr ⟨rfl,rfl⟩,λb z=>absurd z (qk b),e0.bs,e0.bsz,λb _ _=>qk b,λb z=>absurd z (qk b),e0.Ri,e0.frf⟩,
  rfl,e0.bare,Un.kept hk,⟨_,x.toInCall.ns,λi y v h1 R h3=>?_⟩,λy c h=>⟨_,x.cell y c h⟩,e0.Am.fresh (bc _),λy c h=>?_,λp hp=>absurd (show p∈([]:Zp) from hp) (by simp),e0.Am.kept hk,?_⟩
 .exact name_of_addr x.apart (yc h1) (yc R)
 .have hy:Z.names.lookup y=some .cell\/Z.names.lookup y=some .free:=hy
  rcases hy with hy|hy
  .exact aas hy
  .exact absurd rfl (S.awp _ (yc hy))
 .exact vq (x.above y c (yc h))
 .have hi:i<vs.length:=by
   unfold start at R
   by_cases hi:i<vs.length
   .exact hi
   .rw[p8 (by simpa using hi)] at R
    rw[List.getElem?_replicate] at R;split at R<;>cases R
  have ha:vs[i]?=some v:=by
   unfold start at R;rw[gb (by simpa using hi),iu] at R;cases e:vs[i]? with
   |none=>rw[e] at R;cases R|some a=>rw[e] at R;cases R;rfl
  obtain⟨u,hu,rv⟩:=r.get ha;have hp:ps[i]?=some y:=by rw[<- S.pre,List.getElem?_take_of_lt (b_ hi (f_ hl))];exact h1
  have qv:ps.Nodup:=by rw[<- S.pre];exact S.nd.sublist (List.take_sublist _ _)
  refine⟨u,rv,?_⟩;rcases S.par y (au hp) with k|k
  .exact .inl ⟨k,Wx qv hp hu k⟩
  .obtain⟨c,e⟩:=aas (n:=s.heap.objs.size+1) k
   refine .inr ⟨.inl k,c,e,?_⟩;have q:=x.cell y c e;rw[Wz qv hp hu (by show Z.names.lookup y≠_;rw[k];decide)] at q;exact q
 .exact e0.Am.fresh (vq (x.above y c (yc h)))
 .unfold start
  show _=N.length;rw[jd,dh,List.length_replicate]
  lia
def a1l{CX:CXT}{P:Program}{w:World}{K:Fg}{mg:Zs}{qq:Heap}{k:Nat}{f:Addr}{q1 U:Str}{qk:Arguments}{qv:List Stmt}{Z:Scope}{dV kV q3 pm R ct oc:Value}{an od:Option Addr}
 {q4:Array (Option Value)} {N ps:Yf} {sp:Sp} (lk:K.lookup f=some ⟨oc,od,.func (PySem.W.fnOf q1 U qk qv Z dV kV q3 pm an R ct),q4⟩) (zz:PySem.W.codeIn K R U=true) (S:Sh N ps Z)
 (len:∀vs H Q E,sp vs H Q E->vs.length=ps.length)
 (q5:∀(A:Around)(G:List Env)(s:Shared)(H:Hp)(vs:List V)(Q:VK)(E:XK),Ac k (A.deeper (envOfC U Z s.heap.objs.size f R))->sp vs H Q E ->
  ∃t,Ox (adb CX P w K mg qq N U Z f R A G s H E) qv t/\t { nx:=λ_ H'=>Q .non H',rt:=Q } (start N vs) H) :
 Fi P w K mg qq CX (k+1) f (PySem.W.fnOf q1 U qk qv Z dV kV q3 pm an R ct) ps sp:=by
 refine⟨len,λA G s H zk us vs Q E hr e0 hb r q2=>?_⟩;have hl:=len _ _ _ _ q2;have KX:K.In s.heap:=e0.mod.kin.keeps λb o e=>(e0.bs b o e).1
 have q6:s.heap.NoLimit:=e0.mod.nolimit.keeps λb o e=>(e0.bs b o e).1
 have q7:∀y∈ps.zip us,Z.names.lookup y.1=some .local\/(Z.names.lookup y.1=some .cell/\((cellsFrom (s.heap.objs.size+1) Z.names []).lookup y.1).isSome=true):=λ⟨n,v⟩ hy=>by
  rcases S.par n (v9 hy).1 with q|q
  .exact .inl q
  .exact .inr ⟨q,PySem.W.cellsFrom_some _ _ _ (.inl q)⟩
 refine codeAny_call_function hr.depth (KX _ _ lk) rfl S.co S.gen rfl (PySem.W.codeRec_of KX zz) (hb _ _ _ _ ?_);refine wpAny_newFunctionEnv_cells S.kind q7 λzv he s1 x=>?_
 subst he;refine⟨q6.keeps x.toInCall.keep,codeAny_func ?_⟩;obtain⟨t,ht,hq⟩:=q5 A G s H vs Q E (hr.deeper _) q2;have I:Inv (adb CX P w K mg qq N U Z f R A G s H E) [] (start N vs) H s1:=ahe S hr.hd e0 hl r x;refine m8 (ht [] s1 (start N vs) H _ I hq) (λfl s' hs=>?_) λe s' hs=>hs
 have fin:∀{q0:St}{H':Hp}{v:V}{u:Value},Inv (adb CX P w K mg qq N U Z f R A G s H E) [] q0 H' s'->RelV v u->Q v H'->CE G P w H s Q u s' :=
  fun{q0 H' v u} J rv q=>⟨v,H',J.os,J.bare,J.base,J.Am,rv,q⟩
 cases fl with
 |ret u =>
  obtain⟨v,q0,H',J,rv,q⟩:=hs;exact fin J rv q
 |next =>
  obtain⟨q0,H',J,q⟩:=hs;exact fin (v:=V.non) (u:=Value.none) J rfl q
 |brk =>
  obtain⟨_,_,_,q⟩:=hs;exact False.elim q
 |cont =>
  obtain⟨_,_,_,q⟩:=hs;exact False.elim q
end L2
namespace L2
open PySem PySem.Spec PyProof.Rows
def tCB(r:List V->Hp->VK->Prop)(t:TA):TE:=λG H Q=>t G H λZ U=>r Z U Q
def alb{X:Cx}{x:Str}{p G:Pos}{e:Expr}{U:Ya}{t:TA}{id:String}{r:List V->Hp->VK->Prop}(hc:Br X (.builtin id) r)(hg:Gl X x)(hm:X.mg x=none)(hv:bootBuiltins x=some (.builtin id))(ha:PA X (e::U) t)(hn:x≠"__name__" := by decide)(Yq:(x==("__debug__" : Str))=false:=by decide)
 (he:starEach (e::U) X.env=(false,eval e X.env)::starEach U X.env:=by rfl) (Lp:(backTo G (starEach U X.env)).any (·.1)=false:=by rfl):PE X (.Call (.Name x p) (e::U) [] G) (tCB r t):=by
 intro Z s R H Q I h;refine o4 (Jq I hg hm hv ?_ hn Yq);exact xg (Bf (ha G Z s R H _ I h) λus s1 ⟨vs,H1,I1,r1,q1⟩=>hc Z s1 R H1 vs us Q I1 r1 q1) he Lp
def ahf{X:Cx}{x:Str}{p G:Pos}{e:Expr}{U:Ya}{t:TA}{T:String}{r:List V->Hp->VK->Prop}(hc:Br X (.type T) r)(hg:Gl X x)(hm:X.mg x=none)(hv:bootBuiltins x=some (.type T))(ha:PA X (e::U) t)(hn:x≠"__name__" := by decide)(Yq:(x==("__debug__" : Str))=false:=by decide)
 (he:starEach (e::U) X.env=(false,eval e X.env)::starEach U X.env:=by rfl) (Lp:(backTo G (starEach U X.env)).any (·.1)=false:=by rfl):PE X (.Call (.Name x p) (e::U) [] G) (tCB r t):=by
 intro Z s R H Q I h;refine o4 (Jq I hg hm hv ?_ hn Yq);exact qy (Bf (ha G Z s R H _ I h) λus s1 ⟨vs,H1,I1,r1,q1⟩=>hc Z s1 R H1 vs us Q I1 r1 q1) he Lp
section
variable{κ:Type}[DecidableEq κ]
def Qh(Z:List (κ×V))(k:κ):Option V:=(Z.find? λkv=>decide (kv.1=k)).map (·.2)
def putK(Z:List (κ×V))(k:κ)(v:V):List (κ×V) :=
 if(Z.any λkv=>decide (kv.1=k))=true then Z.map (λkv=>if kv.1=k then(kv.1,v) else kv) else Z++[(k,v)]
def Oz{p:κ×V}(e:p.1=k):Qh (p::r) k=some p.2:=by simp[Qh,m5,e]
def O1{p:κ×V}(e:¬p.1=k):Qh (p::r) k=Qh r k:=by simp[Qh,m5,e]
theorem aat(k:κ):∀Z:List (κ×V),(Z.any λkv=>decide (kv.1=k))=(Qh Z k).isSome
 |[]=>rfl
 |p::r=>by
  rw[wu]
  by_cases e:p.1=k
  .simp only[Oz e,decide_eq_true e,Bool.true_or,Option.isSome_some]
  .rw[O1 e,u0 e,Bool.false_or];exact aat k r
def Q6(Z:List (κ×V))(k:κ)(v:V):(putK Z k v).length<=Z.length+1:=by
 unfold putK;split
 .rw[dh];exact x_
 .rw[jd,d9,uw];exact bc _
def J7.ahg(r:J7 o u):o.isSome=u.isSome:=by
 cases o with
 |none=>cases u with
  |none=>rfl|some _=>exact(show False from r).elim
 |some _=>cases u with
  |none=>exact(show False from r).elim
  |some _=>rfl
theorem J7.getD(r:J7 o u)(G:RelV d Z):RelV (o.getD d) (u.getD Z):=by
 cases o with
 |none=>cases u with
  |none=>exact G|some _=>exact(show False from r).elim
 |some _=>cases u with
  |none=>exact(show False from r).elim
  |some _=>exact r
def KV.val(r:KV U R)(k:κ):J7 (Qh U k) (valueAt R k):=by
 unfold KV at r
 induction r with
 |nil=>exact True.intro
 |@cons p q ps qs h t ih =>
  obtain⟨G,h2⟩:=h
  by_cases e:p.1=k
  .have Z:q.1=k:=G.symm.trans e
   have b:valueAt (q::qs) k=some q.2:=by simp[valueAt,m5,Z]
   rw[Oz e,b];exact h2
  .have Z:¬q.1=k:=λz=>e (G.trans z)
   have b:valueAt (q::qs) k=valueAt qs k:=by simp[valueAt,m5,Z]
   rw[O1 e,b];exact ih
theorem KV.any(r:KV Z U)(k:κ):(Z.any λkv=>decide (kv.1=k))=U.any λkv=>decide (kv.1=k):=by
 unfold KV at r
 induction r with
 |nil=>rfl|cons h t G=>rw[wu,wu,G,h.1]
def KV.ade(r:KV G R)(k:κ)(U:RelV y u) :
 KV (G.map λkv=>if kv.1=k then(kv.1,y) else kv) (R.map λkv=>if kv.1=k then(kv.1,u) else kv):=by
 unfold KV at r ⊢
 induction r with
 |nil=>exact .nil
 |@cons p q ps qs h t ih =>
  rw[di,di];refine .cons ?_ ih;obtain⟨Z,h2⟩:=h
  by_cases e:p.1=k
  .rw[bz e,bz (Z.symm.trans e)];exact⟨Z,U⟩
  .rw[cj e,cj (λz=>e (Z.trans z))];exact⟨Z,h2⟩
def KV.put(r:KV U Z)(k:κ)(G:RelV y u):KV (putK U k y) (stored Z k u):=by
 unfold putK stored;rw[r.any k]
 by_cases e:(Z.any λkv=>decide (kv.1=k))=true
 .rw[bz e,bz e];exact r.ade k G
 .rw[cj e,cj e];exact Paired.snoc r ⟨rfl,G⟩
theorem KV.length{Z:List (κ×V)}{G:List (κ×Value)}(r:KV Z G):Z.length=G.length:=Paired.length r
end
def afg(r:RelV (kV k) u):(Aw P w).is k u=true:=by
 cases k with
 |inl i=>obtain⟨t,e⟩:=(show ∃t,u=Value.int i t from r);subst e;exact aan P w i t
 |inr x=>obtain⟨t,e⟩:=(show ∃t,u=Value.str x t from r);subst e;exact aao P w x t
theorem W2{P:Program}{w:World}:∀{ks:List Key}{Z:Zl},Vals (ks.map kV) Z->ItemsAre (Aw P w) ks Z
 |[],_,r=>by rw[Ak] at r;cases r;exact .nil
 |k::ks,_,r=>by
  rw[di] at r;cases r with
  |cons h t=>exact .cons (afg h) (W2 t)
abbrev KT(H:Hp):List (List Key×V)->List (List Key×Addr×Value)->Prop:=Paired λp q=>p.1=q.1/\H q.2.1=some (.tup (p.1.map kV))/\RelV p.2 q.2.2
def KT.val(r:KT H U R)(k:List Key):J7 (Qh U k) ((atKey R k).map (·.2)):=by
 induction r with
 |nil=>exact True.intro
 |@cons p q ps qs h t ih =>
  obtain⟨G,_,h2⟩:=h
  by_cases e:p.1=k
  .have Z:q.1=k:=G.symm.trans e
   have b:atKey (q::qs) k=some q.2:=by simp[atKey,m5,Z]
   rw[Oz e,b];exact h2
  .have Z:¬q.1=k:=λz=>e (G.trans z)
   have b:atKey (q::qs) k=atKey qs k:=by simp[atKey,m5,Z]
   rw[O1 e,b];exact ih
def KT.ade(r:KT H U xs)(k:List Key)(ry:RelV y u) :
 KT H (U.map λkv=>if kv.1=k then(kv.1,y) else kv) (xs.map (putAt k u)):=by
 induction r with
 |nil=>exact .nil
 |@cons p q ps qs h t ih =>
  rw[di,di];refine .cons ?_ ih;obtain⟨Z,G,R⟩:=h;unfold putAt
  by_cases e:p.1=k
  .rw[bz e,bz (Z.symm.trans e)];exact⟨Z,G,ry⟩
  .rw[cj e,cj (λz=>e (Z.trans z))];exact⟨Z,G,R⟩
def KT.put(r:KT H G Z)(k:List Key)(R:H b=some (.tup (k.map kV)))(U:RelV y u) :
 KT H (putK G k y) (storedH Z k b u):=by
 have e:(G.any λkv=>decide (kv.1=k))=(atKey Z k).isSome:=by rw[aat,(r.val k).ahg,Option.isSome_map]
 unfold putK storedH;rw[e]
 by_cases q:(atKey Z k).isSome=true
 .rw[bz q,bz q];exact r.ade k U
 .rw[cj q,cj q];exact Paired.snoc r ⟨rfl,R,U⟩
def KT.keeps(r:KT H G xs)(U:∀b Z,H b=some (.tup Z)->R b=some (.tup Z)):KT R G xs :=
 Paired.avp r λ_ _ z=>⟨z.1,U _ _ z.2.1,z.2.2⟩
def as3(ok:Nj P w H h)(e:Rd H a u):Ay P w H h a u:=e.ok ok
def afh(ok:Nj P w H h)(e:Rd H a (.dK Z)):Z.length<=sizeLine/\(a==sysModules)=false/\∃vs,KV Z vs/\h.DictOf (Aw P w) a vs :=
 show Ay P w H h a (.dK Z) from as3 ok e
def a1n(ok:Nj P w H h)(e:H a=some (.dK Z)):Z.length<=sizeLine/\(a==sysModules)=false/\∃vs,KV Z vs/\h.DictOf (Aw P w) a vs:=afh ok (.inl e)
def Uu(ok:Nj P w H h)(e:H a=some (.tup (ks.map kV))):(tupleKind (Aw P w)).is h ks a:=by obtain⟨_,Z,r,o,U,G,n,R,_⟩:=(show Ay P w H h a (.tup (ks.map kV)) from ok a _ e);exact⟨o,Z.toArray,n,U,G,R,by simpa using W2 r⟩
def afi(ok:Nj P w H h)(e:Rd H a (.dT G)):G.length<=sizeLine/\(a==sysModules)=false /\
 ∃xs,KT H G xs/\h.DictOfH (tupleKind (Aw P w)) a xs:=by
 obtain⟨z,y,xs,r,o,es,ep,h1,R,h3,U,h5⟩:=(show Ay P w H h a (.dT G) from as3 ok e);refine⟨z,y,xs,r,o,es,ep,h1,R,h3,U,λx Z=>?_,h5⟩;have all:∀{l:List (List Key×V)}{m:List (List Key×Addr×Value)},KT H l m->∀x∈m,(tupleKind (Aw P w)).is h x.1 x.2.1:=by
  intro l m q
  induction q with
  |nil=>intro x Z;exact nomatch Z
  |@cons p q ps qs hq t ih =>
   intro x Z;rcases dg.mp Z with e|Z
   .subst e
    exact Uu ok (by rw[<- hq.1];exact hq.2.1)
   .exact ih x Z
 exact all r x Z
def as4(ok:Nj P w H h)(e:H a=some (.dT Z)):Z.length<=sizeLine/\(a==sysModules)=false /\
 ∃xs,KT H Z xs/\h.DictOfH (tupleKind (Aw P w)) a xs:=afi ok (.inl e)
def adf(H:Hp)(a:Addr)(y:V)(r:Option V):Prop :=
 (∃Z k,Rd H a (.dK Z)/\y=kV k/\r=Qh Z k)\/∃Z k b,Rd H a (.dT Z)/\y=.ref b/\H b=some (.tup (k.map kV))/\r=Qh Z k
def apx(H:Hp)(a:Addr)(y v:V)(G:Hp):Prop :=
 (∃Z k,H a=some (.dK Z)/\y=kV k/\Z.length<sizeLine/\G=upd H a (.dK (putK Z k v))) \/
 ∃Z k b,H a=some (.dT Z)/\y=.ref b/\H b=some (.tup (k.map kV))/\Z.length<sizeLine/\G=upd H a (.dT (putK Z k v))
def adf.t{k:List Key}(e:H a=some (.dT Z))(G:H b=some (.tup (k.map kV))):adf H a (.ref b) (Qh Z k):=.inr ⟨Z,k,b,.inl e,rfl,G,rfl⟩
def apx.t{k:List Key}(e:H a=some (.dT Z))(G:H b=some (.tup (k.map kV)))(U:Z.length<sizeLine) :
 apx H a (.ref b) v (upd H a (.dT (putK Z k v))):=.inr ⟨Z,k,b,e,rfl,G,U,rfl⟩
def Inv.big(I:Inv X pins σ H s):sysModules<s.heap.objs.size:=by
 have h:mainGlobals<s.heap.objs.size:=(I.mod.glob.keeps I.bk).lt
 exact Nat.lt_trans (by decide) h
def ahh(hu:A.units+1<cLine)(I:Inv X pins σ H s)(g:adf H a y (some v))(ry:RelV y u)(h:∀U s',Inv X pins σ H s'->RelV v U->Q U s') :
 wpAny (model X.prog X.w) A (getItem (.ref a) u) Q E s:=by
 rcases g with⟨o6,k,e,ey,l⟩|⟨o6,k,b,e,ey,eb,l⟩
 .subst ey
  obtain⟨z,hd,vs,Z,dd⟩:=afh I.Am e;obtain⟨U,hw,G⟩:=J7.some_of (v:=v) (o:=valueAt vs k) (by rw[l];exact Z.val k);exact wpAny_getItem_of (afg ry) dd.mapOf hw (h U _ (I.tok _) G)
 .subst ey
  cases(show u=Value.ref b from ry);obtain⟨z,hd,xs,Z,dd⟩:=afi I.Am e;obtain⟨U,hw,G⟩:=J7.some_of (v:=v) (o:=(atKey xs k).map (·.2)) (by rw[l];exact Z.val k);obtain⟨p,hp,R⟩:=bw.mp hw;refine wpAny_getItem_heap (tupleKind_room_in1 hu) (Uu I.Am eb) dd hp ?_;rw[R];exact h U _ (I.tok _) G
def Yr(I:Inv X pins σ H s)(mu:Mut (H a))(R:Heap.SameBut a s.heap Z)(U:∃q,Z.get? a=some q)(new:Ay X.prog X.w (upd H a G) Z a G) :
 Inv X pins σ (upd H a G) { s with heap:=Z,toks:=t' } :=
 I.write (x:=a) (e:=a) mu (.inl rfl) (λb q hb z=>(R.2 b hb).trans z) U new
def awq(z:G.length<=sizeLine)(R:(a==sysModules)=false)(Z:KV G U)(dd:h'.DictOf (Aw P w) a U) :
 Ay P w H' h' a (.dK G):=⟨z,R,U,Z,dd⟩
def ahi(hu:A.units+1<cLine)(I:Inv X pins σ H s)(g:apx H a y v H')(ry:RelV y u)(rv:RelV v r)(h:∀s',Inv X pins σ H' s'->Q () s') :
 wpAny (model X.prog X.w) A (setItem (.ref a) u r) Q E s:=by
 rcases g with⟨U,k,e,ey,l,eH⟩|⟨U,k,b,e,ey,eb,l,eH⟩
 .subst ey eH
  obtain⟨z,hd,vs,Z,dd⟩:=a1n I.Am e;have hz:vs.length<=sizeLine:=by rw[<- Z.length];exact z
  have hl:(putK U k v).length<=sizeLine:=by have:=Q6 U k v;exact a_ this l
  refine wpAny_setItem_pairs (hsz:=hz) (afg ry) dd λh' G hs=>h _ ?_
  have he:∃q,h'.get? a=some q:=let ⟨q,_,_,R,_⟩:=G;⟨q,R⟩;exact Yr I (by rw[e];exact True.intro) hs he (awq hl hd (Z.put k rv) G)
 .subst ey eH
  cases(show u=Value.ref b from ry);obtain⟨z,hd,xs,Z,dd⟩:=as4 I.Am e;have hz:xs.length<=sizeLine:=by rw[<- Paired.length Z];exact z
  have hl:(putK U k v).length<=sizeLine:=by have:=Q6 U k v;exact a_ this l
  refine wpAny_setItem_heap (hsz:=hz) (tupleKind_room_in1 hu) (Uu I.Am eb) dd λh' G hs=>h _ ?_
  obtain⟨q,es,ep,R,h2,h3,h4,_,h5⟩:=G;refine Yr I (by rw[e];exact True.intro) hs ⟨q,R⟩ ⟨hl,hd,_,(Z.put k eb rv).keeps λc ys ec=>?_,q,es,ep,R,h2,h3,h4,h5⟩;rw[lz (aap ec e (λz=>nomatch z))];exact ec
def aau(I:Inv X pins σ H s)(g:adf H a y o):s.TypeIs (.ref a) "dict" := by
 rcases g with⟨G,k,e,_,_⟩|⟨G,k,b,e,_,_,_⟩
 .obtain⟨_,_,U,_,Z⟩:=afh I.Am e
  exact Z.typeIs
 .obtain⟨_,_,R,_,Z⟩:=afi I.Am e
  exact Z.typeIs
def alc(h:Heap)(Z:sysModules<h.objs.size):Ay P w H (h.push { cls:=.type "dict",data:=.dict #[] }) h.objs.size (.dT []) :=
 ⟨iy _,ye.mpr (kh (ie Z)),[],.nil,_,#[],0,bu _ rfl,⟨rfl,rfl,rfl⟩,rfl,rfl,List.nodup_nil⟩
def awr:TE:=λ_ H Q=>∀p,H p=none->Q (.ref p) (upd H p (.dT []))
def ald:PE X (.Dict [] [] pos) awr:=λZ s G H Q I h =>
 wpAny_Dict_empty ⟨.ref s.heap.objs.size,_,I.laid (a:=s.heap.objs.size) (o:=.dT []) (t':=s.toks) (λ_ _ q=>aq _ q) (bc _) (alc s.heap I.big),rfl,h _ (I.Am.fresh (bc _))⟩
def aws(hu:A.units+1<cLine)(I:Inv X pins σ H s)(g:adf H a y o)(ry:RelV y u)(rd:RelV d r)(h:∀w' s',Inv X pins σ H s'->RelV (o.getD d) w'->Q w' s') :
 wpAny (model X.prog X.w) A (call (.builtin "dict.get") [.ref a,u,r]) Q E s:=by
 rcases g with⟨o6,k,e,R,l⟩|⟨o6,k,b,e,R,eb,l⟩
 .subst R
  obtain⟨z,U,vs,Z,G⟩:=afh I.Am e;refine call_meetsIn PySem.F.slot_dict_get G.typeIs PySem.F.entry_dict_get (PySem.F.args_dict_get_3 _ _ _) (meets_dict_get_default (Aw X.prog X.w) a (afg ry) U r) ⟨_,G.mapOf,h _ _ (I.tok _) ?_⟩;rw[l];exact(Z.val k).getD rd
 .subst R
  cases(show u=Value.ref b from ry);obtain⟨z,U,xs,Z,G⟩:=afi I.Am e;refine call_meetsIn PySem.F.slot_dict_get G.typeIs PySem.F.entry_dict_get (PySem.F.args_dict_get_3 _ _ _) (meetsH_dict_get_default (tupleKind (Aw X.prog X.w)) a b U r) ⟨tupleKind_room_in1 hu,k,xs,Uu I.Am eb,G,h _ _ (I.tok _) ?_⟩;rw[l];exact(Z.val k).getD rd
end L2
namespace HT
open PySem PyProof.Rows
def apz(ht:IsTup s.heap t G.toArray)(hb:IsTup s.heap b U.toArray)(h0:G=[]->Q (.ref b) s)(h1:U=[]->Q (.ref t) s)(h2:G≠[]->U≠[]->Q (.ref s.heap.objs.size) { s with heap:=s.heap.push { cls:=.type "tuple",data:=.seq (G++U).toArray } })(q3:G.length+U.length<=sizeLine):wpAny (model prog w) A (binaryOp .Add (.ref t) (.ref b)) Q E s:=by
 obtain⟨⟨q2,dd,qv,sl⟩,ho,hc,n,hd⟩:=id ht;obtain⟨⟨q4,qq,q1,R⟩,Z,qk,n2,q0⟩:=id hb;simp only at hc hd qk q0;subst hc hd qk q0;have e:G.toArray++U.toArray=(G++U).toArray:=by simp
 by_cases hv:G=[]
 .exact concat_meets ⟨_,ho,rfl⟩ ⟨_,Z,rfl⟩ noFill_tuple_add seq_tuple_add PySem.F.slot_tuple_add PySem.F.entry_tuple_add (PySem.F.args_tuple_add_2 _ _)
   (tuple_addW0 t b G.toArray U.toArray n n2 dd qq sl R (by simp[hv])) ⟨ho,Z,h0 hv⟩
 by_cases hw:U=[]
 .exact concat_meets ⟨_,ho,rfl⟩ ⟨_,Z,rfl⟩ noFill_tuple_add seq_tuple_add PySem.F.slot_tuple_add PySem.F.entry_tuple_add (PySem.F.args_tuple_add_2 _ _)
   (tuple_addW1 t b G.toArray U.toArray n n2 dd qq sl R (by simpa using hv) (by simp[hw])) ⟨ho,Z,h1 hw⟩
 .refine concat_meets ⟨_,ho,rfl⟩ ⟨_,Z,rfl⟩ noFill_tuple_add seq_tuple_add PySem.F.slot_tuple_add PySem.F.entry_tuple_add (PySem.F.args_tuple_add_2 _ _)
   (tuple_addW2 t b G.toArray U.toArray n n2 dd qq sl R (by simpa using hv) (by simpa using hw) (by rw[fc,fc];exact q3)) ⟨ho,Z,?_⟩
  rw[e];exact h2 hv hw
noncomputable def Ez(n d:Nat):Option Int->Nat
 |none=>d|some v=>if v<0 then(v+(n:Int)).toNat else min v.toNat n
def awt(n d:Nat)(G:d<=n)(o:Option Int):Ez n d o<=n:=by
 cases o with
 |none=>exact G
 |some v =>
  show(if v<0 then(v+(n:Int)).toNat else min v.toNat n)<=n
  by_cases Z:v<0
  .rw[bz Z];lia
  .rw[cj Z];exact Nat.min_le_right _ _
def afj(v:Int)(n d:Nat):(if v<0 then max (v+(n:Int)) 0 else min v (n:Int))=((Ez n d (some v):Nat):Int):=by
 show(if v<0 then max (v+(n:Int)) 0 else min v (n:Int))=(((if v<0 then(v+(n:Int)).toNat else min v.toNat n):Nat):Int)
 by_cases Z:v<0
 .simp only[bz Z];lia
 .simp only[cj Z];lia
def adg(G Z:Option Int)(n:Nat):Builtin.Slice.sliceAdjust G Z 1 (n:Int)=(((Ez n 0 G:Nat):Int),((Ez n n Z:Nat):Int)):=by
 have U:¬((1:Int)<0):=by lia
 unfold Builtin.Slice.sliceAdjust;simp only[U,jg];refine Prod.ext ?_ ?_
 .cases G with
  |none=>rfl|some v=>exact afj v n 0
 .cases Z with
  |none=>rfl|some v=>exact afj v n n
def adh(i j:Nat):Builtin.Slice.slicePlaces (i:Int) (j:Int) 1=j-i:=by unfold Builtin.Slice.slicePlaces;have Z:(1:Int) > 0:=m_ (by decide);simp only[Z,jk,Int.ediv_one];split<;>lia
def Uv(p:IsPart v o)(h:Q o s):wpAny (model prog w) A (Builtin.Slice.slicePartIndex v) Q E s:=by
 cases p with
 |none=>exact slicePart_none h|int i t=>exact slicePart_int h
def Qi{Z:Option Int}{n:Nat}(hs:s.heap.IsSliceOf sl vl vu .none)(pl:IsPart vl Z)(pu:IsPart vu R)(h:Q (((Ez n 0 Z:Nat):Int),1,Ez n n R-Ez n 0 Z) s):wpAny (model prog w) A (Builtin.Slice.sliceApplied (.ref sl) (pure (n:Int))) Q E s:=by obtain⟨os,U,qq,G⟩:=id hs;unfold Builtin.Slice.sliceApplied Builtin.Slice.sliceFields;refine aa (aa (gm U G (x:=vl) rfl (aa (gm U G (x:=vu) rfl (aa (gm U G (x:=.none) rfl (aj ?_)))))));refine aa (slicePart_none ?_);show wpAny _ _ (if((1:Int)==0)=true then _ else _) _ _ s;rw[cj (by decide)];refine aa (Uv pl (aa (Uv pu (aa (aj ?_)))));show wpAny _ _ (match Builtin.Slice.sliceAdjust Z R 1 (n:Int) with|(Z,R)=>pure (Z,(1:Int),Builtin.Slice.slicePlaces Z R 1)) _ _ s;rw[adg Z R n];show wpAny _ _ (pure (((Ez n 0 Z:Nat):Int),(1:Int),Builtin.Slice.slicePlaces ((Ez n 0 Z:Nat):Int) ((Ez n n R:Nat):Int) 1)) _ _ s;rw[adh];exact aj h
def ale(Z:U1)(i k:Nat):((List.range k).filterMap λ(m:Nat)=>Z[((i:Int)+(m:Int)*1).toNat]?).toArray=((Z.toList.drop i).take k).toArray:=by
 have e:(λ(m:Nat)=>Z[((i:Int)+(m:Int)*1).toNat]?)=λm=>Z[i+m]?:=by
  funext m
  have:((i:Int)+(m:Int)*1).toNat=i+m:=by lia
  rw[this]
 rw[e];have:=pick_run Z i k;rw[List.filterMap_map] at this;have G:((λx=>Z[x]?) ∘ λx=>i+x)=λm=>Z[i+m]?:=rfl
 rw[G] at this;rw[this]
def O2{Z:Option Int}(ht:IsTup s.heap t items)(hs:s.heap.IsSliceOf sl vl vu .none)(pl:IsPart vl Z)(pu:IsPart vu U)(hw:Ez items.size 0 Z=0->Ez items.size items.size U=items.size->Q (.ref t) s)(h:Q (.ref s.heap.objs.size) { s with heap:=s.heap.push { cls:=.type "tuple",data:=.seq ((items.toList.drop (Ez items.size 0 Z)).take (Ez items.size items.size U-Ez items.size 0 Z)).toArray } })(q4:items.size<=sizeLine):wpAny (model prog w) A (getItem (.ref t) (.ref sl)) Q E s:=by
 have G:sizeOk (.seq ((items.toList.drop (Ez items.size 0 Z)).take (Ez items.size items.size U-Ez items.size 0 Z)).toArray):=by
  show((items.toList.drop (Ez items.size 0 Z)).take (Ez items.size items.size U-Ez items.size 0 Z)).toArray.size<=sizeLine
  rw[fc,List.length_take,List.length_drop,su];omega
 have hj:Ez items.size items.size U<=items.size:=awt _ _ (bc _) U
 obtain⟨os,qk,qq,q0⟩:=id hs;have qv:s.TypeIs (.ref sl) "slice" := ⟨os,qk,qq⟩;unfold getItem
 try with_reducible refine je ?_
 first|refine aa (aj ?_)|skip
 refine aa (wpAny_sequenceKey ht.typeIs (by decide) ?_);refine aa (jh (name:=Str.ofString "__getitem__") ht.typeIs wj
  (jr wj ht.typeIs entry_tuple_getitem ?_ (args_tuple_getitem _ _)))
 show wpAny _ _ (Builtin.Tuple.tupleItemsOf (.ref t) >>= _) _ _ s;refine aa (tupleItemsOf_ ht ?_);refine aa (wpAny_typeOf qv ?_);rw[bz (by decide)];refine aa (Qi hs pl pu ?_);show wpAny _ _ (if(((Ez items.size 0 Z:Nat):Int)==0&&(1:Int)==1&&(Ez items.size items.size U-Ez items.size 0 Z)==items.size)=true then _ else _) _ _ s
 by_cases R:(((Ez items.size 0 Z:Nat):Int)==0&&(1:Int)==1&&(Ez items.size items.size U-Ez items.size 0 Z)==items.size)=true
 .rw[bz R]
  rw[ao,ao] at R;have q1:((Ez items.size 0 Z:Nat):Int)=0:=eq_of_beq R.1.1;have q2:Ez items.size items.size U-Ez items.size 0 Z=items.size:=eq_of_beq R.2;have q3:=hw (by lia) (by lia);refine aa (m:=Builtin.Tuple.tupleIsExact (.ref t)) (aa (wpAny_typeOf ht.typeIs (aj ?_)));rw[bz (by decide)];exact aa (wpAny_rule (aj ⟨_,rfl,aj q3⟩))
 rw[cj R,ale]
 first
  |exact aa (m:=Builtin.Tuple.tupleExact _) (jx (aj ⟨_,rfl,aj h⟩) G)
  |exact aa (m:=Builtin.Tuple.tupleExact _) (jx (aa (aj (aj ⟨_,rfl,aj h⟩))) G)
  |exact aa (aa (m:=Builtin.Tuple.tupleExact _) (jx (aj (aj ⟨_,rfl,aj h⟩)) G))
  |exact aa (aa (m:=Builtin.Tuple.tupleExact _) (jx (aj ⟨_,rfl,aj h⟩) G))
end HT
namespace L2
open PySem PySem.Spec PyProof.Rows
abbrev TO:=St->Hp->(Option Int->Hp->Prop)->Prop
def PO(X:Cx)(e:Option Expr)(t:TO):Prop :=
 ∀(Z:Zp)(s:Shared)(G:St)(H:Hp)(Q:Option Int->Hp->Prop),Inv X Z G H s->t G H Q ->
  wpAny (model X.prog X.w) X.A (evalPart e X.env) (λu R=>∃o U,Inv X Z G U R/\IsPart u o/\Q o U) X.xe s
def ap1:TO:=λ_ H Q=>Q none H
def a1p(t:TE):TO:=λZ H Q=>t Z H λx G=>∃i,x=.int i/\Q (some i) G
def ap2:PO X none ap1:=by intro Z s G H Q I h;rw[evalPart_none];exact aj ⟨none,H,I,.none,h⟩
def ap3(h:PE X e te):PO X (some e) (a1p te):=by
 intro Z s σ H Q I hw;rw[evalPart_some];refine Bf (h Z s σ H _ I hw) λu s1 z_=>?_
 obtain⟨x,G,I1,R,U⟩:=z_;obtain⟨i,rfl,q⟩:=U;obtain⟨t,rfl⟩:=R;exact⟨some i,G,I1,.int i t,q⟩
def SlR(X:Cx)(r:V->Option Int->Option Int->Hp->VK->Prop):Prop :=
 ∀(Z:Zp)(s:Shared)(σ:St)(H:Hp)(x:V)(v vl U:Value)(G R:Option Int)(sl:Addr)(Q:VK),Inv X Z σ H s->RelV x v->s.heap.IsSliceOf sl vl U .none->IsPart vl G->IsPart U R->r x G R H Q ->
  ∃T id,typeLookup (.type T) "__getitem__" = pure (some (.builtin id))/\s.TypeIs v T/\wpAny (model X.prog X.w) X.A (getItem v (.ref sl)) (EP X Z σ Q) X.xe s
def SlR.or(h:SlR X r)(h':SlR X r'):SlR X (λx G U H Q=>r x G U H Q\/r' x G U H Q):=by
 intro Z s σ H x v vl vu G U sl Q I R hs pl pu q;rcases q with q|q
 .exact h Z s σ H x v vl vu G U sl Q I R hs pl pu q
 .exact h' Z s σ H x v vl vu G U sl Q I R hs pl pu q
def tSl(r:V->Option Int->Option Int->Hp->VK->Prop)(R:TE)(tl th:TO):TE:=λZ H Q=>R Z H λx G=>tl Z G λl H2=>th Z H2 λu U=>r x l u U Q
def alf{lo:Option Expr}(hr:SlR X r)(he:PE X e te)(hl:PO X lo tl)(hu:PO X hi th):PE X (.Subscript e (.Slice lo hi none p2) pos) (tSl r te tl th):=by
 intro Z s U H Q I h;refine Subscript_ (Bf (he Z s U H _ I h) λv s1 z_=>?_);obtain⟨x,H1,I1,r1,q1⟩:=z_;refine wpAny_Slice (Bf (hl Z s1 U H1 _ I1 q1) λR s2 ⟨l,H2,I2,pl,q2⟩=>Bf (hu Z s2 U H2 _ I2 q2) λvu G z_=>?_);obtain⟨u,H3,I3,pu,q3⟩:=z_;rw[evalPart_none];refine aj ?_;have I4:Inv X Z U H3 { G with heap:=G.heap.push { cls:=.type "slice",data:=.fields #[R,vu,.none] } }:=I3.kept (t':=G.toks) λb ob q=>aq _ q
 obtain⟨T,id,hT,ht,hg⟩:=hr Z { G with heap:=G.heap.push { cls:=.type "slice",data:=.fields #[R,vu,.none] } } U H3 x v R vu l u G.heap.objs.size Q I4 r1 (Heap.IsSliceOf.new ..) pl pu q3;show wpAny (model X.prog X.w) X.A (subscriptTail e (.Slice lo hi none p2) v (.ref G.heap.objs.size)) (EP X Z U Q) X.xe { G with heap:=G.heap.push { cls:=.type "slice",data:=.fields #[R,vu,.none] } };exact tail_any (ops:=[.ref G.heap.objs.size,v]) ht hT hg (by with_unfolding_all rfl)
def Rk(Z:List V)(G U:Option Int):List V:=(Z.drop (HT.Ez Z.length 0 G)).take (HT.Ez Z.length Z.length U-HT.Ez Z.length 0 G)
def Q7(Z:List V)(U G:Option Int):(Rk Z U G).length<=Z.length:=by
 unfold Rk;rw[List.length_take,List.length_drop]
 lia
def a81(K:Fg):V->Option Int->Option Int->Hp->VK->Prop:=λx U G H Q=>∃a Z,x=.ref a/\Ey K H a Z /\
 (HT.Ez Z.length 0 U=0->HT.Ez Z.length Z.length G=Z.length->Q (.ref a) H)/\∀p,H p=none->Q (.ref p) (upd H p (.tup (Rk Z U G)))
def awu:SlR X (a81 X.K):=by
 intro qq s σ H x v vl vu U R sl Q I rx hs pl pu h;obtain⟨a,G,rfl,hx,hw,q⟩:=h;cases rx;obtain⟨uv,r,ht,hz⟩:=I.tuple hx;have Z:uv.toArray.size=G.length:=by rw[fc];exact r.length.symm
 refine⟨"tuple",_,wj.lookup,ht.typeIs,?_⟩;refine HT.O2 ht hs pl pu (by rw[Z];exact λz1 z2=>⟨.ref a,H,I,rfl,hw z1 z2⟩) ?_ (by rw[Z];exact hz);rw[Z];refine⟨.ref s.heap.objs.size,_,I.laid (t':=s.toks) (o:=.tup (Rk G U R)) (λb ob q=>aq _ q) (bc _) ?_,rfl,q _ (I.Am.fresh (bc _))⟩;exact⟨az (Q7 G U R) hz,_,(r.drop (HT.Ez G.length 0 U)).take (HT.Ez G.length G.length R-HT.Ez G.length 0 U),Vs.new _ _⟩
def a1q(K:Fg):R2:=λx y H Q=>∃a b G Z,x=.ref a/\y=.ref b/\Ey K H a G/\Ey K H b Z/\G.length+Z.length<=sizeLine /\
 (G=[]->Q (.ref b) H)/\(Z=[]->Q (.ref a) H)/\(∀p,H p=none->Q (.ref p) (upd H p (.tup (G++Z))))
def Vals.afl(r:Vals G Z):Z=[]↔G=[]:=by
 cases r with
 |nil=>simp|cons _ _=>simp
def ap4:Bv X (binaryOp .Add) (a1q X.K):=by intro R s σ H x y v u Q I rx ry h;obtain⟨a,b,xs,ys,rfl,rfl,ha,hb,U,q0,q1,q2⟩:=h;cases rx;cases ry;obtain⟨uv,G,p1,_⟩:=I.tuple ha;obtain⟨qq,Z,p2,_⟩:=I.tuple hb;refine HT.apz p1 p2 (λz=>⟨.ref b,H,I,rfl,q0 (G.afl.mp z)⟩) (λz=>⟨.ref a,H,I,rfl,q1 (Z.afl.mp z)⟩) (λ_ _=>?_) (by rw[<- G.length,<- Z.length];exact U);refine⟨.ref s.heap.objs.size,_,I.laid (t':=s.toks) (o:=.tup (xs++ys)) (λb ob q=>aq _ q) (bc _) ?_,rfl,q2 _ (I.Am.fresh (bc _))⟩;exact⟨by rw[jd];exact U,_,G.append Z,Vs.new _ _⟩
end L2
namespace L2
open PySem PySem.Spec PyProof.Rows
noncomputable def ixN(n:Nat)(i:Int):Option Nat:=if 0<=i then(if i<n then some i.toNat else none) else if -(n:Int)<=i then some (i+n).toNat else none
def atI{α:Type}(Z:List α)(i:Int):Option α:=(ixN Z.length i).bind λj=>Z[j]?
def afm(h:ixN n i=some j):seqIndex? i n=some j/\j<n/\-(n:Int)<=i/\i<n:=by
 unfold ixN at h
 by_cases G:0<=i
 .rw[bz G] at h
  by_cases Z:i<n
  .rw[bz Z] at h
   have e:i.toNat=j:=gq h;exact⟨by rw[seqIndex_of G Z,e],by lia,by lia,Z⟩
  .rw[cj Z] at h;cases h
 .rw[cj G] at h
  by_cases Z:-(n:Int)<=i
  .rw[bz Z] at h
   have e:(i+n).toNat=j:=gq h;exact⟨by rw[seqIndex_neg (by lia) Z,e],by lia,Z,by lia⟩
  .rw[cj Z] at h;cases h
def afn(h:atI Z i=some v):∃j,seqIndex? i Z.length=some j/\Z[j]?=some v/\j<Z.length/\-(Z.length:Int)<=i/\i<Z.length:=by
 unfold atI at h;cases e:ixN Z.length i with
 |none=>rw[e] at h;cases h
 |some j =>
  rw[e] at h;obtain⟨R,h2,U,G⟩:=afm e;exact⟨j,R,h,h2,U,G⟩
def Ys(b:Expr):Prop:=∀o i,subscripted b false o i=operate [o,i] (getItem o i)
def IxR(X:Cx)(r:R2):Prop :=
 ∀(U Z:Expr)(G:Zp)(s:Shared)(R:St)(H:Hp)(x y:V)(v u:Value)(Q:VK),Inv X G R H s->RelV x v->RelV y u->r x y H Q ->
  subscripted Z false v u=operate [v,u] (getItem v u)->wpAny (model X.prog X.w) X.A (subscriptTail U Z v u) (EP X G R Q) X.xe s
def MtR(X:Cx)(id:String)(r:V->List V->Hp->VK->Prop):Prop :=
 ∀(Z:Zp)(s:Shared)(U:St)(H:Hp)(x:V)(R:List V)(v:Value)(G:Zl)(Q:VK),Inv X Z U H s->RelV x v->Vals R G->r x R H Q ->
  wpAny (model X.prog X.w) X.A (call (.builtin id) (v::G)) (EP X Z U Q) X.xe s
def a1s(hr:IxR X r)(R:PE X a ta)(hb:PE X b G)(hs:Ys b):PE X (.Subscript a b pos) (tOp r ta G):=by intro Z s σ H Q I h;exact Subscript_ (awb R hb I h λv u s2 x y H2 I2 U ry q=>hr a b Z s2 σ H2 x y v u Q I2 U ry q (hs _ _))
def a82(K:Fg):R2:=λx y H Q=>∃p Z i v,x=.ref p/\y=.int i/\Ew K H p Z/\atI Z i=some v/\Q v H
def a83(K:Fg):R2:=λx y H Q=>∃p Z i v,x=.ref p/\y=.int i/\Ey K H p Z/\atI Z i=some v/\Q v H
def yf:IxR X (a82 X.K):=by
 intro U R Z s σ H x y v u Q I rx ry h hs;obtain⟨p,xs,i,z,rfl,rfl,hq,he,q⟩:=h;cases rx;obtain⟨t,rfl⟩:=ry;obtain⟨uv,r,pl,hz⟩:=I.list hq;obtain⟨j,G,h2,h3,h4,h5⟩:=afn he;obtain⟨w,ew,qq⟩:=r.get h2;have hl:=r.length;have hn:=Us;have fin:EP X Z σ Q w s:=⟨z,H,I,qq,q⟩
 by_cases h0:0<=i
 .have hj:i.toNat=j:=by
   rw[seqIndex_of h0 h5] at G;exact gq G
  exact item_listR pl.isList h0 (by lia) (by rw[hj];simpa using ew) fin hs
 .have hj:(i+(uv.toArray.size:Int)).toNat=j:=by
   rw[seqIndex_neg (by lia) h4] at G;rw[fc,<- hl];exact gq G
  exact subscriptTail_builtinR (x:=w) pl.isList.typeIs slot_list_getitem.lookup
   (wpAny_getItem_list_neg (Q:=λr s'=>r=w/\EP X Z σ Q r s') pl.isList (by lia) (by rw[fc]<;>lia) (by lia) (by rw[hj];simpa using ew) ⟨rfl,fin⟩) hs
def Iz:IxR X (a83 X.K):=by
 intro G U Z s σ H x y v u Q I rx ry h hs;obtain⟨p,xs,i,z,rfl,rfl,hq,he,q⟩:=h;cases rx;obtain⟨t,rfl⟩:=ry;obtain⟨uv,r,pl,hz⟩:=I.tuple hq;obtain⟨j,h1,h2,h3,h4,h5⟩:=afn he;obtain⟨w,ew,R⟩:=r.get h2;have hl:=r.length;have hn:=Us;have fin:EP X Z σ Q w s:=⟨z,H,I,R,q⟩;exact subscriptTail_builtinR (x:=w) pl.typeIs slot_tuple_getitem.lookup
  (getItem_tuple (j:=j) (Q:=λr s'=>r=w/\EP X Z σ Q r s') pl (by lia) (by lia) (by rw[fc,<- hl];exact h1) (by simpa using ew) ⟨rfl,fin⟩) hs
def adi(Z:Zl)(n j:Nat)(u:Value):Obj.mapSeq (·.setIfInBounds j u) { cls:=.type "list",data:=.seq Z.toArray n }={ cls:=.type "list",data:=.seq (Z.set j u).toArray n }:=by simp[Obj.mapSeq]
theorem Inv.lst{X:Cx}{Z:Zp}{R:St}{H:Hp}{s:Shared}{p:Addr}{U:List V}(I:Inv X Z R H s)(h:H p=some (.lst U)) :
 ∃(G:Zl)(n:Nat),Vals U G/\s.heap.get? p=some { cls:=.type "list",data:=.seq G.toArray n }/\U.length<=sizeLine:=by
 obtain⟨z,G,n,r,e⟩:=I.Am p _ h;exact⟨G,n,r,e,z⟩
def Inv.aww{G:Zl}(I:Inv X pins σ H s)(h:H p=some (.lst xs))(ho:s.heap.get? p=some { cls:=.type "list",data:=.seq G.toArray n })(Z:f { cls:=.type "list",data:=.seq G.toArray n }={ cls:=.type "list",data:=.seq its'.toArray R })(r:Vals U its')(hz:U.length<=sizeLine)(t:Nat) :
 Inv X pins σ (upd H p (.lst U)) { s with heap:=s.heap.update p f,toks:=t }:=by
 have e:(s.heap.update p f).get? p=some { cls:=.type "list",data:=.seq its'.toArray R }:=by rw[j7 f ho (by rw[Z]<;>rfl),Z]
 refine I.write (x:=p) (e:=p) (by rw[h];trivial) (.inl rfl) (λb u hb q=>(Heap.get?_update_other _ _ (kh hb)).trans q) ⟨_,e⟩ ?_;exact⟨hz,its',R,r,e⟩
def a1t:V->V->V->Hp->(Hp->Prop)->Prop:=λo i v H Q=>∃p Z k j,o=.ref p/\i=.int k/\H p=some (.lst Z)/\ixN Z.length k=some j/\Q (upd H p (.lst (Z.set j v)))
def set_list:av4 X a1t:=by
 intro Z s σ H o i v ov iv u Q I ro ri rv h;obtain⟨p,xs,k,j,rfl,rfl,hp,hj,q⟩:=h;cases ro;obtain⟨t,rfl⟩:=ri;obtain⟨uv,n,r,ho,hz⟩:=I.lst hp;obtain⟨G,h2,h3,h4⟩:=afm hj;have R:=r.length;have hn:=Us;have I':Inv X Z σ (upd H p (.lst (xs.set j v))) { s with heap:=s.heap.update p (Obj.mapSeq (·.setIfInBounds j u)) } :=
  I.aww hp ho (adi uv n j u) (r.set rv j) (by rw[Ag];exact hz) s.toks
 by_cases h0:0<=k
 .have U:k.toNat=j:=by
   rw[seqIndex_of h0 h4] at G;exact gq G
  exact PySem.W.ki_setAt ho h0 (by lia) (by rw[fc,<- R];exact h4) (by rw[U];exact⟨_,I',q⟩)
 .have U:(k+(uv.toArray.size:Int)).toNat=j:=by
   rw[seqIndex_neg (by lia) h3] at G;rw[fc,<- R];exact gq G
  exact PySem.W.ki_setBack ho (by lia) (by rw[fc,<- R];exact h3) (by lia) (by rw[U];exact⟨_,I',q⟩)
def Yt(G Z:Option Int)(n:Nat):(sliceBounds G Z none n).1=((HT.Ez n 0 G:Nat):Int)/\(sliceBounds G Z none n).2.1=((HT.Ez n n Z:Nat):Int)/\(sliceBounds G Z none n).2.2=1:=by
 refine⟨?_,?_,rfl⟩
 .cases G with
  |none=>simp[sliceBounds,HT.Ez]
  |some i =>
   simp only[sliceBounds,HT.Ez,Option.getD_none,show(1:Int) > 0 by decide,jk]
   by_cases h:i<0
   .simp only[h,jk]<;>lia
   .simp only[h,jg]<;>lia
 .cases Z with
  |none=>simp[sliceBounds,HT.Ez]
  |some i =>
   simp only[sliceBounds,HT.Ez,Option.getD_none,show(1:Int) > 0 by decide,jk]
   by_cases h:i<0
   .simp only[h,jk]<;>lia
   .simp only[h,jg]<;>lia
def Vu(Z:Zl)(G U:Option Int):slicePick Z.toArray G U none=((Z.drop (HT.Ez Z.length 0 G)).take (HT.Ez Z.length Z.length U-HT.Ez Z.length 0 G)).toArray:=by obtain⟨h1,h2,R⟩:=Yt G U Z.toArray.size;unfold slicePick;rw[h1,h2,R];simp only[sliceRange_one,pick_run,fc]<;>rfl
def a1u(K:Fg):V->Option Int->Option Int->Hp->VK->Prop:=λx U G H Q=>∃a Z,x=.ref a/\Ew K H a Z/\∀p,H p=none->Q (.ref p) (upd H p (.lst (Rk Z U G)))
def ap5:SlR X (a1u X.K):=by intro qq s σ H x v vl vu U R sl Q I rx hs pl pu h;obtain⟨a,G,rfl,hx,q⟩:=h;cases rx;obtain⟨uv,r,ht,hz⟩:=I.list hx;have Z:=r.length;refine⟨"list",_,slot_list_getitem.lookup,ht.isList.typeIs,?_⟩;refine wpAny_getItem_list_slice ht.isList hs pl pu .none (by simp) ?_ (by rw[fc]<;>exact a_ (g_ Z) hz);rw[Vu,<- Z];refine⟨.ref s.heap.objs.size,_,I.laid (t':=s.toks) (o:=.lst (Rk G U R)) (λb ob q=>aq _ q) (bc _) ?_,rfl,q _ (I.Am.fresh (bc _))⟩;exact⟨az (Q7 G U R) hz,_,0,(r.drop (HT.Ez G.length 0 U)).take (HT.Ez G.length G.length R-HT.Ez G.length 0 U),bu _ rfl⟩
def Yu:Br X (.builtin "len") (λxs H Q=>∃p G,xs=[.ref p]/\(Ew X.K H p G\/Ey X.K H p G)/\Q (.int G.length) H):=by
 intro qq s σ H xs us Q I r h;obtain⟨p,G,rfl,U,q⟩:=h;obtain⟨u,rfl,rx⟩:=vals1 r;cases rx;have hn:=Us;rcases U with U|U
 .obtain⟨uv,r',R,hz⟩:=I.list U
  have Z:=r'.length;exact Calls.call_len_list R.isList (by simp only[fc]<;>lia) ⟨.int G.length,H,I.tok _,⟨s.toks+1,by rw[fc,Z]⟩,q⟩
 .obtain⟨uv,r',R,hz⟩:=I.tuple U
  have Z:=r'.length;exact len_tuple R (by simp only[fc]<;>lia) ⟨.int G.length,H,I.tok _,⟨s.toks+1,by rw[fc,Z]⟩,q⟩
def Yv:Br X (.type "list") (λxs H Q=>∃p ys,xs=[.ref p]/\(Ew X.K H p ys\/Ey X.K H p ys)/\∀l,H l=none->Q (.ref l) (upd H l (.lst ys))):=by
 intro qq s σ H xs us Q I r h;obtain⟨p,ys,rfl,hq,q⟩:=h;obtain⟨u,rfl,rx⟩:=vals1 r;cases rx;have fin:∀(U:Zl),Vals ys U->ys.length<=sizeLine->∀(G:Heap)(R:Nat),(∀b o',s.heap.get? b=some o'->G.get? b=some o') ->
  G.get? s.heap.objs.size=some { cls:=.type "list",dict:=none,data:=.seq U.toArray R,slots:=#[] }->EP X qq σ Q (.ref s.heap.objs.size) { s with heap:=G }:=λU r' hz G R kp e =>
  ⟨.ref s.heap.objs.size,_,I.laid (t':=s.toks) kp (bc _) (show Ay X.prog X.w _ G _ (.lst ys) from⟨hz,U,R,r',e⟩),rfl,q _ (I.Am.fresh (bc _))⟩
 rcases hq with hq|hq
 .obtain⟨U,r',pl,hz⟩:=I.list hq
  have Z:=r'.length;obtain⟨o,ho,hc,n,hd⟩:=pl.isList;exact call_list_seq p (.inl rfl) ho hc hd (λG R kp e=>fin U r' hz G R kp e) (by simp only[fc]<;>exact a_ (g_ Z) hz)
 .obtain⟨U,r',pl,hz⟩:=I.tuple hq
  have Z:=r'.length;obtain⟨o,ho,hc,n,hd⟩:=pl;exact call_list_seq p (.inr rfl) ho hc hd (λG R kp e=>fin U r' hz G R kp e) (by simp only[fc]<;>exact a_ (g_ Z) hz)
def Vv:Br X (.type "tuple") (λxs H Q=>∃p G,xs=[.ref p]/\((Ew X.K H p G/\∀l,H l=none->Q (.ref l) (upd H l (.tup G)))\/(Ey X.K H p G/\Q (.ref p) H))):=by
 intro Z s σ H xs us Q I r h;obtain⟨p,G,rfl,h⟩:=h;obtain⟨u,rfl,rx⟩:=vals1 r;cases rx;rcases h with⟨hq,q⟩|⟨hq,q⟩
 .obtain⟨uv,r',pl,hz⟩:=I.list hq
  have U:=r'.length;refine call_tuple_list pl.isList (λR kp=>?_) (by simp only[fc]<;>exact a_ (g_ U) hz);have I1:Inv X Z σ H { s with heap:=R }:=I.kept (t':=s.toks) kp;have I2:Inv X Z σ (upd H R.objs.size (.tup G)) { s with heap:=R.push { cls:=.type "tuple",data:=.seq uv.toArray } } :=
   I1.laid (t':=s.toks) (λb o e=>aq _ e) (bc _) (show Ay X.prog X.w _ _ _ (.tup G) from⟨hz,uv,r',Vs.new _ _⟩)
  exact⟨.ref R.objs.size,_,I2,rfl,q _ (I1.Am.fresh (bc _))⟩
 .obtain⟨uv,r',pl,hz⟩:=I.tuple hq
  exact call_tuple_same pl ⟨.ref p,H,I,rfl,q⟩
def tyV(K:Fg)(T:String)(x:V)(H:Hp):Prop:=match x with
 |.str _=>T = "str"|.int _=>T = "int"
 |.ref p=>(T = "list"/\∃G,Ew K H p G)\/(T = "tuple"/\∃o,K.lookup p=some o/\o.cls=.type "tuple"/\o.dict=none) \/
  (T = "dict"/\((∃Z,H p=some (.dK Z))\/∃Z,H p=some (.dT Z)))\/(T = "set"/\∃S n,H p=some (.set S n))
 |_=>False
def awx(I:Inv X pins σ H s)(r:RelV x v)(U:tyV X.K T x H) :
 s.TypeIs v T/\∀a,v=.ref a->∃ob,s.heap.get? a=some ob/\ob.dict=none:=by
 cases x with
 |str z =>
  obtain⟨t,rfl⟩:=r;cases(show T = "str" from U);exact⟨typeIs_str s z t,λ_ e=>nomatch e⟩
 |int i =>
  obtain⟨t,rfl⟩:=r;cases(show T = "int" from U);exact⟨typeIs_int s i t,λ_ e=>nomatch e⟩
 |ref p =>
  cases r;rcases U with⟨rfl,xs,hq⟩|⟨rfl,o,Z,hc,R⟩|⟨rfl,Z⟩|⟨rfl,S,n,Z⟩
  .obtain⟨uv,_,pl,_⟩:=I.list hq
   refine⟨pl.isList.typeIs,λa e=>?_⟩;cases e;obtain⟨o,n,e,c,R,_⟩:=pl;exact⟨o,e,R⟩
  .refine⟨⟨o,I.kIn p o Z,hc⟩,λa e=>?_⟩
   cases e;exact⟨o,I.kIn _ o Z,R⟩
  .have z:∃o,s.heap.get? p=some o/\o.ExactDict:=by
    rcases Z with⟨o6,Z⟩|⟨o6,Z⟩
    .obtain⟨_,_,_,_,o,_,_,e,G,_⟩:=I.Am p _ Z
     exact⟨o,e,G⟩
    .obtain⟨_,_,_,_,o,_,_,e,G,_⟩:=I.Am p _ Z
     exact⟨o,e,G⟩
   obtain⟨o,e,G⟩:=z;refine⟨⟨o,e,G.1⟩,λa e2=>?_⟩;cases e2;exact⟨o,e,G.2.1⟩
  .obtain⟨o,_,_,_,e,G,_⟩:=I.Am p _ Z
   refine⟨⟨o,e,G.1⟩,λa e2=>?_⟩;cases e2;exact⟨o,e,G.2.1⟩
 |_=>exact False.elim U
def tBM(K:Fg)(T:String)(r:V->List V->Hp->VK->Prop)(R:TE)(t:TA):TE:=λG H Q=>R G H λx Z=>tyV K T x Z/\t G Z λU H2=>r x U H2 Q
theorem a1w{id:String}(pa:PlainAttrs T)(U:Slot T name id)(qk:typeOf (.builtin id)=pure (.type "method_descriptor"))(hm:MtR X id r)(ho:PE X o to)(ha:PA X (e::es) t)(qq:attributeBase o name X.env (eval o X.env)=eval o X.env:=by rfl)(qv:((backTo G (starEach (e::es) X.env)).all (λx=>!x.1)&&(backToKw G (keywordEach [] X.env)).all (λx=>x.1.isSome)
&&decide ((e::es).length+([]:List Keyword).length+(if([]:List Keyword).isEmpty then 0 else 1)<30))=true:=by rfl)(R:(apos.endLine==G.line)=true:=by rfl)(hs:starEach (e::es) X.env=(false,eval e X.env)::starEach es X.env:=by rfl)(q0:(backTo G (starEach es X.env)).any (·.1)=false:=by rfl) :
 PE X (.Call (.Attribute o name apos) (e::es) [] G) (tBM X.K T r to t):=by
 intro Z s σ H Q I h;refine wpAny_Call_method_late qq qv R rfl (Bf (ho Z s σ H _ I h) λv s1 z_=>?_);obtain⟨x,H1,I1,r1,ty,q1⟩:=z_;obtain⟨h1,h2⟩:=awx I1 r1 ty;refine⟨T,id,pa,U,qk,h1,h2,?_⟩;have hA:=ha G Z s1 σ H1 _ I1 q1;rw[hs] at hA ⊢;refine Calls.callWith_builtin (by show(false||(backTo G (starEach es X.env)).any (·.1))=false;rw[q0]<;>rfl) (Calls.evalArgs_plain ?_);exact Bf hA λus s2 ⟨vs,H2,I2,r2,q2⟩=>hm Z s2 σ H2 x vs v us Q I2 r1 r2 q2
end L2
namespace L2
open PySem PySem.Spec PyProof.Rows
def MtM(X:Cx)(id:String)(r:V->List V->Hp->VK->Prop):Prop :=
 ∀(Z:Zp)(s:Shared)(U:St)(H:Hp)(x:V)(R:List V)(v:Value)(G:Zl)(Q:VK),Inv X Z U H s->RelV x v->Vals R G->r x R H Q ->
  wpAny (model X.prog X.w) X.A (call (.builtin id) (v::G)) (EP X Z U Q) X.xe s
theorem Vals.one:∀{x:V}{Z:Zl},Vals [x] Z->∃u,Z=[u]/\RelV x u
 |_,_,.cons r .nil=>⟨_,rfl,r⟩
def Inv.a1x{Z:Zl}(I:Inv X pins σ H s)(hH:H l=some (.lst xs))(e:s.heap.get? l=some { cls:=.type "list",data:=.seq Z.toArray n })(R:f Z.toArray=its'.toArray)(hv:Vals G its')(hz:G.length<=sizeLine) :
 Inv X pins σ (upd H l (.lst G)) { s with heap:=s.heap.update l (Obj.mapSeq f),toks:=t' }:=by
 have q:=PySem.IsL.update e f;rw[R] at q;refine I.write (x:=l) (e:=l) (by rw[hH];exact trivial) (.inl rfl) (λb' u hb U=>(Heap.get?_update_other s.heap (Obj.mapSeq f) (kh hb)).trans U) ⟨_,q⟩ ?_;exact⟨hz,its',_,hv,q⟩
def Inv.a85(I:Inv X pins σ H s)(R:Vals G Z)(U:G.length<=sizeLine) :
 Inv X pins σ (upd H s.heap.objs.size (.lst G)) { s with heap:=s.heap.push { cls:=.type "list",data:=.seq Z.toArray },toks:=t' } :=
 I.laid (λ_ _ q=>aq _ q) (bc _) ⟨U,Z,0,R,bu _ rfl⟩
theorem Inv.fresh(I:Inv X pins σ H s):H s.heap.objs.size=none:=I.Am.fresh (bc _)
def Inv.ahj(I:Inv X pins σ H s)(U:H l=some (.lst G)):G.length<=sizeLine/\∃(Z:Zl)(n:Nat),Vals G Z/\G.length=Z.length/\s.heap.get? l=some { cls:=.type "list",data:=.seq Z.toArray n }:=by obtain⟨z,Z,n,r,e⟩:=I.Am l _ U;exact⟨z,Z,n,r,r.length,e⟩
def alg(h:n<=sizeLine):Builtin.List.listTooLong n=false:=by unfold Builtin.List.listTooLong;exact u0 (j_ h)
def ap6:V->List V->Hp->VK->Prop:=λx G H Q=>∃l Z y,x=.ref l/\G=[y]/\H l=some (.lst Z)/\Z.length<sizeLine/\Q .non (upd H l (.lst (Z++[y])))
def W4:MtM X "list.append" ap6:=by intro Z s σ H x vs v us Q I rx rv h;obtain⟨l,xs,y,rfl,rfl,G,R,q⟩:=h;cases rx;obtain⟨u,rfl,ru⟩:=rv.one;obtain⟨z,U,n,r,hl,e⟩:=I.ahj G;refine call_meets F.slot_list_append ⟨_,e,rfl⟩ F.entry_list_append (F.args_list_append_2 _ _) (PySem.list_append l U.toArray n u (by rw[fc];exact e_ (c_ (g_ hl) R))) ⟨e,?_⟩;refine⟨.non,_,I.a1x (its':=U++[u]) G e (by simp) (r.append (.cons ru .nil)) ?_,rfl,q⟩;rw[jd,List.length_singleton];exact R
def ap7:V->List V->Hp->VK->Prop:=λx U H Q=>∃l b G Z,x=.ref l/\U=[.ref b]/\H l=some (.lst G)/\H b=some (.lst Z)/\G.length+Z.length<=sizeLine/\Q .non (upd H l (.lst (G++Z)))
def ahk:MtM X "list.extend" ap7:=by
 intro qq s σ H x vs v us Q I rx rv h;obtain⟨l,b,xs,zs,rfl,rfl,hH,hB,hz,q⟩:=h;cases rx;obtain⟨u,rfl,ru⟩:=rv.one;cases ru;obtain⟨z,U,n,r,hl,e⟩:=I.ahj hH;obtain⟨z2,Z,n2,r2,qk,e2⟩:=I.ahj hB;have G:U.toArray.size+Z.toArray.size<=sizeLine:=by rw[fc,fc];lia
 have R:¬(!U.toArray.isEmpty&&Builtin.List.listTooLong (U.toArray.size+Z.toArray.size))=true:=by rw[alg G,Bool.and_false];exact ir
 refine call_meets F.slot_list_extend ⟨_,e,rfl⟩ F.entry_list_extend (F.args_list_extend_2 _ _)
  (AutoSeq1.list_extend_list_list_0 l U.toArray n b Z.toArray n2 R (by rw[fc];exact a_ (g_ hl) z) (a_ G x_)) ⟨e,e2,?_⟩
 refine⟨.non,_,I.a1x (its':=U++Z) hH e (by simp) (r.append r2) ?_,rfl,q⟩;rw[jd];exact hz
def a1z:R2:=λx y H Q=>∃l b G Z,x=.ref l/\y=.ref b/\H l=some (.lst G)/\H b=some (.lst Z)/\G.length+Z.length<=sizeLine/\∀p,H p=none->Q (.ref p) (upd H p (.lst (G++Z)))
def awz:Bv X (binaryOp .Add) a1z:=by
 intro U s σ H x y v u Q I rx ry h;obtain⟨l,b,xs,zs,rfl,rfl,hH,hB,hz,q⟩:=h;cases rx;cases ry;obtain⟨z,G,n,r,hl,e⟩:=I.ahj hH;obtain⟨z2,Z,n2,R,qq,e2⟩:=I.ahj hB;refine PySem.P.add_list e e2 ?_ (by rw[fc,fc];lia);have ea:G.toArray++Z.toArray=(G++Z).toArray:=by simp
 rw[ea];exact⟨.ref _,_,I.a85 (t':=s.toks) (r.append R) (by rw[jd];exact hz),rfl,q _ I.fresh⟩
end L2
namespace Att
open PySem PySem.W PySem.Calls PyProof.Rows
def Rm:∀(ns:X9)(Z:Zl),WellAll P h Z (ns.map WData.int)->IntsAre Z ns:=by
 intro ns
 induction ns with
 |nil =>
  intro Z w;rw[Ak] at w;cases w;exact .nil
 |cons n ns G =>
  intro Z w;rw[di] at w;cases w with
  |cons a b =>
   cases a;exact .cons _ _ (G _ b)
def ahl{l:OpenLaw}(hn:l.most=some n)(U:l.row.toRowW.claim.pre args=true)(qq:WellAll P h vals args) :
 ∃a vs Z,vals=[Value.ref a]/\args=[WData.list (Z.map WData.int)]/\h.get? a=some { cls:=.type "list",data:=.seq vs.toArray }/\IntsAre vs Z/\Z.length<=n:=by
 have qk:WShape.hasAll [] args [.list .int]=true:=(pre_splitW U).1;have hc:l.pre.holds [] { args:=args }=true:=(pre_splitW U).2;obtain⟨d,r,rfl,h1,h2⟩:=hasAllW_cons qk;obtain rfl:=hasAllW_nil h2;obtain⟨xs,rfl,h3⟩:=hasW_list h1;obtain⟨Z,rfl⟩:=items_int h3;have G:Z.length<=n:=by
  unfold OpenLaw.pre at hc;have R:(WTm.not (.lt (.lit (.int (n:Int))) (.len (.arg 0)))).holds [] { args:=[.list (Z.map .int)] }=true:=by have R:=(holds_andW hc).1;rw[hn] at R;exact R
  have h5:=condW_of R (w_not (w_lt w_lit (w_len_list (w_arg rfl))));rw[dh] at h5;refine Nat.le_of_not_lt λq=>?_
  have q':(n:Int)<((Z.length:Nat):Int):=m_ q
  first
   |(rw[decide_eq_true q'] at h5;exact absurd h5 (by decide))
   |(simp at h5;omega)
 cases qq with
 |cons w1 w2 =>
  cases w2;cases w1 with
  |list ho J6=>exact⟨_,_,Z,rfl,rfl,ho,Rm Z _ J6,G⟩
def ahm(l:OpenLaw)(Z:List WData):l.row.toRowW.claim.post Z (.bool true) Z=true :=
 postW_of (r:=l.row.toRowW) (X:=(true==true))
  (show WShape.has [] (.bool true) .bool=true by first|rfl|decide|simp[WShape.has,WShape.arms,WShape.armsAll])
  (show(WTm.eq .res (.lit (.bool true))).value [] { args:=Z,res:=some (.bool true),after:=Z }=some (.bool (true==true)) from w_eq_bool (w_res rfl) w_lit) rfl
def aay{l:OpenLaw}(hn:l.most=some n)(q1:d.params.defaults=[])(call:∀(w:World) (U Z:Shared) (mg mb:Zs) (fa:Addr) (o:Obj) (pm cd qq:Value) (a:Addr) (vs:Zl) (ns:X9),
 Ground q loose [] XP w U mg mb Z.heap->YP w Z.heap ->
 Z.heap.get? fa=some o->o.data=.func (docDef d.name d.params d.body d.scope pm cd qq)->Z.heap.CodeRec cd d.name->mg d.name=some (.ref fa) ->
 Z.heap.get? a=some { cls:=.type "list",data:=.seq vs.toArray }->IntsAre vs ns->ns.length<=n->Z.gens=#[] ->
 codeAny (model l.prog w) callerA (.call (.ref fa) ⟨[.ref a],[]⟩) (λr s'=>r=.ok (.ret (.bool true))/\OldK Z.heap s'.heap/\s'.os=Z.os/\AllBare s'.gens) Z) :
 WalkO q loose XP YP l.row.toRowW d [] (λf vs=>PySem.call f vs):=by
 intro w U Z mg mb G Y fa o pm cd qq dV kV ho hd q3 hD q0 hg q5 vals as q4 q7 zz q2 q6;obtain rfl:dV=.none:=Dflts.none hD q1;obtain rfl:kV=.none:=Dflts.noKw hD;obtain⟨a,vs,ns,rfl,rfl,qv,R,qk⟩:=ahl hn q4 q2;refine enter_call (codeAny_mono (call w U Z mg mb fa o pm cd qq a vs ns G Y ho (fd_plain hd) q3 q0 qv R qk hg) λr s' hq=>?_);obtain⟨rfl,h2,h3,h4⟩:=hq;exact⟨.inl ⟨.bool true,.bool true,[],rfl,λ_=>rfl,.bool true,ahm l _,λ_=>⟨List.Pairwise.nil,λ_ hm=>(nomatch hm)⟩⟩,h2,h3,h4⟩
end Att
namespace L2
open PySem PySem.Spec PyProof.Rows
theorem W5:∀{Z:Zl}{G:X9},IntsAre Z G->Vals (G.map V.int) Z
 |_,_,.nil=>.nil|_,_,.cons n t h=>.cons ⟨t,rfl⟩ (W5 h)
def Only(H:Hp):Prop:=∀b,H b=none\/∃o Z,H b=some (.Ih o (.lst Z))
def alh{K:Fg}(KX:K.In s₁.heap)(q1:s₁.heap.Ns mainGlobals mg)(Z:s₁.heap.Ns builtinsNs mb)(zz:∀x:Str,x≠"__name__" -> mb x=bootBuiltins x)(q5:s₁.heap.NoLimit)(hg:s₁.gens=#[])(ha:s₁.heap.get? a=some { cls:=.type "list",data:=.seq vs.toArray })(hi:IntsAre vs ns)(hl:ns.length<=sizeLine)(hr:Ac k callerA)(F:∀G:Heap,K.In G->G.Ns mainGlobals mg->Fi P w K mg G CX k fa fd [x] sp)(q2:∀(s:Shared) (u:Value),BindsTo s fd ⟨[u],[]⟩ [(x,u)])(q3:∀H:Hp,Only H->Ew K H a (ns.map V.int)->sp [.ref a] H (λv _=>v=.bl true) λ_ _ _=>False)(q4:∀H e U,CX [] H s₁ (λ_ _ _=>False) e U->False) :
 codeAny (model P w) callerA (.call (.ref fa) ⟨[.ref a],[]⟩) (λr U=>r=.ok (.ret (.bool true))/\OldK s₁.heap U.heap/\U.os=s₁.os/\AllBare U.gens) s₁:=by
 have rv:=W5 hi;have qv:=hi.length;have qq:∀H:Hp,Only H->Ew K H a (ns.map V.int)->Nj P w H s₁.heap->(∀b,H b≠none->b=a)->(H a≠none->K.lookup a=none) ->
  codeAny (model P w) callerA (.call (.ref fa) ⟨[.ref a],[]⟩) (λr U=>r=.ok (.ret (.bool true))/\OldK s₁.heap U.heap/\U.os=s₁.os/\AllBare U.gens) s₁:=by
  intro H hO hS Am hA hK;have Dw:∀{b:Addr}{o:Obj},s₁.heap.get? b=some o->H b=none->(Yk s₁.heap H).get? b=some o:=λe n=>akl e n
  have q7:∀{b:Addr}{o:Obj}{es:Array DictEntry}{ep:Nat},s₁.heap.get? b=some o->o.data=.dict es ep->H b=none:=fun{b o es ep} e d=>by
   cases q:H b with
   |none=>rfl
   |some u =>
    have e':b=a:=hA b (by rw[q];simp);subst e';rw[ha] at e;cases e;have d':Data.seq vs.toArray _=Data.dict es ep:=d;cases d'
  have R:∀{b:Addr}{m:Zs},s₁.heap.Ns b m->(Yk s₁.heap H).Ns b m:=fun{b m} ⟨o,es,ep,e,d,r⟩=>⟨o,es,ep,Dw e (q7 e d),d,r⟩
  have qk:K.In (Yk s₁.heap H):=λb o e=>Dw (KX b o e) (by
   cases q:H b with
   |none=>rfl
   |some u =>
    have e':b=a:=hA b (by rw[q];simp);subst e';rw[hK (by rw[q];simp)] at e;cases e)
  have hM:Mod K mg (Yk s₁.heap H):=⟨qk,R q1,⟨mb,R Z,zz⟩,let ⟨mc,h1,h2⟩:=q5;⟨mc,R h1,h2⟩⟩;have e0:ada P w K mg (Yk s₁.heap H) callerA [] s₁ H:=⟨rfl,hM,λb o e=>apd e,Nat.le_of_eq (ag4 _ _),trivial,λb Z=>absurd (show b∈([]:X1) from Z) (by simp),Am,.of_eq hg⟩;refine codeAny_mono ((F _ qk (R q1)).run callerA [] s₁ H ⟨[.ref a],[]⟩ [.ref a] [.ref a] _ _ hr e0 (q2 s₁ (.ref a)) (.cons rfl .nil) (q3 H hO hS)) λr U h=>?_
  cases r with
  |error e=>exact(q4 H e U h).elim
  |ok fl =>
   cases fl with
   |next=>exact False.elim h|brk=>exact False.elim h|cont=>exact False.elim h
   |ret u =>
    obtain⟨v,H',os,q0,un,q6,r',q⟩:=h;have q':v=.bl true:=q;subst q';obtain rfl:u=Value.bool true:=r';refine⟨rfl,OldK.of_keep λb o e=>?_,os,q0⟩;cases q:H b with
    |none=>exact un.keep b o e q (by intro z;exact absurd (show b∈([]:X1) from z) (by simp)) (by simp)
    |some u =>
     rcases hO b with z|⟨ob,xs,z⟩
     .rw[q] at z;cases z
     .have z2:=un.Yj b ob _ z
      obtain⟨e1,_⟩:=Am b _ z;obtain⟨e2,_⟩:=q6 b _ z2;rw[e] at e1;cases e1;exact e2
 cases hk:K.lookup a with
 |some o =>
  have e:=KX a o hk;rw[ha] at e;cases e;refine qq (λ_=>none) (λ_=>.inl rfl) (.inr ⟨_,vs.toArray,_,hk,rfl,rfl,rfl,by rw[fc,qv];exact hl,by simpa using rv⟩) (λb u z=>by have z':(none:Option HO)=some u:=z;cases z') (λb z=>absurd rfl z) λz=>absurd rfl z
 |none =>
  refine qq (λb=>if b=a then some (.Ih { cls:=.type "list",data:=.seq vs.toArray } (.lst (ns.map V.int))) else none) (λb=>?_) (.inl (.inr ⟨{ cls:=.type "list",data:=.seq vs.toArray },bz rfl⟩)) (λb u z=>?_) (λb z=>?_) λ_=>hk
  .by_cases Z:b=a
   .exact .inr ⟨_,_,bz Z⟩
   .exact .inl (cj Z)
  .by_cases Z:b=a
   .have z':=(bz Z).symm.trans z
    cases z';subst Z;exact⟨ha,by rw[dh];exact hl,vs,_,rv,ha⟩
   .have z':=(cj Z).symm.trans z
    cases z'
  .by_cases Z:b=a
   .exact Z
   .exact absurd (cj Z) z
end L2
namespace L2
open PySem PySem.Spec PyProof.Rows
def ap9{l:PySem.W.OpenLaw}{K:Params->Fg}{CX:World->CXT}{sp:World->Sp}(hn:l.most=some n)(q3:n<=sizeLine)(q0:d.params.defaults=[])(hr:Ac k callerA)(hY:∀(w:World) (h:Heap),YP w h->(K w.params).In h)(F:∀(w:World) (mg:Zs) (fa:Addr) (h:Heap),(K w.params).In h->h.Ns mainGlobals mg->mg d.name=some (.ref fa) ->
 ∃fd:FuncData,(∀(s:Shared) (u:Value),BindsTo s fd ⟨[u],[]⟩ [(x,u)]) /\
  ∀Z:Heap,(K w.params).In Z->Z.Ns mainGlobals mg->Fi l.prog w (K w.params) mg Z (CX w) k fa fd [x] (sp w))(q1:∀(w:World) (H:Hp) (a:Addr) (ns:X9),ns.length<=n->Only H->Ew (K w.params) H a (ns.map V.int)->sp w [.ref a] H (λv _=>v=.bl true) λ_ _ _=>False)(q2:∀(w:World) (H:Hp) (s:Shared) (e:Value) (s':Shared),CX w [] H s (λ_ _ _=>False) e s'->False) :
 PySem.W.WalkO q loose XP YP l.row.toRowW d [] (λf vs=>PySem.call f vs):=by
 refine Att.aay hn q0 λw q4 qq mg mb fa o pm cd q6 a vs ns G Y ho hd q5 qv qk R U hg=>?_
 have KX:=hY w _ Y;obtain⟨fd,hb,hF⟩:=F w mg fa _ KX G.T.g qv;exact alh KX G.T.g G.T.b G.T.builtins G.T.nolimit hg qk R (az U q3) hr hF hb (λH hO hS=>q1 w H a ns U hO hS) λH e s'=>q2 w H qq e s'
end L2
namespace L2
open PySem PySem.Spec PyProof.Rows
noncomputable def inClass(s:Stmt)(j:Nat):Stmt:=match s with
 |.ClassDef _ _ _ body _ _ _ _ _ _ _=>body.getD j (.Pass ⟨0,0,0,0⟩)|_=>.Pass ⟨0,0,0,0⟩
noncomputable def Ho(s:Stmt):Arguments:=match s with
 |.FunctionDef _ a _ _ _ _ _ _ _ _=>a|_=>{ posonlyargs:=[],args:=[],vararg:=none,kwonlyargs:=[],kw_defaults:=[],kwarg:=none,defaults:=[] }
noncomputable def Es(s:Stmt):List Stmt:=match s with
 |.FunctionDef _ _ b _ _ _ _ _ _ _=>b|_=>[]
noncomputable def Ah(s:Stmt):Scope:=match s with
 |.FunctionDef _ _ _ _ _ _ sc _ _ _=>sc|_=>{ kind:=.function,names:=[],isGenerator:=false,isCoroutine:=false }
abbrev Zq:CXT:=λ_ _ _ _ _ _=>False
abbrev E0:XK:=λ_ _ _=>False
def ali:Passes Zq X E0:=λ_ _ _ _ _ _ _ h=>h.elim
structure Fun(K:Fg)(x qual:Str)(st:Stmt)(f:Addr)(fd:FuncData):Prop where
 ex:∃(oc:Value)(od:Option Addr)(kV doc pm:Value)(an:Option Addr)(cdv ct:Value)(osl:Array (Option Value)),
  fd=PySem.W.fnOf x qual (Ho st) (Es st) (Ah st) .none kV doc pm an cdv ct/\K.lookup f=some ⟨oc,od,.func fd,osl⟩/\PySem.W.codeIn K cdv qual=true
 kp:PySem.W.keepIn K (.ref f)=true
def Fun.ok{K:Fg}{R:Stmt}(F:Fun K x qual R f fd)(S:Sh N ps (Ah R))(len:∀U H Q E,sp U H Q E->U.length=ps.length)(qv:∀(G:Value) (A:Around) (Z:List Env) (s:Shared) (H:Hp) (U:List V) (Q:VK) (E:XK),Ac k (A.deeper (envOfC qual (Ah R) s.heap.objs.size f G))->sp U H Q E ->
 ∃t,Ox (adb Zq P w K mg base N qual (Ah R) f G A Z s H E).nox (Es R) t/\t { nx:=λ_ H'=>Q .non H',rt:=Q } (start N U) H):Fi P w K mg base Zq (k+1) f fd ps sp:=by
 obtain⟨oc,od,kV,q1,pm,an,G,ct,q0,rfl,lk,qq⟩:=F.ex;refine a1l lk qq S len λA Z s H U Q E hr qk=>?_
 obtain⟨t,h,q⟩:=qv G A Z s H U Q E hr qk;exact⟨t,h.nox,q⟩
def Fun.binds{K:Fg}{U:Stmt}(F:Fun K x qual U f fd)(h:∀(kV G pm:Value) (an:Option Addr) (Z R:Value) (us:Zl),us.length=ps.length->bindArgs (PySem.W.fnOf x qual (Ho U) (Es U) (Ah U) .none kV G pm an Z R) ⟨us,[]⟩=pure (ps.zip us)):Binds K fd ps []:=by obtain⟨oc,od,kV,G,pm,an,Z,R,qk,rfl,lk,qq⟩:=F.ex;exact .all (h kV G pm an Z R)
def alj{K:Fg}{G:Stmt}{f:Addr}{oc:Value}{od an:Option Addr}{R:Array (Option Value)}{kV U pm Z ct:Value}(l:K.lookup f=some ⟨oc,od,.func (PySem.W.fnOf x qual (Ho G) (Es G) (Ah G) .none kV U pm an Z ct),R⟩)(c:PySem.W.codeIn K Z qual=true)(k:PySem.W.keepIn K (.ref f)=true):Fun K x qual G f (PySem.W.fnOf x qual (Ho G) (Es G) (Ah G) .none kV U pm an Z ct):=⟨⟨oc,od,kV,U,pm,an,Z,ct,R,rfl,l,c⟩,k⟩
def afo{A:Around}{k:Nat}(Z:Ac k A):A.units+1<cLine:=Nat.lt_of_le_of_lt (Nat.add_le_add_left (by decide:1<=64) _) Z.units
end L2
namespace L2
open PySem PySem.Spec PyProof.Rows
noncomputable def Ip(cells:Xt):List (Str×NameKind)->List (Str×Addr)->List (Str×Addr)
 |[],cs=>cs|(n,k)::r,cs=>Ip cells r (if k==.free then(n,(cells.lookup n).getD 0)::cs else cs)
theorem Q8{G Z:Type}{f:G->Z->Sem (ForInStep Z)}{g:G->Z->Z}:∀{l:List G}(c:Z),(∀x∈l,∀c,f x c=pure (.yield (g x c)))->forIn l c f=pure (l.foldl (λc x=>g x c) c)
 |[],c,_=>rfl
 |x::l,c,h=>by
  rw[List.forIn_cons,h x bx,pure_bind];exact Q8 (g x c) λy U=>h y (bh _ U)
theorem Q9(cells:Xt):∀(l:X0)(Z:Xt),Ip cells l Z=l.foldl (λc x=>if x.2==.free then(x.1,(cells.lookup x.1).getD 0)::c else c) Z
 |[],_=>rfl|(n,k)::r,Z=>Q9 cells r _
def Ux(h:∀y∈scope.names,y.2=.free->∃c,env.cells.lookup y.1=some c):closureFor scope env=pure (Ip env.cells scope.names []):=by
 simp only[closureFor];rw[Q8 (g:=λx c=>if x.2==.free then(x.1,(env.cells.lookup x.1).getD 0)::c else c) [] (λx R c=>by
  obtain⟨n,k⟩:=x
  by_cases G:k=.free
  .subst G
   obtain⟨c',Z⟩:=h (n,.free) R rfl;have Z:env.cells.lookup n=some c':=Z;simp[cellOf,Z]
  .have U:(k==NameKind.free)=false:=by simpa using G
   simp[U]),Q9]
 rfl
theorem aaz(cells:Xt):∀(l:X0)(G:Xt)(x:Str)(c:Addr),(∀y∈l,y.2=.free->∃c,cells.lookup y.1=some c)->(Ip cells l G).lookup x=some c ->
 G.lookup x=some c\/cells.lookup x=some c
 |[],G,x,c,_,h=>.inl h
 |(n,k)::r,G,x,c,hy,h=>by
  rcases aaz cells r _ x c (λz hz=>hy z (bh _ hz)) h with q|q
  .by_cases U:k=.free
   .subst U
    simp only[zu,jk,m7] at q;cases e:x==n with
    |true =>
     rw[e] at q;obtain⟨c',Z⟩:=hy (n,.free) bx rfl;have Z:cells.lookup n=some c':=Z;simp only[Z,Option.getD_some,Option.some.injEq] at q;subst q;rw[eq_of_beq e];exact .inr Z
    |false=>rw[e] at q;exact .inl q
   .have R:(k==NameKind.free)=false:=by simpa using U
    simp only[R,dj,jg] at q;exact .inl q
  .exact .inr q
theorem Uy(cells:Xt):∀(l:X0)(Z:Xt)(x:Str),(∃c,Z.lookup x=some c)->∃c,(Ip cells l Z).lookup x=some c
 |[],Z,x,h=>h
 |(n,k)::r,Z,x,h=>by
  refine Uy cells r _ x ?_
  by_cases G:(k==NameKind.free)=true
  .rw[bz G,m7]
   cases e:x==n with
   |true=>exact⟨_,rfl⟩|false=>exact h
  .rw[cj G];exact h
theorem Qj(cells:Xt):∀(l:X0)(Z:Xt)(x:Str),(x,NameKind.free)∈l->∃c,(Ip cells l Z).lookup x=some c
 |(n,k)::r,Z,x,h=>by
  rcases dg.mp h with q|q
  .obtain⟨rfl,rfl⟩:=Prod.mk.inj q
   refine Uy cells r _ x ⟨(cells.lookup x).getD 0,?_⟩;rw[bz (by simp),m7,zu]
  .exact Qj cells r _ x q
theorem La{Z:Env}:∀{G:X0}{x:Str},
 (G.map λ(y:Str×NameKind)=>if(y.2==NameKind.free&&Z.scope.kind==.function&&Z.kindOf y.1==some .cell) then(y.1,NameKind.cell) else(y.1,y.2)).lookup x
  = (G.lookup x).map λk=>if(k==NameKind.free&&Z.scope.kind==.function&&Z.kindOf x==some .cell) then NameKind.cell else k
 |[],_=>rfl
 |(n,k)::r,x=>by
  have R:=@La Z r x;rw[di];cases hx:x==n with
  |true =>
   have e:=eq_of_beq hx;subst e;clear hx
   by_cases U:(k==NameKind.free&&Z.scope.kind==.function&&Z.kindOf x==some .cell)=true
   .simp only[U,jk,m7,zu,qj]
   .have hb:(k==NameKind.free&&Z.scope.kind==.function&&Z.kindOf x==some .cell)=false:=by simpa using U
    simp only[hb,dj,jg,m7,zu,qj]
  |false =>
   by_cases U:(k==NameKind.free&&Z.scope.kind==.function&&Z.kindOf n==some .cell)=true
   .simp only[U,jk,m7,hx];exact R
   .simp only[U,m7,hx];simpa[m7,hx] using R
theorem mem_of_lookup{Z G:Type}[BEq Z][LawfulBEq Z]:∀{l:List (Z×G)}{x:Z}{y:G},l.lookup x=some y->(x,y)∈l
 |(a,b)::r,x,y,h=>by
  rw[m7] at h;cases e:x==a with
  |true=>rw[e] at h;cases h;rw[eq_of_beq e];exact bx|false=>rw[e] at h;exact bh _ (mem_of_lookup h)
def J9(X:Cx)(N:Yf)(Z:Scope)(C:Addr)(G:X1)(s:Shared)(H:Hp):Cx where
 prog:=X.prog
 w:=X.w
 K:=X.K
 mg:=X.mg
 base:=X.base
 A:=X.A
 N:=N
 s₀:=s
 H₀:=H
 env:=compEnvC Z (Ip X.env.cells Z.names []) C X.env
 outer:=X.stack
 stack:=X.stack
 ex:=G
 fn:=λ_=>false
 calm:=X.calm
 pn:=[]
 xe:=λ_ _=>False
structure Fo(X:Cx)(N:Yf)(scope:Scope):Prop where
 kind:scope.kind=.function
 alk:∀y∈scope.names,y.2≠.cell
 locs:∀y∈scope.names,y.2=.local->scope.names.lookup y.1=some .local
 frees:∀y∈scope.names,y.2=.free->X.env.kindOf y.1=some .cell\/X.env.kindOf y.1=some .free
 uniq:∀x k,(x,k)∈scope.names->scope.names.lookup x=some k
 long:X.N.length<=N.length
 vis:∀i x,i<X.N.length->N[i]?=some x->Vis (relabel scope X.env) x->X.N[i]?=some x/\scope.names.lookup x=some .free
theorem Fo.cells(B:Fo X N scope)(ok:X.Ok):∀y∈scope.names,y.2=.free->∃c,X.env.cells.lookup y.1=some c:=λy Z G=>ok.has y.1 (B.frees y Z G)
def Fo.clos(B:Fo X N scope)(ok:X.Ok):closureFor scope X.env=pure (Ip X.env.cells scope.names []):=Ux (B.cells ok)
def Fo.inCells(B:Fo X N scope)(ok:X.Ok)(h:(Ip X.env.cells scope.names []).lookup x=some c):X.env.cells.lookup x=some c:=by
 rcases aaz _ _ _ _ _ (B.cells ok) h with q|q
 .simp at q
 .exact q
def aa0{X:Cx}(x:Str):(compEnvC scope cl C X.env).kindOf x=(scope.names.lookup x).map λk=>if(k==NameKind.free&&X.env.scope.kind==.function&&X.env.kindOf x==some .cell) then NameKind.cell else k:=by show(relabel scope X.env).names.lookup x=_;exact La
def ahn(B:Fo X N scope)(I:Inv X pins σ H s)(hf:∀b∈fp,Rj X pins H b)(q1:∀b∈fp,∃o,s.heap.get? b=some o)(q2:R.Ns (s.heap.objs.size+1) λ_=>none)(hk:∀b o,s.heap.get? b=some o->R.get? b=some o)(Vx:R.get? s.heap.objs.size=some { cls:=.type "list",data:=.seq ([]:Zl).toArray }) :
 Inv (J9 X N scope (s.heap.objs.size+1) fp s H) [] (σ++List.replicate (N.length-X.N.length) none) (upd H s.heap.objs.size (.lst [])) { s with heap:=R,toks:=t }:=by
 have ok:=I.ok;have hD:H s.heap.objs.size=none:=I.Am.fresh (bc _);have hC:H (s.heap.objs.size+1)=none:=I.Am.fresh (n6 _);have q0:s.heap.objs.size+1≠s.heap.objs.size:=Nat.succ_ne_self _;have lt:∀b∈fp,b<s.heap.objs.size:=λb hb=>by obtain⟨o,e⟩:=q1 b hb;exact bf e
 have qk:∀x c,X.env.cells.lookup x=some c->c<s.heap.objs.size:=λx c e=>by obtain⟨v,o,ho,_⟩:=I.cell x c e;exact bf ho
 refine⟨⟨ok.mod,B.kind,ok.glob,ok.blt,n6 _,?_,?_,?_,ok.hd,ok.frames,.inl rfl,?_,λb o e=>I.bs b o e,az ok.bsz I.sz,?_,?_,I.stack,I.ae7⟩,rfl,I.bare,?_,?_,?_,?_,?_,?_,?_,?_⟩
 .intro x y c G hy
  exact ok.inj x y c (B.inCells ok G) (B.inCells ok hy)
 .intro x G
  rw[show(J9 X N scope (s.heap.objs.size+1) fp s H).env.kindOf x=_ from aa0 x] at G;cases e:scope.names.lookup x with
  |none=>rw[e] at G;rcases G with q|q<;>simp at q
  |some k =>
   have Q3:k=.free:=by
    rw[e] at G;cases k with
    |free=>rfl|cell=>exact absurd rfl (B.alk _ (mem_of_lookup e))|«local»=>rcases G with q|q<;>simp at q
    |globalExplicit=>rcases G with q|q<;>simp at q
    |globalImplicit=>rcases G with q|q<;>simp at q
   subst Q3;exact Qj _ _ _ _ (mem_of_lookup e)
 .intro x c h;cases h
 .intro b hb
  refine⟨λe=>?_,λx c hc e=>?_⟩
  .have q:=lt b hb
   have e:b=s.heap.objs.size+1:=e;rw[e] at q;exact absurd q (Nat.not_lt.mpr (n6 _))
  .obtain⟨_,_,_,_,f4,_⟩:=hf b hb
   exact f4 x c (B.inCells ok hc) e
 .intro b o e hb
  obtain⟨_,_,_,f3,_⟩:=hf b hb;rcases f3 with q|q
  .exact ok.akn b o e q
  .exact o8 _ (gw (bf e) (az ok.bsz q))
 .intro b hb q
  obtain⟨_,f1,f2,_⟩:=hf b hb;rcases dg.mp (I.Yl b q) with z|z
  .exact f1 z
  .exact f2 z
 .exact Un.laid hk (bc _) hD
 .refine⟨_,q2,λi x v hN Z hv=>?_⟩
  have hi:i<X.N.length:=by
   rcases jo i σ.length with q|q
   .rw[I.len] at q;exact q
   .rw[p8 q] at Z
    rw[List.getElem?_replicate] at Z;split at Z<;>simp at Z
  rw[gb (by rw[I.len];exact hi)] at Z;obtain⟨G,Q3⟩:=B.vis i x hi hN hv;obtain⟨m,_,hl⟩:=I.loc;have qq:=B.frees _ (mem_of_lookup Q3) rfl;have qv:Vis X.env.scope x:=by
   rcases qq with q|q
   .exact .inr (.inl q)
   .exact .inr (.inr q)
  obtain⟨u,ru,lu⟩:=hl i x v G Z qv;refine⟨u,ru,.inr ⟨?_,?_⟩⟩
  .rw[show(J9 X N scope (s.heap.objs.size+1) fp s H).env.kindOf x=_ from aa0 x,Q3]
   simp only[qj];split
   .exact .inl rfl
   .exact .inr rfl
  .rcases lu with⟨q,_⟩|⟨_,c,hc,ic⟩
   .rcases qq with z|z<;>rw[q] at z<;>cases z
   .obtain⟨c',U⟩:=Qj X.env.cells scope.names [] x (mem_of_lookup Q3)
    have:=B.inCells ok U;rw[hc] at this;cases this;exact⟨c,U,ic.keeps hk⟩
 .intro x c hc
  obtain⟨v,iv⟩:=I.cell x c (B.inCells ok hc);exact⟨v,iv.keeps hk⟩
 .show upd H s.heap.objs.size (.lst []) (s.heap.objs.size+1)=none
  rw[lz q0];exact hC
 .intro x c hc
  have U:=B.inCells ok hc;rw[lz (ie (qk x c U))];exact I.K6 x c U
 .intro p hp;simp[J9] at hp
 .exact Nj.laid I.Am hk (bc _) ⟨iy _,[],0,.nil,Vx⟩
 .show(σ++List.replicate (N.length-X.N.length) none).length=N.length
  rw[jd,List.length_replicate,I.len];have:=B.long;omega
def Lb(I:Nat->Shared->Prop)(q6:∀n s,I n s->wpAny (model prog w) A (pyNext it) (λr qq=>match r with
 |none=>R (.ok .next) qq
 | some v=>wpAny (model prog w) A (letOwnedTupleGo target it v) (λ_ Z=>wpAny (model prog w) A (assign target env v) (λ_ q1 =>
  wpAny (model prog w) A (forIn ifs true λc r=>if r=true then do let ok <- isTrue c env (eval c env);pure (ForInStep.yield ok) else pure (ForInStep.yield r)) (λok G =>
   if ok=true then wpAny (model prog w) A (eval elt env) (λx qv =>
    wpAny (model prog w) A (call (.builtin "list.append") [acc,x]) (λ_ q0=>∃m,m<n/\I m q0) (λ_ _=>False) qv) (λ_ _=>False) G
   else ∃m,m<n/\I m G) (λ_ _=>False) q1) (λ_ _=>False) Z) (λ_ _=>False) qq) (λ_ _=>False) s)(n:Nat)(h:I n s) :
 codeAny (model prog w) A (.compLoop (.ListComp elt [⟨target,iter,ifs,0⟩] scope pos) 0 it acc env) R s:=by
 have nv:∀{α:Type}{t:Sem α}{Q:α->Shared->Prop}{E:Y1}{s:Shared},wpAny (model prog w) A t Q (λ_ _=>False) s->wpAny (model prog w) A t Q E s:=λh=>m8 h (λ_ _ q=>q) λ_ _ f=>f.elim
 refine codeAny_loop rfl I (λn s hI=>?_) n h;show wpAny _ A ((compTurn (.ListComp elt [⟨target,iter,ifs,0⟩] scope pos) 0 it acc env).onRaise (λx=>do noteFrame x env;theTreesLotGoes x)) _ _ s;refine wpAny_noted ?_;rw[compTurn_list];refine aa (wpAny_standAt (aa (m8 (q6 n s hI) (λr qq q2=>?_) λ_ _ U=>U.elim)));cases r with
 |none=>exact aj q2
 |some v =>
  refine aa (m8 q2 (λ_ Z q3=>?_) λ_ _ U=>U.elim);refine aa (m8 q3 (λ_ q1 q7=>aa (m8 q7 (λok G qk=>?_) λ_ _ U=>U.elim)) λ_ _ U=>U.elim);cases ok with
  |false=>exact aj ⟨rfl,qk⟩
  |true =>
   exact aa (aa (m8 qk (λx qv q4=>aa (m8 q4 (λ_ q0 q5=>aj (aj ⟨rfl,q5⟩)) λ_ _ U=>U.elim)) λ_ _ U=>U.elim))
def aa1(k:Nat)(wi:TI)(g:TG)(tc:TT)(te:TE):TE:=λU H Q=>wi U H λJ H1=>∀D,H1 D=none->∃W:Nat->Nat->Hp->Prop,(∃m,W 0 m (upd H1 D (.lst [])))/\∀i m H,W i m H ->
 (J.stop i H/\Q (.ref D) H)\/(J.go i H/\∀x H',J.yld i H x H'->g x (U++List.replicate k none) H' λZ H2=>Z.length=(U++List.replicate k none).length /\
  (∀(j:Nat) v,(U++List.replicate k none)[j]?=some (some v)->Z[j]?=some (some v))/\tc Z H2 λb H3 =>
   if b=true then te Z H3 λv H4=>∃R G,H4 D=some (.lst R)/\R.length<sizeLine/\G<m/\W (i+1) G (upd H4 D (.lst (R++[v]))) else ∃G,G<m/\W (i+1) G H3)
def PTs(X:Cx)(Z:Ya)(G:TT):Prop:=(Z=[]/\G=λ_ H Q=>Q true H)\/∃c,Z=[c]/\PT X c G
def W6(I:Inv X pins σ H s)(G:∀b∈fp,Rj X pins H b)(J:Inv (J9 X N scope (s.heap.objs.size+1) fp s H) [] qq U s3):Inv X pins σ U s3/\∃m,s3.heap.Ns (s.heap.objs.size+1) m:=by
 refine⟨I.call' J.os J.base J.Am J.bare λb R=>?_,?_⟩
 .obtain⟨_,f1,_,Z,f4,f5⟩:=G b R
  exact⟨Z,f1,f4,f5⟩
 .obtain⟨m,hn,_⟩:=J.loc
  exact⟨m,hn⟩
def aho(I:Inv X pins σ H s)(U:Inv X pins σ G s3)(R:G (s.heap.objs.size+1)=none)(hs:Heap.SameBut (s.heap.objs.size+1) s3.heap h'):Inv X pins σ G { s3 with heap:=h' }:=by
 have big:∀b o,s.heap.get? b=some o->b≠s.heap.objs.size+1:=λb o e z=>by have:=bf e;rw[z] at this;exact absurd this (Nat.not_lt.mpr (n6 _))
 refine U.turned (t':=s3.toks) (λb o hb e=>hs.extBut b o hb e) R ?_ (.inr (az I.sz (n6 _))) ?_ ?_
 .intro e
  obtain⟨m,⟨o,_,_,Z,_⟩,_⟩:=I.loc;exact big _ o Z e.symm
 .intro x c hc
  obtain⟨v,o,Z,_⟩:=I.cell x c hc;exact big c o Z
 .intro p hp
  exact big p.1 p.2 (I.pin p hp).1
def Uz{RR:Value->Addr->Result->Shared->Prop}(B:Fo X N scope)(Hq:X.calm=true)(I:Inv X pins σ H s)(hf:∀b∈G,Rj X pins H b)(T:Turn X.prog X.w X.K tg J G it tn)(h0:tn 0 s.heap)(hg:∀C s H,PG (J9 X N scope C G s H) tg g)(hc:∀C s H,PTs (J9 X N scope C G s H) ifs tc)(he:∀C s H,PE (J9 X N scope C G s H) elt te){Q:VK}(W:Nat->Nat->Hp->Prop)(w0:W 0 m0 (upd H s.heap.objs.size (.lst [])))(z1:∀i m H,W i m H->(J.stop i H/\Q (.ref s.heap.objs.size) H)\/(J.go i H/\∀x H',J.yld i H x H'->g x (σ++List.replicate (N.length-X.N.length) none) H' λq1 H2=>q1.length=(σ++List.replicate (N.length-X.N.length) none).length /\
 (∀(j:Nat) v,(σ++List.replicate (N.length-X.N.length) none)[j]?=some (some v)->q1[j]?=some (some v))/\tc q1 H2 λb H3 =>
  if b=true then te q1 H3 λv H4=>∃xs R,H4 s.heap.objs.size=some (.lst xs)/\xs.length<sizeLine/\R<m/\W (i+1) R (upd H4 s.heap.objs.size (.lst (xs++[v]))) else ∃R,R<m/\W (i+1) R H3))(yv:∀z2 H3 s3,Inv (J9 X N scope (s.heap.objs.size+1) G s H) [] z2 H3 s3->Q (.ref s.heap.objs.size) H3->RR (.ref s.heap.objs.size) (s.heap.objs.size+1) (.ok .next) s3) :
 wpAny (model X.prog X.w) X.A (newList []) (λz5 z6=>wpAny (model X.prog X.w) X.A (newFunctionEnv scope X.env.globals (Ip X.env.cells scope.names []) [] X.env.qual none .none (some X.env)) (λq2 z8 =>
  codeAny (model X.prog X.w) X.A (.compStart (.ListComp elt [⟨tg,iter,ifs,0⟩] scope pos) 0 (.ref it) z5 { q2 with scope:=relabel scope X.env }) (RR z5 q2.locals) z8) E z6) E s:=by
 refine jx (wpAny_newFunctionEnv B.alk (by intro y hy;simp at hy) (λq0 U Z=>?_) B.kind);dsimp only at U Z ⊢;have z4:(s.heap.push { cls:=.type "list",dict:=none,data:=.seq ([]:Zl).toArray }).objs.size=s.heap.objs.size+1:=ju _ _;rw[z4] at U Z;have zk:∀b o,s.heap.get? b=some o->q0.get? b=some o:=λb o e=>Z.extBut b o (λz=>absurd (bf e) (by rw[z];exact Nat.not_lt.mpr (n6 _))) (aq _ (aq _ e))
 have Vx:q0.get? s.heap.objs.size=some { cls:=.type "list",data:=.seq ([]:Zl).toArray }:=Z.extBut _ _ (ie (ud _)) (aq _ (bu _ rfl));have zv:∀b∈G,∃o,s.heap.get? b=some o:=λb hb=>let ⟨o,e,_⟩:=T.obj 0 _ h0 b hb;⟨o,e⟩
 have I0:=ahn (t:=s.toks+([]:List (Str×Value)).length) B I hf zv U zk Vx;have q5:∀{H':Hp},(∀b∈G,H' b=none)->∀b∈G,Rj (J9 X N scope (s.heap.objs.size+1) G s H) [] H' b:=λhn b hb=>by
  obtain⟨f0,f1,f2,f3,f4,f5⟩:=hf b hb;refine⟨hn b hb,?_,?_,.inl hb,?_,λp hp=>(by simp[J9] at hp)⟩
  .intro z
   obtain⟨o,e⟩:=zv b hb;have:=bf e;rw[show b=s.heap.objs.size+1 from z] at this;exact absurd this (Nat.not_lt.mpr (n6 _))
  .intro q
   rcases dg.mp (I.Yl b q) with z|z
   .exact f1 z
   .exact f2 z
  .intro x c hc
   exact f4 x c (B.inCells I.ok hc)
 have yu:∀b∈G,upd H s.heap.objs.size (.lst []) b=none:=λb hb=>by obtain⟨o,e⟩:=zv b hb;rw[lz (ie (bf e))];exact(hf b hb).1
 have q3:∀s':Shared,s'={ s with heap:=q0,toks:=s.toks+([]:List (Str×Value)).length }->codeAny (model X.prog X.w) X.A (.compLoop (.ListComp elt [⟨tg,iter,ifs,0⟩] scope pos) 0 (.ref it) (.ref s.heap.objs.size) (compEnvC scope (Ip X.env.cells scope.names []) (s.heap.objs.size+1) X.env))
  (RR (.ref s.heap.objs.size) (s.heap.objs.size+1)) s':=by
  rintro s' rfl;refine Lb (λn s'=>∃i qk H',Inv (J9 X N scope (s.heap.objs.size+1) G s H) [] qk H' s'/\(∀(j:Nat) v,(σ++List.replicate (N.length-X.N.length) none)[j]?=some (some v)->qk[j]?=some (some v))/\tn i s'.heap/\(∀b∈G,H' b=none)/\W i n H') ?_ m0
   ⟨0,_,_,I0,λ_ _ z=>z,T.keep 0 _ _ h0 (λb _ o e=>zk b o e),yu,w0⟩
  rintro n s3 ⟨i,z2,H3,I3,k3,z7,z3,w3⟩;have zw:=I3.weak (σ':=σ++List.replicate (N.length-X.N.length) none) (by rw[I3.len];exact I0.len) k3;rcases z1 i n H3 w3 with⟨z0,qn⟩|⟨go,step⟩
  .refine Bf (T.done (J9 X N scope (s.heap.objs.size+1) G s H) rfl rfl rfl Hq i [] s3 _ H3 (λ_ _=>False) zw (q5 z3) z7 z0) λr s4 z_=>?_
   obtain⟨hr,I4⟩:=z_;subst hr;exact yv _ _ _ I4 qn
  .refine Bf (T.item (J9 X N scope (s.heap.objs.size+1) G s H) rfl rfl rfl Hq i [] s3 _ H3 (λ_ _=>False) zw (q5 z3) z7 go) λr s4 z_=>?_
   obtain⟨u,hr,h4⟩:=z_;subst hr;refine Bf h4 λ_ s5 z_=>?_
   obtain⟨x,H5,I5,r5,y5,q4,yk⟩:=z_;have z9:=I5.pinned (q5 yk) (T.obj _ _ q4);refine Bf (hg _ _ _ _ s5 _ H5 x u _ z9 r5 (step x H5 y5)) λ_ s6 z_=>?_
   obtain⟨qq,H6,I6,l6,k6,q6⟩:=z_;have qv:∀{ae8:Zp}{H7:Hp}{s7:Shared}{m:Nat},Inv (J9 X N scope (s.heap.objs.size+1) G s H) ([]++Qf G s5.heap) qq H7 s7->m<n->W (i+1) m H7 ->
    ∃m,m<n/\∃i qk H',Inv (J9 X N scope (s.heap.objs.size+1) G s H) [] qk H' s7/\(∀(j:Nat) v,(σ++List.replicate (N.length-X.N.length) none)[j]?=some (some v)->qk[j]?=some (some v))/\tn i s7.heap/\(∀b∈G,H' b=none)/\W i m H':=fun{_ H7 s7 m} I7 hm w7=>by
    refine⟨m,hm,i+1,qq,H7,I7.K8,k6,T.keep _ _ _ q4 λb hb o e=>(I7.pin (b,o) (gf _ (gf _ (Jr hb e)))).1,λb hb=>?_,w7⟩;obtain⟨o,e,d⟩:=T.obj _ _ q4 b hb;exact(I7.pin (b,o) (gf _ (gf _ (Jr hb e)))).2.1
   have zz:wpAny (model X.prog X.w) X.A (forIn ifs true λc r=>if r=true then do let ok <- isTrue c (compEnvC scope (Ip X.env.cells scope.names []) (s.heap.objs.size+1) X.env) (eval c (compEnvC scope (Ip X.env.cells scope.names []) (s.heap.objs.size+1) X.env));pure (ForInStep.yield ok) else pure (ForInStep.yield r))
    (TP (J9 X N scope (s.heap.objs.size+1) G s H) ([]++Qf G s5.heap) qq λb H3 =>
     if b=true then te qq H3 λv H4=>∃xs R,H4 s.heap.objs.size=some (.lst xs)/\xs.length<sizeLine/\R<n/\W (i+1) R (upd H4 s.heap.objs.size (.lst (xs++[v]))) else ∃R,R<n/\W (i+1) R H3) (λ_ _=>False) s6:=by
    rcases hc (s.heap.objs.size+1) s H with⟨rfl,rfl⟩|⟨c,rfl,yy⟩
    .exact wpAny_tests_nil ⟨H6,I6,q6⟩
    .exact wpAny_tests_one (yy _ s6 qq H6 _ I6 q6)
   refine Bf zz λok s7 z_=>?_
   obtain⟨H7,I7,q7⟩:=z_;cases ok with
   |false =>
    obtain⟨R,hm,w7⟩:=(show ∃R,R<n/\W (i+1) R H7 from q7);exact qv (ae8:=[]) I7 hm w7
   |true =>
    show wpAny _ _ _ _ _ _;refine Bf (he _ _ _ _ s7 qq H7 _ I7 q7) λx s8 z_=>?_
    obtain⟨v,H8,I8,r8,xs,R,hD,hl,hm,w8⟩:=z_;refine Bf (W4 _ s8 qq H8 (.ref s.heap.objs.size) [v] (.ref s.heap.objs.size) [x] (λ_ H'=>W (i+1) R H') I8 rfl (.cons r8 .nil) ⟨_,xs,v,rfl,rfl,hD,hl,w8⟩) λ_ s9 z_=>?_
    obtain⟨_,H9,I9,_,w9⟩:=z_;exact qv (ae8:=[]) I9 hm w9
 rw[z4];exact codeAny_compStart_list (q3 _ rfl) (T.self _ 0 _ _ _ (T.keep 0 _ _ h0 (λb _ o e=>zk b o e)) (q3 _ rfl))
def afp(B:Fo X N scope)(Hq:X.calm=true)(hi:PI X tg iter wi)(hg:∀C Z s H,PG (J9 X N scope C Z s H) tg g)(hc:∀C Z s H,PTs (J9 X N scope C Z s H) ifs tc)(he:∀C Z s H,PE (J9 X N scope C Z s H) elt te)(hs:∀x,foldedSetIterable iter X.env x=pure x):PE X (.ListComp elt [⟨tg,iter,ifs,0⟩] scope pos) (aa1 (N.length-X.N.length) wi g tc te):=by intro G s σ H Q I h;rw[eval_ListComp];refine wpAny_comprehension_free (use:=none) rfl hs (B.clos I.ok) B.kind B.locs (Bf (hi G s σ H _ I h) λv s1 h1=>Bf h1 λq1 s2 h2=>?_);obtain⟨it,Z,tn,J,H2,rfl,R,T,qv,f2,q2⟩:=h2;obtain⟨W,⟨m0,w0⟩,U⟩:=q2 s2.heap.objs.size (R.Am.fresh (bc _));refine Uz (RR:=λqq C=>compPost (model X.prog X.w) X.A X.xe none (EP X G σ Q) qq C) B Hq R f2 T qv (λC s H=>hg C Z s H) (λC s H=>hc C Z s H) (λC s H=>he C Z s H) W w0 U ?_;intro q0 H3 s3 I3 q3;obtain⟨J3,m,hn⟩:=W6 R f2 I3;exact⟨m,hn,λh' qk=>⟨.ref s2.heap.objs.size,H3,aho R J3 I3.free qk,rfl,q3⟩⟩
set_option tactic.hygienic true in
def afq(B:Fo X N scope)(Hq:X.calm=true)(hi:PI X tg iter wi)(hg:∀C G s H,PG (J9 X N scope C G s H) tg g)(hc:∀C G s H,PTs (J9 X N scope C G s H) ifs tc)(he:∀C G s H,PE (J9 X N scope C G s H) elt te)(hs:∀x,foldedSetIterable iter X.env x=pure x)(hN:X.N.Nodup)(hy:X.N[i]?=some y)(hl:X.env.scope.names.lookup y=some .local)(q0:swapsWith (.ListComp elt [⟨tg,iter,ifs,0⟩] scope pos) (some (.Name y py)) alm.line X.env=pure true) :
 PS X (.Assign [.Name y py] (.ListComp elt [⟨tg,iter,ifs,0⟩] scope pos) alm) (av7 (aa1 (N.length-X.N.length) wi g tc te) (ae9 i)):=by
 intro Z s σ H D I h;rw[exec_Assign_Name_used _ _ _ _ q0];refine aa (wpAny_standAt (aa ?_));show wpAny _ _ (do let _ <- comprehension (.ListComp elt [⟨tg,iter,ifs,0⟩] scope pos) scope X.env _ (newList []) false (eval iter X.env) (some (assign (.Name y py) X.env))) _ _ s;refine aa (m8 (wpAny_comprehension_free (use:=some (assign (.Name y py) X.env)) (Q:=λ_ s'=>SP X Z D .next s') rfl hs (B.clos I.ok) B.kind B.locs
  (Bf (hi Z s σ H _ I h) λv s1 h1=>Bf h1 λzz Y h2=>?_)) (λ_ s' hq=>aj (aj hq)) λ_ _ e=>e)
 obtain⟨it,G,tn,J,H2,rfl,U,T,q5,f2,q2⟩:=h2;obtain⟨W,⟨m0,w0⟩,S⟩:=q2 Y.heap.objs.size (U.Am.fresh (bc _));refine Uz (RR:=λqq C=>compPost (model X.prog X.w) X.A X.xe (some (assign (.Name y py) X.env)) (λ_ s'=>SP X Z D .next s') qq C) (Q:=λx H1=>ae9 i x σ H1 D.nx) B Hq U f2 T q5 (λC s H=>hg C G s H) (λC s H=>hc C G s H) (λC s H=>he C G s H) W w0 S ?_;intro q7 H3 s3 I3 q3;obtain⟨J3,m,hn⟩:=W6 U f2 I3;have q1:=I3.free;obtain⟨u,_,_,L,qk,_⟩:=id hn;have big:∀b o,Y.heap.get? b=some o->b≠Y.heap.objs.size+1:=λb o e z=>by have:=bf e;rw[z] at this;exact absurd this (Nat.not_lt.mpr (n6 _))
 have R:Y.heap.objs.size+1≠X.env.locals:=λe=>by obtain⟨m,⟨o,_,_,ho,_⟩,_⟩:=U.loc;exact big _ o ho e.symm
 have J4:Inv X (Z++[(Y.heap.objs.size+1,u)]) σ H3 s3:=J3.Ym λp hp=>by
  rcases cz.mp hp with q|q
  .exact J3.pin p (gf _ q)
  .have e:p=(Y.heap.objs.size+1,u):=by simpa using q
   subst e;refine⟨L,q1,R,λhb=>?_,λv z=>by rw[qk] at z;cases z⟩;exact U.a0o (n6 _) hb
 show wpAny (model X.prog X.w) X.A (assign (.Name y py) X.env (.ref Y.heap.objs.size)) _ _ s3;refine Bf (Yo (pos:=py) hN hy (.inl hl) (.inr hl) (Z++[(Y.heap.objs.size+1,u)]) s3 σ H3 (.ref Y.heap.objs.size) (.ref Y.heap.objs.size) D.nx J4 rfl q3) λ_ s4 z_=>?_
 obtain⟨q6,H4,I4,q4⟩:=z_;have pC:=I4.pin (Y.heap.objs.size+1,u) (gf _ (gf _ (by simp)));refine⟨m,hn.at' λo e=>by rw[L] at e;cases e;exact pC.1,λh' qv=>⟨q6,H4,?_,q4⟩⟩;refine(I4.K8).turned (t':=s4.toks) (λb o hb e=>qv.extBut b o hb e) pC.2.1 R (.inr (az U.sz (n6 _))) ?_ ?_
 .intro x c hc
  obtain⟨v,o,ho,_⟩:=U.cell x c hc;exact big c o ho
 .intro p hp
  exact big p.1 p.2 (U.pin p hp).1
end L2
namespace Sm
open PySem L2
open MW (Ex Eb OEx Nb Aj my Lv Tg Res du MO Mg Cp Op2 Blt Bm Kx)
abbrev Dv:=MW.D
abbrev En:=MW.Env
structure Io where
 l:List Addr
 δ:List Addr
noncomputable def Io.add(Z:Io)(p:Addr):Io:=⟨Z.l++[p],Z.δ⟩
noncomputable def Io.hide(Z:Io)(p:Addr):Io:=⟨Z.l,p::Z.δ⟩
def Io.off(Z:Io)(a:Addr):Prop:=a∉Z.l/\a∉Z.δ
def Yw(K:Fg)(H:Hp)(a:Addr)(G:List V):Prop :=
 (∃o,H a=some (.Ih o (.lst G))) \/
  ∃(o:Obj)(Z:U1)(n:Nat),K.lookup a=some o/\o.cls=.type "list"/\o.dict=none/\o.data=.seq Z n/\Z.size<=sizeLine/\Vals G Z.toList
def Yw.sq(h:Yw K H a vs):Ew K H a vs:=by
 rcases h with⟨o,h⟩|h
 .exact .inl (.inr ⟨o,h⟩)
 .exact .inr h
mutual
inductive Rep(K:Fg)(ι:Io)(H:Hp):Dv->V->Prop
 |non:Rep K ι H .non .non
 |bl (b:Bool):Rep K ι H (.bl b) (.bl b)
 |int (i:Int):Rep K ι H (.int i) (.int i)
 |str (s:Str):Rep K ι H (.str s) (.str s)
 |tup {a:Addr} {ds:List Dv} {vs:List V} (e:H a=some (.tup vs)) (r:nj K ι H ds vs):Rep K ι H (.tup ds) (.ref a)
 |vl {a:Addr} {ds:List Dv} {vs:List V} (e:H a=some (.lst vs)) (n:ι.off a) (r:nj K ι H ds vs):Rep K ι H (.vl ds) (.ref a)
 |fz {a:Addr} {ds:List Dv} {vs:List V} (e:Yw K H a vs) (r:nj K ι H ds vs):Rep K ι H (.fz ds) (.ref a)
 |ref {n:Nat} {a:Addr} (e:ι.l[n]?=some a):Rep K ι H (.ref n) (.ref a)
inductive nj(K:Fg)(ι:Io)(H:Hp):List Dv->List V->Prop
 |nil:nj K ι H [] []
 |cons {d:Dv} {v:V} {ds:List Dv} {vs:List V} (h:Rep K ι H d v) (t:nj K ι H ds vs):nj K ι H (d::ds) (v::vs)
end
structure Le(ι:Io)(H:Hp)(ι':Io)(H':Hp):Prop where
 ext:∃Y,ι'.l=ι.l++Y/\∀a∈Y,H a=none
 del:ι'.δ=ι.δ
 tup:∀a vs,H a=some (.tup vs)->H' a=some (.tup vs)
 Ih:∀a o u,H a=some (.Ih o u)->H' a=some (.Ih o u)
 lst:∀a vs,a∉ι.l->H a=some (.lst vs)->H' a=some (.lst vs)
 dom:∀a,H' a=none->H a=none
def Le.refl(Z:Io)(H:Hp):Le Z H Z H:=⟨⟨[],by simp,by simp⟩,rfl,λ_ _ h=>h,λ_ _ _ h=>h,λ_ _ _ h=>h,λ_ h=>h⟩
def Ft{H H':Hp}(U:∀a u,H a=some u->∃Z,H' a=some Z)(h:H' a=none):H a=none:=by
 cases e:H a with
 |none=>rfl|some u=>obtain⟨Z,G⟩:=U a u e;rw[h] at G;cases G
def Le.get(l:Le G H Z U){n:Nat}(h:G.l[n]?=some a):Z.l[n]?=some a:=by obtain⟨Y,e,_⟩:=l.ext;rw[e,gb (ak.mp h).1];exact h
def Le.aw1(l:Le U H Z H')(h:a∉U.l)(G:H a=some o):a∉Z.l:=by
 obtain⟨Y,e,R⟩:=l.ext;rw[e];intro m;rcases cz.mp m with q|q
 .exact h q
 .rw[R a q] at G;cases G
def Le.out(l:Le G H Z R)(h:G.off a)(U:H a=some o):Z.off a:=⟨l.aw1 h.1 U,by rw[l.del];exact h.2⟩
theorem Le.trans(a:Le ι H R H1)(b:Le R H1 U H2):Le ι H U H2:=by
 obtain⟨Y,e1,h1⟩:=a.ext;obtain⟨Z,e2,h2⟩:=b.ext;refine⟨⟨Y++Z,by rw[e2,e1,nq],λx m=>?_⟩,b.del.trans a.del,λx G h=>b.tup x G (a.tup x G h),λx o u h=>b.Ih x o u (a.Ih x o u h),λx G n h=>b.lst x G (a.aw1 n h) (a.lst x G n h),λx h=>a.dom x (b.dom x h)⟩;rcases cz.mp m with q|q
 .exact h1 x q
 .exact a.dom x (h2 x q)
structure LeX(ι:Io)(H:Hp)(ι':Io)(H':Hp):Prop where
 ext:∃Y,ι'.l=ι.l++Y/\∀a∈Y,H a=none
 del:∀a∈ι'.δ,a∈ι.δ\/H a=none
 tup:∀a vs,H a=some (.tup vs)->H' a=some (.tup vs)
 Ih:∀a o u,H a=some (.Ih o u)->H' a=some (.Ih o u)
 lst:∀a vs,a∉ι.l->H a=some (.lst vs)->H' a=some (.lst vs)
def Le.toX(l:Le G H Z H'):LeX G H Z H':=⟨l.ext,λa h=>.inl (by rw[<- l.del];exact h),l.tup,l.Ih,l.lst⟩
def LeX.get(l:LeX G H Z U){n:Nat}(h:G.l[n]?=some a):Z.l[n]?=some a:=by obtain⟨Y,e,_⟩:=l.ext;rw[e,gb (ak.mp h).1];exact h
def LeX.out(l:LeX U H G H')(h:U.off a)(Z:H a=some o):G.off a:=by
 obtain⟨Y,e,R⟩:=l.ext;refine⟨λm=>?_,λm=>?_⟩
 .rw[e] at m
  rcases cz.mp m with q|q
  .exact h.1 q
  .rw[R a q] at Z;cases Z
 .rcases l.del a m with q|q
  .exact h.2 q
  .rw[q] at Z;cases Z
structure Tr(K:Fg)(ι:Io)(H:Hp)(ι':Io)(H':Hp):Prop where
 tup:∀a vs,H a=some (.tup vs)->H' a=some (.tup vs)
 vl:∀a vs,H a=some (.lst vs)->ι.off a->H' a=some (.lst vs)/\ι'.off a
 fz:∀a vs,Yw K H a vs->Yw K H' a vs
 rf:∀(n:Nat) a,ι.l[n]?=some a->ι'.l[n]?=some a
mutual
theorem Rep.tr{K:Fg}{G Z:Io}{H U:Hp}(l:Tr K G H Z U):∀{d:Dv}{v:V},Rep K G H d v->Rep K Z U d v
 |_,_,.non=>.non|_,_,.bl b=>.bl b|_,_,.int i=>.int i|_,_,.str s=>.str s|_,_,.tup e r=>.tup (l.tup _ _ e) (nj.tr l r)|_,_,.vl e n r=>.vl (l.vl _ _ e n).1 (l.vl _ _ e n).2 (nj.tr l r)|_,_,.fz e r=>.fz (l.fz _ _ e) (nj.tr l r)|_,_,.ref e=>.ref (l.rf _ _ e)
theorem nj.tr{K:Fg}{G Z:Io}{H R:Hp}(l:Tr K G H Z R):∀{ds:List Dv}{U:List V},nj K G H ds U->nj K Z R ds U
 |_,_,.nil=>.nil|_,_,.cons h t=>.cons (Rep.tr l h) (nj.tr l t)
end
def LeX.tr(l:LeX U H Z H'):Tr K U H Z H':=⟨l.tup,λa G e n=>⟨l.lst _ _ n.1 e,l.out n e⟩,λa G e=>by
 rcases e with⟨o,e⟩|e
 .exact .inl ⟨o,l.Ih _ _ _ e⟩
 .exact .inr e,λ_ _ e=>l.get e⟩
def Rep.Hr(l:LeX G H Z U)(r:Rep K G H d v):Rep K Z U d v:=r.tr l.tr
def nj.Hr(l:LeX G H Z U)(r:nj K G H ds vs):nj K Z U ds vs:=r.tr l.tr
def Rep.mono(l:Le G H Z U)(r:Rep K G H d v):Rep K Z U d v:=r.Hr l.toX
def nj.mono(l:Le G H Z U)(r:nj K G H ds vs):nj K Z U ds vs:=r.Hr l.toX
theorem nj.length{K:Fg}{U:Io}{H:Hp}:∀{Z:List Dv}{G:List V},nj K U H Z G->Z.length=G.length:=by intro A B h;induction A generalizing B with|nil=>cases h;rfl|cons d A ih=>cases h with|cons _ t=>rw[d9,d9,ih t]
theorem nj.get{K:Fg}{Z:Io}{H:Hp}:∀{U:List Dv}{G:List V}{i:Nat}{d:Dv},nj K Z H U G->U[i]?=some d->∃v,G[i]?=some v/\Rep K Z H d v
 |_,_,_,_,.nil,e=>by simp at e|_,_,0,_,.cons h _,e=>by simp at e;subst e;exact⟨_,rfl,h⟩
 |_,_,i+1,d,.cons _ t,e=>by
  obtain⟨v,R,h2⟩:=nj.get (i:=i) t (by simpa using e);exact⟨v,by simpa using R,h2⟩
theorem nj.set{K:Fg}{Z:Io}{H:Hp}{d:Dv}{v:V}(r:Rep K Z H d v):∀{G:List Dv}{U:List V}(i:Nat),nj K Z H G U->nj K Z H (G.set i d) (U.set i v)
 |_,_,_,.nil=>.nil|_,_,0,.cons _ t=>.cons r t|_,_,i+1,.cons h t=>.cons h (nj.set r i t)
theorem nj.append{K:Fg}{Z:Io}{H:Hp}:∀{R es:List Dv}{U G:List V},nj K Z H R U->nj K Z H es G->nj K Z H (R++es) (U++G):=by intro A _ B _ h r;induction A generalizing B with|nil=>cases h;exact r|cons d A ih=>cases h with|cons h t=>exact .cons h (ih t)
theorem nj.drop{K:Fg}{U:Io}{H:Hp}:∀{Z:List Dv}{G:List V}(n:Nat),nj K U H Z G->nj K U H (Z.drop n) (G.drop n)
 |_,_,0,r=>r|_,_,_+1,.nil=>.nil|_,_,n+1,.cons _ t=>nj.drop n t
theorem nj.take{K:Fg}{U:Io}{H:Hp}:∀{Z:List Dv}{G:List V}(n:Nat),nj K U H Z G->nj K U H (Z.take n) (G.take n)
 |_,_,0,_=>.nil|_,_,_+1,.nil=>.nil|_,_,n+1,.cons h t=>.cons h (nj.take n t)
theorem nj.eraseIdx{K:Fg}{U:Io}{H:Hp}:∀{Z:List Dv}{G:List V}(n:Nat),nj K U H Z G->nj K U H (Z.eraseIdx n) (G.eraseIdx n)
 |_,_,_,.nil=>.nil|_,_,0,.cons _ t=>t|_,_,n+1,.cons h t=>.cons h (nj.eraseIdx n t)
theorem nj.ints{K:Fg}{G:Io}{H:Hp}:∀(Z:X9),nj K G H (Z.map MW.D.int) (Z.map V.int)
 |[]=>.nil|n::r=>.cons (.int n) (nj.ints r)
structure Nm where
 cls:Nat->Option Addr
 fld:Nat->Str
 inj:∀i j,fld i=fld j->i=j
inductive qb{κ κ':Type}(K:Fg)(ι:Io)(H:Hp)(f:κ->κ'->Prop):List (κ×Dv)->List (κ'×V)->Prop
 |nil:qb K ι H f [] []
 |cons {k:κ} {k':κ'} {d:Dv} {v:V} {l:List (κ×Dv)} {l':List (κ'×V)} (hk:f k k') (h:Rep K ι H d v) (t:qb K ι H f l l'):qb K ι H f ((k,d)::l) ((k',v)::l')
theorem qb.tr{U Z:Type}{f:U->Z->Prop}(t:Tr K ι H G H'){l:List (U×Dv)}{l':List (Z×V)}(h:qb K ι H f l l'):qb K G H' f l l':=by
 induction h with
 |nil=>exact .nil|cons k h _ R=>exact .cons k (h.tr t) R
def qb.mono(le:Le G H Z U)(h:qb K G H f l l'):qb K Z U f l l':=h.tr le.toX.tr
def Fj(R:Nm)(K:Fg)(G:Io)(H:Hp)(o:MO)(a:Addr):Prop :=
 match o with
 |.lst ds=>∃U,H a=some (.lst U)/\nj K G H ds U|.dT o6=>∃l,H a=some (.dT l)/\qb K G H (λk Z=>k=Z) o6 l
 |.ins c fs=>∃C dx l,R.cls c=some C/\H a=some (.ins C dx l)/\qb K G H (λk Z=>Z=R.fld k) fs l
 |.dF o6=>∃l o,H a=some (.Ih o (.dT l))/\qb K G H (λk Z=>k=Z) o6 l
structure mj(nm:Nm)(K:Fg)(ι:Io)(H:Hp)(M:du):Prop where
 len:ι.l.length=M.length
 nd:ι.l.Nodup
 del:∀a∈ι.δ,a∉ι.l/\∃vs,H a=some (.lst vs)
 obj:∀(n:Nat)(o:MO)(a:Addr),M[n]?=some o->ι.l[n]?=some a->Fj nm K ι H o a
def Mu:Option HO->Prop
 |some (.Ih _ (.dT _))=>True|u=>Mut u
theorem Fj.some(h:Fj nm K ι H o a):∃u,H a=some u/\Mu (H a):=by
 cases o with
 |lst ds=>obtain⟨Z,e,_⟩:=h;exact⟨_,e,by rw[e];trivial⟩
 |dT G=>obtain⟨Z,e,_⟩:=h;exact⟨_,e,by rw[e];trivial⟩
 |ins c fs=>obtain⟨C,R,l,_,e,_⟩:=h;exact⟨_,e,by rw[e];trivial⟩
 |dF G=>obtain⟨Z,U,e,_⟩:=h;exact⟨_,e,by rw[e];trivial⟩
def mj.addr(S:mj nm K Z H M){n:Nat}(h:M[n]?=some o):∃a,Z.l[n]?=some a/\Fj nm K Z H o a:=by
 have G:n < Z.l.length:=by rw[S.len];exact MW.yw h
 exact⟨Z.l[n],by simp[G],S.obj n o _ h (by simp[G])⟩
def mj.mem(S:mj nm K Z H M)(h:a∈Z.l):∃u,H a=some u/\Mu (H a):=by
 obtain⟨n,G,rfl⟩:=xu h;have U:n<M.length:=by rw[<- S.len];exact G
 exact(S.obj n M[n] Z.l[n] (by simp[U]) (by simp[G])).some
def mj.fresh(S:mj nm K Z H M)(h:H a=none):Z.off a:=by
 refine⟨λm=>?_,λm=>?_⟩
 .obtain⟨u,e,_⟩:=S.mem m
  rw[h] at e;cases e
 .obtain⟨_,G,e⟩:=S.del a m
  rw[h] at e;cases e
theorem Fj.tr(h:Fj nm K ι H o a)(t:Tr K ι H G U)(e:U a=H a):Fj nm K G U o a:=by
 cases o with
 |lst ds=>obtain⟨Z,q,r⟩:=h;exact⟨Z,e.trans q,r.tr t⟩
 |dT R=>obtain⟨Z,q,r⟩:=h;exact⟨Z,e.trans q,r.tr t⟩
 |ins c fs=>obtain⟨C,dx,l,hc,q,r⟩:=h;exact⟨C,dx,l,hc,e.trans q,r.tr t⟩
 |dF R=>obtain⟨Z,ob,q,r⟩:=h;exact⟨Z,ob,e.trans q,r.tr t⟩
def Fj.move(h:Fj nm K U H o a)(le:Le U H Z G)(e:G a=H a):Fj nm K Z G o a:=h.tr le.toX.tr e
def mj.laid(S:mj nm K G H M)(h:H p=none)(o:HO):mj nm K G (upd H p o) M/\Le G H G (upd H p o):=by
 have Z:∀a u,H a=some u->a≠p:=λa u e=>n8 e h
 have le:Le G H G (upd H p o):=⟨⟨[],by simp,by simp⟩,rfl,λa U e=>by rw[lz (Z a _ e)];exact e,λa _ u e=>by rw[lz (Z a _ e)];exact e,λa U _ e=>by rw[lz (Z a _ e)];exact e,
  λa h'=>Ft (λb u e=>⟨u,by rw[lz (Z b _ e)];exact e⟩) h'⟩
 refine⟨⟨S.len,S.nd,λa R=>?_,λn o' a hn R=>?_⟩,le⟩
 .obtain⟨h1,U,h2⟩:=S.del a R
  exact⟨h1,U,le.lst a U h1 h2⟩
 .have q:=S.obj n o' a hn R
  obtain⟨u,e,_⟩:=q.some;exact q.move le (by rw[lz (Z a u e)])
def Bp{Z:Type}{l:List Z}{x y:Z}(h:(l++[x])[n]?=some y):(l[n]?=some y)\/(n=l.length/\y=x):=by
 rcases jo n l.length with q|q
 .rw[gb q] at h;exact .inl h
 .rw[p8 q] at h
  have:n-l.length=0:=by
   rcases Nat.eq_zero_or_pos (n-l.length) with z|z
   .exact z
   .rw[yt (by simp;exact z)] at h;cases h
  rw[this] at h;simp at h;exact .inr ⟨by lia,h.symm⟩
def mj.new(S:mj nm K Z H M)(h:H p=none)(G:∀a u,H a=some u->H' a=some u)(ho:Le Z H (Z.add p) H'->Fj nm K (Z.add p) H' o p):mj nm K (Z.add p) H' (M++[o])/\Le Z H (Z.add p) H':=by
 have le:Le Z H (Z.add p) H':=⟨⟨[p],rfl,by simpa using h⟩,rfl,λa R e=>G _ _ e,λa _ u e=>G _ _ e,λa R _ e=>G _ _ e,λa h'=>Ft (H:=H) (H':=H') (λb u e=>⟨u,G b u e⟩) h'⟩;refine⟨⟨by simp[Io.add,S.len],?_,λa U=>?_,λn o' a hn U=>?_⟩,le⟩
 .exact nu.mpr ⟨S.nd,by simp,by
   intro x hx y hy;have:y=p:=by simpa using hy
   subst this;intro e;subst e;exact(S.fresh h).1 hx⟩
 .obtain⟨h1,R,h2⟩:=S.del a U
  exact⟨le.aw1 h1 h2,R,G _ _ h2⟩
 .rcases Bp hn with q|⟨q,rfl⟩
  .rcases Bp U with r|⟨r,_⟩
   .have z:=S.obj n o' a q r
    obtain⟨u,e,_⟩:=z.some;exact z.move le ((G a u e).trans e.symm)
   .exact absurd (MW.yw q) (by rw[r,S.len];exact o8 _)
  .rcases Bp U with r|⟨_,rfl⟩
   .exact absurd (ak.mp r).1 (by rw[q,S.len];exact o8 _)
   .exact ho le
def mj.put(S:mj nm K U H M)(hn:M[n]?=some G)(ha:U.l[n]?=some a)(ho:Le U H U (upd H a u)->Fj nm K U (upd H a u) o a)(hd:∀k,G≠.dF k:=by nofun):mj nm K U (upd H a u) (M.set n o)/\Le U H U (upd H a u):=by
 have Z:Mut (H a):=by
  have z:=S.obj n G a hn ha;cases G with
  |dF k=>exact absurd rfl (hd k)|ins c fs=>obtain⟨C,dx,l,_,e,_⟩:=z;rw[e];trivial
  |_=>obtain⟨vs,e,_⟩:=z;rw[e];trivial
 have hm:a∈U.l:=au ha;have le:Le U H U (upd H a u):=⟨⟨[],by simp,by simp⟩,rfl,λb vs e=>by rw[lz (λz=>by subst z;rw[e] at Z;exact Z)];exact e,
  λb _ _ e=>by rw[lz (λz=>by subst z;rw[e] at Z;exact Z)];exact e,λb vs nb e=>by rw[lz (λz=>by subst z;exact nb hm)];exact e,λb h'=>Ft (λc w e=>by
   by_cases z:c=a
   .exact⟨u,by rw[z,uf]⟩
   .exact⟨w,by rw[lz z];exact e⟩) h'⟩
 refine⟨⟨by rw[Ag];exact S.len,S.nd,λb hb=>?_,λm o' b R hb=>?_⟩,le⟩
 .obtain⟨h1,vs,h2⟩:=S.del b hb
  exact⟨h1,vs,le.lst b vs h1 h2⟩
 by_cases q:m=n
 .subst q
  rw[MW.qp hn] at R;cases R;rw[ha] at hb;cases hb;exact ho le
 .rw[MW.lr (kh q)] at R
  have z:=S.obj m o' b R hb;have nb:b≠a:=λe=>by subst e;obtain⟨l1,e1⟩:=ak.mp hb;obtain⟨l2,e2⟩:=ak.mp ha;exact q ((zj S.nd).mp (e1.trans e2.symm))
  exact z.move le (by rw[lz nb])
def aqa(Z:H D=none):Tr K G H (G.hide D) (upd H D o) :=
 have k:∀{a u},H a=some u->upd H D o a=some u:=λe=>by rw[lz (n8 e Z)];exact e
 ⟨λ_ _ e=>k e,λa U e n=>⟨k e,n.1,λm=>by
  rcases dg.mp m with q|q
  .exact n8 e Z q
  .exact n.2 q⟩,λ_ _ e=>e.imp (λ⟨q,e⟩=>⟨q,k e⟩) id,λ_ _ e=>e⟩
def afs(G:H D=some (.lst R))(hm:D∈Z.δ):Tr K Z H Z (upd H D (.lst U)) :=
 have k:∀{a u},a≠D->H a=some u->upd H D (.lst U) a=some u:=λn e=>by rw[lz n];exact e
 ⟨λ_ _ e=>k (aap e G (by intro z;cases z)) e,λa R e n=>⟨k (λz=>by subst z;exact n.2 hm) e,n⟩,λ_ _ e=>e.imp (λ⟨q,e⟩=>⟨q,k (aap e G (by intro z;cases z)) e⟩) id,λ_ _ e=>e⟩
def Io.show(Z:Io)(H:Hp)(D:Addr):Tr K (Z.hide D) H Z H:=⟨λ_ _ e=>e,λ_ _ e n=>⟨e,n.1,λm=>n.2 (bh _ m)⟩,λ_ _ e=>e,λ_ _ e=>e⟩
theorem Rep.show(r:Rep K (Z.hide D) H d v):Rep K Z H d v:=r.tr (Z.show H D)
theorem nj.show(r:nj K (Z.hide D) H d v):nj K Z H d v:=r.tr (Z.show H D)
theorem mj.hide(S:mj nm K R H M)(Z:H D=none):mj nm K (R.hide D) (upd H D (.lst [])) M:=by
 refine⟨S.len,S.nd,λa G=>?_,λn o a hn G=>?_⟩
 .rcases dg.mp G with q|q
  .subst q;exact⟨(S.fresh Z).1,[],uf⟩
  .obtain⟨h1,vs,U⟩:=S.del a q
   exact⟨h1,vs,by rw[lz (n8 U Z)];exact U⟩
 .have z:=S.obj n o a hn G
  obtain⟨u,e,_⟩:=z.some;exact z.tr (aqa Z) (by rw[lz (n8 e Z)])
def mj.grow(S:mj nm K G H M)(hD:H D=some (.lst vs))(R:D∈G.δ):mj nm K G (upd H D (.lst ws)) M:=by
 refine⟨S.len,S.nd,λa Z=>?_,λn o a hn Z=>?_⟩
 .obtain⟨U,us,h2⟩:=S.del a Z
  by_cases z:a=D
  .subst z;exact⟨U,ws,uf⟩
  .exact⟨U,us,by rw[lz z];exact h2⟩
 .have z:=S.obj n o a hn Z
  have ne:a≠D:=λe=>by subst e;exact(S.del a R).1 (au Z)
  exact z.tr (afs hD R) (by rw[lz ne])
theorem mj.show(S:mj nm K (G.hide D) H M):mj nm K G H M :=
 ⟨S.len,S.nd,λa Z=>S.del a (bh _ Z),λn o a U Z=>(S.obj n o a U Z).tr (G.show H D) rfl⟩
structure LeD(D:Addr)(ι:Io)(H:Hp)(ι':Io)(H':Hp):Prop where
 ext:∃Y,ι'.l=ι.l++Y/\∀a∈Y,H a=none
 del:ι'.δ=D::ι.δ
 tup:∀a vs,H a=some (.tup vs)->H' a=some (.tup vs)
 Ih:∀a o u,H a=some (.Ih o u)->H' a=some (.Ih o u)
 lst:∀a vs,a∉ι.l->H a=some (.lst vs)->H' a=some (.lst vs)
 dom:∀a,H' a=none->H a=none
def LeD.toX(l:LeD D G H Z H')(U:H D=none):LeX G H Z H':=⟨l.ext,λa h=>by
 rw[l.del] at h;rcases dg.mp h with q|q
 .exact .inr (by rw[q];exact U)
 .exact .inl q,l.tup,l.Ih,l.lst⟩
def LeD.start(Z:H D=none)(o:HO):LeD D U H (U.hide D) (upd H D o) :=
 ⟨⟨[],by simp[Io.hide],by simp⟩,rfl,λa G e=>by rw[lz (n8 e Z)];exact e,λa _ _ e=>by rw[lz (n8 e Z)];exact e,λa G _ e=>by rw[lz (n8 e Z)];exact e,
  λa R=>Ft (λb u e=>⟨u,by rw[lz (n8 e Z)];exact e⟩) R⟩
def LeD.go(a:LeD D ι H U H1)(b:Le U H1 R H2):LeD D ι H R H2:=by
 obtain⟨Y,e1,h1⟩:=a.ext;obtain⟨Z,e2,h2⟩:=b.ext;have out:∀x o,x∉ι.l->H x=some o->x∉U.l:=λx o n h m=>by
  rw[e1] at m;rcases cz.mp m with q|q
  .exact n q
  .rw[h1 x q] at h;cases h
 refine⟨⟨Y++Z,by rw[e2,e1,nq],λx m=>?_⟩,b.del.trans a.del,λx G h=>b.tup x G (a.tup x G h),λx o u h=>b.Ih x o u (a.Ih x o u h),λx G n h=>b.lst x G (out x _ n h) (a.lst x G n h),λx h=>a.dom x (b.dom x h)⟩;rcases cz.mp m with q|q
 .exact h1 x q
 .exact a.dom x (h2 x q)
def LeD.grow(a:LeD D ι H U R)(Z:H D=none)(hD:R D=some (.lst vs)):LeD D ι H U (upd R D (.lst ws)) :=
 ⟨a.ext,a.del,λx G h=>by rw[lz (n8 h Z)];exact a.tup x G h,λx o u h=>by rw[lz (n8 h Z)];exact a.Ih x o u h,λx G n h=>by rw[lz (n8 h Z)];exact a.lst x G n h,
  λx h=>a.dom x (by
   by_cases z:x=D
   .rw[z,uf] at h;cases h
   .rw[lz z] at h;exact h)⟩
def LeD.done(a:LeD D G H ⟨Z.l,D::Z.δ⟩ H1):Le G H Z H1 :=
 ⟨a.ext,(t7 a.del).2,a.tup,a.Ih,a.lst,a.dom⟩
inductive rm(K:Fg)(ι:Io)(H:Hp):En->St->Prop
 |nil:rm K ι H [] []
 |skp {y:Option V} {ρ:En} {σ:St} (t:rm K ι H ρ σ):rm K ι H (none::ρ) (y::σ)
 |has {d:Dv} {v:V} {ρ:En} {σ:St} (h:Rep K ι H d v) (t:rm K ι H ρ σ):rm K ι H (some d::ρ) (some v::σ)
theorem rm.Hr{K:Fg}{G Z:Io}{H R:Hp}(le:LeX G H Z R):∀{U:En}{σ:St},rm K G H U σ->rm K Z R U σ:=by intro _ _ h;induction h with|nil=>exact .nil|skp t ih=>exact .skp ih|has h t ih=>exact .has (h.Hr le) ih
theorem rm.mono{K:Fg}{G Z:Io}{H R:Hp}(le:Le G H Z R):∀{U:En}{σ:St},rm K G H U σ->rm K Z R U σ:=by intro _ _ h;induction h with|nil=>exact .nil|skp t ih=>exact .skp ih|has h t ih=>exact .has (h.mono le) ih
theorem rm.get{K:Fg}{U:Io}{H:Hp}:∀{R:En}{σ:St}{i:Nat}{d:Dv},rm K U H R σ->R[i]?=some (some d)->∃v,σ[i]?=some (some v)/\Rep K U H d v
 |_,_,_,_,.nil,e=>by simp at e|_,_,0,_,.skp _,e=>by simp at e|_,_,0,_,.has h _,e=>by simp at e;subst e;exact⟨_,rfl,h⟩
 |_,_,i+1,d,.skp t,e=>by
  obtain⟨v,Z,G⟩:=rm.get (i:=i) t (by simpa using e);exact⟨v,by simpa using Z,G⟩
 |_,_,i+1,d,.has _ t,e=>by
  obtain⟨v,Z,G⟩:=rm.get (i:=i) t (by simpa using e);exact⟨v,by simpa using Z,G⟩
theorem rm.set{K:Fg}{Z:Io}{H:Hp}{d:Dv}{v:V}(r:Rep K Z H d v):∀{U:En}{G:St}(i:Nat),rm K Z H U G->rm K Z H (U.set i (some d)) (G.set i (some v))
 |_,_,_,.nil=>.nil|_,_,0,.skp t=>.has r t|_,_,0,.has _ t=>.has r t|_,_,i+1,.skp t=>.skp (rm.set r i t)|_,_,i+1,.has h t=>.has h (rm.set r i t)
theorem rm.length{K:Fg}{U:Io}{H:Hp}:∀{G:En}{Z:St},rm K U H G Z->G.length=Z.length:=by intro _ _ h;induction h with|nil=>rfl|skp _ ih=>rw[d9,d9,ih]|has _ _ ih=>rw[d9,d9,ih]
theorem rm.append{K:Fg}{U:Io}{H:Hp}:∀{R G:En}{σ Z:St},rm K U H R σ->rm K U H G Z->rm K U H (R++G) (σ++Z):=by intro _ _ _ _ h r;induction h with|nil=>exact r|skp t ih=>exact .skp ih|has h t ih=>exact .has h ih
theorem rm.aln{K:Fg}{G:Io}{H:Hp}:∀(k:Nat){Z:St},Z.length=k->rm K G H (List.replicate k none) Z
 |0,[],_=>.nil|k+1,_::r,h=>.skp (rm.aln k (by simpa using h))
theorem rm.alo{K:Fg}{U:Io}{H:Hp}:∀{Z:List Dv}{G:List V},nj K U H Z G->rm K U H (Z.map some) (G.map some)
 |_,_,.nil=>.nil|_,_,.cons h t=>.has h (rm.alo t)
def fu{r:Res α}(h:r.bind f=.ok b M):∃a Z,r=.ok a Z/\f a Z=.ok b M:=by
 cases r with
 |ok a Z=>exact⟨a,Z,rfl,h⟩|bad=>cases h
def ur(h:Res.rn o M=.ok a Z):o=some a/\Z=M:=by
 cases o with
 |none=>cases h|some x=>cases h;exact⟨rfl,rfl⟩
def PE.weak(h:PE X e t)(w:∀G H Q,t' G H Q->t G H Q):PE X e t':=λZ s G H Q I q=>h Z s G H Q I (w G H Q q)
def PT.weak(h:PT X e t)(w:∀G H Q,t' G H Q->t G H Q):PT X e t':=λZ s G H Q I q=>h Z s G H Q I (w G H Q q)
def PA.weak(h:PA X es t)(w:∀G H Q,t' G H Q->t G H Q):PA X es t':=λU Z s G H Q I q=>h U Z s G H Q I (w G H Q q)
def PS.weak(h:PS X e t)(w:∀D G H,t' D G H->t D G H):PS X e t':=λZ s G H D I q=>h Z s G H D I (w D G H q)
def Ox.weak(h:Ox X e t)(w:∀D G H,t' D G H->t D G H):Ox X e t':=λZ s G H D I q=>h Z s G H D I (w D G H q)
def Bv.weak(h:Bv X f r)(w:∀x y H Q,r' x y H Q->r x y H Q):Bv X f r':=λZ s R H x y v u Q I U G q=>h Z s R H x y v u Q I U G (w x y H Q q)
section
variable(nm:Nm)(W:Mg)(K:Fg)
def tE(e:Ex):TE:=fun σ H Q=>∃U ρ M d R,mj nm K U H M/\rm K U H ρ σ/\e.den W ρ M=.ok d R/\∀Z G v,Le U H Z G->mj nm K Z G R->Rep K Z G d v->Q v G
def tQ(e:Ex):TT:=fun σ H Q=>∃G ρ M b R,mj nm K G H M/\rm K G H ρ σ/\e.den W ρ M=.ok (.bl b) R/\∀Z U,Le G H Z U->mj nm K Z U R->Q b U
def Zr(es:Eb):TA:=fun σ H Q=>∃U ρ M ds R,mj nm K U H M/\rm K U H ρ σ/\es.den W ρ M=.ok ds R/\∀Z G vs,Le U H Z G->mj nm K Z G R->nj K Z G ds vs->Q vs G
def U0(D:Ends)(R:Io)(H:Hp)(fl:MW.Flow)(ρ:En)(M:du):Prop :=
 ∀G U Z,Le R H G U->mj nm K G U M->rm K G U ρ Z ->
  match fl with
  |.next=>D.nx Z U|.brk=>D.bk Z U|.cont=>D.ct Z U|.ret d=>∀v,Rep K G U d v->D.rt v U
def tS(st:Aj):TS:=λD σ H=>∃G R M fl Z U,mj nm K G H M/\rm K G H R σ/\st.den W R M=.ok (fl,Z) U/\U0 nm K D G H fl Z U
def tSs(st:my):TS:=λD σ H=>∃G R M fl Z U,mj nm K G H M/\rm K G H R σ/\st.den W R M=.ok (fl,Z) U/\U0 nm K D G H fl Z U
end
def PE.of(h:PE X a t)(w:∀σ H Q G ρ M d U,mj nm X.K G H M->rm X.K G H ρ σ->e'.den W ρ M=.ok d U->(∀Z H' v,Le G H Z H'->mj nm X.K Z H' U->Rep X.K Z H' d v->Q v H')->t σ H Q):PE X a (tE nm W X.K e'):=PE.weak h fun σ H Q z_=>by obtain⟨G,ρ,M,d,U,S,R,e,q⟩:=z_;exact w σ H Q G ρ M d U S R e q
def PT.of(h:PT X a t)(w:∀σ H Q Z ρ M b U,mj nm X.K Z H M->rm X.K Z H ρ σ->e'.den W ρ M=.ok (.bl b) U->(∀G H',Le Z H G H'->mj nm X.K G H' U->Q b H')->t σ H Q):PT X a (tQ nm W X.K e'):=PT.weak h fun σ H Q z_=>by obtain⟨Z,ρ,M,d,U,S,R,e,q⟩:=z_;exact w σ H Q Z ρ M d U S R e q
def PA.of(h:PA X es t)(w:∀σ H Q G ρ M ds U,mj nm X.K G H M->rm X.K G H ρ σ->qq.den W ρ M=.ok ds U->(∀Z H' vs,Le G H Z H'->mj nm X.K Z H' U->nj X.K Z H' ds vs->Q vs H')->t σ H Q):PA X es (Zr nm W X.K qq):=PA.weak h fun σ H Q z_=>by obtain⟨G,ρ,M,d,U,S,R,e,q⟩:=z_;exact w σ H Q G ρ M d U S R e q
def PS.of(h:PS X st t)(w:∀D σ H G ρ M fl Z U,mj nm X.K G H M->rm X.K G H ρ σ->s'.den W ρ M=.ok (fl,Z) U->U0 nm X.K D G H fl Z U->t D σ H):PS X st (tS nm W X.K s'):=PS.weak h λD σ H z_=>by obtain⟨G,ρ,M,fl,Z,U,S,R,e,q⟩:=z_;exact w D σ H G ρ M fl Z U S R e q
def Ox.of(h:Ox X st t)(w:∀D σ H G ρ M fl Z U,mj nm X.K G H M->rm X.K G H ρ σ->s'.den W ρ M=.ok (fl,Z) U->U0 nm X.K D G H fl Z U->t D σ H):Ox X st (tSs nm W X.K s'):=Ox.weak h λD σ H z_=>by obtain⟨G,ρ,M,fl,Z,U,S,R,e,q⟩:=z_;exact w D σ H G ρ M fl Z U S R e q
def one{X:Cx}{M1:du}(S:mj nm X.K ι H M)(R:rm X.K ι H ρ σ)(ha:a'.den W ρ M=.ok x M1)(h:∀Z U v,Le ι H Z U->mj nm X.K Z U M1->rm X.K Z U ρ σ->Rep X.K Z U x v->G v U):tE nm W X.K a' σ H G :=
 ⟨ι,ρ,M,x,M1,S,R,ha,λqq H' v le S' r=>h qq H' v le S' (R.mono le) r⟩
theorem two{X:Cx}{M1 M2:du}{G:V->V->Hp->Prop}(S:mj nm X.K ι H M)(R:rm X.K ι H ρ σ)(ha:a'.den W ρ M=.ok x M1)(hb:b'.den W ρ M1=.ok y M2)(h:∀Z H2 v u,Le ι H Z H2->mj nm X.K Z H2 M2->rm X.K Z H2 ρ σ->Rep X.K Z H2 x v->Rep X.K Z H2 y u->G v u H2) :
 tE nm W X.K a' σ H λv H1=>tE nm W X.K b' σ H1 λu H2=>G v u H2 :=
 one S R ha λqq H1 v U S1 R1 r1=>one S1 R1 hb λZ H2 u zf S2 R2 r2=>h Z H2 v u (U.trans zf) S2 R2 (r1.mono zf) r2
set_option tactic.hygienic true in
def a2e(G:X.N[i]?=some n)(U:Vis X.env.scope n)(Y:(n==("__debug__" : Str))=false)(Z:(n==("__classdict__" : Str))=false):PE X (.Name n pos) (tE nm W X.K (.var i)) :=
 PE.of (avt G U Y Z) fun σ H Q J ρ M d u S R e q=>by
  rw[MW.aoc] at e;split at e
  .rename_i d' Y
   cases e;obtain⟨v,C,L⟩:=R.get Y;exact⟨v,C,q J H v (Le.refl _ _) S L⟩
  .cases e
def a2f:PE X (.Constant (.int i) j pos) (tE nm W X.K (.cst (.int i))) :=
 PE.of avu λU H Q Z ρ M d G S R e q=>by rw[MW.Ha] at e;cases e;exact q Z H _ (Le.refl _ _) S (.int i)
def a9d:PE X (.Constant (.bool i) j pos) (tE nm W X.K (.cst (.bl i))) :=
 PE.of a0q λU H Q Z ρ M d G S R e q=>by rw[MW.Ha] at e;cases e;exact q Z H _ (Le.refl _ _) S (.bl i)
def a2g:PE X (.Constant .none j pos) (tE nm W X.K (.cst .non)) :=
 PE.of avv λU H Q Z ρ M d G S R e q=>by rw[MW.Ha] at e;cases e;exact q Z H _ (Le.refl _ _) S .non
def a2h:PE X (.Constant (.str i) j pos) (tE nm W X.K (.cst (.str i))) :=
 PE.of avw λU H Q Z ρ M d G S R e q=>by rw[MW.Ha] at e;cases e;exact q Z H _ (Le.refl _ _) S (.str i)
def aw2(U:Gl X n)(hm:X.mg n=some (.int i t))(Z:(n==("__debug__" : Str))=false):PE X (.Name n pos) (tE nm W X.K (.cst (.int i))) :=
 PE.of (apg (v:=.int i) U hm ⟨t,rfl⟩ Z) fun σ H Q G ρ M d M' S R e q=>by rw[MW.Ha] at e;cases e;exact q G H _ (Le.refl _ _) S (.int i)
def rOp(nm:Nm)(K:Fg)(f:Dv->Dv->du->Res Dv):R2:=λv u H Q=>∃G M x y d R,mj nm K G H M/\Rep K G H x v/\Rep K G H y u/\f x y M=.ok d R /\
 ∀Z U w,Le G H Z U->mj nm K Z U R->Rep K Z U d w->Q w U
def Bv.of(h:Bv X f r)(w:∀v u H Q G M x y d U,mj nm X.K G H M->Rep X.K G H x v->Rep X.K G H y u->g x y M=.ok d U->(∀Z R w,Le G H Z R->mj nm X.K Z R U->Rep X.K Z R d w->Q w R)->r v u H Q):Bv X f (rOp nm X.K g) :=
 Bv.weak h λv u H Q z_=>by obtain⟨G,M,x,y,d,U,S,rv,ru,e,q⟩:=z_;exact w v u H Q G M x y d U S rv ru e q
def a2i(ho:Bv X (binaryOp op) (rOp nm X.K (MW.Bs U)))(ha:PE X a (tE nm W X.K a'))(hb:PE X b (tE nm W X.K b')):PE X (.BinOp a op b pos) (tE nm W X.K (.bin U a' b')) :=
 PE.of (a05 ho ha hb) fun σ H Q ι ρ M d M' S R e q=>by rw[MW.aod] at e;obtain⟨x,M1,e1,e⟩:=fu e;obtain⟨y,M2,e2,e⟩:=fu e;exact two S R e1 e2 λZ H2 v u le S2 _ rv ru=>⟨Z,M2,x,y,d,M',S2,rv,ru,e,λG H' w W7 S' r=>q G H' w (le.trans W7) S' r⟩
def a2j:Bv X (binaryOp .Sub) (rOp nm X.K (MW.Bs .sub)) :=
 Bv.of awe λv u H Q Z M x y d M' S R G e q=>by obtain⟨i,j,rfl,rfl,U⟩:=MW.ace e (by intro z;cases z);cases R;cases G;cases U;exact⟨_,_,rfl,rfl,q Z H _ (Le.refl _ _) S (.int _)⟩
def aqc{g:Int->Int->Int}{P:Int->Int->Prop}[∀i j,Decidable (P i j)](h:Bv X (binaryOp op) r)(hb:∀x y M,MW.Bs U x y M=MW.ii x y (λi j=>if P i j then .ok (.int (g i j)) M else .bad) .bad)(w:∀i j H Q,P i j->Q (.int (g i j)) H->r (.int i) (.int j) H Q):Bv X (binaryOp op) (rOp nm X.K (MW.Bs U)) :=
 Bv.of h λv u H Q R M x y d M' S rv ru e q=>by
  rw[hb] at e;obtain⟨i,j,rfl,rfl,Z⟩:=MW.ace e (by intro z;cases z)
  by_cases G:P i j
  .rw[bz G] at Z
   cases rv;cases ru;cases Z;exact w i j H Q G (q R H _ (Le.refl _ _) S (.int _))
  .rw[cj G] at Z;cases Z
def a2k:Bv X (binaryOp .Mod) (rOp nm X.K (MW.Bs .mod)):=aqc awg (λ_ _ _=>rfl) λi j H Q h q=>⟨_,_,rfl,rfl,h,q⟩
def aw3:Bv X (binaryOp .FloorDiv) (rOp nm X.K (MW.Bs .fdiv)):=aqc apn (λ_ _ _=>rfl) λi j H Q h q=>⟨_,_,rfl,rfl,h,q⟩
def a2l:Bv X (binaryOp .Pow) (rOp nm X.K (MW.Bs .pow)):=aqc awh (λ_ _ _=>rfl) λi j H Q h q=>⟨_,_,rfl,rfl,⟨h.1,by omega,h.2.2⟩,q⟩
set_option tactic.hygienic true in
def ue{X:Cx}(S:mj nm X.K Z H M)(r:Rep X.K Z H d v)(h:MW.fj M d=some ds):∃p vs,v=.ref p/\H p=some (.lst vs)/\nj X.K Z H ds vs:=by
 cases r with
 |vl e n r=>simp[MW.fj] at h;subst h;exact⟨_,_,rfl,e,r⟩
 |ref e =>
  rename_i n p;simp only[MW.fj] at h;split at h<;>simp at h;rename_i Y J;subst h;obtain⟨vs,G,U⟩:=S.obj n _ p J e;exact⟨p,vs,rfl,G,U⟩
 |_=>simp[MW.fj] at h
def Fz{X:Cx}(S:mj nm X.K R H M)(r:Rep X.K R H d v)(h:MW.j8 M d=some ds):∃p vs,v=.ref p/\(H p=some (.lst vs)\/H p=some (.tup vs))/\nj X.K R H ds vs:=by
 cases r with
 |tup e r=>simp[MW.j8] at h;subst h;exact⟨_,_,rfl,.inr e,r⟩
 |vl e n r =>
  obtain⟨p,vs,G,Z,U⟩:=ue S (.vl e n r) (show MW.fj M _=_ from h);exact⟨p,vs,G,.inl Z,U⟩
 |ref e =>
  obtain⟨p,vs,G,Z,U⟩:=ue S (.ref e) (show MW.fj M _=_ from h);exact⟨p,vs,G,.inl Z,U⟩
 |_=>simp[MW.j8,MW.fj] at h
def Yx{X:Cx}(S:mj nm X.K Z H M)(U:H p=none)(r:nj X.K Z H ds G):mj nm X.K Z (upd H p (.lst G)) M/\Le Z H Z (upd H p (.lst G))/\Rep X.K Z (upd H p (.lst G)) (.vl ds) (.ref p):=by obtain⟨R,le⟩:=S.laid U (.lst G);exact⟨R,le,.vl uf (S.fresh U) (r.mono le)⟩
def Js{X:Cx}(S:mj nm X.K Z H M)(R:H p=none)(r:nj X.K Z H ds G):mj nm X.K Z (upd H p (.tup G)) M/\Le Z H Z (upd H p (.tup G))/\Rep X.K Z (upd H p (.tup G)) (.tup ds) (.ref p):=by obtain⟨U,le⟩:=S.laid R (.tup G);exact⟨U,le,.tup uf (r.mono le)⟩
def aft{X:Cx}(S:mj nm X.K Z H M)(U:H p=none)(r:nj X.K Z H ds G):mj nm X.K (Z.add p) (upd H p (.lst G)) (M++[.lst ds])/\Le Z H (Z.add p) (upd H p (.lst G))/\Rep X.K (Z.add p) (upd H p (.lst G)) (.ref M.length) (.ref p):=by
 obtain⟨R,le⟩:=S.new (H':=upd H p (.lst G)) (o:=.lst ds) U (λa u e=>by rw[lz (n8 e U)];exact e) λle=>⟨G,uf,r.mono le⟩
 exact⟨R,le,.ref (by show(Z.l++[p])[M.length]?=some p;rw[<- S.len];simp)⟩
def U4:(100000:Nat)<=sizeLine:=by decide
set_option tactic.hygienic true in
def aqd(h:MW.Bs .add x y M=.ok d M'):(∃i j,x=.int i/\y=.int j/\d=.int (i+j)/\M'=M) \/
 (∃Z Y,x=.tup Z/\y=.tup Y/\Z.length+Y.length<=100000/\d=.tup (Z++Y)/\M'=M) \/
 ∃Z Y,MW.fj M x=some Z/\MW.fj M y=some Y/\Z.length+Y.length<=100000/\d=.vl (Z++Y)/\M'=M:=by
 have h:MW.ais x y M=.ok d M':=h;unfold MW.ais at h;split at h<;>try cases h
 .exact .inl ⟨_,_,rfl,rfl,rfl,rfl⟩
 .split at h<;>cases h
  rename_i G;exact .inr (.inl ⟨_,_,rfl,rfl,G,rfl,rfl⟩)
 .split at h
  .split at h<;>cases h
   rename_i U C J;exact .inr (.inr ⟨_,_,U,C,J,rfl,rfl⟩)
  .cases h
def a2m:Bv X (binaryOp .Mult) (rOp nm X.K (MW.Bs .mul)):=aqc awf (λ_ _ _=>rfl) λi j H Q h q=>⟨_,_,rfl,rfl,h,q⟩
def a2n:Bv X (binaryOp .Add) (rOp nm X.K (MW.Bs .add)) :=
 Bv.of (awd.or (awz.or ap4)) λv u H Q ι M x y d M' S rv ru e q=>by
  have G:∀R ys,MW.fj M x=some R->MW.fj M y=some ys->R.length+ys.length<=100000->d=.vl (R++ys)->M'=M->a1z v u H Q:=λR ys h1 h2 hl hd hm=>by
   subst hd hm;obtain⟨p,vs,rfl,e1,U⟩:=ue S rv h1;obtain⟨p2,qq,rfl,e2,Z⟩:=ue S ru h2;refine⟨p,p2,vs,qq,rfl,rfl,e1,e2,?_,λp3 h3=>?_⟩
   .rw[<- U.length,<- Z.length];exact az hl U4
   .obtain⟨a,b,c⟩:=Yx S h3 (U.append Z)
    exact q ι _ _ b a c
  rcases aqd e with⟨i,j,rfl,rfl,rfl,rfl⟩|⟨R,ys,rfl,rfl,hl,rfl,rfl⟩|⟨R,ys,h1,h2,hl,h3,h4⟩
  .cases rv;cases ru
   exact .inl ⟨_,_,rfl,rfl,q ι H _ (Le.refl _ _) S (.int _)⟩
  .cases rv with
   |tup e1 U =>
    cases ru with
    |tup e2 Z =>
     refine .inr (.inr ⟨_,_,_,_,rfl,rfl,Ey.of e1,Ey.of e2,?_,λhn=>?_,λhn=>?_,λp hp=>?_⟩)
     .rw[<- U.length,<- Z.length];exact az hl U4
     .have:=U.length
      rw[hn] at this;rw[List.length_eq_zero_iff.mp this,yr] at q;exact q ι H _ (Le.refl _ _) S (.tup e2 Z)
     .have:=Z.length
      rw[hn] at this;rw[List.length_eq_zero_iff.mp this,Ae] at q;exact q ι H _ (Le.refl _ _) S (.tup e1 U)
     .obtain⟨a,b,c⟩:=Js S hp (U.append Z)
      exact q ι _ _ b a c
  .exact .inr (.inl (G _ _ h1 h2 hl h3 h4))
def aw4{t:TE}(h:PT X a (λZ H Q=>t Z H λx H1=>∃c,x=.bl c/\Q c H1))(w:∀Z H Q,tE nm W X.K U Z H Q->t Z H Q):PT X a (tQ nm W X.K U) :=
 PT.of h λZ H Q ι ρ M b M' S R e q=>w Z H _ ⟨ι,ρ,M,_,M',S,R,e,λG H' v le S' r=>by cases r;exact⟨b,rfl,q G H' le S'⟩⟩
def a2p(h:PE X a (tE nm W X.K G))(U:∀Z,isTrue a X.env Z=(do let v <- Z;standAt a.pos;holding [v] (truthy v))):PT X a (tQ nm W X.K G) :=
 aw4 (avx h U) λ_ _ _ q=>q
def U5(U:Nm)(K:Fg)(G:Cp):R2:=λv u H Q=>∃Z M x y b,mj U K Z H M/\Rep K Z H x v/\Rep K Z H y u/\MW.Ik G x y M=some b/\Q (.bl b) H
def aa3{X:Cx}:∀G H Q,tE nm W X.K (.cmp U a' b') G H Q->tOp (U5 nm X.K U) (tE nm W X.K a') (tE nm W X.K b') G H Q:=λG H Q hh=>by obtain⟨ι,ρ,M,d,M',S,R,e,q⟩:=hh;rw[MW.Ro] at e;obtain⟨x,M1,e1,e⟩:=fu e;obtain⟨y,M2,e2,e⟩:=fu e;obtain⟨e,rfl⟩:=ur e;obtain⟨b,e3,rfl⟩:=bw.mp e;exact two S R e1 e2 λZ H2 v u le S2 _ rv ru=>⟨Z,M',x,y,b,S2,rv,ru,e3,q Z H2 _ le S2 (.bl b)⟩
def a2q(U:Bv X (compareOp op) (U5 nm X.K Z))(R:PE X a (tE nm W X.K G))(hb:PE X b (tE nm W X.K b'))(hm:behindInMarks op b=false):PE X (.Compare a [op] [b] pos) (tE nm W X.K (.cmp Z G b')) :=
 PE.weak (apo U R hb hm) aa3
def a2r(R:Bv X (compareOp op) (U5 nm X.K Z))(ha:PE X a (tE nm W X.K G))(hb:PE X b (tE nm W X.K U))(hm:behindInMarks op b=false):PT X (.Compare a [op] [b] pos) (tQ nm W X.K (.cmp Z G U)) :=
 aw4 (t:=tOp (U5 nm X.K Z) (tE nm W X.K G) (tE nm W X.K U)) (apq R ha hb hm) aa3
def U6{X:Cx}:∀σ H Q,tE nm W X.K (.chain op1 op2 a' b' c') σ H Q->Yp (U5 nm X.K op1) (U5 nm X.K op2) (tE nm W X.K a') (tE nm W X.K b') (tE nm W X.K c') σ H Q:=fun σ H Q hh=>by
 obtain⟨ι,ρ,M,d,M',S,R,e,q⟩:=hh;rw[MW.agw] at e;obtain⟨x,M1,e1,e⟩:=fu e;obtain⟨y,M2,e2,e⟩:=fu e;obtain⟨k,Z,e3,e⟩:=fu e;obtain⟨e3,rfl⟩:=ur e3;refine two S R e1 e2 λG H2 v u le S2 R2 rv ru=>⟨G,Z,x,y,k,S2,rv,ru,e3,k,rfl,?_⟩
 cases k with
 |false =>
  have e:Res.ok (MW.D.bl false) Z=.ok d M':=e;cases e;exact q G H2 _ le S2 (.bl false)
 |true =>
  have e:((c'.den W ρ Z).bind λz M3=>Res.rn ((MW.Ik op2 y z M3).map MW.D.bl) M3)=.ok d M':=e;obtain⟨z,M3,e4,e⟩:=fu e;obtain⟨e,rfl⟩:=ur e;obtain⟨b,e5,rfl⟩:=bw.mp e;show tE nm W X.K c' σ H2 _;exact one S2 R2 e4 λU H3 w Sq S3 _ rw=>⟨U,M',y,z,b,S3,ru.mono Sq,rw,e5,q U H3 _ (le.trans Sq) S3 (.bl b)⟩
def aqe(h1:Bv X (compareOp G) (U5 nm X.K op1))(h2:Bv X (compareOp Z) (U5 nm X.K op2))(ha:PE X a (tE nm W X.K U))(hb:PE X b (tE nm W X.K b'))(R:PE X c (tE nm W X.K c'))(hm:lastMarks [G,Z] [b,c]=false) :
 PE X (.Compare a [G,Z] [b,c] pos) (tE nm W X.K (.chain op1 op2 U b' c')):=PE.weak (ak0 h1 h2 ha hb R hm) U6
def aqf(h1:Bv X (compareOp R) (U5 nm X.K op1))(h2:Bv X (compareOp G) (U5 nm X.K op2))(ha:PE X a (tE nm W X.K Z))(hb:PE X b (tE nm W X.K b'))(hc:PE X c (tE nm W X.K U))(hm:lastMarks [R,G] [b,c]=false) :
 PT X (.Compare a [R,G] [b,c] pos) (tQ nm W X.K (.chain op1 op2 Z b' U)):=aw4 (t:=Yp (U5 nm X.K op1) (U5 nm X.K op2) (tE nm W X.K Z) (tE nm W X.K b') (tE nm W X.K U)) (ak1 h1 h2 ha hb hc hm) U6
def Yy(h:Bv X (compareOp op) (rI0 λi j=>.bl (f i j)))(e:∀x y M,MW.Ik Z x y M=MW.Zy f x y):Bv X (compareOp op) (U5 nm X.K Z) :=
 Bv.weak h λv u H Q U=>by obtain⟨ι,M,x,y,b,S,rv,R,G,q⟩:=U;rw[e] at G;obtain⟨i,j,rfl,rfl,e2⟩:=MW.ace G (by intro z;cases z);cases rv;cases R;cases e2;exact⟨_,_,rfl,rfl,q⟩
def a9f:Bv X (compareOp .Lt) (U5 nm X.K .lt):=Yy a1a λ_ _ _=>rfl
def a9g:Bv X (compareOp .LtE) (U5 nm X.K .le):=Yy a1b λ_ _ _=>rfl
def a9h:Bv X (compareOp .Gt) (U5 nm X.K .gt):=Yy a1c λ_ _ _=>rfl
def a9i:Bv X (compareOp .GtE) (U5 nm X.K .ge):=Yy a1d λ_ _ _=>rfl
set_option tactic.hygienic true in
def a9j:Bv X (compareOp .Is) (U5 nm X.K .is) :=
 Bv.weak awk λv u H Q G=>by
  obtain⟨U,M,x,y,b,S,Y,J,Z,q⟩:=G;cases y with
  |non =>
   cases J;cases x with
   |non=>cases Y;cases Z;exact⟨rfl,q⟩|tup C=>cases Y;cases Z;exact⟨rfl,q⟩|_=>cases Z
  |_=>cases Z
set_option tactic.hygienic true in
def as7{Z:Ya}(L:PE X a (tE nm W X.K a'))(hb:PE X (.BoolOp .And (b::Z) pos) (tE nm W X.K u)):PE X (.BoolOp .And (a::b::Z) pos) (tE nm W X.K (.and a' u)) :=
 PE.of (av0 L hb) fun σ H Q ι ρ M d M' S R e q=>by
  rw[MW.ad9] at e;obtain⟨x,M1,e1,e⟩:=fu e;refine one S R e1 λG H1 v le J R1 r=>?_
  cases r<;>try cases e
  rename_i k;refine⟨k,rfl,?_⟩;cases k with
  |false=>cases e;exact q G H1 _ le J (.bl false)|true=>exact one J R1 e λY C w zf S2 _ U=>q Y C w (le.trans zf) S2 U
set_option tactic.hygienic true in
def a2s{Z:Ya}(L:PE X a (tE nm W X.K a'))(hb:PE X (.BoolOp .Or (b::Z) pos) (tE nm W X.K u)):PE X (.BoolOp .Or (a::b::Z) pos) (tE nm W X.K (.or a' u)) :=
 PE.of (a0u L hb) fun σ H Q ι ρ M d M' S R e q=>by
  rw[MW.aiv] at e;obtain⟨x,M1,e1,e⟩:=fu e;refine one S R e1 λG H1 v le J R1 r=>?_
  cases r<;>try cases e
  rename_i k;refine⟨k,rfl,?_⟩;cases k with
  |true=>cases e;exact q G H1 _ le J (.bl true)|false=>exact one J R1 e λY C w zf S2 _ U=>q Y C w (le.trans zf) S2 U
def a2t(ha:PE X a (tE nm W X.K G)):PE X (.UnaryOp .Not a pos) (tE nm W X.K (.not G)) :=
 PE.of (av1 ha) fun σ H Q ι ρ M d M' S R e q=>by
  rw[MW.aea] at e;obtain⟨x,M1,e1,e⟩:=fu e;refine one S R e1 λZ H1 v le U R1 r=>?_
  cases r<;>try cases e
  exact⟨_,rfl,q Z H1 _ le U (.bl _)⟩
def Vy{X:Cx}{M1:du}(S:mj nm X.K ι H M)(R:rm X.K ι H ρ σ)(ha:a'.den W ρ M=.ok (.bl k) M1)(h:∀Z U,Le ι H Z U->mj nm X.K Z U M1->rm X.K Z U ρ σ->G k U):tQ nm W X.K a' σ H G :=
 ⟨ι,ρ,M,k,M1,S,R,ha,λqq H' le S'=>h qq H' le S' (R.mono le)⟩
set_option tactic.hygienic true in
def as8{rest:Ya}(ha:PT X a (tQ nm W X.K C))(hb:PW X (.BoolOp .And (b::rest) pos) (tQ nm W X.K u)):PW X (.BoolOp .And (a::b::rest) pos) (tQ nm W X.K (.and C u)) :=
 λZ Y s σ H Q I ⟨ι,ρ,M,d,M',S,R,e,q⟩=>avz ha hb Z Y s σ H Q I (by
  rw[MW.ad9] at e;obtain⟨x,M1,L,e⟩:=fu e;cases x<;>try cases e
  rename_i k;refine Vy S R L λJ H1 le U R1=>?_
  cases k with
  | false=>cases e;exact q J H1 le U|true=>exact Vy U R1 e λG H2 zf S2 _=>q G H2 (le.trans zf) S2)
set_option tactic.hygienic true in
def a2u{rest:Ya}(ha:PT X a (tQ nm W X.K C))(hb:PW X (.BoolOp .Or (b::rest) pos) (tQ nm W X.K u)):PW X (.BoolOp .Or (a::b::rest) pos) (tQ nm W X.K (.or C u)) :=
 λZ Y s σ H Q I ⟨ι,ρ,M,d,M',S,R,e,q⟩=>a0r ha hb Z Y s σ H Q I (by
  rw[MW.aiv] at e;obtain⟨x,M1,L,e⟩:=fu e;cases x<;>try cases e
  rename_i k;refine Vy S R L λJ H1 le U R1=>?_
  cases k with
  | true=>cases e;exact q J H1 le U|false=>exact Vy U R1 e λG H2 zf S2 _=>q G H2 (le.trans zf) S2)
def a2v(ha:PT X a (tQ nm W X.K G)):PT X (.UnaryOp .Not a pos) (tQ nm W X.K (.not G)) :=
 PT.of (akr ha) fun σ H Q ι ρ M d M' S R e q=>by
  rw[MW.aea] at e;obtain⟨x,M1,e1,e⟩:=fu e;cases x<;>try cases e
  exact Vy S R e1 λZ H1 le U R1=>q Z H1 le U
set_option tactic.hygienic true in
def a2w(hc:PT X c (tQ nm W X.K u))(ha:PE X a (tE nm W X.K a'))(hb:PE X b (tE nm W X.K b')):PE X (.IfExp c a b pos) (tE nm W X.K (.ite u a' b')) :=
 PE.of (aks hc ha hb) fun σ H Q ι ρ M d M' S R e q=>by
  rw[MW.aoi] at e;obtain⟨x,M1,e1,e⟩:=fu e;cases x<;>try cases e
  rename_i k;refine Vy S R e1 λqq H1 le C L=>?_
  cases k with
  |true=>exact one C L e λZ G w U J _ Y=>q Z G w (le.trans U) J Y
  |false=>exact one C L e λZ G w U J _ Y=>q Z G w (le.trans U) J Y
def afu:PA X [] (Zr nm W X.K .nil):=PA.of awn fun σ H Q Z U M ds G S R e q=>by rw[MW.Et] at e;cases e;exact q Z H _ (Le.refl _ _) S .nil
def Vz{X:Cx}{M1:du}(S:mj nm X.K ι H M)(R:rm X.K ι H ρ σ)(ha:es'.den W ρ M=.ok ds M1)(h:∀Z U vs,Le ι H Z U->mj nm X.K Z U M1->rm X.K Z U ρ σ->nj X.K Z U ds vs->G vs U):Zr nm W X.K es' σ H G :=
 ⟨ι,ρ,M,ds,M1,S,R,ha,λqq H' v le S' r=>h qq H' v le S' (R.mono le) r⟩
def Yz(ha:PE X a (tE nm W X.K a'))(hr:PA X es (Zr nm W X.K G))(hs:starEach (a::es) X.env=(false,eval a X.env)::starEach es X.env):PA X (a::es) (Zr nm W X.K (.cons a' G)) :=
 PA.of (apu ha hr hs) fun σ H Q ι ρ M ds M' S R e q=>by rw[MW.Df] at e;obtain⟨x,M1,e1,e⟩:=fu e;obtain⟨xs,M2,e2,e⟩:=fu e;cases e;exact one S R e1 λqq H1 v le S1 R1 r1=>Vz S1 R1 e2 λZ H2 vs U S2 R2 r2=>q Z H2 _ (le.trans U) S2 (.cons (r1.mono U) r2)
noncomputable def Eb.len:Eb->Nat
 |.nil=>0|.cons _ r=>Eb.len r+1
theorem Ir{W:Mg}:∀{Z:Eb}{R:En}{M U:du}{G:List Dv},Z.den W R M=.ok G U->G.length=Eb.len Z
 |.nil,_,_,_,_,e=>by rw[MW.Et] at e;cases e;rfl
 |.cons _ r,_,_,_,_,e=>by
  rw[MW.Df] at e;obtain⟨x,U,e1,e⟩:=fu e;obtain⟨xs,M2,e2,e⟩:=fu e;cases e;rw[d9,Ir e2];rfl
def a2x(h:PA X es (Zr nm W X.K Z))(hl:Eb.len Z<=1000):PE X (.Tuple es k pos) (tE nm W X.K (.tup Z)) :=
 PE.of (awo h) fun σ H Q ι ρ M d M' S R e q=>by
  rw[MW.aof] at e;obtain⟨ds,M1,U,e⟩:=fu e;cases e;refine Vz S R U λG H1 vs le S1 R1 r=>⟨?_,λp hp=>?_⟩
  .rw[<- r.length,Ir U];exact az hl (by decide)
  .obtain⟨S2,zf,r2⟩:=Js S1 hp r
   exact q G _ _ (le.trans zf) S2 r2
def aw6(h:PA X es (Zr nm W X.K Z))(hl:Eb.len Z<=1000):PE X (.List es pos) (tE nm W X.K (.Ax Z)) :=
 PE.of (ak6 h) fun σ H Q ι ρ M d M' S R e q=>by
  rw[MW.Tj] at e;obtain⟨ds,M1,U,e⟩:=fu e;cases e;refine Vz S R U λG H1 vs le S1 R1 r=>⟨?_,λp hp=>?_⟩
  .rw[<- r.length,Ir U];exact az hl (by decide)
  .obtain⟨S2,zf,r2⟩:=Yx S1 hp r
   exact q G _ _ (le.trans zf) S2 r2
def a2y(h:PA X es (Zr nm W X.K Z))(hl:Eb.len Z<=1000):PE X (.List es pos) (tE nm W X.K (.lst Z)) :=
 PE.of (ak6 h) fun σ H Q ι ρ M d M' S R e q=>by
  rw[MW.aog] at e;obtain⟨ds,M1,G,e⟩:=fu e;cases e;refine Vz S R G λqq H1 vs le U R1 r=>⟨?_,λp hp=>?_⟩
  .rw[<- r.length,Ir G];exact az hl (by decide)
  .obtain⟨S2,zf,r2⟩:=aft U hp r
   exact q _ _ _ (le.trans zf) S2 r2
def a2z(ha:PE X a (tE nm W X.K G)):PE X (.UnaryOp .USub a pos) (tE nm W X.K (.neg G)) :=
 PE.of (a06 awi ha) fun σ H Q ι ρ M d M' S R e q=>by
  rw[MW.aoe] at e;obtain⟨x,M1,e1,e⟩:=fu e;refine one S R e1 λZ H1 v le U R1 r=>?_
  cases r<;>try cases e
  exact⟨_,rfl,q Z H1 _ le U (.int _)⟩
open PyProof.Rows (subscriptTail)
section
variable{κ:Type}[DecidableEq κ]{K:Fg}{ι:Io}{H:Hp}
theorem qb.length{κ Z:Type}{f:κ->Z->Prop}:∀{l:List (κ×Dv)}{G:List (Z×V)},qb K ι H f l G->l.length=G.length:=by intro _ _ h;induction h with|nil=>rfl|cons _ _ _ ih=>rw[d9,d9,ih]
theorem qb.look{k:κ}:∀{G:List (κ×Dv)}{l:List (κ×V)},qb K ι H (λk U=>k=U) G l->(∀d,MW.Eh G k=some d->∃v,Qh l k=some v/\Rep K ι H d v)/\(MW.Eh G k=none->Qh l k=none)
 |_,_,.nil=>⟨λd h=>by simp[MW.Eh] at h,λ_=>rfl⟩
 |_,_,.cons (k:=q) (k':=q') hk h t=>by
  subst hk;obtain⟨a,b⟩:=qb.look (k:=k) t
  by_cases e:q=k
  .refine⟨λd Z=>?_,λZ=>?_⟩
   .simp[MW.Eh,m5,e] at Z
    subst Z;exact⟨_,Oz e,h⟩
   .simp[MW.Eh,m5,e] at Z
  .have z:∀(d:Dv) r,MW.Eh ((q,d)::r) k=MW.Eh r k:=λd r=>by simp[MW.Eh,m5,e]
   rw[z,O1 (by exact e)];exact⟨a,b⟩
theorem qb.any{k:κ}:∀{Z:List (κ×Dv)}{l:List (κ×V)},qb K ι H (λk G=>k=G) Z l->(Z.any λkv=>decide (kv.1=k))=(l.any λkv=>decide (kv.1=k))
 |_,_,.nil=>rfl|_,_,.cons hk h t=>by subst hk;simp only[wu,qb.any t]
theorem qb.ade{k:κ}{d:Dv}{v:V}(r:Rep K ι H d v):∀{G:List (κ×Dv)}{l:List (κ×V)},qb K ι H (λk Z=>k=Z) G l ->
 qb K ι H (λk Z=>k=Z) (G.map λkv=>if kv.1=k then(kv.1,d) else kv) (l.map λkv=>if kv.1=k then(kv.1,v) else kv)
 |_,_,.nil=>.nil
 |_,_,.cons (k:=q) hk h t=>by
  subst hk;simp only[di]
  by_cases e:q=k
  .simp only[e,jk];exact .cons rfl r (qb.ade r t)
  .simp only[e,jg];exact .cons rfl h (qb.ade r t)
theorem qb.snoc{κ Z:Type}{f:κ->Z->Prop}{k:κ}{R:Z}{d:Dv}{v:V}(U:f k R)(r:Rep K ι H d v):∀{l:List (κ×Dv)}{G:List (Z×V)},qb K ι H f l G->qb K ι H f (l++[(k,d)]) (G++[(R,v)])
 |_,_,.nil=>.cons U r .nil|_,_,.cons q h t=>.cons q h (qb.snoc U r t)
def qb.put{k:κ}(r:Rep K ι H d v)(t:qb K ι H (λk Z=>k=Z) G l):qb K ι H (λk Z=>k=Z) (MW.Te G k d) (putK l k v):=by
 unfold MW.Te putK;rw[t.any (k:=k)]
 by_cases e:(l.any λkv=>decide (kv.1=k))=true
 .rw[bz e,bz e];exact t.ade r
 .rw[cj e,cj e];exact t.snoc rfl r
theorem qb.fld{nm:Nm}{f:Nat}:∀{fs:List (Nat×Dv)}{l:List (Str×V)},qb K ι H (λk G=>G=nm.fld k) fs l->(∀d,fs.lookup f=some d->∃v,l.lookup (nm.fld f)=some v/\Rep K ι H d v)/\(fs.lookup f=none->l.lookup (nm.fld f)=none)
 |_,_,.nil=>⟨λd h=>by simp at h,λ_=>rfl⟩
 |_,_,.cons (k:=q) (k':=q') hk h t=>by
  subst hk;obtain⟨a,b⟩:=qb.fld (nm:=nm) (f:=f) t;rw[m7,m7]
  by_cases e:f=q
  .subst e
   simp only[zu];exact⟨λd Z=>by cases Z;exact⟨_,rfl,h⟩,λZ=>by cases Z⟩
  .have U:(f==q)=false:=by simpa using e
   have R:(nm.fld f==nm.fld q)=false:=by
    cases z:nm.fld f==nm.fld q with
    |false=>rfl|true=>exact absurd (nm.inj _ _ (eq_of_beq z)) e
   rw[U,R];exact⟨a,b⟩
theorem qb.G8{Z:Nm}{f:Nat}{d:Dv}{v:V}(r:Rep K ι H d v):∀{fs:List (Nat×Dv)}{l:List (Str×V)},qb K ι H (λk G=>G=Z.fld k) fs l->qb K ι H (λk G=>G=Z.fld k) (MW.Tf f d fs) (L2.G8 (Z.fld f) v l)
 |_,_,.nil=>.cons rfl r .nil
 |_,_,.cons (k:=q) (k':=q') hk h t=>by
  subst hk;unfold MW.Tf L2.G8
  by_cases e:q=f
  .subst e
   simp only[jk];exact .cons rfl r t
  .have U:¬Z.fld q=Z.fld f:=λz=>e (Z.inj _ _ z)
   rw[cj e,cj U];exact .cons rfl h (qb.G8 r t)
def aw7(r:Rep K ι H d v)(h:MW.at4 d=some k):v=kV k:=by cases r<;>simp[MW.at4] at h<;>subst h<;>rfl
set_option tactic.hygienic true in
theorem alp:∀{Y:List Dv}{Z:List V}{ks:List Kx},nj K ι H Y Z->MW.acd Y=some ks->Z=ks.map kV
 |_,_,_,.nil,h=>by simp[MW.acd] at h;subst h;rfl
 |_,_,_,.cons r t,h=>by
  simp only[MW.acd] at h;split at h
  .rename_i k G J U
   cases h;rw[aw7 r J,alp t U];rfl
  .cases h
def Y0(r:Rep K ι H d v)(h:MW.Nx d=some ks):∃b,v=.ref b/\H b=some (.tup (ks.map kV)):=by
 cases r with
 |tup e r=>exact⟨_,rfl,by rw[<- alp r h];exact e⟩|_=>simp[MW.Nx] at h
end
def aw8(R:X.A.units+1<cLine):IxR X (λx y H Q=>∃a v,x=.ref a/\adf H a y (some v)/\Q v H):=by intro Z G U s σ H x y v u Q I rx ry h hs;obtain⟨p,z,rfl,g,q⟩:=h;cases rx;exact PyProof.Rows.tail_any (aau I g) PySem.F.slot_dict_getitem.lookup (ahh R I g ry λw' s' I' r=>⟨z,H,I',r,q⟩) hs
def a9k(G:Nm)(K:Fg):R2:=λv u H Q=>∃Z M x y d,mj G K Z H M/\Rep K Z H x v/\Rep K Z H y u/\MW.rz x y M=some d/\∀w,Rep K Z H d w->Q w H
set_option tactic.hygienic true in
def aw9(hu:X.A.units+1<cLine):IxR X (a9k nm X.K):=by
 intro Y Z G s σ H v u v' u' Q I rv ru ⟨ι,M,x,y,d,S,rx,ry,e,q⟩ hs;have C:∀(p:Addr)(U:List V)(ds:List Dv),v=.ref p->(Ew X.K H p U\/Ey X.K H p U)->nj X.K ι H ds U->(match y with|.int i=>(MW.Td ds.length i).bind λj=>ds[j]?|_=>none)=some d ->
  wpAny (model X.prog X.w) X.A (subscriptTail Y Z v' u') (EP X G σ Q) X.xe s:=λp U ds hv hq r e=>by
  subst hv;obtain⟨i,qq⟩:∃i,y=.int i:=by cases y<;>first|exact⟨_,rfl⟩|cases e
  subst qq;cases ry;obtain⟨j,J,e2⟩:=jb.mp e;obtain⟨z,h1,L⟩:=r.get e2;have R:atI U i=some z:=by unfold atI;rw[show ixN U.length i=some j from by rw[<- r.length];exact J];exact h1
  rcases hq with hq|hq
  .exact L2.yf Y Z G s σ H _ _ v' u' Q I rv ru ⟨p,U,i,z,rfl,rfl,hq,R,q z L⟩ hs
  .exact L2.Iz Y Z G s σ H _ _ v' u' Q I rv ru ⟨p,U,i,z,rfl,rfl,hq,R,q z L⟩ hs
 cases rx with
 |tup J r1=>exact C _ _ _ rfl (.inr (Ey.of J)) r1 (by cases ry<;>first|exact e|(simp[MW.rz,MW.ixL,MW.j8] at e))
 |vl J n1 r1=>exact C _ _ _ rfl (.inl (Ew.of J)) r1 (by cases ry<;>first|exact e|(simp[MW.rz,MW.ixL,MW.j8,MW.fj] at e))
 |fz J r1=>exact C _ _ _ rfl (.inl J.sq) r1 (by cases ry<;>first|exact e|(simp[MW.rz,MW.ixL] at e))
 |ref J =>
  rename_i n p;simp only[MW.rz] at e;split at e
  .rename_i o6 hn
   obtain⟨l,h1,L⟩:=S.obj n _ p hn J;obtain⟨k,e2,e3⟩:=jb.mp e;obtain⟨z,h3,h4⟩:=(L.look (k:=k)).1 d e3;obtain⟨b,rfl,hb⟩:=Y0 ry e2;exact aw8 hu Y Z G s σ H _ _ v' u' Q I rv ru ⟨p,z,rfl,.inr ⟨l,k,b,.inl h1,rfl,hb,h3.symm⟩,q z h4⟩ hs
  .cases hl:MW.fj M (.ref n) with
   |none=>rw[hl] at e;cases e
   |some ds =>
    obtain⟨p',U,hp,h1,L⟩:=ue S (.ref J) hl;cases hp;rw[hl] at e;exact C _ _ _ rfl (.inl (Ew.of h1)) L (by cases ry<;>first|exact e|cases e)
 |_=>simp[MW.rz,MW.ixL,MW.j8,MW.fj] at e
def a9l(hu:X.A.units+1<cLine)(ha:PE X a (tE nm W X.K a'))(hb:PE X b (tE nm W X.K b'))(hs:Ys b):PE X (.Subscript a b pos) (tE nm W X.K (.ix a' b')) :=
 PE.of (a1s (aw9 (nm:=nm) hu) ha hb hs) fun σ H Q ι ρ M d M' S R e q=>by rw[MW.aub] at e;obtain⟨x,M1,e1,e⟩:=fu e;obtain⟨y,M2,e2,e⟩:=fu e;obtain⟨e,rfl⟩:=ur e;exact two S R e1 e2 λZ U v u le G _ rv ru=>⟨Z,M',x,y,d,G,rv,ru,e,λw r=>q Z U w le G r⟩
set_option tactic.hygienic true in
def a3a(hn:n=nm.fld f)(G:∀c C,nm.cls c=some C->X8 X.K C/\Ff X.K C n)(u:PE X a (tE nm W X.K a'))(hb:attributeBase a n X.env (eval a X.env)=eval a X.env):PE X (.Attribute a n pos) (tE nm W X.K (.fld a' f)) :=
 PE.of (awl u hb) fun σ H Q ι ρ M d M' S R e q=>by
  rw[MW.aoh] at e;obtain⟨x,M1,e1,e⟩:=fu e;obtain⟨e,rfl⟩:=ur e;refine one S R e1 λZ H1 v le J R1 r=>?_
  obtain⟨m,Y⟩:∃m,x=.ref m:=by cases x<;>first|exact⟨_,rfl⟩|cases e
  subst Y;obtain⟨p,rfl,hp⟩:∃p,v=.ref p/\Z.l[m]?=some p:=by cases r with|ref z=>exact⟨_,rfl,z⟩
  simp only[MW.Il] at e;split at e
  .rename_i c fs hm
   obtain⟨C,L,l,h1,h2,U⟩:=J.obj m _ p hm hp;obtain⟨z,h4,h5⟩:=(U.fld (nm:=nm) (f:=f)).1 d e;subst hn;obtain⟨g1,g2⟩:=G c C h1;exact⟨p,C,L,l,z,rfl,h2,g1,g2,h4,q Z H1 z le J h5⟩
  .cases e
open MW (Ex Eb OEx Nb Aj my Lv Tg Res du MO Mg Cp Op2 Blt Bm Kx Src)
noncomputable def Qk:Expr->Bool
 |.ListComp ..=>false|.SetComp ..=>false|.DictComp ..=>false|_=>true
def Ld(h:Qk e=true)(t:Option Expr)(l:Nat)(Z:Env):swapsWith e t l Z=pure false:=by cases e<;>first|rfl|(cases h)
noncomputable def G9:Expr->Bool
 |.Set ..=>false|_=>true
def Dy(h:G9 e=true)(Z:Env)(x:Value):foldedSetIterable e Z x=pure x:=by cases e<;>first|rfl|(cases h)
def Ra(h:G9 e=true)(Z:CmpOp):behindInMarks Z e=false:=by cases e<;>first|rfl|(cases h)
noncomputable def as9:Expr->Bool
 |.Tuple ..=>false|_=>true
noncomputable def noStar:Expr->Bool
 |.Starred ..=>false|_=>true
def qz(h:noStar e=true)(Z:Ya)(env:Env):starEach (e::Z) env=(false,eval e env)::starEach Z env:=by cases e<;>first|rfl|(cases h)
noncomputable def Y4:Expr->Bool
 |.Slice ..=>false|_=>true
def alq(h:Y4 e=true):Ys e:=by intro o i;cases e<;>first|rfl|(cases h)
noncomputable def Bc:Tg->List Nat
 |.name i=>[i]|.names is=>is
def tGt(nm:Nm)(K:Fg)(t:Tg):TG:=λv R H Q=>∃U ρ M d G,mj nm K U H M/\rm K U H ρ R/\Rep K U H d v/\t.put d ρ=some G/\∀Z,rm K U H G Z->Z.length=R.length->(∀j,j∉Bc t->Z[j]?=R[j]?)->Q Z H
def PG.weak(h:PG X tg t)(w:∀v G H Q,t' v G H Q->t v G H Q):PG X tg t':=λZ s G H v u Q I r q=>h Z s G H v u Q I r (w v G H Q q)
def PG.of(h:PG X tg t)(w:∀v σ H Q U ρ M d G,mj nm X.K U H M->rm X.K U H ρ σ->Rep X.K U H d v->tt.put d ρ=some G->(∀Z,rm X.K U H G Z->Z.length=σ.length->(∀j,j∉Bc tt->Z[j]?=σ[j]?)->Q Z H)->t v σ H Q):PG X tg (tGt nm X.K tt) :=
 PG.weak h λv σ H Q z_=>by obtain⟨U,ρ,M,d,G,S,R,r,e,q⟩:=z_;exact w v σ H Q U ρ M d G S R r e q
def axa(Z:X.N.Nodup)(G:X.N[i]?=some n)(hx:Loc X.env.scope n)(U:X.fn n=true\/X.env.scope.names.lookup n=some .local):PG X (.Name n pos) (tGt nm X.K (.name i)) :=
 PG.of (Yo Z G hx U) λv σ H Q ι ρ M d qq S R r e q=>by cases e;exact q _ (R.set r i) (by simp) λj hj=>uh (λz=>hj (by simp[Bc,z]))
noncomputable def Jt:List Nat->List V->St->St
 |i::is,v::vs,σ=>Jt is vs (σ.set i (some v))|_,_,σ=>σ
theorem U7{Z:Io}{H:Hp}{K:Fg}:∀{is:Y3}{ds:List Dv}{U:List V}{G:En}{σ:St},rm K Z H G σ->nj K Z H ds U->rm K Z H (MW.Gb is ds G) (Jt is U σ)
 |[],_,_,_,_,R,r=>by cases r<;>exact R|_::_,_,_,_,_,R,.nil=>R|i::is,_,_,_,_,R,.cons h t=>U7 (is:=is) (R.set h i) t
theorem O3:∀{is:Y3}{G:List V}{Z:St}{j:Nat},j∉is->(Jt is G Z)[j]?=Z[j]?
 |[],G,Z,j,_=>by cases G<;>rfl|i::is,[],Z,j,_=>rfl
 |i::is,v::G,Z,j,h=>by
  show(Jt is G (Z.set i (some v)))[j]?=_;rw[O3 (λz=>h (bh _ z)),uh (λz=>h (by rw[z];exact bx))]
theorem Rb:∀{is:Y3}{G:List V}{Z:St},(Jt is G Z).length=Z.length
 |[],G,Z=>by cases G<;>rfl|_::_,[],Z=>rfl|i::is,v::G,Z=>by show(Jt is G (Z.set i (some v))).length=_;rw[Rb,Ag]
inductive Ju(X:Cx):List Expr->List Nat->Prop
 |nil:Ju X [] []
 |cons {n:Str} {p:Pos} {i:Nat} {ts:Ya} {is:Y3} (hi:X.N[i]?=some n) (hx:Loc X.env.scope n) (hf:X.fn n=true\/X.env.scope.names.lookup n=some .local) (t:Ju X ts is):Ju X (.Name n p::ts) (i::is)
theorem aa4{X:Cx}(hN:X.N.Nodup):∀{ts:Ya}{is:Y3},Ju X ts is->PGs X ts (λG U H Q=>G.length=is.length/\Q (Jt is G U) H)
 |_,_,.nil=>λZ s U H G us Q I r q=>by
  obtain⟨R,h2⟩:=q;have hv:G=[]:=List.length_eq_zero_iff.mp R;subst hv;exact apk Z s U H [] us Q I r ⟨rfl,h2⟩
 |_,_,.cons hi hx hf t=>λZ s U H G us Q I r q=>by
  obtain⟨R,h2⟩:=q;cases G with
  |nil=>simp at R|cons v G=>exact aku (Yo hN hi hx hf) (aa4 hN t) (by rfl) Z s U H (v::G) us Q I r ⟨v,G,rfl,by simpa using R,h2⟩
theorem Ek{X:Cx}{env:Env}:∀{Z:Ya}{is:Y3},Ju X Z is->(assignEach Z env).length=is.length/\(assignEach Z env).findIdx? (·.1)=none
 |_,_,.nil=>⟨rfl,rfl⟩
 |_,_,.cons hi hx hf t=>by
  obtain⟨U,G⟩:=Ek (env:=env) t;refine⟨by simp[assignEach,U],?_⟩;simp[assignEach,List.findIdx?_cons];simpa using G
set_option tactic.hygienic true in
def aqg(C:X.calm=true)(J:X.N.Nodup)(h:Ju X U is):PG X (.Tuple U k pos) (tGt nm X.K (.names is)) :=
 PG.of (av5 C (aa4 J h) (Ek h).1 (Ek h).2) λv σ H Q ι ρ M d L S R r e q=>by
  cases r with
  |tup G Z =>
   simp only[Tg.put] at e;split at e<;>cases e;rename_i Y;exact⟨_,_,rfl,Ey.of G,by rw[<- Z.length];exact Y,by rw[<- Z.length];exact Y,q _ (U7 R Z) Rb λj u=>O3 u⟩
  |_=>simp[Tg.put] at e
def alr(he:PE X a (tE nm W X.K a'))(hg:PG X tg (tGt nm X.K t))(hs:swapsWithSole [tg] a pos.line X.env=pure false)(hw:swappedStores [tg] a X.env=pure none)(h1:(assignEach [tg] X.env).map (·.2)=[assign tg X.env]) :
 PS X (.Assign [tg] a pos) (tS nm W X.K (.asg (.tg t) a')) :=
 PS.of (akv he hg hs hw h1) λD σ H ι ρ M fl G M' S R e q=>by rw[MW.Xp] at e;obtain⟨x,M1,e1,e⟩:=fu e;obtain⟨qq,M2,e2,e⟩:=fu e;cases e;rw[MW.acg] at e2;obtain⟨e3,e4⟩:=ur e2;subst e4;exact one S R e1 λZ H1 v le S1 R1 r=>⟨Z,ρ,_,x,G,S1,R1,r,e3,λU R' _ _=>q Z H1 U le S1 R'⟩
def axb(he:PE X a (tE nm W X.K G))(hs:swapsWith a none pos.line X.env=pure false):PS X (.Expr a pos) (tS nm W X.K (.expr G)) :=
 PS.of (apj he hs) λD σ H ι ρ M fl qq M' S R e q=>by rw[MW.aed] at e;obtain⟨x,M1,e1,e⟩:=fu e;cases e;exact one S R e1 λZ H1 v le U R1 r=>q Z H1 σ le U R1
def a3c(he:PE X a (tE nm W X.K G)):PS X (.Return (some a) pos) (tS nm W X.K (.ret G)) :=
 PS.of (av2 he) λD σ H ι ρ M fl qq M' S R e q=>by rw[MW.aue] at e;obtain⟨x,M1,e1,e⟩:=fu e;cases e;exact one S R e1 λZ H1 v le U R1 r=>q Z H1 σ le U R1 v r
def U0.mono{X:Cx}(le:Le R H U H')(q:U0 nm X.K D R H fl ρ M):U0 nm X.K D U H' fl ρ M:=λZ H2 G zf S2 R2=>q Z H2 G (le.trans zf) S2 R2
set_option tactic.hygienic true in
def a3d(hc:PT X c (tQ nm W X.K c'))(ht:Ox X ts (tSs nm W X.K G))(hf:Ox X fs (tSs nm W X.K J)):PS X (.If c ts fs pos) (tS nm W X.K (.iff c' G J)) :=
 PS.of (a0y hc ht hf) λD σ H ι u M fl Z L S R e q=>by
  rw[MW.aud] at e;obtain⟨x,C,e1,e⟩:=fu e;cases x<;>try cases e
  rename_i k;refine Vy S R e1 λY H1 le U R1=>?_
  cases k with
  |true=>exact⟨Y,u,C,fl,Z,L,U,R1,e,q.mono le⟩|false=>exact⟨Y,u,C,fl,Z,L,U,R1,e,q.mono le⟩
def axc:Ox X [] (tSs nm W X.K .nil):=Ox.of api λD U H Z ρ M fl G M' S R e q=>by rw[MW.Xq] at e;cases e;exact q Z H U (Le.refl _ _) S R
def aqh{G:List Stmt}(h1:PS X st (tS nm W X.K q0))(h2:Ox X G (tSs nm W X.K rest')):Ox X (st::G) (tSs nm W X.K (.cons q0 rest')) :=
 Ox.of (akt h1 h2) λD σ H ι ρ M fl qv M' S R e q=>by
  rw[MW.ai1] at e;obtain⟨⟨qq,qk⟩,M1,e1,e⟩:=fu e;refine⟨ι,ρ,M,qq,qk,M1,S,R,e1,λZ H1 U le S1 R1=>?_⟩;cases qq with
  |next=>exact⟨Z,qk,M1,fl,qv,M',S1,R1,e,q.mono le⟩|brk=>cases e;exact q Z H1 U le S1 R1|cont=>cases e;exact q Z H1 U le S1 R1|ret d=>cases e;exact q Z H1 U le S1 R1
set_option tactic.hygienic true in
def ata(hp:PassesOwn (model X.prog X.w) X.A X.env X.xe)(hc:PT X c (tQ nm W X.K c'))(hb:Ox X body (tSs nm W X.K U8)):PS X (.While c body [] pos) (tS nm W X.K (.whl c' U8)) :=
 PS.of (akx hp hc hb) λD σ H ι ρ M fl q0 M' S R e q=>by
  rw[MW.Py] at e;refine⟨λm qq H1=>∃L C M1,Le ι H L H1/\mj nm X.K L H1 M1/\rm X.K L H1 C qq/\MW.Cr (c'.den W) (U8.den W) m C M1=.ok (fl,q0) M',⟨MW.Vq,ι,ρ,M,Le.refl _ _,S,R,e⟩,?_⟩;rintro m qq H1 ⟨L,C,M1,G,S1,R1,Y⟩;cases m with
  |zero=>cases Y
  |succ m =>
   simp only[MW.Cr] at Y;obtain⟨x,M2,e2,Y⟩:=fu Y;cases x<;>try cases Y
   rename_i k;refine Vy S1 R1 e2 λqv H2 zf S2 R2=>?_
   cases k with
   |false=>cases Y;exact q qv H2 qq (G.trans zf) S2 R2
   |true =>
    obtain⟨⟨q1,u⟩,M3,e3,Y⟩:=fu Y;refine⟨λJ H4=>∃Z qk M4,Le ι H Z H4/\mj nm X.K Z H4 M4/\rm X.K Z H4 qk J/\MW.Cr (c'.den W) (U8.den W) m qk M4=.ok (fl,q0) M',λJ H4 h4=>⟨m,ud _,h4⟩,qv,C,M2,q1,u,M3,S2,R2,e3,λZ H4 J U S4 R4=>?_⟩;cases q1 with
    |next=>exact⟨Z,u,M3,(G.trans zf).trans U,S4,R4,Y⟩|cont=>exact⟨Z,u,M3,(G.trans zf).trans U,S4,R4,Y⟩|brk=>cases Y;exact q Z H4 J ((G.trans zf).trans U) S4 R4|ret d=>cases Y;exact q Z H4 J ((G.trans zf).trans U) S4 R4
def ahq(nm:Nm)(K:Fg)(ι:Io)(H:Hp)(s:Src)(J:It):Prop:=∀Z G R,LeX ι H Z G->mj nm K Z G R ->
 (∀i d,i<s.len->s.item i R=some d->J.go i G/\∀v U,J.yld i G v U->Le Z G Z U/\mj nm K Z U R/\Rep K Z U d v)/\(s.fin R=true->J.stop s.len G)
def tI(nm:Nm)(W:Mg)(K:Fg)(it:Nb):TI:=fun σ H R=>∃U ρ M s M',mj nm K U H M/\rm K U H ρ σ/\it.den W ρ M=.ok s M'/\∀Z G J,Le U H Z G->mj nm K Z G M'->ahq nm K Z G s J->R J G
set_option tactic.hygienic true in
def a3f(hp:PassesOwn (model X.prog X.w) X.A X.env X.xe)(hc:X.calm=true)(hi:PI X tg iter (tI nm W X.K it))(hg:PG X tg (tGt nm X.K t))(hb:Ox X body (tSs nm W X.K U8))(hs:G9 iter=true):PS X (.For tg iter body [] pos) (tS nm W X.K (.for_ t it U8)) :=
 PS.of (av9 hp hc hi hg hb (Dy hs X.env)) λD σ H ι ρ M fl G M' S R e q=>by
  rw[MW.ai0] at e;obtain⟨s,M1,e1,e⟩:=fu e;refine⟨ι,ρ,M,s,M1,S,R,e1,λq1 H1 J qq S1 sj=>?_⟩;refine⟨λi m q0 H2=>m=s.len-i/\i<=s.len/\∃Y qk M2,Le q1 H1 Y H2/\mj nm X.K Y H2 M2/\rm X.K Y H2 qk q0/\MW.Bq s.fin s.item (λd ρ M=>match t.put d ρ with|some G=>U8.den W G M|none=>.bad) m i qk M2=.ok (fl,G) M',
   ⟨s.len,rfl,iy _,q1,ρ,M1,Le.refl _ _,S1,R.mono qq,e⟩,?_⟩
  rintro i m q0 H2 ⟨hm,q7,Y,qk,M2,zf,S2,R2,U⟩;obtain⟨go,q3⟩:=sj Y H2 M2 zf.toX S2;cases m with
  |zero =>
   simp only[MW.Bq] at U;split at U<;>cases U;rename_i Tp;have hi:i=s.len:=by lia
   subst hi;exact .inl ⟨q3 Tp,q Y H2 q0 (qq.trans zf) S2 R2⟩
  |succ m =>
   simp only[MW.Bq] at U;split at U
   .cases U
   .rename_i d hd
    obtain⟨⟨q4,qv⟩,M3,e3,U⟩:=fu U;obtain⟨g1,g2⟩:=go i d (by omega) hd;refine .inr ⟨g1,λC H4=>∃Z L M4,Le q1 H1 Z H4/\mj nm X.K Z H4 M4/\rm X.K Z H4 L C/\MW.Bq s.fin s.item (λd ρ M=>match t.put d ρ with|some G=>U8.den W G M|none=>.bad) m (i+1) L M4=.ok (fl,G) M',
     λC H4 ⟨Z,L,M4,h4⟩=>⟨m,ud _,by omega,by omega,Z,L,M4,h4⟩,λv H3 yv=>?_⟩
    obtain⟨Sq,S3,r3⟩:=g2 v H3 yv;split at e3
    .rename_i q2 q6
     refine⟨Y,qk,M2,d,q2,S3,R2.mono Sq,r3,q6,λzz R5 _ _=>⟨Y,q2,M2,q4,qv,M3,S3,R5,e3,λZ H4 C q5 S4 R4=>?_⟩⟩;have u:=(zf.trans Sq).trans q5;cases q4 with
     |next=>exact⟨Z,qv,M3,u,S4,R4,U⟩|cont=>exact⟨Z,qv,M3,u,S4,R4,U⟩|brk=>cases U;exact q Z H4 C (qq.trans u) S4 R4|ret d=>cases U;exact q Z H4 C (qq.trans u) S4 R4
    .cases e3
section
variable{nm:Nm}{W:Mg}{X:Cx}{a b c:Expr}{a' b' c':Ex}{pos pos':Pos}{ι:Io}{H:Hp}{σ:St}{ρ:En}{M M1 M2:du}{x y:Dv}{es:Ya}{es':Eb}{tg iter elt:Expr}
def PI.weak(h:PI X tg iter G)(w:∀σ H R,wi' σ H R->G σ H R):PI X tg iter wi':=λZ s σ H R I q=>h Z s σ H R I (w σ H R q)
def PI.of(h:PI X tg iter wi)(w:∀σ H U ι ρ M s G,mj nm X.K ι H M->rm X.K ι H ρ σ->it.den W ρ M=.ok s G->(∀Z H' J,Le ι H Z H'->mj nm X.K Z H' G->ahq nm X.K Z H' s J->U J H')->wi σ H U):PI X tg iter (tI nm W X.K it) :=
 PI.weak h fun σ H U z_=>by obtain⟨ι,ρ,M,s,G,S,R,e,q⟩:=z_;exact w σ H U ι ρ M s G S R e q
def axd(hl:PE X l tl):PI X tg l (fun σ H R=>tl σ H λx U=>∃a,x=.ref a/\((∃xs,Ew X.K U a xs)/\R (Itl X.K a) U\/(∃xs,Ey X.K U a xs)/\R (Itt X.K a) U)):=by
 intro qq s σ H R I h;refine Bf (hl qq s σ H _ I h) λv Z z_=>?_
 obtain⟨x,U,G,r1,q1⟩:=z_;obtain⟨a,e,⟨⟨xs,hq⟩,q⟩|⟨⟨xs,hq⟩,q⟩⟩:=q1
 .subst e
  cases r1;obtain⟨uv,rv,p,hz⟩:=G.list hq;refine wpAny_pyIter_list p.isList ?_;refine⟨Z.heap.objs.size,[Z.heap.objs.size],_,_,U,rfl,G.kept (t':=Z.toks) λb o e=>aq _ e,ag7 a _,⟨_,bu _ rfl,rfl,rfl⟩,λb hb=>?_,q⟩;have e:b=Z.heap.objs.size:=by simpa using hb
  subst e;exact G.ag6 (bc _) (G.Am.fresh (bc _))
 .subst e
  cases r1;obtain⟨uv,rv,p,hz⟩:=G.tuple hq;refine o5 (show Z.heap.IsTuple a uv.toArray from p) ?_;refine⟨Z.heap.objs.size,[Z.heap.objs.size],_,_,U,rfl,G.kept (t':=Z.toks) λb o e=>aq _ e,ac0 a _,⟨_,bu _ rfl,rfl,rfl⟩,λb hb=>?_,q⟩;have e:b=Z.heap.objs.size:=by simpa using hb
  subst e;exact G.ag6 (bc _) (G.Am.fresh (bc _))
def W8{p:Addr}{ds:List Dv}{s:Src}(hs:∀Z U M1,LeX ι H Z U->mj nm X.K Z U M1->(∀i d,s.item i M1=some d->∃G v,U p=some (.lst G)/\G[i]?=some v/\Rep X.K Z U d v)/\(s.fin M1=true->∃G,U p=some (.lst G)/\G.length<=s.len)) :
 ahq nm X.K ι H s (Itl X.K p):=λZ U M1 le S1=>by
 obtain⟨a,b⟩:=hs Z U M1 le S1;refine⟨λi d hi hd=>?_,λhf=>?_⟩
 .obtain⟨G,v,h1,R,h3⟩:=a i d hd
  refine⟨⟨G,v,Ew.of h1,R⟩,λu H2 ⟨e,y⟩=>?_⟩;subst e;have:=y G (Ew.of h1);rw[R] at this;cases this;exact⟨Le.refl _ _,S1,h3⟩
 .obtain⟨G,h1,R⟩:=b hf
  exact⟨G,Ew.of h1,R⟩
set_option tactic.hygienic true in
def a3g(ha:PE X a (tE nm W X.K a')):PI X tg a (tI nm W X.K (.val a')) :=
 PI.of (axd ha) fun σ H R' ι ρ M s M' S R e q=>by
  rw[MW.Em] at e;obtain⟨x,M1,e1,e⟩:=fu e;obtain⟨e,rfl⟩:=ur e;refine one S R e1 λL H1 v le S1 R1 r=>?_
  cases r with
  |@tup p Y J h1 r1 =>
   simp only[MW.srcOf] at e;cases e;refine⟨p,rfl,.inr ⟨⟨J,Ey.of h1⟩,q L H1 _ le S1 λqk H2 M2 G S2=>⟨λi d hi Z=>?_,λ_=>⟨J,Ey.of (G.tup _ _ h1),by rw[<- r1.length];exact bc _⟩⟩⟩⟩;have Z:Y[i]?=some d:=Z;obtain⟨v,g1,g2⟩:=(r1.Hr G).get Z;refine⟨⟨J,v,Ey.of (G.tup _ _ h1),g1⟩,λu H3 ⟨ee,yy⟩=>?_⟩;subst ee;have:=yy J (Ey.of (G.tup _ _ h1));rw[g1] at this;cases this;exact⟨Le.refl _ _,S2,g2⟩
  |@vl p Y J h1 n1 r1 =>
   simp only[MW.srcOf] at e;cases e;refine⟨p,rfl,.inl ⟨⟨J,Ew.of h1⟩,q L H1 _ le S1 (W8 (ds:=Y) λqk H2 M2 G S2=>⟨λi d Z=>?_,λ_=>⟨J,G.lst _ _ n1.1 h1,by rw[<- r1.length];exact bc _⟩⟩)⟩⟩;have Z:Y[i]?=some d:=Z;obtain⟨v,g1,g2⟩:=(r1.Hr G).get Z;exact⟨J,v,G.lst _ _ n1.1 h1,g1,g2⟩
  |@ref n p h1 =>
   simp only[MW.srcOf] at e;obtain⟨Y,hn,rfl⟩:∃Y,M'[n]?=some (.lst Y)/\s=.live n Y.length:=by
    split at e
    .rename_i Y hn;cases e;exact⟨Y,hn,rfl⟩
    .cases e
   obtain⟨J,g1,g2⟩:=S1.obj n _ p hn h1;refine⟨p,rfl,.inl ⟨⟨J,Ew.of g1⟩,q L H1 _ le S1 (W8 (ds:=Y) λqk H2 M2 G S2=>⟨λi d Z=>?_,λhf=>?_⟩)⟩⟩
   .simp only[Src.item] at Z
    split at Z
    .rename_i qq U
     split at Z
     .obtain⟨C,k1,k2⟩:=S2.obj n _ p U (G.get h1)
      obtain⟨v,k3,k4⟩:=k2.get Z;exact⟨C,v,k1,k3,k4⟩
     .cases Z
    .cases Z
   .simp only[Src.fin] at hf
    split at hf
    .rename_i qq U
     obtain⟨C,k1,k2⟩:=S2.obj n _ p U (G.get h1);refine⟨C,k1,?_⟩;rw[<- k2.length];have:qq.length=Y.length:=by simpa using hf
     rw[this];exact bc _
    .cases hf
  |_=>simp[MW.srcOf] at e
set_option tactic.hygienic true in
def a3h(hg:Gl X "range")(hm:X.mg "range" = none)(ha:PE X a (tE nm W X.K a'))(G:noStar a=true):PI X tg (.Call (.Name "range" pr) [a] [] pos) (tI nm W X.K (.Rh a')) :=
 PI.of (ag8 hg hm (Yz ha afu (qz G _ _)) (qz G _ _)) fun σ H R' ι ρ M s M' S R e q=>by
  rw[MW.Ny] at e;obtain⟨x,M1,e1,e⟩:=fu e;refine Vz (es':=.cons a' .nil) (ds:=[x]) (M1:=M1) S R (by rw[MW.Df,e1];simp) λY H1 vs le U R1 r=>?_
  obtain⟨i,hx⟩:∃i,x=.int i:=by cases x<;>first|exact⟨_,rfl⟩|cases e
  subst hx;have e:(if i.natAbs<=100000 then Res.ok (Src.con ((List.range i.toNat).map λ(k:Nat)=>MW.D.int (k:Int))) M1 else .bad)=.ok s M':=e;split at e<;>cases e;rename_i hi;cases r with
  |cons r1 C =>
   cases r1;cases C;refine⟨i,rfl,by lia,by omega,q Y H1 _ le U λL H2 M2 zf S2=>⟨λj d hj Z=>?_,λ_=>?_⟩⟩
   .have J:j<i.toNat:=by simpa[Src.len] using hj
    have Z:((List.range i.toNat).map λ(k:Nat)=>MW.D.int (k:Int))[j]?=some d:=Z;rw[iu,List.getElem?_range J] at Z;have Z:MW.D.int (j:Int)=d:=by simpa using Z
    subst Z;refine⟨J,λu H3 ⟨ee,yy⟩=>?_⟩;subst ee yy;exact⟨Le.refl _ _,S2,by rw[Int.zero_add];exact .int _⟩
   .show i.toNat<=_
    simp[Src.len]
def ahr(R:rm K ι H ρ σ):rm K ι H (ρ++List.replicate k none) (σ++List.replicate k none):=R.append (rm.aln k (by simp))
def als{Z:St}(R:σ.length=n)(U:∀i∈Bc t,n<=i)(h:∀j,j∉Bc t->Z[j]?=(σ++List.replicate k none)[j]?):∀(j:Nat) v,(σ++List.replicate k none)[j]?=some (some v)->Z[j]?=some (some v):=λj v e=>by
 by_cases G:j∈Bc t
 .have:=U j G
  rw[p8 (a_ (f_ R) this),List.getElem?_replicate] at e;split at e<;>simp at e
 .rw[h j G];exact e
noncomputable def atb(o:Option Dv):List Dv:=match o with|some x=>[x]|none=>[]
set_option tactic.hygienic true in
def aa5(h:MW.Ca fin item body (k+1) i M=.ok ds Z) :
 ∃d o M1 rest,item i M=some d/\body d M=.ok o M1/\MW.Ca fin item body k (i+1) M1=.ok rest Z/\ds=atb o++rest:=by
 simp only[MW.Ca] at h;split at h
 .cases h
 .rename_i d G
  obtain⟨o,M1,Y,h⟩:=fu h;obtain⟨rest,M2,J,h⟩:=fu h;cases h;exact⟨d,o,M1,rest,G,Y,J,by cases o<;>rfl⟩
def nj.snoc(r:nj K ι H ds Z)(h:Rep K ι H d v):nj K ι H (ds++[d]) (Z++[v]):=r.append (.cons h .nil)
set_option tactic.hygienic true in
def Ss(e:MW.Ba s body M1=.ok ds M2):s.len<=100000/\MW.Ca s.fin s.item body s.len 0 M1=.ok ds M2:=by
 unfold MW.Ba at e;split at e
 .rename_i Z
  exact⟨Z,e⟩
 .cases e
def keptAs(v:Bool)(Z:List Dv)(M:du):Res Dv:=if v=true then .ok (.vl Z) M else MW.new (.lst Z) M
def ahs(h:(Ex.comp v k t it e').den W ρ M=.ok d M'):∃s M1 Z M2,it.den W ρ M=.ok s M1/\s.len<=100000 /\
 MW.Ca s.fin s.item (λd M=>match t.put d (ρ++List.replicate k none) with|some G=>(e'.den W G M).bind λx M'=>.ok (some x) M'|none=>.bad) s.len 0 M1=.ok Z M2/\keptAs v Z M2=.ok d M':=by
 rw[MW.Z0] at h;obtain⟨s,M1,R,h⟩:=fu h;obtain⟨Z,M2,U,h⟩:=fu h;exact⟨s,M1,Z,M2,R,(Ss U).1,(Ss U).2,h⟩
def Io.adopt(ι:Io)(H:Hp)(D:Addr):Tr K (ι.hide D) H (ι.add D) H:=⟨λ_ _ e=>e,λ_ _ e n=>⟨e,λm=>(cz.mp m).elim n.1 λz=>n.2 (by rw[ou.mp z];exact bx),λm=>n.2 (bh _ m)⟩,λ_ _ e=>e,λn a e=>by
 have e:ι.l[n]?=some a:=e;show(ι.l++[D])[n]?=_;rw[gb (ak.mp e).1];exact e⟩
theorem Rep.adopt(r:Rep K (ι.hide D) H d v):Rep K (ι.add D) H d v:=r.tr (ι.adopt H D)
theorem nj.adopt(r:nj K (ι.hide D) H d v):nj K (ι.add D) H d v:=r.tr (ι.adopt H D)
theorem mj.adopt(S:mj nm K (ι.hide D) H M)(hd:H D=some (.lst U))(r:nj K (ι.hide D) H ds U)(G:ι.off D):mj nm K (ι.add D) H (M++[.lst ds]):=by
 refine⟨by have:=S.len;simp only[Io.hide] at this;simp[Io.add,this],?_,λa Z=>?_,λn o a R Z=>?_⟩
 .exact nu.mpr ⟨S.nd,by simp,by
   intro x hx y hy;have:y=D:=by simpa using hy
   subst this;intro e;subst e;exact G.1 hx⟩
 .obtain⟨h1,U,h2⟩:=S.del a (bh _ Z)
  exact⟨λm=>(cz.mp m).elim h1 λz=>G.2 (by rw[<- ou.mp z];exact Z),U,h2⟩
 .rcases Bp R with q|⟨q,rfl⟩
  .rcases Bp Z with z|⟨z,_⟩
   .exact(S.obj n o a q z).tr (ι.adopt H D) rfl
   .exact absurd (MW.yw q) (by rw[z,<- S.len];exact o8 _)
  .rcases Bp Z with z|⟨_,rfl⟩
   .exact absurd (ak.mp z).1 (by rw[q,<- S.len];exact o8 _)
   .exact⟨U,hd,r.adopt⟩
def alu(S:mj nm K (ι.hide D) H M)(R:H D=some (.lst vs))(r:nj K (ι.hide D) H ds vs)(G:ι.off D)(le:Le U H0 ι H)(h0:H0 D=none)(h:keptAs v ds M=.ok d M') :
 ∃Z,Le U H0 Z H/\mj nm K Z H M'/\Rep K Z H d (.ref D):=by
 unfold keptAs at h;split at h
 .cases h
  exact⟨ι,le,S.show,.vl R G r.show⟩
 .cases h
  refine⟨ι.add D,⟨?_,le.del,le.tup,le.Ih,le.lst,le.dom⟩,S.adopt R r G,.ref ?_⟩
  .obtain⟨Y,e,hY⟩:=le.ext
   exact⟨Y++[D],by show ι.l++[D]=_;rw[e,nq],λa ha=>(cz.mp ha).elim (hY a) λz=>by rw[ou.mp z];exact h0⟩
  .show(ι.l++[D])[M.length]?=some D
   rw[<- S.len];simp[Io.hide]
def BodyOk(nm:Nm)(K:Fg)(Z:St)(tc:TT)(te:TE)(R:En)(M:du)(o:Option Dv)(M':du):Prop:=∀ι H (G1:V->Hp->Prop) (G0:Hp->Prop),mj nm K ι H M->rm K ι H R Z ->
 (∀G U v,Le ι H G U->mj nm K G U M'->(match o with|some x=>Rep K G U x v->G1 v U|none=>G0 U))->tc Z H λb H3=>if b=true then te Z H3 λv H4=>G1 v H4 else G0 H3
set_option tactic.hygienic true in
def W9{N:Yf}(hk:N.length-X.N.length=k)(ho:∀i∈Bc t,X.N.length<=i)(z0:σ.length=X.N.length)(S:mj nm X.K ι H M)(R:rm X.K ι H ρ σ)(e1:it.den W ρ M=.ok s M1)(zk:s.len<=100000)(e2:MW.Ca s.fin s.item body s.len 0 M1=.ok ds M')(ek:keptAs v0 ds M'=.ok d0 M0)(q:∀q3 H' v,Le ι H q3 H'->mj nm X.K q3 H' M0->Rep X.K q3 H' d0 v->Q v H')(hb:∀d M2 o M3,body d M2=.ok o M3->∃qv,t.put d (ρ++List.replicate k none)=some qv/\∀q2,BodyOk nm X.K q2 tc te qv M2 o M3):aa1 (N.length-X.N.length) (tI nm W X.K it) (tGt nm X.K t) tc te σ H Q:=by
 refine⟨ι,ρ,M,s,M1,S,R,e1,λqq H1 J q7 S1 sj D hD=>?_⟩;rw[hk];refine⟨λi m H2=>m=s.len-i/\i<=s.len/\∃Z M2 G vs U,LeD D qq H1 (Io.hide Z D) H2/\mj nm X.K (Io.hide Z D) H2 M2/\H2 D=some (.lst vs)/\nj X.K (Io.hide Z D) H2 G vs/\G.length<=i /\
  MW.Ca s.fin s.item body m i M2=.ok U M'/\ds=G++U,?_,?_⟩
 .exact⟨s.len,rfl,iy _,qq,M1,[],[],ds,LeD.start hD _,S1.hide hD,uf,.nil,bc _,e2,rfl⟩
 .rintro i m H2 ⟨hm,z1,Z,M2,G,vs,U,zf,S2,zv,q1,Vx,e3,q0⟩
  have q6:Le qq H1 Z H2:=LeD.done zf;have z5:Z.δ=qq.δ:=q6.del;have zw:Z.off D:=⟨(S2.del D bx).1,λz=>by rw[z5] at z;exact(S1.fresh hD).2 z⟩;obtain⟨go,q5⟩:=sj (Io.hide Z D) H2 M2 (zf.toX hD) S2;cases m with
  |zero =>
   simp only[MW.Ca] at e3;split at e3<;>cases e3;rename_i Tp;refine hG λ_ _k=>?_
   have hi:i=s.len:=by lia
   subst hi;rw[Ae] at q0;subst q0;obtain⟨z4,z7,S9,r9⟩:=alu S2 zv q1 zw q6 hD ek;apply _k;exact .inl ⟨q5 Tp,q z4 H2 _ (q7.trans z7) S9 r9⟩
  |succ m =>
   refine hG λ_ _k=>?_
   obtain⟨d,o,M3,L,h1,h2,h3,h4⟩:=aa5 e3;obtain⟨g1,g2⟩:=go i d (by lia) h1;apply _k;refine .inr ⟨g1,λv H3 yv=>?_⟩;refine hG λ_ _k=>?_
   obtain⟨Sq,S3,r3⟩:=g2 v H3 yv;obtain⟨qv,z3,z6⟩:=hb d M2 o M3 h2;have R3:rm X.K (Io.hide Z D) H3 ρ σ:=((R.mono q7).Hr (zf.toX hD)).mono Sq;apply _k;refine⟨Io.hide Z D,ρ++List.replicate k none,M2,d,qv,S3,ahr R3,r3,z3,λq2 R5 l5 k5=>⟨l5,als z0 ho k5,?_⟩⟩;have z2:=Sq.lst D vs (S2.del D bx).1 zv;refine z6 q2 (Io.hide Z D) H3 _ _ S3 R5 (λY H6 u qk S6=>by
    have C:=qk.lst D vs (S2.del D bx).1 z2;have q4:LeD D qq H1 Y H6:=(zf.go Sq).go qk;have ei:Y=Io.hide ⟨Y.l,Z.δ⟩ D:=by have:=qk.del;obtain⟨l6,z8⟩:=Y;simp only[Io.hide] at this ⊢;rw[this]
    rw[ei] at q4 S6;have zz:nj X.K (Io.hide ⟨Y.l,Z.δ⟩ D) H6 G vs:=by rw[<- ei];exact(q1.mono Sq).mono qk
    cases o with
    |none =>
     refine⟨m,ud _,by lia,by lia,⟨Y.l,Z.δ⟩,M3,G,vs,L,q4,S6,C,zz,a_ Vx x_,h3,?_⟩;rw[q0,h4];rfl
    |some x =>
     intro r6;rw[ei] at r6;have Rg:D∈(Io.hide ⟨Y.l,Z.δ⟩ D).δ:=bx;refine⟨vs,m,C,?_,ud _,by lia,by lia,⟨Y.l,Z.δ⟩,M3,G++[x],vs++[u],L,q4.grow hD C,S6.grow C Rg,uf,(zz.snoc r6).tr (afs C Rg),by simp;exact Vx,h3,?_⟩
     .rw[<- q1.length]
      exact Nat.lt_of_le_of_lt (az Vx (az z1 zk)) (by decide)
     .rw[q0,h4];simp[atb])
set_option tactic.hygienic true in
def Xa{N:Yf}(hk:N.length-X.N.length=k)(ho:∀i∈Bc t,X.N.length<=i):∀σ H Q,σ.length=X.N.length->tE nm W X.K (.comp v0 k t it e') σ H Q ->
 aa1 (N.length-X.N.length) (tI nm W X.K it) (tGt nm X.K t) (λ_ H Q=>Q true H) (tE nm W X.K e') σ H Q:=fun σ H Q C hh=>by
 obtain⟨ι,ρ,M,d,M',S,R,e,q⟩:=hh;obtain⟨s,M1,ds,M2,e1,Z,e2,ek⟩:=ahs e;refine W9 hk ho C S R e1 Z e2 ek q λd M2 o M3 Y=>?_
 split at Y
 .rename_i U L
  obtain⟨x,M4,e5,Y⟩:=fu Y;cases Y;refine⟨U,L,λqq qk H5 G1 G0 S5 R5 g=>?_⟩;show if true=true then _ else _
  rw[bz rfl];exact one (X:=X) S5 R5 e5 λJ H6 u G S6 R6 r6=>g J H6 u G S6 r6
 .cases Y
def aa6(h:(Ex.yu v k t it c' e').den W ρ M=.ok d M'):∃s M1 G M2,it.den W ρ M=.ok s M1/\s.len<=100000 /\
 MW.Ca s.fin s.item (λd M=>match t.put d (ρ++List.replicate k none) with|some Z=>(c'.den W Z M).bind λb M'=>(match b with|.bl true=>(e'.den W Z M').bind λx U=>.ok (some x) U|.bl false=>.ok none M'|_=>.bad)|none=>.bad) s.len 0 M1=.ok G M2/\keptAs v G M2=.ok d M':=by
 rw[MW.Tn] at h;obtain⟨s,M1,e1,h⟩:=fu h;obtain⟨G,M2,R,h⟩:=fu h;exact⟨s,M1,G,M2,e1,(Ss R).1,(Ss R).2,h⟩
set_option tactic.hygienic true in
def Rc{N:Yf}(hk:N.length-X.N.length=k)(ho:∀i∈Bc t,X.N.length<=i):∀σ H Q,σ.length=X.N.length->tE nm W X.K (.yu v0 k t it c' e') σ H Q ->
 aa1 (N.length-X.N.length) (tI nm W X.K it) (tGt nm X.K t) (tQ nm W X.K c') (tE nm W X.K e') σ H Q:=fun σ H Q L hh=>by
 obtain⟨ι,ρ,M,d,M',S,R,e,q⟩:=hh;obtain⟨s,M1,ds,M2,e1,G,e2,ek⟩:=aa6 e;refine W9 hk ho L S R e1 G e2 ek q λd M2 o M3 Z=>?_
 split at Z
 .rename_i C qq
  obtain⟨x,M4,e5,Z⟩:=fu Z;refine⟨C,qq,λqv q0 H5 G1 G0 S5 R5 g=>?_⟩;split at Z
  .obtain⟨y,M6,e6,Z⟩:=fu Z
   cases Z;refine Vy (X:=X) S5 R5 e5 λJ H6 Y S6 R6=>?_
   rw[bz rfl];exact one (X:=X) S6 R6 e6 λqk H7 u U S7 R7 r7=>g qk H7 u (Y.trans U) S7 r7
  .cases Z
   refine Vy (X:=X) S5 R5 e5 λJ H6 Y S6 R6=>?_
   rw[cj (by simp)];exact g J H6 .non Y S6
  .cases Z
 .cases Z
def PE.aa7(h:PE X e t)(w:∀σ H Q,σ.length=X.N.length->t' σ H Q->t σ H Q):PE X e t':=λZ s σ H Q I q=>h Z s σ H Q I (w σ H Q I.len q)
def PS.aa7(h:PS X st t)(w:∀D σ H,σ.length=X.N.length->t' D σ H->t D σ H):PS X st t':=λZ s σ H D I q=>h Z s σ H D I (w D σ H I.len q)
def axg(B:Fo X N scope)(Hq:X.calm=true)(U:PI X tg iter (tI nm W X.K it))(hg:∀C Z s H,PG (J9 X N scope C Z s H) tg (tGt nm X.K t))(he:∀C Z s H,PE (J9 X N scope C Z s H) elt (tE nm W X.K e'))(hs:G9 iter=true)(G:N.length-X.N.length=k)(R:∀i∈Bc t,X.N.length<=i):PE X (.ListComp elt [⟨tg,iter,[],0⟩] scope pos) (tE nm W X.K (.comp v0 k t it e')) :=
 PE.aa7 (afp B Hq U hg (λ_ _ _ _=>.inl ⟨rfl,rfl⟩) he (Dy hs X.env)) (Xa G R)
def alv(B:Fo X N scope)(Hq:X.calm=true)(R:PI X tg iter (tI nm W X.K it))(hg:∀C Z s H,PG (J9 X N scope C Z s H) tg (tGt nm X.K t))(U:∀C Z s H,PT (J9 X N scope C Z s H) c (tQ nm W X.K c'))(he:∀C Z s H,PE (J9 X N scope C Z s H) elt (tE nm W X.K e'))(hs:G9 iter=true)(G:N.length-X.N.length=k)(ho:∀i∈Bc t,X.N.length<=i):PE X (.ListComp elt [⟨tg,iter,[c],0⟩] scope pos) (tE nm W X.K (.yu v0 k t it c' e')) :=
 PE.aa7 (afp B Hq R hg (λ_ _ _ _=>.inr ⟨c,rfl,U _ _ _ _⟩) he (Dy hs X.env)) (Rc G ho)
def aa8(h:∀σ H Q,σ.length=X.N.length->tE nm W X.K e' σ H Q->tt σ H Q):∀D σ H,σ.length=X.N.length->tS nm W X.K (.asg (.tg (.name i)) e') D σ H->av7 tt (ae9 i) D σ H:=λD σ H Z hh=>by obtain⟨ι,ρ,M,fl,qk,M',S,R,e,q⟩:=hh;rw[MW.Xp] at e;obtain⟨x,M1,e1,e⟩:=fu e;obtain⟨qq,M2,U,e⟩:=fu e;cases e;rw[MW.acg] at U;obtain⟨e3,e4⟩:=ur U;subst e4;cases e3;exact h σ H _ Z (one S R e1 λG H1 v le S1 R1 r=>q G H1 _ le S1 (R1.set r i))
def aht{y:Str}(B:Fo X N scope)(Hq:X.calm=true)(hi:PI X tg iter (tI nm W X.K it))(hg:∀C G s H,PG (J9 X N scope C G s H) tg (tGt nm X.K t))(he:∀C G s H,PE (J9 X N scope C G s H) elt (tE nm W X.K e'))(hs:G9 iter=true)(R:N.length-X.N.length=k)(ho:∀i∈Bc t,X.N.length<=i)(U:X.N.Nodup)(hy:X.N[i]?=some y)(hl:X.env.scope.names.lookup y=some .local)(Z:swapsWith (.ListComp elt [⟨tg,iter,[],0⟩] scope pos) (some (.Name y py)) alm.line X.env=pure true):PS X (.Assign [.Name y py] (.ListComp elt [⟨tg,iter,[],0⟩] scope pos) alm) (tS nm W X.K (.asg (.tg (.name i)) (.comp v0 k t it e'))) :=
 PS.aa7 (afq B Hq hi hg (λ_ _ _ _=>.inl ⟨rfl,rfl⟩) he (Dy hs X.env) U hy hl Z) (aa8 (Xa R ho))
def aa9{y:Str}(B:Fo X N scope)(Hq:X.calm=true)(hi:PI X tg iter (tI nm W X.K it))(hg:∀C Z s H,PG (J9 X N scope C Z s H) tg (tGt nm X.K t))(hc:∀C Z s H,PT (J9 X N scope C Z s H) c (tQ nm W X.K c'))(he:∀C Z s H,PE (J9 X N scope C Z s H) elt (tE nm W X.K e'))(hs:G9 iter=true)(R:N.length-X.N.length=k)(ho:∀i∈Bc t,X.N.length<=i)(U:X.N.Nodup)(hy:X.N[i]?=some y)(hl:X.env.scope.names.lookup y=some .local)(G:swapsWith (.ListComp elt [⟨tg,iter,[c],0⟩] scope pos) (some (.Name y py)) alm.line X.env=pure true):PS X (.Assign [.Name y py] (.ListComp elt [⟨tg,iter,[c],0⟩] scope pos) alm) (tS nm W X.K (.asg (.tg (.name i)) (.yu v0 k t it c' e'))) :=
 PS.aa7 (afq B Hq hi hg (λ_ _ _ _=>.inr ⟨c,rfl,hc _ _ _ _⟩) he (Dy hs X.env) U hy hl G) (aa8 (Rc R ho))
end
def spF(nm:Nm)(W:Mg)(K:Fg)(n f:Nat):Sp:=λvs H Q _=>∃U M R d M',mj nm K U H M/\nj K U H R vs/\R.length=n/\W.call f R M=.ok d M'/\∀Z G v,Le U H Z G->mj nm K Z G M'->Rep K Z G d v->Q v G
def s_call(F:Fi X.prog X.w X.K X.mg X.base Zq k fa fd ps (spF nm W X.K n f))(hr:Ac k X.A)(hg:Gl X x)(hm:X.mg x=some (.ref fa))(hk:PySem.W.keepIn X.K (.ref fa)=true)(hb:Binds X.K fd ps [])(Z:Eb.len G=n)(ha:PA X (a::es) (Zr nm W X.K G))(Yq:(x==("__debug__" : Str))=false)(he:starEach (a::es) X.env=(false,eval a X.env)::starEach es X.env)(Lp:(backTo pos (starEach es X.env)).any (·.1)=false) :
 PE X (.Call (.Name x p) (a::es) [] pos) (tE nm W X.K (.call f G)) :=
 PE.of (apv (E:=E0) F hr hg hm hk hb .nil ali ha Yq he Lp) fun σ H Q ι ρ M d M' S R e q=>by
  rw[MW.Zz] at e;obtain⟨ds,M1,e1,e⟩:=fu e;refine Vz S R e1 λqq H1 vs le S1 R1 r=>?_
  rw[Ae];exact⟨qq,M1,ds,d,M',S1,r,(Ir e1).trans Z,e,λU H' v W7 S' r'=>q U H' v (le.trans W7) S' r'⟩
def axh(q0:Mk X.K C fa)(F:Fi X.prog X.w X.K X.mg X.base Zq k fa fd ps (spF nm W X.K 1 f))(hr:Ac (k+1) X.A)(hg:Gl X x)(hm:X.mg x=some (.ref C))(hb:Binds X.K fd ps [])(q2:W.cls[U]?=some cl)(qv:cl.init=f)(qk:nm.cls U=some C)(Yq:(x==("__debug__" : Str))=false) :
 PE X (.Call (.Name x p) [] [] pos) (tE nm W X.K (.make U)) :=
 PE.of (ak9 (E:=E0) q0 F hr hg hm hb .nil ali Yq) fun σ H Q ι ρ M d M' S R e q=>by
  rw[MW.aix,q2] at e;have e:((W.call cl.init [.ref M.length] (M++[.ins U []])).bind λr M2=>match r with|.non=>.ok (.ref M.length) M2|_=>.bad)=.ok d M':=e;obtain⟨r0,M2,e2,e⟩:=fu e;intro p Z hp q1 Pb;have G:∀a u,H a=some u->upd (upd H Z (.own p)) p (.ins C Z []) a=some u:=λa u e=>by rw[lz (n8 e hp),lz (n8 e q1)];exact e
  obtain⟨S2,zf⟩:=S.new (o:=.ins U []) hp G λ_=>⟨C,Z,[],qk,uf,.nil⟩
  have rp:Rep X.K (ι.add p) (upd (upd H Z (.own p)) p (.ins C Z [])) (.ref M.length) (.ref p):=.ref (by show(ι.l++[p])[M.length]?=some p;rw[<- S.len];simp);refine⟨ι.add p,M++[.ins U []],[.ref M.length],r0,M2,S2,.cons rp .nil,rfl,by rw[<- qv];exact e2,λqq H' v W7 S' r'=>?_⟩;cases r'<;>try cases e
  exact⟨rfl,q qq H' _ (zf.trans W7) S' (rp.mono W7)⟩
theorem aba{Z:Nm}{R:Io}{H:Hp}{m:Str}{K:Fg}(U:∀i,Z.fld i≠m):∀{fs:List (Nat×Dv)}{l:List (Str×V)},qb K R H (λk G=>G=Z.fld k) fs l->l.lookup m=none
 |_,_,.nil=>rfl
 |_,_,.cons (k:=kk) (k':=kk') hk h t=>by
  subst hk;rw[m7];have z:(m==Z.fld kk)=false:=by
   cases z:m==Z.fld kk with
   |false=>rfl|true=>exact absurd (eq_of_beq z).symm (U kk)
  rw[z];exact aba U t
def axi{nm:Nm}{W:Mg}{X:Cx}{a o:Expr}{o':Ex}{Z G:Pos}{es:Ya}{qq:Eb}{k n f:Nat}{fa C:Addr}{fd:FuncData}{ps:Yf}{m:Str}{mi ci:Nat}{cl:MW.Cl}{pl:Sem Bool}(ho:PE X o (tE nm W X.K o'))(c0:X8 X.K C)(q2:Meth X.K C m fa)(F:Fi X.prog X.w X.K X.mg X.base Zq k fa fd ps (spF nm W X.K (n+1) f))(hr:Ac k X.A)(hb:Binds X.K fd ps [])
 (q1:∀c' U,W.cls[c']?=some U->∀g,U.meths.lookup mi=some g->nm.cls c'=some C/\g=f) (Zm:∀i,nm.fld i≠m)
 (qk:Eb.len qq=n) (ha:PA X (a::es) (Zr nm W X.K qq)) (he:starEach (a::es) X.env=(false,eval a X.env)::starEach es X.env) (Lp:(backTo Z (starEach es X.env)).any (·.1)=false)
 (ht:eval (.Call (.Attribute o m G) (a::es) [] Z) X.env=(do
  let ov <- eval o X.env
  standAt G.atName
  let (f,first) <- holding [ov] (getMethod ov m pl)
  callWith Z f first (backTo Z (starEach (a::es) X.env)) (backToKw Z (keywordEach [] X.env)))) :
 PE X (.Call (.Attribute o m G) (a::es) [] Z) (tE nm W X.K (.meth o' mi qq)) :=
 PE.of (apw (E:=E0) ho c0 q2 F hr hb .nil ali ha he Lp ht) fun σ H Q ι ρ M d M' S R e q=>by
  rw[MW.aiy] at e;obtain⟨x,M1,e1,e⟩:=fu e;obtain⟨ds,M2,e2,e⟩:=fu e;refine one S R e1 λq4 H1 v le S1 R1 r=>?_
  obtain⟨j,hx⟩:∃j,x=.ref j:=by cases x<;>first|exact⟨_,rfl⟩|cases e
  subst hx;obtain⟨p,rfl,hp⟩:∃p,v=.ref p/\q4.l[j]?=some p:=by cases r with|ref z=>exact⟨_,rfl,z⟩
  have e:(match M1[j]? with
   | some (.ins c _)=>(match(W.cls[c]?).bind λC=>C.meths.lookup mi with
    | some f=>W.call f (.ref j::ds) M2|none=>.bad)
   | _=>.bad)=Res.ok d M':=e
  cases hM:M1[j]? with
  |none=>rw[hM] at e;cases e
  |some ob =>
   rw[hM] at e;cases ob with
   |ins ci fs =>
    have e:(match(W.cls[ci]?).bind λC=>C.meths.lookup mi with|some f=>W.call f (.ref j::ds) M2|none=>.bad)=Res.ok d M':=e;cases hL:(W.cls[ci]?).bind λC=>C.meths.lookup mi with
    |none=>rw[hL] at e;cases e
    |some g =>
     rw[hL] at e;have e:W.call g (.ref j::ds) M2=.ok d M':=e;obtain⟨U,h1,h2⟩:=jb.mp hL;obtain⟨h3,rfl⟩:=q1 ci U h1 g h2;obtain⟨C',dx,l,g1,g2,g3⟩:=S1.obj j _ p hM hp;rw[h3] at g1;cases g1;have q3:l.lookup m=none:=aba Zm g3;refine⟨p,dx,l,rfl,g2,q3,Vz S1 R1 e2 λqv H2 vs zf S2 R2 r2=>?_⟩;rw[Ae];exact⟨qv,M2,.ref j::ds,d,M',S2,.cons (r.mono zf) r2,by rw[d9,Ir e2,qk],e,λq0 H' v W7 S' r'=>q q0 H' v ((le.trans zf).trans W7) S' r'⟩
   |_=>cases e
def axj:PE X (.Dict [] [] pos) (tE nm W X.K .acb):=PE.of ald fun σ H Q G ρ M d M' S R e q=>by
 rw[MW.aiw] at e;cases e;intro p Z;obtain⟨U,zf⟩:=S.new (o:=.dT []) (H':=upd H p (.dT [])) Z (λa u e=>by rw[lz (n8 e Z)];exact e) λ_=>⟨[],uf,.nil⟩
 exact q _ _ _ zf U (.ref (by show(G.l++[p])[M.length]?=some p;rw[<- S.len];simp))
def a9r(R:Nm)(K:Fg):av3:=λo i v H Q=>∃Z M x y d U,mj R K Z H M/\Rep K Z H x o/\Rep K Z H y i/\Rep K Z H d v/\MW.setOp x y d M=some U/\∀G,Le Z H Z G->mj R K Z G U->Q G
def O4(h:n<100000):n<sizeLine:=gw h U4
set_option tactic.hygienic true in
def aqi(hu:X.A.units+1<cLine):av4 X (a9r nm X.K):=by
 intro Y s σ H o i v ov iv u Q I ro ri rv hh;obtain⟨ι,M,x,y,d,M',S,rx,ry,rd,e,q⟩:=hh;obtain⟨j,hx⟩:∃j,x=.ref j:=by cases x<;>first|exact⟨_,rfl⟩|cases e
 subst hx;obtain⟨p,rfl,J⟩:∃p,o=.ref p/\ι.l[j]?=some p:=by cases rx with|ref z=>exact⟨_,rfl,z⟩
 simp only[MW.setOp] at e;split at e
 .rename_i xs Z
  split at e
  .rename_i k
   obtain⟨U,C,e2⟩:=bw.mp e;subst e2;cases ry;obtain⟨vs,R,G⟩:=S.obj j _ p Z J;refine set_list Y s σ H _ _ v ov iv u Q I ro ri rv ⟨p,vs,k,U,rfl,rfl,R,by rw[<- G.length];exact C,?_⟩;obtain⟨L,zf⟩:=S.put (u:=.lst (vs.set U v)) (o:=.lst (xs.set U d)) Z J λle=>⟨_,uf,(G.mono le).set (rd.mono le) U⟩
   exact q _ zf L
  .cases e
 .rename_i o6 Z
  obtain⟨k,C,e⟩:=jb.mp e;split at e<;>cases e;rename_i hl;obtain⟨l,R,G⟩:=S.obj j _ p Z J;obtain⟨b,rfl,hb⟩:=Y0 ry C;cases ro;refine ahi (H':=upd H p (.dT (putK l k v))) (y:=.ref b) (v:=v) hu I (apx.t R hb (by rw[<- G.length];exact O4 hl)) ri rv λs' I'=>⟨_,I',?_⟩
  obtain⟨L,zf⟩:=S.put (u:=.dT (putK l k v)) (o:=.dT (MW.Te o6 k d)) Z J λle=>⟨_,uf,(G.mono le).put (rd.mono le)⟩
  exact q _ zf L
 .cases e
def U9(h:Qk e=true)(t:Expr)(l:Nat)(Z:Env):swapsWithSole [t] e l Z=pure false:=by unfold swapsWithSole;exact Ld h _ _ _
def alw(e o b:Expr)(p:Pos)(l:Nat)(Z:Env):swapsWithSole [.Subscript o b p] e l Z=pure false:=by cases e<;>rfl
def alx(hu:X.A.units+1<cLine)(he:PE X a (tE nm W X.K a'))(ho:PE X o (tE nm W X.K o'))(hi:PE X b (tE nm W X.K b'))(ha:∀v,assign (.Subscript o b pos') X.env v=(do
 let U <- holding [v] (eval o X.env)
 let iv <- holding [v,U] (eval b X.env)
 standAt pos'
 holding [v,U,iv] (setItem U iv v)
 release [v,U,iv] [])):PS X (.Assign [.Subscript o b pos'] a pos) (tS nm W X.K (.asg (.sub o' b') a')) :=
 PS.of (akv he (av6 ho hi (aqi (nm:=nm) hu) ha) (alw _ _ _ _ _ _) (by rfl) (by rfl)) λD σ H ι ρ M fl qk M' S R e q=>by
  rw[MW.Xp] at e;obtain⟨x,M1,e1,e⟩:=fu e;obtain⟨qv,M2,Z,e⟩:=fu e;cases e;rw[MW.aoj] at Z;obtain⟨y,M3,e3,Z⟩:=fu Z;obtain⟨z,M4,e4,Z⟩:=fu Z;obtain⟨M5,M6,e5,e6⟩:=fu Z;obtain⟨e7,e8⟩:=ur e5;subst e8;cases e6;refine one S R e1 λq0 H1 v le S1 R1 r=>?_
  refine one S1 R1 e3 λqq H2 v2 zf S2 R2 r2=>one S2 R2 e4 λG H3 v3 Sq S3 R3 r3=>?_
  exact⟨G,_,y,z,x,_,S3,r2.mono Sq,r3,(r.mono zf).mono Sq,e7,λH' W7 S'=>q G H' σ (((le.trans zf).trans Sq).trans W7) S' (R3.mono W7)⟩
set_option tactic.hygienic true in
def aly(hn:n=nm.fld f)(U:∀c C,nm.cls c=some C->X8 X.K C/\Ff X.K C n)(he:PE X a (tE nm W X.K a'))(ho:PE X o (tE nm W X.K o'))(Lp:Qk a=true) :
 PS X (.Assign [.Attribute o n pos'] a pos) (tS nm W X.K (.asg (.fld o' f) a')) :=
 PS.of (awm ho he (Ld Lp _ _ _)) λD σ H ι ρ M fl qq M' S R e q=>by
  rw[MW.Xp] at e;obtain⟨x,M1,e1,e⟩:=fu e;obtain⟨qv,M2,G,e⟩:=fu e;cases e;rw[MW.aok] at G;obtain⟨y,M3,e3,G⟩:=fu G;obtain⟨M5,M6,e5,e6⟩:=fu G;obtain⟨Z,e8⟩:=ur e5;subst e8;cases e6;refine one S R e1 λqk H1 v le S1 R1 r=>one S1 R1 e3 λY H2 v2 zf S2 R2 r2=>?_
  obtain⟨j,hx⟩:∃j,y=.ref j:=by cases y<;>first|exact⟨_,rfl⟩|cases Z
  subst hx;obtain⟨p,rfl,hp⟩:∃p,v2=.ref p/\Y.l[j]?=some p:=by cases r2 with|ref z=>exact⟨_,rfl,z⟩
  simp only[MW.Th] at Z;split at Z
  .rename_i c fs hM
   have hl:fs.length<1000:=by
    by_cases z:fs.length<1000
    .exact z
    .rw[cj z] at Z;cases Z
   rw[bz hl] at Z;cases Z;obtain⟨C,J,l,h1,h2,L⟩:=S2.obj j _ p hM hp;subst hn;obtain⟨g1,g2⟩:=U c C h1;refine⟨p,C,J,l,rfl,h2,g1,g2,by rw[<- L.length];exact hl,?_⟩;obtain⟨S3,Sq⟩:=S2.put (u:=.ins C J (G8 (nm.fld f) v l)) (o:=.ins c (MW.Tf f x fs)) hM hp λW7=>⟨C,J,_,h1,uf,(L.mono W7).G8 ((r.mono zf).mono W7)⟩
   exact q Y _ σ ((le.trans zf).trans Sq) S3 (R2.mono Sq)
  .cases Z
def Br.weak(h:Br X f r)(w:∀Z H Q,r' Z H Q->r Z H Q):Br X f r':=λG s σ H Z U Q I R q=>h G s σ H Z U Q I R (w Z H Q q)
def rB(nm:Nm)(K:Fg)(b:Blt):List V->Hp->VK->Prop:=λvs H Q=>∃U M ds d R,mj nm K U H M/\nj K U H ds vs/\MW.v7 b ds M=.ok d R/\∀Z G v,Le U H Z G->mj nm K Z G R->Rep K Z G d v->Q v G
def Br.of(h:Br X f r)(w:∀R H Q G M ds d U,mj nm X.K G H M->nj X.K G H ds R->MW.v7 bb ds M=.ok d U->(∀Z H' v,Le G H Z H'->mj nm X.K Z H' U->Rep X.K Z H' d v->Q v H')->r R H Q):Br X f (rB nm X.K bb) :=
 Br.weak h λR H Q z_=>by obtain⟨G,M,ds,d,U,S,r,e,q⟩:=z_;exact w R H Q G M ds d U S r e q
def abb{X:Cx}:∀G H Q,tE nm W X.K (.blt t U) G H Q->tCB (rB nm X.K t) (Zr nm W X.K U) G H Q:=λG H Q hh=>by obtain⟨ι,ρ,M,d,M',S,R,e,q⟩:=hh;rw[MW.Xn] at e;obtain⟨ds,M1,e1,e⟩:=fu e;exact Vz S R e1 λqq H1 vs le S1 R1 r=>⟨qq,M1,ds,d,M',S1,r,e,λZ H' v W7 S' r'=>q Z H' v (le.trans W7) S' r'⟩
def afw{id:String}(U:Br X (.builtin id) (rB nm X.K t))(hg:Gl X x)(hm:X.mg x=none)(hv:bootBuiltins x=some (.builtin id))(R:PA X (a::es) (Zr nm W X.K Z))(hn:x≠"__name__")(Yq:(x==("__debug__" : Str))=false)(he:starEach (a::es) X.env=(false,eval a X.env)::starEach es X.env)(G:(backTo pos (starEach es X.env)).any (·.1)=false):PE X (.Call (.Name x p) (a::es) [] pos) (tE nm W X.K (.blt t Z)):=PE.weak (alb U hg hm hv R hn Yq he G) abb
def alz(U:Br X (.type T) (rB nm X.K t))(hg:Gl X x)(hm:X.mg x=none)(hv:bootBuiltins x=some (.type T))(R:PA X (a::es) (Zr nm W X.K Z))(hn:x≠"__name__")(Yq:(x==("__debug__" : Str))=false)(he:starEach (a::es) X.env=(false,eval a X.env)::starEach es X.env)(G:(backTo pos (starEach es X.env)).any (·.1)=false):PE X (.Call (.Name x p) (a::es) [] pos) (tE nm W X.K (.blt t Z)):=PE.weak (ahf U hg hm hv R hn Yq he G) abb
def O5(r:nj K G H ds Z)(h:ds=[d]):∃v,Z=[v]/\Rep K G H d v:=by subst h;cases r with|cons h t=>cases t;exact⟨_,rfl,h⟩
def aqj:Br X (.type "tuple") (rB nm X.K .tuple):=Br.of Vv λvs H Q G M ds d M' S r e q=>by
 cases r with
 |nil=>simp[MW.v7] at e
 |@cons x v _ _ h t =>
  cases t with
  |cons h2 t2=>simp[MW.v7] at e
  |nil =>
   have e:Res.rn ((MW.j8 M x).map MW.D.tup) M=.ok d M':=e;obtain⟨e1,e2⟩:=ur e;subst e2;obtain⟨xs,e3,rfl⟩:=bw.mp e1;obtain⟨p,U,rfl,Z,R⟩:=Fz S h e3;rcases Z with Z|Z
   .refine⟨p,U,rfl,.inl ⟨Ew.of Z,λl hl=>?_⟩⟩
    obtain⟨S2,zf,r2⟩:=Js S hl R;exact q G _ _ zf S2 r2
   .exact⟨p,U,rfl,.inr ⟨Ey.of Z,q G H _ (Le.refl _ _) S (.tup Z R)⟩⟩
set_option tactic.hygienic true in
def a3k:Br X (.builtin "len") (rB nm X.K .len):=Br.of Yu λvs H Q C M Y d M' S r e q=>by
 cases r with
 |nil=>simp[MW.v7] at e
 |@cons x v _ _ h t =>
  cases t with
  |cons h2 t2=>simp[MW.v7] at e
  |nil =>
   have fin:∀J,(MW.j8 M x=some J)->d=.int J.length->M'=M->∃p U,[v]=[V.ref p]/\(Ew X.K H p U\/Ey X.K H p U)/\Q (.int U.length) H:=λJ e3 Z e2=>by subst Z e2;obtain⟨p,u,rfl,R,ru⟩:=Fz S h e3;exact⟨p,u,rfl,R.imp Ew.of Ey.of,by rw[<- ru.length];exact q C H _ (Le.refl _ _) S (.int _)⟩
   cases h with
   |fz Z G =>
    cases e;exact⟨_,_,rfl,.inl Z.sq,by rw[<- G.length];exact q C H _ (Le.refl _ _) S (.int _)⟩
   |@ref n p Z =>
    have e:(match M[n]? with|some (.lst Y)=>Res.ok (MW.D.int Y.length) M|_=>.bad)=Res.ok d M':=e;split at e
    .rename_i Y L
     cases e;exact fin Y (by simp[MW.j8,MW.fj,L]) rfl rfl
    .cases e
   |tup Z G=>cases e;exact fin _ rfl rfl rfl|vl Z n1 G=>cases e;exact fin _ rfl rfl rfl|_=>cases e
noncomputable def Fp(f:Dv->Dv->Option Bool)(Z bs:List Dv)(j:Nat):Bool:=match Z[j]?,bs[j]? with
 |some a,some b=>(f a b).getD false|_,_=>false
set_option tactic.hygienic true in
theorem G6{f:Dv->Dv->Option Bool}:∀{Z bs:List Dv}{r:Bool},MW.Nq f Z bs=some r->(∀(j:Nat) a b,Z[j]?=some a->bs[j]?=some b->∃c,MW.Az f a b=some c) /\
 r=((List.range (min Z.length bs.length)).all (Fp (MW.Az f) Z bs)&&Z.length==bs.length)
 |[],[],r,h=>by cases h;exact⟨λj a b e=>by simp at e,by simp⟩
 |[],b::bs,r,h=>by cases h;exact⟨λj a b e=>by simp at e,by simp⟩
 |a::Z,[],r,h=>by cases h;exact⟨λj a b _ e=>by simp at e,by simp⟩
 |a::Z,b::bs,r,h=>by
  simp only[MW.Nq] at h;split at h
  .rename_i x y J h2
   cases h;obtain⟨R,S⟩:=G6 h2;refine⟨λj U u Y G=>?_,?_⟩
   .cases j with
    |zero=>simp at Y G;subst Y G;exact⟨x,J⟩|succ j=>exact R j U u (by simpa using Y) (by simpa using G)
   .rw[d9,d9,Nat.succ_min_succ,List.range_succ_eq_map,List.all_cons,List.all_map]
    have z:Fp (MW.Az f) (a::Z) (b::bs) 0=x:=by simp[Fp,J]
    have L:(Fp (MW.Az f) (a::Z) (b::bs) ∘ Nat.succ)=Fp (MW.Az f) Z bs:=by funext j;simp[Fp]
    rw[z,L,S];have C:(Z.length+1==bs.length+1)=(Z.length==bs.length):=by
     by_cases q:Z.length=bs.length
     .simp[q]
     .have:¬(Z.length+1=bs.length+1):=by lia
      simp[q,this]
    rw[C,Bool.and_assoc]
  .cases h
set_option tactic.hygienic true in
def al0{Z:Io}{H:Hp}{K:Fg}{f:Dv->Dv->Option Bool}(J:∀x y v r,Rep K Z H x v->Rep K Z H y v->f x y=some r->r=true)(G:Rep K Z H x v)(Y:Rep K Z H y v)(h:MW.Az f x y=some r):r=true:=by
 unfold MW.Az at h;split at h
 .cases G;cases Y
 .cases G;cases Y
 .exact J _ _ _ _ G Y h
set_option tactic.hygienic true in
theorem Lf{Z:Io}{H:Hp}{K:Fg}{f:Dv->Dv->Option Bool}(G:∀x y v r,Rep K Z H x v->Rep K Z H y v->f x y=some r->r=true):∀{Y bs:List Dv}{J:List V}{r:Bool},nj K Z H Y J->nj K Z H bs J->MW.Nq f Y bs=some r->r=true
 |_,_,_,_,.nil,.nil,h=>by cases h;rfl
 |_,_,_,_,.cons h1 t1,.cons h2 t2,h=>by
  simp only[MW.Nq] at h;split at h
  .rename_i x y U C
   cases h;rw[al0 G h1 h2 U,Lf G t1 t2 C];rfl
  .cases h
inductive EqI(M:du)(f:Dv->Dv->Option Bool):Dv->Dv->Bool->Prop
 |bl (a b:Bool):EqI M f (.bl a) (.bl b) (a==b)
 |int (a b:Int):EqI M f (.int a) (.int b) (decide (a=b))
 |str (a b:Str):EqI M f (.str a) (.str b) (decide (a=b))
 |tup {as bs:List Dv} {r:Bool} (h:MW.Nq f as bs=some r):EqI M f (.tup as) (.tup bs) r
 |tn (as:List Dv):EqI M f (.tup as) .non false
 |lst {x y:Dv} {as bs:List Dv} {r:Bool} (h1:MW.fj M x=some as) (h2:MW.fj M y=some bs) (h:(if as.length=bs.length then MW.Nq f as bs else some false)=some r):EqI M f x y r
set_option tactic.hygienic true in
def Y5(h:MW.Dh M (k+1) x y=some r):EqI M (MW.Dh M k) x y r:=by
 unfold MW.Dh at h;split at h
 .cases h;exact .int _ _
 .cases h;exact .bl _ _
 .cases h;exact .str _ _
 .exact .tup h
 .cases h;exact .tn _
 .split at h
  .rename_i Y Z;exact .lst Y Z h
  .cases h
def abd{X:Cx}(S:mj nm X.K Z H M)(U:Rep X.K Z H x v)(R:Rep X.K Z H y v)(h1:MW.fj M x=some ds)(h2:MW.fj M y=some es):∃vs,nj X.K Z H ds vs/\nj X.K Z H es vs:=by obtain⟨p,vs,rfl,g1,g2⟩:=ue S U h1;obtain⟨p',ws,hw,G,g4⟩:=ue S R h2;cases hw;rw[g1] at G;cases G;exact⟨vs,g2,g4⟩
theorem Y6{nm:Nm}{U:Io}{H:Hp}{M:du}{X:Cx}(S:mj nm X.K U H M):∀(k:Nat)(x y:Dv)(v:V)(r:Bool),Rep X.K U H x v->Rep X.K U H y v->MW.Dh M k x y=some r->r=true
 |0,_,_,_,_,_,_,h=>by cases h
 |k+1,x,y,v,r,rx,ry,h=>by
  have R:=Y6 S k;cases Y5 h with
  |bl a b=>cases rx;cases ry;simp|int a b=>cases rx;cases ry;simp|str a b=>cases rx;cases ry;simp
  |tup h=>cases rx with
   |tup e1 G=>cases ry with
    |tup e2 Z=>rw[e1] at e2;cases e2;exact Lf R G Z h
  |tn as=>cases rx;cases ry
  |lst h1 h2 h3 =>
   obtain⟨vs,G,Z⟩:=abd S rx ry h1 h2;rw[bz (G.length.trans Z.length.symm)] at h3;exact Lf R G Z h3
def Vals.Va{j:Nat}(r:Vals U G)(h1:U[j]?=some v)(h2:G[j]?=some u):RelV v u:=by obtain⟨u',Z,R⟩:=L2.Vals.get r h1;rw[h2] at Z;cases Z;exact R
set_option tactic.hygienic true in
def al3{A:Around}(I:Inv X pins σ H s)(G:A.units<cLine)(ih:MW.Dh M k x y=some c->SeqAt.EqAt A s L J c)(U:Rep X.K ι H x v)(C:Rep X.K ι H y u)(S:RelV v L)(R:RelV u J)(h:MW.Az (MW.Dh M k) x y=some c):SeqAt.EqAt A s L J c:=by
 unfold MW.Az at h;split at h
 .cases h
  cases U with
  |tup Y r1 =>
   cases C;cases S;obtain⟨t,rfl⟩:=R;obtain⟨is,g1,Z,_⟩:=I.tuple (Ey.of Y);exact SeqAt.EqAt.tuple_int _ _ Z G
 .cases h
  cases C with
  |tup Y r1 =>
   cases U;cases R;obtain⟨t,rfl⟩:=S;obtain⟨is,g1,Z,_⟩:=I.tuple (Ey.of Y);exact SeqAt.EqAt.int_tuple _ _ Z G
 .exact ih h
set_option tactic.hygienic true in
theorem Vb{nm:Nm}{X:Cx}{ι:Io}{H:Hp}{σ:St}{M:du}{q3:Zp}{s:Shared}(I:Inv X q3 σ H s)(S:mj nm X.K ι H M):∀(k:Nat)(A:Around)(x y:Dv)(v u:V)(v' u':Value)(r:Bool),Ac k A->Rep X.K ι H x v->Rep X.K ι H y u->RelV v v'->RelV u u'->MW.Dh M k x y=some r->SeqAt.EqAt A s v' u' r
 |0,_,_,_,_,_,_,_,_,_,_,_,_,_,h=>by cases h
 |k+1,A,x,y,v,u,v',u',r,hr,rx,ry,rv,ru,h=>by
  have ih:=Vb I S k A.in1;have q0:=hr.in1;have elems:∀(Z Y:List Dv)(vs ws:List V)(is J:Zl)(rr:Bool),nj X.K ι H Z vs->nj X.K ι H Y ws->Vals vs is->Vals ws J->MW.Nq (MW.Dh M k) Z Y=some rr ->
   ∀j (h1:j<is.toArray.size) (h2:j<J.toArray.size),SeqAt.EqAt A.in1 s is.toArray[j] J.toArray[j] (Fp (MW.Az (MW.Dh M k)) Z Y j):=λZ Y vs ws is J rr rd re Nu qv he j h1 h2=>by
   have l1:j<Z.length:=by rw[rd.length,Nu.length];simpa using h1
   have l2:j<Y.length:=by rw[re.length,qv.length];simpa using h2
   have L:Z[j]?=some Z[j]:=by simp[l1]
   have U:Y[j]?=some Y[j]:=by simp[l2]
   obtain⟨c,hc⟩:=(G6 he).1 j _ _ L U;obtain⟨va,a1,a2⟩:=rd.get L;obtain⟨wa,b1,b2⟩:=re.get U;have q1:is[j]?=some is.toArray[j]:=by simp
   have q2:J[j]?=some J.toArray[j]:=by simp
   have:=al3 I q0.K9 (ih _ _ va wa _ _ c q0 a2 b2 (Vals.Va Nu a1 q1) (Vals.Va qv b1 q2)) a2 b2 (Vals.Va Nu a1 q1) (Vals.Va qv b1 q2) hc;have z:Fp (MW.Az (MW.Dh M k)) Z Y j=c:=by simp[Fp,L,U,hc]
   rw[z];exact this
  have qk:∀(p p2:Addr)(Z Y:List Dv),v=.ref p->u=.ref p2->MW.fj M x=some Z->MW.fj M y=some Y->(if Z.length=Y.length then MW.Nq (MW.Dh M k) Z Y else some false)=some r->SeqAt.EqAt A s v' u' r:=λp p2 Z Y hv hu h1 h2 R=>by
   subst hv hu;cases rv;cases ru;obtain⟨_,vs,hv,L,U⟩:=ue S rx h1;cases hv;obtain⟨_,ws,hw,g3,g4⟩:=ue S ry h2;cases hw
   by_cases C:p=p2
   .subst C
    have:r=true:=by rw[L] at g3;cases g3;rw[bz (U.length.trans g4.length.symm)] at R;exact Lf (λx y v r a b c=>Y6 S k x y v r a b c) U g4 R
    rw[this];exact SeqAt.EqAt.same _
   .refine SeqAt.EqAt.of_refs C ?_
    obtain⟨is,r1,G,_⟩:=I.list (Ew.of L);obtain⟨J,r2,qq,_⟩:=I.list (Ew.of g3)
    by_cases hl:Z.length=Y.length
    .rw[bz hl] at R
     have q4:is.toArray.size=J.toArray.size:=by simp[<- r1.length,<- r2.length,<- U.length,<- g4.length,hl]
     have:=SeqAt.RcAt.lists (e:=Fp (MW.Az (MW.Dh M k)) Z Y) G.isList qq.isList q4 hr.K9 (elems Z Y vs ws is J r U g4 r1 r2 R);rw[(G6 R).2];have e1:is.toArray.size=min Z.length Y.length:=by simp[<- r1.length,<- U.length,hl]
     rw[e1] at this;simpa[hl] using this
    .rw[cj hl] at R
     cases R;exact SeqAt.RcAt.lists_lengths G.isList qq.isList (by simp[<- r1.length,<- r2.length,<- U.length,<- g4.length,hl]) hr.K9
  cases Y5 h with
  |bl a b=>cases rx;cases ry;cases rv;cases ru;exact SeqAt.EqAt.bool_bool _ _
  |int a b =>
   cases rx;cases ry;obtain⟨t,rfl⟩:=rv;obtain⟨t2,rfl⟩:=ru;rw[<- Bool.beq_eq_decide_eq];exact SeqAt.EqAt.int_int _ _ _ _
  |str a b =>
   cases rx;cases ry;obtain⟨t,rfl⟩:=rv;obtain⟨t2,rfl⟩:=ru;rw[<- Bool.beq_eq_decide_eq];exact SeqAt.EqAt.str_str _ _ _ _
  |@tup Z Y _ h=>cases rx with
   |@tup p _ vs e1 r1=>cases ry with
    |@tup p2 _ ws e2 r2 =>
     cases rv;cases ru
     by_cases C:p=p2
     .subst C
      have:r=true:=by rw[e1] at e2;cases e2;exact Lf (λx y v r a b c=>Y6 S k x y v r a b c) r1 r2 h
      rw[this];exact SeqAt.EqAt.same _
     .refine SeqAt.EqAt.of_refs C ?_
      obtain⟨is,L,G,_⟩:=I.tuple (Ey.of e1);obtain⟨J,U,qq,_⟩:=I.tuple (Ey.of e2);have:=SeqAt.RcAt.tuples (e:=Fp (MW.Az (MW.Dh M k)) Z Y) (show s.heap.IsTuple p is.toArray from G) (show s.heap.IsTuple p2 J.toArray from qq) hr.K9 (elems Z Y vs ws is J r r1 r2 L U h);rw[(G6 h).2];have z1:is.toArray.size=Z.length:=by simp[<- L.length,<- r1.length]
      have z2:J.toArray.size=Y.length:=by simp[<- U.length,<- r2.length]
      rw[z1,z2] at this;exact this
  |tn as=>cases rx with
   |tup e1 r1 =>
    cases ry;cases rv;cases ru;obtain⟨is,L,G,_⟩:=I.tuple (Ey.of e1);exact SeqAt.EqAt.tuple_none G hr.K9
  |lst h1 h2 R =>
   obtain⟨p,_,e1,_⟩:=ue S rx h1;obtain⟨p2,_,e2,_⟩:=ue S ry h2;exact qk p p2 _ _ e1 e2 h1 h2 R
inductive V0(A:Around)(s:Shared):Value->Value->Bool->Prop
 |Uq {p p2:Addr} {is js:U1} (e:Nat->Bool) (h1:s.heap.IsTuple p is) (h2:s.heap.IsTuple p2 js) (he:∀j (h1:j<is.size) (h2:j<js.size),SeqAt.EqAt A.in1 s is[j] js[j] (e j)):V0 A s (.ref p) (.ref p2) ((List.range (min is.size js.size)).all e&&is.size==js.size)
 |a3m {p p2:Addr} {is js:U1} (e:Nat->Bool) (h1:s.heap.IsList p is) (h2:s.heap.IsList p2 js) (hz:is.size=js.size) (he:∀j (h1:j<is.size) (h2:j<js.size),SeqAt.EqAt A.in1 s is[j] js[j] (e j)):V0 A s (.ref p) (.ref p2) ((List.range is.size).all e)
 |lens {p p2:Addr} {is js:U1} (h1:s.heap.IsList p is) (h2:s.heap.IsList p2 js) (hz:(is.size != js.size)=true):V0 A s (.ref p) (.ref p2) false
 |tn {p:Addr} {is:U1} (h1:s.heap.IsTuple p is):V0 A s (.ref p) .none false
def Xb{A:Around}(I:Inv X pins σ H s)(S:mj nm X.K ι H M)(hr:Ac k A.in1)(rd:nj X.K ι H ds vs)(re:nj X.K ι H es ws)(U:Vals vs is)(Z:Vals ws G)(he:MW.Nq (MW.Dh M k) ds es=some rr) :
 ∀j (h1:j<is.toArray.size) (h2:j<G.toArray.size),SeqAt.EqAt A.in1 s is.toArray[j] G.toArray[j] (Fp (MW.Az (MW.Dh M k)) ds es j):=λj h1 h2=>by
 have l1:j<ds.length:=by rw[rd.length,U.length];simpa using h1
 have l2:j<es.length:=by rw[re.length,Z.length];simpa using h2
 have R:ds[j]?=some ds[j]:=by simp[l1]
 have g2:es[j]?=some es[j]:=by simp[l2]
 obtain⟨c,hc⟩:=(G6 he).1 j _ _ R g2;obtain⟨va,a1,a2⟩:=rd.get R;obtain⟨wa,b1,b2⟩:=re.get g2;have q1:is[j]?=some is.toArray[j]:=by simp
 have q2:G[j]?=some G.toArray[j]:=by simp
 have:=al3 I hr.K9 (Vb I S k A.in1 _ _ va wa _ _ c hr a2 b2 (Vals.Va U a1 q1) (Vals.Va Z b1 q2)) a2 b2 (Vals.Va U a1 q1) (Vals.Va Z b1 q2) hc;have z:Fp (MW.Az (MW.Dh M k)) ds es j=c:=by simp[Fp,R,g2,hc]
 rw[z];exact this
def adm(I:Inv X pins σ H s)(S:mj nm X.K ι H M)(hr:Ac k A.in1)(rx:Rep X.K ι H x v)(ry:Rep X.K ι H y u)(rv:RelV v v')(ru:RelV u u')(h1:MW.fj M x=some ds)(h2:MW.fj M y=some es)(U:(if ds.length=es.length then MW.Nq (MW.Dh M k) ds es else some false)=some r):V0 A s v' u' r:=by
 obtain⟨p,vs,rfl,g1,g2⟩:=ue S rx h1;obtain⟨p2,ws,rfl,g3,g4⟩:=ue S ry h2;cases rv;cases ru;obtain⟨is,r1,G,_⟩:=I.list (Ew.of g1);obtain⟨js,r2,R,_⟩:=I.list (Ew.of g3)
 by_cases Z:ds.length=es.length
 .rw[bz Z] at U
  have qq:is.toArray.size=js.toArray.size:=by simp[<- r1.length,<- r2.length,<- g2.length,<- g4.length,Z]
  have z:=V0.a3m (A:=A) (Fp (MW.Az (MW.Dh M k)) ds es) G.isList R.isList qq (Xb I S hr g2 g4 r1 r2 U);rw[(G6 U).2];have e1:is.toArray.size=min ds.length es.length:=by simp[<- r1.length,<- g2.length,Z]
  rw[e1] at z;simpa[Z] using z
 .rw[cj Z] at U
  cases U;exact .lens G.isList R.isList (by simp[<- r1.length,<- r2.length,<- g2.length,<- g4.length,Z])
set_option tactic.hygienic true in
def abf(I:Inv X pins σ H s)(S:mj nm X.K ι H M)(hr:Ac k A.in1)(G:Rep X.K ι H x v)(Y:Rep X.K ι H y u)(rv:RelV v v')(L:RelV u u')(h:MW.Dh M (k+1) x y=some r) :
 V0 A s v' u' r\/(awj v u=true/\r=decide (v=u)):=by
 cases Y5 h with
 |bl a b=>cases G;cases Y;exact .inr ⟨rfl,by by_cases z:a=b<;>simp[z]⟩|int a b=>cases G;cases Y;exact .inr ⟨rfl,by by_cases z:a=b<;>simp[z]⟩|str a b=>cases G;cases Y;exact .inr ⟨rfl,by by_cases z:a=b<;>simp[z]⟩
 |@tup ds es _ h=>cases G with
  |@tup p _ vs C J=>cases Y with
   |@tup p2 _ ws e2 r2 =>
    cases rv;cases L;obtain⟨is,U,Z,_⟩:=I.tuple (Ey.of C);obtain⟨js,g2,R,_⟩:=I.tuple (Ey.of e2);have z:=V0.Uq (A:=A) (Fp (MW.Az (MW.Dh M k)) ds es) (show s.heap.IsTuple p is.toArray from Z) (show s.heap.IsTuple p2 js.toArray from R) (Xb I S hr J r2 U g2 h);rw[(G6 h).2];have z1:is.toArray.size=ds.length:=by simp[<- U.length,<- J.length]
    have z2:js.toArray.size=es.length:=by simp[<- g2.length,<- r2.length]
    rw[z1,z2] at z;exact .inl z
 |tn as=>cases G with
  |tup C J =>
   cases Y;cases rv;cases L;obtain⟨is,U,Z,_⟩:=I.tuple (Ey.of C);exact .inl (.tn Z)
 |lst h1 h2 h3=>exact .inl (adm I S hr G Y rv L h1 h2 h3)
def V0.rc(h:V0 A s v u r)(G:A.units<cLine):SeqAt.RcAt A s v u r/\SeqAt.RcNeAt A s v u (!r):=by
 cases h with
 |Uq e Z U R=>exact⟨SeqAt.RcAt.tuples Z U G R,SeqAt.RcNeAt.tuples Z U G R⟩|a3m e Z U hz R=>exact⟨SeqAt.RcAt.lists Z U hz G R,SeqAt.RcNeAt.lists Z U hz G R⟩|tn Z=>exact⟨SeqAt.RcAt.tuple_none Z G,SeqAt.RcNeAt.tuple_none Z G⟩|lens Z U hz=>exact⟨SeqAt.RcAt.lists_lengths Z U hz G,SeqAt.RcNeAt.lists_lengths Z U hz G⟩
def a9s(G:Ac 6 X.A):Bv X (compareOp .Eq) (U5 nm X.K .eq):=λZ s σ H v u v' u' Q I R U hh=>by
 obtain⟨ι,M,x,y,b,S,rx,ry,e,q⟩:=hh;have e:MW.Dh M 6 x y=some b:=e;rcases abf (A:=X.A) I S G.in1 rx ry R U e with h|⟨h1,h2⟩
 .exact(h.rc G.K9).1 X.prog X.w X.xe _ ⟨.bl b,H,I,rfl,q⟩
 .subst h2
  exact a08 Z s σ H v u v' u' Q I R U ⟨h1,q⟩
def a9t(G:Ac 6 X.A):Bv X (compareOp .NotEq) (U5 nm X.K .ne):=λZ s σ H v u v' u' Q I R U hh=>by
 obtain⟨ι,M,x,y,b,S,rx,ry,e,q⟩:=hh;obtain⟨b',e1,e2⟩:=bw.mp (show(MW.q9 M x y).map not=some b from e);subst e2;rcases abf (A:=X.A) I S G.in1 rx ry R U (show MW.Dh M 6 x y=_ from e1) with h|⟨h1,h2⟩
 .exact(h.rc G.K9).2 X.prog X.w X.xe _ ⟨.bl !b',H,I,rfl,q⟩
 .subst h2
  exact a09 Z s σ H v u v' u' Q I R U ⟨h1,q⟩
section
variable{nm:Nm}{W:Mg}{X:Cx}{a b c o:Expr}{a' b' c' o':Ex}{pos pos' apos:Pos}{ι:Io}{H:Hp}{σ:St}{ρ:En}{M M1 M2:du}{x y:Dv}{es:Ya}{es':Eb}
set_option tactic.hygienic true in
theorem Lz:∀{Z:List Dv}{bs:List Bool},MW.Iw M x Z=some bs->bs.length=Z.length/\∀(j:Nat) d,Z[j]?=some d->∃b,bs[j]?=some b/\MW.q9 M d x=some b
 |[],bs,h=>by cases h;exact⟨rfl,λj d e=>by simp at e⟩
 |y::ys,bs,h=>by
  simp only[MW.Iw] at h;split at h
  .rename_i a b G U
   cases h;obtain⟨Y,J⟩:=Lz U;refine⟨by simp[Y],λj d e=>?_⟩;cases j with
   |zero=>simp at e;subst e;exact⟨a,rfl,G⟩|succ j=>simpa using J j d (by simpa using e)
  .cases h
def Fv(I:Inv X pins σ H s)(e:Yw X.K H p G):(∃o,H p=some (.Ih o (.lst G)))\/(H p=none/\∃(o:Obj)(Z:U1)(n:Nat),X.K.lookup p=some o/\o.data=.seq Z n/\Vals G Z.toList):=by
 rcases e with h|⟨o,Z,n,h1,_,_,h2,_,h3⟩
 .exact .inl h
 .exact .inr ⟨(I.bs p o (I.mod.kin p o h1)).2,o,Z,n,h1,h2,h3⟩
def axl(I:Inv X pins σ H s)(e:Yw X.K H p vs)(e2:Yw X.K H p ws):vs=ws:=by
 rcases Fv I e with⟨o,h⟩|⟨h,o,uv,n,h1,h2,h3⟩
 .rcases Fv I e2 with⟨o',Z⟩|⟨Z,_⟩
  .rw[h] at Z;cases Z;rfl
  .rw[h] at Z;cases Z
 .rcases Fv I e2 with⟨o',Z⟩|⟨_,o',qq,n',U,G,R⟩
  .rw[h] at Z;cases Z
  .rw[h1] at U;cases U
   rw[h2] at G;cases G;exact Vals.inj h3 R
mutual
theorem afx{R:Zp}{s:Shared}(I:Inv X R σ H s)(S:mj nm X.K ι H M):∀{d d':Dv}{v:V},Rep X.K ι H d v->Rep X.K ι H d' v->d=d'
 |_,_,_,.non,r=>by cases r;rfl|_,_,_,.bl b,r=>by cases r;rfl|_,_,_,.int i,r=>by cases r;rfl|_,_,_,.str z,r=>by cases r;rfl
 |_,_,_,.tup e1 r1,r=>by
  cases r with
  |tup Z G =>
   rw[e1] at Z;cases Z;rw[O6 I S r1 G]
  |vl Z n2 G=>rw[e1] at Z;cases Z
  |fz Z G =>
   rcases Fv I Z with⟨o,h⟩|⟨h,_⟩
   .rw[e1] at h;cases h
   .rw[e1] at h;cases h
  |ref Z =>
   obtain⟨u,q,U⟩:=S.mem (au Z);rw[e1] at U;exact U.elim
 |_,_,_,.vl e1 n1 r1,r=>by
  cases r with
  |tup Z G=>rw[e1] at Z;cases Z
  |vl Z n2 G =>
   rw[e1] at Z;cases Z;rw[O6 I S r1 G]
  |fz Z G =>
   rcases Fv I Z with⟨o,h⟩|⟨h,_⟩
   .rw[e1] at h;cases h
   .rw[e1] at h;cases h
  |ref Z=>exact absurd (au Z) n1.1
 |_,_,_,.fz e1 r1,r=>by
  cases r with
  |tup Z G =>
   rcases Fv I e1 with⟨o,h⟩|⟨h,_⟩
   .rw[Z] at h;cases h
   .rw[Z] at h;cases h
  |vl Z n2 G =>
   rcases Fv I e1 with⟨o,h⟩|⟨h,_⟩
   .rw[Z] at h;cases h
   .rw[Z] at h;cases h
  |fz Z G =>
   have:=axl I e1 Z;subst this;rw[O6 I S r1 G]
  |ref Z =>
   obtain⟨u,q,U⟩:=S.mem (au Z);rcases Fv I e1 with⟨o,h⟩|⟨h,_⟩
   .rw[h] at U;exact U.elim
   .rw[h] at q;cases q
 |_,_,_,.ref e1,r=>by
  cases r with
  |tup Z G =>
   obtain⟨u,q,U⟩:=S.mem (au e1);rw[Z] at U;exact U.elim
  |vl Z n2 G=>exact absurd (au e1) n2.1
  |fz Z G =>
   obtain⟨u,q,U⟩:=S.mem (au e1);rcases Fv I Z with⟨o,h⟩|⟨h,_⟩
   .rw[h] at U;exact U.elim
   .rw[h] at q;cases q
  |ref Z =>
   obtain⟨l1,q1⟩:=ak.mp e1;obtain⟨l2,q2⟩:=ak.mp Z;rw[(zj S.nd).mp (q1.trans q2.symm)]
theorem O6{Z:Zp}{s:Shared}(I:Inv X Z σ H s)(S:mj nm X.K ι H M):∀{R G:List Dv}{U:List V},nj X.K ι H R U->nj X.K ι H G U->R=G
 |_,_,_,.nil,r=>by cases r;rfl
 |_,_,_,.cons h t,r=>by
  cases r with
  |cons h2 t2=>rw[afx I S h h2,O6 I S t t2]
end
def Y8(I:Inv X pins σ H s)(S:mj nm X.K ι H M)(hr:Ac 6 A)(R:nj X.K ι H ds vs)(rv:Vals vs is)(rx:Rep X.K ι H x u)(ru:RelV u u')(h:MW.Iw M x ds=some bs):∃e:Value->Bool,(∀w,w∈is.toArray->SeqAt.EqAt A s w u' (e w))/\∀(j:Nat)(w:Value),is[j]?=some w->bs[j]?=some (e w):=by
 obtain⟨g1,g2⟩:=Lz h;have G:∀(j:Nat)(w:Value),is[j]?=some w->∃b,bs[j]?=some b/\SeqAt.EqAt A s w u' b:=λj w hw=>by
  have lj:j<ds.length:=by rw[R.length,rv.length];exact(ak.mp hw).1
  have gd:ds[j]?=some ds[j]:=by simp[lj]
  obtain⟨b,U,e2⟩:=g2 j _ gd;obtain⟨v,a1,a2⟩:=R.get gd;exact⟨b,U,Vb I S 6 A _ _ v u w u' b hr a2 rx (Vals.Va rv a1 hw) ru e2⟩
 classical
 refine⟨λw=>if hw:∃j:Nat,is[j]?=some w then(bs[hw.choose]?).getD false else false,λw hw=>?_,λj w hw=>?_⟩
 .obtain⟨j,hj,e⟩:=xu (by simpa using hw:w∈is)
  have Z:∃j:Nat,is[j]?=some w:=⟨j,by simp[hj,e]⟩;obtain⟨b,U,e2⟩:=G Z.choose w Z.choose_spec;simp only[dif_pos Z,U,Option.getD_some];exact e2
 .have Z:∃j:Nat,is[j]?=some w:=⟨j,hw⟩
  obtain⟨b,U,e2⟩:=G j w hw;obtain⟨b',e3,e4⟩:=G Z.choose w Z.choose_spec;simp only[dif_pos Z,e3,Option.getD_some];rw[U]
  congr 1
  have lj:j<ds.length:=by rw[R.length,rv.length];exact(ak.mp hw).1
  have lk:Z.choose<ds.length:=by rw[R.length,rv.length];exact(ak.mp Z.choose_spec).1
  have gd:ds[j]?=some ds[j]:=by simp[lj]
  have gk:ds[Z.choose]?=some ds[Z.choose]:=by simp[lk]
  obtain⟨c1,q1,q2⟩:=g2 j _ gd;obtain⟨c2,q3,q4⟩:=g2 Z.choose _ gk;obtain⟨v1,p1,p2⟩:=R.get gd;obtain⟨v2,p3,p4⟩:=R.get gk;have hv:v1=v2:=RelV.inj (Vals.Va rv p1 hw) (Vals.Va rv p3 Z.choose_spec);subst hv;rw[U] at q1;rw[e3] at q3;cases q1;cases q3;have hd:=afx I S p2 p4;rw[hd,q4] at q2;exact(gq q2).symm
def aql{is:Zl}{bs:List Bool}(Z:bs.length=is.length)(h:∀(j:Nat) (w:Value),is[j]?=some w->bs[j]?=some (e w)):bs=is.map e:=by
 apply List.ext_getElem?;intro j;rw[iu];cases q:is[j]? with
 |none=>rw[yt (by rw[Z];exact List.getElem?_eq_none_iff.mp q)];rfl|some w=>rw[h j w q];rfl
def atd{b:Bool}(n:Bool)(hr:Ac 8 X.A)(S:mj nm X.K ι H M)(I:Inv X pins σ H s)(rv:RelV v v')(ru:RelV u u')(rx:Rep X.K ι H x v)(ry:Rep X.K ι H y u)(e:MW.Pk M x y=some b)(q:Q (.bl (cond n (!b) b)) H):wpAny (model X.prog X.w) X.A (compareOp (cond n .NotIn .In) v' u') (EP X pins σ Q) X.xe s:=by
 have qq:∀G,MW.j8 M y=some G->MW.memD M x G=some b->wpAny (model X.prog X.w) X.A (compareOp (cond n .NotIn .In) v' u') (EP X pins σ Q) X.xe s:=λG h1 h2=>by
  obtain⟨bs,e1,e2⟩:=bw.mp (show(MW.Iw M x G).map (·.any id)=some b from h2);obtain⟨p,vs,rfl,hp,r⟩:=Fz S ry h1;cases ru;have fin:∀{is:Zl}{f:Value->Bool},Vals vs is->(∀(j:Nat)(w:Value),is[j]?=some w->bs[j]?=some (f w))->is.toArray.any f=b:=fun{is f} Z g2=>by have:=aql (by rw[(Lz e1).1,r.length,Z.length]) g2;rw[this] at e2;rw[<- e2];simp[List.any_map]
  rcases hp with hp|hp
  .obtain⟨is,Z,U,_⟩:=I.list (Ew.of hp)
   obtain⟨f,R,g2⟩:=Y8 (A:=X.A.in1) I S ((hr.mono (by decide:7<=8)).in1) r Z rx rv e1;have a:=fin Z g2;subst a;cases n with
   |false=>exact SeqAt.in_listAt f U.isList R ⟨.bl _,H,I,rfl,q⟩|true=>exact SeqAt.notIn_listAt f U.isList R ⟨.bl _,H,I,rfl,q⟩
  .obtain⟨is,Z,U,_⟩:=I.tuple (Ey.of hp)
   obtain⟨f,R,g2⟩:=Y8 (A:=X.A.in1) I S ((hr.mono (by decide:7<=8)).in1) r Z rx rv e1;have a:=fin Z g2;subst a;cases n with
   |false=>exact SeqAt.in_tupleAt f (show s.heap.IsTuple p is.toArray from U) R ⟨.bl _,H,I,rfl,q⟩
   |true=>exact SeqAt.notIn_tupleAt f (show s.heap.IsTuple p is.toArray from U) R ⟨.bl _,H,I,rfl,q⟩
 have qk:(MW.j8 M y).bind (MW.memD M x)=some b->wpAny (model X.prog X.w) X.A (compareOp (cond n .NotIn .In) v' u') (EP X pins σ Q) X.xe s:=λe=>by obtain⟨G,h1,h2⟩:=jb.mp e;exact qq G h1 h2
 exact qk e
def a9u(R:Ac 8 X.A):Bv X (compareOp .In) (U5 nm X.K .inn):=λZ s σ H v u v' u' Q I rv ru G=>by obtain⟨ι,M,x,y,b,S,U,ry,e,q⟩:=G;exact atd false R S I rv ru U ry e q
def aqm(R:Ac 8 X.A):Bv X (compareOp .NotIn) (U5 nm X.K .Kc):=λZ s σ H v u v' u' Q I rv ru G=>by obtain⟨ι,M,x,y,c,S,U,ry,e,q⟩:=G;obtain⟨b,e',rfl⟩:=bw.mp (show(MW.Pk M x y).map not=some c from e);exact atd true R S I rv ru U ry e' q
end
def rM(nm:Nm)(K:Fg)(m:Bm):V->List V->Hp->VK->Prop:=λv vs H Q=>∃G M x ds d R,mj nm K G H M/\Rep K G H x v/\nj K G H ds vs/\MW.Hs m x ds M=.ok d R /\
 ∀Z U w,Le G H Z U->mj nm K Z U R->Rep K Z U d w->Q w U
set_option tactic.hygienic true in
theorem al4{id:String}(hT:∀J H M x v,mj nm X.K J H M->Rep X.K J H x v->MW.Pn m x M=true->tyV X.K T v H)(pa:PlainAttrs T)(Z:Slot T name id)(qq:typeOf (.builtin id)=pure (.type "method_descriptor"))(hm:MtR X id (rM nm X.K m))(ho:PE X o (tE nm W X.K o'))(ha:PA X (e::es) (Zr nm W X.K qv))(u:attributeBase o name X.env (eval o X.env)=eval o X.env)(qk:((backTo G (starEach (e::es) X.env)).all (λx=>!x.1)&&(backToKw G (keywordEach [] X.env)).all (λx=>x.1.isSome)
&&decide ((e::es).length+([]:List Keyword).length+(if([]:List Keyword).isEmpty then 0 else 1)<30))=true)(C:(apos.endLine==G.line)=true)(hs:starEach (e::es) X.env=(false,eval e X.env)::starEach es X.env)(q0:(backTo G (starEach es X.env)).any (·.1)=false) :
 PE X (.Call (.Attribute o name apos) (e::es) [] G) (tE nm W X.K (.bm m o' qv)) :=
 PE.of (a1w pa Z qq hm ho ha u qk C hs q0) fun σ H Q J ρ M d M' S R e q=>by
  rw[MW.auc] at e;obtain⟨x,M1,e1,e⟩:=fu e;split at e
  .rename_i ht
   obtain⟨ds,M2,e2,e⟩:=fu e;exact one S R e1 λY H1 v le S1 R1 r=>⟨hT Y H1 M1 x v S1 r ht,Y,ρ,M1,ds,M2,S1,R1,e2,λU H2 vs zf S2 rs=>⟨U,M2,x,ds,d,M',S2,r.mono zf,rs,e,λL H' w W7 S' r'=>q L H' w ((le.trans zf).trans W7) S' r'⟩⟩
  .cases e
def afy(h:MW.onL o M f=.ok d M'):∃n Z,o=.ref n/\M[n]?=some (.lst Z)/\f n Z=.ok d M':=by
 cases o with
 |ref n =>
  simp only[MW.onL] at h;cases e:M[n]? with
  |none=>rw[e] at h;cases h
  |some o=>cases o with
   |lst Z=>rw[e] at h;exact⟨n,Z,rfl,e,h⟩|_=>rw[e] at h;cases h
 |_=>cases h
def Vc{Z:List Dv}(h:MW.Ma Z g=.ok d M'):∃x,Z=[x]/\g x=.ok d M':=by
 match Z,h with
 |[x],h=>exact⟨x,rfl,h⟩|[],h=>cases h|_::_::_,h=>cases h
def Y9{c:Prop}[Decidable c]{r:Res α}(h:(if c then r else .bad)=.ok d M'):c/\r=.ok d M':=by
 by_cases z:c
 .rw[bz z] at h;exact⟨z,h⟩
 .rw[cj z] at h;cases h
def ty_list{X:Cx}(S:mj nm X.K G H M)(r:Rep X.K G H x v)(h:(MW.fj M x).isSome=true):tyV X.K "list" v H:=by obtain⟨ds,Z⟩:=j9.mp h;obtain⟨p,U,rfl,R,_⟩:=ue S r Z;exact .inl ⟨rfl,U,Ew.of R⟩
def al5:MtR X "list.append" (rM nm X.K .append):=λZ s σ H v vs u us Q I ru Nu hh=>by
 obtain⟨ι,M,x,ds,d,M',S,r,rs,e,q⟩:=hh;obtain⟨n,xs,rfl,G,e1⟩:=afy e;obtain⟨d0,rfl,e2⟩:=Vc e1;obtain⟨hl,e3⟩:=Y9 e2;cases e3;cases r with
 |ref U =>
  obtain⟨R,h3,h4⟩:=S.obj n _ _ G U;cases rs with
  |cons hd ht =>
   cases ht;refine W4 Z s σ H _ _ u us Q I ru Nu ⟨_,R,_,rfl,rfl,h3,by rw[<- h4.length];exact O4 hl,?_⟩;obtain⟨S2,zf⟩:=S.put (u:=.lst (R++[_])) (o:=.lst (xs++[_])) G U λle=>⟨_,uf,(h4.mono le).append (.cons (hd.mono le) .nil)⟩
   exact q _ _ _ zf S2 .non
def al6:MtR X "list.extend" (rM nm X.K .extend):=λZ s σ H v vs u us Q I ru Nu hh=>by
 obtain⟨ι,M,x,ds,d,M',S,r,rs,e,q⟩:=hh;obtain⟨n,xs,rfl,hM,e1⟩:=afy e;obtain⟨y,rfl,U⟩:=Vc e1;cases hy:MW.fj M y with
 |none=>rw[hy] at U;cases U
 |some zs =>
  rw[hy] at U;obtain⟨⟨_,hl⟩,e3⟩:=Y9 U;cases e3;cases r with
  |ref ha =>
   obtain⟨ys,h3,h4⟩:=S.obj n _ _ hM ha;cases rs with
   |cons hd ht =>
    cases ht;obtain⟨b,G,rfl,h5,R⟩:=ue S hd hy;refine ahk Z s σ H _ _ u _ Q I ru Nu ⟨_,b,ys,G,rfl,rfl,h3,h5,by rw[<- h4.length,<- R.length];exact vq (O4 hl),?_⟩;obtain⟨S2,zf⟩:=S.put (u:=.lst (ys++G)) (o:=.lst (xs++zs)) hM ha λle=>⟨_,uf,(h4.mono le).append (R.mono le)⟩
    exact q _ _ _ zf S2 .non
set_option tactic.hygienic true in
theorem ints_rep{S:Io}{H:Hp}{K:Fg}:∀{U:List Dv}{J:List V}{is:Zl}{G:X9},nj K S H U J->Vals J is->MW.V8 U=some G->∃Z:Array (Int×Tok),is.toArray=intItems Z/\Z.toList.map (·.1)=G
 |_,_,_,_,.nil,.nil,h=>by cases h;exact⟨#[],by simp[intItems],rfl⟩
 |_,_,_,_,.cons r t,.cons rv tv,h=>by
  cases r<;>simp only[MW.V8] at h<;>try cases h
  rename_i i;obtain⟨R,C,u⟩:=bw.mp h;obtain⟨Z,g1,L⟩:=ints_rep t tv C;obtain⟨tk,rfl⟩:=rv;refine⟨#[(i,tk)]++Z,?_,by simp[L,u]⟩;have Y:=mz Array.toList g1;apply Array.toList_inj.mp;simp[intItems] at Y ⊢;exact Y
theorem abg:∀(l:X9)(z m:Int),(m=z\/m∈l)->z<=m->(∀a∈l,a<=m)->l.foldl (λm x=>if m<x then x else m) z=m
 |[],z,m,h,_,_=>by rcases h with h|h;exact h.symm;cases h
 |a::l,z,m,h,hz,J6=>by
  rw[Af];have U:=J6 a bx;refine abg l _ m ?_ (by split<;>lia) (λb G=>J6 b (bh _ G));rcases h with h|h
  .subst h;left;split<;>lia
  .rcases dg.mp h with h|h
   .subst h
    by_cases Z:z<m
    .left;rw[bz Z]
    .left;rw[cj Z];lia
   .exact .inr h
theorem abh:∀(l:X9)(z m:Int),(m=z\/m∈l)->m<=z->(∀a∈l,m<=a)->l.foldl (λm x=>if x<m then x else m) z=m
 |[],z,m,h,_,_=>by rcases h with h|h;exact h.symm;cases h
 |a::l,z,m,h,hz,J6=>by
  rw[Af];have U:=J6 a bx;refine abh l _ m ?_ (by split<;>lia) (λb G=>J6 b (bh _ G));rcases h with h|h
  .subst h;left;split<;>lia
  .rcases dg.mp h with h|h
   .subst h
    by_cases Z:m<z
    .left;rw[bz Z]
    .left;rw[cj Z];lia
   .exact .inr h
def aqn(e:MW.two ds f g M=.ok d Z):Z=M/\((∃i j,ds=[.int i,.int j]/\d=.int (f i j))\/∃x m,ds=[x]/\g x=some m/\d=.int m):=by
 cases ds with
 |nil=>cases e
 |cons x r=>cases r with
  |nil =>
   obtain⟨G,R⟩:=ur (show Res.rn ((g x).map MW.D.int) M=.ok d Z from e);obtain⟨m,e3,U⟩:=bw.mp G;exact⟨R,.inr ⟨x,m,rfl,e3,U.symm⟩⟩
  |cons y r=>cases r with
   |nil =>
    cases x<;>try cases e
    cases y<;>cases e;exact⟨rfl,.inl ⟨_,_,rfl,rfl⟩⟩
   |cons _ _=>cases e
def abi{h:List Int->Option Int}(e:MW.two ds f (λd=>((MW.j8 M d).bind MW.V8).bind h) M=.ok d M'):M'=M/\((∃i j,ds=[.int i,.int j]/\d=.int (f i j))\/∃x G n Z m,ds=[x]/\MW.j8 M x=some G/\MW.V8 G=some (n::Z)/\h (n::Z)=some m/\d=.int m\/h []=some m):=by
 obtain⟨a,b|⟨x,m,h3,R,h5⟩⟩:=aqn e
 .exact⟨a,.inl b⟩
 .obtain⟨Z,e5,U⟩:=jb.mp R
  obtain⟨G,e7,e8⟩:=jb.mp e5;cases Z with
  |nil=>exact⟨a,.inr ⟨x,G,0,[],m,.inr U⟩⟩|cons n Z=>exact⟨a,.inr ⟨x,G,n,Z,m,.inl ⟨h3,e7,e8,U,h5⟩⟩⟩
def adn(h:Vals [v] Z):∃u,Z=[u]/\RelV v u:=L2.Vals.one h
def Xc(h:i<Z.size):(Z.toList.map (·.1))[i]?=some (numAt Z i):=by simp[numAt,h]
def best{Z:Array (Int×Tok)}{R:Int->Int->Prop}(g2:Z.toList.map (·.1)=n::l)(h:b<Z.size)(b2:∀i,i<Z.size->R (numAt Z i) (numAt Z b)):(numAt Z b=n\/numAt Z b∈l)/\∀a∈n::l,R a (numAt Z b):=by
 constructor
 .have:=au (Xc h)
  rw[g2] at this;exact dg.mp this
 .intro a ha
  rw[<- g2] at ha;obtain⟨i,G⟩:=jw.mp ha;have U:i<Z.size:=by have:=(ak.mp G).1;simpa using this
  rw[Xc U] at G;cases G;exact b2 i U
def afz(r:nj K ι H [.int i,.int j] Z):Z=[.int i,.int j]:=by
 cases r with
 |cons U R=>cases R with
  |cons h2 G=>cases G;cases U;cases h2;rfl
def af0(I:Inv X pins σ H s)(S:mj nm X.K ι H M)(r:nj X.K ι H [x] vs)(Nu:Vals vs us)(e1:MW.j8 M x=some xs)(e2:MW.V8 xs=some (n::ns)):∃a Z,us=[.ref a]/\(s.heap.IsList a (intItems Z)\/s.heap.IsTuple a (intItems Z))/\Z.toList.map (·.1)=n::ns/\0<Z.size:=by
 obtain⟨v,rfl,rv⟩:=O5 r rfl;obtain⟨u,rfl,ru⟩:=adn Nu;obtain⟨p,ws,rfl,U,rl⟩:=Fz S rv e1;cases ru;have fin:∀{Z:Array (Int×Tok)},Z.toList.map (·.1)=n::ns->0<Z.size:=fun{Z} g=>by have:=mz List.length g;simp at this;lia
 rcases U with U|U
 .obtain⟨is,G,pl,_⟩:=I.list (Ew.of U)
  obtain⟨Z,g1,R⟩:=ints_rep rl G e2;exact⟨_,Z,rfl,.inl (by rw[<- g1];exact pl.isList),R,fin R⟩
 .obtain⟨is,G,pl,_⟩:=I.tuple (Ey.of U)
  obtain⟨Z,g1,R⟩:=ints_rep rl G e2;exact⟨_,Z,rfl,.inr (by rw[<- g1];exact pl),R,fin R⟩
def Xd{s:Shared}{Z:Heap}{G:Obj}(R:∀b o,b∉[s.heap.objs.size]->(s.heap.push G).get? b=some o->Z.get? b=some o):∀b o,s.heap.get? b=some o->Z.get? b=some o:=λb o e =>
 R b o (λU=>absurd (ou.mp U▸bf e) (o8 _)) (aq _ e)
def al7{s:Shared}{U:Obj}(G:l<s.heap.objs.size):∀b∈[s.heap.objs.size,l],b<(s.heap.push U).objs.size:=λb Z=>by
 rw[ju];simp only[dg,vd,or_false] at Z;rcases Z with rfl|rfl
 .exact ud _
 .exact Nat.lt_succ_of_lt G
def aqo{A:Around}{E:Y1}{Q:Y1}(hh:A.handled=none)(G:s.heap.IsList l (intItems Z)\/s.heap.IsTuple l (intItems Z))(Pb:0<Z.size)
 (h:∀v U R,(intItems Z)[argBest (λi j=>decide (numAt Z i > numAt Z j)) (Z.size-1)]?=some v->(∀b o,s.heap.get? b=some o->U.get? b=some o)->Q v { s with heap:=U,toks:=R }) :
 wpAny (model prog w) A (call (.builtin "max") [.ref l]) Q E s:=by
 rcases G with G|G
 .exact max_intList hh G Pb h
 .have Iu:l<s.heap.objs.size:=by obtain⟨_,e,_⟩:=G;exact bf e
  refine call_max_walk (o5 G ⟨_,_,_,_,_,_,_,rfl,Walks.tuple (A:=A.in1) hh _ l (ie Iu) (intItems Z),⟨⟨_,bu _ rfl,rfl,rfl⟩,G.at λo e=>aq _ e⟩,al7 Iu,by simpa[intItems] using Pb,CmpOf.ints_gt (numAt Z) (λ_ _=>intItems_at),λv U R hP hk=>?_⟩);exact h v U R (by simpa[intItems] using hP) (Xd hk)
def aqp{A:Around}{E:Y1}{Q:Y1}(hh:A.handled=none)(G:s.heap.IsList l (intItems Z)\/s.heap.IsTuple l (intItems Z))(Pb:0<Z.size)
 (h:∀v U R,(intItems Z)[argBest (λi j=>decide (numAt Z i<numAt Z j)) (Z.size-1)]?=some v->(∀b o,s.heap.get? b=some o->U.get? b=some o)->Q v { s with heap:=U,toks:=R }) :
 wpAny (model prog w) A (call (.builtin "min") [.ref l]) Q E s:=by
 rcases G with G|G
 .exact min_intList hh G Pb h
 .have Iu:l<s.heap.objs.size:=by obtain⟨_,e,_⟩:=G;exact bf e
  refine call_min_walk (o5 G ⟨_,_,_,_,_,_,_,rfl,Walks.tuple (A:=A.in1) hh _ l (ie Iu) (intItems Z),⟨⟨_,bu _ rfl,rfl,rfl⟩,G.at λo e=>aq _ e⟩,al7 Iu,by simpa[intItems] using Pb,CmpOf.ints_lt (numAt Z) (λ_ _=>intItems_at),λv U R hP hk=>?_⟩);exact h v U R (by simpa[intItems] using hP) (Xd hk)
def a3n(hc:X.calm=true):Br X (.builtin "max") (rB nm X.K .max):=λZ s σ H vs us Q I Nu hh=>by
 obtain⟨ι,M,ds,d,M',S,r,e,q⟩:=hh;obtain⟨rfl,⟨i,j,rfl,rfl⟩|⟨x,xs,n,l,m,⟨rfl,e1,e2,U,rfl⟩|U⟩⟩:=abi (h:=MW.air) e
 .cases afz r
  exact aha hc Z s σ H _ us Q I Nu ⟨i,j,rfl,q ι H _ (Le.refl _ _) S (.int _)⟩
 .obtain⟨a,xa,rfl,pl,g2,Pb⟩:=af0 I S r Nu e1 e2
  refine aqo (I.ok.hd hc) pl Pb λw h' tk hw G=>?_
  obtain⟨t,rfl⟩:=intItems_at hw;obtain⟨b1,b2⟩:=argBest_gt (numAt xa) (xa.size-1);obtain⟨c1,c2⟩:=best (R:=(·<=·)) g2 (by omega) λi hi=>b2 i (by lia)
  cases U;rw[abg l n _ c1 (c2 n bx) λa h=>c2 a (bh _ h)] at q;exact⟨.int _,H,I.kept G,⟨t,rfl⟩,q ι H _ (Le.refl _ _) S (.int _)⟩
 .cases U
def O7(n d:Nat)(o:Option Int):HT.Ez n d o=MW.clip n d o:=by
 cases o with
 |none=>rfl
 |some i =>
  show(if i<0 then(i+(n:Int)).toNat else min i.toNat n)=(if 0<=i then min i.toNat n else(i+(n:Int)).toNat)
  by_cases h:i<0
  .rw[bz h,cj (by lia)]
  .rw[cj h,bz (by lia)]
def tO(nm:Nm)(W:Mg)(K:Fg)(o:OEx):TO:=fun σ H Q=>∃G ρ M d R,mj nm K G H M/\rm K G H ρ σ/\o.den W ρ M=.ok d R/\∀Z U,Le G H Z U->mj nm K Z U R->Q d U
def PO.weak(h:PO X e t)(w:∀G H Q,t' G H Q->t G H Q):PO X e t':=λZ s G H Q I q=>h Z s G H Q I (w G H Q q)
def PO.of(h:PO X e t)(w:∀σ H Q Z ρ M d U,mj nm X.K Z H M->rm X.K Z H ρ σ->o'.den W ρ M=.ok d U->(∀G H',Le Z H G H'->mj nm X.K G H' U->Q d H')->t σ H Q):PO X e (tO nm W X.K o'):=PO.weak h fun σ H Q z_=>by obtain⟨Z,ρ,M,d,U,S,R,e,q⟩:=z_;exact w σ H Q Z ρ M d U S R e q
def aqq:PO X none (tO nm W X.K .none):=PO.of ap2 λU H Q Z ρ M d G S R e q=>by rw[MW.Pu] at e;cases e;exact q Z H (Le.refl _ _) S
set_option tactic.hygienic true in
def aqr(C:PE X a (tE nm W X.K Y)):PO X (some a) (tO nm W X.K (.some Y)):=PO.of (ap3 C) fun σ H Q ι ρ M d L S R e q=>by rw[MW.Px] at e;obtain⟨x,M1,J,e⟩:=fu e;split at e<;>cases e;rename_i i;exact one S R J λZ U v le G u r=>by cases r;exact⟨i,rfl,q Z U le G⟩
set_option tactic.hygienic true in
def a3o(ha:PE X a (tE nm W X.K a'))(hl:PO X lo (tO nm W X.K qq))(hh:PO X hi (tO nm W X.K q0)):PE X (.Subscript a (.Slice lo hi none p2) pos) (tE nm W X.K (.cut a' qq q0)) :=
 PE.of (alf (SlR.or ap5 awu) ha hl hh) fun σ H Q ι ρ M d M' S R e q=>by
  rw[MW.Xm] at e;obtain⟨x,M1,e1,e⟩:=fu e;obtain⟨l,M2,e2,e⟩:=fu e;obtain⟨h,M3,e3,e⟩:=fu e;obtain⟨u,e5⟩:=ur e;subst e5;refine one S R e1 λq1 H1 v le S1 R1 r=>⟨q1,ρ,M1,l,M2,S1,R1,e2,λqk H2 zf S2=>⟨qk,ρ,M2,h,_,S2,R1.mono zf,e3,λU H3 Sq C=>?_⟩⟩
  have r3:=(r.mono zf).mono Sq;have fin:=λqv H' w W7 S' r'=>q qv H' w (((le.trans zf).trans Sq).trans W7) S' r'
  have lst:∀Z,MW.fj M' x=some Z->d=.vl (MW.Ec Z l h)->a1u X.K v l h H3 Q:=λZ hd ed=>by
   obtain⟨p,vs,rfl,L,J⟩:=ue C r3 hd;refine⟨p,vs,rfl,Ew.of L,λp' Y=>?_⟩;have:nj X.K U H3 (MW.Ec Z l h) (Rk vs l h):=by unfold MW.Ec Rk;rw[O7,O7,<- J.length];exact(J.drop _).take _
   obtain⟨S4,G,r4⟩:=Yx (X:=X) C Y this;subst ed;exact fin _ _ _ G S4 r4
  cases x with
  |tup Z =>
   right
   simp only[MW.Ef] at u;cases u;cases r3 with
   |@tup p _ vs L J =>
    have:nj X.K U H3 (MW.Ec Z l h) (Rk vs l h):=by unfold MW.Ec Rk;rw[O7,O7,<- J.length];exact(J.drop _).take _
    refine⟨p,vs,rfl,Ey.of L,λz1 z2=>?_,λp' Y=>?_⟩
    .have e:Rk vs l h=vs:=by
      unfold Rk;rw[z1,z2];simp
     rw[e] at this;exact fin _ _ _ (Le.refl _ _) C (.tup L this)
    .obtain⟨S4,G,r4⟩:=Js (X:=X) C Y this
     exact fin _ _ _ G S4 r4
  |_ =>
   left
   simp only[MW.Ef] at u;obtain⟨Z,hd,ed⟩:=bw.mp u;exact lst Z hd ed.symm
def a3p(hc:X.calm=true):Br X (.builtin "min") (rB nm X.K .min):=λZ s σ H vs us Q I Nu hh=>by
 obtain⟨ι,M,ds,d,M',S,r,e,q⟩:=hh;obtain⟨rfl,⟨i,j,rfl,rfl⟩|⟨x,xs,n,l,m,⟨rfl,e1,e2,U,rfl⟩|U⟩⟩:=abi (h:=MW.at5) e
 .cases afz r
  exact ahb hc Z s σ H _ us Q I Nu ⟨i,j,rfl,q ι H _ (Le.refl _ _) S (.int _)⟩
 .obtain⟨a,xa,rfl,pl,g2,Pb⟩:=af0 I S r Nu e1 e2
  refine aqp (I.ok.hd hc) pl Pb λw h' tk hw G=>?_
  obtain⟨t,rfl⟩:=intItems_at hw;obtain⟨b1,b2⟩:=argBest_lt (numAt xa) (xa.size-1);obtain⟨c1,c2⟩:=best (R:=λa b=>b<=a) g2 (by omega) λi hi=>b2 i (by lia)
  cases U;rw[abh l n _ c1 (c2 n bx) λa h=>c2 a (bh _ h)] at q;exact⟨.int _,H,I.kept G,⟨t,rfl⟩,q ι H _ (Le.refl _ _) S (.int _)⟩
 .cases U
def al8(K:Fg)(T:String):PySem.W.kitOne K (.type T) (.type T)=some true:=by unfold PySem.W.kitOne;rw[bz (by simp)]
def al9(hg:Gl X n)(hm:X.mg n=none)(hv:bootBuiltins n=some (.builtin "isinstance"))(hn:n≠"__name__")(Yq:(n==("__debug__" : Str))=false)(qk:Gl X tn)(qv:X.mg tn=none)(q2:bootBuiltins tn=some (.type "bool"))(q1:tn≠"__name__")(q0:(tn==("__debug__" : Str))=false)(ha:PE X a (tE nm W X.K a'))(he:starEach [a,.Name tn U] X.env=(false,eval a X.env)::starEach [.Name tn U] X.env)(qq:starEach [.Name tn U] X.env=(false,eval (.Name tn U) X.env)::starEach [] X.env)(Lp:(backTo pos (starEach [.Name tn U] X.env)).any (·.1)=false):PE X (.Call (.Name n p) [a,.Name tn U] [] pos) (tE nm W X.K (.blt .isBool (.cons a' .nil))):=by
 intro G s σ H Q I hh;obtain⟨ι,ρ,M,d,M',S,R,e,q⟩:=hh;rw[MW.Xn] at e;obtain⟨ds,M1,e1,e⟩:=fu e;rw[MW.Df] at e1;obtain⟨x,M2,e2,e1⟩:=fu e1;rw[MW.Et] at e1;cases e1;refine o4 (Jq I hg hm hv ?_ hn Yq);refine xg (Q:=EP X G σ Q) ?_ he Lp;rw[he];show wpAny _ _ (spliced ((false,eval a X.env)::backTo pos (starEach [.Name tn U] X.env))) _ _ s;refine Calls.spliced_cons (Bf (ha G s σ H (λv H1=>∃Z,Le ι H Z H1/\mj nm X.K Z H1 M1/\Rep X.K Z H1 x v) I ⟨ι,ρ,M,x,M1,S,R,e2,λZ H1 v le S1 r=>⟨Z,le,S1,r⟩⟩) λu s1 z_=>?_);obtain⟨v,H1,I1,r1,Z,le,S1,r⟩:=z_;rw[qq];show wpAny _ _ (spliced ((false,eval (.Name tn U) X.env)::backTo pos (starEach [] X.env))) _ _ s1;refine Calls.spliced_cons (Jq I1 qk qv q2 ?_ q1 q0);refine Calls.spliced_nil ?_;cases r with
 |bl b =>
  cases e;cases(show u=Value.bool b from r1);exact PySem.W.kia_one PySem.W.kitx_bool I1.kIn True.intro (al8 _ _) (λz=>nomatch z) λtk=>⟨.bl true,H1,I1.tok _,rfl,q Z H1 _ le S1 (.bl true)⟩
 |_=>cases e
end Sm
namespace EnT
open PySem PySem.Spec
open AutoSeq1 (wpAny_loadPart')
set_option tactic.hygienic true in
def ama(a:s.heap.IsTupleIter it t i)(b:s.heap.IsTuple t U)(e:U[i]?=some x)(q:∀G,G.IsTupleIter it t (i+1)->Heap.SameBut it s.heap G->Q x { s with heap:=G }):wpAny (model prog w) A (Builtin.SmallTypes.nextOf (.ref it)) Q E s:=by obtain⟨o,Y,L,Z⟩:=id a;obtain⟨R,C,u,S,J⟩:=b;unfold Builtin.SmallTypes.nextOf;refine aa (jh (name:=Str.ofString "__next__") a.typeIs q8 (jr q8 a.typeIs F.entry_tuple_iterator_next ?_ (F.args_tuple_iterator_next_1 _)));show wpAny _ _ (field (.ref it) 0 >>= _) _ _ s;refine aa (gm Y Z (x:=.ref t) rfl ?_);show wpAny _ _ (if(Value.ref t==Value.none)=true then _ else field (.ref it) 1 >>= _) _ _ s;rw[cj (show ¬((Value.ref t==Value.none)=true) by exact ir)];refine aa (gm Y Z (x:=.int i 0) rfl (aa (oh C J ?_)));simp only[jm,e];refine aa (uq Y Z (by simp) (aj ⟨x,rfl,aj (q _ ⟨_,j7 _ Y (Obj.isFreed_of_fields (qt Z _)),(Obj.cls_mapFields ..).trans L,?_⟩ (gj ..))⟩));rw[qt Z];simp[rawInt]
set_option tactic.hygienic true in
def aqs(J:A.handled=none)(a:s.heap.IsTupleIter it t i)(b:s.heap.IsTuple t C)(e:C[i]?=none)(q:∀Z x,Heap.ExtBut it s.heap Z->(∃o,Z.get? x=some o/\o.cls=.type "StopIteration")->E (.ref x) { s with heap:=Z }):wpAny (model prog w) A (Builtin.SmallTypes.nextOf (.ref it)) Q E s:=by obtain⟨o,G,o2,Y⟩:=id a;obtain⟨S,L,u,R,U⟩:=b;unfold Builtin.SmallTypes.nextOf;refine aa (jh (name:=Str.ofString "__next__") a.typeIs q8 (jr q8 a.typeIs F.entry_tuple_iterator_next ?_ (F.args_tuple_iterator_next_1 _)));show wpAny _ _ (field (.ref it) 0 >>= _) _ _ s;refine aa (gm G Y (x:=.ref t) rfl ?_);show wpAny _ _ (if(Value.ref t==Value.none)=true then _ else field (.ref it) 1 >>= _) _ _ s;rw[cj (show ¬((Value.ref t==Value.none)=true) by exact ir)];refine aa (gm G Y (x:=.int i 0) rfl (aa (oh L U ?_)));simp only[jm,e];refine aa (wpAny_rule (aa (uq G Y (by simp) ?_)));show wpAny _ _ (newExc (.type "StopIteration") [] >>= raiseNew) _ _ _;exact STb.Xh J λZ x k e=>q Z x (λb o n z=>k b o ((gj ..).extBut b o n z)) e
def Za(b:Bool)(h:Heap)(it a:Addr)(i:Nat):Prop:=cond b (h.IsTupleIter it a i) (h.IsListIter it a i)
def Zb(b:Bool)(h:Heap)(a:Addr)(Z:U1):Prop:=cond b (h.IsTuple a Z) (h.IsList a Z)
def Za.at(x:Za b h it a i)(k:∀o,h.get? it=some o->Z.get? it=some o):Za b Z it a i:=by
 cases b with
 |true=>obtain⟨o,e,r⟩:=x;exact⟨o,k o e,r⟩
 |false=>obtain⟨o,e,r⟩:=x;exact⟨o,k o e,r⟩
def Za.obj(x:Za b h it a i):∃o,h.get? it=some o/\∀v,o.data≠.cell v:=by
 cases b with
 |true=>obtain⟨o,e,c,d⟩:=x;exact⟨o,e,λv z=>by rw[d] at z;cases z⟩
 |false=>obtain⟨o,e,c,d⟩:=x;exact⟨o,e,λv z=>by rw[d] at z;cases z⟩
def Vd(a:Za b s.heap it t i)(c:Zb b s.heap t G)(e:G[i]?=some x)(q:∀Z,Za b Z it t (i+1)->Heap.SameBut it s.heap Z->Q x { s with heap:=Z }):wpAny (model prog w) A (Builtin.SmallTypes.nextOf (.ref it)) Q E s:=by
 cases b with
 |true=>exact ama a c e q|false=>exact wpAny_nextOf_list_item a c e q
def af1(G:A.handled=none)(a:Za b s.heap it t i)(c:Zb b s.heap t U)(e:U[i]?=none)(q:∀Z x,Heap.ExtBut it s.heap Z->(∃o,Z.get? x=some o/\o.cls=.type "StopIteration")->E (.ref x) { s with heap:=Z }):wpAny (model prog w) A (Builtin.SmallTypes.nextOf (.ref it)) Q E s:=by
 cases b with
 |true=>exact aqs G a c e q|false=>exact wpAny_nextOf_list_end G a c e q
def aqt{i:Nat}{Q:Y1}(he:IsEnum s.heap e it i old)(a:Za b s.heap it t i)(c:Zb b s.heap t xs)(ex:xs[i]?=some x)(ne:e≠it)(q:∀G,IsEnumOut G e it ((i:Int)+1) x s.heap.objs.size->Za b G it t (i+1)->G.get? s.heap.objs.size=some { cls:=.type "tuple",data:=.seq #[.int i s.toks,x] }->G.objs.size=s.heap.objs.size+1 ->
 (∀y o,y≠e->y≠it->s.heap.get? y=some o->G.get? y=some o)->Q (.ref s.heap.objs.size) { s with heap:=G,toks:=s.toks+1 }) :
 wpAny (model prog w) A (Builtin.«enumerate.__next__» ⟨[.ref e],[]⟩) (λfin s'=>∃v,fin=.done (.ret v)/\Q v s') E s:=by
 obtain⟨R,g,d,tk,os⟩:=s;show wpAny _ _ (field (.ref e) 2 >>= _) _ _ _;refine aa (gm he rfl (x:=.ref it) rfl (aa (Vd a c ex λh1 a1 s1=>?_)));have s1:Heap.SameBut it R h1:=s1;have e1:IsEnum h1 e it i old:=(s1.2 e ne).trans he;refine aa (gm e1 rfl (x:=rawInt i) rfl (aa (gm e1 rfl (x:=.none) rfl (aa (wpAny_mkInt ?_)))));show wpAny _ _ (setField (.ref e) 3 (rawInt ((i:Int)+1)) >>= _) _ _ ⟨h1,g,d,tk+1,os⟩;refine aa (jt e1 (by simp) λh2 e2 s2=>?_);have s2:Heap.SameBut e h1 h2:=s2;have e2:IsEnum h2 e it ((i:Int)+1) old:=e2;refine aa (jt e2 (by simp) λh3 e3 s3=>?_);have s3:Heap.SameBut e h2 h3:=s3;have e3:IsEnum h3 e it ((i:Int)+1) old:=e3;refine aa (wpAny_newTuple ?_);have n3:h3.objs.size=R.objs.size:=by rw[s3.1,s2.1,s1.1]
 obtain⟨Z,d4⟩:∃Z,Z=h3.push { cls:=.type "tuple",data:=.seq #[.int i tk,x] }:=⟨_,rfl⟩;have e4:IsEnum Z e it ((i:Int)+1) old:=by rw[d4];exact aq _ e3
 have t4:Z.get? R.objs.size=some { cls:=.type "tuple",data:=.seq #[.int i tk,x] }:=by rw[d4,<- n3];exact bu _ rfl
 have n4:Z.objs.size=R.objs.size+1:=by rw[d4,ju,n3]
 have k3:∀y o,y≠e->h1.get? y=some o->Z.get? y=some o:=λy o U z=>by rw[d4];exact aq _ (s3.extBut y o U (s2.extBut y o U z))
 have a4:Za b Z it t (i+1):=a1.at λo z=>k3 it o (kh ne) z
 have lt:e<R.objs.size:=bf he
 show wpAny _ _ (Builtin.SmallTypes.ownedTupleIsFree (.ref e) >>= _) _ _ ⟨h3.push _,g,d,tk+1,os⟩;rw[n3,<- d4];refine aa ?_;unfold Builtin.SmallTypes.ownedTupleIsFree;refine aa (gm e4 rfl (x:=.none) rfl (aj ?_));simp only[jk];refine aa (wpAny_rule (aa (gm e4 rfl (x:=old) rfl (aa (jt e4 (by simp) λh5 e5 s5=>?_)))));have s5:Heap.SameBut e Z h5:=s5;have e5:IsEnum h5 e it ((i:Int)+1) x:=e5;refine aa ?_;unfold Builtin.SmallTypes.ownedTupleHandOut;refine aa (jt e5 (by simp) λh6 e6 s6=>?_);have s6:Heap.SameBut e h5 h6:=s6;have e6:IsEnumOut h6 e it ((i:Int)+1) x R.objs.size:=e6;refine jt e6 (by simp) λh7 e7 s7=>?_
 have s7:Heap.SameBut e h6 h7:=s7;have k7:∀y o,y≠e->Z.get? y=some o->h7.get? y=some o:=λy o U z=>s7.extBut y o U (s6.extBut y o U (s5.extBut y o U z))
 exact aa (wpAny_letGo (aj ⟨_,rfl,q h7 e7 (a4.at λo z=>k7 it o (kh ne) z) (k7 _ _ (vy lt) t4) (by rw[s7.1,s6.1,s5.1,n4]) λy o y1 y2 z=>k7 y o y1 (k3 y o y1 (s1.extBut y o y2 z))⟩))
set_option tactic.hygienic true in
def aqu{i:Nat}(Y:IsEnum s.heap e it i old)(a:Za b s.heap it t i)(c:Zb b s.heap t R)(u:R[i]?=some x)(L:e≠it)(q:∀Z,IsEnumOut Z e it ((i:Int)+1) x s.heap.objs.size->Za b Z it t (i+1)->Z.get? s.heap.objs.size=some { cls:=.type "tuple",data:=.seq #[.int i s.toks,x] }->Z.objs.size=s.heap.objs.size+1 ->
 (∀y o,y≠e->y≠it->s.heap.get? y=some o->Z.get? y=some o)->Q (some (.ref s.heap.objs.size)) { s with heap:=Z,toks:=s.toks+1 }):wpAny (model prog w) A (pyNext (.ref e)) Q E s:=by
 have G:s.TypeIs (.ref e) "enumerate" := ⟨_,Y,rfl⟩;unfold pyNext;refine aa (wpAny_attempt (jh (name:=Str.ofString "__next__") G u6 (jr u6 G F.entry_enumerate_next ?_ (F.args_enumerate_next_1 _))));exact aqt Y a c u L λZ U J y3 C S=>aj (q Z U J y3 C S)
set_option tactic.hygienic true in
def aqv{i:Nat}(J:A.handled=none)(Y:IsEnum s.heap e it i old)(a:Za b s.heap it t i)(c:Zb b s.heap t U)(C:U[i]?=none)(q:∀Z,Heap.ExtBut it s.heap Z->Q none { s with heap:=Z }):wpAny (model prog w) A (pyNext (.ref e)) Q E s:=by have G:s.TypeIs (.ref e) "enumerate" := ⟨_,Y,rfl⟩;unfold pyNext;refine aa (wpAny_attempt (jh (name:=Str.ofString "__next__") G u6 (jr u6 G F.entry_enumerate_next ?_ (F.args_enumerate_next_1 _))));show wpAny _ _ (field (.ref e) 2 >>= _) _ _ _;refine aa (gm Y rfl (x:=.ref it) rfl (aa (af1 J a c C λZ z k z_=>?_)));obtain⟨o,L,R⟩:=z_;exact aa (qe (T := "StopIteration") (b:=true) ⟨o,L,R⟩ isSubtype_stop (aj (q _ k)))
set_option tactic.hygienic true in
def aqw(t:Addr)(xs:U1)(n:Nat)(Y:Option Addr)(C:Array (Option Value)) :
 Meets (Builtin.«enumerate.__new__» ⟨[.type "enumerate",.ref t],[]⟩) (λ_ R s=>s.heap.get? t=some { cls:=.type "tuple",dict:=Y,data:=.seq xs n,slots:=C } /\
  R (.ok (.ret (.ref (s.heap.push { cls:=.type "tuple_iterator",data:=.fields #[.ref t,.int 0 0] }).objs.size)))
   { s with heap:=(s.heap.push { cls:=.type "tuple_iterator",data:=.fields #[.ref t,.int 0 0] }).push { cls:=.type "enumerate",data:=.fields #[.none,.bool false,.ref s.heap.objs.size,rawInt 0,.none,.none] } }) :=
 .of_wp λprog w A R s h=>by
  obtain⟨J,g,d,L,U⟩:=s;obtain⟨Z,h⟩:=h;have S:=sub_enumerate;have G:Heap.IsTuple (Shared.heap ⟨J,g,d,L,U⟩) t xs:=⟨_,Z,rfl,n,rfl⟩
  wp_walk using wpAny_loadPart' Z
  refine wpAny_stack_any λu=>aj ?_
  split
  .rename_i c _ _ _ _ _
   cases(c==Value.type "enumerate")<;>(wp_walk using wpAny_loadPart' Z,o5 G)<;>exact⟨_,rfl,h⟩
  .wp_walk using wpAny_loadPart' Z,o5 G
   exact⟨_,rfl,h⟩
def amb(c:s.heap.IsTuple t xs)(q:∀Z,IsEnum Z (s.heap.objs.size+1) s.heap.objs.size 0 .none->Z.IsTupleIter s.heap.objs.size t 0->Z.objs.size=s.heap.objs.size+2 ->
 (∀y o,s.heap.get? y=some o->Z.get? y=some o)->Q (.ref (s.heap.objs.size+1)) { s with heap:=Z }):wpAny (model prog w) A (call (.type "enumerate") [.ref t]) Q E s:=by
 obtain⟨⟨c0,qq,dt,sl⟩,hl,R,n,U⟩:=c;have R:c0=.type "tuple" := R;have U:dt=.seq xs n:=U;subst R U;have G:(s.heap.push { cls:=.type "tuple_iterator",data:=.fields #[.ref t,.int 0 0] }).objs.size=s.heap.objs.size+1:=ju ..;refine callType_new F.called_enumerate (by decide) (F.typeCall_enumerate_1 _) (F.newCall_enumerate_1 _) (λobj=>F.args_object_init_2 obj _) F.entry_enumerate_new (aqw t xs n qq sl) ⟨hl,?_⟩;show _/\_;rw[G];have e1:IsEnum ((s.heap.push { cls:=.type "tuple_iterator",data:=.fields #[.ref t,.int 0 0] }).push { cls:=.type "enumerate",data:=.fields #[.none,.bool false,.ref s.heap.objs.size,rawInt 0,.none,.none] }) (s.heap.objs.size+1) s.heap.objs.size 0 .none:=by rw[<- G];exact bu _ rfl
 exact⟨⟨_,e1,rfl⟩,q _ e1 ⟨_,aq _ (bu _ rfl),rfl,rfl⟩ (by rw[ju,G]) λy o z=>aq _ (aq _ z)⟩
end EnT
namespace L2
open PySem PySem.Spec EnT
def Inv.Xe{ch:X1}(I:Inv X pins σ H s)(G:∀b∈ch,Rj X pins H b)(k:∀b o,b∉ch->s.heap.get? b=some o->h'.get? b=some o)(hn:s.heap.objs.size<=n)(new:Ay X.prog X.w (upd H n (.tup vs)) h' n (.tup vs)):Inv X pins σ (upd H n (.tup vs)) { s with heap:=h',toks:=t' }:=by
 have R:H n=none:=I.Am.fresh hn;have U:∀b u,H b=some u->b∉ch:=λb u e z=>by rw[(G b z).1] at e;cases e
 have qq:∀b o,s.heap.get? b=some o->b≠n:=λb o e=>ie (gw (bf e) hn)
 refine I.step (g':=s.gens) (d':=s.drawn) (ch:=ch) (λb hb=>⟨(G b hb).2.2.2.1,(G b hb).2.1,(G b hb).2.2.2.2.1,(G b hb).2.2.2.2.2⟩) (λb o _ _ Z e _=>k b o Z e) (λb o _ _ Z e _=>⟨o.slots,k b o Z e⟩) (λb o _ e n0=>by rw[lz (qq b o e)];exact n0)
  (λb o Z e=>⟨o,k b o Z e⟩) (λb xs e=>by rw[lz (n8 e R)];exact e) (λb o u e=>by rw[lz (n8 e R)];exact e) (λb ps e=>⟨#[],by rw[lz (n8 e R),e];simp⟩) (λm hm=>?_) (λb u e=>?_) I.bare
 .obtain⟨o,es,ep,ho,r⟩:=hm
  exact⟨o,es,ep,k _ o (λz=>(G _ z).2.1 rfl) ho,r⟩
 .by_cases z:b=n
  .subst z;rw[uf] at e;cases e;exact new
  .rw[lz z] at e
   refine(I.Am b u e).stay (λc v Z q=>k c v ?_ q) (λc q=>by rw[lz (n8 q R)];exact q) λc xs q=>by rw[lz (n8 q R)];exact q
   rcases Z with y|y
   .rw[y];exact U b u e
   .exact U c _ y
def Inv.af2{ch:X1}(I:Inv X pins σ H s)(G:∀b∈ch,Rj X pins H b)(k:∀b o,b∉ch->s.heap.get? b=some o->h'.get? b=some o):Inv X pins σ H { s with heap:=h',toks:=t' }:=by
 have U:∀b u,H b=some u->b∉ch:=λb u e z=>by rw[(G b z).1] at e;cases e
 refine I.step (g':=s.gens) (d':=s.drawn) (ch:=ch) (λb R=>⟨(G b R).2.2.2.1,(G b R).2.1,(G b R).2.2.2.2.1,(G b R).2.2.2.2.2⟩) (λb o _ _ Z e _=>k b o Z e) (λb o _ _ Z e _=>⟨o.slots,k b o Z e⟩) (λb o _ e n0=>n0)
  (λb o Z e=>⟨o,k b o Z e⟩) (λb xs e=>e) (λb o u e=>e) (λb ps e=>⟨#[],by rw[e];simp⟩) (λm hm=>?_) (λb u e=>?_) I.bare
 .obtain⟨o,es,ep,ho,r⟩:=hm
  exact⟨o,es,ep,k _ o (λz=>(G _ z).2.1 rfl) ho,r⟩
 .refine(I.Am b u e).stay (λc v Z q=>k c v ?_ q) (λ_ q=>q) λ_ _ q=>q
  rcases Z with y|y
  .rw[y];exact U b u e
  .exact U c _ y
def SqX(b:Bool)(K:Fg)(H:Hp)(a:Addr)(Z:List V):Prop:=cond b (Ey K H a Z) (Ew K H a Z)
def Inv.ado(I:Inv X pins σ H s)(h:SqX b X.K H a R):∃Z,Vals R Z/\Zb b s.heap a Z.toArray:=by
 cases b with
 |true=>obtain⟨Z,G,p,U⟩:=I.tuple h;exact⟨Z,G,show s.heap.IsTuple a Z.toArray from p⟩
 |false=>obtain⟨Z,G,p,U⟩:=I.list h;exact⟨Z,G,p.isList⟩
def Inv.abj(I:Inv X pins σ H s)(h:SqX b X.K H a Z)(g:SqX b X.K H a ys):Z=ys:=by
 cases b with
 |true=>exact I.Ws h g|false=>exact I.aar h g
def Ien(b:Bool)(K:Fg)(a:Addr):It :=
 ⟨λi H=>∃Z x,SqX b K H a Z/\Z[i]?=some x,λi H v G=>∃p x,v=.ref p/\H p=none/\G=upd H p (.tup [.int (i:Nat),x])/\∀Z,SqX b K H a Z->Z[i]?=some x,λi H=>∃Z,SqX b K H a Z/\Z.length<=i⟩
set_option tactic.hygienic true in
theorem aqx(a e it:Addr)(ne:e≠it):Turn P w K (.Tuple ts k0 pt) (Ien b K a) [e,it] e (λi h=>(∃Z,IsEnum h e it ((i:Nat):Int) Z)/\Za b h it a i) where
 mem:=by simp
 obj:=λi h U c Y=>by
  obtain⟨⟨Z,G⟩,J⟩:=U;rcases dg.mp Y with z|z
  .subst z;exact⟨_,G,λv z=>by cases z⟩
  .have z:c=it:=by simpa using z
   subst z;exact J.obj
 keep:=λi h h' U k=>by obtain⟨⟨Z,G⟩,J⟩:=U;exact⟨⟨Z,k e (by simp) _ G⟩,J.at λo z=>k it (by simp) o z⟩
 item:=by
  intro X hP hw hK Y i C s σ H E I R U hg;subst hP hw hK;obtain⟨xs,x,S,hx⟩:=hg;obtain⟨uv,rv,p⟩:=I.ado S;obtain⟨u,hu,ru⟩:=rv.get hx;obtain⟨⟨Z,G⟩,J⟩:=U;have lt:e<s.heap.objs.size:=bf G
  refine aqu G J p (x:=u) (by simpa using hu) ne λh1 o1 a1 t1 n1 k1=>⟨_,rfl,?_⟩
  refine wpAny_letOwnedTupleGo_enum o1 λh2 o2 L=>?_
  have L:Heap.SameBut e h1 h2:=L;have t2:h2.get? s.heap.objs.size=some { cls:=.type "tuple",data:=.seq #[.int i s.toks,u] }:=(L.2 _ (vy lt)).trans t1;refine⟨.ref s.heap.objs.size,upd H s.heap.objs.size (.tup [.int (i:Nat),x]),I.Xe (t':=s.toks+1) R (λc o Y z=>?_) (bc _) ⟨by show 2<=sizeLine;decide,[.int i s.toks,u],.cons ⟨s.toks,rfl⟩ (.cons ru .nil),⟨_,t2,rfl,_,rfl,rfl⟩⟩,rfl,
   ⟨_,x,rfl,I.Am.fresh (bc _),rfl,λys hy=>by rw[I.abj hy S];exact hx⟩,⟨⟨u,?_⟩,a1.at λo z=>L.extBut it o (kh ne) z⟩,λc Y=>?_⟩
  .have c1:c≠e:=λz=>Y (by simp[z])
   have c2:c≠it:=λz=>Y (by simp[z])
   exact L.extBut c o c1 (k1 c o c1 c2 z)
  .have q:((i+1:Nat):Int)=(i:Int)+1:=by push_cast;rfl
   rw[q];exact o2
  .have qq:c<s.heap.objs.size:=by
    rcases dg.mp Y with z|z
    .rw[z];exact lt
    .have z:c=it:=by simpa using z
     obtain⟨o,z2,_⟩:=J.obj;rw[z];exact bf z2
   rw[lz (ie qq)];exact(R c Y).1
 done:=by intro X hP hw hK Y i C s σ H E I R U hg;subst hP hw hK;obtain⟨xs,S,hx⟩:=hg;obtain⟨uv,rv,p⟩:=I.ado S;obtain⟨⟨Z,G⟩,J⟩:=U;have hl:=rv.length;refine aqv (I.ok.hd Y) G J p (by simp;exact a_ (g_ hl) hx) λh' eb=>⟨rfl,I.af2 (t':=s.toks) R λc o Y z=>eb c o (λy=>Y (by simp[y])) z⟩
 self:=λ_ _ _ _ _ U h=>by obtain⟨⟨Z,G⟩,J⟩:=U;exact wpAny_pyIter_enum G h
def a3r(hg:Gl X "enumerate")(hm:X.mg "enumerate" = none)(ha:PA X [a] ta)(hs:starEach [a] X.env=[(false,eval a X.env)]) :
 PI X (.Tuple ts k0 pt) (.Call (.Name "enumerate" p) [a] [] pos) (fun σ H R=>ta σ H λvs H1=>∃b q,vs=[.ref q]/\(∃xs,SqX b X.K H1 q xs)/\R (Ien b X.K q) H1):=by
 intro U s σ H R I h;refine PyProof.Rows.Call_ (Jq I hg hm (show bootBuiltins "enumerate" = some (.type "enumerate") by decide+kernel) (qy (Bf (ha pos U s σ H _ I h) λus Z ⟨vs,H1,I1,r1,q1⟩=>?_) hs rfl));obtain⟨b,q,rfl,⟨xs,hq⟩,hR⟩:=q1;cases r1 with
 |cons r rr =>
  cases rr;cases r;obtain⟨uv,rv,p⟩:=I1.ado hq;have fin:∀G,IsEnum G (Z.heap.objs.size+1) Z.heap.objs.size 0 .none->Za b G Z.heap.objs.size q 0->(∀y o,Z.heap.get? y=some o->G.get? y=some o) ->
   wpAny (model X.prog X.w) X.A (pyIter (.ref (Z.heap.objs.size+1))) (PIE X U σ (.Tuple ts k0 pt) R) X.xe { Z with heap:=G }:=λG e1 e2 kk=>by
   refine wpAny_pyIter_enum e1 ?_;refine⟨Z.heap.objs.size+1,[Z.heap.objs.size+1,Z.heap.objs.size],_,_,H1,rfl,I1.kept (t':=Z.toks) kk,aqx (b:=b) q _ _ (Nat.succ_ne_self _),⟨⟨.none,e1⟩,e2⟩,λc hc=>?_,hR⟩;have qq:Z.heap.objs.size<=c:=by
    rcases dg.mp hc with z|z
    .rw[z];exact n6 _
    .have z:c=Z.heap.objs.size:=by simpa using z
     rw[z];exact bc _
   exact I1.ag6 qq (I1.Am.fresh qq)
  cases b with
  |true=>exact amb p λG e1 e2 _ kk=>fin G e1 e2 kk
  |false=>exact call_enumerate_list p λG e1 e2 _ kk=>fin G e1 e2 kk
end L2
namespace EnT
open PySem PySem.Spec
noncomputable def tpN(Z:Zl):Obj:={ cls:=.type "tuple",data:=.seq Z.toArray }
structure ZN(b:Nat->Bool)(h0:Heap)(n:Nat)(ls:Y3)(f0:Value)(ov:Zl)(k d:Nat)(g:Heap):Prop where
 z:IsZip g (n+ls.length+2) (n+ls.length) (n+ls.length+1) f0
 o:g.get? (n+ls.length+1)=some (tpN ov)
 a:∀(j:Nat) l,ls[j]?=some l->Za (b l) g (n+j) l (if j<d then k+1 else k)
 low:∀c o,(c<n\/c=n+ls.length\/n+ls.length+2<c)->h0.get? c=some o->g.get? c=some o
def Zb.lt(x:Zb b h a Z):a<h.objs.size:=by
 cases b with
 |true=>obtain⟨o,c,_⟩:=x;exact bf c
 |false=>obtain⟨o,c,_⟩:=x;exact bf c
def Zb.at(x:Zb b h a xs)(e:∀o,h.get? a=some o->Z.get? a=some o):Zb b Z a xs:=by
 cases b with
 |true=>obtain⟨o,c,d⟩:=x;exact⟨o,e o c,d⟩
 |false=>obtain⟨o,c,d⟩:=x;exact⟨o,e o c,d⟩
def abl{Z:Y3}{j:Nat}(h:Z[j]?=some l):j<Z.length:=(ak.mp h).1
def ZN.sz(H:ZN b h0 n Z f0 G k d g)(e:Heap.ExtBut (n+Z.length+2) g g')(z:IsZip g' (n+Z.length+2) (n+Z.length) (n+Z.length+1) f1):ZN b h0 n Z f1 G k d g' :=
 ⟨z,e _ _ (by lia) H.o,λj l h=>(H.a j l h).at λo=>e _ o (by have:=abl h;lia),λc o U z=>e _ _ (by lia) (H.low c o U z)⟩
def ZN.so(H:ZN b h0 n Z f0 R k d g)(e:Heap.ExtBut (n+Z.length+1) g g')(z:g'.get? (n+Z.length+1)=some (tpN G)):ZN b h0 n Z f0 G k d g' :=
 ⟨e _ _ (by lia) H.z,z,λj l h=>(H.a j l h).at λo=>e _ o (by have:=abl h;lia),λc o U z=>e _ _ (by lia) (H.low c o U z)⟩
def ZN.sa(H:ZN b h0 n Z f0 G k d g)(R:d<Z.length)(e:Heap.ExtBut (n+d) g g')(z:∀l,Z[d]?=some l->Za (b l) g' (n+d) l (k+1)):ZN b h0 n Z f0 G k (d+1) g' :=
 ⟨e _ _ (by lia) H.z,e _ _ (by lia) H.o,λj l h=>by
  by_cases c:j=d
  .subst c;rw[bz (by lia)];exact z l h
  .have:=H.a j l h
   have i:(if j<d+1 then k+1 else k)=if j<d then k+1 else k:=by
    by_cases q:j<d
    .rw[bz q,bz (by lia)]
    .rw[cj q,cj (by lia)]
   rw[i];exact this.at λo=>e _ o (by lia),λc o U z=>e _ _ (by lia) (H.low c o U z)⟩
def ZN.up(H:ZN b h0 n G f0 Z k d g)(e:∀c o,g.get? c=some o->g'.get? c=some o):ZN b h0 n G f0 Z k d g' :=
 ⟨e _ _ H.z,e _ _ H.o,λj l h=>(H.a j l h).at (e _),λc o U z=>e _ _ (H.low c o U z)⟩
def ZN.nx(H:ZN b h0 n Z f0 G k Z.length g):ZN b h0 n Z f0 G (k+1) 0 g :=
 ⟨H.z,H.o,λj l h=>by have:=H.a j l h;rw[bz (abl h)] at this;exact this,H.low⟩
def af3{T:Addr}{Q:Unit->Shared->Prop}(G:U.length<=3)(hT:s.heap.get? T=some (tpN U))(h:∀Z,Z.get? T=some (tpN (U.set k x))->Heap.ExtBut T s.heap Z->Z.objs.size=s.heap.objs.size->Q () { s with heap:=Z }) :
 wpAny (model prog w) A (updateSeq T (·.setIfInBounds k x)) Q E s:=by
 have R:Heap.SameBut T s.heap (s.heap.update T (Obj.mapSeq (·.setIfInBounds k x))):=gj ..;refine wpAny_updateSeq hT rfl (h _ ?_ R.extBut R.1) (hz:=az (by simpa using G) (show 3<=sizeLine by decide)) (_hz':=az (by simpa using G) (show 3<=sizeLine+1 by decide));rw[j7 _ hT rfl];simp[Obj.mapSeq,tpN]
noncomputable def El(n m:Nat):List Value:=(List.range m).map λj=>.ref (n+j)
def af4(n m:Nat):(El n m).zipIdx=(List.range' 0 m).map λj=>(Value.ref (n+j),j):=by
 apply List.ext_getElem?;intro i;rw[wy]
 by_cases h:i<m
 .simp[El,h]
 .simp[El,h]
def At(b:Nat->Bool)(h:Heap)(G:Y3)(k:Nat)(Z:Zl):Prop:=Z.length=G.length/\∀(j:Nat) l,G[j]?=some l->∃U x,Zb (b l) h l U/\U[k]?=some x/\Z[j]?=some x
def aqy{n k:Nat}{Q:Y1}(Pb:Z≠[])(h3:Z.length<=3)(H:ZN b s.heap n Z .none G k 0 s.heap)(ho:G.length=Z.length)(hI:s.heap.get? (n+Z.length)=some (tpN (El n Z.length)))(hl:∀l∈Z,l<n)(ha:At b s.heap Z k vs)
 (hq:∀h',ZN b s.heap n Z (rawInt s.heap.objs.size) vs (k+1) 0 h'->h'.get? s.heap.objs.size=some (tpN vs)->Q (.ref s.heap.objs.size) { s with heap:=h' }) :
 wpAny (model prog w) A (Builtin.«zip.__next__» ⟨[.ref (n+Z.length+2)],[]⟩) (λfin s'=>∃v,fin=.done (.ret v)/\Q v s') E s:=by
 have hz:=H.z;have ne:(El n Z.length).toArray.isEmpty=false:=by cases Z with|nil=>exact absurd rfl Pb|cons a l=>simp[El]
 show wpAny _ _ (field (.ref (n+Z.length+2)) 2 >>= _) _ _ _;refine aa (gm hz rfl (x:=.bool false) rfl (aa (gm hz rfl (x:=.ref (n+Z.length)) rfl (aa (oh hI rfl ?_)))));simp only[ne,dj,jg];unfold Builtin.SmallTypes.ownedTupleIsFree;refine aa (aa (gm hz rfl (x:=.none) rfl (aj ?_)));simp only[jk];refine aa (wpAny_rule (aa (gm hz rfl (x:=.ref (n+Z.length+1)) rfl (aa (jt hz (by simp) λg1 z1 s1=>?_)))));have H1:=H.sz s1.extBut (f1:=.ellipsis) z1;refine aa (sr _ (λR bb s'=>bb=(none,())/\∃d G g,R=((List.range' d (Z.length-d)).map λj=>(Value.ref (n+j),j))/\d<=Z.length/\s'={ s with heap:=g }/\ZN b s.heap n Z .ellipsis G k d g/\G.length=Z.length/\(∀i,i<d->G[i]?=vs[i]?)/\g.objs.size=s.heap.objs.size) _ (λx R bb s' hI=>?_) (λbb s' hI=>?_) _ _ ⟨rfl,0,G,g1,?_,iy _,rfl,H1,ho,λi hi=>absurd hi (qi _),s1.1⟩)
 .obtain⟨rfl,d,G,g,e,U,rfl,H2,o2,v2,n2⟩:=hI
  have U:d<Z.length:=by
   rcases jo d Z.length with h|h
   .exact h
   .rw[Nat.sub_eq_zero_of_le h] at e;cases e
  obtain⟨c,hc⟩:∃c,Z.length-d=c+1:=⟨Z.length-d-1,by lia⟩;rw[hc,zq,di] at e;injection e with e1 e2
  subst e1 e2;obtain⟨l,el⟩:∃l,Z[d]?=some l:=⟨Z[d],by simp[U]⟩;obtain⟨xs,x,t1,t2,t3⟩:=ha.2 d l el;have i0:=H2.a d l el;rw[cj (o8 _)] at i0;have ll:=hl l (au el);refine aa (wpAny_onRaise (aa (Vd (s:={ s with heap:=g }) i0 (t1.at λo=>H2.low _ o (by lia)) t2 λg2 i2 s2=>aj ?_)));have H3:=H2.sa U s2.extBut λl' h=>by rw[el] at h;cases h;exact i2
  refine aa (oh H3.o rfl (aa (af3 (by rw[o2];exact h3) H3.o λg3 o3 s3 n3=>?_)));have H4:=H3.so s3 o3;refine aa (wpAny_letGo (aj ⟨rfl,d+1,G.set d x,g3,by rw[show Z.length-(d+1)=c by lia],U,rfl,H4,by rw[Ag,o2],λi hi=>?_,by rw[n3,show g2.objs.size=g.objs.size from s2.1,n2]⟩))
  by_cases z:i=d
  .subst z
   rw[ym (by lia),t3]
  .rw[uh (kh z)];exact v2 i (by lia)
 .obtain⟨rfl,d,G,g,e,U,rfl,H2,o2,v2,n2⟩:=hI
  have U:d=Z.length:=by
   rcases jo d Z.length with h|h
   .obtain⟨c,hc⟩:∃c,Z.length-d=c+1:=⟨Z.length-d-1,by lia⟩
    rw[hc,zq] at e;cases e
   .exact Nat.le_antisymm U h
  subst U;obtain rfl:G=vs:=by
   apply List.ext_getElem?;intro i;rcases jo i Z.length with h|h
   .exact v2 i h
   .rw[yt (by lia),yt (by rw[ha.1];exact h)]
  refine aa (oh H2.o rfl (aa (wpAny_newTuple ?_)));have H8:=H2.nx.up (g':=g.push (tpN G)) λc o e=>aq _ e
  refine aa ?_;unfold Builtin.SmallTypes.ownedTupleHandOut;refine aa (jt H8.z (by simp) λg9 z9 s9=>?_);have H9:=H8.sz s9.extBut (f1:=rawInt g.objs.size) z9;refine jt H9.z (by simp) λqv q1 q0=>?_
  have qq:=H9.sz q0.extBut (f1:=rawInt g.objs.size) q1;have zl:n+Z.length+2<g.objs.size:=bf H2.z
  have qk:qv.get? g.objs.size=some (tpN G):=q0.extBut _ _ (vy zl) (s9.extBut _ _ (vy zl) (bu _ rfl));refine aj ⟨_,rfl,?_⟩;show Q (.ref g.objs.size) _;rw[n2] at qq qk ⊢;exact hq qv qq qk
 .show(El n Z.length).zipIdx=_
  rw[af4];rfl
def axo{n k e:Nat}{Z:Y3}(hd:A.handled=none)(h0:Z[e]?=some l)(H:ZN b s.heap n Z .none U k 0 s.heap)(ho:U.length=Z.length)(h3:Z.length<=3)(hI:s.heap.get? (n+Z.length)=some (tpN (El n Z.length)))(hl:∀l∈Z,l<n)(c1:Zb (b l) s.heap l xs)(e1:xs[k]?=none)
 (ha:∀(j:Nat) a,j<e->Z[j]?=some a->∃xs x,Zb (b a) s.heap a xs/\xs[k]?=some x)
 (hE:∀h' e,(∀c o,(c<n\/n+Z.length+2<c)->s.heap.get? c=some o->h'.get? c=some o)->(∃o,h'.get? e=some o/\o.cls=.type "StopIteration")->E (.ref e) { s with heap:=h' }) :
 wpAny (model prog w) A (Builtin.«zip.__next__» ⟨[.ref (n+Z.length+2)],[]⟩) Q E s:=by
 have hz:=H.z;have qk:=abl h0;obtain⟨c,hc⟩:∃c,Z.length=c+1:=⟨Z.length-1,by lia⟩;have ne:(El n Z.length).toArray.isEmpty=false:=by rw[hc];simp[El]
 show wpAny _ _ (field (.ref (n+Z.length+2)) 2 >>= _) _ _ _;refine aa (gm hz rfl (x:=.bool false) rfl (aa (gm hz rfl (x:=.ref (n+Z.length)) rfl (aa (oh hI rfl ?_)))));simp only[ne,dj,jg];unfold Builtin.SmallTypes.ownedTupleIsFree;refine aa (aa (gm hz rfl (x:=.none) rfl (aj ?_)));simp only[jk];refine aa (wpAny_rule (aa (gm hz rfl (x:=.ref (n+Z.length+1)) rfl (aa (jt hz (by simp) λg1 z1 s1=>?_)))));have H1:=H.sz s1.extBut (f1:=.ellipsis) z1;refine aa (sr _ (λG bb s'=>bb=(none,())/\∃d U g,G=((List.range' d (Z.length-d)).map λj=>(Value.ref (n+j),j))/\d<=e/\s'={ s with heap:=g }/\ZN b s.heap n Z .ellipsis U k d g/\U.length=Z.length/\∀c o,(c<n\/n+Z.length+2<c)->s.heap.get? c=some o->g.get? c=some o) _ (λx G bb s' hI=>?_) (λbb s' hI=>?_) _ _ ⟨rfl,0,U,g1,?_,iy _,rfl,H1,ho,λc o y z=>s1.extBut _ _ (by lia) z⟩)
 .obtain⟨rfl,d,U,g,q,qq,rfl,R,o2,v2⟩:=hI
  obtain⟨c,hc⟩:∃c,Z.length-d=c+1:=⟨Z.length-d-1,by lia⟩;rw[hc,zq,di] at q;injection q with q1 q2
  subst q1 q2;obtain⟨a,el⟩:∃a,Z[d]?=some a:=⟨Z[d],by simp[show d<Z.length by lia]⟩;have i0:=R.a d a el;rw[cj (o8 _)] at i0;have ll:=hl a (au el);rcases jo d e with hde|hde
  .obtain⟨ys,x,t1,t2⟩:=ha d a hde el
   refine aa (wpAny_onRaise (aa (Vd (s:={ s with heap:=g }) i0 (t1.at λo=>R.low _ o (by lia)) t2 λg2 i2 s2=>aj ?_)));have H3:=R.sa (show d<Z.length by lia) s2.extBut λl' h=>by rw[el] at h;cases h;exact i2
   refine aa (oh H3.o rfl (aa (af3 (by rw[o2];exact h3) H3.o λg3 o3 s3 n3=>?_)));have H4:=H3.so s3 o3;exact aa (wpAny_letGo (aj ⟨rfl,d+1,U.set d x,g3,by rw[show Z.length-(d+1)=c by lia],hde,rfl,H4,by rw[Ag,o2],λc o y z=>s3 _ _ (by lia) (s2.extBut _ _ (by lia) (v2 c o y z))⟩))
  .obtain rfl:d=e:=by lia
   rw[el] at h0;cases h0;refine aa (wpAny_onRaise (aa (af1 (s:={ s with heap:=g }) hd i0 (c1.at λo=>R.low _ o (by lia)) e1 λg2 x s2 z_=>?_)));obtain⟨o,o1,o2⟩:=z_;have z2:IsZip g2 (n+Z.length+2) (n+Z.length) (n+Z.length+1) .ellipsis:=s2 _ _ (by lia) R.z;have ne:x≠n+Z.length+2:=λy=>by subst y;rw[z2] at o1;cases o1;simp at o2
   exact jt z2 (by simp) λg3 _ s3=>hE g3 x (λc o y1 e=>s3.extBut _ _ (by lia) (s2 _ _ (by lia) (v2 c o y1 e))) ⟨o,s3.extBut _ _ ne o1,o2⟩
 .obtain⟨rfl,d,U,g,q,qq,rfl,R,o2,v2⟩:=hI
  obtain⟨c,hc⟩:∃c,Z.length-d=c+1:=⟨Z.length-d-1,by lia⟩;rw[hc,zq] at q;cases q
 .show(El n Z.length).zipIdx=_
  rw[af4];rfl
noncomputable def zI(b:Bool)(a:Addr):Obj:={ cls:=.type (cond b "tuple_iterator" "list_iterator"),data:=.fields #[.ref a,.int 0 0] }
def pI(b:Nat->Bool)(h:Heap)(Z:Y3):Heap:=Z.foldl (λh l=>h.push (zI (b l) l)) h
theorem Zc:∀(Z:Y3)(h:Heap),(pI b h Z).objs.size=h.objs.size+Z.length
 |[],h=>rfl
 |l::Z,h=>by
  have:=Zc (b:=b) Z (h.push (zI (b l) l));rw[ju] at this;rw[d9,<- Nat.add_assoc,Nat.add_right_comm];exact this
theorem af5:∀{ls:Y3}{h:Heap},h.get? c=some o->(pI b h ls).get? c=some o
 |[],_,e=>e|x::ls,h,e=>af5 (ls:=ls) (h:=h.push (zI (b x) x)) (aq _ e)
theorem amc:∀{ls:Y3}{h:Heap}{j:Nat},ls[j]?=some l->(pI b h ls).get? (h.objs.size+j)=some (zI (b l) l)
 |x::ls,h,0,e=>by cases e;exact af5 (ls:=ls) (h:=h.push (zI (b l) l)) (bu _ rfl)
 |x::ls,h,j+1,e=>by
  have:=amc (b:=b) (h:=h.push (zI (b x) x)) (ls:=ls) (j:=j) e;rw[ju] at this;rw[<- Nat.add_assoc,Nat.add_right_comm];exact this
def a3s(h:g.get? i=some (zI b l)):Za b g i l 0:=by
 cases b with
 |true=>exact⟨_,h,rfl,rfl⟩|false=>exact⟨_,h,rfl,rfl⟩
def axp{Q:Y1}(h:Zb b s.heap a Z)(q:Q (.ref s.heap.objs.size) { s with heap:=s.heap.push (zI b a) }):wpAny (model prog w) A (pyIter (.ref a)) Q E s:=by
 cases b with
 |true=>exact o5 h q|false=>exact wpAny_pyIter_list h q
def aqz{Q:List Value->Shared->Prop}(ht:∀l∈Z,∃xs,Zb (b l) s.heap l xs)(q:Q (El s.heap.objs.size Z.length) { s with heap:=pI b s.heap Z }):wpAny (model prog w) A (Builtin.SmallTypes.iterAll (Z.map .ref)) Q E s:=by
 unfold Builtin.SmallTypes.iterAll;refine aa (sr _ (λU uv R=>∃d,d<=Z.length/\U=(Z.drop d).map .ref/\uv=(El s.heap.objs.size d).toArray/\R={ s with heap:=pI b s.heap (Z.take d) }) _ (λx U bb R hI=>?_) (λbb R hI=>?_) _ _ ⟨0,iy _,rfl,rfl,rfl⟩)
 .obtain⟨d,G,e,rfl,rfl⟩:=hI
  have G:d<Z.length:=by
   rcases jo d Z.length with h|h
   .exact h
   .rw[yj h] at e;cases e
  rw[vo G,di] at e;injection e with e1 e2
  subst e1 e2;obtain⟨xs,hx⟩:=ht Z[d] (zm G);refine aa (je (axp (hx.at λo e=>af5 e) (aj ⟨d+1,G,rfl,?_,?_⟩)))
  .rw[Zc,List.length_take,wg (vq G)]
   simp[El,List.range_succ]
  .have:pI b s.heap (Z.take (d+1))=(pI b s.heap (Z.take d)).push (zI (b Z[d]) Z[d]):=by
    rw[vg,bj G,pI,List.foldl_append];rfl
   rw[this]
 .obtain⟨d,G,e,rfl,rfl⟩:=hI
  have G:d=Z.length:=by
   rcases jo d Z.length with h|h
   .rw[vo h] at e;cases e
   .exact Nat.le_antisymm G h
  subst G;rw[uc];exact aj (by simpa using q)
def zB(b:Nat->Bool)(h:Heap)(Z:Y3):Heap:=(pI b h Z).push (tpN (El h.objs.size Z.length))
def zC(b:Nat->Bool)(h:Heap)(Z:Y3):Heap:=(zB b h Z).push (tpN ((El h.objs.size Z.length).map λ_=>.none))
def zD(b:Nat->Bool)(h:Heap)(Z:Y3):Heap:=(zC b h Z).push { cls:=.type "zip",data:=.fields #[.none,.bool false,.bool false,.ref (pI b h Z).objs.size,.ref (zB b h Z).objs.size] }
def amd(h3:Z.length<=3) :
 Meets (Builtin.«zip.__new__» ⟨.type "zip"::Z.map .ref,[]⟩) (λ_ R s=>(∀l∈Z,∃xs,Zb (b l) s.heap l xs)/\R (.ok (.ret (.ref (zC b s.heap Z).objs.size))) { s with heap:=zD b s.heap Z }) :=
 .of_wp λprog w A R s h=>by
  obtain⟨G,g,d,tk,U⟩:=s;obtain⟨ht,h⟩:=h;have Zx:=sub_zip;have f1:∀{Q:List Value->Shared->Prop}{A E},Q (El G.objs.size Z.length) ⟨pI b G Z,g,d,tk,U⟩->wpAny (model prog w) A (Builtin.SmallTypes.iterAll (Z.map .ref)) Q E ⟨G,g,d,tk,U⟩:=λq=>aqz ht q
  have sz:∀(xs:Zl),xs.length<=3->xs.toArray.size<=sizeLine:=λxs h=>az (by simpa using h) (show 3<=sizeLine by decide)
  have f2:∀{Q:Y1}{A E}{h:Heap},Q (.ref h.objs.size) ⟨h.push (tpN (El G.objs.size Z.length)),g,d,tk,U⟩->wpAny (model prog w) A (newTuple (El G.objs.size Z.length)) Q E ⟨h,g,d,tk,U⟩:=λq=>wpAny_newTuple q (sz _ (by simpa[El] using h3))
  have f3:∀{Q:Y1}{A E}{h:Heap},Q (.ref h.objs.size) ⟨h.push (tpN ((El G.objs.size Z.length).map λ_=>.none)),g,d,tk,U⟩->wpAny (model prog w) A (newTuple ((El G.objs.size Z.length).map λ_=>.none)) Q E ⟨h,g,d,tk,U⟩:=λq=>wpAny_newTuple q (sz _ (by simpa[El] using h3))
  wp_walk using f1,f2,f3
  exact⟨_,rfl,h⟩
def aq0{n:Nat}(h3:Z.length<=3)(U:s.heap.objs.size=n)(ct:checkTypeCall "zip" ⟨Z.map .ref,[]⟩=pure ())(cb:checkBuiltinCall "zip.__new__" ⟨.type "zip"::Z.map .ref,[]⟩=pure ())(ca:∀obj,argsOk "object.__init__" ⟨obj::Z.map .ref,[]⟩)(ht:∀l∈Z,∃xs,Zb (b l) s.heap l xs)
 (h:∀G,ZN b G n Z .none ((El n Z.length).map λ_=>.none) 0 0 G->G.get? (n+Z.length)=some (tpN (El n Z.length))->(∀c o,s.heap.get? c=some o->G.get? c=some o)->Q (.ref (n+Z.length+2)) { s with heap:=G }):wpAny (model prog w) A (call (.type "zip") (Z.map .ref)) Q E s:=by
 refine callType_new F.called_zip (by decide) ct cb ca F.entry_zip_new (amd h3) ⟨ht,?_⟩;have R:(pI b s.heap Z).objs.size=n+Z.length:=by rw[Zc,U]
 have z4:(zB b s.heap Z).objs.size=n+Z.length+1:=by unfold zB;rw[ju,R]
 have z5:(zC b s.heap Z).objs.size=n+Z.length+2:=by unfold zC;rw[ju,z4]
 have up:∀{h:Heap}{o':Obj}{c:Addr}{o:Obj},h.get? c=some o->(h.push o').get? c=some o:=λe=>aq _ e
 have g6:(zD b s.heap Z).get? (zC b s.heap Z).objs.size=some _:=bu _ rfl;have g5:(zD b s.heap Z).get? (zB b s.heap Z).objs.size=some _:=up (bu _ rfl);have g4:(zD b s.heap Z).get? (pI b s.heap Z).objs.size=some _:=up (up (bu _ rfl));rw[R,z4,z5] at g6;rw[z4,U] at g5;rw[R,U] at g4;show _/\_;rw[z5];exact⟨⟨_,g6,rfl⟩,h _ ⟨g6,g5,λj l e=>a3s (up (up (up (by rw[<- U];exact amc e)))),λ_ _ _ e=>e⟩ g4 λc o e=>up (up (up (af5 e)))⟩
theorem ahu:∀Z:List Value,Z.length=2->checkTypeCall "zip" ⟨Z,[]⟩=pure ()/\checkBuiltinCall "zip.__new__" ⟨.type "zip"::Z,[]⟩=pure ()/\∀obj,argsOk "object.__init__" ⟨obj::Z,[]⟩
 |[a,b],_=>⟨F.typeCall_zip_2 _ _,F.newCall_zip_2 _ _,λobj=>F.args_object_init_3 obj _ _⟩
end EnT
namespace L2
open PySem PySem.Spec EnT
def IzN(b:Nat->Bool)(K:Fg)(G:X1):It :=
 ⟨λi H=>∃U:List V,U.length=G.length/\∀(j:Nat) a,G[j]?=some a->∃Z x,SqX (b a) K H a Z/\Z[i]?=some x/\U[j]?=some x,
  λi H v H'=>∃p U,v=.ref p/\H p=none/\H'=upd H p (.tup U)/\U.length=G.length/\∀(j:Nat) a Z,G[j]?=some a->SqX (b a) K H a Z->U[j]?=Z[i]?,
  λi H=>∃(e:Nat)(a:Addr)(Z:List V),G[e]?=some a/\SqX (b a) K H a Z/\Z.length<=i/\∀(j:Nat) a,j<e->G[j]?=some a->∃R,SqX (b a) K H a R/\i<R.length⟩
def TN(b:Nat->Bool)(n:Nat)(Z:X1)(i:Nat)(h:Heap):Prop:=(∃G,ZN b h n Z .none G i 0 h/\G.length=Z.length)/\h.get? (n+Z.length)=some (tpN (El n Z.length))
noncomputable def FN(n m:Nat):List Addr:=List.range' n (m+3)
def FN.mem{n m c:Nat}:c∈FN n m↔n<=c/\c<n+m+3:=List.mem_range'_1
theorem at_of(I:Inv X pins σ H s):∀{as:X1}{vs:List V},vs.length=as.length->(∀(j:Nat) a,as[j]?=some a->∃G x,SqX (b a) X.K H a G/\G[i]?=some x/\vs[j]?=some x)->∃Z,Vals vs Z/\At b s.heap as i Z
 |[],[],_,_=>⟨[],.nil,rfl,λj l h=>by simp at h⟩
 |a::as,v::vs,l,h=>by
  obtain⟨Z,r,e,q⟩:=at_of I (as:=as) (vs:=vs) (by simpa using l) (λj a e=>h (j+1) a e);obtain⟨G,x,q1,x1,hv⟩:=h 0 a rfl;cases hv;obtain⟨i1,r1,p1⟩:=I.ado q1;obtain⟨U,u1,w1⟩:=r1.get x1;refine⟨U::Z,.cons w1 r,by simp[e],λj l R=>?_⟩;cases j with
  |zero=>cases R;exact⟨i1.toArray,U,p1,by simpa using u1,rfl⟩|succ j=>exact q j l R
theorem aq1{n:Nat}(h3:G.length<=3)(Pb:G≠[])(hl:∀a∈G,a<n):Turn P w K (.Tuple ts k0 pt) (IzN b K G) (FN n G.length) (n+G.length+2) (TN b n G) where
 mem:=FN.mem.mpr (by lia)
 obj:=λi h R e U=>by
  obtain⟨⟨ov,H,_⟩,hI⟩:=R;obtain⟨c1,c2⟩:=FN.mem.mp U
  by_cases z:e<n+G.length
  .have q:e-n<G.length:=by lia
   have z:=(H.a (e-n) G[e-n] (by simp[q])).obj;rw[show n+(e-n)=e by lia] at z;exact z
  .rcases(show e=n+G.length\/e=n+G.length+1\/e=n+G.length+2 by lia) with rfl|rfl|rfl
   .exact⟨_,hI,λv z=>by cases z⟩
   .exact⟨_,H.o,λv z=>by cases z⟩
   .exact⟨_,H.z,λv z=>by cases z⟩
 keep:=λi h h' R k=>by
  obtain⟨⟨ov,H,l⟩,hI⟩:=R;have kk:∀d o,n<=d->d<n+G.length+3->h.get? d=some o->h'.get? d=some o:=λd o h1 h2=>k d (FN.mem.mpr ⟨h1,h2⟩) o
  exact⟨⟨ov,⟨kk _ _ (by lia) (by lia) H.z,kk _ _ (by lia) (by lia) H.o,λj l h=>(H.a j l h).at λo=>kk _ o (by lia) (by have:=abl h;lia),λ_ _ _ e=>e⟩,l⟩,kk _ _ (by lia) (by lia) hI⟩
 item:=by
  intro X hP hw hK U i qq s σ H E I hf R hg;subst hP hw hK;obtain⟨⟨ov,Z,lo⟩,hI⟩:=R;have lt:n+G.length+2<s.heap.objs.size:=bf Z.z
  obtain⟨vs,lv,hg⟩:=hg;obtain⟨us,r,ha⟩:=at_of I lv hg;have ty:s.TypeIs (.ref (n+G.length+2)) "zip" := ⟨_,Z.z,rfl⟩;unfold pyNext;refine aa (wpAny_attempt (jh (name:=Str.ofString "__next__") ty F.slot_zip_next (jr F.slot_zip_next ty F.entry_zip_next ?_ (F.args_zip_next_1 _))));refine aqy Pb h3 Z lo hI hl ha λh1 Z1 t1=>aj ⟨_,rfl,?_⟩
  refine wpAny_letOwnedTupleGo_zip Z1.z λh2 z2 s2=>?_
  have s2:Heap.SameBut (n+G.length+2) h1 h2:=s2;have Z2:=Z1.sz s2.extBut (f1:=.none) z2;have t2:h2.get? s.heap.objs.size=some (tpN us):=s2.extBut _ _ (vy lt) t1;refine⟨.ref s.heap.objs.size,upd H s.heap.objs.size (.tup vs),I.Xe (t':=s.toks) hf (λc o U zz=>Z2.low c o (by rw[FN.mem] at U;lia) zz) (bc _) ⟨by rw[lv];exact az h3 (show 3<=sizeLine by decide),us,r,⟨_,t2,rfl,_,rfl,rfl⟩⟩,rfl,
   ⟨_,vs,rfl,I.Am.fresh (bc _),rfl,lv,λj a ys ja hy=>?_⟩,⟨⟨us,⟨Z2.z,Z2.o,Z2.a,λ_ _ _ e=>e⟩,ha.1⟩,Z2.low _ _ (by lia) hI⟩,λc U=>?_⟩
  .obtain⟨xs,x,q1,q2,q3⟩:=hg j a ja
   rw[I.abj hy q1,q2,q3]
  .rw[FN.mem] at U
   rw[lz (by lia)];exact(hf c (FN.mem.mpr U)).1
 done:=by
  intro X hP hw hK U i qq s σ H E I hf R hg;subst hP hw hK;obtain⟨⟨ov,Z,lo⟩,hI⟩:=R;obtain⟨e,a,xs,a0,q1,x1,hj⟩:=hg;obtain⟨i1,r1,p1⟩:=I.ado q1;have q4:=r1.length;have ty:s.TypeIs (.ref (n+G.length+2)) "zip" := ⟨_,Z.z,rfl⟩;unfold pyNext;refine aa (wpAny_attempt (jh (name:=Str.ofString "__next__") ty F.slot_zip_next (jr F.slot_zip_next ty F.entry_zip_next ?_ (F.args_zip_next_1 _))));refine axo (I.ok.hd U) a0 Z lo h3 hI hl (xs:=i1.toArray) p1 (by simp;lia) (λj a' qk qv=>?_) λh' e k z_=>?_
  .obtain⟨ys,y1,y2⟩:=hj j a' qk qv
   obtain⟨i2,r2,p2⟩:=I.ado y1;have q0:=r2.length;exact⟨i2.toArray,i2[i]'(by lia),p2,by simp⟩
  obtain⟨o,o1,o2⟩:=z_;exact aa (qe (T := "StopIteration") (b:=true) ⟨o,o1,o2⟩ isSubtype_stop (aj ⟨rfl,I.af2 (t':=s.toks) hf λc o U zz=>k c o (by rw[FN.mem] at U;lia) zz⟩))
 self:=λ_ _ _ _ _ R h=>by obtain⟨⟨ov,Z,_⟩,_⟩:=R;exact wpAny_pyIter_zip Z.z h
theorem Xf:∀{Z:X1}{G:Zl},Vals (Z.map V.ref) G->G=Z.map Value.ref
 |[],_,h=>by cases h;rfl|_::_,_,h=>by cases h with|cons r t=>cases r;rw[Xf t];rfl
def a3t(hg:Gl X "zip")(hm:X.mg "zip" = none)(ha:PA X (a::es) ta)(hs:starEach (a::es) X.env=(false,eval a X.env)::starEach es X.env)(Lp:(backTo pos (starEach es X.env)).any (·.1)=false) :
 PI X (.Tuple ts k0 pt) (.Call (.Name "zip" p) (a::es) [] pos) (fun σ H R=>ta σ H λvs H1=>∃(b:Nat->Bool)(G:X1),vs=G.map V.ref/\G.length=2/\(∀q∈G,∃xs,SqX (b q) X.K H1 q xs)/\R (IzN b X.K G) H1):=by
 intro qq s σ H R I h;refine PyProof.Rows.Call_ (Jq I hg hm (show bootBuiltins "zip" = some (.type "zip") by decide+kernel) (qy (Bf (ha pos qq s σ H _ I h) λus s1 z=>?_) hs Lp));obtain⟨vs,H1,I1,r1,b,G,rfl,l,ht,hR⟩:=z;cases Xf r1;obtain⟨c1,c2,c3⟩:=ahu (G.map Value.ref) (by simpa using l);have h3:G.length<=3:=by lia
 have tp:∀q∈G,∃xs,Zb (b q) s1.heap q xs:=λq hq=>by obtain⟨xs,hx⟩:=ht q hq;obtain⟨i1,_,p1⟩:=I1.ado hx;exact⟨_,p1⟩
 refine aq0 h3 rfl c1 c2 c3 tp λh' Z hI kk=>wpAny_pyIter_zip Z.z ?_
 refine⟨s1.heap.objs.size+G.length+2,_,_,_,H1,rfl,I1.kept (t':=s1.toks) kk,aq1 h3 (λz=>by subst z;simp at l) λq hq=>by obtain⟨xs,e⟩:=tp q hq;exact e.lt,⟨⟨_,Z,by simp[El]⟩,hI⟩,λc hc=>?_,hR⟩;have U:=(FN.mem.mp hc).1;exact I1.ag6 U (I1.Am.fresh U)
end L2
namespace Sm
open PySem L2
open MW (Ex Eb OEx Nb Aj my Lv Tg Res du MO Mg Cp Op2 Blt Bm Kx Src)
def ahv{i:Nat}(h:(MW.Dj ds 0)[i]?=some d):∃z,ds[i]?=some z/\d=.tup [.int (i:Nat),z]:=by
 unfold MW.Dj at h;rw[iu,wy] at h;cases e:ds[i]? with
 |none=>rw[e] at h;simp at h|some z=>rw[e] at h;simp at h;exact⟨z,rfl,h.symm⟩
def af6{X:Cx}(r:nj X.K ι H ds U)(R:∀Z G,LeX ι H Z G->SqX bb X.K G q U):ahq nm X.K ι H (.con (MW.Dj ds 0)) (Ien bb X.K q):=λZ G M1 le S1=>by
 refine⟨λi d hi hd=>?_,λ_=>⟨U,R Z G le,?_⟩⟩
 .obtain⟨z,e1,rfl⟩:=ahv (show(MW.Dj ds 0)[i]?=some d from hd)
  obtain⟨v,g1,g2⟩:=(r.Hr le).get e1;refine⟨⟨U,v,R Z G le,g1⟩,λu H2 ⟨p,x,e2,e3,e4,e5⟩=>?_⟩;have ex:x=v:=by have:=e5 U (R Z G le);rw[g1] at this;cases this;rfl
  subst ex e2 e4;obtain⟨S2,zf,r2⟩:=Js (X:=X) S1 e3 (.cons (.int _) (.cons g2 .nil));exact⟨zf,S2,r2⟩
 .show U.length<=(MW.Dj ds 0).length
  rw[<- r.length];simp[MW.Dj]
def aq2{X:Cx}{n k:Nat}(S:mj nm X.K ι H M)(hM:M[n]?=some (.lst ds))(hn:ι.l[n]?=some q):ahq nm X.K ι H (.el n k) (Ien false X.K q):=λqq H1 R le S1=>by
 refine⟨λi d hi Z=>?_,λG=>?_⟩
 .have Z:(match R[n]? with|some (.lst ds)=>if ds.length=k then(ds[i]?).map λd=>.tup [.int i,d] else none|_=>none)=some d:=Z
  cases e:R[n]? with
  |none=>rw[e] at Z;cases Z
  |some o=>cases o with
   |lst U =>
    rw[e] at Z;have Z:(if U.length=k then(U[i]?).map λd=>MW.D.tup [.int i,d] else none)=some d:=Z
    by_cases hz:U.length=k
    .rw[bz hz] at Z
     obtain⟨z,e1,rfl⟩:=bw.mp Z;obtain⟨us,k1,k2⟩:=S1.obj n _ q e (le.get hn);obtain⟨v,g1,g2⟩:=k2.get e1;refine⟨⟨us,v,Ew.of k1,g1⟩,λu H2 ⟨p,x,e2,e3,e4,e5⟩=>?_⟩;have ex:x=v:=by have:=e5 us (Ew.of k1);rw[g1] at this;cases this;rfl
     subst ex e2 e4;obtain⟨S2,zf,r2⟩:=Js (X:=X) S1 e3 (.cons (.int _) (.cons g2 .nil));exact⟨zf,S2,r2⟩
    .rw[cj hz] at Z;cases Z
   |_=>rw[e] at Z;cases Z
 .have G:(match R[n]? with|some (.lst ds)=>ds.length==k|_=>false)=true:=G
  cases e:R[n]? with
  |none=>rw[e] at G;cases G
  |some o=>cases o with
   |lst U =>
    rw[e] at G;obtain⟨us,k1,k2⟩:=S1.obj n _ q e (le.get hn);exact⟨us,Ew.of k1,by rw[<- k2.length];exact f_ (show U.length=k by simpa using G)⟩
   |_=>rw[e] at G;cases G
def a3u(hg:Gl X "enumerate")(hm:X.mg "enumerate" = none)(ha:PE X a (tE nm W X.K a'))(Vp:noStar a=true):PI X (.Tuple ts k0 pt) (.Call (.Name "enumerate" pr) [a] [] pos) (tI nm W X.K (.enm a')):=by
 intro qq s0 σ H R' I hh;obtain⟨ι,ρ,M,s,M',S,R,e,q⟩:=hh;rw[MW.aeb] at e;obtain⟨x,M1,e1,e⟩:=fu e;refine PI.weak (a3r (ts:=ts) (k0:=k0) (pt:=pt) (p:=pr) (pos:=pos) hg hm (Yz ha afu (qz Vp _ _)) (qz Vp _ _)) (wi':=λU H0 R0=>U=σ/\H0=H/\R0=R') (λU H0 R0 ⟨z1,z2,z3⟩=>?_) qq s0 σ H R' I ⟨rfl,rfl,rfl⟩;subst z1 z2 z3;refine Vz (es':=.cons a' .nil) (ds:=[x]) (M1:=M1) S R (by rw[MW.Df,e1];simp) λZ H1 vs le G R1 r=>?_
 cases r with
 |cons r1 r2 =>
  cases r2;cases r1 with
  |@tup p ds us h1 rr =>
   cases e;exact⟨true,p,rfl,⟨us,Ey.of h1⟩,q Z H1 _ le G (af6 rr λqk H2 zf=>Ey.of (zf.tup _ _ h1))⟩
  |@vl p ds us h1 n1 rr =>
   cases e;exact⟨false,p,rfl,⟨us,Ew.of h1⟩,q Z H1 _ le G (af6 rr λqk H2 zf=>Ew.of (zf.lst _ _ n1.1 h1))⟩
  |@ref n p h1 =>
   have e:(match M1[n]? with|some (.lst ds)=>Res.ok (Src.el n ds.length) M1|_=>.bad)=.ok s M':=e;cases hM:M1[n]? with
   |none=>rw[hM] at e;cases e
   |some o=>cases o with
    |lst zs =>
     rw[hM] at e;cases e;obtain⟨us,k1,k2⟩:=G.obj n _ p hM h1;exact⟨false,p,rfl,⟨us,Ew.of k1⟩,q Z H1 _ le G (aq2 G hM h1)⟩
    |_=>rw[hM] at e;cases e
  |_=>cases e
def aq3:PS X st (tS nm W X.K .raise):=λZ s σ H D I G=>by obtain⟨ι,ρ,M,fl,U,M',S,R,e,q⟩:=G;rw[MW.aiz] at e;cases e
def ate(h:PE X a t):PE X (.BoolOp op [a] pos) t:=λZ s G H Q I q=>PyProof.Rows.BoolOp_one (h Z s G H Q I q)
def ame{X:Cx}{p q:Addr}{us vs:List V}(r1:nj X.K ι H U us)(r2:nj X.K ι H R vs)(h1:H p=some (.tup us))(h2:H q=some (.tup vs)):ahq nm X.K ι H (.con (MW.Ti U R)) (IzN (λ_=>true) X.K [p,q]):=λqq H1 M1 le S1=>by
 have k1:SqX true X.K H1 p us:=Ey.of (le.tup _ _ h1);have k2:SqX true X.K H1 q vs:=Ey.of (le.tup _ _ h2);have l1:=r1.length;have l2:=r2.length;refine⟨λi d hi hd=>?_,λ_=>?_⟩
 .have hd:((U.zip R).map λp=>MW.D.tup [p.1,p.2])[i]?=some d:=hd
  rw[iu] at hd;obtain⟨⟨x,y⟩,e,rfl⟩:=bw.mp hd;obtain⟨ex,ey⟩:=List.getElem?_zip_eq_some.mp e;obtain⟨u,g1,g2⟩:=(r1.Hr le).get ex;obtain⟨v,g3,g4⟩:=(r2.Hr le).get ey;refine⟨⟨[u,v],rfl,λj a Z=>?_⟩,λu' H2 z=>?_⟩
  .match j,Z with
   |0,Z=>cases Z;exact⟨us,u,k1,g1,rfl⟩|1,Z=>cases Z;exact⟨vs,v,k2,g3,rfl⟩
  .obtain⟨t,ws,rfl,e6,rfl,e8,e9⟩:=z
   have a1:=e9 0 p us rfl k1;have a2:=e9 1 q vs rfl k2
   match ws,e8,a1,a2 with
   |[w1,w2],_,a1,a2 =>
    rw[g1] at a1;rw[g3] at a2;cases a1;cases a2;obtain⟨S2,zf,r3⟩:=Js (X:=X) S1 e6 (.cons g2 (.cons g4 .nil));exact⟨zf,S2,r3⟩
 .have G:(Src.con (MW.Ti U R)).len=min U.length R.length:=by simp[Src.len,MW.Ti]
  rw[G];rcases jo R.length U.length with h|h
  .exact⟨1,q,vs,rfl,k2,by lia,λj a Z ha=>by
    have:j=0:=by lia
    subst this;cases ha;exact⟨us,k1,by lia⟩⟩
  .exact⟨0,p,us,rfl,k1,by lia,λj a Z=>absurd Z (qi _)⟩
def a3v(hg:Gl X "zip")(hm:X.mg "zip" = none)(ha:PA X (a::es) (Zr nm W X.K qq))(hs:starEach (a::es) X.env=(false,eval a X.env)::starEach es X.env)(Lp:(backTo pos (starEach es X.env)).any (·.1)=false) :
 PI X (.Tuple ts k0 pt) (.Call (.Name "zip" pr) (a::es) [] pos) (tI nm W X.K (.zip qq)):=by
 intro G s0 σ H R' I hh;obtain⟨ι,ρ,M,s,M',S,R,e,q⟩:=hh;rw[MW.Xo] at e;obtain⟨ds,N1,e1,e⟩:=fu e;obtain⟨xs,ys,rfl,rfl,rfl⟩:∃xs ys,ds=[.tup xs,.tup ys]/\s=.con (MW.Ti xs ys)/\M'=N1:=by
  unfold MW.at9 at e;split at e
  .cases e;exact⟨_,_,rfl,rfl,rfl⟩
  .cases e
 refine PI.weak (a3t (ts:=ts) (k0:=k0) (pt:=pt) (p:=pr) (pos:=pos) hg hm ha hs Lp) (wi':=λZ H0 R0=>Z=σ/\H0=H/\R0=R') (λZ H0 R0 z=>?_) G s0 σ H R' I ⟨rfl,rfl,rfl⟩;obtain⟨rfl,rfl,rfl⟩:=z;refine Vz S R e1 λqk H1 vs le S1 R1 U=>?_
 cases U with
 |cons r1 U=>cases U with
  |cons r2 U =>
   cases U;cases r1 with
   |@tup p1 _ us1 h1 l1=>cases r2 with
    |@tup p2 _ us2 h2 l2 =>
     refine⟨λ_=>true,[p1,p2],rfl,rfl,λa ha=>?_,q qk H1 _ le S1 (ame l1 l2 h1 h2)⟩;simp only[dg,vd,or_false] at ha;rcases ha with rfl|rfl
     .exact⟨_,Ey.of h1⟩
     .exact⟨_,Ey.of h2⟩
theorem abm:∀{Z:List Dv}{b:Bool},MW.allB Z=some b->∃bs:List Bool,Z=bs.map MW.D.bl/\b=bs.all id
 |[],b,e=>by cases e;exact⟨[],rfl,rfl⟩
 |.bl k::r,b,e=>by
  obtain⟨c,G,rfl⟩:=bw.mp (show(MW.allB r).map (k&&·)=some b from e);obtain⟨bs,rfl,rfl⟩:=abm G;exact⟨k::bs,rfl,by simp⟩
theorem Xg{R:Io}{H:Hp}{K:Fg}:∀{bs:List Bool}{Z:List V}{is:Zl},nj K R H (bs.map MW.D.bl) Z->Vals Z is->is=bs.map Value.bool
 |[],_,_,r,h=>by cases r;cases h;rfl
 |k::bs,_,_,r,h=>by
  cases r with
  |cons U G =>
   cases h with
   |cons h1 h2 =>
    cases U;cases h1;rw[Xg G h2];rfl
def a3w(hc:X.calm=true):Br X (.builtin "all") (rB nm X.K .all):=λqk s σ H vs us Q I Nu hh=>by
 obtain⟨ι,M,ds,d,M',S,r,e,q⟩:=hh;obtain⟨x,rfl,e⟩:∃x,ds=[x]/\Res.rn (((MW.fj M x).bind MW.allB).map MW.D.bl) M=.ok d M':=by
  cases ds with
  |nil=>cases e
  |cons x l=>cases l with
   |nil=>exact⟨x,rfl,e⟩|cons _ _=>cases e
 obtain⟨e1,rfl⟩:=ur e;obtain⟨b,e2,rfl⟩:=bw.mp e1;obtain⟨xs,e3,e4⟩:=jb.mp e2;obtain⟨bs,rfl,rfl⟩:=abm e4;obtain⟨v,rfl,rv⟩:=O5 r rfl;obtain⟨u,rfl,ru⟩:=adn Nu;obtain⟨p,ws,rfl,hp,rl⟩:=ue S rv e3;cases ru;obtain⟨is,qq,pl,_⟩:=I.list (Ew.of hp);have Z:=Xg rl qq;have Iu:p<s.heap.objs.size:=by obtain⟨_,e,_⟩:=pl.isList;exact bf e
 refine call_all_walk (wpAny_pyIter_list pl.isList ?_);refine⟨_,_,_,_,_,_,λi=>bs.getD i true,rfl,Walks.list (A:=X.A.in1) (I.ok.hd hc) s.heap.objs.size p (ie Iu) is.toArray,⟨⟨_,bu _ rfl,rfl,rfl⟩,pl.isList.push _⟩,λi v s Q E hP R=>?_,λh' tk G=>?_⟩
 .have hv:is[i]?=some v:=by simpa using hP
  rw[Z,iu] at hv;obtain⟨k,G,rfl⟩:=bw.mp hv;refine jy ?_;have R:Q (bs.getD i true) s:=R;rw[vf,G] at R;exact R
 .have ha:(List.range is.toArray.size).all (λi=>bs.getD i true)=bs.all id:=by
   rw[Z];simp only[fc,dh];rw[yp,qw,qw];constructor
   .intro h k G
    obtain⟨i,hi,rfl⟩:=xu G;have:=h i (lq.mpr hi);simpa[vf,hi] using this
   .intro h i hi
    have U:=lq.mp hi;have:=h bs[i] (zm U);simpa[vf,U] using this
  rw[ha];exact⟨.bl _,H,I.kept (t':=tk) (old_kept G),rfl,q ι H _ (Le.refl _ _) S (.bl _)⟩
def aq4{prog:Program}{w:World}{κ:Type}[DecidableEq κ]{Z:HeapKind prog w κ}{A:Around}{E:Y1}{s:Shared}{d a:Addr}{R:List (κ×Addr×Value)}{k:κ}{v:Value}{Q:Y1}(hu:Z.room A)(G:Z.is s.heap k a)(hm:s.heap.DictOfH Z d R)(hz:R.length<=sizeLine)
 (h1:∀p,atKey R k=some p->Q p.2 { s with toks:=s.toks+Z.draws k })
 (h2:atKey R k=none->∀h',h'.DictOfH Z d (R++[(k,a,v)])->Heap.SameBut d s.heap h'->Q v { s with heap:=h',toks:=s.toks+Z.draws k }) :
 wpAny (model prog w) A (dictSetDefault d (.ref a) v) Q E s:=by
 obtain⟨o,es,ep,c1,c2,U,c4,c5,c6⟩:=hm;unfold dictSetDefault;refine je (aa (Z.pyHash hu G (aa (wpAny_dictFind_heap (s:={ s with toks:=s.toks+Z.draws k }) hu G c1 U c4 c5 c6 (λno=>?_) λj p hj=>?_))))
 .have z:=h2 (atKey_none_of_get no)
  have nk:=not_mem_keys_of_get no;have hs:=size_of_entries c4;have sb:Heap.SameBut d s.heap (s.heap.update d (Obj.mapDictKeys (·.push ⟨Z.hash k,.ref a,v⟩))):=gj ..;have kp:∀{x:κ}{b:Addr},Z.is s.heap x b->Z.is (s.heap.update d (Obj.mapDictKeys (·.push ⟨Z.hash k,.ref a,v⟩))) x b:=λq=>Z.keeps q c1 U sb
  refine aa (wpAny_rule (aa (wpAny_updateDictKeys (hz:=by lia) (s:={ s with toks:=s.toks+Z.draws k }) c1 U (aj (z _ ⟨_,_,ep+1,j7 _ c1 (Obj.isFreed_of_dict (Obj.data_mapDictKeys U _)),c2.mapDictKeys _,Obj.data_mapDictKeys U _,by simp[c4,entryOfKey],λx hx=>?_,?_⟩ sb)))))
  .rcases cz.mp hx with q|q
   .exact kp (c5 x q)
   .cases ou.mp q;exact kp G
  .rw[gh]
   exact nu.mpr ⟨c6,by simp,λx hx y hy e=>nk (by cases ou.mp hy;rw[show x=k from e] at hx;exact hx)⟩
 .have z:=h1 p (atKey_of_get c6 hj)
  refine aa (ux (s:={ s with toks:=s.toks+Z.draws k }) c1 U ?_);rw[entry_at c4 j,hj];exact aa (wpAny_rule (aj z))
def adp{prog:Program}{w:World}{κ:Type}[DecidableEq κ](Z:HeapKind prog w κ)(d a:Addr)(hd:(d==sysModules)=false)(v:Value) :
 MeetsIn prog w (Builtin.«dict.setdefault» ⟨[.ref d,.ref a,v],[]⟩) (λA R s=>Z.room A.in1/\∃k G,Z.is s.heap k a/\s.heap.DictOfH Z d G/\G.length<=sizeLine /\
  (∀p,atKey G k=some p->R (.ok (.ret p.2)) { s with toks:=s.toks+Z.draws k }) /\
  (atKey G k=none->∀U,U.DictOfH Z d (G++[(k,a,v)])->Heap.SameBut d s.heap U->R (.ok (.ret v)) { s with heap:=U,toks:=s.toks+Z.draws k })) :=
 .of_wp λA R s h=>by obtain⟨hu,k,G,hk,hm,hz,h1,h2⟩:=h;refine aa (aa (wpAny_notOrdered_dict hm.typeIs (?_:wpAny _ _ (pure (d,Value.ref a,some v)) _ _ s)));refine aj (?_:wpAny _ _ (if(d==sysModules)=true then _ else(dictSetDefault d (.ref a) v >>= _)) _ _ s);rw[hd];exact aa (aq4 hu hk hm hz (λp q=>aj ⟨_,rfl,h1 p q⟩) λq U m sb=>aj ⟨_,rfl,h2 q U m sb⟩)
def af7(h:MW.onT o M f=.ok d M'):∃n Z,o=.ref n/\M[n]?=some (.dT Z)/\f n Z=.ok d M':=by
 cases o with
 |ref n =>
  simp only[MW.onT] at h;cases e:M[n]? with
  |none=>rw[e] at h;cases h
  |some o=>cases o with
   |dT Z=>rw[e] at h;exact⟨n,Z,rfl,e,h⟩|_=>rw[e] at h;cases h
 |_=>cases h
def amf(e:MW.Hs .setdefault x ds M=.ok d R):∃n k U G q,x=.ref n/\ds=[k,U]/\M[n]?=some (.dT G)/\MW.Nx k=some q/\((MW.Eh G q=some d/\R=M)\/(MW.Eh G q=none/\G.length<100000/\d=U/\R=M.set n (.dT (G++[(q,U)])))):=by
 obtain⟨n,G,rfl,hM,Z⟩:=af7 e
 match ds,Z with
 |[k,U],Z =>
  cases hk:MW.Nx k with
  |none=>simp only[hk] at Z;cases Z
  |some q =>
   simp only[hk] at Z;refine⟨n,k,U,G,q,rfl,rfl,hM,hk,?_⟩;cases hl:MW.Eh G q with
   |some v=>simp only[hl] at Z;cases Z;exact .inl ⟨rfl,rfl⟩
   |none =>
    simp only[hl] at Z;obtain⟨h1,h2⟩:=Y9 Z;cases h2;exact .inr ⟨rfl,h1,rfl,rfl⟩
 |[],Z=>cases Z|[_],Z=>cases Z|_::_::_::_,Z=>cases Z
set_option tactic.hygienic true in
def ty_dict{X:Cx}(S:mj nm X.K Z H M)(r:Rep X.K Z H x v)(h:MW.Pn .setdefault x M=true):tyV X.K "dict" v H:=by
 cases r with
 |@ref n p hp =>
  have h:(match M[n]? with|some (.dT _)=>true|_=>false)=true:=h;split at h
  .rename_i G
   obtain⟨l,Y,_⟩:=S.obj n _ p G hp;exact .inr (.inr (.inl ⟨rfl,.inr ⟨_,Y⟩⟩))
  .cases h
 |_=>cases h
def axq(hu:X.A.units+1<cLine):MtR X "dict.setdefault" (rM nm X.K .setdefault):=λq1 s σ H v vs u us Q I ru Nu hh=>by
 obtain⟨ι,M,x,ds,d,M',S,r,rs,e,q⟩:=hh;obtain⟨n,k,d0,o6,U,rfl,rfl,hM,hk,hd⟩:=amf e;cases rs with
 |cons rk rt=>cases rt with
  |cons rd rt =>
   cases rt;cases Nu with
   |cons qv G=>cases G with
    |cons qk G =>
     cases G;cases r with
     |@ref _ p ha =>
      cases ru;obtain⟨l,h1,h2⟩:=S.obj n _ _ hM ha;obtain⟨b,rfl,hb⟩:=Y0 rk hk;cases qv;obtain⟨z,qq,xs,R,dd⟩:=as4 I.Am h1;have q3:=Paired.length R;have Z:=R.val U;refine call_meetsIn PySem.F.slot_dict_setdefault dd.typeIs PySem.F.entry_dict_setdefault (PySem.F.args_dict_setdefault_3 _ _ _) (adp (tupleKind (Aw X.prog X.w)) p b qq _) ⟨tupleKind_room_in1 hu,U,xs,Uu I.Am hb,dd,by lia,λpp hp=>?_,λhn h' q0 sb=>?_⟩
      .rw[hp] at Z
       rcases hd with⟨g1,rfl⟩|⟨g1,_⟩
       .obtain⟨y,g2,g3⟩:=(h2.look (k:=U)).1 d g1
        rw[g2] at Z;exact⟨y,H,I.tok _,Z,q ι H _ (Le.refl _ _) S g3⟩
       .rw[(h2.look (k:=U)).2 g1] at Z
        exact(show False from Z).elim
      .rw[hn] at Z
       rcases hd with⟨g1,_⟩|⟨g1,g2,rfl,rfl⟩
       .obtain⟨y,g3,_⟩:=(h2.look (k:=U)).1 d g1
        rw[g3] at Z;exact(show False from Z).elim
       .obtain⟨S2,zf⟩:=S.put (u:=.dT (l++[(U,_)])) (o:=.dT (o6++[(U,_)])) hM ha λle=>⟨_,uf,(h2.mono le).snoc rfl (rd.mono le)⟩
        refine⟨_,_,?_,qk,q _ _ _ zf S2 (rd.mono zf)⟩;obtain⟨o,es,ep,f1,f2,f3,f4,_,f5⟩:=q0;have q2:=h2.length;refine Yr I (by rw[h1];trivial) sb ⟨o,f1⟩ ⟨by have:=O4 g2;simp;lia,qq,_,KT.keeps (Paired.snoc R ⟨rfl,hb,qk⟩) λc ys ec=>?_,o,es,ep,f1,f2,f3,f4,f5⟩;rw[lz (aap ec h1 (λz=>nomatch z))];exact ec
section
variable{prog:Program}{w:World}{A:Around}{E:Y1}{s:Shared}{it d:Addr}{i ep:Nat}{o:Obj}{es:Array DictEntry}{Q:Option Value->Shared->Prop}
def adq(Z:(d==sysModules)=false) :
 MeetsIn prog w (Builtin.«dict.values» ⟨[.ref d],[]⟩) (λ_ R s=>s.TypeIs (.ref d) "dict"/\R (.ok (.ret (.ref s.heap.objs.size))) { s with heap:=s.heap.push { cls:=.type "dict_values",data:=.fields #[.ref d] } }) :=
 .of_wp λA R s h=>by obtain⟨T,h⟩:=h;refine aa (aa (wpAny_notOrdered_dict T (?_:wpAny _ _ (pure d) _ _ s)));refine aj (?_:wpAny _ _ (Builtin.Dict.showsAll d >>= _) _ _ s);unfold Builtin.Dict.showsAll;rw[Z];exact aa (aj (aa (jx (aj ⟨_,rfl,h⟩))))
def ahw{v:Addr}{Q:Y1}(Z:s.heap.IsValuesView v d)(U:s.heap.get? d=some o)(G:o.data=.dict es ep)
 (h:Q (.ref s.heap.objs.size) { s with heap:=s.heap.push { cls:=.type "dict_valueiterator",data:=.fields #[.ref d,.int 0 0,.int es.size 0,.int ep 0] } }):wpAny (model prog w) A (pyIter (.ref v)) Q E s:=by
 obtain⟨ov,R,v2,v3⟩:=id Z;refine wpAny_pyIter_slot Z.typeIs PySem.F.slot_dict_values_iter (jr PySem.F.slot_dict_values_iter Z.typeIs PySem.F.entry_dict_values_iter ?_ (PySem.F.args_dict_values_iter_1 _));refine aa (aj (aa (aa (gm R v3 (x:=.ref d) rfl (aj (aa ?_))))));unfold Builtin.Dict_items.newIterator;refine aa (ux U G (aa (wpAny_dictEpoch U G ?_)));simp only[show Builtin.Dict_items.ownsTuple "dict_valueiterator" = false by decide,dj,jg];exact jx (aj ⟨_,rfl, "dict_valueiterator",_,⟨_,bu _ rfl,rfl⟩,ug.lookup,h⟩)
def abn(qq:s.heap.IsValIter it d i es.size ep)(ho:s.heap.get? d=some o)(hd:o.data=.dict es ep)
 (h1:∀U:i<es.size,∀Z,Z.IsValIter it d (i+1) es.size ep->Heap.SameBut it s.heap Z->Q (some es[i].val) { s with heap:=Z })
 (hh:A.handled=none) (h2:es.size<=i->∀Z,Heap.ExtBut it s.heap Z->Q none { s with heap:=Z }):wpAny (model prog w) A (pyNext (.ref it)) Q E s:=by
 have T:=qq.typeIs;obtain⟨oi,hi,hc,R⟩:=id qq;unfold pyNext;refine aa (wpAny_attempt (jh (name:=Str.ofString "__next__") T ug (jr ug T PySem.F.entry_dict_valueiterator_next ?_ (PySem.F.args_dict_valueiterator_next_1 _))));refine aa (aj (aa (aa (aa (uz T (aj (aa (wpAny_fieldsOf hi R ?_))))))));rw[show Builtin.Dict_items.ownsTuple "dict_valueiterator" = false by decide];refine(?_:wpAny _ _ (if(Value.ref d==Value.none)=true then _ else _) _ _ s);rw[cj (nofun:¬((Value.ref d==Value.none)=true))];refine aa (aj (aa (ux ho hd ?_)));rw[cj (by simp)];refine aa (aj (aa (wpAny_dictEpoch ho hd ?_)));rw[cj (by simp)];refine aj ?_;rcases jo i es.size with U|U
 .have G:(s.heap.update it (Obj.mapFields (·.setIfInBounds 1 (rawInt ((i:Int)+1))))).IsValIter it d (i+1) es.size ep :=
   ⟨_,j7 _ hi (Obj.isFreed_of_fields (qt R _)),(Obj.cls_mapFields ..).trans hc,by rw[qt R];simp[rawInt]⟩
  simp only[show ¬((i:Int)<0) by lia,jg,jm,vm U];refine aa (aa (uz T (aj (aa (wpAny_isOneOf_valiter T ?_)))));refine(?_:wpAny _ _ (setField (.ref it) 1 (rawInt ((i:Int)+1)) >>= _) _ _ s);refine aa (uq hi R (by simp) (aa (je (aa (wpAny_isOneOf_valiter (s:={ s with heap:=_ }) G.typeIs (aa (wpAny_isOneOf_valiter (s:={ s with heap:=_ }) G.typeIs ?_)))))));exact aj (aj ⟨_,rfl,aj (h1 U _ G (gj ..))⟩)
 .simp only[show ¬((i:Int)<0) by lia,jg,jm,Array.getElem?_eq_none U]
  refine aa (aa (uz T (aj ?_)));refine(?_:wpAny _ _ (setField (.ref it) 0 .none >>= _) _ _ s);refine aa (uq hi R (by simp) ?_);refine STb.Xh (show A.in1.handled=none from hh) λZ x k z_=>?_
  obtain⟨o,e1,e2⟩:=z_;exact aa (qe (T := "StopIteration") (b:=true) ⟨o,e1,e2⟩ isSubtype_stop (aj (h2 U _ λb o n z=>k b o ((gj ..).extBut b o n z))))
end
theorem atf{R U:Type}{F:R->U->Prop}{b:U}:∀{Z:List R}{G:List U}{i:Nat},Paired F Z G->G[i]?=some b->∃a,Z[i]?=some a/\F a b
 |_,_,0,.cons h _,e=>by cases e;exact⟨_,rfl,h⟩|_,_,i+1,.cons _ t,e=>atf (i:=i) t e
noncomputable def Itv(a:Addr)(o:Obj)(l:List (List Key×V)):It :=
 ⟨λi H=>H a=some (.Ih o (.dT l))/\i<l.length,λi H x Z=>Z=H/\∃p,l[i]?=some p/\x=p.2,λi H=>H a=some (.Ih o (.dT l))/\l.length<=i⟩
theorem ahy{es:Array DictEntry}{ep:Nat}{l:List (List Key×V)}(a it:Addr)(hd:o.data=.dict es ep)(hz:es.size=l.length):Turn P w K tg (Itv a o l) [it] it (λi h=>h.IsValIter it a i es.size ep) where
 mem:=by simp
 obj:=λi h Z b U=>by cases ou.mp U;obtain⟨o,e,c,d⟩:=Z;exact⟨o,e,λv z=>by rw[d] at z;cases z⟩
 keep:=λi h h' Z k=>Z.at λo e=>k it (by simp) o e
 item:=by
  intro X hP hw hK hc i G s σ H E I hf Z hg;subst hP hw hK;obtain⟨e,hl⟩:=hg;obtain⟨ho,_,_,xs,R,o',qv,q0,g1,g2,g3,g4,g5⟩:=(show Ay X.prog X.w H s.heap a (.Ih o (.dT l)) from I.Am a _ e);rw[ho] at g1;cases g1;rw[hd] at g3;cases g3;obtain⟨f0,f1,f2,f3,f4,f5⟩:=hf it (by simp);refine abn Z ho hd (λqk h' qq sb=>?_) (I.ok.hd hc) (λz=>absurd hl (by lia));have I1:Inv X G σ H { s with heap:=h' }:=I.turned (t':=s.toks) (λb o U e=>(sb.2 b U).trans e) f0 f1 f3 f4 f5;have hx:xs[i]?=some (xs[i]'(by rw[<- R.length];exact hl)):=bj _;have hk:es[i].val=(xs[i]'(by rw[<- R.length];exact hl)).2.2:=by have:=entry_at g4 i;rw[hx,vm qk] at this;exact mz DictEntry.val (gq this)
  obtain⟨p,hp,q1,q2,q3⟩:=atf R hx;obtain⟨oi,e1,e2,e3⟩:=id qq;refine⟨_,rfl,afa (s:={ s with heap:=h' }) e1 e2 e3 (by decide) ⟨p.2,H,I1,by rw[hk];exact q3,⟨rfl,p,hp,rfl⟩,qq,λb U=>(hf b U).1⟩⟩
 done:=by intro X hP hw hK hc i G s σ H E I hf Z hg;subst hP hw hK;obtain⟨e,hl⟩:=hg;obtain⟨ho,_⟩:=(show Ay X.prog X.w H s.heap a (.Ih o (.dT l)) from I.Am a _ e);obtain⟨f0,f1,f2,f3,f4,f5⟩:=hf it (by simp);exact abn Z ho hd (λz=>absurd hl (by lia)) (I.ok.hd hc) λ_ h' eb=>⟨rfl,I.turned (t':=s.toks) (λb o U e=>eb b o U e) f0 f1 f3 f4 f5⟩
 self:=λ_ _ _ _ _ Z h=>wpAny_pyIter_valiter Z h
def qb.vals{f:κ->qq->Prop}(h:qb K ι H f l U):∀{i:Nat}{p Z},l[i]?=some p->U[i]?=some Z->Rep K ι H p.2 Z.2:=by
 induction h with
 |nil=>intro i p Z e;simp at e
 |cons k r t R =>
  intro i p Z e G;cases i with
  |zero=>cases e;cases G;exact r|succ i=>exact R e G
def axs{G:Pos}(ha:PE X a (tE nm W X.K a'))(q0:attributeBase a "values" X.env (eval a X.env)=eval a X.env)(qv:(G.endLine==pos.line)=true):PI X tg (.Call (.Attribute a "values" G) [] [] pos) (tI nm W X.K (.vals a')):=by
 intro U s σ H R I hh;obtain⟨ι,ρ,M,sc,M',S,Rv,e,q⟩:=hh;rw[MW.Z3] at e;obtain⟨x,M1,e1,e⟩:=fu e;refine wpAny_Call_method0_late q0 qv (Bf (ha U s σ H (λv H1=>∃Z,Le ι H Z H1/\mj nm X.K Z H1 M1/\Rep X.K Z H1 x v) I (one S Rv e1 λZ H1 v le S1 R1 r=>⟨Z,le,S1,r⟩)) λv s1 z_=>?_);obtain⟨x',H1,I1,r1,Z,le,S1,r⟩:=z_;cases r with
 |@ref n p h1 =>
  have e:(match M1[n]? with|some (.dT o6)=>Res.ok (Src.con (o6.map Prod.snd)) (M1.set n (.dF o6))|_=>.bad)=.ok sc M':=e;cases hn:M1[n]? with
  |none=>rw[hn] at e;cases e
  |some ob=>cases ob with
   |dT o6 =>
    rw[hn] at e;cases e;cases r1;obtain⟨l,g1,g2⟩:=S1.obj n _ p hn h1;obtain⟨z,qq,xs,qk,o,es,ep,k1,k2,k3,k4,k5⟩:=(show Ay X.prog X.w H1 s1.heap p (.dT l) from I1.Am p _ g1);have T:s1.TypeIs (.ref p) "dict" := ⟨o,k1,k2.1⟩;have hz:es.size=l.length:=(size_of_entries k4).trans qk.length.symm;obtain⟨S2,zf⟩:=S1.put (u:=.Ih o (.dT l)) (o:=.dF o6) hn h1 λle=>⟨l,o,uf,g2.mono le⟩
    have I2:Inv X U σ (upd H1 p (.Ih o (.dT l))) s1:=I1.write (x:=p) (e:=p) (t':=s1.toks) (by rw[g1];trivial) (.inl rfl) (λ_ _ _ z=>z) ⟨o,k1⟩ ⟨k1,z,qq,xs,KT.keeps qk λc ys ec=>by rw[lz (aap ec g1 (λz=>nomatch z))];exact ec,o,es,ep,k1,k2,k3,k4,k5⟩;refine⟨"dict", "dict.values",PySem.F.plainAttrs_dict,PySem.F.slot_dict_values,PySem.F.type_dict_values,T,λa ea=>by cases ea;exact⟨o,k1,k2.2.1⟩,Calls.callWith_builtin rfl (PySem.evalArgs_none (call_meetsIn PySem.F.slot_dict_values T PySem.F.entry_dict_values (PySem.F.args_dict_values_1 _) (adq qq) ⟨T,?_⟩))⟩;have kp:∀{h:Heap}{ob:Obj}{b:Addr}{c:Obj},h.get? b=some c->(h.push ob).get? b=some c:=λe=>aq _ e
    refine ahw (s:={ s1 with heap:=s1.heap.push { cls:=.type "dict_values",data:=.fields #[.ref p] } }) ⟨_,bu _ rfl,rfl,rfl⟩ (kp k1) k3 ?_;have q3:(s1.heap.push { cls:=.type "dict_values",data:=.fields #[.ref p] }).objs.size=s1.heap.objs.size+1:=ju ..;refine⟨_,[_],_,Itv p o l,upd H1 p (.Ih o (.dT l)),rfl,I2.kept (t':=s1.toks) λb c e=>kp (kp e),ahy p _ k3 hz,⟨_,bu _ rfl,rfl,rfl⟩,λb hb=>?_,q Z _ _ (le.trans zf) S2 λq4 H3 M3 Sq S3=>⟨λi d hi hd=>?_,λ_=>⟨Sq.Ih _ _ _ uf,?_⟩⟩⟩
    .cases ou.mp hb
     rw[q3];exact I2.ag6 (n6 _) (I2.Am.fresh (n6 _))
    .have hd:(o6.map (·.2))[i]?=some d:=hd
     rw[iu] at hd;obtain⟨y,y1,rfl⟩:=bw.mp hd;refine⟨⟨Sq.Ih _ _ _ uf,by rw[g2.length.symm];simpa[Src.len] using hi⟩,λv H4 ⟨hH,pp,q1,q2⟩=>?_⟩;subst hH q2;exact⟨Le.refl _ _,S3,((g2.vals y1 q1).mono zf).Hr Sq⟩
    .rw[<- g2.length];simp[Src.len]
   |_=>rw[hn] at e;cases e
 |_=>cases e
open PySem L2 PyProof.Rows
def af8{X:Cx}(S:mj nm X.K R H M)(r:Rep X.K R H x v)(e:MW.j8 M x=some ds):apr X.K v H (!ds.isEmpty):=by
 obtain⟨p,G,rfl,Z,h2⟩:=Fz S r e;have U:(!ds.isEmpty)=!G.isEmpty:=by cases h2<;>rfl
 rcases Z with Z|Z
 .exact .inl ⟨G,Ew.of Z,U⟩
 .exact .inr (.inl ⟨G,Ey.of Z,U⟩)
def atg(ha:PE X a (tE nm W X.K a'))(he:∀Z,isTrue a X.env Z=(do let v <- Z;standAt a.pos;holding [v] (truthy v))):PT X a (tQ nm W X.K (.tru a')):=by intro G s σ H Q I hh;obtain⟨ι,ρ,M,b,M',S,R,e,q⟩:=hh;rw[MW.aec] at e;obtain⟨x,M1,e1,e2⟩:=fu e;obtain⟨e3,rfl⟩:=ur e2;obtain⟨ds,e4,e5⟩:=bw.mp e3;cases e5;refine ak3 ha he G s σ H Q I ⟨ι,ρ,M,x,M',S,R,e1,λU H1 v le S1 r=>?_⟩;exact⟨!ds.isEmpty,af8 S1 r e4,q U H1 le S1⟩
def axt(ha:PE X a (tE nm W X.K a')):PE X (.UnaryOp .Not a pos) (tE nm W X.K (.ntr a')):=by
 intro Z s σ H Q I hh;obtain⟨ι,ρ,M,d,M',S,R,e,q⟩:=hh;rw[MW.Lq] at e;obtain⟨x,M1,e3,e4⟩:=fu e;obtain⟨e5,rfl⟩:=ur e4;obtain⟨ds,e6,rfl⟩:=bw.mp e5;refine UnaryOp_ (Bf (ha Z s σ H (λv G=>∃k,apr X.K v G k/\Q (.bl !k) G) I ⟨ι,ρ,M,x,M',S,R,e3,λU G v le S1 r=>⟨!ds.isEmpty,af8 S1 r e6,by rw[Bool.not_not];exact q U G _ le S1 (.bl _)⟩⟩) λv s1 z=>?_);obtain⟨y,G,I1,r1,q1⟩:=z;exact not_of (Bf (ak2 Z s1 σ G y v (λk G=>Q (.bl !k) G) I1 r1 q1) λk s2 z=>by
  obtain⟨H2,I2,q2⟩:=z;exact⟨.bl !k,H2,I2,rfl,q2⟩)
def axu(ha:PE X a (tE nm W X.K a'))(he:∀Z,isTrue a X.env Z=(do let v <- Z;standAt a.pos;holding [v] (truthy v))):PT X (.UnaryOp .Not a pos) (tQ nm W X.K (.ntr a')) :=
 PT.of (akr (atg ha he)) fun σ H Q ι ρ M b M' S R e q=>by rw[MW.Lq] at e;obtain⟨x,M1,e3,e4⟩:=fu e;obtain⟨e5,rfl⟩:=ur e4;obtain⟨ds,e6,e7⟩:=bw.mp e5;cases e7;exact⟨ι,ρ,M,!ds.isEmpty,M',S,R,by rw[MW.aec,e3];simp[e6],λG U le S'=>by show Q (!!ds.isEmpty) U;rw[Bool.not_not];exact q G U le S'⟩
theorem Ve:∀(k:Int)(l:X9),k∈MW.Ga l↔k∈l
 |k,[]=>Iff.rfl
 |k,x::l=>by
  unfold MW.Ga;have Z:=Ve k l
  by_cases h:x∈l
  .rw[bz h,Z]
   exact⟨bh _,λq=>by rcases dg.mp q with rfl|q;exact h;exact q⟩
  .rw[cj h,dg,dg,Z]
theorem Zd:∀l,(MW.Ga l).Nodup
 |[]=>.nil
 |x::l=>by
  unfold MW.Ga
  by_cases h:x∈l
  .rw[bz h];exact Zd l
  .rw[cj h];exact o9.mpr ⟨λq=>h ((Ve x l).mp q),Zd l⟩
theorem abo{ι:Io}{H:Hp}{K:Fg}:∀{U:List Dv}{G:List V}{is:Zl}{Z:X9},nj K ι H U G->Vals G is->MW.V8 U=some Z->PyProof.Rows.IntsAre is Z
 |_,_,_,_,.nil,.nil,h=>by cases h;exact .nil
 |_,_,_,_,.cons r t,.cons rv tv,h=>by
  cases r<;>simp only[MW.V8] at h<;>try cases h
  obtain⟨qq,R,e2⟩:=bw.mp h;subst e2;obtain⟨tk,rfl⟩:=rv;exact .cons _ _ (abo t tv R)
def adt(e:MW.v7 .Mz ds M=.ok d R):∃G Z,ds=[.tup G]/\MW.V8 G=some Z/\Z.length<31/\d=.int (MW.Ga Z).length/\R=M:=by
 obtain⟨x,rfl,e⟩:=Vc e;cases x with
 |tup G =>
  obtain⟨e1,e2⟩:=ur (show Res.rn ((MW.V8 G).bind λis=>if is.length<31 then some (MW.D.int (MW.Ga is).length) else none) M=.ok d R from e);obtain⟨Z,e3,U⟩:=jb.mp e1
  by_cases h:Z.length<31
  .rw[bz h] at U
   exact⟨G,Z,rfl,e3,h,(gq U).symm,e2⟩
  .rw[cj h] at U;cases U
 |_=>cases e
def amg(hr:Ac 8 X.A)(hg:Gl X n)(hm:X.mg n=none)(hv:bootBuiltins n=some (.builtin "len"))(hn:n≠"__name__")(Yq:(n==("__debug__" : Str))=false)(q5:Gl X tn)(q7:X.mg tn=none)(zk:bootBuiltins tn=some (.type "set"))(qk:tn≠"__name__")(zz:(tn==("__debug__" : Str))=false)(ha:PA X [a] (Zr nm W X.K (.cons a' .nil)))(he:starEach [.Call (.Name tn p') [a] [] q2] X.env=(false,eval (.Call (.Name tn p') [a] [] q2) X.env)::starEach [] X.env)(Lp:(backTo q1 (starEach [] X.env)).any (·.1)=false)(q3:starEach [a] X.env=(false,eval a X.env)::starEach [] X.env)(q4:(backTo q2 (starEach [] X.env)).any (·.1)=false) :
 PE X (.Call (.Name n p) [.Call (.Name tn p') [a] [] q2] [] q1) (tE nm W X.K (.blt .Mz (.cons a' .nil))):=by
 intro U s σ H Q I hh;obtain⟨ι,ρ,M,d,M',S,R,e,q⟩:=hh;rw[MW.Xn] at e;obtain⟨ds,M1,e1,e⟩:=fu e;obtain⟨xs,G,rfl,e3,hl,rfl,rfl⟩:=adt e;refine o4 (Jq I hg hm hv ?_ hn Yq);refine xg (Q:=EP X U σ Q) ?_ he Lp;rw[he];show wpAny _ _ (spliced ((false,eval (.Call (.Name tn p') [a] [] q2) X.env)::backTo q1 (starEach [] X.env))) _ _ s;refine Calls.spliced_cons ?_;refine o4 (Jq I q5 q7 zk ?_ qk zz);refine qy (Bf (ha q2 U s σ H (λvs H1=>∃Z v,vs=[v]/\Rep X.K Z H1 (.tup xs) v/\Le ι H Z H1/\mj nm X.K Z H1 M') I ⟨ι,ρ,M,[.tup xs],M',S,R,e1,λZ H1 vs le S1 r=>?_⟩) λus s1 z=>?_) q3 q4
 .obtain⟨v,ev,rv⟩:=O5 r rfl
  exact⟨Z,v,ev,rv,le,S1⟩
 obtain⟨vs,H1,I1,r1,Z,v,rfl,rx,q6,S1⟩:=z;obtain⟨u,rfl,ru⟩:=adn r1;cases rx with
 |@tup p _ ws hp rl =>
  cases ru;obtain⟨is,zv,pl,_⟩:=I1.tuple (Ey.of hp);have nl:=STb.Tc (Zd G) (λk hk=>(Ve k G).mp hk);refine STb.agt hr.hd (show s1.heap.IsTuple p is.toArray from pl) (by simpa using abo rl zv e3) (B:=G) (λk hk=>hk) hl λh' tk n' q0 hS Vn=>?_
  refine(?_:wpAny _ _ (spliced []) _ _ _);refine Calls.spliced_nil ?_;obtain⟨o,es,ep,t,g1,g2,g3,g4⟩:=hS.get;obtain⟨ys,o',qv,zw,t',SN,qq,qk,_⟩:=hS;have eo:o'=o:=gq (SN.get.symm.trans g1);subst eo;have ed:qv=es:=by have:=SN.dat.symm.trans g3;injection this
  subst ed;have sz:qv.size=(MW.Ga G).length:=by
   rw[SN.size];refine Nat.le_antisymm ?_ ?_
   .have:=STb.Tc SN.nod (b:=MW.Ga G) λk hk=>(Ve k G).mpr ((qq k).mpr hk)
    rwa [dh] at this
   .have:=STb.Tc (Zd G) (b:=ys.map (·.1)) λk hk=>(qq k).mp ((Ve k G).mp hk)
    rwa [dh] at this
  refine call_len_set (s:={ s1 with heap:=h',toks:=tk }) g1 g2 g3 g4 (by lia) ?_;rw[sz];exact⟨.int _,H1,I1.kept q0,⟨_,rfl⟩,q Z H1 _ q6 S1 (.int _)⟩
def aq5(e:MW.Hs .index x ds M=.ok d M'):∃Z G j,ds=[Z]/\MW.fj M x=some G/\MW.azo M Z G=some j/\d=.int ((j:Nat):Int)/\M'=M:=by obtain⟨Z,rfl,e0⟩:=Vc e;obtain⟨U,e2⟩:=ur e0;obtain⟨j,e3,R⟩:=bw.mp U;obtain⟨G,e6,e7⟩:=jb.mp e3;exact⟨Z,G,j,rfl,e6,e7,R.symm,e2⟩
def Ze:∀{bs:List Bool}{j:Nat},bs.findIdx? id=some j->bs[j]?=some true/\∀m,m<j->bs[m]?=some false:=fun{bs j} h=>by obtain⟨G,U,R⟩:=List.findIdx?_eq_some_iff_getElem.mp h;refine⟨by rw[bj G];simpa using U,λm Z=>?_⟩;have:=R m Z;rw[bj (d_ Z G)];simpa using this
def aq6(hr:Ac 8 X.A):MtR X "list.index" (rM nm X.K .index):=λqv s σ H v vs u us Q I ru Nu hh=>by
 obtain⟨ι,M,x,ds,d,M',S,r,rs,e,q⟩:=hh;obtain⟨d0,xs,j,rfl,e1,e2,rfl,rfl⟩:=aq5 e;cases rs with
 |cons hd ht =>
  cases ht;cases Nu with
  |cons hu qq =>
   cases qq;obtain⟨bs,e3,e4⟩:=jb.mp (show(MW.Iw M' d0 xs).bind (·.findIdx? id)=some j from e2);obtain⟨p,ys,rfl,hp,rl⟩:=ue S r e1;cases ru;obtain⟨z,is,n,rv,hl,hg⟩:=I.ahj hp;obtain⟨f,g1,g2⟩:=Y8 (A:=X.A.in1) I S ((hr.mono (by decide:7<=8)).in1) rl rv hd hu e3;obtain⟨f1,f2⟩:=Ze e4;have hb:=(Lz e3).1;have G:is.length=bs.length:=by rw[hb,rl.length,hl]
   have lj:j<is.length:=by rw[G];exact(ak.mp f1).1
   have fa:∀m (Z:m<is.length),bs[m]?=some (f is[m]):=λm Z=>g2 m _ (bj Z)
   have hT:s.TypeIs (.ref p) "list" := ⟨_,hg,rfl⟩;have qk:is.length<=sizeLine:=by rw[<- hl];exact z
   rw[sizeLine_eq] at qk;refine call_meetsIn F.slot_list_index hT F.entry_list_index (F.args_list_index_2 _ _) (λA R s h=>SeqAt.list_indexAt p is.toArray n none #[] _ f j (by simpa using lj) (by lia) ?_ ?_ _ _ A R s h) ⟨hg,g1,?_⟩
   .have:=fa j lj;rw[f1] at this;simpa using(gq this).symm
   .intro m Z U
    have Z:m<is.length:=by simpa using Z
    have:=fa m Z;rw[f2 m U] at this;simpa using(gq this).symm
   .exact⟨.int j,H,I.tok _,⟨_,rfl⟩,q ι H _ (Le.refl _ _) S (.int _)⟩
def aq7(e:MW.Hs .get x ds M=.ok d M'):∃n k U G R,x=.ref n/\ds=[k,U]/\M[n]?=some (.dT G)/\MW.Nx k=some R/\d=(MW.Eh G R).getD U/\M'=M:=by
 obtain⟨n,G,rfl,hM,Z⟩:=af7 e
 match ds,Z with
 |[k,U],Z =>
  obtain⟨e2,e3⟩:=ur Z;obtain⟨R,e4,e5⟩:=bw.mp e2;exact⟨n,k,U,G,R,rfl,rfl,hM,e4,e5.symm,e3⟩
 |[],Z=>cases Z|[_],Z=>cases Z|_::_::_::_,Z=>cases Z
def a3x(hu:X.A.units+1<cLine):MtR X "dict.get" (rM nm X.K .get):=λqk s σ H v vs u us Q I ru Nu hh=>by
 obtain⟨ι,M,x,ds,d,M',S,r,rs,e,q⟩:=hh;obtain⟨n,k,d0,o6,k0,rfl,rfl,hM,hk,rfl,rfl⟩:=aq7 e;cases rs with
 |cons rk R =>
  cases R with
  |cons rd R =>
   cases R;cases Nu with
   |cons G Z =>
    cases Z with
    |cons qq Z =>
     cases Z;cases r with
     |ref ha =>
      cases ru;obtain⟨l,h1,h2⟩:=S.obj n _ _ hM ha;obtain⟨bb,rfl,hb⟩:=Y0 rk hk;refine aws hu I (adf.t h1 hb) G qq λw' s' I' U=>⟨_,H,I',U,q ι H _ (Le.refl _ _) S ?_⟩
      cases hl:MW.Eh o6 k0 with
      |none=>rw[(h2.look (k:=k0)).2 hl];exact rd|some d=>obtain⟨z,h3,h4⟩:=(h2.look (k:=k0)).1 d hl;rw[h3];exact h4
section
variable{prog:Program}{w:World}{A:Around}{E:Y1}{s:Shared}{it d:Addr}{i ep:Nat}{o:Obj}{es:Array DictEntry}{Q:Option Value->Shared->Prop}
def amh{Q:Y1}(Z:s.heap.get? d=some o)(R:o.ExactDict)(G:o.data=.dict es ep)(U:(d==sysModules)=false)
 (h:Q (.ref s.heap.objs.size) { s with heap:=s.heap.push { cls:=.type "dict_keyiterator",data:=.fields #[.ref d,.int 0 0,.int es.size 0,.int ep 0] } }):wpAny (model prog w) A (pyIter (.ref d)) Q E s:=by
 have T:s.TypeIs (.ref d) "dict" := ⟨o,Z,R.1⟩;refine wpAny_pyIter_slot T PySem.F.slot_dict_iter (jr PySem.F.slot_dict_iter T PySem.F.entry_dict_iter ?_ (PySem.F.args_dict_iter_1 _));unfold Builtin.«dict.__iter__» Builtin.Dict.dictSlotNone;refine aa (aa (wpAny_notOrdered_dict T ?_));refine aj (?_:wpAny _ _ (Builtin.Dict.showsAll d >>= _) _ _ s);unfold Builtin.Dict.showsAll;rw[U];refine aa (aj (aa (ux Z G (aa (wpAny_dictEpoch Z G ?_)))));exact aa (jx (aj ⟨_,rfl, "dict_keyiterator",_,⟨_,bu _ rfl,rfl⟩,u5.lookup,h⟩))
def abp(R:s.heap.IsKeyIter it d i es.size ep)(ho:s.heap.get? d=some o)(hd:o.data=.dict es ep)
 (h1:∀G:i<es.size,∀Z,Z.IsKeyIter it d (i+1) es.size ep->Heap.SameBut it s.heap Z->Q (some es[i].key) { s with heap:=Z })
 (hh:A.handled=none) (h2:es.size<=i->∀Z,Heap.ExtBut it s.heap Z->Q none { s with heap:=Z }):wpAny (model prog w) A (pyNext (.ref it)) Q E s:=by
 have T:=R.typeIs;obtain⟨oi,hi,hc,U⟩:=id R;unfold pyNext;refine aa (wpAny_attempt (jh (name:=Str.ofString "__next__") T u5 (jr u5 T PySem.F.entry_dict_keyiterator_next ?_ (PySem.F.args_dict_keyiterator_next_1 _))));refine aa (aj (aa (aa (aa (uy T (aj (aa (wpAny_fieldsOf hi U ?_))))))));rw[show Builtin.Dict_items.ownsTuple "dict_keyiterator" = false by decide];show wpAny _ _ (if(Value.ref d==Value.none)=true then _ else _) _ _ s;rw[cj (show ¬((Value.ref d==Value.none)=true) from ir)];refine aa (aj (aa (ux ho hd ?_)));rw[cj (by simp)];refine aa (aj (aa (wpAny_dictEpoch ho hd ?_)));rw[cj (by simp)];refine aj ?_;rcases jo i es.size with G|G
 .have qq:(s.heap.update it (Obj.mapFields (·.setIfInBounds 1 (rawInt ((i:Int)+1))))).IsKeyIter it d (i+1) es.size ep :=
   ⟨_,j7 _ hi (Obj.isFreed_of_fields (qt U _)),(Obj.cls_mapFields ..).trans hc,by rw[qt U];simp[rawInt]⟩
  simp only[show ¬((i:Int)<0) by lia,jg,jm,vm G];refine aa (aa (uy T (aj (aa (wpAny_isOneOf_keyiter T ?_)))));refine(?_:wpAny _ _ (setField (.ref it) 1 (rawInt ((i:Int)+1)) >>= _) _ _ s);refine aa (uq hi U (by simp) (aa (je (aa (wpAny_isOneOf_keyiter (s:={ s with heap:=_ }) qq.typeIs ?_)))));exact aj (aj ⟨_,rfl,aj (h1 G _ qq (gj ..))⟩)
 .simp only[show ¬((i:Int)<0) by lia,jg,jm,Array.getElem?_eq_none G]
  refine aa (aa (uy T (aj ?_)));refine(?_:wpAny _ _ (setField (.ref it) 0 .none >>= _) _ _ s);refine aa (uq hi U (by simp) ?_);refine STb.Xh (show A.in1.handled=none from hh) λZ x k z_=>?_
  obtain⟨o,e1,e2⟩:=z_;exact aa (qe (T := "StopIteration") (b:=true) ⟨o,e1,e2⟩ isSubtype_stop (aj (h2 G _ λb o n z=>k b o ((gj ..).extBut b o n z))))
theorem ahz{I:Addr}(hh:A.handled=none)(hd:o.data=.dict es ep)(Pb:d≠I):Walks prog w A I [I,d] [I] es.size (λi v=>∃e,es[i]?=some e/\v=e.key) (λi h=>h.IsKeyIter I d i es.size ep/\h.get? d=some o) where
 sub:=λb G=>by simp at G;simp[G]
 frame:=λ_ _ _ Z hk=>⟨Z.1.at λo e=>hk _ (by simp) o e,hk d (by simp) o Z.2⟩
 item:=λi R Q E hi Z U=>abp Z.1 Z.2 hd (λhl h' qq sb=>U _ h' R.toks ⟨_,vm hl,rfl⟩ ⟨qq,(sb.2 d Pb).trans Z.2⟩ λb o G e=>(sb.2 b (λz=>G (by simp[z]))).trans e) hh λz=>absurd hi (by lia)
 done:=λR Q E Z U=>abp Z.1 Z.2 hd (λhl=>absurd hl (by lia)) hh λ_ h' eb=>U h' R.toks λb o G e=>eb b o (λz=>G (by simp[z])) e
 self:=λ_ _ _ _ Z h=>wpAny_pyIter_keyiter Z.1 h
theorem ami(Z:o.ExactDict)(U:o.data=.dict es ep)(hn:(d==sysModules)=false):PySem.W.KdlSrc prog w "dict" d d es.size (λi v=>∃e,es[i]?=some e/\v=e.key) (λh=>h.get? d=some o) where
 type:=λ_ h=>⟨o,h,Z.1⟩
 there:=λ_ h=>⟨bf h,bf h⟩
 keep:=λ_ _ h hk=>hk d (.inl rfl) o h
 notList:=by decide
 notTuple:=by decide
 hint:=λ_ _ _ _ h G=>PySem.W.kdl_hint_dict ⟨o,h,Z.1⟩ G
 iter:=λA s R h=>⟨_,_,(λ_ _ G=>amh h Z U hn G),ahz R U (ie (bf h)),⟨_,bu _ rfl,rfl,rfl⟩,aq _ h⟩
end
theorem nj.keys{K:Fg}{Z:Io}{H:Hp}:∀k:List Kx,nj K Z H (k.map MW.azn) (k.map kV)
 |[]=>.nil|.inl i::k=>.cons (.int i) (nj.keys k)|.inr x::k=>.cons (.str x) (nj.keys k)
theorem qb.keys{K:Fg}{G:Io}{H:Hp}:∀{l:List (List Kx×Dv)}{Z:List (List Key×V)},qb K G H (λk U=>k=U) l Z->Z.map (·.1)=l.map (·.1)
 |_,_,.nil=>rfl|_,_,.cons k _ t=>by rw[di,di,qb.keys t,k]
theorem af9{U R:Type}{F:U->R->Prop}{a:U}:∀{Z:List U}{G:List R}{i:Nat},Paired F Z G->Z[i]?=some a->∃b,G[i]?=some b/\F a b
 |_,_,0,.cons h _,e=>by cases e;exact⟨_,rfl,h⟩|_,_,i+1,.cons _ t,e=>af9 (i:=i) t e
theorem aga{K:Fg}{U:Io}{H:Hp}:∀{Z:List Dv}{G:List V},Z.length=G.length->(∀(i:Nat) d v,Z[i]?=some d->G[i]?=some v->Rep K U H d v)->nj K U H Z G
 |[],[],_,_=>.nil|d::Z,v::G,hl,h=>.cons (h 0 d v rfl rfl) (aga (by simpa using hl) λi d v a b=>h (i+1) d v a b)
theorem agb:∀{Z:List V}{G:Zl},Z.length=G.length->(∀(i:Nat) v u,Z[i]?=some v->G[i]?=some u->RelV v u)->Vals Z G
 |[],[],_,_=>.nil|v::Z,u::G,hl,h=>.cons (h 0 v u rfl rfl) (agb (by simpa using hl) λi d v a b=>h (i+1) d v a b)
def amj(e:MW.v7 .list ds M=.ok d U):∃x,ds=[x]/\((∃G,MW.j8 M x=some G/\MW.new (.lst G) M=.ok d U)\/∃n Z,x=.ref n/\M[n]?=some (.dT Z)/\Z.length<=1000/\d=.vl (Z.map λp=>MW.agv p.1)/\U=M):=by
 obtain⟨x,rfl,-⟩:=Vc e;refine⟨x,rfl,?_⟩;simp only[MW.v7,MW.Ma] at e;cases e3:MW.j8 M x with
 |some G=>rw[e3] at e;exact .inl ⟨G,rfl,e⟩
 |none =>
  rw[e3] at e;cases x with
  |ref n =>
   simp only at e;cases hn:M[n]? with
   |none=>rw[hn] at e;cases e
   |some R =>
    rw[hn] at e;cases R with
    |dT Z =>
     obtain⟨hl,e⟩:=Y9 e;cases e;exact .inr ⟨n,Z,rfl,hn,hl,rfl,rfl⟩
    |_=>cases e
  |_=>cases e
def axv(hc:X.calm=true):Br X (.type "list") (rB nm X.K .list):=λqq s σ H vs us Q I Nu hh=>by
 obtain⟨ι,M,ds,d,M',S,r,e,q⟩:=hh;obtain⟨x,rfl,⟨xs,e3,e⟩|⟨n,o6,rfl,hn,hl,rfl,rfl⟩⟩:=amj e
 .cases e
  obtain⟨v,rfl,h⟩:=O5 r rfl;obtain⟨p,q3,rfl,hp,ru⟩:=Fz S h e3;refine Yv qq s σ H _ us Q I Nu ⟨p,q3,rfl,hp.imp Ew.of Ey.of,λl hl=>?_⟩;obtain⟨S2,zf,r2⟩:=aft S hl ru;exact q _ _ _ zf S2 r2
 .obtain⟨v,rfl,h⟩:=O5 r rfl
  cases h with
  |@ref _ p hp =>
   obtain⟨l,h1,h2⟩:=S.obj n _ p hn hp;obtain⟨z,q0,xs,U,o,es,ep,g1,g2,g3,g4,g5⟩:=(show Ay X.prog X.w H s.heap p (.dT l) from I.Am p _ h1);obtain⟨u,rfl,rx⟩:=vals1 Nu;cases rx;have hz:es.size=l.length:=(size_of_entries g4).trans U.length.symm;refine PySem.W.kdl_call (ami g2 g3 q0) (I.ok.hd hc) g1 (by rw[hz];exact z) λh' tk Z c' kp hD Vx=>?_
   have R:Z.size=l.length:=Vx.1.trans hz;have at_:∀(i:Nat)(y:List Key×V)(u:Value),l[i]?=some y->Z.toList[i]?=some u->∃b:Addr,xs[i]?.map (·.2.1)=some b/\u=.ref b/\H b=some (.tup (y.1.map kV)):=λi y u hy hu=>by obtain⟨e0,q1,q2⟩:=Vx.2 i u (by rw[<- o7];exact hu);obtain⟨b,hb,f1,f2,f3⟩:=af9 U hy;have:=entry_at g4 i;rw[hb,q1] at this;have ee:=gq this;exact⟨b.2.1,by rw[hb];rfl,by rw[q2,ee];rfl,f2⟩
   have ws:∃ks:List V,ks.length=l.length/\∀(i:Nat) k,ks[i]?=some k->∃b:Addr,xs[i]?.map (·.2.1)=some b/\k=.ref b:=⟨xs.map λx=>.ref x.2.1,by simpa using U.length.symm,λi k G=>by
    rw[iu] at G;obtain⟨x,hx,rfl⟩:=bw.mp G;exact⟨x.2.1,by rw[hx];rfl,rfl⟩⟩
   obtain⟨ks,k1,k2⟩:=ws;have vl:Vals ks Z.toList:=agb (k1.trans (R.symm.trans su.symm)) λi k u G hu=>by
    obtain⟨b,b1,rfl⟩:=k2 i k G;have il:i<l.length:=by rw[<- k1];exact(ak.mp G).1
    obtain⟨b',b2,rfl,_⟩:=at_ i _ u (bj il) hu;rw[b1] at b2;cases b2;rfl
   have rl:nj X.K ι H (o6.map λp=>MW.agv p.1) ks:=aga (by rw[k1,dh,h2.length]) λi d k hd G=>by
    rw[iu] at hd;obtain⟨y,hy,rfl⟩:=bw.mp hd;have il:i<l.length:=by rw[<- k1];exact(ak.mp G).1
    have ia:i<Z.toList.length:=by rw[su,R];exact il
    obtain⟨b',b2,_,b3⟩:=at_ i _ _ (bj il) (bj ia);obtain⟨b,b1,rfl⟩:=k2 i k G;rw[b1] at b2;cases b2;have qv:=h2.keys;have e1:(l.map (·.1))[i]?=some l[i].1:=by rw[iu,bj il];rfl
    rw[qv,iu,hy] at e1;have e1:y.1=l[i].1:=gq e1;rw[<- e1] at b3;exact .tup b3 (nj.keys _)
   have qk:=I.Am.fresh (bc s.heap.objs.size);obtain⟨S2,zf,r2⟩:=Yx S qk rl;exact⟨.ref s.heap.objs.size,_,I.laid (t':=tk) kp (bc _) (show Ay X.prog X.w _ h' _ (.lst ks) from⟨by rw[k1];exact z,Z.toList,c',vl,by simpa using hD⟩),rfl,q _ _ _ zf S2 r2⟩
end Sm
namespace Ck
open PySem L2 Sm
open MW (Ex Eb OEx Nb Aj my Lv Tg Res du MO Mg Cp Op2 Blt Bm Kx Src)
structure Tab where
 fns:List (Option (Str×Nat))
 cls:List (Option (Str×Nat))
 mts:List (Str×Nat)
 Nk:List Str
 aq8:List (Str×Int)
noncomputable def Lg:List Str:=["len", "tuple", "list", "max", "min", "isinstance", "range", "enumerate", "set", "zip", "all", "bool"]
structure amk(T:Tab)(nm:Nm)(W:Mg)(k:Nat)(P:Program)(w:World)(K:Fg)(mg:Zs)(base:Heap):Prop where
 fn:∀f x n,T.fns[f]?=some (some (x,n))->∃fa fd ps,Fi P w K mg base Zq k fa fd ps (spF nm W K n f)/\mg x=some (.ref fa)/\PySem.W.keepIn K (.ref fa)=true/\Binds K fd ps []
 cl:∀c x n,T.cls[c]?=some (some (x,n))->∃C fa fd ps cl,Mk K C fa/\Fi P w K mg base Zq k fa fd ps (spF nm W K (n+1) cl.init)/\mg x=some (.ref C)/\Binds K fd ps []/\W.cls[c]?=some cl/\nm.cls c=some C
 mt:∀m x n,T.mts[m]?=some (x,n)->∃C fa fd ps f,X8 K C/\Meth K C x fa/\Fi P w K mg base Zq k fa fd ps (spF nm W K (n+1) f)/\Binds K fd ps [] /\
  (∀c' cl',W.cls[c']?=some cl'->∀g,cl'.meths.lookup m=some g->nm.cls c'=some C/\g=f)/\∀i,nm.fld i≠x
 fl:∀f x,T.Nk[f]?=some x->x=nm.fld f/\∀c C,nm.cls c=some C->X8 K C/\Ff K C x
 cs:∀x i,(x,i)∈T.aq8->∃t,mg x=some (.int i t)
 bt:∀x∈Lg,mg x=none
structure Ctx where
 N:List Str
 sc:List (Str×NameKind)
 fn:Bool
structure Ed(T:Tab)(nm:Nm)(W:Mg)(k:Nat)(c:Ctx)(X:Cx):Prop where
 N:X.N=c.N
 nd:c.N.Nodup
 sc:X.env.scope.names=c.sc
 kd:X.env.scope.kind=.function
 calm:X.calm=true
 room:Ac (k+16) X.A
 fnl:c.fn=true->(∀n,X.fn n=true)/\PassesOwn (model X.prog X.w) X.A X.env X.xe
 tab:amk T nm W k X.prog X.w X.K X.mg X.base
noncomputable def Vf(n:Str):Bool:=!(n==("__debug__" : Str))&&(!(n==("__classdict__" : Str))&&!(n==("__name__" : Str)))
noncomputable def ah0(c:Ctx)(n:Str):Bool:=match c.sc.lookup n with|some .local=>true|some .cell=>true|some .free=>true|_=>false
noncomputable def axw(c:Ctx)(n:Str):Bool:=match c.sc.lookup n with|some .local=>true|some .cell=>c.fn|_=>false
def V1(c:Ctx)(n:Str):Bool:=Vf n&&(match c.sc.lookup n with|some .globalImplicit=>true|_=>false)
noncomputable def agd(c:Ctx)(i:Nat)(n:Str):Bool:=match c.N[i]? with|some m=>m==n|none=>false
def zb:List Expr->Bool
 |[]=>true|e::r=>noStar e&&zb r
noncomputable def Ql:Expr->Bool
 |.Name ..=>true|.Attribute ..=>true|.Subscript ..=>true|.Call (.Attribute ..) ..=>true|_=>false
def zc(h:Vf n=true):(n==("__debug__" : Str))=false/\(n==("__classdict__" : Str))=false/\n≠"__name__" := by simp only[Vf,ao,Bool.not_eq_true'] at h;exact⟨h.1,h.2.1,λz=>by have:=h.2.2;rw[z] at this;simp at this⟩
set_option tactic.hygienic true in
def axx(h:Ed T nm W k c X)(Z:ah0 c n=true):Vis X.env.scope n:=by unfold Vis;rw[h.sc];unfold ah0 at Z;split at Z<;>rename_i e<;>first|exact .inl e|exact .inr (.inl e)|exact .inr (.inr e)|cases Z
set_option tactic.hygienic true in
def axy(h:Ed T nm W k c X)(Z:axw c n=true):L2.Loc X.env.scope n/\(X.fn n=true\/X.env.scope.names.lookup n=some .local):=by
 unfold L2.Loc;rw[h.sc];unfold axw at Z;split at Z
 .rename_i e;exact⟨.inl e,.inr e⟩
 .rename_i e;exact⟨.inr e,.inl ((h.fnl Z).1 n)⟩
 .cases Z
set_option tactic.hygienic true in
def Lh(h:Ed T nm W k c X)(Z:V1 c n=true):Gl X n/\Vf n=true:=by
 unfold V1 at Z;rw[ao] at Z;refine⟨?_,Z.1⟩;have Z:=Z.2;unfold Gl Env.kindOf;rw[h.sc];split at Z
 .rename_i e;exact e
 .cases Z
set_option tactic.hygienic true in
def slot_of(h:Ed T nm W k c X)(Z:agd c i n=true):X.N[i]?=some n:=by
 rw[h.N];unfold agd at Z;split at Z
 .rename_i m e;rw[e,eq_of_beq Z]
 .cases Z
theorem Vg{Z:Env}:∀{G:Ya},zb G=true->starEach G Z=G.map λe=>(false,eval e Z)
 |[],_=>rfl
 |e::r,h=>by
  simp only[zb,ao] at h;rw[qz h.1,Vg h.2];rfl
def zg(h:zb es=true):(backTo pos (starEach es env)).any (·.1)=false:=by rw[Vg h];simp[backTo]
def Vh(h:zb es=true):(backTo pos (starEach es env)).all (λx=>!x.1)=true:=by rw[Vg h];simp[backTo]
set_option tactic.hygienic true in
def Dw(h:Ql o=true):attributeBase o n env (eval o env)=eval o env:=by
 cases o<;>try first|rfl|(cases h;done)
 rename_i f Y Z p;cases f<;>first|rfl|(cases h)
def aq9(h:Ql o=true)(hs:zb es=true)(G:es.length<29)(U:(apos.endLine==pos.line)=true) :
 eval (.Call (.Attribute o m apos) es [] pos) env=(do
  let Z <- eval o env
  standAt apos.atName
  let (f,first) <- holding [Z] (getMethod Z m (do return (<- importBound o env).getD true))
  callWith pos f first (backTo pos (starEach es env)) (backToKw pos (keywordEach [] env))):=by
 have R:methodCallForm (es.length+0) (backTo pos (starEach es env)) (backToKw pos (keywordEach [] env))=true:=by unfold methodCallForm;rw[Vh hs];simp[keywordEach,backToKw];exact b_ G (by decide)
 show(do
  let Z <- attributeBase o m env (eval o env)
  standAt apos.atName
  methodCall o m apos pos env Z (es.length+0) (backTo pos (starEach es env)) (backToKw pos (keywordEach [] env)))=_
 rw[Dw h];unfold methodCall;rw[R];have hq:methodCallPos true o env apos pos=pure pos:=by unfold methodCallPos;rw[U];rfl
 rw[hq];simp only[calleeOf,jk,pure_bind]
noncomputable def Cm{Z:Type}(o:Option Z)(f:Z->Bool):Bool:=match o with|some x=>f x|none=>false
def jq(h:Cm o f=true):∃x,o=some x/\f x=true:=by
 cases o with
 |none=>cases h|some x=>exact⟨x,rfl,h⟩
noncomputable def Vi{α:Type}(l:List α):Option α:=match l with|[x]=>some x|_=>none
def Bw(h:Vi l=some x):l=[x]:=by
 cases l with
 |nil=>cases h
 |cons y r=>cases r with
  |nil=>cases h;rfl|cons _ _=>cases h
def V2{Z:Type}{P:Z->Prop}{o:Option {x // P x}}{q:Z}(h:o.map Subtype.val=some q):P q:=by
 cases o with
 |none=>cases h|some x=>cases h;exact x.2
noncomputable def Mr(a:Expr):Option Str:=Option.map Subtype.val (α:={q:Str // ∃p,a=.Name q p}) (match a with|.Name n p=>some ⟨n,p,rfl⟩|_=>none)
noncomputable def aml(a:Expr):Option Const:=Option.map Subtype.val (α:={q:Const // ∃k p,a=.Constant q k p}) (match a with|.Constant n k p=>some ⟨n,k,p,rfl⟩|_=>none)
noncomputable def a3y(a:Expr):Option (Expr×Operator×Expr):=Option.map Subtype.val (α:={q:Expr×Operator×Expr // ∃p,a=.BinOp q.1 q.2.1 q.2.2 p}) (match a with|.BinOp l o r p=>some ⟨(l,o,r),p,rfl⟩|_=>none)
noncomputable def a3z(a:Expr):Option (Expr×Expr×Expr):=Option.map Subtype.val (α:={q:Expr×Expr×Expr // ∃p,a=.IfExp q.1 q.2.1 q.2.2 p}) (match a with|.IfExp t l r p=>some ⟨(t,l,r),p,rfl⟩|_=>none)
noncomputable def dUn(a:Expr):Option (UnaryOp×Expr):=Option.map Subtype.val (α:={q:UnaryOp×Expr // ∃p,a=.UnaryOp q.1 q.2 p}) (match a with|.UnaryOp o l p=>some ⟨(o,l),p,rfl⟩|_=>none)
noncomputable def axz(a:Expr):Option (Expr×List CmpOp×List Expr):=Option.map Subtype.val (α:={q:Expr×List CmpOp×List Expr // ∃p,a=.Compare q.1 q.2.1 q.2.2 p}) (match a with|.Compare l o r p=>some ⟨(l,o,r),p,rfl⟩|_=>none)
noncomputable def ath(a:Expr):Option (BoolOp×List Expr×Pos):=Option.map Subtype.val (α:={q:BoolOp×List Expr×Pos // a=.BoolOp q.1 q.2.1 q.2.2}) (match a with|.BoolOp o l p=>some ⟨(o,l,p),rfl⟩|_=>none)
noncomputable def ah1(a:Expr):Option (List Expr):=Option.map Subtype.val (α:={q:List Expr // ∃k p,a=.Tuple q k p}) (match a with|.Tuple l k p=>some ⟨l,k,p,rfl⟩|_=>none)
noncomputable def ax0(a:Expr):Option (List Expr):=Option.map Subtype.val (α:={q:List Expr // ∃p,a=.List q p}) (match a with|.List l p=>some ⟨l,p,rfl⟩|_=>none)
noncomputable def a4a(a:Expr):Option (List (Option Expr)×List Expr):=Option.map Subtype.val (α:={q:List (Option Expr)×List Expr // ∃p,a=.Dict q.1 q.2 p}) (match a with|.Dict k v p=>some ⟨(k,v),p,rfl⟩|_=>none)
noncomputable def amm(a:Expr):Option (Expr×Expr):=Option.map Subtype.val (α:={q:Expr×Expr // ∃p,a=.Subscript q.1 q.2 p}) (match a with|.Subscript l r p=>some ⟨(l,r),p,rfl⟩|_=>none)
noncomputable def dSl(a:Expr):Option (Option Expr×Option Expr×Option Expr):=Option.map Subtype.val (α:={q:Option Expr×Option Expr×Option Expr // ∃p,a=.Slice q.1 q.2.1 q.2.2 p}) (match a with|.Slice l r s p=>some ⟨(l,r,s),p,rfl⟩|_=>none)
noncomputable def amn(a:Expr):Option (Expr×List Expr×List Keyword×Pos):=Option.map Subtype.val (α:={q:Expr×List Expr×List Keyword×Pos // a=.Call q.1 q.2.1 q.2.2.1 q.2.2.2}) (match a with|.Call f l k p=>some ⟨(f,l,k,p),rfl⟩|_=>none)
noncomputable def amo(a:Expr):Option (Expr×Str×Pos):=Option.map Subtype.val (α:={q:Expr×Str×Pos // a=.Attribute q.1 q.2.1 q.2.2}) (match a with|.Attribute l n p=>some ⟨(l,n,p),rfl⟩|_=>none)
noncomputable def abq(a:Expr):Option (Expr×List Comprehension×Scope):=Option.map Subtype.val (α:={q:Expr×List Comprehension×Scope // ∃p,a=.ListComp q.1 q.2.1 q.2.2 p}) (match a with|.ListComp e g s p=>some ⟨(e,g,s),p,rfl⟩|_=>none)
def Eu(h:Mr a=some n):∃p,a=.Name n p:=(V2 h :)
def Su(h:aml a=some n):∃k p,a=.Constant n k p:=(V2 h :)
def ara(h:a3y a=some (l,o,r)):∃p,a=.BinOp l o r p:=(V2 h :)
def arb(h:a3z a=some (t,l,r)):∃p,a=.IfExp t l r p:=(V2 h :)
def adu(h:dUn a=some (o,l)):∃p,a=.UnaryOp o l p:=(V2 h :)
def age(h:axz a=some (l,o,r)):∃p,a=.Compare l o r p:=(V2 h :)
def amq(h:ath a=some (o,r,p)):a=.BoolOp o r p:=(V2 h :)
def O8(h:ah1 a=some l):∃k p,a=.Tuple l k p:=(V2 h :)
def agf(h:ax0 a=some l):∃p,a=.List l p:=(V2 h :)
def arc(h:a4a a=some (k,l)):∃p,a=.Dict k l p:=(V2 h :)
def Zf(h:amm a=some (l,r)):∃p,a=.Subscript l r p:=(V2 h :)
def ax1(h:dSl a=some (l,r,s)):∃p,a=.Slice l r s p:=(V2 h :)
def abr(h:amn a=some (f,l,k,p)):a=.Call f l k p:=(V2 h :)
def Zg(h:amo a=some (l,n,p)):a=.Attribute l n p:=(V2 h :)
def Vj(h:abq a=some (e,g,s)):∃p,a=.ListComp e g s p:=(V2 h :)
def dCN(a:Expr):Option (Str×List Expr):=(amn a).bind λq=>if q.2.2.1.isEmpty then(Mr q.1).map λn=>(n,q.2.1) else none
set_option tactic.hygienic true in
def Jv(h:dCN a=some (n,l)):∃p p',a=.Call (.Name n p) l [] p':=by
 obtain⟨⟨f,C,k,p⟩,U,Y⟩:=jb.mp h;split at Y
 .rename_i Z
  obtain⟨L,J,G⟩:=bw.mp Y;obtain⟨p',e⟩:=Eu J;have e:f=_:=e;have Z:k=[]:=m6.mp Z;cases G;exact⟨p',p,by rw[abr U,e,Z]⟩
 .cases Y
def dCA(a:Expr):Option (Expr×Str×Pos×List Expr×Pos):=(amn a).bind λq=>if q.2.2.1.isEmpty then(amo q.1).map λn=>(n.1,n.2.1,n.2.2,q.2.1,q.2.2.2) else none
set_option tactic.hygienic true in
def adw(h:dCA a=some (o,n,U,l,p)):a=.Call (.Attribute o n U) l [] p:=by
 obtain⟨⟨f,R,k,p'⟩,L,Y⟩:=jb.mp h;split at Y
 .rename_i Z
  obtain⟨⟨S,u,G⟩,C,J⟩:=bw.mp Y;have e:f=_:=Zg C;have Z:k=[]:=m6.mp Z;cases J;rw[abr L,e,Z]
 .cases Y
noncomputable def a4b(l:Ya):List Str:=l.filterMap Mr
noncomputable def Dz(e:Expr):List Str:=match ah1 e with|some l=>a4b l|none=>a4b [e]
noncomputable def hid(i:Nat):Str:=⟨#[0,i]⟩
def ah2(Z:Yf)(p:Str×Nat):Str:=if Z.contains p.1=true then hid p.2 else p.1
noncomputable def Rn(N Z:Yf):List Str:=N.zipIdx.map (ah2 Z)++Z
noncomputable def ard(c:Ctx)(Z:X0):List (Str×NameKind):=Z.map λy=>if(y.2==NameKind.free&&c.sc.lookup y.1==some .cell) then(y.1,NameKind.cell) else(y.1,y.2)
def abt(c:Ctx)(Z:Scope)(G:Yf):Ctx:=⟨Rn c.N G,ard c Z.names,false⟩
def ax2(c:Ctx)(Z:Scope)(G:Yf):Bool :=
 decide (Z.kind=.function)&&(Z.names.all (λy=>!(y.2==NameKind.cell))&&(Z.names.all (λy=>Z.names.lookup y.1==some y.2) &&
 (Z.names.all (λy=>!(y.2==NameKind.free)||(c.sc.lookup y.1==some .cell||c.sc.lookup y.1==some .free))&&(decide ((Rn c.N G).Nodup) &&
 c.N.zipIdx.all (λp=>!(ah0 (abt c Z G) (ah2 G p))||(ah2 G p==p.1&&Z.names.lookup (ah2 G p)==some .free))))))
noncomputable def a4c:Op2->Operator
 |.add=>.Add|.sub=>.Sub|.mul=>.Mult|.fdiv=>.FloorDiv|.mod=>.Mod|.pow=>.Pow
noncomputable def arf:Cp->Option CmpOp
 |.eq=>some .Eq|.ne=>some .NotEq|.lt=>some .Lt|.le=>some .LtE|.gt=>some .Gt|.ge=>some .GtE|.inn=>some .In|.Kc=>some .NotIn|.is=>some .Is
noncomputable def ax3:Blt->Option Str
 |.len=>some "len"|.tuple=>some "tuple"|.list=>some "list"|.max=>some "max"|.min=>some "min"
 |.all=>some "all"|_=>none
noncomputable def bmN:Bm->Option Str
 |.append=>some "append"|.extend=>some "extend"|.setdefault=>some "setdefault"|.get=>some "get"|.index=>some "index"
def ax4(T:Tab)(c:Ctx)(d:MW.D)(a:Expr):Bool :=
 match d with
 |.int i=>Cm (aml a) (λk=>decide (k=.int i))||Cm (Mr a) λn=>V1 c n&&T.aq8.contains (n,i)
 |.bl i=>Cm (aml a) λk=>decide (k=.bool i)
 |.str i=>Cm (aml a) λk=>decide (k=.str i)
 |.non=>Cm (aml a) λk=>decide (k=.none)
 |_=>false
def tg1(c:Ctx)(Z i:Nat)(e:Expr):Bool:=Cm (Mr e) λn=>agd c i n&&(axw c n&&decide (Z<=i))
def ah3(c:Ctx)(Z:Nat):List Nat->List Expr->Bool
 |[],[]=>true|i::is,e::ts=>tg1 c Z i e&&ah3 c Z is ts|_,_=>false
def tgB(c:Ctx)(Z:Nat)(t:Tg)(e:Expr):Bool :=
 match t with
 |.name i=>tg1 c Z i e|.names is=>Cm (ah1 e) λG=>ah3 c Z is G
noncomputable def Np:Expr->Bool|.IfExp ..=>false|_=>true
noncomputable def fnB(l:List (Option (Str×Nat)))(f:Nat)(n:Str)(k:Nat):Bool:=decide (l[f]?=some (some (n,k)))
noncomputable def mtB(l:List (Str×Nat))(f:Nat)(n:Str)(k:Nat):Bool:=decide (l[f]?=some (n,k))
noncomputable def flB(l:Yf)(f:Nat)(n:Str):Bool:=decide (l[f]?=some n)
def agg(c:Ctx)(k:Nat)(t:Tg)(g:Comprehension)(Z:Scope):Bool :=
 ax2 c Z (Dz g.target)&&((k==(Dz g.target).length)&&(tgB (abt c Z (Dz g.target)) c.N.length t g.target&&(G9 g.iter&&decide (g.is_async=0))))
def ams(o:BoolOp)(a:Expr)(x y:Expr->Bool):Bool :=
 Cm (ath a) λq=>decide (q.1=o)&&(match q.2.1 with
  |l::r::rest=>(Np l&&x l)&&(match rest with|[]=>Np r&&y r|_::_=>y (.BoolOp o (r::rest) q.2.2))
  | _=>false)
def a4d(c:Ctx)(G:Str)(a:Expr)(f:Expr->Bool):Bool:=Cm (dCN a) λq=>match q.2 with
 |[l,t]=>Cm (Mr t) λZ=>(decide (q.1 = "isinstance")&&decide (Z=G))&&((V1 c q.1&&V1 c Z)&&(noStar l&&f l))
 |_=>false
def arh(h:a4d c ty a f=true):∃l p p1 Z,a=.Call (.Name "isinstance" p) [l,.Name ty p1] [] Z/\V1 c "isinstance" = true/\V1 c ty=true/\noStar l=true/\f l=true:=by
 obtain⟨⟨n,ls⟩,U,h0⟩:=jq h;clear h;obtain⟨p,p',rfl⟩:=Jv U
 match ls,U,h0 with
 |[l,t],U,h =>
  replace h:=jq (f:=λG=>(decide (n = "isinstance")&&decide (G=ty))&&((V1 c n&&V1 c G)&&(noStar l&&f l))) h;obtain⟨G,h2,h⟩:=h;obtain⟨Z,rfl⟩:=Eu h2;simp only[ao,dm] at h;obtain⟨⟨rfl,rfl⟩,⟨h3,R⟩,h5,h6⟩:=h;exact⟨l,p,Z,p',rfl,h3,R,h5,h6⟩
 |[],_,h=>cases h|[_],_,h=>cases h|_::_::_::_,_,h=>cases h
def ax5(c:Ctx)(Z G:Str)(a:Expr)(f:Expr->Bool):Bool:=Cm (dCN a) λq=>Cm (Vi q.2) λr=>Cm (dCN r) λu=>Cm (Vi u.2) λl=>((decide (q.1=Z)&&decide (u.1=G))&&(V1 c q.1&&V1 c u.1))&&(noStar l&&f l)
def ari(h:ax5 c ty tn a f=true):∃l p p1 Z p3,a=.Call (.Name ty p) [.Call (.Name tn p1) [l] [] Z] [] p3/\V1 c ty=true/\V1 c tn=true/\noStar l=true/\f l=true:=by replace h:=jq h;obtain⟨⟨n,ls⟩,h1,h⟩:=h;obtain⟨p,p',rfl⟩:=Jv h1;replace h:=jq h;obtain⟨r,h2,h⟩:=h;cases Bw h2;replace h:=jq h;obtain⟨⟨m,ms⟩,h3,h⟩:=h;obtain⟨Z,R,rfl⟩:=Jv h3;replace h:=jq h;obtain⟨l,U,h⟩:=h;cases Bw U;simp only[ao,dm] at h;obtain⟨⟨⟨rfl,rfl⟩,h5,h6⟩,G,h8⟩:=h;exact⟨l,p,Z,R,p',rfl,h5,h6,G,h8⟩
mutual
def zx(T:Tab):Ex->Ctx->Expr->Bool
 |.var i,c,a=>Cm (Mr a) λn=>agd c i n&&(ah0 c n&&Vf n)
 |.tru _,_,_=>false|.cst d,c,a=>ax4 T c d a|.bin op x y,c,a=>Cm (a3y a) λq=>decide (q.2.1=a4c op)&&(zx T x c q.1&&zx T y c q.2.2)
 |.neg x,c,a=>Cm (dUn a) λq=>decide (q.1=.USub)&&zx T x c q.2
 |.cmp op x y,c,a=>Cm (axz a) λq=>Cm (Vi q.2.1) λo=>Cm (Vi q.2.2) λr=>decide (arf op=some o)&&(G9 r&&(zx T x c q.1&&zx T y c r))
 |.chain o1 o2 x y z,c,a=>Cm (axz a) λq=>match q.2.1,q.2.2 with
  |[p1,p2],[r,s]=>(decide (arf o1=some p1)&&decide (arf o2=some p2))&&(G9 s&&(zx T x c q.1&&(zx T y c r&&zx T z c s)))|_,_=>false
 |.and x y,c,a=>ams .And a (zx T x c) (zx T y c)|.or x y,c,a=>ams .Or a (zx T x c) (zx T y c)|.ntr x,c,a=>Cm (dUn a) λq=>decide (q.1=.Not)&&((Mr q.2).isSome&&zx T x c q.2)
 |.not x,c,a=>Cm (dUn a) λq=>decide (q.1=.Not)&&(Np q.2&&zx T x c q.2)
 |.ite t x y,c,a=>Cm (a3z a) λq=>Np q.1&&(zx T t c q.1&&(zx T x c q.2.1&&zx T y c q.2.2))
 |.tup es,c,a=>Cm (ah1 a) λl=>decide (Eb.len es<=1000)&&J5 T es c l
 |.lst es,c,a=>Cm (ax0 a) λl=>decide (Eb.len es<=1000)&&J5 T es c l
 |.Ax es,c,a=>Cm (ax0 a) λl=>decide (Eb.len es<=1000)&&J5 T es c l
 |.acb,_,a=>Cm (a4a a) λq=>q.1.isEmpty&&q.2.isEmpty
 |.ix x y,c,a=>Cm (amm a) λq=>Y4 q.2&&(zx T x c q.1&&zx T y c q.2)
 |.cut x lo hi,c,a=>Cm (amm a) λq=>Cm (dSl q.2) λs=>s.2.2.isNone&&(zx T x c q.1&&(ax6 T lo c s.1&&ax6 T hi c s.2.1))
 |.call f es,c,a=>Cm (dCN a) λq=>(fnB T.fns f q.1 (Eb.len es)&&(V1 c q.1&&!q.2.isEmpty))&&J5 T es c q.2
 |.make f,c,a=>Cm (dCN a) λq=>fnB T.cls f q.1 0&&(V1 c q.1&&q.2.isEmpty)
 |.meth o m es,c,a=>Cm (dCA a) λq=>((mtB T.mts m q.2.1 (Eb.len es)&&Ql q.1)&&(decide (q.2.2.2.1.length<29)&&((q.2.2.1.endLine==q.2.2.2.2.line)&&!q.2.2.2.1.isEmpty)))&&(zx T o c q.1&&J5 T es c q.2.2.2.1)
 |.fld o f,c,a=>Cm (amo a) λq=>(flB T.Nk f q.2.1&&Ql q.1)&&zx T o c q.1
 |.blt .Mz (.cons x .nil),c,a=>ax5 c "len" "set" a (zx T x c)|.blt .isBool (.cons x .nil),c,a=>a4d c "bool" a (zx T x c)|.blt b es,c,a=>Cm (dCN a) λq=>(decide (ax3 b=some q.1)&&(V1 c q.1&&!q.2.isEmpty))&&J5 T es c q.2
 |.bm m o es,c,a=>Cm (dCA a) λq=>((decide (bmN m=some q.2.1)&&Ql q.1)&&(decide (q.2.2.2.1.length<29)&&((q.2.2.1.endLine==q.2.2.2.2.line)&&!q.2.2.2.1.isEmpty)))&&(zx T o c q.1&&J5 T es c q.2.2.2.1)
 |.comp v k t it e,c,a=>Cm (abq a) λq=>Cm (Vi q.2.1) λg=>(agg c k t g q.2.2&&g.ifs.isEmpty)&&(arj T it c g.target g.iter&&zx T e (abt c q.2.2 (Dz g.target)) q.1)
 |.yu v k t it i e,c,a=>Cm (abq a) λq=>Cm (Vi q.2.1) λg=>Cm (Vi g.ifs) λd=>(agg c k t g q.2.2&&Np d)&&(arj T it c g.target g.iter&&(zx T i (abt c q.2.2 (Dz g.target)) d&&zx T e (abt c q.2.2 (Dz g.target)) q.1))
def J5(T:Tab):Eb->Ctx->List Expr->Bool
 |.nil,_,a=>a.isEmpty|.cons e es,c,a=>match a with|l::ls=>noStar l&&(zx T e c l&&J5 T es c ls)|_=>false
def ax6(T:Tab):OEx->Ctx->Option Expr->Bool
 |.none,_,a=>a.isNone|.some e,c,a=>Cm a (zx T e c)
def arj(T:Tab):Nb->Ctx->Expr->Expr->Bool
 |.val e,c,_,a=>zx T e c a|.Rh e,c,_,a=>Cm (dCN a) λq=>Cm (Vi q.2) λl=>(decide (q.1 = "range")&&V1 c q.1)&&(noStar l&&zx T e c l)
 |.enm e,c,tg,a=>Cm (dCN a) λq=>Cm (Vi q.2) λl=>((ah1 tg).isSome&&(decide (q.1 = "enumerate")&&V1 c q.1))&&(noStar l&&zx T e c l)
 |.zip es,c,tg,a=>Cm (dCN a) λq=>((ah1 tg).isSome&&(decide (q.1 = "zip")&&(V1 c q.1&&!q.2.isEmpty)))&&J5 T es c q.2
 |.vals e,c,_,a=>Cm (dCA a) λq=>((decide (q.2.1 = "values")&&Ql q.1)&&((q.2.2.1.endLine==q.2.2.2.2.line)&&q.2.2.2.1.isEmpty))&&zx T e c q.1
end
def Ms(h:Ed T nm W k c X)(G:Scope):(relabel G X.env).names=ard c G.names:=by
 unfold relabel ard;refine m9 λy _=>?_
 obtain⟨n,Z⟩:=y;show(if(Z==NameKind.free&&X.env.scope.kind==.function&&X.env.kindOf n==some .cell)=true then _ else _)=_;have e:(Z==NameKind.free&&X.env.scope.kind==.function&&X.env.kindOf n==some .cell)=(Z==NameKind.free&&c.sc.lookup n==some .cell):=by unfold Env.kindOf;rw[h.kd,h.sc];simp
 rw[e]
def ax7(h:Ed T nm W k c X)(hb:ax2 c sc G=true):Fo X (Rn c.N G) sc/\∀C fp s H,Ed T nm W k (abt c sc G) (J9 X (Rn c.N G) sc C fp s H):=by
 simp only[ax2,ao,dm,qw] at hb;obtain⟨h1,h2,h3,h4,h5,h6⟩:=hb;have Z:∀x kd,(x,kd)∈sc.names->sc.names.lookup x=some kd:=λx kd m=>by have:=h3 (x,kd) m;simpa using this
 refine⟨⟨h1,λy m=>by have:=h2 y m;simpa using this,λy m e=>by rw[Z y.1 y.2 m,e],λy m e=>?_,Z,?_,λi x R U hv=>?_⟩,λC fp s H=>⟨rfl,h5,Ms h sc,h1,h.calm,h.room,(λz=>by cases z),h.tab⟩⟩
 .have:=h4 y m
  rw[e] at this;unfold Env.kindOf;rw[h.sc];simpa using this
 .rw[h.N];simp[Rn]
 .rw[h.N] at R
  have hl:i<(c.N.zipIdx.map (ah2 G)).length:=by simpa using R
  unfold Rn at U;rw[gb hl,iu,wy] at U;obtain⟨n,hn⟩:∃n,c.N[i]?=some n:=⟨c.N[i],by simp[R]⟩;rw[hn] at U;have U:ah2 G (n,i)=x:=by simpa using U
  have m:(n,i)∈c.N.zipIdx:=by rw[jw];exact⟨i,by rw[wy,hn];simp⟩
  have q:=h6 (n,i) m;rw[U] at q;have v:ah0 (abt c sc G) x=true:=by unfold Vis at hv;rw[Ms h] at hv;unfold ah0;show(match(ard c sc.names).lookup x with|some .local=>true|some .cell=>true|some .free=>true|_=>false)=true;rcases hv with e|e|e<;>rw[e]
  rw[v] at q;simp only[Aa,Bool.false_or,ao] at q;rw[h.N,hn];have e1:x=n:=eq_of_beq q.1;exact⟨by rw[e1],by have:=q.2;simpa using this⟩
def a4e(h:o=a4c op):Bv X (binaryOp o) (rOp nm X.K (MW.Bs op)):=by
 subst h;cases op with
 |add=>exact a2n|sub=>exact a2j|mul=>exact a2m|fdiv=>exact aw3|mod=>exact a2k|pow=>exact a2l
def amt(Z:Ac 8 X.A)(h:arf op=some o):Bv X (compareOp o) (U5 nm X.K op):=by
 have G:Ac 6 X.A:=Z.mono (by decide);cases op with
 |eq=>cases h;exact a9s G|ne=>cases h;exact a9t G|lt=>cases h;exact a9f|le=>cases h;exact a9g|gt=>cases h;exact a9h|ge=>cases h;exact a9i|inn=>cases h;exact a9u Z|Kc=>cases h;exact aqm Z|is=>cases h;exact a9j
def adx(h:Ed T nm W k c X)(G:tg1 c lo i e=true):∃n p,e=.Name n p/\X.N[i]?=some n/\L2.Loc X.env.scope n/\(X.fn n=true\/X.env.scope.names.lookup n=some .local)/\lo<=i:=by obtain⟨n,R,Z⟩:=jq G;obtain⟨p,rfl⟩:=Eu R;simp only[ao,dm] at Z;obtain⟨U,l2⟩:=axy h Z.2.1;exact⟨n,p,rfl,slot_of h Z.1,U,l2,Z.2.2⟩
theorem amu{T:Tab}{nm:Nm}{W:Mg}{k:Nat}{c:Ctx}{X:Cx}(h:Ed T nm W k c X){G:Nat}:∀{is:Y3}{Z:Ya},ah3 c G is Z=true->Ju X Z is/\∀i∈is,G<=i
 |[],[],_=>⟨.nil,by simp⟩|[],_::_,e=>by cases e|_::_,[],e=>by cases e
 |i::is,a::Z,e=>by
  unfold ah3 at e;rw[ao] at e;obtain⟨n,p,rfl,U,e2,e3,R⟩:=adx h e.1;obtain⟨g1,g2⟩:=amu h e.2;refine⟨.cons U e2 e3 g1,λj hj=>?_⟩;rcases dg.mp hj with z|z
  .rw[z];exact R
  .exact g2 j z
def agh(h:Ed T nm W k c X)(G:tgB c lo t e=true):PG X e (tGt nm X.K t)/\∀i∈Bc t,lo<=i:=by
 have Z:X.N.Nodup:=by rw[h.N];exact h.nd
 cases t with
 |name i =>
  obtain⟨n,p,rfl,U,e2,e3,R⟩:=adx h G;exact⟨axa Z U e2 e3,λi hi=>by rw[ou.mp hi];exact R⟩
 |names is =>
  obtain⟨ts,h1,h2⟩:=jq G;obtain⟨k0,p,rfl⟩:=O8 h1;obtain⟨g1,g2⟩:=amu h h2;exact⟨aqg h.calm Z g1,g2⟩
structure Got(nm:Nm)(W:Mg)(X:Cx)(a:Expr)(e:Ex):Prop where
 v:PE X a (tE nm W X.K e)
 q:Np a=true->PT X a (tQ nm W X.K e)
 w:∀op ls p,a=.BoolOp op ls p->PW X a (tQ nm W X.K e)
noncomputable def a4f:Expr->Bool
 |.BoolOp ..=>false|.UnaryOp .Not _ _=>false|.IfExp ..=>false|.Compare ..=>false|_=>true
set_option tactic.hygienic true in
def xf(h:PE X a (tE nm W X.K e))(Y:a4f a=true):Got nm W X a e:=by
 refine⟨h,λU=>a2p h λZ=>?_,λG J p z=>by subst z;cases Y⟩;cases a<;>first|rfl|(cases Y)|skip
 rename_i G x p;cases G<;>first|rfl|cases Y
def Ni(h:Ed T nm W k c X)(G:ax4 T c d a=true):PE X a (tE nm W X.K (.cst d))/\a4f a=true:=by
 cases d with
 |int i =>
  simp only[ax4,Bool.or_eq_true] at G;rcases G with G|G
  .obtain⟨k,U,Z⟩:=jq G
   obtain⟨j,p,rfl⟩:=Su U;rw[jn Z];exact⟨a2f,rfl⟩
  .obtain⟨n,U,Z⟩:=jq G
   obtain⟨p,rfl⟩:=Eu U;rw[ao] at Z;obtain⟨g1,g2⟩:=Lh h Z.1;obtain⟨t,R⟩:=h.tab.cs _ _ (List.contains_iff_mem.mp Z.2);exact⟨aw2 g1 R (zc g2).1,rfl⟩
 |bl i =>
  obtain⟨k,U,Z⟩:=jq G;obtain⟨j,p,rfl⟩:=Su U;rw[jn Z];exact⟨a9d,rfl⟩
 |str i =>
  obtain⟨k,U,Z⟩:=jq G;obtain⟨j,p,rfl⟩:=Su U;rw[jn Z];exact⟨a2h,rfl⟩
 |non =>
  obtain⟨k,U,Z⟩:=jq G;obtain⟨j,p,rfl⟩:=Su U;rw[jn Z];exact⟨a2g,rfl⟩
 |_=>cases G
section
variable{T:Tab}{nm:Nm}{W:Mg}{k:Nat}
def Ed.r8(h:Ed T nm W k c X):Ac 8 X.A:=h.room.mono (by lia)
theorem Ed.mg(h:Ed T nm W k c X)(m:n∈Lg):X.mg n=none:=h.tab.bt n m
theorem Rf{c:Ctx}{Z:Nat}:∀{is:Y3}{G:Ya},ah3 c Z is G=true->∀i∈is,Z<=i
 |[],_,_=>by simp|_::_,[],e=>by cases e
 |i::is,a::G,e=>by
  unfold ah3 at e;rw[ao] at e;intro j R;rcases dg.mp R with z|z
  .obtain⟨n,h1,U⟩:=jq e.1
   simp only[ao,dm] at U;rw[z];exact U.2.2
  .exact Rf e.2 j z
def ady(h:tgB c lo t e=true):∀i∈Bc t,lo<=i:=by
 cases t with
 |name j =>
  obtain⟨n,U,Z⟩:=jq h;simp only[ao,dm] at Z;intro i G;rw[ou.mp G];exact Z.2.2
 |names is =>
  obtain⟨R,U,Z⟩:=jq h;exact Rf Z
def amv:(Rn N Z).length-N.length=Z.length:=by simp[Rn]
def O9(G:Ed T nm W k c X)(h:agg c j t g sc=true) :
 G9 g.iter=true/\g.is_async=0/\Fo X (Rn c.N (Dz g.target)) sc/\(∀C Z s H,Ed T nm W k (abt c sc (Dz g.target)) (J9 X (Rn c.N (Dz g.target)) sc C Z s H)) /\
 (∀C Z s H,PG (J9 X (Rn c.N (Dz g.target)) sc C Z s H) g.target (tGt nm X.K t))/\(Rn c.N (Dz g.target)).length-X.N.length=j/\∀i∈Bc t,X.N.length<=i:=by
 simp only[agg,ao,dm] at h;obtain⟨h2,h3,U,h5,h6⟩:=h;obtain⟨B,R⟩:=ax7 G h2;exact⟨h5,h6,B,R,λC Z s H=>(agh (R C Z s H) U).1,by rw[G.N,amv];exact(eq_of_beq h3).symm,λi hi=>by rw[G.N];exact ady U i hi⟩
def agi(h:ams o a x y=true):(∃l r p,a=.BoolOp o [l,r] p/\Np l=true/\x l=true/\Np r=true/\y r=true) \/
 ∃l r s Z p,a=.BoolOp o (l::r::s::Z) p/\Np l=true/\x l=true/\y (.BoolOp o (r::s::Z) p)=true:=by
 obtain⟨⟨R,U,p⟩,h1,G⟩:=jq h;cases amq h1;rw[ao] at G;obtain⟨h3,G⟩:=G;cases jn h3;cases U with
 |nil=>cases G
 |cons l U=>cases U with
  |nil=>cases G
  |cons r Z =>
   cases Z with
   |nil =>
    have G:((Np l&&x l)&&(Np r&&y r))=true:=G;simp only[ao] at G;exact .inl ⟨l,r,p,rfl,G.1.1,G.1.2,G.2.1,G.2.2⟩
   |cons s Z =>
    have G:((Np l&&x l)&&y (.BoolOp R (r::s::Z) p))=true:=G;simp only[ao] at G;exact .inr ⟨l,r,s,Z,p,rfl,G.1.1,G.1.2,G.2⟩
def ax8(U:Ed T nm W k c X)(Z:ax3 b=some n)(hg:V1 c n=true)(G:PA X (l::ls) (Zr nm W X.K es))(e2:zb (l::ls)=true):PE X (.Call (.Name n p) (l::ls) [] p') (tE nm W X.K (.blt b es)):=by
 obtain⟨g1,g2⟩:=Lh U hg;obtain⟨R,d2,d3⟩:=zc g2;simp only[zb,ao] at e2;have st:=qz e2.1 ls X.env;have an:=zg (env:=X.env) (pos:=p') e2.2;have mg:n∈Lg->X.mg n=none:=U.mg;cases b with
 |len=>cases Z;exact afw (id := "len") a3k g1 (mg (by decide+kernel)) (by decide+kernel) G d3 R st an|max=>cases Z;exact afw (id := "max") (a3n U.calm) g1 (mg (by decide+kernel)) (by decide+kernel) G d3 R st an|all=>cases Z;exact afw (id := "all") (a3w U.calm) g1 (mg (by decide+kernel)) (by decide+kernel) G d3 R st an|min=>cases Z;exact afw (id := "min") (a3p U.calm) g1 (mg (by decide+kernel)) (by decide+kernel) G d3 R st an|tuple=>cases Z;exact alz (T := "tuple") aqj g1 (mg (by decide+kernel)) (by decide+kernel) G d3 R st an|list=>cases Z;exact alz (T := "list") (axv U.calm) g1 (mg (by decide+kernel)) (by decide+kernel) G d3 R st an|_=>cases Z
def Vl{Z:Type}{l:List Z}(h:(!l.isEmpty)=true):∃x r,l=x::r:=by
 cases l with
 |nil=>cases h|cons x r=>exact⟨x,r,rfl⟩
set_option tactic.hygienic true in
mutual
theorem ji:∀(e:Ex){c:Ctx}{X:Cx}{a:Expr},Ed T nm W k c X->zx T e c a=true->Got nm W X a e
 |.var i,c,X,a,hc,h=>by
  replace h:=jq h;obtain⟨n,Z,h⟩:=h;obtain⟨p,rfl⟩:=Eu Z;simp only[ao] at h;exact xf (a2e (slot_of hc h.1) (axx hc h.2.1) (zc h.2.2).1 (zc h.2.2).2.1) rfl
 |.tru e,c,X,a,hc,h=>by cases h
 |.cst d,c,X,a,hc,h=>by
  obtain⟨Z,U⟩:=Ni hc h;exact xf Z U
 |.bin op x y,c,X,a,hc,h=>by
  replace h:=jq h;obtain⟨⟨l,o,r⟩,Z,h⟩:=h;obtain⟨p,rfl⟩:=ara Z;simp only[ao,dm] at h;exact xf (a2i (a4e h.1) (ji x hc h.2.1).v (ji y hc h.2.2).v) rfl
 |.neg x,c,X,a,hc,h=>by
  replace h:=jq h;obtain⟨⟨o,l⟩,Z,h⟩:=h;obtain⟨p,rfl⟩:=adu Z;simp only[ao,dm] at h;obtain⟨rfl,h⟩:=h;exact xf (a2z (ji x hc h).v) rfl
 |.cmp op x y,c,X,a,hc,h=>by
  replace h:=jq h;obtain⟨⟨l,o,r⟩,Z,h⟩:=h;obtain⟨p,rfl⟩:=age Z;replace h:=jq h;obtain⟨o1,U,h⟩:=h;replace h:=jq h;obtain⟨r1,R,h⟩:=h;cases Bw U;cases Bw R;simp only[ao,dm] at h;have g:=amt (nm:=nm) hc.r8 h.1;have m:=Ra h.2.1 o1;exact⟨a2q g (ji x hc h.2.2.1).v (ji y hc h.2.2.2).v m,λ_=>a2r g (ji x hc h.2.2.1).v (ji y hc h.2.2.2).v m,λ_ _ _ z=>by cases z⟩
 |.chain o1 o2 x y z,c,X,a,hc,h=>by
  replace h:=jq h;obtain⟨⟨l,o,r⟩,Z,h⟩:=h;obtain⟨p,rfl⟩:=age Z;dsimp only at h;split at h
  .rename_i p1 p2 r s
   simp only[ao,dm] at h;have g1:=amt (nm:=nm) hc.r8 h.1.1;have g2:=amt (nm:=nm) hc.r8 h.1.2;have m:lastMarks [p1,p2] [r,s]=false:=Ra h.2.1 p2;exact⟨aqe g1 g2 (ji x hc h.2.2.1).v (ji y hc h.2.2.2.1).v (ji z hc h.2.2.2.2).v m,λ_=>aqf g1 g2 (ji x hc h.2.2.1).v (ji y hc h.2.2.2.1).v (ji z hc h.2.2.2.2).v m,λ_ _ _ z=>by cases z⟩
  .cases h
 |.and x y,c,X,a,hc,h=>by
  rcases agi h with⟨l,r,p,rfl,Z,U,R,h4⟩|⟨l,r,s,qk,p,rfl,Z,U,R⟩
  .have g1:=ji x hc U
   have g2:=ji y hc h4;have w:=as8 (pos:=p) (rest:=[]) (g1.q Z) (aph (g2.q R));exact⟨as7 g1.v (ate g2.v),λ_=>w.pt,λ_ _ _ _=>w⟩
  .have g1:=ji x hc U
   have g2:=ji y hc R;have w:=as8 (g1.q Z) (g2.w _ _ _ rfl);exact⟨as7 g1.v g2.v,λ_=>w.pt,λ_ _ _ _=>w⟩
 |.or x y,c,X,a,hc,h=>by
  rcases agi h with⟨l,r,p,rfl,Z,U,R,h4⟩|⟨l,r,s,qk,p,rfl,Z,U,R⟩
  .have g1:=ji x hc U
   have g2:=ji y hc h4;have w:=a2u (pos:=p) (rest:=[]) (g1.q Z) (avy (g2.q R));exact⟨a2s g1.v (ate g2.v),λ_=>w.pt,λ_ _ _ _=>w⟩
  .have g1:=ji x hc U
   have g2:=ji y hc R;have w:=a2u (g1.q Z) (g2.w _ _ _ rfl);exact⟨a2s g1.v g2.v,λ_=>w.pt,λ_ _ _ _=>w⟩
 |.not x,c,X,a,hc,h=>by
  replace h:=jq h;obtain⟨⟨o,l⟩,Z,h⟩:=h;obtain⟨p,rfl⟩:=adu Z;simp only[ao,dm] at h;obtain⟨rfl,h⟩:=h;have g:=ji x hc h.2;exact⟨a2t g.v,λ_=>a2v (g.q h.1),λ_ _ _ z=>by cases z⟩
 |.ntr x,c,X,a,hc,h=>by
  replace h:=jq h;obtain⟨⟨o,l⟩,Z,h⟩:=h;obtain⟨p,rfl⟩:=adu Z;simp only[ao,dm] at h;obtain⟨rfl,U,R⟩:=h;obtain⟨z,U⟩:=j9.mp U;obtain⟨p',e⟩:=Eu U;have e:l=_:=e;subst e;have g:=(ji x hc R).v;exact⟨axt g,λ_=>axu g λ_=>rfl,λ_ _ _ z=>by cases z⟩
 |.ite t x y,c,X,a,hc,h=>by
  replace h:=jq h;obtain⟨⟨t',l,r⟩,Z,h⟩:=h;obtain⟨p,rfl⟩:=arb Z;simp only[ao] at h;exact⟨a2w ((ji t hc h.2.1).q h.1) (ji x hc h.2.2.1).v (ji y hc h.2.2.2).v,(λz=>by cases z),λ_ _ _ z=>by cases z⟩
 |.tup es,c,X,a,hc,h=>by
  replace h:=jq h;obtain⟨l,Z,h⟩:=h;obtain⟨k0,p,rfl⟩:=O8 Z;simp only[ao,dm] at h;exact xf (a2x (Ea es hc h.2).1 h.1) rfl
 |.lst es,c,X,a,hc,h=>by
  replace h:=jq h;obtain⟨l,Z,h⟩:=h;obtain⟨p,rfl⟩:=agf Z;simp only[ao,dm] at h;exact xf (a2y (Ea es hc h.2).1 h.1) rfl
 |.Ax es,c,X,a,hc,h=>by
  replace h:=jq h;obtain⟨l,Z,h⟩:=h;obtain⟨p,rfl⟩:=agf Z;simp only[ao,dm] at h;exact xf (aw6 (Ea es hc h.2).1 h.1) rfl
 |.acb,c,X,a,hc,h=>by
  replace h:=jq h;obtain⟨⟨q,l⟩,Z,h⟩:=h;obtain⟨p,rfl⟩:=arc Z;simp only[ao,m6] at h;obtain⟨rfl,rfl⟩:=h;exact xf axj rfl
 |.ix x y,c,X,a,hc,h=>by
  replace h:=jq h;obtain⟨⟨l,r⟩,Z,h⟩:=h;obtain⟨p,rfl⟩:=Zf Z;simp only[ao] at h;exact xf (a9l (afo hc.room) (ji x hc h.2.1).v (ji y hc h.2.2).v (alq h.1)) rfl
 |.cut x lo hi,c,X,a,hc,h=>by
  replace h:=jq h;obtain⟨⟨l,r⟩,Z,h⟩:=h;obtain⟨p,rfl⟩:=Zf Z;replace h:=jq h;obtain⟨⟨u,v,st⟩,U,h⟩:=h;obtain⟨p2,e⟩:=ax1 U;have e:r=_:=e;subst e;simp only[ao,Option.isNone_iff_eq_none] at h;obtain⟨rfl,h⟩:=h;exact xf (a3o (ji x hc h.1).v (agj lo hc h.2.1) (agj hi hc h.2.2)) rfl
 |.call f es,c,X,a,hc,h=>by
  replace h:=jq h;obtain⟨⟨n,ls⟩,Z,h⟩:=h;obtain⟨p,p',rfl⟩:=Jv Z;simp only[ao] at h;obtain⟨⟨U,R,h4⟩,h5⟩:=h;obtain⟨l,ls,rfl⟩:=Vl h4;obtain⟨fa,fd,ps,F,m,kp,b⟩:=hc.tab.fn _ _ _ (jn U);obtain⟨g1,g2⟩:=Lh hc R;obtain⟨e1,e2⟩:=Ea es hc h5;simp only[zb,ao] at e2;exact xf (s_call F (hc.room.mono x_) g1 m kp b rfl e1 (zc g2).1 (qz e2.1 _ _) (zg e2.2)) rfl
 |.make f,c,X,a,hc,h=>by
  replace h:=jq h;obtain⟨⟨n,ls⟩,Z,h⟩:=h;obtain⟨p,p',rfl⟩:=Jv Z;simp only[ao,m6] at h;obtain⟨U,R,rfl⟩:=h;obtain⟨C,fa,fd,ps,cl,M0,F,m,b,d1,d2⟩:=hc.tab.cl _ _ _ (jn U);obtain⟨g1,g2⟩:=Lh hc R;exact xf (axh M0 F (hc.room.mono (w_ (by decide))) g1 m b d1 rfl d2 (zc g2).1) rfl
 |.meth o m es,c,X,a,hc,h=>by
  replace h:=jq h;obtain⟨⟨lo,n,ap,ls,p⟩,h0,h⟩:=h;cases adw h0;simp only[ao,dm] at h;obtain⟨⟨⟨Z,U⟩,R,h4,h7⟩,h5,h6⟩:=h;obtain⟨l,ls,rfl⟩:=Vl h7;obtain⟨C,fa,fd,ps,f,C0,Me,F,b,u,nf⟩:=hc.tab.mt _ _ _ (jn Z);obtain⟨e1,e2⟩:=Ea es hc h6;have g:=ji o hc h5;have e3:=e2;simp only[zb,ao] at e3;exact xf (axi (ci:=0) (cl:=⟨0,[]⟩) g.v C0 Me F (hc.room.mono x_) b u nf rfl e1 (qz e3.1 _ _) (zg e3.2) (aq9 U e2 R h4)) rfl
 |.fld o f,c,X,a,hc,h=>by
  replace h:=jq h;obtain⟨⟨l,n,p⟩,Z,h⟩:=h;cases Zg Z;simp only[ao] at h;obtain⟨t1,t2⟩:=hc.tab.fl _ _ (jn h.1.1);exact xf (a3a t1 t2 (ji o hc h.2).v (Dw h.1.2)) rfl
 |.blt b es,c,X,a,hc,h=>by
  have G:(Cm (dCN a) λq=>(decide (ax3 b=some q.1)&&(V1 c q.1&&!q.2.isEmpty))&&J5 T es c q.2)=true->Got nm W X a (.blt b es):=λhh=>by clear h;replace hh:=jq hh;obtain⟨⟨n,ls⟩,Z,h⟩:=hh;obtain⟨p,p',rfl⟩:=Jv Z;simp only[ao] at h;obtain⟨⟨U,R,h4⟩,h5⟩:=h;obtain⟨l,ls,rfl⟩:=Vl h4;obtain⟨e1,e2⟩:=Ea es hc h5;exact xf (ax8 hc (jn U) R e1 e2) rfl
  match b,es,h,G with
  |.isBool,.cons x .nil,h,_ =>
   obtain⟨l,p,p1,p2,rfl,R,h4,h5,h6⟩:=arh h;obtain⟨g1,g2⟩:=Lh hc R;obtain⟨g3,g4⟩:=Lh hc h4;exact xf (al9 g1 (hc.mg (by decide+kernel)) (by decide+kernel) (zc g2).2.2 (zc g2).1 g3 (hc.mg (by decide+kernel)) (by decide+kernel) (zc g4).2.2 (zc g4).1 (ji x hc h6).v (qz h5 _ _) (qz rfl _ _) (zg rfl)) rfl
  |.isBool,.nil,h,G=>exact G h|.isBool,.cons _ (.cons _ _),h,G=>exact G h|.len,_,h,G=>exact G h|.tuple,_,h,G=>exact G h|.list,_,h,G=>exact G h|.max,_,h,G=>exact G h|.min,_,h,G=>exact G h|.all,_,h,G=>exact G h|.Mz,.nil,h,G=>exact G h|.Mz,.cons _ (.cons _ _),h,G=>exact G h
  |.Mz,.cons x .nil,h,_ =>
   obtain⟨l,p,p1,p2,p3,rfl,h5,h6,h7,h8⟩:=ari (show ax5 c "len" "set" a (zx T x c)=true from h);obtain⟨g1,g2⟩:=Lh hc h5;obtain⟨g3,g4⟩:=Lh hc h6;exact xf (amg hc.r8 g1 (hc.mg (by decide+kernel)) (by decide+kernel) (zc g2).2.2 (zc g2).1 g3 (hc.mg (by decide+kernel)) (by decide+kernel) (zc g4).2.2 (zc g4).1
    (Yz (ji x hc h8).v afu (qz h7 _ _)) (qz rfl _ _) (zg rfl) (qz h7 _ _) (zg rfl)) rfl
 |.bm m o es,c,X,a,hc,h=>by
  replace h:=jq h;obtain⟨⟨lo,n,ap,ls,p⟩,h0,h⟩:=h;cases adw h0;simp only[ao,dm] at h;obtain⟨⟨⟨Z,U⟩,R,h4,q0⟩,h5,h6⟩:=h;obtain⟨l,ls,rfl⟩:=Vl q0;obtain⟨e1,e2⟩:=Ea es hc h6;have e3:=e2;simp only[zb,ao] at e3;have qq:((backTo p (starEach (l::ls) X.env)).all (λx=>!x.1)&&(backToKw p (keywordEach [] X.env)).all (λx=>x.1.isSome)&&decide ((l::ls).length+([]:List Keyword).length+(if([]:List Keyword).isEmpty then 0 else 1)<30))=true:=by rw[Vh e2];simp[keywordEach,backToKw];simp at R;exact b_ R (by decide)
  have g:=ji o hc h5;cases m with
  |append=>cases Z;exact xf (al4 (T := "list") (id := "list.append") (fun ι H M x v S r t=>ty_list S r t) PySem.F.plainAttrs_list PySem.F.slot_list_append PySem.F.type_list_append al5 g.v e1 (Dw U) qq h4 (qz e3.1 _ _) (zg e3.2)) rfl
  |extend=>cases Z;exact xf (al4 (T := "list") (id := "list.extend") (fun ι H M x v S r t=>ty_list S r t) PySem.F.plainAttrs_list PySem.F.slot_list_extend PySem.F.type_list_extend al6 g.v e1 (Dw U) qq h4 (qz e3.1 _ _) (zg e3.2)) rfl
  |setdefault=>cases Z;exact xf (al4 (T := "dict") (id := "dict.setdefault") (fun ι H M x v S r t=>ty_dict S r t) PySem.F.plainAttrs_dict PySem.F.slot_dict_setdefault PySem.F.type_dict_setdefault (axq (afo hc.room)) g.v e1 (Dw U) qq h4 (qz e3.1 _ _) (zg e3.2)) rfl
  |index=>cases Z;exact xf (al4 (T := "list") (id := "list.index") (fun ι H M x v S r t=>ty_list S r t) PySem.F.plainAttrs_list PySem.F.slot_list_index PySem.F.type_list_index (aq6 hc.r8) g.v e1 (Dw U) qq h4 (qz e3.1 _ _) (zg e3.2)) rfl
  |get=>cases Z;exact xf (al4 (T := "dict") (id := "dict.get") (fun ι H M x v S r t=>ty_dict S r t) PySem.F.plainAttrs_dict PySem.F.slot_dict_get PySem.F.type_dict_get (a3x (afo hc.room)) g.v e1 (Dw U) qq h4 (qz e3.1 _ _) (zg e3.2)) rfl
 |.comp v j t it e,c,X,a,hc,h=>by
  replace h:=jq h;obtain⟨⟨q6,gs,sc⟩,Z,h⟩:=h;obtain⟨p,rfl⟩:=Vj Z;replace h:=jq h;obtain⟨⟨tg,qv,q5,as⟩,U,h⟩:=h;cases Bw U;simp only[ao,m6] at h;obtain⟨⟨R,rfl⟩,h4,h5⟩:=h;obtain⟨q1,q2,B,hB,hg,q3,q4⟩:=O9 hc R;cases q2;exact xf (axg B hc.calm (Pa it hc h4) hg (λC fp s H=>(ji e (hB C fp s H) h5).v) q1 q3 q4) rfl
 |.yu v j t it i e,c,X,a,hc,h=>by
  replace h:=jq h;obtain⟨⟨q6,gs,sc⟩,Z,h⟩:=h;obtain⟨p,rfl⟩:=Vj Z;replace h:=jq h;obtain⟨⟨tg,qv,q5,as⟩,U,h⟩:=h;cases Bw U;replace h:=jq h;obtain⟨d,h6,h⟩:=h;cases Bw h6;simp only[ao] at h;obtain⟨⟨R,h7⟩,h4,h8,h5⟩:=h;obtain⟨q1,q2,B,hB,hg,q3,q4⟩:=O9 hc R;cases q2;exact xf (alv B hc.calm (Pa it hc h4) hg (λC fp s H=>(ji i (hB C fp s H) h8).q h7) (λC fp s H=>(ji e (hB C fp s H) h5).v) q1 q3 q4) rfl
theorem Ea:∀(Z:Eb){c:Ctx}{X:Cx}{a:Ya},Ed T nm W k c X->J5 T Z c a=true->PA X a (Zr nm W X.K Z)/\zb a=true
 |.nil,c,X,a,hc,h=>by
  cases m6.mp h;exact⟨afu,rfl⟩
 |.cons e Z,c,X,a,hc,h=>by
  cases a with
  |nil=>cases h
  |cons l U =>
   replace h:(noStar l&&(zx T e c l&&J5 T Z c U))=true:=h;simp only[ao] at h;obtain⟨R,G⟩:=Ea Z hc h.2.2;exact⟨Yz (ji e hc h.2.1).v R (qz h.1 _ _),by simp only[zb,ao];exact⟨h.1,G⟩⟩
theorem agj:∀(e:OEx){c:Ctx}{X:Cx}{a:Option Expr},Ed T nm W k c X->ax6 T e c a=true->PO X a (tO nm W X.K e)
 |.none,c,X,a,hc,h=>by
  cases Option.isNone_iff_eq_none.mp h;exact aqq
 |.some e,c,X,a,hc,h=>by
  replace h:=jq h;obtain⟨l,rfl,h⟩:=h;exact aqr (ji e hc h).v
theorem Pa:∀(it:Nb){c:Ctx}{X:Cx}{Z a:Expr},Ed T nm W k c X->arj T it c Z a=true->PI X Z a (tI nm W X.K it)
 |.val e,c,X,Z,a,hc,h=>a3g (ji e hc h).v
 |.Rh e,c,X,Z,a,hc,h=>by
  replace h:=jq h;obtain⟨⟨n,ls⟩,h1,h⟩:=h;obtain⟨p,p',rfl⟩:=Jv h1;replace h:=jq h;obtain⟨l,h2,h⟩:=h;cases Bw h2;simp only[ao,dm] at h;obtain⟨⟨rfl,U⟩,G,R⟩:=h;exact a3h (Lh hc U).1 (hc.mg (by decide+kernel)) (ji e hc R).v G
 |.enm e,c,X,Z,a,hc,h=>by
  replace h:=jq h;obtain⟨⟨n,ls⟩,h1,h⟩:=h;obtain⟨p,p',rfl⟩:=Jv h1;replace h:=jq h;obtain⟨l,h2,h⟩:=h;cases Bw h2;simp only[ao,dm] at h;obtain⟨⟨h6,rfl,U⟩,G,R⟩:=h;obtain⟨ts,h7⟩:=j9.mp h6;obtain⟨k0,pt,rfl⟩:=O8 h7;exact a3u (Lh hc U).1 (hc.mg (by decide+kernel)) (ji e hc R).v G
 |.zip es,c,X,Z,a,hc,h=>by
  replace h:=jq h;obtain⟨⟨n,ls⟩,h1,h⟩:=h;obtain⟨p,p',rfl⟩:=Jv h1;simp only[ao,dm] at h;obtain⟨⟨h6,rfl,U,G⟩,h7⟩:=h;obtain⟨l,ls,rfl⟩:=Vl G;obtain⟨e1,e2⟩:=Ea es hc h7;obtain⟨ts,h9⟩:=j9.mp h6;obtain⟨k0,pt,rfl⟩:=O8 h9;simp only[zb,ao] at e2;obtain⟨f1,f2⟩:=e2;exact a3v (Lh hc U).1 (hc.mg (by decide+kernel)) e1 (qz f1 _ _) (zg f2)
 |.vals e,c,X,Z,a,hc,h=>by
  replace h:=jq h;obtain⟨⟨lo,n,ap,ls,p⟩,h0,h⟩:=h;cases adw h0;simp only[ao,dm,m6] at h;obtain⟨⟨⟨rfl,h2⟩,G,rfl⟩,R⟩:=h;exact axs (ji e hc R).v (Dw h2) G
end
end
noncomputable def a4g(e:Ex):Option {b:Bool // (∃v j t it x,e=.comp v j t it x)\/∃v j t it i x,e=.yu v j t it i x}:=match e with|.comp ..=>some ⟨true,.inl ⟨_,_,_,_,_,rfl⟩⟩|.yu ..=>some ⟨true,.inr ⟨_,_,_,_,_,_,rfl⟩⟩|_=>none
def ax9(T:Tab)(c:Ctx)(l:Lv)(e:Ex)(Z v:Expr):Bool :=
 match l with
 |.tg t=>(tgB c 0 t Z&&((Qk v&&((Mr Z).isSome||as9 v))||(match t with|.name _=>(abq v).isSome&&(a4g e).isSome|_=>false)))&&zx T e c v
 |.sub o i=>Cm (amm Z) λq=>Y4 q.2&&(zx T e c v&&(zx T o c q.1&&zx T i c q.2))
 |.fld o f=>Cm (amo Z) λq=>(Qk v&&flB T.Nk f q.2.1)&&(zx T e c v&&zx T o c q.1)
noncomputable def a4h(a:Stmt):Option (List Expr×Expr):=Option.map Subtype.val (α:={q:List Expr×Expr // ∃p,a=.Assign q.1 q.2 p}) (match a with|.Assign t v p=>some ⟨(t,v),p,rfl⟩|_=>none)
noncomputable def a4i(a:Stmt):Option Expr:=Option.map Subtype.val (α:={q:Expr // ∃p,a=.Expr q p}) (match a with|.Expr v p=>some ⟨v,p,rfl⟩|_=>none)
noncomputable def a4j(a:Stmt):Option (Expr×List Stmt×List Stmt):=Option.map Subtype.val (α:={q:Expr×List Stmt×List Stmt // ∃p,a=.If q.1 q.2.1 q.2.2 p}) (match a with|.If t l r p=>some ⟨(t,l,r),p,rfl⟩|_=>none)
noncomputable def amw(a:Stmt):Option (Expr×List Stmt×List Stmt):=Option.map Subtype.val (α:={q:Expr×List Stmt×List Stmt // ∃p,a=.While q.1 q.2.1 q.2.2 p}) (match a with|.While t l r p=>some ⟨(t,l,r),p,rfl⟩|_=>none)
noncomputable def a4k(a:Stmt):Option (Expr×Expr×List Stmt×List Stmt):=Option.map Subtype.val (α:={q:Expr×Expr×List Stmt×List Stmt // ∃p,a=.For q.1 q.2.1 q.2.2.1 q.2.2.2 p}) (match a with|.For t i l r p=>some ⟨(t,i,l,r),p,rfl⟩|_=>none)
noncomputable def a4l(a:Stmt):Option (Option Expr):=Option.map Subtype.val (α:={q:Option Expr // ∃p,a=.Return q p}) (match a with|.Return v p=>some ⟨v,p,rfl⟩|_=>none)
def ark(h:a4h a=some (t,v)):∃p,a=.Assign t v p:=(V2 h :)
def arl(h:a4i a=some v):∃p,a=.Expr v p:=(V2 h :)
def arn(h:a4j a=some (t,l,r)):∃p,a=.If t l r p:=(V2 h :)
def agk(h:amw a=some (t,l,r)):∃p,a=.While t l r p:=(V2 h :)
def aro(h:a4k a=some (t,i,l,r)):∃p,a=.For t i l r p:=(V2 h :)
def arp(h:a4l a=some v):∃p,a=.Return v p:=(V2 h :)
mutual
def aya(T:Tab):Aj->Ctx->Stmt->Bool
 |.asg l e,c,a=>Cm (a4h a) λq=>Cm (Vi q.1) λt=>ax9 T c l e t q.2
 |.expr e,c,a=>Cm (a4i a) λv=>Qk v&&zx T e c v
 |.iff t x y,c,a=>Cm (a4j a) λq=>Np q.1&&(zx T t c q.1&&(Mt T x c q.2.1&&Mt T y c q.2.2))
 |.whl (.tru y) x,c,a=>Cm (amw a) λq=>((Mr q.1).isSome&&q.2.2.isEmpty)&&(zx T y c q.1&&Mt T x c q.2.1)
 |.whl t x,c,a=>Cm (amw a) λq=>(Np q.1&&q.2.2.isEmpty)&&(zx T t c q.1&&Mt T x c q.2.1)
 |.for_ t it x,c,a=>Cm (a4k a) λq=>(tgB c 0 t q.1&&(G9 q.2.1&&q.2.2.2.isEmpty))&&(arj T it c q.1 q.2.1&&Mt T x c q.2.2.1)
 |.ret e,c,a=>Cm (a4l a) λv=>Cm v (zx T e c)
 |.raise,_,_=>true
def Mt(T:Tab):my->Ctx->List Stmt->Bool
 |.nil,_,a=>a.isEmpty|.cons s r,c,a=>match a with|st::rest=>aya T s c st&&Mt T r c rest|_=>false
end
noncomputable def swB(c:Ctx)(t:Str)(pt G:Pos)(Z:Scope):Bool:=(c.sc.lookup t==some NameKind.local&&pt.line==G.line)&&!(Z.names.any λy=>y.1==t&&(y.2==.local||y.2==.cell))
def adz(Z:Ed T nm W k c X):swapsWith (.ListComp elt gs sc vp) (some (.Name t pt)) l X.env=pure (swB c t pt vp sc):=by
 have b:X.env.blockKind=.function:=by unfold Env.blockKind;rw[Z.kd];rfl
 show(pure (X.env.blockKind==.function&&X.env.kindOf t==some .local&&pt.line==vp.line&&!(sc.names.any λ(n,k)=>n==t&&(k==.local||k==.cell))):Sem Bool)=_;rw[b];unfold Env.kindOf;rw[Z.sc];simp[swB]
def amx(Z:Ed T nm W k c X)(ht:tgB c 0 (.name i) tg=true)(hv:(abq v).isSome=true)(hw:(a4g e).isSome=true)(h:zx T e c v=true):PS X (.Assign [tg] v p) (tS nm W X.K (.asg (.tg (.name i)) e)):=by
 have nd:X.N.Nodup:=by rw[Z.N];exact Z.nd
 obtain⟨⟨qq,gs,sc⟩,hq⟩:=j9.mp hv;obtain⟨y,py,rfl,hy,_⟩:=adx (nm:=nm) (W:=W) (k:=k) (T:=T) Z ht;obtain⟨⟨_,co⟩,_⟩:=j9.mp hw;obtain⟨vp,rfl⟩:=Vj hq;have G:=λl=>adz (T:=T) (nm:=nm) (W:=W) (k:=k) Z (elt:=qq) (gs:=gs) (sc:=sc) (vp:=vp) (pt:=py) (t:=y) (l:=l)
 cases hs:swB c y py vp sc with
 |false =>
  rw[hs] at G;exact alr (ji e Z h).v (agh Z ht).1 (G p.line) rfl rfl
 |true =>
  rw[hs] at G;simp only[swB,ao] at hs;have hl:X.env.scope.names.lookup y=some .local:=by rw[Z.sc];have:=hs.1.1;simpa using this
  rcases co with⟨v,j,t,it,x,rfl⟩|⟨v,j,t,it,i',x,rfl⟩
  .replace h:=jq h
   obtain⟨⟨qv,q0,q5⟩,h1,h⟩:=h;cases h1;replace h:=jq h;obtain⟨⟨tg,R,qk,as⟩,h2,h⟩:=h;cases Bw h2;simp only[ao,m6] at h;obtain⟨⟨h3,rfl⟩,h4,h5⟩:=h;obtain⟨q1,q2,B,hB,hg,q3,q4⟩:=O9 Z h3;cases q2;exact aht B Z.calm (Pa it Z h4) hg (λC U s H=>(ji x (hB C U s H) h5).v) q1 q3 q4 nd hy hl (G p.line)
  .replace h:=jq h
   obtain⟨⟨qv,q0,q5⟩,h1,h⟩:=h;cases h1;replace h:=jq h;obtain⟨⟨tg,R,qk,as⟩,h2,h⟩:=h;cases Bw h2;replace h:=jq h;obtain⟨d,h6,h⟩:=h;cases Bw h6;simp only[ao] at h;obtain⟨⟨h3,h7⟩,h4,h8,h5⟩:=h;obtain⟨q1,q2,B,hB,hg,q3,q4⟩:=O9 Z h3;cases q2;exact aa9 B Z.calm (Pa it Z h4) hg (λC U s H=>(ji i' (hB C U s H) h8).q h7) (λC U s H=>(ji x (hB C U s H) h5).v) q1 q3 q4 nd hy hl (G p.line)
section
variable{T:Tab}{nm:Nm}{W:Mg}{k:Nat}
def arq(G:Ed T nm W k c X)(h:ax9 T c l e tg v=true):PS X (.Assign [tg] v p) (tS nm W X.K (.asg l e)):=by
 cases l with
 |tg t =>
  simp only[ax9,ao,Bool.or_eq_true] at h;obtain⟨⟨h1,h2⟩,R⟩:=h;rcases h2 with⟨Z,U⟩|Z
  .have g:=agh (nm:=nm) G h1
   have sh:(∃n q,tg=.Name n q)\/∃ts k0 q,tg=.Tuple ts k0 q:=by
    cases t with
    |name i =>
     obtain⟨n,z1,_⟩:=jq h1;exact .inl ⟨n,Eu z1⟩
    |names is =>
     obtain⟨ts,z1,_⟩:=jq h1;exact .inr ⟨ts,O8 z1⟩
   rcases sh with⟨n,q,rfl⟩|⟨ts,k0,q,rfl⟩
   .exact alr (ji e G R).v g.1 (U9 Z _ _ _) rfl rfl
   .have w:as9 v=true:=by
     rcases U with U|U
     .cases U
     .exact U
    have w2:swappedStores [.Tuple ts k0 q] v X.env=pure none:=by cases v<;>first|rfl|(cases w;done)
    exact alr (ji e G R).v g.1 (U9 Z _ _ _) w2 rfl
  .cases t with
   |name i=>rw[ao] at Z;exact amx G h1 Z.1 Z.2 R|names _=>cases Z
 |sub o i =>
  replace h:=jq (show Cm (amm tg) _=true from h);obtain⟨⟨lo,li⟩,h0,h⟩:=h;obtain⟨p',rfl⟩:=Zf h0;simp only[ao] at h;obtain⟨h2,R,Z,U⟩:=h;refine alx (afo G.room) (ji e G R).v (ji o G Z).v (ji i G U).v λv=>?_
  cases li<;>first|rfl|(cases h2;done)
 |fld o f =>
  replace h:=jq (show Cm (amo tg) _=true from h);obtain⟨⟨lo,n,p'⟩,h0,h⟩:=h;cases Zg h0;simp only[ao] at h;obtain⟨⟨h1,h2⟩,R,Z⟩:=h;obtain⟨t1,t2⟩:=G.tab.fl _ _ (jn h2);exact aly t1 t2 (ji e G R).v (ji o G Z).v h1
mutual
theorem ars:∀(s:Aj){c:Ctx}{X:Cx}{a:Stmt},Ed T nm W k c X->c.fn=true->aya T s c a=true->PS X a (tS nm W X.K s)
 |.asg l e,c,X,a,hc,hf,h=>by
  replace h:=jq h;obtain⟨⟨ts,v⟩,Z,h⟩:=h;obtain⟨p,rfl⟩:=ark Z;replace h:=jq h;obtain⟨t,G,h⟩:=h;cases Bw G;exact arq hc h
 |.expr e,c,X,a,hc,hf,h=>by
  replace h:=jq h;obtain⟨v,Z,h⟩:=h;obtain⟨p,rfl⟩:=arl Z;simp only[ao] at h;exact axb (ji e hc h.2).v (Ld h.1 _ _ _)
 |.iff t x y,c,X,a,hc,hf,h=>by
  replace h:=jq h;obtain⟨⟨q,l,r⟩,Z,h⟩:=h;obtain⟨p,rfl⟩:=arn Z;simp only[ao] at h;exact a3d ((ji t hc h.2.1).q h.1) (G7 x hc hf h.2.2.1) (G7 y hc hf h.2.2.2)
 |.whl t x,c,X,a,hc,hf,h=>by
  by_cases ht:∃y,t=.tru y
  .obtain⟨y,rfl⟩:=ht
   replace h:=jq (show Cm (amw a) _=true from h);obtain⟨⟨q,l,r⟩,Z,h⟩:=h;obtain⟨p,rfl⟩:=agk Z;simp only[ao,m6] at h;obtain⟨⟨G,rfl⟩,R,U⟩:=h;obtain⟨z,G⟩:=j9.mp G;obtain⟨p',rfl⟩:=Eu G;exact ata (hc.fnl hf).2 (atg (ji y hc R).v λ_=>rfl) (G7 x hc hf U)
  replace h:Cm (amw a) (λq=>(Np q.1&&q.2.2.isEmpty)&&(zx T t c q.1&&Mt T x c q.2.1))=true:=by cases t<;>first|exact h|exact absurd ⟨_,rfl⟩ ht
  replace h:=jq h;obtain⟨⟨q,l,r⟩,Z,h⟩:=h;obtain⟨p,rfl⟩:=agk Z;simp only[ao,m6] at h;obtain⟨⟨G,rfl⟩,R,U⟩:=h;exact ata (hc.fnl hf).2 ((ji t hc R).q G) (G7 x hc hf U)
 |.for_ t it x,c,X,a,hc,hf,h=>by
  replace h:=jq h;obtain⟨⟨tg,qq,l,r⟩,Z,h⟩:=h;obtain⟨p,rfl⟩:=aro Z;simp only[ao,m6] at h;obtain⟨⟨G,R,rfl⟩,U,h5⟩:=h;exact a3f (hc.fnl hf).2 hc.calm (Pa it hc U) (agh hc G).1 (G7 x hc hf h5) R
 |.ret e,c,X,a,hc,hf,h=>by
  replace h:=jq h;obtain⟨v,Z,h⟩:=h;obtain⟨p,rfl⟩:=arp Z;replace h:=jq h;obtain⟨w,rfl,h⟩:=h;exact a3c (ji e hc h).v
 |.raise,c,X,a,hc,hf,h=>aq3
theorem G7:∀(s:my){c:Ctx}{X:Cx}{a:List Stmt},Ed T nm W k c X->c.fn=true->Mt T s c a=true->Ox X a (tSs nm W X.K s)
 |.nil,c,X,a,hc,hf,h=>by
  cases m6.mp h;exact axc
 |.cons s r,c,X,a,hc,hf,h=>by
  cases a with
  |nil=>cases h
  |cons G Z =>
   replace h:(aya T s c G&&Mt T r c Z)=true:=h;simp only[ao] at h;exact aqh (ars s hc hf h.1) (G7 r hc hf h.2)
end
end
structure Def where
 x:Str
 qual:Str
 N:List Str
 ps:List Str
noncomputable def scB(N G:Yf)(Z:Scope):Bool :=
 (decide (Z.kind=.function)&&(!Z.isCoroutine&&!Z.isGenerator))&&((decide N.Nodup&&decide (N.take G.length=G)) &&
 (G.all (λx=>Z.names.lookup x==some .local||Z.names.lookup x==some .cell)&&Z.names.all (λy=>!(y.2==NameKind.free))))
def ayb(h:scB N ps sc=true):Sh N ps sc:=by simp only[scB,ao,dm,Bool.not_eq_true',qw] at h;obtain⟨⟨h1,h2,R⟩,⟨G,U⟩,h6,Z⟩:=h;exact⟨h1,h2,R,G,U,λx m=>by have:=h6 x m;simpa using this,λy m=>by have:=Z y m;simpa using this⟩
def ah4(T:Tab)(d:Def)(F:MW.Fn)(Z:Stmt):Bool :=
 (scB d.N d.ps (Ah Z)&&(decide (F.np=d.ps.length)&&decide (F.ns=d.N.length)))&&Mt T F.body ⟨d.N,(Ah Z).names,true⟩ (Es Z)
set_option tactic.hygienic true in
def art{F:MW.Fn}(h:F.run W ds M=.ok d U):ds.length=F.np/\∃Y Z,F.body.den W (ds.map some++List.replicate (F.ns-F.np) none) M=.ok (Y,Z) U/\(Y=.ret d\/(Y=.next/\d=.non)):=by
 unfold MW.Fn.run at h;split at h
 .rename_i J
  obtain⟨⟨Y,Z⟩,C,G,e⟩:=fu h;refine⟨J,Y,Z,?_⟩;cases Y with
  |ret z=>cases e;exact⟨G,.inl rfl⟩|next=>cases e;exact⟨G,.inr ⟨rfl,rfl⟩⟩|brk=>cases e|cont=>cases e
 .cases h
def ayc{Z:MW.Prog}(U:Fun K d.x d.qual st f fd)(hF:Z.fns[i]?=some F)(h:ah4 T d F st=true)(hT:amk T nm ⟨Z.call n,Z.cls⟩ k P w K mg base):Fi P w K mg base Zq (k+17) f fd d.ps (spF nm ⟨Z.call (n+1),Z.cls⟩ K F.np i):=by
 simp only[ah4,ao,dm] at h;obtain⟨⟨h1,h2,h3⟩,h4⟩:=h;have S:=ayb h1;have go:∀R M d' M',MW.Mg.call ⟨Z.call (n+1),Z.cls⟩ i R M=.ok d' M'->F.run ⟨Z.call n,Z.cls⟩ R M=.ok d' M':=λR M d' M' e=>by have e:Z.call (n+1) i R M=.ok d' M':=e;unfold MW.Prog.call at e;rw[hF] at e;exact e
 refine U.ok (k:=k+16) S (λvs H Q E ⟨ι,M,R,d',M',_,r,l,e,_⟩=>by rw[<- r.length,l,h2]) (λqk A G s H vs Q E hr z_=>?_);obtain⟨ι,M,R,d',M',SM,r,l,e,q⟩:=z_;have hc:Ed T nm ⟨Z.call n,Z.cls⟩ k ⟨d.N,(Ah st).names,true⟩ (adb Zq P w K mg base d.N d.qual (Ah st) f qk A G s H E).nox :=
  ⟨rfl,S.nd,rfl,S.kind,rfl,hr,λ_=>⟨λ_=>rfl,PassesOwn.never⟩,hT⟩
 refine⟨_,G7 F.body hc rfl h4,?_⟩;obtain⟨hl,fl,qv,e1,e2⟩:=art (go _ _ _ _ e);refine⟨ι,_,M,fl,qv,M',SM,?_,e1,λqq H' q0 le S' R'=>?_⟩
 .unfold L2.start
  exact(rm.alo r).append (rm.aln _ (by rw[List.length_replicate,h3,<- r.length,l]))
 .rcases e2 with rfl|⟨rfl,rfl⟩
  .exact λv rv=>q qq H' v le S' rv
  .exact q qq H' _ le S' .non
theorem agl{nm:Nm}{P:Program}{w:World}{K:Fg}{mg:Zs}{base:Heap}{IR:MW.Prog}{T:Tab}{D:Nat->Def}{st:Nat->Stmt}{fa:Nat->Addr}{fd:Nat->FuncData}
 (U:∀i,i<IR.fns.length->Fun K (D i).x (D i).qual (st i) (fa i) (fd i)) (h:∀i F,IR.fns[i]?=some F->ah4 T (D i) F (st i)=true)
 (R:∀n,(∀i F,IR.fns[i]?=some F->Fi P w K mg base Zq (17*n) (fa i) (fd i) (D i).ps (spF nm ⟨IR.call n,IR.cls⟩ K F.np i))->amk T nm ⟨IR.call n,IR.cls⟩ (17*n) P w K mg base) :
 ∀n i F,IR.fns[i]?=some F->Fi P w K mg base Zq (17*n) (fa i) (fd i) (D i).ps (spF nm ⟨IR.call n,IR.cls⟩ K F.np i)
 |0,i,F,hF=>⟨(λvs H Q E ⟨ι,M,ds,d',M',_,r,l,e,_⟩=>by cases e),λA Z s H G us vs Q E hr he hb hv ⟨ι,M,ds,d',M',_,r,l,e,_⟩=>by cases e⟩
 |n+1,i,F,hF=>ayc (U i (ak.mp hF).1) hF (h i F hF) (R n (agl U h R n))
noncomputable def ayd(s:Str):Bool:=s.cps[0]?==some 0
def amy(Z:Yf):Bool:=decide Z.Nodup&&Z.all λs=>!ayd s
noncomputable def abu(Z:Yf)(i:Nat):Str:=match Z[i]? with|some s=>s|none=>⟨#[0,0,i]⟩
def amz(h:amy Nk=true)(i j:Nat)(e:abu Nk i=abu Nk j):i=j:=by
 simp only[amy,ao,dm,qw] at h;have Z:∀k,ayd ⟨#[0,0,k]⟩=true:=λk=>rfl
 unfold abu at e;cases hi:Nk[i]? with
 |some a =>
  rw[hi] at e;cases hj:Nk[j]? with
  |some b =>
   rw[hj] at e;have e:a=b:=e;subst e;obtain⟨R,G⟩:=ak.mp hi;obtain⟨l2,U⟩:=ak.mp hj;exact(zj h.1).mp (G.trans U.symm)
  |none =>
   rw[hj] at e;have e:a=⟨#[0,0,j]⟩:=e;have:=h.2 a (au hi);rw[e,Z] at this;cases this
 |none =>
  rw[hi] at e;cases hj:Nk[j]? with
  |some b =>
   rw[hj] at e;have e:(⟨#[0,0,i]⟩:Str)=b:=e;have:=h.2 b (au hj);rw[<- e,Z] at this;cases this
  |none =>
   rw[hj] at e;have e:(⟨#[0,0,i]⟩:Str)=⟨#[0,0,j]⟩:=e;simpa using e
def aye(Z:List (Option Addr))(G:Yf)(h:amy G=true):Nm:=⟨λc=>(Z[c]?).join,abu G,amz h⟩
def am0(Z:Yf)(x:Str):Bool:=!(Z.contains x)&&!ayd x
def am1(h:am0 Nk x=true)(i:Nat):abu Nk i≠x:=λe=>by
 simp only[am0,ao,Bool.not_eq_true'] at h;unfold abu at e;cases hi:Nk[i]? with
 |some a =>
  rw[hi] at e;have e:a=x:=e;rw[<- e] at h;have:=List.contains_iff_mem.mpr (au hi);rw[this] at h;cases h.1
 |none =>
  rw[hi] at e;have e:(⟨#[0,0,i]⟩:Str)=x:=e;rw[<- e] at h;cases h.2
section
variable(K:Fg)(mg:Zs)
def Zh:List Def->List Stmt->List Addr->List FuncData->Prop
 |d::ds,s::ss,a::as,f::fs=>(Fun K d.x d.qual s a f/\Binds K f d.ps [])/\Zh ds ss as fs|[],[],[],[]=>True|_,_,_,_=>False
def Qm:List (Option (Str×Nat))->List Addr->Prop
 |some p::r,a::as=>mg p.1=some (.ref a)/\Qm r as|none::r,_::as=>Qm r as|_,_=>True
def abv(C:Addr)(Z:List (Str×Nat))(G:X1):List (Nat×Nat)->Prop
 |q::r=>(∃p a,Z[q.1]?=some p/\G[q.2]?=some a/\Meth K C p.1 a)/\abv C Z G r|[]=>True
def Zi(C:Addr):List Str->Prop
 |x::r=>Ff K C x/\Zi C r|[]=>True
structure ClF(T:Tab)(J8:X1)(x:Str)(C:Addr)(cl:MW.Cl):Prop where
 mg:mg x=some (.ref C)
 cs:X8 K C
 ini:∃f,J8[cl.init]?=some f/\Mk K C f
 me:abv K C T.mts J8 cl.meths
 na:Zi K C T.Nk
def Li(T:Tab)(Z:X1):List (Option (Str×Nat))->List (Option Addr)->List MW.Cl->Prop
 |some p::r,some C::cs,cl::cls=>ClF K mg T Z p.1 C cl/\Li T Z r cs cls|none::r,none::cs,_::cls=>Li T Z r cs cls|[],[],[]=>True|_,_,_=>False
def Zj:List (Str×Int)->Prop
 |p::r=>(∃t,mg p.1=some (.int p.2 t))/\Zj r|[]=>True
def AllB:List Str->Prop
 |x::r=>mg x=none/\AllB r|[]=>True
end
theorem Zh.get{K:Fg}:∀{Z:List Def}{G:List Stmt}{as:X1}{fs:List FuncData}{i:Nat}{d:Def},Zh K Z G as fs->Z[i]?=some d->∃s a f,G[i]?=some s/\as[i]?=some a/\fs[i]?=some f/\Fun K d.x d.qual s a f/\Binds K f d.ps []
 |d::Z,s::G,a::as,f::fs,0,d',h,e=>by cases e;exact⟨s,a,f,rfl,rfl,rfl,h.1⟩
 |d::Z,s::G,a::as,f::fs,i+1,d',h,e=>by
  obtain⟨R,U,f',h1,h2,h3,h4⟩:=Zh.get (i:=i) h.2 (by simpa using e);exact⟨R,U,f',by simpa using h1,by simpa using h2,by simpa using h3,h4⟩
theorem Qm.get{mg:Zs}:∀{l:List (Option (Str×Nat))}{as:X1}{i:Nat}{p:Str×Nat}{a:Addr},Qm mg l as->l[i]?=some (some p)->as[i]?=some a->mg p.1=some (.ref a)
 |some q::l,b::as,0,p,a,h,e,e2=>by cases e;cases e2;exact h.1|none::l,b::as,0,p,a,h,e,e2=>by cases e|some q::l,b::as,i+1,p,a,h,e,e2=>Qm.get (i:=i) h.2 (by simpa using e) (by simpa using e2)|none::l,b::as,i+1,p,a,h,e,e2=>Qm.get (i:=i) (l:=l) (as:=as) h (by simpa using e) (by simpa using e2)
theorem abv.get{K:Fg}{C:Addr}{Z:List (Str×Nat)}{G:X1}:∀{l:List (Nat×Nat)}{q:Nat×Nat},abv K C Z G l->q∈l->∃p a,Z[q.1]?=some p/\G[q.2]?=some a/\Meth K C p.1 a
 |q'::l,q,h,m=>by
  rcases dg.mp m with z|z
  .rw[z];exact h.1
  .exact abv.get h.2 z
theorem Zi.get{K:Fg}{C:Addr}:∀{l:Yf}{x:Str},Zi K C l->x∈l->Ff K C x
 |y::l,x,h,m=>by
  rcases dg.mp m with z|z
  .rw[z];exact h.1
  .exact Zi.get h.2 z
theorem Li.get{K:Fg}{mg:Zs}{T:Tab}{J8:X1}:∀{l:List (Option (Str×Nat))}{cs:List (Option Addr)}{cls:List MW.Cl}{c:Nat}{p:Str×Nat},Li K mg T J8 l cs cls->l[c]?=some (some p)->∃C G,cs[c]?=some (some C)/\cls[c]?=some G/\ClF K mg T J8 p.1 C G
 |some q::l,some C::cs,G::cls,0,p,h,e=>by cases e;exact⟨C,G,rfl,rfl,h.1⟩
 |some q::l,some C::cs,G::cls,c+1,p,h,e=>by
  obtain⟨R,Z,h1,h2,U⟩:=Li.get (c:=c) h.2 (by simpa using e);exact⟨R,Z,by simpa using h1,by simpa using h2,U⟩
 |none::l,none::cs,G::cls,0,p,h,e=>by cases e
 |none::l,none::cs,G::cls,c+1,p,h,e=>by
  obtain⟨R,Z,h1,h2,U⟩:=Li.get (l:=l) (cs:=cs) (cls:=cls) (c:=c) h (by simpa using e);exact⟨R,Z,by simpa using h1,by simpa using h2,U⟩
theorem Li.at{K:Fg}{mg:Zs}{T:Tab}{Z:X1}:∀{l:List (Option (Str×Nat))}{cs:List (Option Addr)}{cls:List MW.Cl}{c:Nat}{C:Addr},Li K mg T Z l cs cls->cs[c]?=some (some C)->X8 K C/\Zi K C T.Nk
 |some q::l,some C::cs,cl::cls,0,p,h,e=>by cases e;exact⟨h.1.cs,h.1.na⟩|some q::l,some C::cs,cl::cls,c+1,p,h,e=>Li.at (c:=c) h.2 (by simpa using e)|none::l,none::cs,cl::cls,0,p,h,e=>by cases e|[],[],_,_,_,_,e=>by simp at e|[],_::_,[],_,_,h,_=>h.elim|[],_::_,_::_,_,_,h,_=>h.elim|none::l,none::cs,cl::cls,c+1,p,h,e=>Li.at (l:=l) (cs:=cs) (cls:=cls) (c:=c) h (by simpa using e)
theorem Zj.get{mg:Zs}:∀{l:List (Str×Int)}{x:Str}{i:Int},Zj mg l->(x,i)∈l->∃t,mg x=some (.int i t)
 |q::l,x,i,h,m=>by
  rcases dg.mp m with z|z
  .rw[<- z] at h;exact h.1
  .exact Zj.get h.2 z
theorem AllB.get{mg:Zs}:∀{l:Yf}{x:Str},AllB mg l->x∈l->mg x=none
 |q::l,x,h,m=>by
  rcases dg.mp m with z|z
  .rw[z];exact h.1
  .exact AllB.get h.2 z
def aru(T:Tab):List MW.Fn->List Def->List Stmt->Bool
 |F::Fs,d::ds,s::ss=>ah4 T d F s&&aru T Fs ds ss|[],[],[]=>true|_,_,_=>false
noncomputable def npB(Z:List MW.Fn)(f n:Nat):Bool:=match Z[f]? with|some F=>F.np==n|none=>false
def tfB(Z:List MW.Fn)(l:List (Option (Str×Nat))):Bool:=l.zipIdx.all λq=>match q.1 with|some p=>npB Z q.2 p.2|none=>true
def tcB(Z:MW.Prog)(l:List (Option (Str×Nat))):Bool:=l.zipIdx.all λq=>match q.1 with|some p=>(match Z.cls[q.2]? with|some G=>npB Z.fns G.init (p.2+1)|none=>false)|none=>true
noncomputable def a97(Z:List MW.Cl)(m c f:Nat):Bool:=Z.zipIdx.all λq=>match q.1.meths.lookup m with|none=>true|some g=>q.2==c&&g==f
def tmB(G:MW.Prog)(T:Tab)(mcs:List (Nat×Nat)):Bool:=T.mts.zipIdx.all λq=>match mcs[q.2]? with
 |some Z=>(a97 G.cls q.2 Z.1 Z.2&&(npB G.fns Z.2 (q.1.2+1)&&am0 T.Nk q.1.1))&&((match T.cls[Z.1]? with|some (some _)=>true|_=>false)&&(match G.cls[Z.1]? with|some U=>U.meths.lookup q.2==some Z.2|none=>false))
 |none=>false
def Jw{Z:Type}{l:List Z}{g:Z×Nat->Bool}(h:l.zipIdx.all g=true){x:Z}(e:l[i]?=some x):g (x,i)=true:=by rw[qw] at h;exact h (x,i) (by rw[jw];exact⟨i,by rw[wy,e];simp⟩)
set_option tactic.hygienic true in
def ad0(h:npB fns f n=true):∃F,fns[f]?=some F/\F.np=n:=by
 unfold npB at h;split at h
 .rename_i F e;exact⟨F,e,eq_of_beq h⟩
 .cases h
theorem Vm{T:Tab}:∀{Z:List MW.Fn}{G:List Def}{U:List Stmt}{i:Nat}{F:MW.Fn},aru T Z G U=true->Z[i]?=some F->∃d s,G[i]?=some d/\U[i]?=some s/\ah4 T d F s=true
 |F::Z,d::G,s::U,0,F',h,e=>by
  replace h:=Bool.and_eq_true_iff.mp h;cases e;exact⟨d,s,rfl,rfl,h.1⟩
 |F::Z,d::G,s::U,i+1,F',h,e=>by
  replace h:=Bool.and_eq_true_iff.mp h;obtain⟨d',R,h1,h2,h3⟩:=Vm (i:=i) h.2 (by simpa using e);exact⟨d',R,by simpa using h1,by simpa using h2,h3⟩
 |[],_,_,_,_,_,e=>by simp at e|_::_,[],_,_,_,h,_=>by cases h|_::_,_::_,[],_,_,h,_=>by cases h
set_option tactic.hygienic true in
def ayf(qq:amy T.Nk=true)(hP:aru T IR.fns Ds ss=true)(h1:tfB IR.fns T.fns=true)(h2:tcB IR T.cls=true)(h3:tmB IR T mcs=true)(aF:Zh K Ds ss U fds)(aG:Qm mg T.fns U)(aC:Li K mg T U T.cls cas IR.cls)(aV:Zj mg T.aq8)(aB:AllB mg Lg)(hF:IR.fns[i]?=some F) :
 ∃d a f,Ds[i]?=some d/\U[i]?=some a/\fds[i]?=some f/\Binds K f d.ps []/\Fi P w K mg base Zq (17*n) a f d.ps (spF (aye cas T.Nk qq) ⟨IR.call n,IR.cls⟩ K F.np i):=by
 let dd:Def:=⟨Str.empty,Str.empty,[],[]⟩
 let sd:Stmt:=.Pass ⟨0,0,0,0⟩
 obtain⟨d,s,g1,g2,g3⟩:=Vm hP hF;have all:∀(i:Nat)(F:MW.Fn),IR.fns[i]?=some F->∃d s a f,Ds[i]?=some d/\ss[i]?=some s/\U[i]?=some a/\fds[i]?=some f/\Fun K d.x d.qual s a f/\Binds K f d.ps []/\ah4 T d F s=true:=λi F e=>by
  refine hG λ_ _k=>?_
  obtain⟨d,s,g1,g2,g3⟩:=Vm hP e;obtain⟨s',a,f,Y,S,Z,R,u⟩:=aF.get g1;rw[g2] at Y;cases Y;apply _k;exact⟨d,s,a,f,g1,g2,S,Z,R,u,g3⟩
 have df:∀{j:Nat}{a:Addr}{f:FuncData}{d:Def},U[j]?=some a->fds[j]?=some f->Ds[j]?=some d->(U[j]?).getD 0=a/\Ds[j]?.getD dd=d:=λJ L e3=>⟨by rw[J];rfl,by rw[e3];rfl⟩
 obtain⟨qv,q7⟩:∃qv:FuncData,True:=by obtain⟨s',a,f,_⟩:=aF.get g1;exact⟨f,trivial⟩
 have qk:=agl (nm:=aye cas T.Nk qq) (P:=P) (w:=w) (K:=K) (mg:=mg) (base:=base) (IR:=IR) (T:=T) (D:=λi=>Ds[i]?.getD dd) (st:=λi=>ss[i]?.getD sd) (fa:=λi=>(U[i]?).getD 0) (fd:=λi=>(fds[i]?).getD qv)
  (λi hi=>by
   refine hG λ_ _k=>?_
   obtain⟨d,s,a,f,Y,S,Z,R,u,k6,k7⟩:=all i IR.fns[i] (by simp[hi]);apply _k;rw[Y,S,Z,R];exact u)
  (λi F e=>by
   refine hG λ_ _k=>?_
   obtain⟨d,s,a,f,Y,S,Z,R,u,k6,k7⟩:=all i F e;apply _k;rw[Y,S];exact k7)
  (λn G=>?_) n i F hF
 .refine hG λ_ _k=>?_
  obtain⟨d',s',a,f,Y,S,Z,R,u,k6,k7⟩:=all i F hF;apply _k;refine⟨d',a,f,Y,Z,R,k6,?_⟩;have:=qk;rw[Y,Z,R] at this;exact this
 ·
  have at_:∀{j:Nat}{F:MW.Fn}{a:Addr},IR.fns[j]?=some F->U[j]?=some a->∃(f:FuncData)(d:Def),Binds K f d.ps []/\Fi P w K mg base Zq (17*n) a f d.ps (spF (aye cas T.Nk qq) ⟨IR.call n,IR.cls⟩ K F.np j)/\PySem.W.keepIn K (.ref a)=true:=fun{j F a} J L=>by
   refine hG λ_ _k=>?_
   obtain⟨d,s,a',f,Y,S,Z,R,u,k6,k7⟩:=all j F J;rw[L] at Z;cases Z;have g:=G j F J;rw[Y,L,R] at g;apply _k;exact⟨f,d,k6,g,u.kp⟩
  have addr:∀{j:Nat}{F:MW.Fn},IR.fns[j]?=some F->∃a,U[j]?=some a:=fun{j F} e=>by
   refine hG λ_ _k=>?_
   obtain⟨d,s,a',f,Y,S,Z,_⟩:=all j F e;apply _k;exact⟨a',Z⟩
  refine⟨λf x m e=>?_,λc x m e=>?_,λm x j e=>?_,λf x e=>?_,λx i m=>aV.get m,λx m=>aB.get m⟩
  .refine hG λ_ _k=>?_
   obtain⟨F,J,L⟩:=ad0 (Jw h1 e);obtain⟨a,e3⟩:=addr J;obtain⟨fd,d,b,g,kp⟩:=at_ J e3;rw[L] at g;apply _k;exact⟨a,fd,d.ps,g,aG.get e e3,kp,b⟩
  .refine hG λ_ _k=>?_
   obtain⟨C,cl,q1,q2,q3⟩:=aC.get e;have z:=Jw h2 e;simp only[q2] at z;obtain⟨F,J,L⟩:=ad0 z;obtain⟨f,f1,f2⟩:=q3.ini;obtain⟨fd,d,b,g,kp⟩:=at_ J f1;rw[L] at g;apply _k;exact⟨C,f,fd,d.ps,cl,f2,g,q3.mg,b,q2,by show(cas[c]?).join=some C;rw[q1];rfl⟩
  .have z:=Jw h3 e
   simp only at z;split at z
   .rename_i cf zz
    simp only[ao] at z;refine hG λ_ _k=>?_
    obtain⟨⟨z1,z2,z3⟩,z4,z5⟩:=z;obtain⟨F,J,L⟩:=ad0 z2;apply _k;split at z4
    .rename_i p hp
     refine hG λ_ _k=>?_
     obtain⟨C,cl,q1,q2,q3⟩:=aC.get hp;rw[q2] at z5;simp only at z5;have mem:(m,cf.2)∈cl.meths:=mem_of_lookup (eq_of_beq z5);obtain⟨p',a,r1,r2,r3⟩:=q3.me.get mem;rw[e] at r1;cases r1;obtain⟨fd,d,b,g,kp⟩:=at_ J r2;rw[L] at g;apply _k;refine⟨C,a,fd,d.ps,cf.2,q3.cs,r3,g,b,λc' q6 q5 g' q0=>?_,am1 z3⟩;have y:=Jw z1 q5;simp only[q0,ao] at y;have y1:c'=cf.1:=eq_of_beq y.1;exact⟨by show(cas[c']?).join=some C;rw[y1,q1];rfl,eq_of_beq y.2⟩
    .cases z4
   .cases z
  .refine⟨by show x=abu T.Nk f;unfold abu;rw[e],λc C hC=>?_⟩
   have hC:(cas[c]?).join=some C:=hC;have q4:cas[c]?=some (some C):=by
    cases q:cas[c]? with
    |none=>rw[q] at hC;cases hC
    |some o=>rw[q] at hC;cases o with
     |none=>cases hC|some C'=>cases hC;rfl
   obtain⟨y1,y2⟩:=aC.at q4;exact⟨y1,y2.get (au e)⟩
def fN:Zh K [] [] [] []:=trivial
def gN:Qm mg [] as:=trivial
def gS(h:mg p.1=some (.ref a))(t:Qm mg r Z):Qm mg (some p::r) (a::Z):=⟨h,t⟩
def gO(t:Qm mg r Z):Qm mg (none::r) (a::Z):=t
def mN:abv K C mts Z []:=trivial
def mC(U:mts[q.1]?=some p)(G:Z[q.2]?=some a)(m:Meth K C p.1 a)(t:abv K C mts Z r):abv K C mts Z (q::r):=⟨⟨p,a,U,G,m⟩,t⟩
def nN:Zi K C []:=trivial
def nC(h:Ff K C x)(t:Zi K C r):Zi K C (x::r):=⟨h,t⟩
def cN:Li K mg T Z [] [] []:=trivial
def cO(t:Li K mg T Z r cs cls):Li K mg T Z (none::r) (none::cs) (cl::cls):=t
def cS(h:ClF K mg T Z p.1 C cl)(t:Li K mg T Z r cs cls):Li K mg T Z (some p::r) (some C::cs) (cl::cls):=⟨h,t⟩
def vN:Zj mg []:=trivial
def vC(h:mg p.1=some (.int p.2 t))(q:Zj mg r):Zj mg (p::r):=⟨⟨t,h⟩,q⟩
def bN:AllB mg []:=trivial
def bC(h:mg x=none)(q:AllB mg r):AllB mg (x::r):=⟨h,q⟩
abbrev Lk(K:Fg)(f:Addr)(x q:Str)(st:Stmt)(oc:Value)(od:Option Addr)(kV dc pm:Value)(an:Option Addr)(cd ct:Value)(sl:Array (Option Value)):Prop :=
 K.lookup f=some ⟨oc,od,.func (PySem.W.fnOf x q (Ho st) (Es st) (Ah st) .none kV dc pm an cd ct),sl⟩/\PySem.W.codeIn K cd q=true/\PySem.W.keepIn K (.ref f)=true
noncomputable def ayg:Nat->(List Value->Prop)->Prop|0,P=>P []|n+1,P=>∀a,ayg n λZ=>P (a::Z)
theorem agm:∀{us:Zl}{P:List Value->Prop},ayg us.length P->P us|[],_,h=>h|a::us,_,h=>agm (us:=us) (h a)
def fE{kV:Value}(l:Lk K a d.x d.qual s oc od kV dc R U cd Z sl)(r:Zh K ds ss as fs)
 (b:∀(kV qq R:Value)(U:Option Addr)(G Z:Value),ayg d.ps.length λus=>bindArgs (PySem.W.fnOf d.x d.qual (Ho s) (Es s) (Ah s) .none kV qq R U G Z) ⟨us,[]⟩=pure (d.ps.zip us):=by(repeat intro _);rfl) :
 Zh K (d::ds) (s::ss) (a::as) (PySem.W.fnOf d.x d.qual (Ho s) (Es s) (Ah s) .none kV dc R U cd Z::fs):=⟨⟨alj l.1 l.2.1 l.2.2,(alj l.1 l.2.1 l.2.2).binds λ_ _ _ _ _ _ _ e=>agm (e▸b _ _ _ _ _ _)⟩,r⟩
noncomputable def agn(K:Fg):Sp:=λG H Q _=>∃(a:Addr)(Z:X9),G=[.ref a]/\Only H/\Ew K H a (Z.map V.int)/\Z.length<=63/\∀U,Q (.bl true) U
def arv(o:Only H)(h:Ew K H a vs):Yw K H a vs:=by
 rcases h with(h|h)|h
 .rcases o a with z|⟨ob,xs,z⟩<;>rw[z] at h<;>cases h
 .exact .inl h
 .exact .inr h
def arx(run:∀(Z:X9),Z.length<=63->∃G,W.call i [.fz (Z.map MW.D.int)] []=.ok (.bl true) G)(h:agn K vs H Q E):spF nm W K 1 i vs H Q E:=by obtain⟨a,Z,rfl,o,R,U,k⟩:=h;obtain⟨G,e⟩:=run Z U;refine⟨⟨[],[]⟩,[],_,_,G,⟨rfl,List.nodup_nil,by simp,λn o a h=>by simp at h⟩,.cons (.fz (arv o R) (nj.ints Z)) .nil,rfl,e,λqq H' v le S' r=>?_⟩;cases r;exact k H'
def walk{l:PySem.W.OpenLaw}{K:Params->Fg}(hn:l.most=some 63)(G:d.params.defaults=[])(hY:∀(w:World) (h:Heap),YP w h->(K w.params).In h)(F:∀(w:World) (mg:Zs) (R:Addr) (h:Heap),(K w.params).In h->h.Ns mainGlobals mg->mg d.name=some (.ref R) ->
 ∃U:FuncData,(∀(s:Shared) (u:Value),BindsTo s U ⟨[u],[]⟩ [("script",u)])/\∀Z:Heap,(K w.params).In Z->Z.Ns mainGlobals mg->Fi l.prog w (K w.params) mg Z Zq 170 R U ["script"] (agn (K w.params))) :
 PySem.W.WalkO q loose XP YP l.row.toRowW d [] (λf vs=>PySem.call f vs) :=
 L2.ap9 (n:=63) (k:=170) (x := "script") (CX:=λ_=>Zq) (sp:=λw=>agn (K w.params)) hn (by decide) G ⟨rfl,by decide,by decide⟩ hY F (λ_ _ a ns hl ho hS=>⟨a,ns,rfl,ho,hS,hl,λ_=>rfl⟩) λ_ _ _ _ _ z=>z
end Ck
namespace K72
open PySem L2
noncomputable def top(i:Nat):Stmt:=PySem.Challenge.pw_mapwright_k72_steps.main.body.getD i (.Pass ⟨0,0,0,0⟩)
def sts:List Stmt:=[top 32,top 33,top 34,top 10,top 11,top 12,top 13,top 14,top 15,top 16,top 17,top 18,top 19,top 20,top 21,inClass (top 23) 0,inClass (top 23) 1,inClass (top 23) 2,inClass (top 23) 3,top 24,top 25,top 26,top 27,top 28,top 30,top 35,top 36,top 37,top 38,top 39,top 40,top 41,top 42,top 43,top 44,top 45,top 46]
noncomputable def Ds:List Ck.Def:=[⟨"_law_cell_at", "_law_cell_at",["script", "k"],["script", "k"]⟩,⟨"_law_state", "_law_state",["script", "k", "cell"],["script", "k"]⟩,⟨"_law_take", "_law_take",["state", "many", "found", "mixed"],["state", "many"]⟩,⟨"check_saying", "check_saying",["saying", "ends"],["saying"]⟩,⟨"check_ends", "check_ends",["ends", "start", "goal"],["ends"]⟩,⟨"comes_back", "comes_back",["ends", "left", "many", "goals"],["ends"]⟩,⟨"check_given", "check_given",["ends", "given", "told"],["ends", "given"]⟩,⟨"can_be_given", "can_be_given",["ends", "told"],["ends", "told"]⟩,⟨"is_arrow", "is_arrow",["ends", "number"],["ends", "number"]⟩,⟨"is_way", "is_way",["ends", "way"],["ends", "way"]⟩,⟨"way_start", "way_start",["ends", "way"],["ends", "way"]⟩,⟨"way_goal", "way_goal",["ends", "way"],["ends", "way"]⟩,⟨"are_beside", "are_beside",["ends", "one", "other"],["ends", "one", "other"]⟩,⟨"all_ways", "all_ways",["ends", "told", "fresh", "longer", "way", "goal"],["ends"]⟩,⟨"apart_arrows", "apart_arrows",["given"],["given"]⟩,⟨"__init__", "Ties.__init__",["self"],["self"]⟩,⟨"mark", "Ties.mark",["self", "way"],["self", "way"]⟩,⟨"are_tied", "Ties.are_tied",["self", "one", "other"],["self", "one", "other"]⟩,⟨"take", "Ties.take",["self", "step", "kept", "gone", "way"],["self", "step"]⟩,⟨"is_right", "is_right",["saying", "ties", "step", "why"],["saying", "ties", "step"]⟩,⟨"is_given", "is_given",["given", "step", "place"],["given", "step", "place"]⟩,⟨"is_put", "is_put",["ties", "step", "ahead", "behind", "one", "other"],["ties", "step", "ahead", "behind"]⟩,⟨"between", "between",["way", "ahead", "behind", "stop", "inner"],["way", "ahead", "behind"]⟩,⟨"is_off", "is_off",["saying", "ties", "step", "arrow", "one", "other"],["saying", "ties", "step", "arrow"]⟩,⟨"follows", "follows",["saying", "steps", "ties", "step"],["saying", "steps"]⟩,⟨"_law_all_ways", "_law_all_ways",["ends", "found", "at", "last"],["ends"]⟩,⟨"_law_alike_ends", "_law_alike_ends",["ends", "rows", "way", "pairs", "row", "one"],["ends"]⟩,⟨"_law_saying", "_law_saying",["state", "ends", "k", "one", "known", "pairs", "given", "turn", "unlike"],["state"]⟩,⟨"_law_ends_of", "_law_ends_of",["ends", "way", "k"],["ends", "way"]⟩,⟨"_law_together", "_law_together",["steps", "one", "other", "reached", "at", "step", "here", "there"],["steps", "one", "other"]⟩,⟨"_law_is_step", "_law_is_step",["saying", "steps", "step", "ends", "given", "aim", "one", "other", "why", "longer", "cores", "way", "last"],["saying", "steps", "step"]⟩,⟨"_law_shown", "_law_shown",["saying", "steps", "k"],["saying", "steps"]⟩,⟨"_law_next", "_law_next",["saying", "steps", "ends", "given", "aim", "found", "one", "other", "why", "start", "end", "some", "longer", "agree"],["saying", "steps"]⟩,⟨"_law_steps", "_law_steps",["saying", "steps", "grown", "step"],["saying"]⟩,⟨"_law_why", "_law_why",["state", "ends", "why", "far", "ways", "some"],["state", "ends", "why"]⟩,⟨"_law_bent", "_law_bent",["state", "saying", "steps", "ends", "at", "one", "other", "why", "way", "ways", "strange"],["state", "saying", "steps"]⟩,⟨"law", "law",["script", "state", "turn", "saying", "steps", "more", "some", "found", "again"],["script"]⟩]
noncomputable def tab:Ck.Tab:=⟨[(some ("_law_cell_at",2):Y2),(some ("_law_state",2):Y2),(some ("_law_take",2):Y2),(some ("check_saying",1):Y2),(some ("check_ends",1):Y2),(some ("comes_back",1):Y2),(some ("check_given",2):Y2),(some ("can_be_given",2):Y2),(some ("is_arrow",2):Y2),(some ("is_way",2):Y2),(some ("way_start",2):Y2),(some ("way_goal",2):Y2),(some ("are_beside",3):Y2),(some ("all_ways",1):Y2),(some ("apart_arrows",1):Y2),none,none,none,none,(some ("is_right",3):Y2),(some ("is_given",3):Y2),(some ("is_put",4):Y2),(some ("between",3):Y2),(some ("is_off",4):Y2),(some ("follows",2):Y2),(some ("_law_all_ways",1):Y2),(some ("_law_alike_ends",1):Y2),(some ("_law_saying",1):Y2),(some ("_law_ends_of",2):Y2),(some ("_law_together",3):Y2),(some ("_law_is_step",3):Y2),(some ("_law_shown",2):Y2),(some ("_law_next",2):Y2),(some ("_law_steps",1):Y2),(some ("_law_why",3):Y2),(some ("_law_bent",3):Y2),(some ("law",1):Y2)],[none,none,none,some ("Ties",0)],[("mark",1),("are_tied",2),("take",1)],["marks", "steps"],[("MOST_ARROWS",10),("LAST_SET",7),("MOST_GIVEN",8),("MOST_WAYS",60)]⟩
noncomputable def mcs:List (Nat×Nat):=[(3,16),(3,17),(3,18)]
def chk:Ck.aru tab prog.fns Ds sts=true:=by decide+kernel
def a99:Ck.amy tab.Nk=true:=by decide+kernel
def baa:Ck.tfB prog.fns tab.fns=true:=by decide+kernel
def bab:Ck.tcB prog tab.cls=true:=by decide+kernel
def bac:Ck.tmB prog tab mcs=true:=by decide+kernel
open PySem.W
set_option maxHeartbeats 0 in
def all_mk{l:OpenLaw}{K:Frag}{h:Heap}(X:K.In h)(G:h.Ns mainGlobals mg)(x3:mg "law" = some (.ref fa))
 (y0:nsIn K mainGlobals "Ties" = some (some (.ref U)))
 (a0:nsIn K mainGlobals "_law_cell_at" = some (some (.ref f0)))
 (l0:Ck.Lk K f0 "_law_cell_at" "_law_cell_at" (top 32) oc0 od0 kV0 dc0 pm0 an0 cd0 ct0 sl0)
 (a1:nsIn K mainGlobals "_law_state" = some (some (.ref f1)))
 (l1:Ck.Lk K f1 "_law_state" "_law_state" (top 33) oc1 od1 kV1 dc1 pm1 an1 cd1 ct1 sl1)
 (a2:nsIn K mainGlobals "_law_take" = some (some (.ref f2)))
 (l2:Ck.Lk K f2 "_law_take" "_law_take" (top 34) oc2 od2 kV2 dc2 pm2 an2 cd2 ct2 sl2)
 (a3:nsIn K mainGlobals "check_saying" = some (some (.ref f3)))
 (l3:Ck.Lk K f3 "check_saying" "check_saying" (top 10) oc3 od3 kV3 dc3 pm3 an3 cd3 ct3 sl3)
 (a4:nsIn K mainGlobals "check_ends" = some (some (.ref f4)))
 (l4:Ck.Lk K f4 "check_ends" "check_ends" (top 11) oc4 od4 kV4 dc4 pm4 an4 cd4 ct4 sl4)
 (a5:nsIn K mainGlobals "comes_back" = some (some (.ref f5)))
 (l5:Ck.Lk K f5 "comes_back" "comes_back" (top 12) oc5 od5 kV5 dc5 pm5 an5 cd5 ct5 sl5)
 (a6:nsIn K mainGlobals "check_given" = some (some (.ref f6)))
 (l6:Ck.Lk K f6 "check_given" "check_given" (top 13) oc6 od6 kV6 dc6 pm6 an6 cd6 ct6 sl6)
 (a7:nsIn K mainGlobals "can_be_given" = some (some (.ref f7)))
 (l7:Ck.Lk K f7 "can_be_given" "can_be_given" (top 14) oc7 od7 kV7 dc7 pm7 an7 cd7 ct7 sl7)
 (a8:nsIn K mainGlobals "is_arrow" = some (some (.ref f8)))
 (l8:Ck.Lk K f8 "is_arrow" "is_arrow" (top 15) oc8 od8 kV8 dc8 pm8 an8 cd8 ct8 sl8)
 (a9:nsIn K mainGlobals "is_way" = some (some (.ref f9)))
 (l9:Ck.Lk K f9 "is_way" "is_way" (top 16) oc9 od9 kV9 dc9 pm9 an9 cd9 ct9 sl9)
 (a10:nsIn K mainGlobals "way_start" = some (some (.ref f10)))
 (u2:Ck.Lk K f10 "way_start" "way_start" (top 17) bff bfg bfh bfi bfj bfk bfl bfm bfn)
 (a11:nsIn K mainGlobals "way_goal" = some (some (.ref f11)))
 (x4:Ck.Lk K f11 "way_goal" "way_goal" (top 18) bfp bfq bfr bfs bft bfu bfv bfw bfx)
 (y3:nsIn K mainGlobals "are_beside" = some (some (.ref f12)))
 (q5:Ck.Lk K f12 "are_beside" "are_beside" (top 19) bfz bf0 bf1 bf2 bf3 bf4 bf5 bf6 bf7)
 (x8:nsIn K mainGlobals "all_ways" = some (some (.ref f13)))
 (u1:Ck.Lk K f13 "all_ways" "all_ways" (top 20) bf9 bga bgb bgc bgd bge bgf bgg bgh)
 (q7:nsIn K mainGlobals "apart_arrows" = some (some (.ref f14)))
 (zv:Ck.Lk K f14 "apart_arrows" "apart_arrows" (top 21) bgj bgk bgl bgm bgn bgo bgp bgq bgr)
 (q3:findIn K (.ref U) "__init__" = some (some (.ref f15)))
 (i15:isFn K (.ref f15)=true)
 (l15:Ck.Lk K f15 "__init__" "Ties.__init__" (inClass (top 23) 0) bgu bgv bgw bgx bgy bgz bg0 bg1 bg2)
 (a16:findIn K (.ref U) "mark" = some (some (.ref f16)))
 (yy:isFn K (.ref f16)=true)
 (qv:Ck.Lk K f16 "mark" "Ties.mark" (inClass (top 23) 1) bg4 bg5 bg6 bg7 bg8 bg9 bha bhb bhc)
 (yk:findIn K (.ref U) "are_tied" = some (some (.ref f17)))
 (y4:isFn K (.ref f17)=true)
 (qq:Ck.Lk K f17 "are_tied" "Ties.are_tied" (inClass (top 23) 2) bhe bhf bhg bhh bhi bhj bhk bhl bhm)
 (a18:findIn K (.ref U) "take" = some (some (.ref f18)))
 (zw:isFn K (.ref f18)=true)
 (qk:Ck.Lk K f18 "take" "Ties.take" (inClass (top 23) 3) bho bhp bhq bhr bhs bht bhu bhv bhw)
 (u4:nsIn K mainGlobals "is_right" = some (some (.ref f19)))
 (y9:Ck.Lk K f19 "is_right" "is_right" (top 24) bhy bhz bh0 bh1 bh2 bh3 bh4 bh5 bh6)
 (zz:nsIn K mainGlobals "is_given" = some (some (.ref f20)))
 (l20:Ck.Lk K f20 "is_given" "is_given" (top 25) bh8 bh9 bia bib bic bid bie bih bii)
 (jv:nsIn K mainGlobals "is_put" = some (some (.ref f21)))
 (l21:Ck.Lk K f21 "is_put" "is_put" (top 26) bik bil bim bio bip biq bir bis biu)
 (uu:nsIn K mainGlobals "between" = some (some (.ref f22)))
 (l22:Ck.Lk K f22 "between" "between" (top 27) biw bix biy biz bi0 bi1 bi2 bi3 bi4)
 (uk:nsIn K mainGlobals "is_off" = some (some (.ref f23)))
 (q1:Ck.Lk K f23 "is_off" "is_off" (top 28) bi6 bi7 bi8 bi9 bja bjb bjc bjd bje)
 (u7:nsIn K mainGlobals "follows" = some (some (.ref f24)))
 (q6:Ck.Lk K f24 "follows" "follows" (top 30) bjg bjh bji bjj bjk bjl bjm bjn bjo)
 (yu:nsIn K mainGlobals "_law_all_ways" = some (some (.ref f25)))
 (uv:Ck.Lk K f25 "_law_all_ways" "_law_all_ways" (top 35) bjq bjr bjs bjt bju bjv bjw bjx bjy)
 (uj:nsIn K mainGlobals "_law_alike_ends" = some (some (.ref f26)))
 (l26:Ck.Lk K f26 "_law_alike_ends" "_law_alike_ends" (top 36) bj0 bj1 bj2 bj3 bj4 bj5 bj6 bj7 bj8)
 (y8:nsIn K mainGlobals "_law_saying" = some (some (.ref f27)))
 (y5:Ck.Lk K f27 "_law_saying" "_law_saying" (top 37) bka bkb bkc bkd bke bkf bkg bkh bki)
 (y6:nsIn K mainGlobals "_law_ends_of" = some (some (.ref f28)))
 (q4:Ck.Lk K f28 "_law_ends_of" "_law_ends_of" (top 38) bkk bkl bkm bkn bko bkp bkq bkr bks)
 (q0:nsIn K mainGlobals "_law_together" = some (some (.ref f29)))
 (l29:Ck.Lk K f29 "_law_together" "_law_together" (top 39) bku bkv bkw bkx bky bkz bk0 bk1 bk2)
 (y7:nsIn K mainGlobals "_law_is_step" = some (some (.ref f30)))
 (yv:Ck.Lk K f30 "_law_is_step" "_law_is_step" (top 40) bk4 bk5 bk6 bk7 bk8 bk9 bla blb blc)
 (a31:nsIn K mainGlobals "_law_shown" = some (some (.ref f31)))
 (x5:Ck.Lk K f31 "_law_shown" "_law_shown" (top 41) blf blg blh bli blj bll blm bln blo)
 (zk:nsIn K mainGlobals "_law_next" = some (some (.ref f32)))
 (x2:Ck.Lk K f32 "_law_next" "_law_next" (top 42) blq blr bls blu blv blw blx bly blz)
 (x7:nsIn K mainGlobals "_law_steps" = some (some (.ref f33)))
 (xv:Ck.Lk K f33 "_law_steps" "_law_steps" (top 43) bl3 bl4 bl5 bl6 bl7 bl8 bl9 bma bmb)
 (x6:nsIn K mainGlobals "_law_why" = some (some (.ref f34)))
 (xy:Ck.Lk K f34 "_law_why" "_law_why" (top 44) bmd bme bmf bmg bmh bmi bmj bmk bml)
 (q2:nsIn K mainGlobals "_law_bent" = some (some (.ref f35)))
 (l35:Ck.Lk K f35 "_law_bent" "_law_bent" (top 45) bmn bmo bmp bmq bmr bms bmt bmu bmv)
 (R:nsIn K mainGlobals "law" = some (some (.ref f36)))
 (u3:Ck.Lk K f36 "law" "law" (top 46) bmy bmz bae baf bag bah bai baj bm0)
 (pg3:plainGet K U Str.empty=true)
 (xw:hasDictIn K U=true)
 (y1:plainOver K U=true)
 (x9:findIn K (.ref U) "__setattr__" = some (some (.builtin "object.__setattr__")))
 (mk3:makesIn K U=true)
 (xk:keepIn K (.ref U)=true)
 (x1:findIn K (.ref U) "marks" = some none)
 (bal:findIn K (.ref U) "steps" = some none)
 (v0:nsIn K mainGlobals "MOST_ARROWS" = some (some (.int (10) tk0)))
 (v1:nsIn K mainGlobals "LAST_SET" = some (some (.int (7) tk1)))
 (v2:nsIn K mainGlobals "MOST_GIVEN" = some (some (.int (8) tk2)))
 (v3:nsIn K mainGlobals "MOST_WAYS" = some (some (.int (60) tk3)))
 (z0:nsIn K mainGlobals "len" = some none)
 (z1:nsIn K mainGlobals "tuple" = some none)
 (z2:nsIn K mainGlobals "list" = some none)
 (z3:nsIn K mainGlobals "max" = some none)
 (z4:nsIn K mainGlobals "min" = some none)
 (z5:nsIn K mainGlobals "isinstance" = some none)
 (z6:nsIn K mainGlobals "range" = some none)
 (z7:nsIn K mainGlobals "enumerate" = some none)
 (z8:nsIn K mainGlobals "set" = some none)
 (z9:nsIn K mainGlobals "zip" = some none)
 (xx:nsIn K mainGlobals "all" = some none)
 (y2:nsIn K mainGlobals "bool" = some none)
 : ∃fd:FuncData,(∀(s:Shared)(v:Value),BindsTo s fd ⟨[v],[]⟩ [("script",v)])/\∀Z:Heap,K.In Z->Z.Ns mainGlobals mg->Fi l.prog w K mg Z Zq 170 fa fd ["script"] (Ck.agn K):=by
 have e:=(dw X G R).symm.trans x3;cases e;have aF:Ck.Zh K Ds sts [f0,f1,f2,f3,f4,f5,f6,f7,f8,f9,f10,f11,f12,f13,f14,f15,f16,f17,f18,f19,f20,f21,f22,f23,f24,f25,f26,f27,f28,f29,f30,f31,f32,f33,f34,f35,fa] [_,_,_,_,_,_,_,_,_,_,_,_,_,_,_,_,_,_,_,_,_,_,_,_,_,_,_,_,_,_,_,_,_,_,_,_,_]:=(Ck.fE l0 (Ck.fE l1 (Ck.fE l2 (Ck.fE l3 (Ck.fE l4 (Ck.fE l5 (Ck.fE l6 (Ck.fE l7 (Ck.fE l8 (Ck.fE l9 (Ck.fE u2 (Ck.fE x4 (Ck.fE q5 (Ck.fE u1 (Ck.fE zv (Ck.fE l15 (Ck.fE qv (Ck.fE qq (Ck.fE qk (Ck.fE y9 (Ck.fE l20 (Ck.fE l21 (Ck.fE l22 (Ck.fE q1 (Ck.fE q6 (Ck.fE uv (Ck.fE l26 (Ck.fE y5 (Ck.fE q4 (Ck.fE l29 (Ck.fE yv (Ck.fE x5 (Ck.fE x2 (Ck.fE xv (Ck.fE xy (Ck.fE l35 (Ck.fE u3 Ck.fN)))))))))))))))))))))))))))))))))))));have aG:Ck.Qm mg tab.fns [f0,f1,f2,f3,f4,f5,f6,f7,f8,f9,f10,f11,f12,f13,f14,f15,f16,f17,f18,f19,f20,f21,f22,f23,f24,f25,f26,f27,f28,f29,f30,f31,f32,f33,f34,f35,fa]:=(Ck.gS (dw X G a0) (Ck.gS (dw X G a1) (Ck.gS (dw X G a2) (Ck.gS (dw X G a3) (Ck.gS (dw X G a4) (Ck.gS (dw X G a5) (Ck.gS (dw X G a6) (Ck.gS (dw X G a7) (Ck.gS (dw X G a8) (Ck.gS (dw X G a9) (Ck.gS (dw X G a10) (Ck.gS (dw X G a11) (Ck.gS (dw X G y3) (Ck.gS (dw X G x8) (Ck.gS (dw X G q7) (Ck.gO (Ck.gO (Ck.gO (Ck.gO (Ck.gS (dw X G u4) (Ck.gS (dw X G zz) (Ck.gS (dw X G jv) (Ck.gS (dw X G uu) (Ck.gS (dw X G uk) (Ck.gS (dw X G u7) (Ck.gS (dw X G yu) (Ck.gS (dw X G uj) (Ck.gS (dw X G y8) (Ck.gS (dw X G y6) (Ck.gS (dw X G q0) (Ck.gS (dw X G y7) (Ck.gS (dw X G a31) (Ck.gS (dw X G zk) (Ck.gS (dw X G x7) (Ck.gS (dw X G x6) (Ck.gS (dw X G q2) (Ck.gS (dw X G R) Ck.gN)))))))))))))))))))))))))))))))))))));have aC:Ck.Li K mg tab [f0,f1,f2,f3,f4,f5,f6,f7,f8,f9,f10,f11,f12,f13,f14,f15,f16,f17,f18,f19,f20,f21,f22,f23,f24,f25,f26,f27,f28,f29,f30,f31,f32,f33,f34,f35,fa] tab.cls [none,none,none,some U] prog.cls:=(Ck.cO (Ck.cO (Ck.cO (Ck.cS ⟨dw X G y0,⟨pg3,xw,y1,x9⟩,⟨_,rfl,⟨mk3,q3,i15,xk⟩⟩,(Ck.mC rfl rfl ⟨a16,yy,qv.2.2⟩ (Ck.mC rfl rfl ⟨yk,y4,qq.2.2⟩ (Ck.mC rfl rfl ⟨a18,zw,qk.2.2⟩ Ck.mN))),(Ck.nC x1 (Ck.nC bal Ck.nN))⟩ Ck.cN))));have aV:Ck.Zj mg tab.aq8:=(Ck.vC (dw X G v0) (Ck.vC (dw X G v1) (Ck.vC (dw X G v2) (Ck.vC (dw X G v3) Ck.vN))));have aB:Ck.AllB mg Ck.Lg:=(Ck.bC (kj X G z0) (Ck.bC (kj X G z1) (Ck.bC (kj X G z2) (Ck.bC (kj X G z3) (Ck.bC (kj X G z4) (Ck.bC (kj X G z5) (Ck.bC (kj X G z6) (Ck.bC (kj X G z7) (Ck.bC (kj X G z8) (Ck.bC (kj X G z9) (Ck.bC (kj X G xx) (Ck.bC (kj X G y2) Ck.bN))))))))))));refine⟨fnOf "law" "law" (Ho (top 46)) (Es (top 46)) (Ah (top 46)) .none bae baf bag bah bai baj,λs v=>.of_eq rfl,λZ _ _=>?_⟩;obtain⟨d,a,f,g1,g2,g3,g4,g5⟩:=Ck.ayf (P:=l.prog) (w:=w) (base:=Z) (n:=10) (i:=36) (F:=ai7) a99 chk baa bab bac aF aG aC aV aB rfl;cases g1;cases g2;cases g3;exact g5.imp λvs H Q E hh=>Ck.arx (λns hl=>avj (by decide)) hh
end K72
open PySem PySem.W PyProof.Rows
namespace PySem.W.Fast
def tw1533244962094917688:=Nat
def tw18321640613523185496:=Nat
def tw8304561595613017117:=Nat
def tw16620641960207101558:=Nat
def tw17631619811820312739:=Nat
def tw16263024567310534452:=Nat
def tw15554344070362901460:=Nat
def tw764705342578825262:=Nat
def tw14074457729248938488:=Nat
def tw11398490602306914043:=Nat
def tw6660490158616439431:=Nat
def tw8081665699684250875:=Nat
def tw6467548871987563896:=Nat
def tw948316698462262751:=Nat
def tw5069159824000086044:=Nat
def tw5542179053114150097:=Nat
def tw1113503185770822349:=Nat
def tw13459494242912573364:=Nat
def tw15730143286904066524:=Nat
def tw13170997819465305210:=Nat
def tw9560265770840079518:=Nat
def tw12675520832429281644:=Nat
def tw5579655343594937167:=Nat
def tw17436427290889975411:=Nat
def tw13015499283070104744:=Nat
def tw4619500493064592534:=Nat
def tw9227156576538915265:=Nat
def tw11661642518794512101:=Nat
def tw2001224591066354003:=Nat
def tw10714660705289912779:=Nat
def tw7280677905236243693:=Nat
def tw11795127796643896878:=Nat
def tw1891264990858148956:=Nat
def tw8490346235339952669:=Nat
def tw10073370105880999368:=Nat
def tw3389628372357859788:=Nat
def tw15818270522751045450:=Nat
def tw68671507341909940:=Nat
def tw14346015381460353815:=Nat
def tw8619934399128784348:=Nat
def tw78230822720204485:=Nat
def tw14345414876581419360:=Nat
def tw808079959902864310:=Nat
def tw2793931595259776379:=Nat
def tw1055216925540191466:=Nat
def tw3301935170776559843:=Nat
def tw15172169320186323548:=Nat
def tw336719311617871880:=Nat
def tw2051139565681373166:=Nat
def tw1133815425642490734:=Nat
def tw15123145424736649987:=Nat
def tw8894808007565652686:=Nat
def tw10443339121870316513:=Nat
def tw17482931241750518767:=Nat
def tw17361567689601145554:=Nat
def tw13884456869348395195:=Nat
def tw1095113626130669869:=Nat
def tw8615009622124181956:=Nat
def tw2792344717937886142:=Nat
def tw10427020385765160251:=Nat
def tw17394124363970231509:=Nat
def tw15811401020926848553:=Nat
def tw13286434018638159192:=Nat
def tw931089147171243704:=Nat
def tw13228807274131273114:=Nat
def tw8368624239617963309:=Nat
def tw14116758757252534622:=Nat
def tw12443268416381231740:=Nat
def tw7854192773336930397:=Nat
def tw9678551931885862857:=Nat
def tw10279076587355615169:=Nat
def tw12749374700382313608:=Nat
def tw1510262660112191693:=Nat
def tw6282187651004374995:=Nat
def tw10471934137466932924:=Nat
def tw9384766181181892110:=Nat
def tw10817416135137493076:=Nat
def tw2402546342642575404:=Nat
def tw14772236288298219628:=Nat
def tw12242790215789516577:=Nat
def tw7161319743151877583:=Nat
def tw15765435343270685571:=Nat
def tw10441943445235353457:=Nat
def tw6681997941573392499:=Nat
def tw3768426760056925301:=Nat
def tw10438433060790825477:=Nat
def tw5156698060254656859:=Nat
def tw10899860525698500241:=Nat
def tw2173231677900761045:=Nat
def tw10982717535522501988:=Nat
def tw8845480346518684494:=Nat
def tw9546347342660142417:=Nat
def tw7960321084472154303:=Nat
def tw13224031146204819600:=Nat
def tw8406059118670301144:=Nat
def tw18403352700536687088:=Nat
def tw16609503687981538852:=Nat
def tw5912628738923265367:=Nat
def tw17104565212957090426:=Nat
def tw14165721582819348257:=Nat
def tw1095020845402900605:=Nat
def tw5008230798527293732:=Nat
def tw8050474253234134789:=Nat
def tw7274306873458964433:=Nat
def tw18428640539645939467:=Nat
def tw17575142534936849654:=Nat
def tw7920948835523363084:=Nat
def tw5241168824251113621:=Nat
def tw3189951130320247531:=Nat
def tw12943640871750178028:=Nat
def tw6050825633669435789:=Nat
def tw12401800243416746677:=Nat
def tw2928650068762182982:=Nat
def tw7394970712436681850:=Nat
def tw3721028220614525292:=Nat
def tw15388074242127089792:=Nat
def tw3389870260893145630:=Nat
def tw6312507653346023629:=Nat
def tw8976294190053117775:=Nat
def tw987675887700932885:=Nat
def tw18396463570786176621:=Nat
def tw10729337513727047523:=Nat
def tw14256752481355581490:=Nat
def tw5268130812305197526:=Nat
def tw3307921656922521304:=Nat
def tw10884539483094696705:=Nat
def tw12297271011566986923:=Nat
def tw3063396739874528809:=Nat
def tw5737706639723919464:=Nat
def tw3173987730661124704:=Nat
def tw4848884335250941068:=Nat
def tw2978817944311958181:=Nat
def tw16945021357155583611:=Nat
def tw7153702533347652321:=Nat
def tw7791949346174201848:=Nat
def tw8915326124660645711:=Nat
def tw7407168912828476860:=Nat
def tw6457196119199788643:=Nat
def tw14862230844021407835:=Nat
def tw2516921097019344039:=Nat
def tw13671866600275261412:=Nat
def tw9862519666099192748:=Nat
def tw6482210025653406689:=Nat
def tw754345343687965520:=Nat
def tw6739286715594935816:=Nat
def tw10739002955955370853:=Nat
def tw5978627650924639856:=Nat
def tw9566375868538775216:=Nat
def tw2170499890077829410:=Nat
def tw12212086584972164325:=Nat
def tw2858069601727289479:=Nat
def tw13008887153290912845:=Nat
def tw17454789759949672486:=Nat
def tw14277475975425023010:=Nat
def tw16721427323022758861:=Nat
def tw4394662789978874292:=Nat
def tw14958549323578958756:=Nat
def tw7515778758371877473:=Nat
def tw15696102713884862086:=Nat
def tw53776699406584846:=Nat
def tw11725836093852433439:=Nat
def tw11032648439802894896:=Nat
def tw745579604613254332:=Nat
def tw16824000979607660197:=Nat
def tw15950931919786006365:=Nat
def tw10949603590025078815:=Nat
def tw13625495883530320084:=Nat
def tw6615238570181809490:=Nat
def tw16501417863517852853:=Nat
def tw12064628129861390011:=Nat
def tw17171240591444880290:=Nat
def tw10457772205697180802:=Nat
def tw2768327169951570256:=Nat
def tw13186579188584226228:=Nat
def tw2757042912905419860:=Nat
def tw1111067277119720117:=Nat
def tw10925991731581234657:=Nat
def tw6405891537888534607:=Nat
def tw5800002690655581947:=Nat
def tw6085767923672221369:=Nat
def tw15145107338696145427:=Nat
def tw5173759415838831360:=Nat
def tw12116923541147849257:=Nat
def tw4187927480180536289:=Nat
def tw6160611252273560612:=Nat
def tw4478628628091535867:=Nat
def tw14094957736252844603:=Nat
def tw13574393887875399649:=Nat
def tw8872853031815819146:=Nat
def tw8591619363818266451:=Nat
def tw14642610396407812114:=Nat
def tw5777118681274850190:=Nat
def tw14128234163059166695:=Nat
def tw10273560726243050159:=Nat
def tw15483837908330243247:=Nat
def tw14076041583332166957:=Nat
def tw13792771395554066041:=Nat
def tw10401175919265916864:=Nat
def tw6822876067036645477:=Nat
end PySem.W.Fast
set_option maxRecDepth 100000 in
set_option maxHeartbeats 0 in
theorem PySem.Challenge.cw_mapwright_k72_steps_holds : PySem.Challenge.rw_mapwright_k72_steps.Holds := by
 w_on;o_law;k_head;(case hw=>w_witness2)
 k_fill
 refine Ck.walk (l:=PySem.Challenge.rw_mapwright_k72_steps) rfl rfl (λw h Y=>PySem.W.kIn_of Y) ?F
 case F =>
  intro w mg fa h KX G hmg;apply K72.all_mk KX G hmg<;>(try refine⟨?_,?_,?_⟩)<;>k_is
