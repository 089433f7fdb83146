import PyProof.Rows.All
import Wide.All
import OpenK.AllK
import Wide.FinOn
import Lean
import PyProof.EqAt
import PyProof.EqKinds
import PyProof.TupleCall
import PyProof.NeKinds
import PyProof.Rows.MinMaxN
import PyProof.EnumMake
import PyProof.ZipIter
import PyProof.Rows.ZipGen
import PyProof.DictWalks
import PyProof.SetScanFacts
import PyProof.TupleKey
import PyProof.SetKind
import PyProof.IsRules
import PyProof.Rules
import PyProof.Rows.SetFrom
import KE.KDictList
import PySem.Challenge.RW_mapwright_k76_whole_it_is_so_in_plain_se
set_option Elab.async false
set_option linter.all false
set_option tactic.hygienic false
set_option genSizeOf false
set_option genInjectivity false
set_option maxRecDepth 100000
abbrev Zl:=List PySem.Value
abbrev Zp:=List (PySem.Addr×PySem.Obj)
abbrev Zs:=PySem.Str->Option PySem.Value
abbrev Y1:=PySem.Value->PySem.Shared->Prop
abbrev Y2:=Option (PySem.Str×Nat)
abbrev Y3:=List Nat
abbrev Ya:=List PySem.Expr
abbrev Yf:=List PySem.Str
abbrev X0:=List (PySem.Str×PySem.NameKind)
abbrev X1:=List PySem.Addr
abbrev X9:=List Int
abbrev Xs:=List (PySem.Str×PySem.Addr)
abbrev Xt:=Array PySem.Value
def ur:=@Array.getElem?_eq_getElem
def je:=@Array.getElem?_eq_some_iff
def nj:=@Array.getElem?_toList
def qg:=@Array.length_toList
def ao:=@Bool.and_eq_true
def v5:=@Bool.eq_iff_iff
def fc:=@Bool.false_eq_true
def ie:=@Bool.false_ne_true
def xn:=@Bool.not_true
def ik:=@Function.comp_def
def vz:=@Int.emod_lt_of_pos
def xx:=@Int.emod_nonneg
def ir:=@Int.natCast_nonneg
def jt:=@Int.toNat_natCast
def iw:=@List.all_eq_true
def xq:=@List.any_cons
def v9:=@List.append_assoc
def yc:=@List.append_nil
def xr:=@List.cons.inj
def vo:=@List.dropLast_concat_getLast
def ql:=@List.drop_eq_getElem_cons
def qx:=@List.eq_nil_of_length_eq_zero
def kj:=@List.find?_cons
def uf:=@List.getD_eq_getElem?_getD
def gr:=@List.getElem?_append_left
def ou:=@List.getElem?_append_right
def dw:=@List.getElem?_eq_getElem
def v7:=@List.getElem?_eq_none
def ak:=@List.getElem?_eq_some_iff
def gf:=@List.getElem?_map
def q8:=@List.getElem?_set_ne
def uc:=@List.getElem?_set_self
def uy:=@List.getElem?_zipIdx
def wy:=@List.getElem_inj
def vd:=@List.getElem_of_mem
def lg:=@List.isEmpty_iff
def iy:=@List.length_append
def d9:=@List.length_cons
def qp:=@List.length_filter_le
def cz:=@List.length_map
def m7:=@List.length_pos_iff
def vq:=@List.length_pos_of_mem
def yd:=@List.length_set
def lz:=@List.lookup_cons
def iz:=@List.map_append
def qi:=@List.map_congr_left
def dg:=@List.map_cons
def gw:=@List.map_map
def bz:=@List.mem_append
def ji:=@List.mem_append_left
def fj:=@List.mem_append_right
def cj:=@List.mem_cons
def bh:=@List.mem_cons_of_mem
def cg:=@List.mem_cons_self
def wg:=@List.mem_erase_of_ne
def uw:=@List.mem_filter
def mq:=@List.mem_iff_getElem?
def di:=@List.mem_map
def az:=@List.mem_of_getElem?
def jc:=@List.mem_range
def j4:=@List.mem_singleton
def qm:=@List.ne_nil_of_length_pos
def mz:=@List.nodup_append
def jy:=@List.nodup_cons
def wz:=@List.not_mem_nil
def ye:=@List.of_mem_zip
def w5:=@List.range'_succ
def yf:=@List.range_succ
def dj:=@List.size_toArray
def uh:=@List.take_append_drop
def o6:=@List.take_length
def vy:=@List.take_of_length_le
def kh:=@List.take_succ
def yo:=@Nat.le_of_lt
def uz:=@Nat.le_of_lt_succ
def bc:=@Nat.le_refl
def o8:=@Nat.le_succ
def bj:=@Nat.le_trans
def nu:=@Nat.lt_irrefl
def yj:=@Nat.lt_of_le_of_lt
def gm:=@Nat.lt_of_lt_of_le
def jo:=@Nat.lt_or_ge
def qu:=@Nat.lt_succ_self
def tu:=@Nat.ne_of_gt
def fu:=@Nat.ne_of_lt
def n6:=@Nat.not_lt_zero
def vm:=@Nat.zero_add
def ig:=@Nat.zero_le
def jr:=@Ne.symm
def iu:=@Option.bind_eq_some_iff
def w6:=@Option.bind_some
def j0:=@Option.isSome_iff_exists
def bu:=@Option.map_eq_some_iff
def n8:=@Option.map_some
def gq:=@Option.some.inj
def u5:=@PyProof.Rows.callWith_builtin1
def p8:=@PyProof.Rows.callWith_type1
def ux:=@PyProof.Rows.slot_tuple_getitem
def p6:=@PySem.F.called_set
def t6:=@PySem.F.slot_dict_keyiterator_next
def qz:=@PySem.F.slot_dict_valueiterator_next
def t7:=@PySem.F.slot_enumerate_next
def qd:=@PySem.F.slot_tuple_iterator_next
def jb:=@PySem.Heap.SameBut.update
def aq:=@PySem.Heap.get?_push_of_some
def bf:=@PySem.Heap.get?_push_size
def km:=@PySem.Heap.get?_update_self
def au:=@PySem.Heap.lt_size
def jq:=@PySem.Heap.size_push
def ph:=@PySem.Obj.data_mapFields
def j5:=@PySem.W.mg_none_of
def dh:=@PySem.W.mg_of
def vf:=@PySem.mem_of_lookup
def m8:=@PySem.wpAny_Call_Name_kw
def aa:=@PySem.wpAny_bind
def jd:=@PySem.wpAny_callSpecial?_slot
def jm:=@PySem.wpAny_call_entry
def rz:=@PySem.wpAny_dictEntries
def gh:=@PySem.wpAny_field
def ud:=@PySem.wpAny_forIn_list
def jx:=@PySem.wpAny_holding
def o7:=@PySem.wpAny_isInstance
def mj:=@PySem.wpAny_mono
def ju:=@PySem.wpAny_newObj_type
def o9:=@PySem.wpAny_passesOwn
def aj:=@PySem.wpAny_pure
def m9:=@PySem.wpAny_pyIter_tuple
def o4:=@PySem.wpAny_seqItems
def q9:=@PySem.wpAny_setField
def jn:=@PySem.wpAny_setField_rec
def jw:=@PySem.wpAny_truthy_bool
def sr:=@PySem.wpAny_typeNameOfWhole_keyiter
def su:=@PySem.wpAny_typeNameOfWhole_valiter
def vg:=@beq_eq_false_iff_ne
def xf:=@beq_self_eq_true
def nq:=@congrArg
def sy:=@decide_eq_false
def vh:=@decide_eq_true
def du:=@decide_eq_true_eq
def jf:=@if_false
def bw:=@if_neg
def bx:=@if_pos
def jz:=@if_true
def jj:=@of_decide_eq_true
abbrev Fg:=PySem.W.Frag
def a_{a b c:Nat}(h:a<=b)(k:b<=c):a<=c:=bj h k
def b_{a b c:Nat}(h:a<b)(k:b<=c):a<c:=gm h k
def c_{a b c:Nat}(h:a<=b)(k:b<c):a<c:=yj h k
def d_{a b c:Nat}(h:a<b)(k:b<c):a<c:=Nat.lt_trans h k
def e_{a b:Nat}(h:a<b):a<=b:=yo h
def f_{a b:Nat}(h:a=b):a<=b:=Nat.le_of_eq h
def g_{a b:Nat}(h:a=b):b<=a:=Nat.le_of_eq h.symm
def i_{a b:Nat}(h:b<a):a≠b:=tu h
def j_{a b:Nat}(h:b<=a):¬a<b:=Nat.not_lt_of_le h
def l_{p:Prop}{a b:Nat}(h:a<b)(k:b<=a):p:=absurd h (Nat.not_lt_of_le k)
def m_{a b:Nat}(h:a<b):(a:Int)<(b:Int):=Int.ofNat_lt.mpr h
def q_{a:Nat}:(0:Int)<=(a:Int):=ir a
def r_{a b c:Nat}(h:a+c<=b):a<=b-c:=Nat.le_sub_of_add_le h
def s_{a b:Nat}(h:¬a<b):b<=a:=Nat.le_of_not_lt h
def t_{a b:Nat}(h:¬a<=b):b<a:=Nat.lt_of_not_le h
def u_{a b:Nat}(h:a<=b)(k:b<=a):a=b:=Nat.le_antisymm h k
def v_{a b c:Nat}(h:a<=b):a+c<=b+c:=Nat.add_le_add_right h c
def w_{a b c:Nat}(h:a<=b):c+a<=c+b:=Nat.add_le_add_left h c
def x_{a b:Nat}:a<=a+b:=Nat.le_add_right a b
def z_{a b:Nat}(h:a<b+1):a<=b:=uz h
def A_{a b:Nat}(h:a<=b):a<b+1:=Nat.lt_succ_of_le h
def C_{a b:Nat}:a-b<=a:=Nat.sub_le a b
def D_{a b:Nat}(h:(a:Int)=(b:Int)):a=b:=Int.ofNat_inj.mp h
def hG{P:Prop}(h:∀G:Prop,(P->G)->G):P:=h P id
noncomputable section
namespace STb
open PySem
def We{prog:Program}{w:World}{A:Around}{U:Type}{Q:U->Shared->Prop}{E:Y1}{s:Shared}(G:A.handled=none)(q:∀Z x,(∀b o,s.heap.get? b=some o->Z.get? b=some o)->(∃o,Z.get? x=some o/\o.cls=.type "StopIteration")->E (.ref x) { s with heap:=Z }):wpAny (model prog w) A (newExc (.type "StopIteration") [] >>= raiseNew) Q E s:=by simp only[newExc,newTuple];refine aa (aa (ju (aa (m:=firstArgMember _ _) (wpAny_of_eq (a:=Value.none) (by first|rfl|(simp only[firstArgMember];rfl)) (ju ?_ (by size_fits)))) (by size_fits)));simp only[raiseNew];refine aa (wpAny_handled ?_);rw[G];exact aa (aj (wpAny_throw (q _ _ (λb o e=>aq _ (aq _ e)) ⟨_,bf _ rfl,rfl⟩)))
open PySem SetTable
def Srt(Z:Array Nat):Prop:=∀(i j a b:Nat),Z[i]?=some a->Z[j]?=some b->i<j->a<b
def amn(hs:Srt U):∀(Z G hi:Nat),G<=hi->hi<=U.size->hi-G<=Z ->
 (∀(i a:Nat),U[i]?=some a->i<G->a<j)->(∀(i a:Nat),U[i]?=some a->hi<=i->j<=a) ->
 below.go U j Z G hi<=U.size/\(∀(i a:Nat),U[i]?=some a->i<below.go U j Z G hi->a<j)/\(∀(i a:Nat),U[i]?=some a->below.go U j Z G hi<=i->j<=a):=by
 intro Z
 induction Z with
 |zero =>
  intro G hi h1 h2 h3 h4 h5;unfold below.go;have:G=hi:=by lia
  subst this;exact⟨h2,h4,h5⟩
 |succ Z ih =>
  intro G hi h1 h2 h3 h4 h5;unfold below.go
  by_cases Kl:G<hi
  .simp only[bx Kl]
   have hm:(G+hi) / 2<U.size:=by lia
   have hg:U[(G+hi) / 2]?=some U[(G+hi) / 2]:=by simp[hm]
   have qq:U.getD ((G+hi) / 2) j=U[(G+hi) / 2]:=by simp[Array.getD,hm]
   rw[qq]
   by_cases hc:U[(G+hi) / 2]<j
   .rw[bx hc]
    refine ih _ _ (by lia) h2 (by omega) (λi a e l=>?_) h5
    by_cases R:i=(G+hi) / 2
    .subst R;rw[hg] at e;cases e;exact hc
    .exact Nat.lt_trans (hs _ _ _ _ e hg (by lia)) hc
   .rw[bw hc]
    refine ih _ _ (by lia) (e_ hm) (by omega) h4 (λi a e l=>?_)
    by_cases R:i=(G+hi) / 2
    .subst R;rw[hg] at e;cases e;exact s_ hc
    .have:=hs _ _ _ _ hg e (by lia);exact e_ (c_ (s_ hc) this)
  .rw[bw Kl]
   have:G=hi:=u_ h1 (s_ Kl);subst this;exact⟨h2,h4,h5⟩
def Hl(G:Srt Z):below Z j<=Z.size/\(∀(i a:Nat),Z[i]?=some a->i<below Z j->a<j)/\(∀(i a:Nat),Z[i]?=some a->below Z j<=i->j<=a) :=
 amn G _ _ _ (ig _) (bc _) C_ (λi a _ h=>absurd h (n6 _)) (λi a e h=>by
  have:=(je.mp e).1;lia)
def below_at(G:Srt Z)(h:Z[i]?=some j):below Z j=i:=by
 obtain⟨h1,h2,R⟩:=Hl (j:=j) G;rcases Nat.lt_trichotomy (below Z j) i with l|l|l
 .have li:=(je.mp h).1
  have U:Z[below Z j]?=some Z[below Z j]:=by simp
  have a:=R _ _ U (bc _);have b:=G _ _ _ _ U h l
  lia
 .exact l
 .have:=h2 _ _ h l;lia
def U9(j:Nat):has #[] j=false:=by simp[has]
set_option tactic.hygienic true in
def Ow{t:SetTable}(Z:Srt t.place):t.slot j=.live i↔t.place[i]?=some j:=by
 unfold slot;constructor
 .intro h
  dsimp only at h;split at h
  .rename_i e;cases h;simpa using e
  .split at h<;>cases h
 .intro h
  dsimp only;rw[below_at Z h,h];simp
def aa7{t:SetTable}(G:Srt t.place)(Z:t.dummies=#[]):t.slot j=.empty↔∀i:Nat,t.place[i]?≠some j:=by
 constructor
 .intro h i e
  rw[(Ow G).mpr e] at h;cases h
 .intro h
  unfold slot;dsimp only;rw[Z,U9,bw (by simpa using h _)];rfl
def Km(G:Array α)(p:Nat)(x:α)(hp:p<=G.size)(i:Nat):(insertAt G p x)[i]?=if i<p then G[i]? else if i=p then some x else G[i-1]?:=by
 rw[<- nj,toList_insertAt];have U:(G.toList.take p).length=p:=by simp;lia
 by_cases Z:i<p
 .rw[bx Z,gr (b_ Z (g_ U)),List.getElem?_take,bx Z,nj]
 .rw[bw Z,ou (a_ (f_ U) (s_ Z)),U]
  by_cases R:i=p
  .subst R;simp
  .rw[bw R]
   obtain⟨q,hq⟩:∃q,i=p+q+1:=⟨i-p-1,by lia⟩;subst hq;rw[show p+q+1-p=q+1 by lia,List.getElem?_cons_succ,List.getElem?_drop,show p+q+1-1=p+q by lia,nj]
def Mj(Z:Array α)(p:Nat)(x:α):(insertAt Z p x).size=Z.size+1:=by have:=(insertAt_perm Z p x).length_eq;simpa using this
noncomputable def up(p i:Nat):Nat:=if i<p then i else i+1
def Lh(Z:Array α)(p:Nat)(x:α)(G:p<=Z.size)(i:Nat):(insertAt Z p x)[up p i]?=Z[i]?:=by
 rw[Km Z p x G];unfold up
 by_cases h:i<p
 .simp[h]
 .rw[bw h,bw (j_ (a_ (s_ h) x_)),bw (i_ (A_ (s_ h)))];rfl
def Hf(Z:Array α)(p:Nat)(x:α)(G:p<=Z.size):(insertAt Z p x)[p]?=some x:=by rw[Km Z p x G];simp
def Ko(p i:Nat):i=p\/∃k,i=up p k:=by
 unfold up;rcases Nat.lt_trichotomy i p with h|h|h
 .exact .inr ⟨i,by simp[h]⟩
 .exact .inl h
 .exact .inr ⟨i-1,by rw[bw (by omega)];lia⟩
def amo(hs:Srt U)(hn:∀i:Nat,U[i]?≠some j):Srt (insertAt U (below U j) j):=by
 obtain⟨R,h2,h3⟩:=Hl (j:=j) hs;intro a b x y G Z l;rcases Ko (below U j) a with rfl|⟨a',rfl⟩<;>rcases Ko (below U j) b with hb|⟨b',rfl⟩
 .subst hb;lia
 .rw[Hf _ _ _ R] at G
  rw[Lh _ _ _ R] at Z;cases G;have:below U j<=b':=by unfold up at l;split at l<;>omega
  have g:=h3 _ _ Z this;rcases Nat.lt_or_eq_of_le g with g|g
  .exact g
  .subst g;exact absurd Z (hn _)
 .subst hb
  rw[Hf _ _ _ R] at Z;rw[Lh _ _ _ R] at G;cases Z;exact h2 _ _ G (by unfold up at l;split at l<;>omega)
 .rw[Lh _ _ _ R] at G Z
  exact hs _ _ _ _ G Z (by unfold up at l;split at l<;>split at l<;>omega)
noncomputable def adv(m:Nat)(p:Probe):Probe:=({ SetTable.fresh 0 0 true with mask:=m }:SetTable).advance p
def ase(t:SetTable)(p:Probe):t.advance p=adv t.mask p:=rfl
def Wf(h:p.more > 0):adv m p={ p with j:=p.j+1,more:=p.more-1 }:=bx h
def Rn(h:¬p.more > 0):adv m p={ p with j:=(leap m p.i p.perturb).1,more:=runEnd m (leap m p.i p.perturb).1-(leap m p.i p.perturb).1,i:=(leap m p.i p.perturb).1,perturb:=(leap m p.i p.perturb).2 }:=bw h
noncomputable def beg(m i pt:Nat):Probe:={ j:=i,more:=runEnd m i-i,i:=i,perturb:=pt,dummy:=none }
def P(m:Nat)(h:Int):Nat->Probe
 |0=>beg m (bits h%(m+1)) (bits h)|n+1=>adv m (P m h n)
def Ys(t:SetTable)(h:Int):t.probeStart h=P t.mask h 0:=rfl
theorem Wg(m:Nat)(h:Int):∀n,(P m h n).dummy=none
 |0=>rfl
 |n+1=>by
  show(adv m (P m h n)).dummy=none
  by_cases q:(P m h n).more > 0
  .rw[Wf q];exact Wg m h n
  .rw[Rn q];exact Wg m h n
noncomputable def I(m:Nat)(h:Int):Nat->Nat
 |0=>bits h%(m+1)|T+1=>(I m h T*5+1+bits h / 32 ^ (T+1))%(m+1)
def amq(m i:Nat):runEnd m i-i<=9:=by unfold runEnd;split<;>lia
theorem Yt{m:Nat}{h:Int}{n i pt:Nat}(e:P m h n=beg m i pt):∀c,c<=runEnd m i-i->P m h (n+c)={ j:=i+c,more:=runEnd m i-i-c,i:=i,perturb:=pt,dummy:=none }
 |0,_=>by rw[Nat.add_zero,e];rfl
 |c+1,hc=>by
  have:=Yt e c (by lia);show adv m (P m h (n+c))=_;rw[this,Wf (by show 0<runEnd m i-i-c;lia)];simp only
  congr 1
def ahl(e:P m h n=beg m i pt):P m h (n+(runEnd m i-i)+1)=beg m ((i*5+1+pt / 32)%(m+1)) (pt / 32):=by show adv m (P m h (n+(runEnd m i-i)))=_;rw[Yt e _ (bc _),Rn (by simp)];rfl
theorem ahm(m:Nat)(h:Int):∀T,∃n,n<=10*T/\P m h n=beg m (I m h T) (bits h / 32 ^ T)
 |0=>⟨0,ig _,by simp[P,I]⟩
 |T+1=>by
  obtain⟨n,G,Z⟩:=ahm m h T;have:=amq m (I m h T);refine⟨_,?_,(ahl Z).trans ?_⟩
  .lia
  .rw[Nat.div_div_eq_div_mul,<- Nat.pow_succ];rfl
noncomputable def f5(m x:Nat):Nat:=(x*5+1)%(m+1)
def it(m:Nat):Nat->Nat->Nat
 |0,x=>x|k+1,x=>f5 m (it m k x)
theorem Ro(m a x:Nat):∀k,it m (a+k) x=it m k (it m a x)
 |0=>rfl|k+1=>by show f5 m (it m (a+k) x)=_;rw[Ro m a x k];rfl
def Cov(m:Nat):Prop:=∀i j,i<=m->j<=m->∃k,k<=m/\it m k i=j
def asf(h0:it m (m+1) 0=0)(h:∀j,j<=m->∃k,k<=m/\it m k 0=j):Cov m:=λi j R hj=>by
 obtain⟨a,la,G⟩:=h i R;obtain⟨b,U,Z⟩:=h j hj
 by_cases qq:a<=b
 .refine⟨b-a,a_ C_ U,?_⟩
  rw[<- G,<- Ro,show a+(b-a)=b by lia,Z]
 .refine⟨m+1+b-a,by omega,?_⟩
  rw[<- G,<- Ro,show a+(m+1+b-a)=(m+1)+b by lia,Ro,h0,Z]
def orb(m:Nat):Nat->Nat->List Nat
 |0,_=>[]|k+1,x=>x::orb m k (f5 m x)
theorem acy{m:Nat}:∀{k x j:Nat},j∈orb m k x->∃q,q<k/\it m q x=j
 |0,_,_,h=>by simp[orb] at h
 |k+1,x,j,h=>by
  simp only[orb,cj] at h;rcases h with rfl|h
  .exact⟨0,A_ (ig _),rfl⟩
  .obtain⟨q,l,e⟩:=acy h
   refine⟨1+q,by lia,?_⟩;rw[Ro];exact e
def Ml(G:it m (m+1) 0=0)(h:((List.range (m+1)).all λj=>(orb m (m+1) 0).contains j)=true):Cov m :=
 asf G λj Z=>by have:=iw.mp h j (by simp;exact A_ Z);obtain⟨q,l,e⟩:=acy (by simpa using this);exact⟨q,z_ l,e⟩
def Msk(m:Nat):Prop:=m=7\/m=15\/m=31\/m=63\/m=127
def a4t:Cov 7:=Ml (by decide+kernel) (by decide+kernel)
def axp:Cov 15:=Ml (by decide+kernel) (by decide+kernel)
def axq:Cov 31:=Ml (by decide+kernel) (by decide+kernel)
def axr:Cov 63:=Ml (by decide+kernel) (by decide+kernel)
def ash:Cov 127:=Ml (by decide+kernel) (by decide+kernel)
def Msk.cov(h:Msk m):Cov m:=by
 rcases h with rfl|rfl|rfl|rfl|rfl
 .exact a4t
 .exact axp
 .exact axq
 .exact axr
 .exact ash
def amr(h:Int):bits h<2 ^ 64:=by
 unfold bits;have G:=xx h (b:=2 ^ 64) (by decide);have Z:=vz h (b:=2 ^ 64) (by decide)
 lia
theorem axs(m:Nat)(h:Int):∀T,I m h T<=m
 |0=>uz (Nat.mod_lt (bits h) (Nat.succ_pos m))|T+1=>uz (Nat.mod_lt (I m h T*5+1+bits h / 32 ^ (T+1)) (Nat.succ_pos m))
theorem ahn(m:Nat)(h:Int):∀k,I m h (13+k)=it m k (I m h 13)
 |0=>rfl
 |k+1=>by
  show(I m h (13+k)*5+1+bits h / 32 ^ (13+k+1))%(m+1)=f5 m (it m k (I m h 13));have:bits h / 32 ^ (13+k+1)=0:=by
   apply Nat.div_eq_of_lt;refine gm (amr h) ?_
   calc 2 ^ 64<=32 ^ 13:=by decide
    _<=32 ^ (13+k+1):=Nat.pow_le_pow_right (by decide) (a_ x_ x_)
  rw[this,ahn m h k];rfl
def cover(Z:Msk m)(h:Int)(j:Nat)(G:j<=m):∃T,T<=13+m/\I m h T=j:=by obtain⟨k,U,e⟩:=Z.cov (I m h 13) j (axs m h 13) G;exact⟨13+k,w_ U,(ahn m h k).trans e⟩
def ams(G:Msk m)(h:Int)(j:Nat)(Z:j<=m):∃n,n<10*turns m/\(P m h n).j=j:=by obtain⟨T,R,e⟩:=cover G h j Z;obtain⟨n,ln,U⟩:=ahm m h T;exact⟨n,by unfold turns;lia,by rw[U];exact e⟩
def mod_le(a m:Nat):a%(m+1)<=m:=uz (Nat.mod_lt a (Nat.succ_pos m))
def Ox(h:i<=m):i<=runEnd m i/\runEnd m i<=m:=by unfold runEnd;split<;>omega
theorem axt(m:Nat)(h:Int):∀n,(P m h n).j+(P m h n).more<=m
 |0=>by
  have:=Ox (mod_le (bits h) m);show bits h%(m+1)+(runEnd m (bits h%(m+1))-bits h%(m+1))<=m
  omega
 |n+1=>by
  have Z:=axt m h n;show(adv m (P m h n)).j+(adv m (P m h n)).more<=m
  by_cases q:(P m h n).more > 0
  .rw[Wf q];simp only;lia
  .rw[Rn q]
   have:=Ox (mod_le ((P m h n).i*5+1+(P m h n).perturb / 32) m);show(leap m (P m h n).i (P m h n).perturb).1+(runEnd m (leap m (P m h n).i (P m h n).perturb).1-(leap m (P m h n).i (P m h n).perturb).1)<=m
   have e:(leap m (P m h n).i (P m h n).perturb).1=((P m h n).i*5+1+(P m h n).perturb / 32)%(m+1):=rfl;rw[e];omega
def a4u(m:Nat)(h:Int)(n:Nat):(P m h n).j<=m:=by have:=axt m h n;lia
def Occ(t:SetTable)(j:Nat):Prop:=∃i:Nat,t.place[i]?=some j
structure Wh(t:SetTable)(es:Array (Int×Value)):Prop where
 msk:Msk t.mask
 dum:t.dummies=#[]
 siz:t.place.size=es.size
 srt:Srt t.place
 bnd:∀(i j:Nat),t.place[i]?=some j->j<=t.mask
 ful:t.place.size<=t.mask
 rch:∀(i j:Nat) e,t.place[i]?=some j->es[i]?=some e->∃n,(P t.mask e.1 n).j=j/\∀m,m<n->Occ t (P t.mask e.1 m).j
theorem Wh.fits(k:Wh t es):t.fits es.size=true:=by unfold SetTable.fits fill;rw[k.dum];simp[k.siz];have:=k.ful;have:=k.siz;lia
def Msk.odd(h:Msk m):m%2=1:=by rcases h with rfl|rfl|rfl|rfl|rfl<;>rfl
def Wh.way(k:Wh t es):t.gaveWay=false:=by unfold gaveWay;rw[k.msk.odd];rfl
def aho(hs:Srt G)(h:G.size<=m):∃j,j<=m/\∀i:Nat,G[i]?≠some j:=by
 apply Classical.byContradiction;intro hn;have all:∀j,j<=m->∃i:Nat,G[i]?=some j:=λj R=>by apply Classical.byContradiction;intro hc;exact hn ⟨j,R,λi e=>hc ⟨i,e⟩⟩
 have:∀j,j<=m->∀i:Nat,G[i]?=some j->j<=i:=by
  intro j
  induction j with
  |zero=>intro _ i _;exact ig _
  |succ j ih =>
   intro R i e;obtain⟨U,Z⟩:=all j (by lia);have:=ih (by lia) U Z;rcases Nat.lt_trichotomy i U with l|l|l
   .have:=hs _ _ _ _ e Z l;lia
   .subst l;rw[e] at Z;injection Z with Z;exact a_ (f_ Z) this
   .exact a_ (v_ this) l
 obtain⟨i,e⟩:=all m (bc _);have h1:=this m (bc _) i e;have h2:=(je.mp e).1;exact l_ h2 (a_ h h1)
structure Fst(t:SetTable)(h:Int)(N:Nat):Prop where
 lt:N<10*turns t.mask
 emp:¬Occ t (P t.mask h N).j
 occ:∀m,m<N->Occ t (P t.mask h m).j
def least{p:Nat->Prop}:∀{n:Nat},p n->∃k,k<=n/\p k/\∀m,m<k->¬p m:=by
 intro n
 induction n using Nat.strongRecOn with
 |ind n R =>
  intro h
  by_cases G:∃m,m<n/\p m
  .obtain⟨m,l,Z⟩:=G
   obtain⟨k,U,a,b⟩:=R m l Z;exact⟨k,e_ (c_ U l),a,b⟩
  .exact⟨n,bc _,h,λm l Z=>G ⟨m,l,Z⟩⟩
def Wh.fst(k:Wh t es)(h:Int):∃N,Fst t h N:=by obtain⟨j,R,e⟩:=aho k.srt k.ful;obtain⟨n,U,Z⟩:=ams k.msk h j R;obtain⟨N,l,a,b⟩:=least (p:=λn=>¬Occ t (P t.mask h n).j) (n:=n) (λ⟨i,c⟩=>e i (by rw[Z] at c;exact c));exact⟨N,c_ l U,a,λm G=>Classical.not_not.mp (b m G)⟩
theorem ahp(k:Wh t es)(F:Fst t h N)(G:Nat->Int):∀(Z n:Nat),n<=N->N-n<Z ->
 (probe.go t G h Z (P t.mask h n)=some (.empty (P t.mask h N).j none)/\∀m,n<=m->m<N->∀i:Nat,t.place[i]?=some (P t.mask h m).j->G i≠h)
\/∃m i:Nat,n<=m/\m<N/\t.place[i]?=some (P t.mask h m).j/\G i=h/\(∀q,n<=q->q<m->∀i:Nat,t.place[i]?=some (P t.mask h q).j->G i≠h)
 /\probe.go t G h Z (P t.mask h n)=some (.candidate (P t.mask h m).j i (P t.mask h (m+1))):=by
 intro Z
 induction Z with
 |zero=>intro n _ l;omega
 |succ Z ih =>
  intro n hn l;unfold probe.go
  by_cases e:n=N
  .subst e
   left
   rw[(aa7 k.srt k.dum).mpr (λi c=>F.emp ⟨i,c⟩)];simp only;rw[Wg];exact⟨rfl,λm a b=>by lia⟩
  .obtain⟨i,hi⟩:=F.occ n (by lia)
   rw[(Ow k.srt).mpr hi];simp only[ase];have qq:adv t.mask (P t.mask h n)=P t.mask h (n+1):=rfl;rw[qq]
   by_cases R:G i=h
   .right
    refine⟨n,i,bc _,by lia,hi,R,λq a b=>by lia,?_⟩;rw[bx (by simp[R])]
   .rw[bw (by simp[R])]
    have un:∀U:Nat,t.place[U]?=some (P t.mask h n).j->G U≠h:=λU e'=>by have a:=below_at k.srt e';have b:=below_at k.srt hi;rw[<- a,b];exact R
    rcases ih (n+1) (by lia) (by lia) with⟨a,b⟩|⟨m,U,a,b,c,d,e1,e2⟩
    .left
     refine⟨a,λm x y=>?_⟩
     by_cases q:m=n
     .subst q;exact un
     .exact b m (by lia) y
    .right
     refine⟨m,U,by lia,b,c,d,λq x y=>?_,e2⟩
     by_cases z:q=n
     .subst z;exact un
     .exact e1 q (by lia) y
def Wh.ahead(k:Wh t es)(F:Fst t h N){i:Nat}(G:es[i]?=some e)(R:e.1=h):∃m,m<N/\t.place[i]?=some (P t.mask h m).j:=by
 have U:i<t.place.size:=by rw[k.siz];exact(je.mp G).1
 have Z:t.place[i]?=some t.place[i]:=by simp[U]
 obtain⟨n,a,b⟩:=k.rch i _ e Z G;subst R;refine⟨n,?_,by rw[a];exact Z⟩;rcases Nat.lt_trichotomy n N with l|l|l
 .exact l
 .subst l;exact absurd ⟨i,by rw[a];exact Z⟩ F.emp
 .exact absurd (b N l) F.emp
def Wi(G:Srt t.place)(q:Nat):Occ (t.put j).1 q↔q=j\/Occ t q:=by
 obtain⟨Z,U,R⟩:=Hl (j:=j) G;constructor
 .rintro⟨i,e⟩
  have e:(insertAt t.place (below t.place j) j)[i]?=some q:=e;rcases Ko (below t.place j) i with rfl|⟨i',rfl⟩
  .rw[Hf _ _ _ Z] at e;cases e;exact .inl rfl
  .rw[Lh _ _ _ Z] at e;exact .inr ⟨i',e⟩
 .rintro(rfl|⟨i,e⟩)
  .exact⟨_,Hf _ _ _ Z⟩
  .exact⟨up (below t.place j) i,(Lh _ _ _ Z i).trans e⟩
theorem Wh.put(k:Wh t es)(F:Fst t h N)(room:t.place.size+1<=t.mask) :
 Wh (t.put (P t.mask h N).j).1 (insertAt es (t.put (P t.mask h N).j).2 (h,x)):=by
 obtain⟨R,h2,h3⟩:=Hl (j:=(P t.mask h N).j) k.srt;have U:below t.place (P t.mask h N).j<=es.size:=by rw[<- k.siz];exact R
 refine⟨k.msk,?_,?_,?_,?_,?_,?_⟩
 .show(if has t.dummies _ then _ else t.dummies)=#[]
  rw[k.dum,U9];rfl
 .show(insertAt t.place _ _).size=(insertAt es _ _).size
  rw[Mj,Mj,k.siz]
 .exact amo k.srt (λi e=>F.emp ⟨i,e⟩)
 .intro i j e
  rcases(Wi k.srt j).mp ⟨i,e⟩ with rfl|⟨i',e'⟩
  .exact a4u _ _ _
  .exact k.bnd i' j e'
 .show(insertAt t.place _ _).size<=t.mask
  rw[Mj];exact room
 .intro i j e Z G
  have Z:(insertAt t.place (below t.place (P t.mask h N).j) (P t.mask h N).j)[i]?=some j:=Z;have G:(insertAt es (below t.place (P t.mask h N).j) (h,x))[i]?=some e:=G;show ∃n,(P t.mask e.1 n).j=j/\∀m,m<n->Occ (t.put (P t.mask h N).j).1 (P t.mask e.1 m).j
  rcases Ko (below t.place (P t.mask h N).j) i with rfl|⟨i',rfl⟩
  .rw[Hf _ _ _ R] at Z
   rw[Hf _ _ _ U] at G;cases Z;cases G;exact⟨N,rfl,λm l=>(Wi k.srt _).mpr (.inr (F.occ m l))⟩
  .rw[Lh _ _ _ R] at Z
   rw[Lh _ _ _ U] at G;obtain⟨n,a,b⟩:=k.rch i' j e Z G;exact⟨n,a,λm l=>(Wi k.srt _).mpr (.inr (b m l))⟩
abbrev OcO(ow:Array (Option Nat))(j:Nat):Prop:=∃i,ow[j]?=some (some i)
structure Own(m:Nat)(ow:Array (Option Nat))(hs:X9):Prop where
 siz:ow.size=m+1
 cnt:ow.toList.countP Option.isSome=hs.length
 lt:∀(j i:Nat),ow[j]?=some (some i)->i<hs.length
 inj:∀(j j' i:Nat),ow[j]?=some (some i)->ow[j']?=some (some i)->j=j'
 at':∀(i:Nat) h,hs[i]?=some h->∃j n,ow[j]?=some (some i)/\(P m h n).j=j/\∀q,q<n->OcO ow (P m h q).j
def getD_none{Z:Array (Option Nat)}(G:Z.size=m+1)(h:(Z.getD j (some 0)).isNone=true):Z[j]?=some none:=by
 by_cases l:j<Z.size
 .simp[Array.getD,l] at h;simp[l,h]
 .simp[Array.getD,l] at h
def getD_some(U:Z.size=m+1)(G:j<=m)(h:¬(Z.getD j (some 0)).isNone=true):OcO Z j:=by
 have l:j<Z.size:=by lia
 simp[Array.getD,l] at h;unfold OcO;rw[show Z[j]?=some Z[j] by simp[l]];cases e:Z[j] with
 |none=>exact absurd e h|some i=>exact⟨i,rfl⟩
def afw(hz:G.size=m+1)(h:Int):∀(Z T n:Nat),P m h n=beg m (I m h T) (bits h / 32 ^ T)->(∀q,q<n->OcO G (P m h q).j) ->
 (∃k,k<Z/\G[I m h (T+k)]?=some none)->∃j R,layClean.free m G Z (I m h T) (bits h / 32 ^ T)=some j/\(P m h R).j=j/\G[j]?=some none/\∀q,q<R->OcO G (P m h q).j:=by
 intro Z
 induction Z with
 |zero=>rintro T n _ _ ⟨k,l,_⟩;lia
 |succ Z ih =>
  rintro T n e hq ⟨k,lk,ek⟩;have hI:=axs m h T;obtain⟨r1,r2⟩:=Ox hI;unfold layClean.free;cases hf:(List.range (runEnd m (I m h T)+1-I m h T)).find? λk=>(G.getD (I m h T+k) (some 0)).isNone with
  |some c =>
   obtain⟨a,b,d⟩:=List.find?_range_eq_some.mp hf;have b:=jc.mp b;refine⟨_,n+c,rfl,by rw[Yt e c (by omega)],getD_none hz a,λq l=>?_⟩
   by_cases hn:q<n
   .exact hq q hn
   .obtain⟨c',rfl⟩:∃c',q=n+c':=⟨q-n,by lia⟩
    rw[Yt e c' (by lia)];show OcO G (I m h T+c');exact getD_some hz (by lia) (λhh=>by
     have:=d c' (by lia);simp only[hh] at this;cases this)
  |none =>
   have Li:=List.find?_eq_none.mp hf;have U:∀c,c<=runEnd m (I m h T)-I m h T->OcO G (I m h T+c):=λc hc=>getD_some hz (by lia) (Li c (jc.mpr (by lia)))
   cases k with
   |zero =>
    obtain⟨i,ei⟩:=U 0 (ig _);rw[Nat.add_zero] at ek ei;rw[ek] at ei;cases ei
   |succ k =>
    have pe:bits h / 32 ^ T / 32=bits h / 32 ^ (T+1):=by rw[Nat.div_div_eq_div_mul,<- Nat.pow_succ]
    have:=ih (T+1) (n+(runEnd m (I m h T)-I m h T)+1) (by rw[ahl e,pe];rfl) (λq l=>?_) ⟨k,by lia,by rw[show T+1+k=T+(k+1) by lia];exact ek⟩
    .obtain⟨j,R,e1,e2⟩:=this
     refine⟨j,R,?_,e2⟩;rw[<- e1];show layClean.free m G Z ((I m h T*5+1+bits h / 32 ^ T / 32)%(m+1)) (bits h / 32 ^ T / 32)=_;rw[pe];rfl
    .by_cases hn:q<n
     .exact hq q hn
     .obtain⟨c',rfl⟩:∃c',q=n+c':=⟨q-n,by lia⟩
      rw[Yt e c' (by lia)];show OcO G (I m h T+c');exact U c' (by lia)
def Own.room(k:Own m Z R)(h:R.length<=m):∃j,j<=m/\Z[j]?=some none:=by
 apply Classical.byContradiction;intro hn;have:Z.toList.countP Option.isSome=Z.toList.length:=List.countP_eq_length.mpr λa ha=>by
  obtain⟨j,U,e⟩:=vd ha;cases a with
  |some i=>rfl
  |none =>
   have G:j<Z.size:=by simpa using U
   refine absurd ⟨j,by have:=k.siz;exact z_ (b_ G (f_ this)),?_⟩ hn;rw[<- nj,dw U,e]
 rw[k.cnt] at this;have:=k.siz;simp at *
 lia
theorem Own.free(R:Msk m)(k:Own m Z hs)(hl:hs.length<=m)(h:Int):∃j G,layClean.free m Z (turns m) (bits h%(m+1)) (bits h)=some j/\(P m h G).j=j/\Z[j]?=some none/\∀q,q<G->OcO Z (P m h q).j:=by obtain⟨j,hj,e⟩:=k.room hl;obtain⟨T,lT,U⟩:=cover R h j hj;have:=afw k.siz h (turns m) 0 0 (by simp[P,I]) (λq l=>by lia) ⟨T,by unfold turns;lia,by rw[vm,U];exact e⟩;simpa[I] using this
def Own.lay(k:Own m Z G)(e1:(P m h n').j=j)(e2:Z[j]?=some none)(e3:∀q,q<n'->OcO Z (P m h q).j) :
 Own m (Z.setIfInBounds j (some G.length)) (G++[h]):=by
 have lj:j<Z.size:=(je.mp e2).1
 have get:∀q:Nat,(Z.setIfInBounds j (some G.length))[q]?=if j=q then some (some G.length) else Z[q]?:=λq=>by rw[Array.getElem?_setIfInBounds];split<;>simp_all
 have R:∀q,OcO Z q->OcO (Z.setIfInBounds j (some G.length)) q:=λq ⟨i,e⟩=>by refine⟨i,?_⟩;rw[get,bw (λh=>by subst h;rw[e2] at e;cases e)];exact e
 refine⟨by simp[k.siz],?_,λq i e=>?_,λq q' i e U=>?_,λi h' e=>?_⟩
 .rw[Array.toList_setIfInBounds,List.countP_set (by simpa using lj),k.cnt]
  have:Z.toList[j]'(by simpa using lj)=none:=by have:=(je.mp e2).2;simpa using this
  rw[this];simp
 .rw[get] at e
  split at e
  .cases e;simp
  .have:=k.lt q i e;simp;exact A_ (e_ this)
 .rw[get] at e U
  split at e<;>split at U
  .lia
  .cases e;have:=k.lt _ _ U;lia
  .cases U;have:=k.lt _ _ e;lia
  .exact k.inj q q' i e U
 .by_cases l:i<G.length
  .rw[gr l] at e
   obtain⟨j',n,a,b,c⟩:=k.at' i h' e;refine⟨j',n,?_,b,λq l=>R _ (c q l)⟩;rw[get,bw (λh=>by subst h;rw[e2] at a;cases a)];exact a
  .have hi:i=G.length:=by
    have:=(ak.mp e).1;simp at this;exact u_ (z_ this) (s_ l)
   subst hi;simp at e;subst e;exact⟨j,n',by rw[get,bx rfl],e1,λq l=>R _ (e3 q l)⟩
theorem acz{m:Nat}(hm:Msk m):∀(Z G:X9)(R:Array (Option Nat)),Own m R G->G.length+Z.length<=m+1 ->
 ∃U,Z.foldl (λqq h=>do
  let (owner,k) <- qq
  let j <- layClean.free m owner (turns m) (bits h%(m+1)) (bits h)
  pure (owner.setIfInBounds j (some k),k+1)) (some (R,G.length))=some (U,G.length+Z.length)/\Own m U (G++Z)
 |[],G,R,k,_=>⟨R,rfl,by simpa using k⟩
 |h::Z,G,R,k,l=>by
  obtain⟨j,n',e0,e1,e2,e3⟩:=k.free hm (by simp at l;lia) h;have k':=k.lay e1 e2 e3;obtain⟨U,a,b⟩:=acz hm Z (G++[h]) _ k' (by simp at l ⊢;lia);refine⟨U,?_,by simpa using b⟩;rw[List.foldl_cons];have:(do
   let (owner,k) <- some (R,G.length)
   let j <- layClean.free m owner (turns m) (bits h%(m+1)) (bits h)
   pure (owner.setIfInBounds j (some k),k+1))=some (R.setIfInBounds j (some G.length),(G++[h]).length):=by
   show(layClean.free m R (turns m) (bits h%(m+1)) (bits h) >>= _)=_;rw[e0];simp
  rw[this,a]
  simp;lia
def ahq(R:Msk m)(G:Array Int)(l:G.size<=m+1):∃Z,layClean m G=some Z/\Own m Z G.toList:=by have U:Own m (Array.replicate (m+1) none) []:=⟨by simp,by simp,λj i e=>by simp[Array.getElem?_replicate] at e,λj j' i e=>by simp[Array.getElem?_replicate] at e,λi h e=>by simp at e⟩;obtain⟨Z,a,b⟩:=acz R G.toList [] _ U (by simpa using l);refine⟨Z,?_,by simpa using b⟩;unfold layClean;rw[<- Array.foldl_toList];exact(nq (Option.map (·.1)) a).trans rfl
noncomputable def lv(m:Nat)(Z:Array (Option Nat)):List (Nat×Nat):=(List.range (m+1)).filterMap λj=>(Z.getD j none).map (j,·)
def Lj(k:Own m Z R):(j,i)∈lv m Z↔Z[j]?=some (some i):=by
 unfold lv;rw[List.mem_filterMap];constructor
 .rintro⟨q,a,b⟩
  obtain⟨i',G,U⟩:=bu.mp b;cases U;have:j<Z.size:=by rw[k.siz];exact jc.mp a
  simp[Array.getD,this] at G;simp[this,G]
 .intro e
  have l:=(je.mp e).1;refine⟨j,jc.mpr (by rw[<- k.siz];exact l),?_⟩;have:Z.getD j none=some i:=by simp[Array.getD,l,(je.mp e).2]
  rw[this];rfl
def ahr(m:Nat)(G:Array (Option Nat)):(lv m G).Pairwise λa b=>a.1<b.1:=by unfold lv;refine List.Pairwise.filterMap _ (λa a' U b R b' Z=>?_) List.pairwise_lt_range;obtain⟨_,_,rfl⟩:=bu.mp R;obtain⟨_,_,rfl⟩:=bu.mp Z;exact U
def amt(k:Own m G U):((lv m G).map (·.2)).Perm (List.range U.length):=by
 refine(List.perm_ext_iff_of_nodup ?_ List.nodup_range).mpr λi=>?_
 .rw[List.nodup_iff_pairwise_ne,List.pairwise_map]
  refine(ahr m G).imp_of_mem fun{a b} Z hb Kl e=>?_
  have:=k.inj a.1 b.1 a.2 ((Lj k).mp Z) (by rw[e];exact(Lj k).mp hb);exact l_ Kl (g_ this)
 .rw[di,jc]
  constructor
  .rintro⟨a,Z,rfl⟩;exact k.lt _ _ ((Lj k).mp Z)
  .intro l
   obtain⟨j,n,a,_⟩:=k.at' i _ (dw l);exact⟨(j,i),(Lj k).mpr a,rfl⟩
theorem ahs{G U:Type}{g:G->Option U}:∀{l:List G},(∀x∈l,(g x).isSome=true)->∀q:Nat,(l.filterMap g)[q]?=l[q]?.bind g
 |[],_,q=>by simp
 |x::l,h,q=>by
  have Z:=h x (cg ..);obtain⟨y,e⟩:=j0.mp Z;rw[List.filterMap_cons_some e];cases q with
  |zero=>simp[e]|succ q=>simpa using ahs (λx Z=>h x (bh _ Z)) q
def amu(hm:Msk m)(fg mv:Nat)(ld pl:Bool)(G:Array (Int×Value))(l:G.size<=m) :
 ∃t Z,laid m fg mv ld pl (G.map (·.1))=some (t,Z)/\t.mask=m/\Wh t (Z.filterMap (G[·]?))/\(Z.filterMap (G[·]?)).toList.Perm G.toList/\(Z.filterMap (G[·]?)).size=G.size
 /\t.led=ld/\t.plain=pl/\t.finger=fg/\Z.toList.Perm (List.range G.size):=by
 obtain⟨U,e,k⟩:=ahq hm (G.map (·.1)) (by simp;exact a_ l x_);have Va:=amt k;simp at Va;have qq:(lv m U).length=G.size:=by have:=Va.length_eq;simpa using this
 have qk:((((lv m U).map (·.2)).toArray).filterMap (G[·]?)).size=G.size:=by have:=(Va.filterMap (G[·]?)).length_eq;rw[filterMap_getElem?_range] at this;rw[<- qg,Array.toList_filterMap,this];simp
 refine⟨{ mask:=m,place:=((lv m U).map (·.1)).toArray,dummies:=#[],finger:=fg,led:=ld,moves:=mv,plain:=pl },((lv m U).map (·.2)).toArray,?_,rfl,?_,?_,?_,rfl,rfl,rfl,Va⟩
 .unfold laid;rw[e];rfl
 .have q0:∀x∈(lv m U).map (·.2),(G[x]?).isSome=true:=λx hx=>by
   have:=jc.mp (Va.mem_iff.mp hx)
   simp;exact this
  have get:∀q:Nat,((((lv m U).map (·.2)).toArray).filterMap (G[·]?))[q]?=((lv m U)[q]?).bind λa=>G[a.2]?:=λq=>by rw[<- nj,Array.toList_filterMap,ahs q0,gf];cases(lv m U)[q]?<;>rfl
  have R:∀q j:Nat,(((lv m U).map (·.1)).toArray)[q]?=some j↔∃i,(lv m U)[q]?=some (j,i):=λq j=>by
   simp only[List.getElem?_toArray,gf,bu];constructor
   .rintro⟨a,h,rfl⟩;exact⟨a.2,h⟩
   .rintro⟨i,h⟩;exact⟨_,h,rfl⟩
  refine⟨hm,rfl,?_,?_,?_,?_,?_⟩
  .show(((lv m U).map (·.1)).toArray).size=_
   rw[qk];simp[qq]
  .intro i j a b ea eb lt
   obtain⟨i1,e1⟩:=(R i a).mp ea;obtain⟨i2,e2⟩:=(R j b).mp eb;obtain⟨l1,g1⟩:=ak.mp e1;obtain⟨l2,g2⟩:=ak.mp e2;have:=List.pairwise_iff_getElem.mp (ahr m U) i j l1 l2 lt;rw[g1,g2] at this;exact this
  .intro i j e
   obtain⟨i1,e1⟩:=(R i j).mp e;have:=(Lj k).mp (az e1);have:=(je.mp this).1;rw[k.siz] at this;show j<=m
   exact z_ this
  .show(((lv m U).map (·.1)).toArray).size<=m
   simp[qq];exact l
  .intro q j e' hp he
   obtain⟨i,e1⟩:=(R q j).mp hp;rw[get,e1] at he;have he:G[i]?=some e':=he;obtain⟨j',n,a,b,c⟩:=k.at' i e'.1 (by simp[he]);have hj:=k.inj j j' i ((Lj k).mp (az e1)) a;subst hj;refine⟨n,b,λw lw=>?_⟩;obtain⟨i',qv⟩:=c w lw;obtain⟨z,hz⟩:=mq.mp ((Lj k).mpr qv);exact⟨z,(R z _).mpr ⟨i',hz⟩⟩
 .rw[Array.toList_filterMap]
  have:=Va.filterMap (G[·]?);rw[filterMap_getElem?_range] at this;exact this
 .exact qk
def afx:∀n,n<32->Msk (sizeAbove (grown n)-1)/\n<=sizeAbove (grown n)-1/\n+1<=sizeAbove (grown n)-1/\¬(n*5 >= (sizeAbove (grown n)-1)*3)/\sizeAbove (grown n)<=128:=by unfold Msk;decide+kernel
section
variable{prog:Program}{w:World}{K:Type}[DecidableEq K]{knd:KeyKind prog w K}{A:Around}{E:Y1}{s:Shared}
def aa9(n:Nat)(h:carriedByValue v=true):ofAClassStatement n v=pure false:=by cases v<;>first|(simp[carriedByValue] at h;done)|(unfold ofAClassStatement;rfl)
def Rp(hk:IsTupleKey knd s.heap ks a)(h:Q false s):wpAny (model prog w) A (ofAClassStatement 8 (.ref a)) Q E s:=by
 have hT:=hk.typeIs;obtain⟨o,G,n,ho,_,hd,hi⟩:=hk;unfold ofAClassStatement;refine aa (wpAny_typeOf hT ?_);show wpAny _ _ (if("tuple"=="tuple")=true then _ else _) _ _ s;rw[bx (by decide)];refine aa (aj ?_);simp only[xn,fc,jf];refine aa (o4 ho hd ?_);refine aa ?_;show wpAny _ _ (forIn G _ _) _ _ s;rw[<- Array.forIn_toList];refine ud _ (λZ r R=>r.1=none/\R=s/\∀v∈Z,carriedByValue v=true) _ ?_ ?_ _ _ ⟨rfl,rfl,hi.byValue⟩
 .rintro v Z r R ⟨hr,rfl,Li⟩
  rw[aa9 _ (Li v cg)];refine aa (aj ?_);simp only[fc,jf];exact aj ⟨rfl,rfl,λu U=>Li u (bh _ U)⟩
 .rintro⟨r1,r2⟩ R ⟨hr,rfl,_⟩
  simp only at hr;subst hr;exact aj h
def aht(hk:IsTupleKey knd s.heap ks a)(hs:∀v∈st,∃ks b,v=.ref b/\IsTupleKey knd s.heap ks b)(h:Q false s) :
 wpAny (model prog w) A (searchCouldBeSeen (.ref a) st) Q E s:=by
 unfold searchCouldBeSeen;refine aa ?_;refine ud _ (λZ r U=>r.1=none/\U=s/\∀v∈Z,∃ks b,v=.ref b/\IsTupleKey knd s.heap ks b) _ ?_ ?_ _ _ ⟨rfl,rfl,hs⟩
 .rintro v Z r U ⟨R,rfl,Li⟩
  obtain⟨qq,b,rfl,hb⟩:=Li v cg;have G:∀v∈Z,∃ks b,v=.ref b/\IsTupleKey knd U.heap ks b:=λv hv=>Li v (bh _ hv)
  dsimp only;split
  .exact aj ⟨rfl,rfl,G⟩
  .refine aa (wpAny_eqIsQuiet_tuple hk ?_)
   simp only[xn,fc,jf];refine aa (wpAny_eqIsQuiet_tuple hb ?_);simp only[xn,fc,jf];refine aa (Rp hk ?_);simp only[fc,jf];refine aa (Rp hb ?_);simp only[fc,jf];exact aj ⟨rfl,rfl,G⟩
 .rintro⟨r1,r2⟩ U ⟨R,rfl,_⟩
  simp only at R;subst R;exact aj h
def ent(knd:KeyKind prog w K)(x:List K×Addr):Int×Value:=(tupleKeyHash knd x.1,.ref x.2)
def aba{G:Array (Int×Value)}{Z:List (List K×Addr)}(U:G.toList=Z.map (ent knd))(j:Nat):G[j]?=(Z[j]?).map (ent knd):=by rw[<- nj,U,gf]
def afy{xs:List (List K×Addr)}(hu:A.units<cLine)(hk:IsTupleKey knd s.heap k p)(ho:s.heap.get? a=some o)(hd:o.data=.set es ep t)(T:Wh t es)(he:es.toList=xs.map (ent knd))(hx:∀x∈xs,IsTupleKey knd s.heap x.1 x.2)(hn:(xs.map (·.1)).Nodup)(F:Fst t (tupleKeyHash knd k) N)(z1:∀(i:Nat) x,xs[i]?=some x->x.1=k->Q (.there (if adding then none else some i)) s)(z0:(∀x∈xs,x.1≠k)->Q (.free (P t.mask (tupleKeyHash knd k) N).j false) s) :
 ∀(G n:Nat)(st:Option Probe),n<=N->N-n<G->st.getD (t.probeStart (tupleKeyHash knd k))=P t.mask (tupleKeyHash knd k) n ->
  (∀m,m<n->∀(i:Nat) x,t.place[i]?=some (P t.mask (tupleKeyHash knd k) m).j->xs[i]?=some x->x.1≠k) ->
  wpAny (model prog w) A (setSearchFrom a (.ref p) (tupleKeyHash knd k) adding G st) Q E s:=by
 intro G
 induction G with
 |zero=>intro n st _ l;omega
 |succ G ih =>
  intro n st zk l z4 q3;unfold setSearchFrom;refine aa (wpAny_setState_of ho hd T.fits ?_);dsimp only;rw[T.way,z4];simp only[fc,jf];have q7:=ahp T F (λi=>(es[i]?.map (·.1)).getD 0) (10*turns t.mask) n zk (by have:=F.lt;exact c_ C_ this);generalize qk:t.probe _ (tupleKeyHash knd k) (P t.mask (tupleKeyHash knd k) n)=pr;have qk:t.probe (λi=>(es[i]?.map (·.1)).getD 0) (tupleKeyHash knd k) (P t.mask (tupleKeyHash knd k) n)=pr:=qk;have Dd:∀(i j:Nat),t.place[i]?=some j->∃x,xs[i]?=some x/\es[i]?=some (ent knd x):=λi j e=>by
   have li:i<es.size:=by rw[<- T.siz];exact(je.mp e).1
   have lx:i<xs.length:=by have:=nq List.length he;simp at this;exact b_ li (f_ this)
   refine⟨xs[i],by simp[lx],?_⟩;rw[aba he];simp[lx]
  rcases q7 with⟨e,zv⟩|⟨m,i,h1,h2,h3,h4,h5,e⟩
  .have e:pr=_:=qk.symm.trans e
   subst e;dsimp only;refine aj (z0 λx z2 Z=>?_);obtain⟨i,hi⟩:=mq.mp z2;have U:es[i]?=some (ent knd x):=by rw[aba he,hi];rfl
   obtain⟨m,lm,hp⟩:=T.ahead F U (by unfold ent;rw[Z])
   by_cases q4:m<n
   .exact q3 m q4 i x hp hi Z
   .refine zv m (s_ q4) lm i hp ?_
    rw[U];show tupleKeyHash knd x.1=_;rw[Z]
  .have e:pr=_:=qk.symm.trans e
   subst e;dsimp only;obtain⟨x,q1,U⟩:=Dd i _ h3;have zz:=hx x (az q1);have q5:∀{R:Bool->Shared->Prop},R false s->wpAny (model prog w) A (searchCouldBeSeen (.ref p) ((es.filter (·.1==tupleKeyHash knd k)).toList.map (·.2))) R E s:=λhR=>aht hk (λv hv=>by
    obtain⟨y,hy,rfl⟩:=di.mp hv;have q2:y∈es.toList:=by simp at hy;simpa using hy.1
    rw[he] at q2;obtain⟨z,hz,rfl⟩:=di.mp q2;exact⟨z.1,z.2,rfl,hx z hz⟩) hR
   rcases Bool.eq_false_or_eq_true t.led with axz|axz
   all_goals
    simp only[axz,xn,Bool.not_false,fc,jf,jz]
    first
    |(rw[U];show wpAny _ _ (holding [.ref x.2] (eqBool (.ref x.2) (.ref p)) >>= _) _ _ _)
    |(refine aa (q5 ?_);simp only[fc,jf];rw[U];show wpAny _ _ (holding [.ref x.2] (eqBool (.ref x.2) (.ref p)) >>= _) _ _ _)
    refine aa (jx (wpAny_eqBool_tuple hu zz hk ?_));refine aa (wpAny_setState_of ho hd T.fits ?_);dsimp only;have q6:t.sameMemory t.moves t.mask=some true:=by unfold sameMemory;simp
    rw[q6];dsimp only;rw[bx rfl,(Ow T.srt).mpr h3];dsimp only;rw[U]
    by_cases Z:x.1=k
    .have qv:decide (x.1=k)=true:=by simp[Z]
     rw[qv];have hq:=z1 i x q1 Z;cases adding
     .simp only[Bool.false_and,fc,jf]
      refine aa (wpAny_isSame_ref_self ?_);refine aa (aj ?_);simpa using aj hq
     .simp only[Bool.and_self,jz]
      exact aj hq
    .have qv:decide (x.1=k)=false:=by simp[Z]
     rw[qv];simp only[Bool.and_false,fc,jf];refine aa (wpAny_isSame_ref_self ?_);refine aa (aj ?_);simp only[jz];refine ih (m+1) _ h2 (by lia) rfl λm' z5 i' x' q0 qq=>?_
     by_cases hc:m'<n
     .exact q3 m' hc i' x' q0 qq
     .by_cases hm:m'=m
      .subst hm
       have ei:i'=i:=by rw[<- below_at T.srt q0,<- below_at T.srt h3]
       subst ei;rw[q1] at qq;cases qq;exact Z
      .intro zw
       have z3:es[i']?=some (ent knd x'):=by rw[aba he,qq];rfl
       refine h5 m' (s_ hc) (by lia) i' q0 ?_;rw[z3];show tupleKeyHash knd x'.1=_;rw[zw]
end
section
variable{prog:Program}{w:World}{K:Type}[DecidableEq K]{knd:KeyKind prog w K}{pk:List K×Addr->Prop}{A:Around}{E:Y1}{s:Shared}
noncomputable abbrev bt(w:World):Bool:=w.params.followText "set-order"
def a2v(h:Q (bt w) s):wpAny (model prog w) A setsByText Q E s:=by unfold setsByText;exact aa (wpAny_askSetting (aj h))
structure amx(knd:KeyKind prog w K)(pk:List K×Addr->Prop)(h:Heap)(a:Addr)(xs:List (List K×Addr))(o:Obj)(es:Array (Int×Value))(ep:Nat)(t:SetTable):Prop where
 get:h.get? a=some o
 exa:o.ExactSet
 dat:o.data=.set es ep t
 tab:Wh t es
 ent:es.toList=xs.map (ent knd)
 keys:∀x∈xs,IsTupleKey knd h x.1 x.2/\pk x
 nod:(xs.map (·.1)).Nodup
 led:t.led=!bt w
 pla:t.plain=true
def Rq(knd:KeyKind prog w K)(pk:List K×Addr->Prop)(h:Heap)(a:Addr)(S:List K->Prop)(n:Nat):Prop:=∃Z o G U t,amx knd pk h a Z o G U t/\(∀k,S k↔k∈Z.map (·.1))/\Z.length=n/\t.place.size*5<t.mask*3
theorem amx.size(X:amx knd pk h a Z o es G t):es.size=Z.length:=by have:=nq List.length X.ent;simpa using this
def aso(p:Addr)(Z:Array (Int×Value)):byScan (.ref p) Z=false:=by unfold byScan;simp[Value.scannable]
def ahu(h:Msk m):10*turns m<100000:=by rcases h with rfl|rfl|rfl|rfl|rfl<;>decide
def abb(R:A.units<cLine)(hk:IsTupleKey knd s.heap k p)(X:amx knd pk s.heap a U o es ep t)(F:Fst t (tupleKeyHash knd k) N)(Z:∀(i:Nat) x,U[i]?=some x->x.1=k->Q (.there (if adding then none else some i)) s)(G:(∀x∈U,x.1≠k)->Q (.free (P t.mask (tupleKeyHash knd k) N).j false) s) :
 wpAny (model prog w) A (setSearch a (.ref p) (tupleKeyHash knd k) adding) Q E s:=by
 unfold setSearch;exact afy R hk X.get X.dat X.tab X.ent (λx hx=>(X.keys x hx).1) X.nod F Z G 100000 0 none (ig _) (by have:=F.lt;have:=ahu X.tab.msk;lia) (Ys _ _) (λm l=>by lia)
def a2x(hu:A.units<cLine)(hk:IsTupleKey knd s.heap k p)(hS:Rq knd pk s.heap a S n)(h:∀r:Option Nat,(r.isSome=true↔S k)->Q r s):wpAny (model prog w) A (setFind a (.ref p) (tupleKeyHash knd k)) Q E s:=by
 obtain⟨xs,o,es,ep,t,X,U,_,_⟩:=hS;obtain⟨N,F⟩:=X.tab.fst (tupleKeyHash knd k);unfold setFind setFindIn;refine aa (wpAny_setState_of X.get X.dat X.tab.fits ?_);dsimp only;rw[aso];simp only[fc,jf];refine aa (abb hu hk X F (λi x hi G=>?_) (λZ=>?_))
 .simp only[fc,jf]
  exact aj (h _ (by simp;exact(U k).mpr (di.mpr ⟨x,az hi,G⟩)))
 .dsimp only
  refine aj (h _ ?_);simp only[Option.isSome_none,fc,false_iff];intro R;obtain⟨x,G,e⟩:=di.mp ((U k).mp R);exact Z x G e
end
def Mm{G β:Type}{f:G->β}:∀{l l':List β},l.Perm l'->∀{xs:List G},l'=xs.map f->∃Z:List G,l=Z.map f/\Z.Perm xs:=by
 intro l l' p
 induction p with
 |nil=>intro xs e;cases xs with
  |nil=>exact⟨[],rfl,.nil⟩|cons _ _=>cases e
 |cons a p ih =>
  intro xs e;cases xs with
  |nil=>cases e
  |cons x xs =>
   simp only[dg,List.cons.injEq] at e;obtain⟨Z,R,p1⟩:=ih e.2;exact⟨x::Z,by simp[R,e.1],p1.cons x⟩
 |swap a b l =>
  intro xs e
  match xs,e with
  |x::y::xs,e =>
   simp only[dg,List.cons.injEq] at e;obtain⟨rfl,rfl,rfl⟩:=e;exact⟨y::x::xs,rfl,.swap x y xs⟩
 |trans p q U qq =>
  intro xs e;obtain⟨ys,R,p1⟩:=qq e;obtain⟨zs,e2,p2⟩:=U R;exact⟨zs,e2,p2.trans p1⟩
section
variable{prog:Program}{w:World}{K:Type}[DecidableEq K]{knd:KeyKind prog w K}{pk:List K×Addr->Prop}{A:Around}{E:Y1}{s:Shared}
def Vb(h:n<=128):n<=sizeLine:=by rw[sizeLine_eq];exact a_ h (by decide)
end
section
variable{prog:Program}{w:World}{K:Type}[DecidableEq K]{knd:KeyKind prog w K}{pk:List K×Addr->Prop}{A:Around}{E:Y1}{s:Shared}
def Gh(Z:s.TypeIs v T)(U:isSubtype (.type T) (.type "set")=pure false)(G:isSubtype (.type T) (.type "frozenset")=pure false)(h:Q false s) :
 wpAny (model prog w) A (Builtin.Frozenset.isAnySet v) Q E s:=by
 unfold Builtin.Frozenset.isAnySet;refine aa (o7 Z U ?_);exact o7 Z G h
def bbc(Z:s.TypeIs v "set")(h:Q true s):wpAny (model prog w) A (Builtin.Frozenset.isAnySet v) Q E s:=by unfold Builtin.Frozenset.isAnySet;refine aa (o7 Z sub_set_self ?_);exact aj h
def Ac(w:World):Obj:={ cls:=.type "set",dict:=none,data:=.set #[] 0 (.fresh 0 0 (!bt w)) }
theorem Rq.get(U:Rq knd pk h a S n):∃o Z G t,h.get? a=some o/\o.ExactSet/\o.data=.set Z G t/\t.fits Z.size=true :=
 let ⟨_,o,Z,G,t,X,_⟩:=U;⟨o,Z,G,t,X.get,X.exa,X.dat,X.tab.fits⟩
def Rq.typeIs(Z:Rq knd pk s.heap a S n):s.TypeIs (.ref a) "set" :=
 let ⟨o,_,_,_,ho,hc,_⟩:=Z.get;⟨o,ho,hc.1⟩
def Rq.congr(Z:Rq knd pk h a S n)(e:∀k,S k↔G k):Rq knd pk h a G n :=
 let ⟨xs,o,es,ep,t,X,hm,r⟩:=Z;⟨xs,o,es,ep,t,X,λk=>(e k).symm.trans (hm k),r⟩
end
section
variable{prog:Program}{w:World}{K:Type}[DecidableEq K]{knd:KeyKind prog w K}{pk:List K×Addr->Prop}{A:Around}{E:Y1}{s:Shared}
def amy(Z:R (.ref s.heap.objs.size) { s with heap:=s.heap.push (Ac w) }) :
 codeAny (model prog w) A (.call (.builtin "set.__new__") ⟨[.type "set",v],[]⟩) (wants R E) s:=by
 refine codeAny_call_builtin F.plain_set_new F.entry_set_new (wpAny_of_eq (F.newCall_set_1 v) ?_);have G:=sub_set_self;unfold Builtin.«set.__new__» Builtin.Frozenset.newClass
 wp_walk
 exact wpAny_askSetting (aj (aa (wpAny_alloc (aj (aj Z)))))
set_option maxHeartbeats 3200000 in
def Pn{R:Shared->Prop}(qq:wpAny (model prog w) A.in1.in1 (Builtin.Frozenset.updateFrom "set.__init__" s.heap.objs.size x) (λ_ s'=>R s') E { s with heap:=s.heap.push (Ac w) })(h:∀s',R s'->Q (.ref s.heap.objs.size) s') :
 wpAny (model prog w) A (call (.type "set") [x]) Q E s:=by
 obtain⟨c,tl,q4⟩:=p6.mro;have q0:=p6.made;have q2:=p6.sub;refine wpAny_call (codeAny_of_tree ?_);show wpAny _ _ (callAny (.type "set") _) _ _ _;refine aj ⟨Code.quiet_builtin _ (by decide+kernel),codeAny_builtin F.entry_type_call ?_⟩;rw[Around.under_plain (weight_type_call_type "set" [x] []) rfl];have h1:=p6.notType;have h2:=p6.canCreate;have q3:=F.typeCall_set_1 x
 repeat (any_goals (first|assumption|wp_step))
 refine codeAny_mono (amy (v:=x) (E:=E) (R:=λobj G=>obj=.ref s.heap.objs.size/\G={ s with heap:=s.heap.push (Ac w) }) ⟨rfl,rfl⟩) λr G hr=>?_
 cases r with
 |error e=>exact hr
 |ok fl =>
  cases fl with
  |ret obj =>
   obtain⟨rfl,rfl⟩:=hr;have hS:(s.heap.push (Ac w)).get? s.heap.objs.size=some (Ac w):=bf _ rfl;have hT:Shared.TypeIs { s with heap:=s.heap.push (Ac w) } (.ref s.heap.objs.size) "set" := ⟨_,hS,rfl⟩;have q5:=p6.init.lookup;have q1:=p6.init.bind (.ref s.heap.objs.size)
   repeat (any_goals (first|assumption|wp_step))
   refine codeAny_mono (codeAny_call_builtin (R:=wants (λr U=>r=.none/\R U) E) p6.init.plain F.entry_set_init (check_set_init_1 hT ?_)) λqv U Z=>?_
   .unfold Builtin.«set.__init__» noKeywords
    generalize hUF:Builtin.Frozenset.updateFrom=UF at qq ⊢;unfold Ac at hS hT qq ⊢
    wp_walk
    exact mj qq (λ_ s' hr=>aj ⟨rfl,hr⟩) (λe s' he=>he)
   .cases qv with
    |error e=>exact Z
    |ok qk =>
     cases qk with
     |ret r =>
      obtain⟨rfl,hq⟩:=Z
      repeat (any_goals (first|assumption|wp_step))
      exact h _ hq
     |_=>exact Z.elim
  |_=>exact hr.elim
end
open PyProof.Rows (F.entry_set_update_loop F.plain_set_update_loop)
section
variable{prog:Program}{w:World}{K:Type}[DecidableEq K]{knd:KeyKind prog w K}{pk:List K×Addr->Prop}{A:Around}{E:Y1}{s:Shared}
def afz{Z:X1}(hk:IsTupleKey knd h ks p)(U:p∉Z)(R:∀b o,b∉Z->h.get? b=some o->G.get? b=some o):IsTupleKey knd G ks p :=
 let ⟨o,items,n,ho,r⟩:=hk;⟨o,items,n,R p o U ho,r⟩
def Rq.moved{Z:X1}(hS:Rq knd pk h a S n)(ha:a∉Z)(hw:∀(b:Addr) (ks:List K),b∈Z->¬IsTupleKey knd h ks b)(U:∀b o,b∉Z->h.get? b=some o->R.get? b=some o):Rq knd pk R a S n :=
 let ⟨xs,o,es,ep,t,X,r⟩:=hS
 ⟨xs,o,es,ep,t,⟨U a o ha X.get,X.exa,X.dat,X.tab,X.ent,λx G=>⟨afz (X.keys x G).1 (λhc=>hw _ _ hc (X.keys x G).1) U,(X.keys x G).2⟩,X.nod,X.led,X.pla⟩,r⟩
end
def amz(k:Wh t es)(F:Fst t h N)(room:t.place.size+1<=t.mask) :
 layNew t es h x=(insertAt es (t.put (P t.mask h N).j).2 (h,x),(t.put (P t.mask h N).j).1,false,false):=by
 have e:t.freeSlot h=some ((P t.mask h N).j,false):=by
  unfold freeSlot probe;rw[Ys];rcases ahp k F (λ_=>h+1) (10*turns t.mask) 0 (ig _) (by have:=F.lt;exact c_ C_ this) with⟨a,_⟩|⟨m,i,_,_,_,c,_⟩
  .rw[a];rfl
  .lia
 have f:=(k.put (x:=x) F room).fits;unfold layNew;rw[e];show(insertAt es (t.put (P t.mask h N).j).2 (h,x),(t.put (P t.mask h N).j).1.orStandIn (insertAt es (t.put (P t.mask h N).j).2 (h,x)).size,false,!(t.put (P t.mask h N).j).1.fits (insertAt es (t.put (P t.mask h N).j).2 (h,x)).size)=_;unfold orStandIn;rw[bx f,f];rfl
def af0(hm:Msk (sizeAbove wanted-1))(hz:es.size<=sizeAbove wanted-1) :
 ∃G t',relayAll t es wanted=(G,t',false)/\t'.mask=sizeAbove wanted-1/\Wh t' G/\G.toList.Perm es.toList/\t'.led=t.led/\t'.plain=t.plain:=by
 obtain⟨t',Z,e,e1,R,p,sz,hl,hp,_,U⟩:=amu hm t.finger (t.movedTo (sizeAbove wanted-1)) t.led t.plain es hz;have er:t.relaid (es.map (·.1)) wanted=some (t',Z):=e;refine⟨Z.filterMap (es[·]?),t',?_,e1,R,p,hl,hp⟩;unfold relayAll;rw[er];dsimp only;rw[bx];rw[ao];exact⟨by unfold coversAll;exact List.isPerm_iff.mpr U,R.fits⟩
noncomputable def enI(x:Int×Tok):Int×Value:=(hashInt x.1,.int x.1 x.2)
structure abd(w:World)(h:Heap)(a:Addr)(xs:List (Int×Tok))(o:Obj)(es:Array (Int×Value))(ep:Nat)(t:SetTable):Prop where
 get:h.get? a=some o
 exa:o.ExactSet
 dat:o.data=.set es ep t
 tab:Wh t es
 ent:es.toList=xs.map enI
 nod:(xs.map (·.1)).Nodup
 led:t.led=!bt w
 pla:t.plain=true
def zj(w:World)(h:Heap)(a:Addr)(S:Int->Prop)(n:Nat):Prop:=∃Z o G U t,abd w h a Z o G U t/\(∀k,S k↔k∈Z.map (·.1))/\Z.length=n/\t.place.size*5<t.mask*3
theorem abd.size(X:abd w h a Z o es G t):es.size=Z.length:=by have:=nq List.length X.ent;simpa using this
def abd.elems(X:abd w h a G o es U t):ElemsOf (intKind prog w) es.toList:=λe Z=>by rw[X.ent] at Z;obtain⟨x,_,rfl⟩:=di.mp Z;exact⟨⟨x.1,by simp[enI,intKind,Value.isInt],rfl⟩,rfl⟩
def ax0(X:abd w h a xs o es U t)(T':Wh t' Z)(he:Z.toList=G.map enI)(hn:(G.map (·.1)).Nodup)(hl:t'.led=!bt w)(hp:t'.plain=true) :
 abd w (h.update a (Obj.putSet Z t')) a G { o with data:=.set Z (U+1) t' } Z (U+1) t':=by
 have R:(h.update a (Obj.putSet Z t')).get? a=some { o with data:=.set Z (U+1) t' }:=by have:=km (Obj.putSet Z t') X.get (by rw[putSet_of Z t' X.dat];rfl);rw[putSet_of Z t' X.dat] at this;exact this
 exact⟨R,X.exa,rfl,T',he,hn,hl,hp⟩
theorem zj.get(U:zj w h a S n):∃o Z G t,h.get? a=some o/\o.ExactSet/\o.data=.set Z G t/\t.fits Z.size=true :=
 let ⟨_,o,Z,G,t,X,_⟩:=U;⟨o,Z,G,t,X.get,X.exa,X.dat,X.tab.fits⟩
theorem Rr:∀{a b:X9},a.Nodup->(∀x∈a,x∈b)->a.length<=b.length
 |[],_,_,_=>ig _
 |x::a,b,h,s=>by
  obtain⟨G,U⟩:=jy.mp h;have:=Rr (b:=b.erase x) U λy Z=>(wg (λe:y=x=>G (e▸Z))).mpr (s y (.tail _ Z))
  rw[List.length_erase_of_mem (s x (.head _))] at this;have:=vq (s x (.head _));rw[d9];lia
def zj.le(U:zj w h a S n){B:X9}(Z:∀k,S k->k∈B):n<=B.length:=by obtain⟨xs,o,es,ep,t,X,G,rfl,_⟩:=U;rw[<- cz (f:=(·.1))];exact Rr X.nod λk R=>Z k ((G k).mpr R)
def zj.congr(Z:zj w h a S n)(e:∀k,S k↔G k):zj w h a G n :=
 let ⟨xs,o,es,ep,t,X,hm,r⟩:=Z;⟨xs,o,es,ep,t,X,λk=>(e k).symm.trans (hm k),r⟩
def zj.moved(G:zj w h a S n)(Z:∀o,h.get? a=some o->U.get? a=some o):zj w U a S n :=
 let ⟨xs,o,es,ep,t,X,r⟩:=G
 ⟨xs,o,es,ep,t,⟨Z o X.get,X.exa,X.dat,X.tab,X.ent,X.nod,X.led,X.pla⟩,r⟩
def Yu(Z:h.get? a=some (Ac w)):zj w h a (λ_=>False) 0 :=
 ⟨[],Ac w,#[],0,_,⟨Z,⟨rfl,rfl,rfl⟩,rfl,⟨.inl rfl,rfl,rfl,λi j a b e=>by simp[SetTable.fresh] at e,λi j e=>by simp[SetTable.fresh] at e,by simp[SetTable.fresh],λi j e a=>by simp[SetTable.fresh] at a⟩,
  rfl,List.nodup_nil,rfl,rfl⟩,λk=>by simp,rfl,by simp[SetTable.fresh]⟩
def am0(hS:zj w s.heap a S n)(hn:n+1<32)(h:∀h' n' b,Heap.SameBut a s.heap h'->zj w h' a (λU=>S U\/U=k) n'->n'<=n+1->Q b { s with heap:=h' }) :
 wpAny (model prog w) A (setAddHashed a (.int k tk) (hashInt k)) Q E s:=by
 obtain⟨xs,o,G,ep,t,X,hm,hl,nf⟩:=hS;obtain⟨N,F⟩:=X.tab.fst (hashInt k);have zv:=X.size;have q4:=X.elems (prog:=prog);have zk:(intKind prog w).is k (.int k tk)=true:=by simp[intKind,Value.isInt]
 unfold setAddHashed setAddHashedIn;refine jx (aa (wpAny_setState_of X.get X.dat X.tab.fits ?_));dsimp only;rw[byScan_of (knd:=intKind prog w) (x:=.int k tk) rfl (by unfold scanBound;lia) q4];simp only[↓reduceIte];unfold setAddByScan;refine aa ?_;refine aa (wpAny_rule ?_);refine aa (wpAny_setScan_of (knd:=intKind prog w) (k:=k) zk X.get X.dat X.tab.fits q4 ?_);cases hr:List.findIdx? (λe=>(intKind prog w).is k e.2) G.toList with
 |some j =>
  dsimp only;obtain⟨hj,zz,_⟩:=List.findIdx?_eq_some_iff_getElem.mp hr;have z1:S k:=by
   obtain⟨x,hx,ex⟩:∃x∈xs,enI x=G.toList[j]:=by have Wj:=List.getElem_mem hj;generalize G.toList[j]=e at Wj;rw[X.ent] at Wj;exact di.mp Wj
   have z3:(intKind prog w).is k (enI x).2=true:=by rw[ex];exact zz
   refine(hm k).mpr (di.mpr ⟨x,hx,?_⟩);have:(intKind prog w).is x.1 (enI x).2=true:=by simp[enI,intKind,Value.isInt]
   exact(intKind prog w).inj _ _ _ this z3
  refine aj (aj ?_);have:=h s.heap n false (Heap.SameBut.refl a s.heap) ⟨xs,o,G,ep,t,X,λU=>by
   rw[<- hm U];exact⟨λh=>h.elim id (λe=>e▸z1),.inl⟩,hl,nf⟩ x_
  exact this
 |none =>
  dsimp only;have zw:∀x∈xs,x.1≠k:=λx hx e=>by have:=List.findIdx?_eq_none_iff.mp hr (enI x) (by rw[X.ent];exact di.mpr ⟨x,hx,rfl⟩);subst e;simp[enI,intKind,Value.isInt] at this
  have room:t.place.size+1<=t.mask:=by have:=X.tab.msk;rcases this with e|e|e|e|e<;>lia
  have T':=X.tab.put (x:=.int k tk) F room;rw[amz X.tab F room];have Kp:(t.put (P t.mask (hashInt k) N).j).1.plain=true:=X.pla;have q0:(t.put (P t.mask (hashInt k) N).j).1.led=!bt w:=X.led;obtain⟨R,ex,px⟩:=Mm (f:=enI) (insertAt_perm G (t.put (P t.mask (hashInt k) N).j).2 (hashInt k,.int k tk)) (xs:=xs++[(k,tk)]) (by rw[Array.toList_push,X.ent,iz];rfl);have pm:=px.map (·.1);have q1:(R.map (·.1)).Nodup:=pm.nodup_iff.mpr (by
   rw[iz,mz];refine⟨X.nod,by simp,λa ha b hb=>?_⟩;simp at hb;subst hb;rintro rfl;obtain⟨x,hx,e⟩:=di.mp ha;exact zw x hx e)
  have hX:=ax0 X T' ex q1 q0 Kp;have Wj:∀U,(S U\/U=k)↔U∈R.map (·.1):=λU=>by rw[pm.mem_iff,iz,bz,hm U];simp
  have qk:R.length=n+1:=by rw[px.length_eq];simp[hl]
  have qq:(insertAt G (t.put (P t.mask (hashInt k) N).j).2 (hashInt k,Value.int k tk)).size=G.size+1:=Mj _ _ _;have q5:(t.put (P t.mask (hashInt k) N).j).1.place.size=G.size+1:=by rw[T'.siz,qq]
  have hf:(t.put (P t.mask (hashInt k) N).j).1.fill=G.size+1:=by unfold fill;rw[q5,T'.dum];rfl
  generalize insertAt G (t.put (P t.mask (hashInt k) N).j).2 (hashInt k,Value.int k tk)=es1 at *;generalize(t.put (P t.mask (hashInt k) N).j).1=t1 at *;dsimp only;refine aa (aj ?_);rw[Kp];simp only[jz];refine aa ?_;rw[hashByValue_scannable 8 (x:=.int k tk) rfl];refine aj ?_;have z0:plainKind (.int k tk)=true:=rfl;simp only[z0,jz];refine aa (wpAny_storeSet_of X.get X.dat ?_ (Vb (by lia)))
  by_cases Z:t1.tooFull=true
  .rw[Z]
   simp only[Bool.not_false,Bool.and_self,jz];obtain⟨g1,g2,g3,g4,g5⟩:=afx (G.size+1) (c_ (v_ (f_ zv)) (c_ (v_ (f_ hl)) hn));obtain⟨q6,t2,e2,m2,T2,p2,l2,q2⟩:=af0 (t:=t1) (es:=es1) (wanted:=grown (G.size+1)) g1 (a_ (f_ qq) g2);rw[qq,e2];dsimp only;refine aa (aj ?_);obtain⟨q7,z2,qv⟩:=Mm p2 ex;have z4:=ax0 hX T2 z2 ((qv.map _).nodup_iff.mpr q1) (l2.trans q0) (q2.trans Kp);have q3:q6.size=G.size+1:=by have:=p2.length_eq;simp at this;exact this.trans qq
   refine aa (wpAny_storeSet_of hX.get rfl ?_ (Vb (a_ (f_ q3) (a_ g2 (a_ C_ g5)))));refine aj (aj (h _ (n+1) true ((jb s.heap a _).trans (jb _ a _)) ⟨q7,_,q6,_,t2,z4,λU=>?_,by rw[qv.length_eq,qk],?_⟩ (bc _)))
   .exact(Wj U).trans (qv.map (·.1)).mem_iff.symm
   .rw[T2.siz,m2,q3];exact t_ g4
  .rw[Bool.not_eq_true] at Z
   rw[Z];simp only[Bool.and_false,fc,jf];refine aj (aj (h _ (n+1) true (jb s.heap a _) ⟨R,_,_,_,_,hX,Wj,qk,?_⟩ (bc _)));unfold tooFull at Z;rw[hf] at Z;rw[q5];simp at Z;exact Z
def ahw{I:Addr}{P:Nat->Value->Prop}(W:WalksS prog w A.in1 I fp wr G n P St)(a:Addr)(q4:a∉fp)(ks:X9)(q0:ks.length=n)(zv:∀i v x,P i v->ks[i]?=some x->∃tk,v=.int x tk){B:X9}(hB:∀k∈ks,k∈B)(hb:B.length<31) :
 ∀(k i n':Nat)(s:Shared),n-i=k->i<=n->St i s ->
  zj w s.heap a (λk'=>k'∈ks.take i) n'->n'<=B.length ->
  (∀Z qv,Moved (a::wr) G s Z->zj w Z.heap a (λk'=>k'∈ks) qv->qv<=B.length->R (.ok (.ret .none)) Z) ->
  codeAny (model prog w) A (.builtin "set.update.loop" ⟨[.ref a,.ref I],[]⟩) R s:=by
 have q3:a∉wr:=λh=>q4 (W.sub _ h)
 have q1:∀b∈wr,b∈a::wr:=λb hb=>bh _ hb
 intro k
 induction k with
 |zero =>
  intro i n' s hk hi U hS Wl hR;have z1:i=n:=by lia
  subst z1;refine codeAny_builtin F.entry_set_update_loop ?_;rw[Around.under_plainId F.plain_set_update_loop _];show wpAny _ A.in1 (pyNext (.ref I) >>= _) _ _ s;refine aa (W.done s _ _ U λZ hm=>?_);show wpAny _ A.in1 (ret Value.none) _ _ Z;refine aj (hR Z n' (hm.mono q1) ((hS.moved λo=>hm.heap a o q3).congr λk=>?_) Wl);rw[vy (f_ q0)]
 |succ k ih =>
  intro i n' s hk hi U hS Wl hR;have Kl:i<n:=by lia
  refine codeAny_builtin F.entry_set_update_loop ?_;rw[Around.under_plainId F.plain_set_update_loop _];show wpAny _ A.in1 (pyNext (.ref I) >>= _) _ _ s;refine aa (W.item i s _ _ Kl U λv Z hP z0 hm=>?_);have lx:i<ks.length:=b_ Kl (g_ q0)
  have qq:ks[i]?=some ks[i]:=by simp[lx]
  obtain⟨tk,rfl⟩:=zv i v _ hP qq;have q5:=hS.moved λo=>hm.heap a o q3
  show wpAny _ A.in1 (holding [Value.int ks[i] tk] (setAdd a (.int ks[i] tk)) >>= _) _ _ Z;refine aa (jx ?_);unfold setAdd;refine jx ?_;refine aa (wpAny_pyHash_int ?_);refine am0 (s:={ Z with toks:=Z.toks+1 }) q5 (by lia) λh' n2 b qk q7 z2=>?_
  have q2:zj w h' a (λk=>k∈ks.take (i+1)) n2:=q7.congr λk=>by rw[List.take_add_one,bz,qq];simp
  refine aj ⟨plainId_quiet F.plain_set_update_loop _,ih (i+1) n2 _ (by lia) Kl (W.frame _ Z _ _ z0 (Nat.le_add_right _ _) λb hb o e=>?_) q2 (q2.le λk hk=>hB k (List.mem_of_mem_take hk)) λzw n3 zk q6 zz=>?_⟩
  .rw[qk.2 b (λh:b=a=>q4 (by rw[<- h];exact hb))];exact e
  .refine hR zw n3 (Moved.trans W.gtrans ((hm.mono q1).then_heap (Nat.le_add_right _ _) λb o hb e=>?_) zk) q6 zz
   rw[qk.2 b (λh:b=a=>hb (by rw[h];exact cg))];exact e
def ac1{id T:String}{io lo:Obj}{Z:Xt}{St:Nat->Heap->Prop}(hS:zj w s.heap a (λ_=>False) 0)(U:s.heap.get? l=some lo)(hc:lo.cls=.type T)(q5:∀es ep t,lo.data≠.set es ep t)(n1:isSubtype (.type T) (.type "set")=pure false)(n2:isSubtype (.type T) (.type "frozenset")=pure false)(nd:(Value.type T==.type "dict")=false)
 (hi:∀{Q:Y1},Q (.ref s.heap.objs.size) { s with heap:=s.heap.push io }->wpAny (model prog w) A (pyIter (.ref l)) Q E s) (W:l≠s.heap.objs.size->Walks prog w A.in1 s.heap.objs.size [s.heap.objs.size,l] [s.heap.objs.size] Z.size (λi v=>Z[i]?=some v) St) (h0:St 0 (s.heap.push io))
 (qq:PyProof.Rows.IntsAre Z.toList ks) {B:X9} (hB:∀k∈ks,k∈B) (qk:B.length<31) (h:∀h' tk n',(∀b o,b≠a->s.heap.get? b=some o->h'.get? b=some o)->zj w h' a (λk=>k∈ks) n'->n'<=B.length->Q () { s with heap:=h',toks:=tk }) :
 wpAny (model prog w) A (Builtin.Frozenset.updateFrom id a (.ref l)) Q E s:=by
 have hT:s.TypeIs (.ref l) T:=⟨lo,U,hc⟩;have q3:Z.size=ks.length:=by rw[<- qg];exact PyProof.Rows.IntsAre.length qq
 obtain⟨oa,z0,z1,ta,R,zw,q7,zv⟩:=hS.get;unfold Builtin.Frozenset.updateFrom;refine aa (Gh hT n1 n2 ?_);simp only[fc,jf];refine aa (wpAny_typeOf hT ?_);rw[bw (by rw[nd];simp)];refine aa (hi ?_);refine aa (wpAny_runValue ?_);have Kl:l<s.heap.objs.size:=au U
 have q4:a<s.heap.objs.size:=au R
 have zz:l≠a:=by rintro rfl;rw[U] at R;cases R;exact q5 _ _ _ q7
 have zk:a∉[s.heap.objs.size,l]:=by simp only[cj,wz,or_false,not_or];exact⟨fu q4,λe=>zz e.symm⟩
 have G:∀b o,s.heap.get? b=some o->(s.heap.push io).get? b=some o:=λb o e=>aq _ e
 refine ahw ((W (fu Kl)).toS) a zk ks q3.symm (λi v x hv hx=>?_) hB qk Z.size 0 0 _ rfl (ig _)
  h0 ?_ (ig _) ?_
 .obtain⟨tk,e⟩:=PyProof.Rows.IntsAre.int_at qq i v (by rw[nj];exact hv)
  rw[uf,hx] at e;exact⟨tk,e⟩
 .refine(hS.moved λo e=>G a o e).congr λk=>by simp
 .intro s' q2 hm qv q0
  obtain⟨h',g',d',q6,q1⟩:=s';have eg:g'=s.gens:=hm.gens;have ed:d'=s.drawn:=hm.drawn;have eo:q1=s.os:=hm.os;subst eg;subst ed;subst eo;show wpAny _ _ _ _ _ _;refine aj (h h' q6 q2 (λb o hb e=>?_) qv q0);refine hm.heap b o ?_ (G b o e);simp only[cj,wz,or_false,not_or];exact⟨hb,fu (au e)⟩
def af1{id:String}(hh:A.handled=none)(hS:zj w s.heap a (λ_=>False) 0)(R:s.heap.IsList l items)(qq:PyProof.Rows.IntsAre items.toList ks){B:X9}(hB:∀k∈ks,k∈B)(Z:B.length<31)(h:∀G tk n',(∀b o,b≠a->s.heap.get? b=some o->G.get? b=some o)->zj w G a (λk=>k∈ks) n'->n'<=B.length->Q () { s with heap:=G,toks:=tk }) :
 wpAny (model prog w) A (Builtin.Frozenset.updateFrom id a (.ref l)) Q E s:=by
 have U:=R;obtain⟨o,ho,hc,n,hd⟩:=U;exact ac1 hS ho hc (λ_ _ _ z=>by rw[hd] at z;cases z) F.sub_list_set F.sub_list_frozenset (by decide) (wpAny_pyIter_list R) (λne=>Walks.list (by simp[hh]) _ l ne items) ⟨⟨_,bf _ rfl,rfl,rfl⟩,R.push _⟩ qq hB Z h
def ahy{id:String}(hh:A.handled=none)(hS:zj w s.heap a (λ_=>False) 0)(hl:s.heap.IsTuple l items)(R:PyProof.Rows.IntsAre items.toList ks){B:X9}(hB:∀k∈ks,k∈B)(Z:B.length<31)(h:∀G tk n',(∀b o,b≠a->s.heap.get? b=some o->G.get? b=some o)->zj w G a (λk=>k∈ks) n'->n'<=B.length->Q () { s with heap:=G,toks:=tk }) :
 wpAny (model prog w) A (Builtin.Frozenset.updateFrom id a (.ref l)) Q E s:=by
 have U:=hl;obtain⟨o,ho,hc,n,hd⟩:=U;exact ac1 hS ho hc (λ_ _ _ z=>by rw[hd] at z;cases z) (by rw[isSubtype_type];kernel_rfl) (by rw[isSubtype_type];kernel_rfl) (by decide) (m9 hl) (λne=>Walks.tuple (by simp[hh]) _ l ne items) ⟨⟨_,bf _ rfl,rfl,rfl⟩,o,aq _ ho,hc,n,hd⟩ R hB Z h
def aw4(hh:A.handled=none)(hl:s.heap.IsList l items)(qk:PyProof.Rows.IntsAre items.toList ks){B:X9}(hB:∀k∈ks,k∈B)(qq:B.length<31)(h:∀Z tk G,(∀b o,s.heap.get? b=some o->Z.get? b=some o)->zj w Z s.heap.objs.size (λk=>k∈ks) G->G<=B.length->Q (.ref s.heap.objs.size) { s with heap:=Z,toks:=tk }) :
 wpAny (model prog w) A (call (.type "set") [.ref l]) Q E s:=by
 refine Pn (R:=λs'=>∃Z tk G,s'={ s with heap:=Z,toks:=tk }/\(∀b o,s.heap.get? b=some o->Z.get? b=some o)/\zj w Z s.heap.objs.size (λk=>k∈ks) G/\G<=B.length)
  (af1 (s:={ s with heap:=s.heap.push (Ac w) }) (by simp[hh]) (Yu (bf _ rfl)) (hl.push _) qk hB qq λZ tk G hk U Wl=>⟨Z,tk,G,rfl,λb o e=>hk b o (fu (au e)) (aq _ e),U,Wl⟩)
  λs' ⟨Z,tk,G,e,hk,U,Wl⟩=>by subst e;exact h Z tk G hk U Wl
def af2(hh:A.handled=none)(hl:s.heap.IsTuple l items)(qk:PyProof.Rows.IntsAre items.toList ks){B:X9}(hB:∀k∈ks,k∈B)(qq:B.length<31)(h:∀Z tk G,(∀b o,s.heap.get? b=some o->Z.get? b=some o)->zj w Z s.heap.objs.size (λk=>k∈ks) G->G<=B.length->Q (.ref s.heap.objs.size) { s with heap:=Z,toks:=tk }) :
 wpAny (model prog w) A (call (.type "set") [.ref l]) Q E s:=by
 refine Pn (R:=λs'=>∃Z tk G,s'={ s with heap:=Z,toks:=tk }/\(∀b o,s.heap.get? b=some o->Z.get? b=some o)/\zj w Z s.heap.objs.size (λk=>k∈ks) G/\G<=B.length)
  (ahy (s:={ s with heap:=s.heap.push (Ac w) }) (by simp[hh]) (Yu (bf _ rfl)) (let ⟨o,ho,r⟩:=hl;⟨o,aq _ ho,r⟩) qk hB qq λZ tk G hk U Wl=>⟨Z,tk,G,rfl,λb o e=>hk b o (fu (au e)) (aq _ e),U,Wl⟩)
  λs' ⟨Z,tk,G,e,hk,U,Wl⟩=>by subst e;exact h Z tk G hk U Wl
end STb
namespace MW
open PySem (Str)
set_option genInjectivity true in
inductive D where
 |non|bl (b:Bool)|int (i:Int)|str (s:Str)|tup (ds:List D)|vl (ds:List D)|fz (ds:List D)|ref (n:Nat)
noncomputable abbrev Kx:=Sum Int Str
set_option genInjectivity true in
inductive MO where
 |lst (ds:List D)|dT (ni:List (List Kx×D))|dF (ni:List (List Kx×D))|ins (c:Nat) (fs:List (Nat×D))
noncomputable abbrev dm:=List MO
noncomputable abbrev Env:=List (Option D)
set_option genInjectivity true in
inductive Res(α:Type) where
 |ok (a:α) (M:dm)|bad
namespace Res
noncomputable def bind{Z β:Type}(r:Res Z)(f:Z->dm->Res β):Res β :=
 match r with|ok a M=>f a M|bad=>bad
@[simp] def uv(a:α)(M:dm)(f:α->dm->Res β):(ok a M).bind f=f a M:=rfl
@[simp] def ax3(f:α->dm->Res β):(bad:Res α).bind f=bad:=rfl
noncomputable def qj{α:Type}(o:Option α)(M:dm):Res α:=match o with|some a=>ok a M|none=>bad
@[simp] def ue(a:α)(M:dm):qj (some a) M=ok a M:=rfl
@[simp] def asq(M:dm):qj (none:Option α) M=bad:=rfl
end Res
inductive Op2 where|add|sub|mul|fdiv|mod|pow
inductive Cp where|eq|ne|lt|le|gt|ge|inn|Rt
inductive Blt where
 |len|tuple|list|max|min|all|isBool|Gx
inductive Bm where|append|extend|setdefault|get|index
inductive Tg where
 |name (i:Nat)|names (is:Y3)
mutual
inductive Ex where
 |var (i:Nat)|cst (d:D)
 |bin (op:Op2) (a b:Ex)|neg (a:Ex)
 |cmp (op:Cp) (a b:Ex)|chain (o1 o2:Cp) (a b c:Ex)
 |and (a b:Ex)|or (a b:Ex)|not (a:Ex)
 |tup (es:De)|lst (es:De)|Ku (es:De)|Yv
 |ix (a b:Ex)|cut (a:Ex) (lo hi:OEx)
 |call (f:Nat) (es:De)|make (c:Nat)|meth (o:Ex) (m:Nat) (es:De)|fld (o:Ex) (f:Nat)
 |blt (b:Blt) (es:De)|bm (m:Bm) (o:Ex) (es:De)
 |comp (v:Bool) (k:Nat) (t:Tg) (it:Mg) (e:Ex)|ym (v:Bool) (k:Nat) (t:Tg) (it:Mg) (c:Ex) (e:Ex)
 |tru (e:Ex)|ntr (e:Ex)
inductive De where
 |nil|cons (e:Ex) (es:De)
inductive OEx where
 |none|some (e:Ex)
inductive Mg where
 |val (e:Ex)|Mp (e:Ex)|enm (e:Ex)|zip (es:De)|vals (e:Ex)
end
noncomputable abbrev Ex.v:=Ex.var
noncomputable abbrev Ex.i(n:Int):Ex:=.cst (.int n)
noncomputable abbrev Ex.l(e:Ex):Ex:=.blt .len (.cons e .nil)
noncomputable abbrev De.z:=De.nil
noncomputable abbrev De.c:=De.cons
noncomputable abbrev De.o(a:Ex):De:=.cons a .nil
noncomputable abbrev De.p(a b:Ex):De:=.cons a (.cons b .nil)
noncomputable abbrev De.q(a b c:Ex):De:=.cons a (.cons b (.cons c .nil))
inductive Lv where
 |tg (t:Tg)|sub (o i:Ex)|fld (o:Ex) (f:Nat)
mutual
inductive zx where
 |asg (l:Lv) (e:Ex)|expr (e:Ex)|iff (c:Ex) (a b:j8)|whl (c:Ex) (b:j8)|for_ (t:Tg) (it:Mg) (b:j8)
 |ret (e:Ex)|raise
inductive j8 where
 |nil|cons (s:zx) (r:j8)
end
noncomputable abbrev zx.a(i:Nat)(e:Ex):zx:=.asg (.tg (.name i)) e
noncomputable abbrev zx.f(c:Ex)(b:j8):zx:=.iff c b .nil
noncomputable abbrev j8.z:=j8.nil
noncomputable abbrev j8.c:=j8.cons
noncomputable abbrev j8.o(a:zx):j8:=.cons a .nil
noncomputable abbrev j8.p(a b:zx):j8:=.cons a (.cons b .nil)
noncomputable abbrev j8.q(a b c:zx):j8:=.cons a (.cons b (.cons c .nil))
structure Fn where
 np:Nat
 ns:Nat
 body:j8
structure Cl where
 init:Nat
 meths:List (Nat×Nat)
noncomputable def gj(M:dm):D->Option (List D)
 |.vl ds=>some ds|.ref n=>match M[n]? with|some (.lst ds)=>some ds|_=>none
 |_=>none
def j9(M:dm):D->Option (List D)
 |.tup ds=>some ds|d=>gj M d
noncomputable def asr:D->Option Kx
 |.int i=>some (.inl i)|.str s=>some (.inr s)|_=>none
def abf:List D->Option (List Kx)
 |[]=>some []
 |d::ds=>match asr d,abf ds with
  |some k,some ks=>some (k::ks)|_,_=>none
def Mq:D->Option (List Kx)
 |.tup ds=>abf ds|_=>none
noncomputable def ax4:Kx->D
 |.inl i=>.int i|.inr s=>.str s
def af4(ks:List Kx):D:=.tup (ks.map ax4)
noncomputable def Vc(f:D->D->Option Bool):List D->List D->Option Bool
 |[],[]=>some true
 |a::as,b::bs=>match f a b,Vc f as bs with
  |some x,some y=>some (x&&y)|_,_=>none
 |_,_=>some false
instance:DecidableEq Kx:=inferInstanceAs (DecidableEq (Sum Int Str))
noncomputable def Bq{Z:Type}[DecidableEq Z](G:List (Z×D))(k:Z):Option D:=(G.find? λp=>decide (p.1=k)).map (·.2)
def Mh(M:dm):Nat->D->D->Option Bool
 |0,_,_=>none
 |n+1,a,b=>match a,b with
  |.int i,.int j=>some (decide (i=j))|.bl i,.bl j=>some (i==j)|.str i,.str j=>some (decide (i=j))|.tup as,.tup bs=>Vc (Mh M n) as bs
  |a,b=>match gj M a,gj M b with
   |some as,some bs=>if as.length=bs.length then Vc (Mh M n) as bs else some false
   |_,_=>none
def um(M:dm)(a b:D):Option Bool:=Mh M 6 a b
def Mr(M:dm)(x:D):List D->Option (List Bool)
 |[]=>some []
 |y::ys=>match um M y x,Mr M x ys with
  |some a,some b=>some (a::b)|_,_=>none
def memD(M:dm)(x:D)(Z:List D):Option Bool:=(Mr M x Z).map (·.any id)
def ass(M:dm)(x:D)(Z:List D):Option Nat:=(Mr M x Z).bind (·.findIdx? id)
noncomputable def Vd:List D->Option (List Int)
 |[]=>some []|.int i::r=>(Vd r).map (i::·)|_::_=>none
noncomputable def Oz(n:Nat)(i:Int):Option Nat:=if 0<=i then(if i<n then some i.toNat else none) else if -(n:Int)<=i then some (i+n).toNat else none
noncomputable def clip(n:Nat)(d:Nat):Option Int->Nat
 |none=>d|some i=>if 0<=i then min i.toNat n else(i+n).toNat
def Jg(Z:List D)(G U:Option Int):List D:=(Z.drop (clip Z.length 0 G)).take (clip Z.length Z.length U-clip Z.length 0 G)
noncomputable def am2:List Int->Option Int
 |[]=>none|a::r=>some (r.foldl (λm x=>if m<x then x else m) a)
noncomputable def asu:List Int->Option Int
 |[]=>none|a::r=>some (r.foldl (λm x=>if x<m then x else m) a)
noncomputable def yt:List Int->List Int
 |[]=>[]|x::xs=>if x∈xs then yt xs else x::yt xs
noncomputable def Ru{Z:Type}[DecidableEq Z](G:List (Z×D))(k:Z)(v:D):List (Z×D) :=
 if(G.any λkv=>decide (kv.1=k))=true then G.map (λkv=>if kv.1=k then(kv.1,v) else kv) else G++[(k,v)]
noncomputable def new(o:MO)(M:dm):Res D:=.ok (.ref M.length) (M++[o])
def ah0(a b:D)(M:dm):Res D :=
 match a,b with
 |.int i,.int j=>.ok (.int (i+j)) M|.tup xs,.tup ys=>if xs.length+ys.length<=100000 then .ok (.tup (xs++ys)) M else .bad
 |x,y=>match gj M x,gj M y with
  |some xs,some ys=>if xs.length+ys.length<=100000 then .ok (.vl (xs++ys)) M else .bad
  |_,_=>.bad
noncomputable def ii{α:Type}(x y:D)(f:Int->Int->α)(z:α):α:=match x with|.int i=>(match y with|.int j=>f i j|_=>z)|_=>z
def abg(h:ii x y f z=r)(Z:z≠r):∃i j,x=.int i/\y=.int j/\f i j=r:=by
 cases x with
 |int i=>cases y with
  |int j=>exact⟨i,j,rfl,rfl,h⟩|_=>exact absurd h Z
 |_=>exact absurd h Z
@[simp] def a5k(i j:Int)(f:Int->Int->α)(z:α):ii (.int i) (.int j) f z=f i j:=rfl
def ax5(a b:D)(M:dm):Res D:=ii a b (λi j=>.ok (.int (i-j)) M) .bad
def ax6(a b:D)(M:dm):Res D:=ii a b (λi j=>if(-(2 ^ 64)<i/\i<2 ^ 64)\/(-(2 ^ 64)<j/\j<2 ^ 64) then .ok (.int (i*j)) M else .bad) .bad
def asv(a b:D)(M:dm):Res D:=ii a b (λi j=>if 0<j/\j<1073741824 then .ok (.int (i / j)) M else .bad) .bad
def ax7(a b:D)(M:dm):Res D:=ii a b (λi j=>if 0<j then .ok (.int (i%j)) M else .bad) .bad
def aq9(a b:D)(M:dm):Res D:=ii a b (λi j=>if 0<=j/\j<=64/\i.natAbs<2 ^ 64 then .ok (.int (i ^ j.toNat)) M else .bad) .bad
def Ba(Z:Op2):D->D->dm->Res D :=
 match Z with
 |.add=>ah0|.sub=>ax5|.mul=>ax6|.fdiv=>asv|.mod=>ax7|.pow=>aq9
def Ux(M:dm)(a b:D):Option Bool:=(j9 M b).bind (memD M a)
def Yw(f:Int->Int->Bool)(a b:D):Option Bool:=ii a b (λi j=>some (f i j)) none
def Jk(Z:Cp)(a b:D)(M:dm):Option Bool :=
 match Z with
 |.lt=>Yw (λi j=>decide (i<j)) a b
 |.le=>Yw (λi j=>decide (i<=j)) a b
 |.gt=>Yw (λi j=>decide (j<i)) a b
 |.ge=>Yw (λi j=>decide (j<=i)) a b
 |.eq=>um M a b|.ne=>(um M a b).map not|.inn=>Ux M a b|.Rt=>(Ux M a b).map not
def ixL(Z:Option (List D))(b:D):Option D:=match Z,b with
 |some Z,.int i=>(Oz Z.length i).bind λj=>Z[j]?
 |_,_=>none
def uo(a b:D)(M:dm):Option D :=
 match a with
 |.fz ds=>ixL (some ds) b
 |.ref n=>match M[n]? with
  |some (.dT ni)=>(Mq b).bind (Bq ni)|_=>ixL (gj M a) b
 |_=>ixL (j9 M a) b
def Ms(a:D)(U G:Option Int)(M:dm):Option D:=match a with
 |.tup Z=>some (.tup (Jg Z U G))|_=>(gj M a).map λZ=>.vl (Jg Z U G)
noncomputable def allB:List D->Option Bool
 |[]=>some true|.bl b::r=>(allB r).map (b&&·)|_::_=>none
noncomputable def Wm(M:dm):D->Res D
 |.ref n=>match M[n]? with
  |some (.lst ds)=>.ok (.int ds.length) M|_=>.bad
 |.fz ds=>.ok (.int ds.length) M|.tup ds=>.ok (.int ds.length) M|.vl ds=>.ok (.int ds.length) M|_=>.bad
def two(Z:List D)(f:Int->Int->Int)(g:D->Option Int)(M:dm):Res D :=
 match Z with
 |[a,b]=>(match a,b with|.int i,.int j=>.ok (.int (f i j)) M|_,_=>.bad)
 |[d]=>Res.qj ((g d).map D.int) M|_=>.bad
noncomputable def Jl(Z:List D)(g:D->Res D):Res D :=
 match Z with
 |[d]=>g d|_=>.bad
def uq(b:Blt)(Z:List D)(M:dm):Res D :=
 match b with
 |.len=>Jl Z (Wm M)|.tuple=>Jl Z λd=>Res.qj ((j9 M d).map D.tup) M
 |.max=>two Z (λi j=>if i<j then j else i) (λd=>((j9 M d).bind Vd).bind am2) M
 |.min=>two Z (λi j=>if j<i then j else i) (λd=>((j9 M d).bind Vd).bind asu) M
 |.all=>Jl Z λd=>Res.qj (((gj M d).bind allB).map D.bl) M
 |.isBool=>Jl Z λd=>match d with|.bl _=>.ok (.bl true) M|_=>.bad
 |.Gx=>Jl Z λd=>match d with
  |.tup Z=>Res.qj ((Vd Z).bind λis=>if is.length<31 then some (D.int (yt is).length) else none) M
  |_=>.bad
 |.list=>Jl Z λd=>match j9 M d with
  |some G=>new (.lst G) M
  |none=>match d with
   |.ref n=>match M[n]? with
    |some (.dT ni)=>if ni.length<=1000 then .ok (.vl (ni.map λp=>af4 p.1)) M else .bad
    |_=>.bad
   |_=>.bad
def Jm(m:Bm)(x:D)(M:dm):Bool :=
 match m with
 |.setdefault=>(match x with|.ref n=>(match M[n]? with|some (.dT _)=>true|_=>false)|_=>false)
 |.get=>(match x with|.ref n=>(match M[n]? with|some (.dT _)=>true|_=>false)|_=>false)
 |_=>(gj M x).isSome
noncomputable def Mt(n:Nat):D->Bool
 |.ref k=>k != n|_=>true
noncomputable def onL(o:D)(M:dm)(f:Nat->List D->Res D):Res D:=match o with
 |.ref n=>match M[n]? with|some (.lst xs)=>f n xs|_=>.bad
 |_=>.bad
noncomputable def onT(o:D)(M:dm)(f:Nat->List (List Kx×D)->Res D):Res D:=match o with
 |.ref n=>match M[n]? with|some (.dT ni)=>f n ni|_=>.bad
 |_=>.bad
def Dr(m:Bm)(o:D)(U:List D)(M:dm):Res D :=
 match m with
 |.append=>onL o M λn Z=>Jl U λd=>if Z.length<100000 then .ok .non (M.set n (.lst (Z++[d]))) else .bad
 |.extend=>onL o M λn Z=>Jl U λy=>match gj M y with
  |some R=>if Mt n y=true/\Z.length+R.length<100000 then .ok .non (M.set n (.lst (Z++R))) else .bad
  |none=>.bad
 |.get=>onT o M λn G=>match U with
  |[k,d]=>Res.qj ((Mq k).map λq=>(Bq G q).getD d) M
  |_=>.bad
 |.index=>Jl U λd=>Res.qj (((gj M o).bind (ass M d)).map λ(j:Nat)=>.int (j:Int)) M
 |.setdefault=>onT o M λn G=>match U with
  |[k,d]=>match Mq k with
   |some q=>match Bq G q with
    |some v=>.ok v M|none=>if G.length<100000 then .ok d (M.set n (.dT (G++[(q,d)]))) else .bad
   |none=>.bad
  |_=>.bad
def setOp(o i v:D)(M:dm):Option dm :=
 match o with
 |.ref n=>match M[n]? with
  |some (.lst xs)=>match i with
   |.int j=>(Oz xs.length j).map λq=>M.set n (.lst (xs.set q v))
   |_=>none
  |some (.dT ni)=>(Mq i).bind λk=>if ni.length<100000 then some (M.set n (.dT (Ru ni k v))) else none
  |_=>none
 |_=>none
noncomputable def Rx(f:Nat)(v:D):List (Nat×D)->List (Nat×D)
 |[]=>[(f,v)]|(g,x)::r=>if g=f then(g,v)::r else(g,x)::Rx f v r
noncomputable def Hg(o:D)(f:Nat)(M:dm):Option D :=
 match o with
 |.ref n=>match M[n]? with
  |some (.ins _ fs)=>fs.lookup f|_=>none
 |_=>none
def Ry(o:D)(f:Nat)(v:D)(M:dm):Option dm :=
 match o with
 |.ref n=>match M[n]? with
  |some (.ins c fs)=>if fs.length<1000 then some (M.set n (.ins c (Rx f v fs))) else none
  |_=>none
 |_=>none
inductive Src where
 |con (ds:List D)|live (n:Nat) (len:Nat)|el (n:Nat) (len:Nat)
noncomputable def Src.len:Src->Nat
 |.con ds=>ds.length|.live _ k=>k|.el _ k=>k
noncomputable def Src.item(s:Src)(i:Nat)(M:dm):Option D :=
 match s with
 |.con ds=>ds[i]?
 |.live n k=>match M[n]? with
  |some (.lst ds)=>if ds.length=k then ds[i]? else none
  |_=>none
 |.el n k=>match M[n]? with
  |some (.lst ds)=>if ds.length=k then(ds[i]?).map λd=>.tup [.int i,d] else none
  |_=>none
noncomputable def Src.fin(s:Src)(M:dm):Bool :=
 match s with
 |.con _=>true
 |.live n k=>match M[n]? with
  |some (.lst ds)=>ds.length==k|_=>false
 |.el n k=>match M[n]? with
  |some (.lst ds)=>ds.length==k|_=>false
noncomputable def srcOf(M:dm)(d:D):Option Src :=
 match d with
 |.tup ds=>some (.con ds)|.vl ds=>some (.con ds)
 |.ref n=>match M[n]? with
  |some (.lst ds)=>some (.live n ds.length)|_=>none
 |_=>none
inductive Flow where
 |next|brk|cont|ret (d:D)
noncomputable def Gy:List Nat->List D->Env->Env
 |i::is,d::ds,ρ=>Gy is ds (ρ.set i (some d))|_,_,ρ=>ρ
def Tg.put(t:Tg)(d:D)(Z:Env):Option Env :=
 match t with
 |.name i=>some (Z.set i (some d))
 |.names is=>match d with
  |.tup ds=>if ds.length=is.length then some (Gy is ds Z) else none
  |_=>none
structure Kv where
 call:Nat->List D->dm->Res D
 cls:List Cl
def Bk(fin:dm->Bool)(item:Nat->dm->Option D)(Z:D->Env->dm->Res (Flow×Env)):Nat->Nat->Env->dm->Res (Flow×Env)
 |0,_,ρ,M=>if fin M then .ok (.next,ρ) M else .bad
 |k+1,i,ρ,M=>match item i M with
  |none=>.bad
  |some d=>(Z d ρ M).bind λr G=>match r.1 with
   |.next=>Bk fin item Z k (i+1) r.2 G|.cont=>Bk fin item Z k (i+1) r.2 G|.brk=>.ok (.next,r.2) G|.ret v=>.ok (.ret v,r.2) G
def Ah(fin:dm->Bool)(item:Nat->dm->Option D)(Z:D->dm->Res (Option D)):Nat->Nat->dm->Res (List D)
 |0,_,M=>if fin M then .ok [] M else .bad
 |k+1,i,M=>match item i M with
  |none=>.bad|some d=>(Z d M).bind λo U=>(Ah fin item Z k (i+1) U).bind λG R=>.ok (match o with|some x=>x::G|none=>G) R
def zm(s:Src)(Z:D->dm->Res (Option D))(M:dm):Res (List D):=if s.len<=100000 then Ah s.fin s.item Z s.len 0 M else .bad
def Br(c:Env->dm->Res D)(Z:Env->dm->Res (Flow×Env)):Nat->Env->dm->Res (Flow×Env)
 |0,_,_=>.bad
 |k+1,ρ,M=>(c ρ M).bind λb U=>match b with
  |.bl false=>.ok (.next,ρ) U
  |.bl true=>(Z ρ U).bind λr G=>match r.1 with
   |.next=>Br c Z k r.2 G|.cont=>Br c Z k r.2 G|.brk=>.ok (.next,r.2) G|.ret v=>.ok (.ret v,r.2) G
  |_=>.bad
noncomputable def Wn:Nat:=1000000
noncomputable def Qw(Z G:List D):List D:=(Z.zip G).map λp=>.tup [p.1,p.2]
noncomputable def zy(Z:List D):Nat->List D:=λn=>(Z.zipIdx n).map λp=>D.tup [.int p.2,p.1]
noncomputable def ac2(d:D)(M:dm):Res Src :=
 match d with
 |.ref n=>match M[n]? with
  |some (.dT ni)=>.ok (.con (ni.map (·.2))) (M.set n (.dF ni))|_=>.bad
 |_=>.bad
def am4(d:D)(M:dm):Res Src :=
 match d with
 |.tup ds=>.ok (.con (zy ds 0)) M|.vl ds=>.ok (.con (zy ds 0)) M
 |.ref n=>match M[n]? with
  |some (.lst ds)=>.ok (.el n ds.length) M|_=>.bad
 |_=>.bad
def asx(Z:List D)(M:dm):Res Src:=match Z with
 |[.tup xs,.tup ys]=>.ok (.con (Qw xs ys)) M|_=>.bad
mutual
def Ex.den(W:Kv):Ex->Env->dm->Res D
 |.var i,ρ,M=>match ρ[i]? with
  |some (some d)=>.ok d M|_=>.bad
 |.cst d,_,M=>.ok d M|.bin op a b,ρ,M=>(a.den W ρ M).bind λx Z=>(b.den W ρ Z).bind λy G=>Ba op x y G
 |.neg a,ρ,M=>(a.den W ρ M).bind λx Z=>match x with|.int i=>.ok (.int (-i)) Z|_=>.bad
 |.cmp op a b,ρ,M=>(a.den W ρ M).bind λx Z=>(b.den W ρ Z).bind λy G=>Res.qj ((Jk op x y G).map D.bl) G
 |.chain o1 o2 a b c,ρ,M=>(a.den W ρ M).bind λx Z=>(b.den W ρ Z).bind λy G=>(Res.qj (Jk o1 x y G) G).bind λq G=>if q then(c.den W ρ G).bind λz M3=>Res.qj ((Jk o2 y z M3).map D.bl) M3 else .ok (.bl false) G
 |.and a b,ρ,M=>(a.den W ρ M).bind λx Z=>match x with|.bl true=>b.den W ρ Z|.bl false=>.ok (.bl false) Z|_=>.bad
 |.or a b,ρ,M=>(a.den W ρ M).bind λx Z=>match x with|.bl true=>.ok (.bl true) Z|.bl false=>b.den W ρ Z|_=>.bad
 |.not a,ρ,M=>(a.den W ρ M).bind λx Z=>match x with|.bl b=>.ok (.bl !b) Z|_=>.bad
 |.tup es,ρ,M=>(es.den W ρ M).bind λU Z=>.ok (.tup U) Z
 |.lst es,ρ,M=>(es.den W ρ M).bind λU Z=>new (.lst U) Z
 |.Ku es,ρ,M=>(es.den W ρ M).bind λU Z=>.ok (.vl U) Z
 |.Yv,_,M=>new (.dT []) M|.ix a b,ρ,M=>(a.den W ρ M).bind λx Z=>(b.den W ρ Z).bind λy G=>Res.qj (uo x y G) G
 |.cut a lo hi,ρ,M=>(a.den W ρ M).bind λx Z=>(lo.den W ρ Z).bind λl G=>(hi.den W ρ G).bind λh M3=>Res.qj (Ms x l h M3) M3
 |.call f es,ρ,M=>(es.den W ρ M).bind λU Z=>W.call f U Z
 |.make c,ρ,M=>match W.cls[c]? with
  |some C=>(W.call C.init [.ref M.length] (M++[.ins c []])).bind λr G=>match r with|.non=>.ok (.ref M.length) G|_=>.bad
  |none=>.bad
 |.meth o m es,ρ,M=>(o.den W ρ M).bind λx Z=>(es.den W ρ Z).bind λU G=>match x with
  |.ref n=>match Z[n]? with
   |some (.ins c _)=>match(W.cls[c]?).bind λC=>C.meths.lookup m with
    |some f=>W.call f (.ref n::U) G|none=>.bad
   |_=>.bad
  |_=>.bad
 |.fld o f,ρ,M=>(o.den W ρ M).bind λx Z=>Res.qj (Hg x f Z) Z
 |.blt b es,ρ,M=>(es.den W ρ M).bind λU Z=>uq b U Z
 |.bm m o es,ρ,M=>(o.den W ρ M).bind λx Z=>if Jm m x Z then(es.den W ρ Z).bind λU G=>Dr m x U G else .bad
 |.comp v k t it e,ρ,M=>(it.den W ρ M).bind λs Z =>
  (zm s (λd M=>match t.put d (ρ++List.replicate k none) with
   |some R=>(e.den W R M).bind λx M'=>.ok (some x) M'
   | none=>.bad) Z).bind λU G=>if v then .ok (.vl U) G else new (.lst U) G
 |.ym v k t it c e,ρ,M=>(it.den W ρ M).bind λs Z =>
  (zm s (λd M=>match t.put d (ρ++List.replicate k none) with
   |some R=>(c.den W R M).bind λb M'=>match b with
    |.bl true=>(e.den W R M').bind λx qq=>.ok (some x) qq
    |.bl false=>.ok none M'|_=>.bad
   | none=>.bad) Z).bind λU G=>if v then .ok (.vl U) G else new (.lst U) G
 |.ntr e,ρ,M=>(e.den W ρ M).bind λx Z=>Res.qj ((j9 Z x).map λU=>D.bl U.isEmpty) Z
 |.tru e,ρ,M=>(e.den W ρ M).bind λx Z=>Res.qj ((j9 Z x).map λU=>D.bl !U.isEmpty) Z
def De.den(W:Kv):De->Env->dm->Res (List D)
 |.nil,_,M=>.ok [] M|.cons e es,ρ,M=>(e.den W ρ M).bind λx U=>(es.den W ρ U).bind λZ G=>.ok (x::Z) G
def OEx.den(W:Kv):OEx->Env->dm->Res (Option Int)
 |.none,_,M=>.ok none M|.some e,ρ,M=>(e.den W ρ M).bind λx Z=>match x with|.int i=>.ok (some i) Z|_=>.bad
def Mg.den(W:Kv):Mg->Env->dm->Res Src
 |.val e,ρ,M=>(e.den W ρ M).bind λx Z=>Res.qj (srcOf Z x) Z
 |.Mp e,ρ,M=>(e.den W ρ M).bind λx Z=>match x with
  |.int i=>if i.natAbs<=100000 then .ok (.con ((List.range i.toNat).map λ(k:Nat)=>D.int (k:Int))) Z else .bad
  |_=>.bad
 |.enm e,ρ,M=>(e.den W ρ M).bind am4|.zip es,ρ,M=>(es.den W ρ M).bind asx|.vals e,ρ,M=>(e.den W ρ M).bind ac2
end
def Lv.put(W:Kv)(l:Lv)(d:D)(Z:Env)(M:dm):Res Env :=
 match l with
 |.tg t=>Res.qj (t.put d Z) M|.sub o i=>(o.den W Z M).bind λx U=>(i.den W Z U).bind λy G=>(Res.qj (setOp x y d G) G).bind λR _=>.ok Z R
 |.fld o f=>(o.den W Z M).bind λx U=>(Res.qj (Ry x f d U) U).bind λG _=>.ok Z G
mutual
def zx.den(W:Kv):zx->Env->dm->Res (Flow×Env)
 |.asg l e,Z,M=>(e.den W Z M).bind λx G=>(l.put W x Z G).bind λU R=>.ok (.next,U) R
 |.expr e,Z,M=>(e.den W Z M).bind λ_ G=>.ok (.next,Z) G
 |.iff c a b,Z,M=>(c.den W Z M).bind λx G=>match x with|.bl true=>a.den W Z G|.bl false=>b.den W Z G|_=>.bad
 |.whl c b,Z,M=>Br (c.den W) (b.den W) Wn Z M
 | .for_ t it b,Z,M=>(it.den W Z M).bind λs G=>Bk s.fin s.item (λd Z M=>match t.put d Z with
  | some U=>b.den W U M|none=>.bad) s.len 0 Z G
 |.ret e,Z,M=>(e.den W Z M).bind λx G=>.ok (.ret x,Z) G
 |.raise,_,_=>.bad
def j8.den(W:Kv):j8->Env->dm->Res (Flow×Env)
 |.nil,ρ,M=>.ok (.next,ρ) M
 |.cons s r,ρ,M=>(s.den W ρ M).bind λp Z=>match p.1 with
  |.next=>r.den W p.2 Z|.brk=>.ok (.brk,p.2) Z|.cont=>.ok (.cont,p.2) Z|.ret d=>.ok (.ret d,p.2) Z
end
structure Prog where
 fns:List Fn
 cls:List Cl
def Fn.run(W:Kv)(f:Fn)(Z:List D)(M:dm):Res D :=
 if Z.length=f.np then
  (f.body.den W (Z.map some++List.replicate (f.ns-f.np) none) M).bind λp G=>match p.1 with
   |.ret d=>.ok d G|.next=>.ok .non G|_=>.bad
 else .bad
def Prog.call(P:Prog):Nat->Nat->List D->dm->Res D
 |0,_,_,_=>.bad
 |n+1,f,ds,M=>match P.fns[f]? with
  |some F=>F.run ⟨P.call n,P.cls⟩ ds M|none=>.bad
@[simp] def am5(i:Nat):(Ex.var i).den W Z M=match Z[i]? with|some (some d)=>.ok d M|_=>.bad:=rfl
@[simp high] theorem asy(d:D)(r:Env):(Ex.var 0).den W (some d::r) M=.ok d M:=rfl
@[simp high] theorem ah1(Z:Option D)(d:D)(r:Env):(Ex.var 1).den W (Z::some d::r) M=.ok d M:=rfl
@[simp high] theorem a5l(G Z:Option D)(d:D)(r:Env):(Ex.var 2).den W (G::Z::some d::r) M=.ok d M:=rfl
@[simp high] theorem a5m(U Z G:Option D)(d:D)(r:Env):(Ex.var 3).den W (U::Z::G::some d::r) M=.ok d M:=rfl
@[simp high] theorem a5n(R Z U G:Option D)(d:D)(r:Env):(Ex.var 4).den W (R::Z::U::G::some d::r) M=.ok d M:=rfl
@[simp high] theorem a5o(a0 Z U G R:Option D)(d:D)(r:Env):(Ex.var 5).den W (a0::Z::U::G::R::some d::r) M=.ok d M:=rfl
@[simp high] theorem a5p(a0 Z U G R a5:Option D)(d:D)(r:Env):(Ex.var 6).den W (a0::Z::U::G::R::a5::some d::r) M=.ok d M:=rfl
@[simp high] theorem a5q(a0 Z R G a4 a5 U:Option D)(d:D)(r:Env):(Ex.var 7).den W (a0::Z::R::G::a4::a5::U::some d::r) M=.ok d M:=rfl
@[simp high] theorem ah2(a0 Z R G a4 a5 U a7:Option D)(d:D)(r:Env):(Ex.var 8).den W (a0::Z::R::G::a4::a5::U::a7::some d::r) M=.ok d M:=rfl
@[simp high] theorem a5r(a0 Z a2 G a4 a5 U a7 R:Option D)(d:D)(r:Env):(Ex.var 9).den W (a0::Z::a2::G::a4::a5::U::a7::R::some d::r) M=.ok d M:=rfl
@[simp high] theorem a3c(a0 Z a2 G a4 a5 U a7 R a9:Option D)(d:D)(r:Env):(Ex.var 10).den W (a0::Z::a2::G::a4::a5::U::a7::R::a9::some d::r) M=.ok d M:=rfl
@[simp high] theorem a3d(a0 G a2 U a4 a5 R a7 a8 a9 Z:Option D)(d:D)(r:Env):(Ex.var 11).den W (a0::G::a2::U::a4::a5::R::a7::a8::a9::Z::some d::r) M=.ok d M:=rfl
@[simp high] theorem a3e(a0 U a2 R a4 a5 a6 a7 a8 a9 G Z:Option D)(d:D)(r:Env):(Ex.var 12).den W (a0::U::a2::R::a4::a5::a6::a7::a8::a9::G::Z::some d::r) M=.ok d M:=rfl
@[simp] def Gi(d:D):(Ex.cst d).den W Z M=.ok d M:=rfl
@[simp] def ac3(Z:Op2)(a b:Ex):(Ex.bin Z a b).den W G M=(a.den W G M).bind λx U=>(b.den W G U).bind λy M2=>Ba Z x y M2:=rfl
@[simp] def am6(a:Ex):(Ex.neg a).den W Z M=(a.den W Z M).bind λx G=>match x with|.int i=>.ok (.int (-i)) G|_=>.bad:=rfl
@[simp] def Q5(Z:Cp)(a b:Ex):(Ex.cmp Z a b).den W G M=(a.den W G M).bind λx U=>(b.den W G U).bind λy M2=>Res.qj ((Jk Z x y M2).map D.bl) M2:=rfl
@[simp] def af5(R U:Cp)(a b c:Ex):(Ex.chain R U a b c).den W Z M=(a.den W Z M).bind λx M1=>(b.den W Z M1).bind λy M2=>(Res.qj (Jk R x y M2) M2).bind λq M2=>if q then(c.den W Z M2).bind λz G=>Res.qj ((Jk U y z G).map D.bl) G else .ok (.bl false) M2:=rfl
def Er(a b:Ex):(Ex.and a b).den W Z M=(a.den W Z M).bind λx G=>match x with|.bl true=>b.den W Z G|.bl false=>.ok (.bl false) G|_=>.bad:=rfl
def Wo(a b:Ex):(Ex.or a b).den W Z M=(a.den W Z M).bind λx G=>match x with|.bl true=>.ok (.bl true) G|.bl false=>b.den W Z G|_=>.bad:=rfl
@[simp] def ac4(a:Ex):(Ex.not a).den W Z M=(a.den W Z M).bind λx G=>match x with|.bl b=>.ok (.bl !b) G|_=>.bad:=rfl
@[simp] def am7(Z:De):(Ex.tup Z).den W G M=(Z.den W G M).bind λU M1=>.ok (.tup U) M1:=rfl
@[simp] def am8(Z:De):(Ex.lst Z).den W G M=(Z.den W G M).bind λU M1=>new (.lst U) M1:=rfl
@[simp] def Mv(Z:De):(Ex.Ku Z).den W G M=(Z.den W G M).bind λU M1=>.ok (.vl U) M1:=rfl
@[simp] def ah3:Ex.Yv.den W Z M=new (.dT []) M:=rfl
@[simp] def asz(a b:Ex):(Ex.ix a b).den W Z M=(a.den W Z M).bind λx G=>(b.den W Z G).bind λy M2=>Res.qj (uo x y M2) M2:=rfl
@[simp] def ac5(a:Ex)(G U:OEx):(Ex.cut a G U).den W Z M=(a.den W Z M).bind λx M1=>(G.den W Z M1).bind λl R=>(U.den W Z R).bind λh M3=>Res.qj (Ms x l h M3) M3:=rfl
@[simp] def Yx(f:Nat)(Z:De):(Ex.call f Z).den W G M=(Z.den W G M).bind λU M1=>W.call f U M1:=rfl
@[simp] def ah4(c:Nat):(Ex.make c).den W G M=(match W.cls[c]? with
 |some C=>(W.call C.init [.ref M.length] (M++[.ins c []])).bind λr Z=>match r with|.non=>.ok (.ref M.length) Z|_=>.bad
 | none=>.bad):=rfl
@[simp] def ah5(o:Ex)(m:Nat)(G:De):(Ex.meth o m G).den W Z M=(o.den W Z M).bind λx U=>(G.den W Z U).bind λR M2=>(match x with
 |.ref n=>match U[n]? with
  |some (.ins c _)=>match(W.cls[c]?).bind λC=>C.meths.lookup m with
   |some f=>W.call f (.ref n::R) M2|none=>.bad
  |_=>.bad
 | _=>.bad):=rfl
@[simp] def am9(o:Ex)(f:Nat):(Ex.fld o f).den W Z M=(o.den W Z M).bind λx M1=>Res.qj (Hg x f M1) M1:=rfl
@[simp] def Wq(b:Blt)(Z:De):(Ex.blt b Z).den W G M=(Z.den W G M).bind λU M1=>uq b U M1:=rfl
@[simp] def as3(m:Bm)(o:Ex)(G:De):(Ex.bm m o G).den W Z M=(o.den W Z M).bind λx U=>if Jm m x U then(G.den W Z U).bind λR M2=>Dr m x R M2 else .bad:=rfl
def Yy(v:Bool)(k:Nat)(t:Tg)(it:Mg)(e:Ex):(Ex.comp v k t it e).den W U M=(it.den W U M).bind λs M1 =>
 (zm s (λd M=>match t.put d (U++List.replicate k none) with
  |some Z=>(e.den W Z M).bind λx R=>.ok (some x) R
  | none=>.bad) M1).bind λG M2=>if v then .ok (.vl G) M2 else new (.lst G) M2:=rfl
def Rz(v:Bool)(k:Nat)(t:Tg)(it:Mg)(c e:Ex):(Ex.ym v k t it c e).den W ρ M=(it.den W ρ M).bind λs M1 =>
 (zm s (λd M=>match t.put d (ρ++List.replicate k none) with
  |some Z=>(c.den W Z M).bind λb U=>match b with
   |.bl true=>(e.den W Z U).bind λx G=>.ok (some x) G
   |.bl false=>.ok none U|_=>.bad
  | none=>.bad) M1).bind λR M2=>if v then .ok (.vl R) M2 else new (.lst R) M2:=rfl
@[simp] def Dt:De.nil.den W Z M=.ok [] M:=rfl
@[simp] def Bl(e:Ex)(G:De):(De.cons e G).den W Z M=(e.den W Z M).bind λx R=>(G.den W Z R).bind λU M2=>.ok (x::U) M2:=rfl
@[simp] def Ve:OEx.none.den W Z M=.ok none M:=rfl
@[simp] def Vf(e:Ex):(OEx.some e).den W Z M=(e.den W Z M).bind λx G=>match x with|.int i=>.ok (some i) G|_=>.bad:=rfl
@[simp] def Mw(e:Ex):(Mg.val e).den W Z M=(e.den W Z M).bind λx M1=>Res.qj (srcOf M1 x) M1:=rfl
@[simp] theorem Mx{W:Kv}{Z:Env}{M:dm}(e:Ex):(Mg.Mp e).den W Z M=(e.den W Z M).bind λx G=>match x with
 |.int i=>if i.natAbs<=100000 then .ok (.con ((List.range i.toNat).map λ(k:Nat)=>D.int (k:Int))) G else .bad
 |_=>.bad:=rfl
@[simp] def Wr(e:Ex):(Mg.enm e).den W Z M=(e.den W Z M).bind am4:=rfl
@[simp] def Yz(e:Ex):(Mg.vals e).den W Z M=(e.den W Z M).bind ac2:=rfl
@[simp] def ac6(Z:De):(Mg.zip Z).den W G M=(Z.den W G M).bind asx:=rfl
@[simp] def Ws(e:Ex):(Ex.ntr e).den W Z M=(e.den W Z M).bind λx M1=>Res.qj ((j9 M1 x).map λG=>D.bl G.isEmpty) M1:=rfl
@[simp] def ac7(e:Ex):(Ex.tru e).den W Z M=(e.den W Z M).bind λx M1=>Res.qj ((j9 M1 x).map λG=>D.bl !G.isEmpty) M1:=rfl
@[simp] def O1(l:Lv)(e:Ex):(zx.asg l e).den W G M=(e.den W G M).bind λx U=>(l.put W x G U).bind λZ M2=>.ok (.next,Z) M2:=rfl
@[simp] def ac8(e:Ex):(zx.expr e).den W Z M=(e.den W Z M).bind λ_ M1=>.ok (.next,Z) M1:=rfl
def as4(c:Ex)(a b:j8):(zx.iff c a b).den W Z M=(c.den W Z M).bind λx G=>match x with|.bl true=>a.den W Z G|.bl false=>b.den W Z G|_=>.bad:=rfl
@[simp] def as5(e:Ex):(zx.ret e).den W Z M=(e.den W Z M).bind λx M1=>.ok (.ret x,Z) M1:=rfl
@[simp] def ah6:zx.raise.den W Z M=.bad:=rfl
def O2(c:Ex)(b:j8):(zx.whl c b).den W Z M=Br (c.den W) (b.den W) Wn Z M:=rfl
def ah7(t:Tg)(it:Mg)(b:j8):(zx.for_ t it b).den W Z M=(it.den W Z M).bind λs M1=>Bk s.fin s.item (λd Z M=>match t.put d Z with
 | some G=>b.den W G M|none=>.bad) s.len 0 Z M1:=rfl
@[simp] def ana:j8.nil.den W Z M=.ok (.next,Z) M:=rfl
theorem Y0{W:Kv}{Z:Env}{M:dm}(s:zx)(r:j8):(j8.cons s r).den W Z M=(s.den W Z M).bind λp M1=>match p.1 with
 |.next=>r.den W p.2 M1|.brk=>.ok (.brk,p.2) M1|.cont=>.ok (.cont,p.2) M1|.ret d=>.ok (.ret d,p.2) M1:=rfl
def ah8(W:Kv)(r:j8)(x:Res (Flow×Env)):Res (Flow×Env):=x.bind λp Z=>match p.1 with
 |.next=>r.den W p.2 Z|.brk=>.ok (.brk,p.2) Z|.cont=>.ok (.cont,p.2) Z|.ret d=>.ok (.ret d,p.2) Z
@[simp] def Dk(s:zx)(r:j8):(j8.cons s r).den W Z M=ah8 W r (s.den W Z M):=rfl
@[simp] def Du(r:j8):ah8 W r (.ok (.next,Z) M)=r.den W Z M:=rfl
@[simp] def a3f(r:j8):ah8 W r (.ok (.brk,Z) M)=.ok (.brk,Z) M:=rfl
@[simp] def ax8(r:j8):ah8 W r (.ok (.cont,Z) M)=.ok (.cont,Z) M:=rfl
@[simp] def a3g(r:j8)(d:D):ah8 W r (.ok (.ret d,Z) M)=.ok (.ret d,Z) M:=rfl
def ifK{α:Type}(a b:dm->Res α)(x:Res D):Res α:=x.bind λx Z=>match x with|.bl true=>a Z|.bl false=>b Z|_=>.bad
@[simp] def Y4(c:Ex)(a b:j8):(zx.iff c a b).den W Z M=ifK (a.den W Z) (b.den W Z) (c.den W Z M):=rfl
@[simp] def a5s(a b:Ex):(Ex.and a b).den W Z M=ifK (b.den W Z) (.ok (.bl false)) (a.den W Z M):=rfl
@[simp] def ara(a b:Ex):(Ex.or a b).den W Z M=ifK (.ok (.bl true)) (b.den W Z) (a.den W Z M):=rfl
@[simp] def ax9(a b:dm->Res α):ifK a b (.ok (.bl true) M)=a M:=rfl
@[simp] def arb(a b:dm->Res α):ifK a b (.ok (.bl false) M)=b M:=rfl
@[simp] def R8(t:Tg)(d:D):(Lv.tg t).put W d Z M=Res.qj (t.put d Z) M:=rfl
@[simp] def anb(o i:Ex)(d:D):(Lv.sub o i).put W d Z M=(o.den W Z M).bind λx U=>(i.den W Z U).bind λy G=>(Res.qj (setOp x y d G) G).bind λM3 _=>.ok Z M3:=rfl
@[simp] def anc(o:Ex)(f:Nat)(d:D):(Lv.fld o f).put W d Z M=(o.den W Z M).bind λx G=>(Res.qj (Ry x f d G) G).bind λM2 _=>.ok Z M2:=rfl
@[simp] def Ln(i:Nat)(d:D):(Tg.name i).put d Z=some (Z.set i (some d)):=rfl
@[simp] def arc(is:Y3)(Z:List D)(h:Z.length=is.length):(Tg.names is).put (.tup Z) G=some (Gy is Z G):=by simp[Tg.put,h]
@[simp] def Y5(i:Nat)(is:Y3)(d:D)(Z:List D):Gy (i::is) (d::Z) G=Gy is Z (G.set i (some d)):=rfl
@[simp] def abh(Z:List D):Gy [] Z ρ=ρ:=by cases Z<;>rfl
@[simp] def aya(i j:Int):Ba .add (.int i) (.int j) M=.ok (.int (i+j)) M:=rfl
@[simp] def ayb(i j:Int):Ba .sub (.int i) (.int j) M=.ok (.int (i-j)) M:=rfl
def Jo(i j:Int)(h:(-(2 ^ 64)<i/\i<2 ^ 64)\/(-(2 ^ 64)<j/\j<2 ^ 64)):Ba .mul (.int i) (.int j) M=.ok (.int (i*j)) M:=bx h
def Vg(i j:Int)(h:0<j)(Z:j<1073741824):Ba .fdiv (.int i) (.int j) M=.ok (.int (i / j)) M:=bx ⟨h,Z⟩
@[simp] def ayc(i j:Int)(h:0<j):Ba .mod (.int i) (.int j) M=.ok (.int (i%j)) M:=bx h
@[simp] def as6:Ba .pow (.int 10) (.int 18) M=.ok (.int (10 ^ 18)) M:=by simp[Ba,aq9]
@[simp] def ane(ds:List D):am4 (.tup ds) M=.ok (.con (zy ds 0)) M:=rfl
@[simp] def a5t(Z:List D):am4 (.vl Z) M=.ok (.con (zy Z 0)) M:=rfl
@[simp] def eq_str(i j:PySem.Str):um M (.str i) (.str j)=some (decide (i=j)):=rfl
def O3(Z G:List D)(h:Z.length+G.length<=100000):Ba .add (.tup Z) (.tup G) M=.ok (.tup (Z++G)) M:=bx h
def Kq(Z G:List D)(h:Z.length+G.length<=100000):Ba .add (.vl Z) (.vl G) M=.ok (.vl (Z++G)) M:=bx h
@[simp] def a5u(i j:Int):Jk .lt (.int i) (.int j) M=some (decide (i<j)):=rfl
@[simp] def a5v(i j:Int):Jk .le (.int i) (.int j) M=some (decide (i<=j)):=rfl
@[simp] def cmp_gt(i j:Int):Jk .gt (.int i) (.int j) M=some (decide (j<i)):=rfl
@[simp] def a5w(i j:Int):Jk .ge (.int i) (.int j) M=some (decide (j<=i)):=rfl
@[simp] def ah9(a b:D):Jk .eq a b M=um M a b:=rfl
@[simp] def a5x(a b:D):Jk .ne a b M=(um M a b).map not:=rfl
@[simp] def a5y(a b:D):Jk .inn a b M=Ux M a b:=rfl
@[simp] def aw6(a b:D):Jk .Rt a b M=(Ux M a b).map not:=rfl
def Wt(n:Nat)(i j:Int):Mh M (n+1) (.int i) (.int j)=some (decide (i=j)):=rfl
def aia(G:f a b=some x)(Z:Vc f U bs=some y):Vc f (a::U) (b::bs)=some (x&&y):=by simp[Vc,G,Z]
@[simp] def eq_int(i j:Int):um M (.int i) (.int j)=some (decide (i=j)):=rfl
@[simp] def ayd(i j:Bool):um M (.bl i) (.bl j)=some (i==j):=rfl
@[simp] def aw7(ds:List D):gj M (.vl ds)=some ds:=rfl
@[simp] def aye(ds:List D):j9 M (.vl ds)=some ds:=rfl
@[simp] def aw8(ds:List D):j9 M (.tup ds)=some ds:=rfl
def jg(h:M[n]?=some (.lst ds)):gj M (.ref n)=some ds:=by simp[gj,h]
def Dw(h:gj M d=some ds):j9 M d=some ds:=by cases d<;>first|exact h|(simp[gj] at h)
set_option tactic.hygienic true in
def len_list(h:gj M d=some ds):uq .len [d] M=.ok (.int ds.length) M:=by
 show Wm M d=_;cases d with
 |vl Z=>simp[gj] at h;subst h;rfl
 |ref n =>
  simp only[gj] at h;split at h<;>simp at h;rename_i Z Y;subst h;simp[Wm,Y]
 |_=>simp[gj] at h
@[simp] def ayf(d:D)(g:D->Res D):Jl [d] g=g d:=rfl
@[simp] def ayg(g:D->Res D):Jl [] g=.bad:=rfl
@[simp] def aw9(a b:D)(l:List D)(g:D->Res D):Jl (a::b::l) g=.bad:=rfl
@[simp] def a5z(i j:Int)(f:Int->Int->Int)(g:D->Option Int):two [.int i,.int j] f g M=.ok (.int (f i j)) M:=rfl
@[simp] def a3h(d:D)(f:Int->Int->Int)(g:D->Option Int):two [d] f g M=Res.qj ((g d).map D.int) M:=rfl
@[simp] def as7(Z:List D):Wm M (.tup Z)=.ok (.int Z.length) M:=rfl
def yx:uq .len [.tup ds] M=.ok (.int ds.length) M:=rfl
def Bc(h:gj M d=some ds)(R:0<=i)(hx:ds[i.toNat]?=some x):uo d (.int i) M=some x:=by
 obtain⟨U,Z⟩:=ak.mp hx;have G:i<ds.length:=by lia
 cases d with
 |vl xs=>simp[gj] at h;subst h;simp[uo,ixL,j9,Oz,R,G,U,Z]
 |ref n =>
  simp only[gj] at h;cases e:M[n]? with
  |none=>rw[e] at h;simp at h|some o=>rw[e] at h;cases o<;>simp at h<;>subst h<;>simp[uo,ixL,j9,gj,e,Oz,R,G,U,Z]
 |_=>simp[gj] at h
def Jp(R:0<=i)(hx:ds[i.toNat]?=some x):uo (.tup ds) (.int i) M=some x:=by
 obtain⟨U,Z⟩:=ak.mp hx;have G:i<ds.length:=by lia
 simp[uo,ixL,j9,Oz,R,G,U,Z]
def ayh(R:0<=i)(hx:ds[i.toNat]?=some x):uo (.fz ds) (.int i) M=some x:=by
 obtain⟨U,Z⟩:=ak.mp hx;have G:i<ds.length:=by lia
 simp[uo,ixL,Oz,R,G,U,Z]
def aib:uq .len [.fz ds] M=.ok (.int ds.length) M:=rfl
@[simp] def Bd(x:D)(r:List D):uo (.tup (x::r)) (.int 0) M=some x:=Jp (by decide) rfl
@[simp] def Hm(x y:D)(r:List D):uo (.tup (x::y::r)) (.int 1) M=some y:=Jp (by decide) rfl
@[simp] def Q6(x y z:D)(r:List D):uo (.tup (x::y::z::r)) (.int 2) M=some z:=Jp (by decide) rfl
@[simp] def a9p(i j:Int):Mq (.tup [.int i,.int j])=some [.inl i,.inl j]:=rfl
def ayi(h:M[n]?=some (.dT Z))(G:Mq b=some k):uo (.ref n) b M=Bq Z k:=by simp[uo,h,G]
def abi(h:M[n]?=some (.dT Z))(G:Mq b=some k)(U:Z.length<100000):setOp (.ref n) b d M=some (M.set n (.dT (Ru Z k d))):=by simp[setOp,h,G,U]
def Gz(h:M[n]?=some (.lst Z)):Jm .append (.ref n) M=true:=by simp[Jm,gj,h]
def Dl(h:M[n]?=some (.lst Z))(G:Z.length<100000):Dr .append (.ref n) [d] M=.ok .non (M.set n (.lst (Z++[d]))):=by simp[Dr,onL,h,G]
def Wv(h:M[n]?=some (.lst Z))(U:0<=i)(G:i<Z.length):setOp (.ref n) (.int i) d M=some (M.set n (.lst (Z.set i.toNat d))):=by simp[setOp,h,Oz,U,G]
def t8{M:dm}(h:M[a]?=some o):a<M.length:=(ak.mp h).1
def oh{M:dm}(h:M[a]?=some p):(M.set a o)[a]?=some o:=by rw[uc (t8 h)]
def jh{M:dm}(h:b≠a):(M.set b o)[a]?=M[a]?:=q8 h
def yz{M:dm}{a:Nat}(h:M[a]?=some o):(M++X)[a]?=some o:=by rw[gr (t8 h)];exact h
@[simp] def yl{M:dm}:(M++[o])[M.length]?=some o:=by simp
theorem Wx{fin:dm->Bool}{item:Nat->dm->Option D}{U:D->Env->dm->Res (Flow×Env)}(I:Nat->Env->dm->Prop){n:Nat}
 (step:∀i Z M,i<n->I i Z M->∃d fl G R,item i M=some d/\U d Z M=.ok (fl,G) R/\(fl=.next\/fl=.cont)/\I (i+1) G R) (R9:∀Z M,I n Z M->fin M=true) :
 ∀(k i:Nat)(Z:Env)(M:dm),i+k=n->I i Z M->∃G R,Bk fin item U k i Z M=.ok (.next,G) R/\I n G R
 |0,i,Z,M,e,h=>by
  have q:i=n:=by lia
  rw[q] at h;exact⟨Z,M,by simp[Bk,R9 Z M h],h⟩
 |k+1,i,Z,M,e,h=>by
  obtain⟨d,fl,qq,M1,h1,h2,h3,h4⟩:=step i Z M (by lia) h;obtain⟨qk,M2,g1,g2⟩:=Wx I step R9 k (i+1) qq M1 (by lia) h4;refine⟨qk,M2,?_,g2⟩;rcases h3 with rfl|rfl<;>simp[Bk,h1,h2,g1]
def Q7(I:Nat->Env->dm->Prop)(h0:I 0 G M)(step:∀i d G M,ds[i]?=some d->I i G M->∃U Z M',body d G M=.ok (U,Z) M'/\(U=.next\/U=.cont)/\I (i+1) Z M') :
 ∃Z M',Bk (Src.con ds).fin (Src.con ds).item body (Src.con ds).len 0 G M=.ok (.next,Z) M'/\I ds.length Z M':=by
 refine Wx I (λi G M R h=>?_) (λ_ _ _=>rfl) ds.length 0 G M (vm _) h0;obtain⟨U,Z,M',a,b,c⟩:=step i ds[i] G M (by simp[R]) h;exact⟨ds[i],U,Z,M',by simp[Src.item,R],a,b,c⟩
def anf(I:Nat->Env->dm->Prop)(h0:I 0 G M)(step:∀i G M,i<n->I i G M->∃R Z M',body (.int i) G M=.ok (R,Z) M'/\(R=.next\/R=.cont)/\I (i+1) Z M') :
 ∃Z M',Bk (Src.con ((List.range n).map λ(k:Nat)=>D.int (k:Int))).fin (Src.con ((List.range n).map λ(k:Nat)=>D.int (k:Int))).item body (Src.con ((List.range n).map λ(k:Nat)=>D.int (k:Int))).len 0 G M=.ok (.next,Z) M'/\I n Z M':=by
 have:=Q7 (ds:=(List.range n).map λ(k:Nat)=>D.int (k:Int)) (body:=body) I h0 (λi d G M U h=>by
  have hi:i<n:=by have:=(ak.mp U).1;simpa using this
  rw[gf,List.getElem?_range hi] at U;have U:D.int (i:Int)=d:=by simpa using U
  subst U;exact step i G M hi h)
 simpa using this
def aic(I:Nat->Env->dm->Prop)(h0:I 0 G M)(stay:∀i G M,I i G M->M[p]?=some (.lst ds))(step:∀i d G M,ds[i]?=some d->I i G M->∃U Z M',body d G M=.ok (U,Z) M'/\(U=.next\/U=.cont)/\I (i+1) Z M') :
 ∃Z M',Bk (Src.live p ds.length).fin (Src.live p ds.length).item body (Src.live p ds.length).len 0 G M=.ok (.next,Z) M'/\I ds.length Z M':=by
 refine Wx I (λi G M R h=>?_) (λG M h=>by simp[Src.fin,stay _ G M h]) ds.length 0 G M (vm _) h0;obtain⟨U,Z,M',a,b,c⟩:=step i ds[i] G M (by simp[R]) h;exact⟨ds[i],U,Z,M',by simp[Src.item,stay i G M h,R],a,b,c⟩
theorem Jq{fin:dm->Bool}{item:Nat->dm->Option D}{body:D->dm->Res (Option D)}(I:Nat->List D->dm->Prop){n:Nat}
 (step:∀i Z M,i<n->I i Z M->∃d o G,item i M=some d/\body d M=.ok o G/\I (i+1) (Z++o.toList) G) (R:∀Z M,I n Z M->fin M=true) :
 ∀(k i:Nat)(Z:List D)(M:dm),i+k=n->I i Z M->∃U G,Ah fin item body k i M=.ok U G/\I n (Z++U) G
 |0,i,Z,M,e,h=>by
  have q:i=n:=by lia
  rw[q] at h;exact⟨[],M,by simp[Ah,R Z M h],by simpa using h⟩
 |k+1,i,Z,M,e,h=>by
  obtain⟨d,o,M1,h1,h2,h3⟩:=step i Z M (by lia) h;obtain⟨U,M2,g1,g2⟩:=Jq I step R k (i+1) (Z++o.toList) M1 (by lia) h3;refine⟨o.toList++U,M2,?_,by rw[<- v9];exact g2⟩;cases o<;>simp[Ah,h1,h2,g1]
def Vh{s:Src}{ds:List D}(R9:s.fin M=true)(hl:s.len=ds.length)(hi:∀i,i<ds.length->s.item i M=ds[i]?)(h:∀d∈ds,body d M=.ok (g d) M) :
 Ah s.fin s.item body s.len 0 M=.ok (ds.filterMap g) M:=by
 obtain⟨ys,Z,e,h1,R⟩:=Jq (fin:=s.fin) (item:=s.item) (body:=body) (λi U Z=>Z=M/\U=(ds.take i).filterMap g) (n:=ds.length) (λi U Z G hI=>by
  obtain⟨rfl,rfl⟩:=hI;refine⟨ds[i],g ds[i],Z,by rw[hi i G];simp[G],h _ (List.getElem_mem G),rfl,?_⟩;rw[kh,List.filterMap_append];simp[G];cases e:g ds[i]<;>simp[e]) (λU Z h=>by rw[h.1];exact R9) ds.length 0 [] M (vm _) ⟨rfl,rfl⟩
 rw[hl,e,h1];simp at R;rw[R]
def aid(h:∀d∈ds,body d M=.ok (some (g d)) M) :
 Ah (Src.con ds).fin (Src.con ds).item body (Src.con ds).len 0 M=.ok (ds.map g) M:=by
 rw[Vh (s:=.con ds) (ds:=ds) (g:=λd=>some (g d)) rfl rfl (λi _=>rfl) h,List.filterMap_eq_map']
end MW
namespace MW
theorem Ez{c:Env->dm->Res D}{body:Env->dm->Res (Flow×Env)}(I:Nat->Env->dm->Prop)(R:Env->dm->Prop)
 (step:∀m Z M,I m Z M->(∃U,c Z M=.ok (.bl false) U/\R Z U) \/
  ∃U fl G M2 m',c Z M=.ok (.bl true) U/\body Z U=.ok (fl,G) M2/\(fl=.next\/fl=.cont)/\m'<m/\I m' G M2) :
 ∀(k m:Nat)(Z:Env)(M:dm),m<k->I m Z M->∃G M',Br c body k Z M=.ok (.next,G) M'/\R G M'
 |0,m,_,_,h,_=>absurd h (n6 _)
 |k+1,m,Z,M,h,hI=>by
  rcases step m Z M hI with⟨U,h1,h2⟩|⟨U,fl,qk,M2,m',h1,h2,h3,h4,h5⟩
  .exact⟨Z,U,by simp[Br,h1],h2⟩
  .obtain⟨qq,M3,g1,g2⟩:=Ez I R step k m' qk M2 (b_ h4 (z_ h)) h5
   refine⟨qq,M3,?_,g2⟩;rcases h3 with rfl|rfl<;>simp[Br,h1,h2,g1]
end MW
namespace MW
def m6(M Z:dm):Prop:=∀(a:Nat)(o:MO),M[a]?=some o->Z[a]?=some o
def m6.refl(M:dm):m6 M M:=λ_ _ h=>h
def m6.trans(a:m6 M Z)(b:m6 Z M2):m6 M M2:=λx o h=>b x o (a x o h)
def m6.app(M X:dm):m6 M (M++X):=λ_ _ h=>yz h
def m6.len(k:m6 M Z):M.length<=Z.length:=by
 rcases Nat.eq_zero_or_pos M.length with h|h
 .exact a_ (f_ h) (ig _)
 .have:=t8 (k (M.length-1) M[M.length-1] (by simp))
  lia
theorem m6.gj(k:m6 M Z)(h:gj M d=some ds):MW.gj Z d=some ds:=by
 cases d with
 |vl G=>exact h
 |ref n =>
  simp only[MW.gj] at h ⊢;cases e:M[n]? with
  |none=>rw[e] at h;simp at h|some o=>rw[e] at h;rw[k n o e];exact h
 |_=>simp[MW.gj] at h
def abj(I:Nat->Env->dm->Prop)(U:gj M d=some ds)(h0:I 0 G M)(stay:∀i G M,I i G M->gj M d=some ds)(step:∀i x G M,ds[i]?=some x->I i G M->∃R Z M',body x G M=.ok (R,Z) M'/\(R=.next\/R=.cont)/\I (i+1) Z M') :
 ∃s,srcOf M d=some s/\∃Z M',Bk s.fin s.item body s.len 0 G M=.ok (.next,Z) M'/\I ds.length Z M':=by
 cases d with
 |vl xs=>simp[gj] at U;subst U;exact⟨_,rfl,Q7 I h0 step⟩
 |ref n =>
  cases e:M[n]? with
  |none=>simp[gj,e] at U
  |some o =>
   cases o with
   |lst xs =>
    simp[gj,e] at U;subst U;refine⟨.live n xs.length,by simp[srcOf,e],aic I h0 (λi G M h=>?_) step⟩;have:=stay i G M h;simp only[gj] at this;split at this<;>simp_all
   |_=>simp[gj,e] at U
 |_=>simp[gj] at U
def ang(Z:ds.length<=100000)(h:∀d∈ds,body d M=.ok (some (g d)) M):zm (.con ds) body M=.ok (ds.map g) M:=by rw[zm,bx (show(Src.con ds).len<=100000 from Z)];exact aid h
def Y6(Z:ds.length<=100000)(h:∀d∈ds,body d M=.ok (g d) M):zm (.con ds) body M=.ok (ds.filterMap g) M:=by rw[zm,bx (show(Src.con ds).len<=100000 from Z)];exact Vh (s:=.con ds) rfl rfl (λ_ _=>rfl) h
def O4(v:Bool)(k:Nat)(t:Tg)(it:Mg)(e:Ex):(Ex.comp v k t it e).den W G M=(it.den W G M).bind λs R =>
 (zm s (λd M=>(Res.qj (t.put d (G++List.replicate k none)) M).bind λZ M=>(e.den W Z M).bind λx M'=>.ok (some x) M') R).bind λU M2=>if v then .ok (.vl U) M2 else new (.lst U) M2:=by
 rw[Yy]
 congr 1;funext s R;congr 2;funext d M
 cases t.put d (G++List.replicate k none)<;>rfl
def Jr(v:Bool)(k:Nat)(t:Tg)(it:Mg)(c e:Ex):(Ex.ym v k t it c e).den W U M=(it.den W U M).bind λs M1 =>
 (zm s (λd M=>(Res.qj (t.put d (U++List.replicate k none)) M).bind λZ M=>(c.den W Z M).bind λb R =>
  match b with
   |.bl true=>(e.den W Z R).bind λx G=>.ok (some x) G
   | .bl false=>.ok none R|_=>.bad) M1).bind λds M2=>if v then .ok (.vl ds) M2 else new (.lst ds) M2:=by
 rw[Rz]
 congr 1;funext s M1;congr 2;funext d M
 cases t.put d (U++List.replicate k none)<;>rfl
def My(t:Tg)(it:Mg)(b:j8):(zx.for_ t it b).den W Z M=(it.den W Z M).bind λs M1=>Bk s.fin s.item (λd Z M=>(Res.qj (t.put d Z) M).bind λG M=>b.den W G M) s.len 0 Z M1:=by
 rw[ah7]
 congr 1;funext s M1;congr 1;funext d Z M
 cases t.put d Z<;>rfl
def Bo(R:it.den W ρ M=.ok (.int (n:Int)) M1)(hn:n<=100000)(I:Nat->Env->dm->Prop)(h0:I 0 ρ M1)(step:∀i ρ M,i<n->I i ρ M->∃G U Z M',t.put (.int i) ρ=some G/\b.den W G M=.ok (U,Z) M'/\(U=.next\/U=.cont)/\I (i+1) Z M') :
 ∃Z M',(zx.for_ t (.Mp it) b).den W ρ M=.ok (.next,Z) M'/\I n Z M':=by
 rw[My,Mx,R];have Wl:((n:Int)).natAbs<=100000:=by lia
 simp only[Res.uv,Wl,jz,jt];exact anf I h0 (λi ρ M hi h=>by
  obtain⟨G,U,Z,M',a,b,c,d⟩:=step i ρ M hi h;exact⟨U,Z,M',by rw[a];exact b,c,d⟩)
def xg(R:it.den W ρ M=.ok d M1)(hd:gj M1 d=some ds)(I:Nat->Env->dm->Prop)(h0:I 0 ρ M1)(stay:∀i ρ M,I i ρ M->gj M d=some ds)(step:∀i x ρ M,ds[i]?=some x->I i ρ M->∃G U Z M',t.put x ρ=some G/\b.den W G M=.ok (U,Z) M'/\(U=.next\/U=.cont)/\I (i+1) Z M') :
 ∃Z M',(zx.for_ t (.val it) b).den W ρ M=.ok (.next,Z) M'/\I ds.length Z M':=by
 rw[My,Mw,R];obtain⟨s,h1,h2⟩:=abj (body:=λd ρ M=>(Res.qj (t.put d ρ) M).bind λZ M=>b.den W Z M) I hd h0 stay (λi x ρ M hx h=>by
  obtain⟨G,U,Z,M',a,b,c,d⟩:=step i x ρ M hx h;exact⟨U,Z,M',by rw[a];exact b,c,d⟩)
 simp only[Res.uv,h1,Res.ue];exact h2
def Dy(R:it.den W ρ M=.ok (.tup ds) M1)(I:Nat->Env->dm->Prop)(h0:I 0 ρ M1)(step:∀i x ρ M,ds[i]?=some x->I i ρ M->∃G U Z M',t.put x ρ=some G/\b.den W G M=.ok (U,Z) M'/\(U=.next\/U=.cont)/\I (i+1) Z M') :
 ∃Z M',(zx.for_ t (.val it) b).den W ρ M=.ok (.next,Z) M'/\I ds.length Z M':=by
 rw[My,Mw,R];exact Q7 I h0 (λi x ρ M hx h=>by
  obtain⟨G,U,Z,M',a,b,c,d⟩:=step i x ρ M hx h;exact⟨U,Z,M',by rw[a];exact b,c,d⟩)
def Js(qk:it.den W ρ M=.ok (.tup ds) M1)(I:Nat->Env->dm->Prop)(h0:I 0 ρ M1)(step:∀i x ρ M,ds[i]?=some x->I i ρ M->∃G R Z M',t.put (.tup [.int i,x]) ρ=some G/\b.den W G M=.ok (R,Z) M'/\(R=.next\/R=.cont)/\I (i+1) Z M') :
 ∃Z M',(zx.for_ t (.enm it) b).den W ρ M=.ok (.next,Z) M'/\I ds.length Z M':=by
 rw[My,Wr,qk];have:=Q7 (ds:=zy ds 0) (body:=λd ρ M=>(Res.qj (t.put d ρ) M).bind λZ M=>b.den W Z M) I h0 (λi x ρ M hx h=>by
  have U:i<ds.length:=by have:=(ak.mp hx).1;simpa[zy] using this
  have qq:x=.tup [.int i,ds[i]]:=by simp[zy,U] at hx;exact hx.symm
  subst qq;obtain⟨G,R,Z,M',a,b,c,d⟩:=step i ds[i] ρ M (by simp[U]) h;exact⟨R,Z,M',by rw[a];exact b,c,d⟩)
 have e:(zy ds 0).length=ds.length:=by simp[zy]
 rw[e] at this;exact this
def Sd(G:it.den W U M=.ok (.int (n:Int)) M1)(hl:n<=100000)(h:∀i,i<n->∃Z,t.put (.int i) (U++List.replicate k none)=some Z/\c.den W Z M1=.ok (.bl (q i)) M1/\(q i=true->e.den W Z M1=.ok (g i) M1)) :
 (Ex.ym v k t (.Mp it) c e).den W U M=if v then .ok (.vl (((List.range n).filter q).map g)) M1 else new (.lst (((List.range n).filter q).map g)) M1:=by
 rw[Jr,Mx,G];have Wl:((n:Int)).natAbs<=100000:=by lia
 simp only[Res.uv,Wl,jz,jt];rw[Y6 (ds:=(List.range n).map λ(k:Nat)=>D.int (k:Int)) (g:=λd=>match d with|.int i=>if q i.toNat then some (g i.toNat) else none|_=>none) (by simpa using hl) (λx hx=>by
  obtain⟨i,R,rfl⟩:=di.mp hx;obtain⟨Z,a,b,c⟩:=h i (jc.mp R);rw[a,Res.ue,Res.uv,b,Res.uv];cases e:q i with
  | true=>simp[e,c e]|false=>simp[e])]
 have:(((List.range n).map λ(k:Nat)=>D.int (k:Int)).filterMap λd=>match d with|.int i=>if q i.toNat then some (g i.toNat) else none|_=>none)=((List.range n).filter q).map g:=by
  rw[List.filterMap_map]
  induction List.range n with
  |nil=>rfl|cons a l ih=>by_cases e:q a=true<;>simp[e,ih]
 rw[this];rfl
def Sg(qq:it.den W ρ M=.ok (.tup ds) M1)(hl:ds.length<=100000)(h:∀(i:Nat) (x:D),ds[i]?=some x->∃Z,t.put (.tup [.int i,x]) (ρ++List.replicate k none)=some Z/\c.den W Z M1=.ok (.bl (q i)) M1/\(q i=true->e.den W Z M1=.ok (g i) M1)) :
 (Ex.ym v k t (.enm it) c e).den W ρ M=if v then .ok (.vl (((List.range ds.length).filter q).map g)) M1 else new (.lst (((List.range ds.length).filter q).map g)) M1:=by
 rw[Jr,Wr,qq];simp only[Res.uv,ane];rw[Y6 (ds:=zy ds 0) (g:=λd=>match d with|.tup [.int i,_]=>if q i.toNat then some (g i.toNat) else none|_=>none) (by simpa[zy] using hl) (λx hx=>by
  obtain⟨i,hi,ei⟩:=vd hx;have G:i<ds.length:=by simpa[zy] using hi
  have R:x=.tup [.int i,ds[i]]:=by rw[<- ei];simp[zy]
  subst R;obtain⟨Z,a,b,c⟩:=h i ds[i] (by simp[G]);rw[a,Res.ue,Res.uv,b,Res.uv];cases e:q i with
  | true=>simp[e,c e]|false=>simp[e])]
 have:((zy ds 0).filterMap λd=>match d with|.tup [.int i,_]=>if q i.toNat then some (g i.toNat) else none|_=>none)=((List.range ds.length).filter q).map g:=by
  have U:∀(l:List D)(s:Nat),((zy l s).filterMap λd=>match d with|.tup [.int i,_]=>if q i.toNat then some (g i.toNat) else none|_=>none)=((List.range' s l.length).filter q).map g:=by
   intro l
   induction l with
   |nil=>intro s;rfl
   |cons a l ih =>
    intro s;have e1:zy (a::l) s=.tup [.int s,a]::zy l (s+1):=by simp[zy]
    rw[e1,d9,w5]
    by_cases e:q s=true<;>simp[e,ih]
  rw[U,List.range_eq_range']
 rw[this];rfl
def Bt(qq:it.den W ρ M=.ok (.int (n:Int)) M1)(hn:n<=100000)(I:Nat->List D->dm->Prop)(h0:I 0 [] M1)(step:∀i U M,i<n->I i U M->∃Z x M',t.put (.int i) (ρ++List.replicate k none)=some Z/\e.den W Z M=.ok x M'/\I (i+1) (U++[x]) M') :
 ∃G M',(Ex.comp v k t (.Mp it) e).den W ρ M=(if v then .ok (.vl G) M' else new (.lst G) M')/\I n G M':=by
 rw[O4,Mx,qq];have Wl:((n:Int)).natAbs<=100000:=by lia
 simp only[Res.uv,Wl,jz,jt];obtain⟨G,M',g,h⟩:=Jq (fin:=(Src.con ((List.range n).map λ(k:Nat)=>D.int (k:Int))).fin) (item:=(Src.con ((List.range n).map λ(k:Nat)=>D.int (k:Int))).item) (body:=λd M=>(Res.qj (t.put d (ρ++List.replicate k none)) M).bind λR M=>(e.den W R M).bind λx M'=>.ok (some x) M') I (n:=n) (λi U M hi h=>by
  obtain⟨Z,x,M',a,b,c⟩:=step i U M hi h;exact⟨.int i,some x,M',by simp[Src.item,hi],by rw[a];simp[b],by simpa using c⟩) (λ_ _ _=>rfl) n 0 [] M1 (vm _) h0
 have hl:(Src.con ((List.range n).map λ(k:Nat)=>D.int (k:Int))).len=n:=by simp[Src.len]
 refine⟨G,M',?_,by simpa using h⟩;rw[zm,hl,bx hn,g];rfl
abbrev Goes(I:Nat->Env->dm->Prop)(R:D->dm->Prop)(i:Nat)(r:Res (Flow×Env)):Prop:=∃fl ρ' M',r=.ok (fl,ρ') M'/\((fl=.next/\I i ρ' M')\/∃v,fl=.ret v/\R v M')
theorem ac9{fin:dm->Bool}{item:Nat->dm->Option D}{G:D->Env->dm->Res (Flow×Env)}(I:Nat->Env->dm->Prop)(R:D->dm->Prop){n:Nat}
 (step:∀i Z M,i<n->I i Z M->∃d,item i M=some d/\Goes I R (i+1) (G d Z M)) (hf:∀Z M,I n Z M->fin M=true) :
 ∀k i Z M,i+k=n->I i Z M->Goes I R n (Bk fin item G k i Z M)
 |0,i,Z,M,e,h=>by
  obtain rfl:i=n:=by lia
  exact⟨_,Z,M,by simp[Bk,hf Z M h],.inl ⟨rfl,h⟩⟩
 |k+1,i,Z,M,e,h=>by
  obtain⟨d,h1,fl,U,M',h2,⟨rfl,h4⟩|⟨v,rfl,h4⟩⟩:=step i Z M (by lia) h
  .have:=ac9 I R step hf k (i+1) U M' (by lia) h4
   simpa[Bk,h1,h2] using this
  .exact⟨.ret v,U,M',by simp[Bk,h1,h2],.inr ⟨v,rfl,h4⟩⟩
section
variable{W:Kv}{ρ:Env}{M M1:dm}{t:Tg}{b:j8}
def Wy{it:Mg}{s:Src}{n:Nat}(G:it.den W ρ M=.ok s M1)(hn:s.len=n)(I:Nat->Env->dm->Prop)(R:D->dm->Prop)(h0:I 0 ρ M1)(hf:∀ρ M,I n ρ M->s.fin M=true)
 (step:∀i ρ M,i<n->I i ρ M->∃d Z,s.item i M=some d/\t.put d ρ=some Z/\Goes I R (i+1) (b.den W Z M)):Goes I R n ((zx.for_ t it b).den W ρ M):=by
 rw[My,G,Res.uv,hn];exact ac9 I R (λi ρ M U h=>by
  obtain⟨d,Z,a,b,c⟩:=step i ρ M U h;exact⟨d,a,by rw[b];exact c⟩) hf n 0 ρ M1 (vm n) h0
def as9{it:Mg}{s:Src}{n:Nat}(U:it.den W ρ M=.ok s M1)(hn:s.len=n)(I:Nat->Env->dm->Prop)(h0:I 0 ρ M1)(hf:∀ρ M,I n ρ M->s.fin M=true)
 (step:∀i ρ M,i<n->I i ρ M->∃d G,s.item i M=some d/\t.put d ρ=some G/\∃Z M',b.den W G M=.ok (.next,Z) M'/\I (i+1) Z M'):∃Z M',(zx.for_ t it b).den W ρ M=.ok (.next,Z) M'/\I n Z M':=by
 obtain⟨fl,Z,M',e,⟨rfl,h⟩|⟨v,rfl,h⟩⟩:=Wy U hn I (λ_ _=>False) h0 hf λi ρ M R h=>by obtain⟨d,G,a,b,Z,M',c,e⟩:=step i ρ M R h;exact⟨d,G,a,b,.next,Z,M',c,.inl ⟨rfl,e⟩⟩
 .exact⟨Z,M',e,h⟩
 .exact h.elim
def Y7{it:Ex}{n:Nat}(G:it.den W ρ M=.ok (.int (n:Int)) M1)(hn:n<=100000)(I:Nat->Env->dm->Prop)(R:D->dm->Prop)(h0:I 0 ρ M1)
 (step:∀i ρ M,i<n->I i ρ M->∃Z,t.put (.int i) ρ=some Z/\Goes I R (i+1) (b.den W Z M)):Goes I R n ((zx.for_ t (.Mp it) b).den W ρ M):=by
 exact Wy (s:=.con ((List.range n).map λ(k:Nat)=>D.int (k:Int))) (by rw[Mx,G];simp[hn]) (by simp[Src.len]) I R h0 (λ_ _ _=>rfl) (λi ρ M U h=>by
  obtain⟨Z,a⟩:=step i ρ M U h;exact⟨.int i,Z,by simp[Src.item,U],a⟩)
end
end MW
namespace K76
open MW
noncomputable section
def Fe:j8:=.p (.f (.cmp .lt (.v 1) (.l (.v 0))) (.o (.ret (.ix (.v 0) (.v 1))))) (.ret (.i 0))
def Ff:Fn:=⟨2,2,Fe⟩
def Hn:j8:=.q (.a 2 (.call 0 (.p (.v 0) (.v 1)))) (.f (.cmp .ge (.v 2) (.bin .pow (.i 10) (.i 18))) (.o (.ret (.lst (.p (.bin .sub (.v 2) (.bin .pow (.i 10) (.i 18))) (.cst (.bl true))))))) (.ret (.lst (.p (.bin .mod (.v 2) (.i 2147483647)) (.cst (.bl false)))))
def Ho:Fn:=⟨2,3,Hn⟩
def Jt:j8:=.c (.f (.ix (.v 0) (.i 1)) (.q (.a 2 (.bin .mod (.ix (.v 0) (.i 0)) (.v 1))) (.asg (.sub (.v 0) (.i 0)) (.bin .fdiv (.ix (.v 0) (.i 0)) (.v 1))) (.ret (.v 2)))) (.c (.asg (.sub (.v 0) (.i 0)) (.bin .mod (.bin .add (.bin .mul (.ix (.v 0) (.i 0)) (.i 48271)) (.i 29)) (.i 2147483647))) (.q (.a 3 (.bin .mod (.bin .add (.bin .add (.bin .mul (.ix (.v 0) (.i 0)) (.ix (.v 0) (.i 0))) (.bin .mul (.i 39373) (.ix (.v 0) (.i 0)))) (.i 7)) (.i 2147483629))) (.a 3 (.bin .mod (.bin .add (.bin .mul (.v 3) (.v 3)) (.bin .mul (.i 16807) (.v 3))) (.i 2147483587))) (.ret (.bin .mod (.bin .fdiv (.v 3) (.i 8)) (.v 1)))))
def Ju:Fn:=⟨2,4,Jt⟩
def Jv:j8:=.c (.a 1 (.ix (.v 0) (.i 0))) (.c (.expr (.call 4 (.o (.v 1)))) (.q (.expr (.call 6 (.p (.v 1) (.ix (.v 0) (.i 1))))) (.f (.not (.call 12 (.q (.v 1) (.ix (.ix (.v 0) (.i 2)) (.i 0)) (.ix (.ix (.v 0) (.i 2)) (.i 1))))) (.o .raise)) (.f (.cmp .gt (.l (.call 13 (.o (.v 1)))) (.i 60)) (.o .raise))))
def Jw:Fn:=⟨1,2,Jv⟩
def Fi:j8:=.o (.f (.not (.and (.chain .le .le (.i 0) (.v 1) (.i 7)) (.chain .le .le (.i 0) (.v 2) (.i 7)))) (.o .raise))
def Fj:zx:=.for_ (.names [1,2]) (.val (.v 0)) Fi
def Mz:j8:=.q (.f (.not (.chain .le .le (.i 1) (.l (.v 0)) (.i 10))) (.o .raise)) Fj (.f (.call 5 (.o (.v 0))) (.o .raise))
def M8:Fn:=⟨1,3,Mz⟩
def Fl:Ex:=.ym true 1 (.name 4) (.val (.v 1)) (.cmp .inn (.ix (.v 4) (.i 0)) (.v 3)) (.v 4)
def Fo:Ex:=.comp true 2 (.names [4,5]) (.val (.v 1)) (.v 5)
def Fp:j8:=.q (.a 2 (.l (.v 1))) (.a 3 Fo) (.a 1 Fl)
def Jx:zx:=.whl (.cmp .ne (.v 2) (.l (.v 1))) Fp
def M9:j8:=.c (.a 1 (.blt .list (.o (.v 0)))) (.q (.a 2 (.neg (.i 1))) Jx (.ret (.cmp .gt (.v 2) (.i 0))))
def Nb:Fn:=⟨1,4,M9⟩
def Ef:j8:=.o (.f (.not (.call 7 (.p (.v 0) (.v 2)))) (.o .raise))
def Eg:zx:=.for_ (.name 2) (.val (.v 1)) Ef
def Ky:j8:=.p (.f (.cmp .gt (.l (.v 1)) (.i 8)) (.o .raise)) Eg
def Kz:Fn:=⟨2,3,Ky⟩
def Fq:j8:=.p (.f (.cmp .eq (.ix (.v 1) (.i 0)) (.cst (.str (PySem.Str.ofString "same")))) (.o (.ret (.call 12 (.q (.v 0) (.ix (.v 1) (.i 1)) (.ix (.v 1) (.i 2))))))) (.ret (.and (.cmp .eq (.ix (.v 1) (.i 0)) (.cst (.str (PySem.Str.ofString "apart")))) (.call 8 (.p (.v 0) (.ix (.v 1) (.i 1))))))
def Ft:Fn:=⟨2,2,Fq⟩
def Sh:j8:=.o (.ret (.chain .le .lt (.i 0) (.v 1) (.l (.v 0))))
def Sq:Fn:=⟨2,2,Sh⟩
def Lp:Ex:=.comp true 2 (.names [2,3]) (.zip (.p (.v 1) (.cut (.v 1) (.some (.i 1)) .none))) (.cmp .eq (.ix (.ix (.v 0) (.v 2)) (.i 1)) (.ix (.ix (.v 0) (.v 3)) (.i 0)))
def Lq:Ex:=.comp true 1 (.name 2) (.val (.v 1)) (.call 8 (.p (.v 0) (.v 2)))
def Y8:j8:=.p (.f (.or (.ntr (.v 1)) (.not (.blt .all (.o Lq)))) (.o (.ret (.cst (.bl false))))) (.ret (.blt .all (.o Lp)))
def Y9:Fn:=⟨2,2,Y8⟩
def Pq:j8:=.o (.ret (.ix (.ix (.v 0) (.ix (.v 1) (.i 0))) (.i 0)))
def Pu:Fn:=⟨2,2,Pq⟩
def Ss:j8:=.o (.ret (.ix (.ix (.v 0) (.ix (.v 1) (.neg (.i 1)))) (.i 1)))
def Su:Fn:=⟨2,2,Ss⟩
def Nf:j8:=.p (.f (.not (.and (.call 9 (.p (.v 0) (.v 1))) (.call 9 (.p (.v 0) (.v 2))))) (.o (.ret (.cst (.bl false))))) (.ret (.and (.cmp .eq (.call 10 (.p (.v 0) (.v 1))) (.call 10 (.p (.v 0) (.v 2)))) (.cmp .eq (.call 11 (.p (.v 0) (.v 1))) (.call 11 (.p (.v 0) (.v 2))))))
def Ng:Fn:=⟨3,3,Nf⟩
def Hq:Ex:=.ym true 2 (.names [6,7]) (.enm (.v 0)) (.cmp .eq (.ix (.v 7) (.i 0)) (.v 5)) (.bin .add (.v 4) (.tup (.o (.v 6))))
def Hr:j8:=.p (.a 5 (.call 11 (.p (.v 0) (.v 4)))) (.expr (.bm .extend (.v 3) (.o Hq)))
def Hs:zx:=.for_ (.name 4) (.val (.v 2)) Hr
def Bu:j8:=.c (.expr (.bm .extend (.v 1) (.o (.v 2)))) (.q (.a 3 (.lst .z)) Hs (.a 2 (.v 3)))
def Ht:zx:=.whl (.tru (.v 2)) Bu
def Bv:Ex:=.comp true 1 (.name 6) (.Mp (.l (.v 0))) (.tup (.o (.v 6)))
def Lr:j8:=.c (.a 1 (.lst .z)) (.q (.a 2 Bv) Ht (.ret (.v 1)))
def Ls:Fn:=⟨1,6,Lr⟩
def Dg:Ex:=.ym true 1 (.name 1) (.val (.v 0)) (.cmp .eq (.ix (.v 1) (.i 0)) (.cst (.str (PySem.Str.ofString "apart")))) (.ix (.v 1) (.i 1))
def Jy:j8:=.o (.ret Dg)
def Jz:Fn:=⟨1,1,Jy⟩
def K1:j8:=.p (.asg (.fld (.v 0) 1) (.lst .z)) (.asg (.fld (.v 0) 0) .Yv)
def K5:Fn:=⟨1,1,K1⟩
def Px:j8:=.o (.ret (.bm .get (.fld (.v 0) 0) (.p (.v 1) (.v 1))))
def Py:Fn:=⟨2,2,Px⟩
def Iu:j8:=.o (.ret (.cmp .eq (.meth (.v 0) 0 (.o (.v 1))) (.meth (.v 0) 0 (.o (.v 2)))))
def Iv:Fn:=⟨3,3,Iu⟩
def Dm:j8:=.o (.f (.cmp .eq (.ix (.fld (.v 0) 0) (.v 4)) (.v 3)) (.o (.asg (.sub (.fld (.v 0) 0) (.v 4)) (.v 2))))
def G3:zx:=.for_ (.name 4) (.val (.blt .list (.o (.fld (.v 0) 0)))) Dm
def Pz:j8:=.c (.expr (.bm .append (.fld (.v 0) 1) (.o (.v 1)))) (.c (.a 2 (.meth (.v 0) 0 (.o (.ix (.v 1) (.i 0))))) (.c (.a 3 (.meth (.v 0) 0 (.o (.ix (.v 1) (.i 1))))) (.q (.asg (.sub (.fld (.v 0) 0) (.ix (.v 1) (.i 0))) (.v 2)) (.asg (.sub (.fld (.v 0) 0) (.ix (.v 1) (.i 1))) (.v 3)) G3)))
def P0:Fn:=⟨2,5,Pz⟩
def Hu:j8:=.o (.f (.not (.meth (.v 0) 1 (.p (.v 1) (.v 2)))) (.o (.expr (.meth (.v 0) 2 (.o (.tup (.q (.v 1) (.v 2) (.v 3))))))))
def Hv:Fn:=⟨4,4,Hu⟩
def Hw:j8:=.q (.a 4 (.l (.fld (.v 1) 1))) (.expr (.call 21 (.p (.v 1) (.ix (.v 0) (.i 0))))) (.expr (.call 22 (.q (.v 1) (.ix (.v 0) (.i 0)) (.call 14 (.o (.ix (.v 0) (.i 1)))))))
def Nh:zx:=.whl (.cmp .ne (.v 4) (.l (.fld (.v 1) 1))) Hw
def Ad:j8:=.o (.f (.cmp .eq (.ix (.v 3) (.i 0)) (.cst (.str (PySem.Str.ofString "same")))) (.o (.expr (.meth (.v 1) 3 (.q (.ix (.v 3) (.i 1)) (.ix (.v 3) (.i 2)) (.tup (.p (.cst (.str (PySem.Str.ofString "given"))) (.v 2))))))))
def Hx:zx:=.for_ (.names [2,3]) (.enm (.ix (.v 0) (.i 1))) Ad
def Sv:j8:=.c (.a 1 (.make 3)) (.c Hx (.q (.a 4 (.neg (.i 1))) Nh (.ret (.v 1))))
def Sw:Fn:=⟨1,5,Sv⟩
def Bw:j8:=.p (.f (.cmp .eq (.ix (.v 6) (.i 1)) (.call 10 (.p (.v 1) (.v 2)))) (.o (.expr (.meth (.v 0) 3 (.q (.bin .add (.tup (.o (.v 5))) (.v 2)) (.bin .add (.tup (.o (.v 5))) (.v 3)) (.tup (.q (.cst (.str (PySem.Str.ofString "put"))) (.tup (.o (.v 5))) (.tup .z)))))))) (.f (.cmp .eq (.ix (.v 6) (.i 0)) (.call 11 (.p (.v 1) (.v 2)))) (.o (.expr (.meth (.v 0) 3 (.q (.bin .add (.v 2) (.tup (.o (.v 5)))) (.bin .add (.v 3) (.tup (.o (.v 5)))) (.tup (.q (.cst (.str (PySem.Str.ofString "put"))) (.tup .z) (.tup (.o (.v 5))))))))))
def Fv:zx:=.for_ (.names [5,6]) (.enm (.v 1)) Bw
def Bx:j8:=.o Fv
def J0:zx:=.for_ (.names [2,3,4]) (.val (.blt .list (.o (.fld (.v 0) 1)))) Bx
def Ni:j8:=.o J0
def Nj:Fn:=⟨2,7,Ni⟩
def Ae:j8:=.o (.f (.cmp .eq (.call 11 (.p (.v 1) (.v 5))) (.ix (.ix (.v 1) (.v 3)) (.i 0))) (.p (.a 6 (.bm .setdefault (.v 4) (.p (.meth (.v 0) 0 (.o (.bin .add (.v 5) (.tup (.o (.v 3)))))) (.v 5)))) (.expr (.meth (.v 0) 3 (.q (.v 6) (.v 5) (.tup (.p (.cst (.str (PySem.Str.ofString "off"))) (.v 3))))))))
def Hy:zx:=.for_ (.name 5) (.val (.call 13 (.o (.v 1)))) Ae
def Es:j8:=.p (.a 4 .Yv) Hy
def Nk:zx:=.for_ (.name 3) (.val (.v 2)) Es
def Sx:j8:=.o Nk
def Sy:Fn:=⟨3,7,Sx⟩
def Za:j8:=.c (.expr (.call 3 (.o (.v 0)))) (.q (.a 1 (.call 20 (.o (.v 0)))) (.f (.meth (.v 1) 1 (.p (.ix (.ix (.v 0) (.i 2)) (.i 0)) (.ix (.ix (.v 0) (.i 2)) (.i 1)))) (.o (.ret (.tup (.p (.cst (.str (PySem.Str.ofString "holds"))) (.blt .tuple (.o (.fld (.v 1) 1)))))))) (.ret (.call 24 (.q (.ix (.v 0) (.i 0)) (.v 1) (.call 10 (.p (.ix (.v 0) (.i 0)) (.ix (.ix (.v 0) (.i 2)) (.i 0))))))))
def Zb:Fn:=⟨1,2,Za⟩
def By:Ex:=.comp true 1 (.name 10) (.val (.v 3)) (.l (.v 10))
def Ca:Ex:=.comp true 1 (.name 10) (.val (.ix (.v 3) (.ix (.v 8) (.i 0)))) (.bm .index (.v 9) (.o (.meth (.v 1) 0 (.o (.bin .add (.v 10) (.tup (.o (.v 7))))))))
def Aa:j8:=.p (.a 9 (.ix (.v 3) (.ix (.v 8) (.i 1)))) (.expr (.bm .append (.v 6) (.o (.blt .tuple (.o Ca)))))
def Cd:zx:=.for_ (.names [7,8]) (.enm (.v 0)) Aa
def ug:j8:=.p (.a 5 (.ix (.v 3) (.call 11 (.p (.v 0) (.v 4))))) (.f (.and (.cmp .eq (.call 10 (.p (.v 0) (.v 4))) (.v 2)) (.cmp .Rt (.meth (.v 1) 0 (.o (.v 4))) (.v 5))) (.o (.expr (.bm .append (.v 5) (.o (.meth (.v 1) 0 (.o (.v 4))))))))
def Ce:zx:=.for_ (.name 4) (.val (.call 13 (.o (.v 0)))) ug
def Cg:Ex:=.comp true 1 (.name 10) (.Mp (.call 25 (.o (.v 0)))) (.lst .z)
def Iw:j8:=.c (.a 3 Cg) (.c (.expr (.bm .append (.ix (.v 3) (.v 2)) (.o (.tup .z)))) (.c Ce (.q (.a 6 (.lst .z)) Cd (.ret (.tup (.q (.cst (.str (PySem.Str.ofString "breaks"))) (.blt .tuple (.o By)) (.blt .tuple (.o (.v 6)))))))))
def Iz:Fn:=⟨3,10,Iw⟩
def K6:Ex:=.comp true 1 (.name 1) (.val (.v 0)) (.blt .max (.o (.v 1)))
def Qa:j8:=.o (.ret (.bin .add (.blt .max (.o K6)) (.i 1)))
def Qc:Fn:=⟨1,1,Qa⟩
def Lw:Ex:=.comp true 1 (.name 4) (.val (.ix (.v 0) (.i 1))) (.call 28 (.c (.ix (.v 0) (.i 0)) (.q (.v 1) (.v 2) (.v 4))))
def Zc:j8:=.c (.expr (.call 3 (.o (.v 0)))) (.c (.f (.not (.call 27 (.q (.ix (.v 0) (.i 0)) (.v 1) (.v 2)))) (.o (.ret (.cst (.bl false))))) (.q (.a 3 (.ix (.v 1) (.call 10 (.p (.ix (.v 0) (.i 0)) (.ix (.ix (.v 0) (.i 2)) (.i 0)))))) (.f (.call 29 (.c (.v 2) (.q (.v 3) (.ix (.ix (.v 0) (.i 2)) (.i 0)) (.ix (.ix (.v 0) (.i 2)) (.i 1))))) (.o (.ret (.cst (.bl false))))) (.ret (.blt .all (.o Lw)))))
def Zd:Fn:=⟨3,4,Zc⟩
def Hz:Ex:=.comp true 1 (.name 5) (.val (.v 3)) (.chain .le .lt (.i 0) (.v 5) (.ix (.v 1) (.ix (.v 4) (.i 1))))
def Np:j8:=.p (.f (.cmp .ne (.l (.v 3)) (.ix (.v 1) (.ix (.v 4) (.i 0)))) (.o (.ret (.cst (.bl false))))) (.f (.not (.blt .all (.o Hz))) (.o (.ret (.cst (.bl false)))))
def Ia:zx:=.for_ (.names [3,4]) (.zip (.p (.v 2) (.v 0))) Np
def Ib:Ex:=.comp true 1 (.name 5) (.val (.v 1)) (.cmp .ge (.v 5) (.i 0))
def S8:j8:=.c (.f (.or (.cmp .ne (.l (.v 1)) (.call 25 (.o (.v 0)))) (.cmp .ne (.l (.v 2)) (.l (.v 0)))) (.o (.ret (.cst (.bl false))))) (.q (.f (.not (.blt .all (.o Ib))) (.o (.ret (.cst (.bl false))))) Ia (.ret (.cst (.bl true))))
def Tc:Fn:=⟨3,5,S8⟩
def ada:j8:=.p (.f (.cmp .eq (.ix (.v 3) (.i 0)) (.cst (.str (PySem.Str.ofString "apart")))) (.p (.a 4 (.ix (.v 2) (.ix (.v 3) (.i 1)))) (.ret (.cmp .eq (.blt .Gx (.o (.v 4))) (.l (.v 4)))))) (.ret (.call 29 (.c (.v 2) (.q (.ix (.v 1) (.call 10 (.p (.v 0) (.ix (.v 3) (.i 1))))) (.ix (.v 3) (.i 1)) (.ix (.v 3) (.i 2))))))
def adb:Fn:=⟨4,5,ada⟩
def Ie:Ex:=.comp true 1 (.name 4) (.Mp (.v 1)) (.cmp .eq (.call 30 (.q (.v 0) (.v 2) (.v 4))) (.call 30 (.q (.v 0) (.v 3) (.v 4))))
def Td:j8:=.o (.ret (.blt .all (.o Ie)))
def Te:Fn:=⟨4,4,Td⟩
def G4:j8:=.o (.a 3 (.ix (.ix (.v 0) (.v 4)) (.v 3)))
def K7:zx:=.for_ (.name 4) (.val (.v 1)) G4
def Qd:j8:=.q (.a 3 (.v 2)) K7 (.ret (.v 3))
def Qe:Fn:=⟨3,5,Qd⟩
def Ci:Ex:=.ym true 1 (.name 4) (.Mp (.l (.v 0))) (.cmp .eq (.ix (.ix (.v 0) (.v 4)) (.i 0)) (.v 3)) (.bin .add (.ix (.v 1) (.v 2)) (.tup (.o (.v 4))))
def Cj:j8:=.q (.a 3 (.ix (.ix (.v 0) (.ix (.ix (.v 1) (.v 2)) (.neg (.i 1)))) (.i 1))) (.expr (.bm .extend (.v 1) (.o Ci))) (.a 2 (.bin .add (.v 2) (.i 1)))
def Gj:zx:=.whl (.cmp .lt (.v 2) (.l (.v 1))) Cj
def Cm:Ex:=.comp false 1 (.name 4) (.Mp (.l (.v 0))) (.tup (.o (.v 4)))
def Ja:j8:=.c (.a 1 Cm) (.q (.a 2 (.i 0)) Gj (.ret (.v 1)))
def Jb:Fn:=⟨1,4,Ja⟩
def Ai:Ex:=.comp true 1 (.name 6) (.val (.v 4)) (.tup (.p (.v 5) (.v 6)))
def za:j8:=.o (.expr (.bm .extend (.v 3) (.o Ai)))
def Aj:zx:=.for_ (.name 5) (.val (.v 4)) za
def Ak:j8:=.o Aj
def Al:zx:=.for_ (.name 4) (.vals (.v 1)) Ak
def Ek:j8:=.o (.expr (.bm .append (.bm .setdefault (.v 1) (.p (.tup (.p (.ix (.ix (.v 0) (.ix (.v 2) (.i 0))) (.i 0)) (.ix (.ix (.v 0) (.ix (.v 2) (.neg (.i 1)))) (.i 1)))) (.lst .z))) (.o (.v 2))))
def Am:zx:=.for_ (.name 2) (.val (.call 31 (.o (.v 0)))) Ek
def Gk:j8:=.c (.a 1 .Yv) (.c Am (.q (.a 3 (.lst .z)) Al (.ret (.v 3))))
def Gm:Fn:=⟨1,6,Gk⟩
def zq:Ex:=.ym true 1 (.name 9) (.val (.v 5)) (.cmp .ne (.ix (.v 9) (.i 0)) (.ix (.v 9) (.i 1))) (.v 9)
def Be:j8:=.o (.expr (.bm .append (.v 6) (.o (.bin .add (.tup (.o (.cst (.str (PySem.Str.ofString "same"))))) (.ix (.v 5) (.call 2 (.p (.v 0) (.l (.v 5)))))))))
def Bf:zx:=.for_ (.name 2) (.Mp (.call 2 (.p (.v 0) (.i 4)))) Be
def Bg:Ex:=.comp false 1 (.name 9) (.Mp (.call 2 (.p (.v 0) (.i 4)))) (.tup (.p (.cst (.str (PySem.Str.ofString "apart"))) (.call 2 (.p (.v 0) (.l (.v 1))))))
def Bh:j8:=.p (.a 3 (.call 2 (.p (.v 0) (.i 4)))) (.expr (.bm .append (.v 1) (.o (.tup (.p (.v 3) (.bin .add (.bin .add (.v 3) (.i 1)) (.call 2 (.p (.v 0) (.ix (.Ku (.c (.i 1) (.q (.i 1) (.i 2) (.i 3)))) (.call 2 (.p (.v 0) (.i 4))))))))))))
def Bj:zx:=.for_ (.name 2) (.Mp (.bin .add (.i 1) (.call 2 (.p (.v 0) (.i 6))))) Bh
def K8:j8:=.c (.a 1 (.lst .z)) (.c Bj (.c (.a 4 (.Ku (.q (.tup (.q (.tup (.p (.i 0) (.i 1))) (.tup (.p (.i 0) (.i 1))) (.tup (.p (.i 1) (.i 2))))) (.tup (.c (.tup (.p (.i 0) (.i 1))) (.q (.tup (.p (.i 1) (.i 2))) (.tup (.p (.i 0) (.i 2))) (.tup (.p (.i 2) (.i 3)))))) (.tup (.c (.tup (.p (.i 0) (.i 1))) (.c (.tup (.p (.i 0) (.i 2))) (.q (.tup (.p (.i 1) (.i 3))) (.tup (.p (.i 2) (.i 3))) (.tup (.p (.i 3) (.i 4)))))))))) (.c (.a 4 (.bin .add (.v 4) (.Ku (.p (.tup (.c (.tup (.p (.i 0) (.i 1))) (.c (.tup (.p (.i 1) (.i 2))) (.c (.tup (.p (.i 0) (.i 3))) (.c (.tup (.p (.i 3) (.i 4))) (.q (.tup (.p (.i 1) (.i 4))) (.tup (.p (.i 2) (.i 5))) (.tup (.p (.i 4) (.i 5))))))))) (.tup (.c (.tup (.p (.i 3) (.i 1))) (.c (.tup (.p (.i 3) (.i 1))) (.q (.tup (.p (.i 1) (.i 0))) (.tup (.p (.i 1) (.i 0))) (.tup (.p (.i 0) (.i 2))))))))))) (.c (.f (.cmp .gt (.call 2 (.p (.v 0) (.i 3))) (.i 0)) (.o (.a 1 (.ix (.v 4) (.call 2 (.p (.v 0) (.i 5))))))) (.c (.a 5 (.call 32 (.o (.v 1)))) (.c (.a 6 Bg) (.c Bf (.c (.a 7 (.call 2 (.p (.v 0) (.bin .add (.i 1) (.l (.v 6)))))) (.q (.a 8 zq) (.f (.or (.cmp .eq (.v 8) (.Ku .z)) (.cmp .eq (.call 2 (.p (.v 0) (.i 8))) (.i 0))) (.o (.a 8 (.v 5)))) (.ret (.tup (.q (.blt .tuple (.o (.v 1))) (.blt .tuple (.o (.bin .add (.cut (.v 6) (.some (.v 7)) .none) (.cut (.v 6) .none (.some (.v 7)))))) (.ix (.v 8) (.call 2 (.p (.v 0) (.l (.v 8)))))))))))))))))
def K9:Fn:=⟨1,9,K8⟩
def G5:j8:=.o (.a 2 (.ix (.ix (.v 0) (.v 3)) (.v 2)))
def La:zx:=.for_ (.name 3) (.val (.v 1)) G5
def Qf:j8:=.p La (.ret (.v 2))
def Qg:Fn:=⟨3,4,Qf⟩
def An:Ex:=.ym true 1 (.name 14) (.val (.v 4)) (.cmp .eq (.ix (.v 14) (.i 0)) (.cst (.str (PySem.Str.ofString "apart")))) (.cmp .eq (.blt .Gx (.o (.ix (.v 2) (.ix (.v 14) (.i 1))))) (.l (.ix (.v 2) (.ix (.v 14) (.i 1)))))
def Ao:j8:=.o (.a 11 (.and (.v 11) (.cmp .eq (.call 34 (.q (.v 2) (.v 9) (.v 12))) (.call 34 (.q (.v 2) (.v 10) (.v 12))))))
def Aq:zx:=.for_ (.name 12) (.Mp (.ix (.v 1) (.ix (.ix (.v 3) (.ix (.v 9) (.i 0))) (.i 0)))) Ao
def Av:j8:=.q (.a 11 (.cst (.bl true))) Aq (.expr (.bm .append (.v 8) (.o (.v 11))))
def zb:Ex:=.ym true 1 (.name 14) (.val (.v 4)) (.cmp .eq (.ix (.v 14) (.i 0)) (.cst (.str (PySem.Str.ofString "same")))) (.cut (.v 14) (.some (.i 1)) .none)
def Aw:zx:=.for_ (.names [9,10]) (.val (.bin .add zb (.Ku (.o (.v 5))))) Av
def Ax:Ex:=.ym true 1 (.name 14) (.val (.v 7)) (.not (.chain .le .lt (.i 0) (.v 14) (.ix (.v 1) (.ix (.ix (.v 3) (.v 6)) (.i 1))))) (.v 14)
def El:j8:=.p (.a 7 (.ix (.v 2) (.v 6))) (.f (.or (.cmp .ne (.l (.v 7)) (.ix (.v 1) (.ix (.ix (.v 3) (.v 6)) (.i 0)))) (.cmp .ne Ax (.Ku .z))) (.o (.ret (.cst (.bl false)))))
def Ay:zx:=.for_ (.name 6) (.Mp (.l (.v 3))) El
def zc:Ex:=.comp true 1 (.name 14) (.val (.v 3)) (.blt .max (.o (.v 14)))
def Gp:j8:=.c (.asg (.tg (.names [3,4,5])) (.v 0)) (.c (.f (.or (.cmp .ne (.l (.v 1)) (.bin .add (.i 1) (.blt .max (.o zc)))) (.or (.cmp .ne (.l (.v 2)) (.l (.v 3))) (.cmp .lt (.blt .min (.o (.v 1))) (.i 0)))) (.o (.ret (.cst (.bl false))))) (.c Ay (.c (.a 8 (.lst .z)) (.q Aw (.a 13 An) (.ret (.and (.cmp .Rt (.cst (.bl false)) (.bin .add (.v 13) (.cut (.v 8) .none (.some (.neg (.i 1)))))) (.not (.ix (.v 8) (.neg (.i 1))))))))))
def Gq:Fn:=⟨3,14,Gp⟩
def Lb:Ex:=.comp true 1 (.name 8) (.Mp (.ix (.v 3) (.v 5))) (.call 2 (.p (.v 0) (.blt .max (.p (.i 1) (.ix (.v 3) (.v 6))))))
def Dn:j8:=.o (.expr (.bm .append (.v 7) (.o (.blt .tuple (.o Lb)))))
def G6:zx:=.for_ (.names [5,6]) (.val (.v 1)) Dn
def zr:j8:=.o (.f (.cmp .eq (.ix (.v 3) (.v 6)) (.i 0)) (.o (.asg (.sub (.v 3) (.v 5)) (.i 0))))
def G7:zx:=.for_ (.names [5,6]) (.val (.v 1)) zr
def G8:j8:=.o G7
def G9:zx:=.for_ (.name 4) (.Mp (.l (.v 1))) G8
def Ha:Ex:=.comp true 1 (.name 8) (.val (.v 1)) (.blt .max (.o (.v 8)))
def Hb:Ex:=.comp false 1 (.name 8) (.Mp (.bin .add (.i 1) (.blt .max (.o Ha)))) (.call 2 (.p (.v 0) (.bin .add (.v 2) (.i 1))))
def Qh:j8:=.c (.a 3 Hb) (.c G9 (.q (.a 7 (.lst .z)) G6 (.ret (.tup (.p (.blt .tuple (.o (.v 3))) (.blt .tuple (.o (.v 7))))))))
def Qi:Fn:=⟨3,8,Qh⟩
def Q8:j8:=.q (.asg (.tg (.names [6,7])) (.call 36 (.q (.v 1) (.ix (.v 3) (.i 0)) (.bin .add (.i 2) (.bin .mod (.v 5) (.i 2)))))) (.a 8 (.call 35 (.q (.v 3) (.v 6) (.v 7)))) (.f (.or (.and (.v 8) (.cmp .ne (.ix (.v 4) (.i 0)) (.cst (.str (PySem.Str.ofString "breaks"))))) (.cmp .ne (.call 26 (.q (.v 3) (.v 6) (.v 7))) (.v 8))) (.o (.ret (.cst (.bl false)))))
def Wz:zx:=.for_ (.name 5) (.Mp (.i 12)) Q8
def W0:j8:=.c (.a 3 (.call 33 (.o (.v 1)))) (.q (.a 4 (.call 23 (.o (.v 3)))) (.f (.and (.cmp .eq (.ix (.v 4) (.i 0)) (.cst (.str (PySem.Str.ofString "breaks")))) (.not (.call 35 (.q (.v 3) (.ix (.v 4) (.i 1)) (.ix (.v 4) (.i 2)))))) (.o (.ret (.cst (.bl false))))) Wz)
def ade:zx:=.for_ (.name 2) (.Mp (.i 3)) W0
def ard:j8:=.q (.a 1 (.call 1 (.p (.v 0) (.i 0)))) ade (.ret (.cst (.bl true)))
def aif:Fn:=⟨1,9,ard⟩
def prog:Prog:=⟨[Ff,Ho,Ju,Jw,M8,Nb,Kz,Ft,Sq,Y9,Pu,Su,Ng,Ls,Jz,K5,Py,Iv,P0,Hv,Sw,Nj,Sy,Zb,Iz,Qc,Zd,Tc,adb,Te,Qe,Jb,Gm,K9,Qg,Gq,Qi,aif],[⟨0,[]⟩,⟨0,[]⟩,⟨0,[]⟩,⟨15,[(0,16),(1,17),(2,18),(3,19)]⟩]⟩
end
abbrev PW(m:Nat):Kv:=⟨prog.call m,prog.cls⟩
noncomputable abbrev sR(n:Nat):Option D:=some (.ref n)
noncomputable abbrev sI(i:Int):Option D:=some (.int i)
noncomputable def nD(x:Nat):D:=.int (x:Int)
def dq(r:Y3):D:=.tup (r.map nD)
def W3(x y:Nat):decide ((x:Int)=(y:Int))=decide (x=y):=by
 by_cases h:x=y
 .simp[h]
 .have:¬((x:Int)=(y:Int)):=by lia
  simp[h,this]
def Cq(M:dm)(n x y:Nat):Mh M (n+1) (.int x) (.int y)=some (decide (x=y)):=by rw[Wt,W3]
theorem adf(M:dm)(n:Nat):∀r s:List Nat,Vc (Mh M (n+1)) (r.map nD) (s.map nD)=some (decide (r=s))
 |[],[]=>by simp[Vc]|[],_::_=>by simp[Vc]|_::_,[]=>by simp[Vc]
 |x::r,y::s=>by
  rw[dg,dg,aia (a:=nD x) (b:=nD y) (Cq M n x y) (adf M n r s)]
  by_cases h:x=y<;>simp[h]
def Tf(M:dm)(r s:Y3):um M (dq r) (dq s)=some (decide (r=s)):=adf M 4 r s
theorem W4(M:dm)(g:Y3):∀fs:List (List Nat),Mr M (dq g) (fs.map dq)=some (fs.map λf=>decide (f=g))
 |[]=>rfl|f::fs=>by simp[Mr,Tf,W4 M g fs]
def anh(M:dm)(g:Y3)(fs:List (List Nat)):memD M (dq g) (fs.map dq)=some (decide (g∈fs)):=by
 rw[memD,W4,n8]
 congr 1
 rw[v5,List.any_eq_true,du];constructor
 .rintro⟨b,U,G⟩
  obtain⟨f,Z,rfl⟩:=di.mp U;simpa using(show f=g by simpa using G)▸Z
 .intro h
  exact⟨true,di.mpr ⟨g,h,by simp⟩,rfl⟩
noncomputable abbrev Ar:=Nat×Nat
noncomputable def aD(e:Ar):D:=.tup [.int e.1,.int e.2]
noncomputable def at_(Z:List Ar)(i:Nat):Ar:=Z.getD i (0,0)
noncomputable def hw(w:Y3):Nat:=w.headD 0
noncomputable def lw(w:Y3):Nat:=w.getLastD 0
def yu(Z:List Ar)(w:Y3):Nat:=(at_ Z (hw w)).1
def xm(Z:List Ar)(w:Y3):Nat:=(at_ Z (lw w)).2
def Ze(Z:List Ar):List Nat->Prop
 |a::b::r=>(at_ Z a).2=(at_ Z b).1/\Ze Z (b::r)|_=>True
structure Way(es:List Ar)(w:Y3):Prop where
 ne:w≠[]
 lt:∀i∈w,i<es.length
 ch:Ze es w
def nxt(Z:List Ar)(v:Nat):List Nat:=(List.range Z.length).filter λk=>decide ((at_ Z k).1=v)
def ext(Z:List Ar)(w:Y3):List (List Nat):=(nxt Z (xm Z w)).map λk=>w++[k]
structure Ends(es:List Ar)(V:Nat->Nat):Prop where
 pos:1<=es.length
 few:es.length<=10
 sm:∀e∈es,e.1<=7/\e.2<=7
 pot:∀v,((nxt es v).map λk=>1+V (at_ es k).2).sum<=V v
 tot:((List.range es.length).map λk=>1+V (at_ es k).2).sum<=60
def Phi(Z:List Ar)(V:Nat->Nat)(G:List (List Nat)):Nat:=(G.map λw=>1+V (xm Z w)).sum
theorem Dp(G:List Ar)(V:Nat->Nat):∀Z:List (List Nat),Z.length+(Z.map λw=>V (xm G w)).sum=Phi G V Z
 |[]=>rfl|w::Z=>by have:=Dp G V Z;simp[Phi] at this ⊢;lia
def ani(Z:List Ar)(V:Nat->Nat)(a b:List (List Nat)):Phi Z V (a++b)=Phi Z V a+Phi Z V b:=by simp[Phi]
def W5(E:Ends es V)(w:Y3):Phi es V (ext es w)<=V (xm es w):=by
 have h:=E.pot (xm es w);have e:(ext es w).map (λw=>1+V (xm es w))=(nxt es (xm es w)).map λk=>1+V (at_ es k).2:=by simp[ext,xm,lw,gw,ik]
 rw[Phi,e];exact h
def Nq(h:i<es.length):es[i]?=some (at_ es i):=by simp[at_,List.getD,h]
theorem adg:∀{w:Y3},Ze es w->w≠[]->(at_ es k).1=xm es w->Ze es (w++[k])
 |[],_,h,_=>absurd rfl h|[a],_,_,e=>⟨by simpa[xm,lw] using e.symm,trivial⟩|a::b::r,h,_,e=>⟨h.1,adg (w:=b::r) h.2 (by simp) (by simpa[xm,lw] using e)⟩
def Way.app(W:Way es w)(G:k<es.length)(e:(at_ es k).1=xm es w):Way es (w++[k]) :=
 ⟨by simp,λi Z=>by rcases bz.mp Z with h|h;exact W.lt i h;simp at h;exact h▸G,adg W.ch W.ne e⟩
def Way.one(G:k<es.length):Way es [k]:=⟨by simp,λi Z=>by simp at Z;exact Z▸G,trivial⟩
def Ig:k∈nxt es v↔k<es.length/\(at_ es k).1=v:=by simp[nxt]
def W6(W:Way es w)(h:u∈ext es w):Way es u:=by obtain⟨k,U,rfl⟩:=di.mp h;obtain⟨G,Z⟩:=Ig.mp U;exact W.app G Z
def call_of(U:1<=m)(Z:prog.fns[f]?=some G):prog.call m f ds M=G.run (PW (m-1)) ds M:=by obtain⟨n,rfl⟩:∃n,m=n+1:=⟨m-1,by lia⟩;simp[Prog.call,Z]
def atb(n:Int)(f:Bool):Prop:=0<=n/\(f=false->n<2147483647)
def Has(t:Nat)(f:Bool)(M:dm):Prop:=∃n,M[t]?=some (.lst [.int n,.bl f])/\atb n f
structure St(t:Nat)(f:Bool)(M M':dm):Prop where
 len:M.length<=M'.length
 has:Has t f M'
 keep:∀(a:Nat)(o:MO),a≠t->M[a]?=some o->M'[a]?=some o
def St.trans(a:St t f M Z)(b:St t f Z M2):St t f M M2 :=
 ⟨bj a.len b.len,b.has,λx o n h=>b.keep x o n (a.keep x o n h)⟩
def St.of(h:Has t f M)(k:m6 M M'):St t f M M' :=
 ⟨k.len,let ⟨n,a,b⟩:=h;⟨n,k _ _ a,b⟩,λa o _ e=>k a o e⟩
def zp(hm:1<=m)(hs:Has t f M)(Z:0<many)(hq:many<1073741824) :
 ∃(v:Nat)(G:dm),prog.call m 2 [.ref t,.int many] M=.ok (.int v) G/\(v:Int)<many/\St t f M G/\G.length=M.length:=by
 obtain⟨n,h,R⟩:=hs;rw[call_of hm rfl];have hl:=jg h;have g0:=Bc hl (i:=0) (by decide) rfl;have g1:=Bc hl (i:=1) (by decide) rfl;have fin:∀n':Int,atb n' f->St t f M (M.set t (.lst [.int n',.bl f])):=λn' o=>⟨by simp,⟨n',oh h,o⟩,λa u e q=>by rw[jh (jr e)];exact q⟩
 have qq:many≠0:=by lia
 have c1:∀y:Int,∃v:Nat,y%many=(v:Int)/\(v:Int)<many:=λy=>by have a:=xx y qq;have b:=vz y Z;exact⟨(y%many).toNat,by lia,by lia⟩
 cases f with
 |true =>
  obtain⟨v,e,l⟩:=c1 n;refine⟨v,_,?_,l,fin (n / many) ⟨Int.ediv_nonneg R.1 (by lia),by simp⟩,by simp⟩;simp[Fn.run,Ju,Jt,g0,g1,Z,Vg _ _ Z hq,Wv h,e]
 |false =>
  have h1:=R.1;have h2:=R.2 rfl;obtain⟨n',en⟩:∃n',(n*48271+29)%2147483647=n':=⟨_,rfl⟩;have e1:0<=n':=en▸xx _ (by decide)
  have e2:n'<2147483647:=en▸vz _ (by decide)
  obtain⟨x,U⟩:∃x,(n'*n'+39373*n'+7)%2147483629=x:=⟨_,rfl⟩;have x1:0<=x:=U▸xx _ (by decide)
  have x2:x<2147483629:=U▸vz _ (by decide)
  obtain⟨y,ey⟩:∃y,(x*x+16807*x)%2147483587=y:=⟨_,rfl⟩;obtain⟨v,e,l⟩:=c1 (y / 8);refine⟨v,_,?_,l,fin n' ⟨e1,λ_=>e2⟩,by simp⟩;have k:=oh (o:=.lst [.int n',.bl false]) h;have k0:=Bc (jg k) (i:=0) (by decide) rfl;simp[Fn.run,Ju,Jt,g0,g1,Z,Wv h,Jo n 48271 (.inr (by decide)),en,k0,Jo n' n' (.inl (by lia)),Jo 39373 n' (.inl (by decide)),U,Jo x x (.inl (by lia)),Jo 16807 x (.inl (by decide)),ey,Vg _ 8 (by decide) (by decide),e]
def adh{k:Nat}{Z:X9}(U:1<=m):prog.call m 0 [.fz (Z.map D.int),.int k] M=.ok (.int (Z.getD k 0)) M:=by
 rw[call_of U rfl]
 by_cases G:k<Z.length
 .simp[Fn.run,Ff,Fe,aib,G,ayh (ds:=Z.map D.int) (i:=k) (x:=.int (Z.getD k 0)) q_ (by simp[G])]
 .simp[Fn.run,Ff,Fe,aib,G]
def aih{k:Nat}{ns:X9}(Z:2<=m):∃n f,prog.call m 1 [.fz (ns.map D.int),.int k] M=.ok (.ref M.length) (M++[.lst [.int n,.bl f]])/\atb n f:=by
 rw[call_of (a_ (by decide) Z) rfl]
 by_cases h:(10:Int) ^ 18<=ns.getD k 0
 .refine⟨ns.getD k 0-10 ^ 18,true,?_,by lia,by simp⟩
  have G:(1000000000000000000:Int)<=ns[k]?.getD 0:=by simpa using h
  simp[Fn.run,Ho,Hn,adh (show 1<=m-1 by exact r_ Z),G,MW.new]
 .refine⟨ns.getD k 0%2147483647,false,?_,xx _ (by decide),λ_=>vz _ (by decide)⟩
  have G:¬(1000000000000000000:Int)<=ns[k]?.getD 0:=by simpa using h
  simp[Fn.run,Ho,Hn,adh (show 1<=m-1 by exact r_ Z),G,MW.new]
def atc(h:j9 M d=some ds)(G:0<=i)(Z:ds[i.toNat]?=some x):uo d (.int i) M=some x:=by
 cases d with
 |tup l=>cases h;exact Jp G Z|_=>exact Bc h G Z
def anj{Z:List D}(h:Z.getLast?=some x):uo (.tup Z) (.int (-1)) M=some x:=by
 rw[List.getLast?_eq_getElem?] at h;have R:=(ak.mp h).1;have e:Oz Z.length (-1)=some (Z.length-1):=by
  have U:-(Z.length:Int)<=-1:=by lia
  have G:(-1+(Z.length:Int)).toNat=Z.length-1:=by lia
  rw[Oz,bw (by decide),bx U,G]
 show(Oz Z.length (-1)).bind (λj=>Z[j]?)=_;rw[e];exact h
def J1{i:Nat}(Z:j9 M d=some (es.map aD))(G:i<es.length):uo d (.int i) M=some (aD (at_ es i)) :=
 atc Z (ir _) (by simp[Nq G])
def Vi{w:Y3}(h:w≠[]):w.getLast?=some (lw w)/\lw w∈w:=by
 cases e:w.getLast? with
 |none=>exact absurd (List.getLast?_eq_none_iff.mp e) h
 |some x =>
  have:lw w=x:=by rw[lw,List.getLastD_eq_getLast?,e];rfl
  rw[this];exact⟨rfl,List.mem_of_getLast? e⟩
def Th(W:Way es w):uo (dq w) (.int (-1)) M=some (.int (lw w:Nat)) :=
 anj (by rw[List.getLast?_map,(Vi W.ne).1];rfl)
def Way.Q9(W:Way es w):lw w<es.length:=W.lt _ (Vi W.ne).2
def Ti(W:Way es w):uo (dq w) (.int 0) M=some (.int (hw w:Nat)):=by
 cases w with
 |nil=>exact absurd rfl W.ne|cons a r=>exact Bd _ _
def Way.Et(W:Way es w):hw w<es.length:=by
 cases w with
 |nil=>exact absurd rfl W.ne|cons a r=>exact W.lt a cg
def O5(G:1<=m)(Z:j9 M d=some (es.map aD))(W:Way es w):prog.call m 11 [d,dq w] M=.ok (.int (xm es w)) M:=by rw[call_of G rfl];simp[Fn.run,Su,Ss,Th W,J1 Z W.Q9,aD,xm]
def Lx(G:1<=m)(Z:j9 M d=some (es.map aD))(W:Way es w):prog.call m 10 [d,dq w] M=.ok (.int (yu es w)) M:=by rw[call_of G rfl];simp[Fn.run,Pu,Pq,Ti W,J1 Z W.Et,aD,yu]
def Tj(h:M[n]?=some (.lst Z)):Jm .extend (.ref n) M=true:=by simp[Jm,gj,h]
def abl(h:M[n]?=some (.lst Z))(G:Z.length+ys.length<100000):Dr .extend (.ref n) [.vl ys] M=.ok .non (M.set n (.lst (Z++ys))):=by simp[Dr,onL,h,G,Mt]
theorem m6.j9(k:m6 M Z)(h:j9 M d=some ds):MW.j9 Z d=some ds:=by
 cases d with
 |tup l=>exact h|_=>simp only[MW.j9] at h ⊢;exact k.gj h
theorem m6.set(k:m6 Z M)(h:Z.length<=p):m6 Z (M.set p o):=λa u e=>by rw[jh (tu (gm (t8 e) h))];exact k a u e
def Hh(w:Y3)(k:Nat)(Z:w.length<1000):Ba .add (dq w) (.tup [.int k]) M=.ok (dq (w++[k])) M:=by rw[dq,O3 _ _ (by simp;lia)];simp[dq,nD]
def adi(Z:List Ar)(w:Y3):(((List.range Z.length).filter λk=>decide ((at_ Z k).1=xm Z w)).map λk=>dq (w++[k]))=(ext Z w).map dq:=by simp[ext,nxt,gw,ik]
def Zf(Z:List Ar)(V:Nat->Nat){G:List (List Nat)}(h:G[i]?=some w):((G.drop i).map λw=>V (xm Z w)).sum=V (xm Z w)+((G.drop (i+1)).map λw=>V (xm Z w)).sum:=by obtain⟨U,e⟩:=ak.mp h;rw[ql U,e];simp
structure Wys(es:List Ar)(ws:List (List Nat)):Prop where
 way:∀w∈ws,Way es w
 one:∀k,k<es.length->[k]∈ws
 ext:∀w∈ws,∀u∈ext es w,u∈ws
 few:ws.length<=60
 nd:ws.Nodup
structure Wk(es:List Ar)(V:Nat->Nat)(ws:List (List Nat))(i:Nat):Prop where
 way:∀w∈ws,Way es w
 one:∀k,k<es.length->[k]∈ws
 ext:∀j w,j<i->ws[j]?=some w->∀u∈ext es w,u∈ws
 le:i<=ws.length
 few:ws.length+((ws.drop i).map λw=>V (xm es w)).sum<=60
 nd:ws.Nodup
 par:∀u∈ws,u.dropLast=[]\/∃j,j<i/\ws[j]?=some u.dropLast
def Fw{Z:Type}{l:List Z}(h:l.Nodup){i j:Nat}{x:Z}(R:l[i]?=some x)(h2:l[j]?=some x):i=j:=by obtain⟨a1,G⟩:=ak.mp R;obtain⟨b1,U⟩:=ak.mp h2;exact(wy h).mp (G.trans U.symm)
theorem Kr{Z U:Type}{f:Z->U}(G:∀a b,f a=f b->a=b):∀{l:List Z},l.Nodup->(l.map f).Nodup
 |[],_=>by simp
 |a::l,h=>by
  have h:=jy.mp h;rw[dg];refine jy.mpr ⟨λq=>?_,Kr G h.2⟩;obtain⟨x,R,h2⟩:=di.mp q;exact h.1 (G _ _ h2▸R)
def atd(Z:List Ar)(w:Y3):(K76.ext Z w).Nodup:=Kr (λa b h=>by simpa using h) (List.Pairwise.filter _ List.nodup_range)
def Wk.step(E:Ends es V)(h:Wk es V U i)(hw:U[i]?=some w):Wk es V (U++K76.ext es w) (i+1):=by
 have W:=h.way w (az hw);have hl:=(ak.mp hw).1;have dl:∀u∈K76.ext es w,u.dropLast=w:=λu Z=>by obtain⟨k,_,rfl⟩:=di.mp Z;simp
 refine⟨λu Z=>?_,λk hk=>ji _ (h.one k hk),λj u hj Z v R=>?_,by simp;lia,?_,mz.mpr ⟨h.nd,atd es w,λa ha b hb e=>?_⟩,λu Z=>?_⟩
 .rcases bz.mp Z with a|a
  .exact h.way u a
  .exact W6 W a
 .have G:j<U.length:=by lia
  rw[gr G] at Z;rcases jo j i with a|a
  .exact ji _ (h.ext j u a Z v R)
  .have:j=i:=by lia
   subst this;rw[hw] at Z;cases Z;exact fj _ R
 .have a:=h.few
  rw[Zf es V hw] at a;have b:=W5 E w;rw[<- Dp] at b;rw[List.drop_append_of_le_length (by lia),iy,iz,List.sum_append]
  lia
 .subst e
  have e:=dl a hb;rcases h.par a ha with q|⟨j,q1,q2⟩
  .exact W.ne (e▸q)
  .rw[e] at q2
   have:=Fw h.nd hw q2
   lia
 .rcases bz.mp Z with a|a
  .rcases h.par u a with q|⟨j,q1,q2⟩
   .exact .inl q
   .exact .inr ⟨j,by lia,by rw[gr (by lia)];exact q2⟩
  .exact .inr ⟨i,by lia,by rw[dl u a,gr hl];exact hw⟩
def Wk.start(E:Ends es V):Wk es V ((List.range es.length).map λk=>[k]) 0:=by
 refine⟨λw h=>?_,λk R=>di.mpr ⟨k,jc.mpr R,rfl⟩,λj w Z=>absurd Z (n6 _),ig _,?_,Kr (λa b h=>by simpa using h) List.nodup_range,λu G=>?_⟩
 .obtain⟨k,U,rfl⟩:=di.mp h
  exact Way.one (jc.mp U)
 .have a:=E.tot
  have b:=Dp es V ((List.range es.length).map λk=>[k]);have c:Phi es V ((List.range es.length).map λk=>[k])=((List.range es.length).map λk=>1+V (at_ es k).2).sum:=by simp[Phi,xm,lw,gw,ik]
  rw[List.drop_zero];lia
 .obtain⟨k,_,rfl⟩:=di.mp G
  exact .inl rfl
def V_lt(E:Ends es V)(Z:k<es.length):V (at_ es k).2<V (at_ es k).1:=by
 have h:=E.pot (at_ es k).1;have m:k∈nxt es (at_ es k).1:=Ig.mpr ⟨Z,rfl⟩;have:1+V (at_ es k).2<=((nxt es (at_ es k).1).map λk=>1+V (at_ es k).2).sum:=by
  generalize nxt es (at_ es k).1=l at m
  induction l with
  |nil=>cases m
  |cons a l G =>
   simp only[dg,List.sum_cons];rcases cj.mp m with rfl|m
   .lia
   .have:=G m;lia
 lia
def a6b(E:Ends es V)(Z:k<es.length):V (at_ es k).2<=59:=by
 have h:=E.tot;have m:k∈List.range es.length:=jc.mpr Z;have:1+V (at_ es k).2<=((List.range es.length).map λk=>1+V (at_ es k).2).sum:=by
  generalize List.range es.length=l at m
  induction l with
  |nil=>cases m
  |cons a l G =>
   simp only[dg,List.sum_cons];rcases cj.mp m with rfl|m
   .lia
   .have:=G m;lia
 lia
theorem aii(E:Ends es V):∀{w:Y3},Way es w->w.length+V (xm es w)<=V (at_ es (hw w)).2+1
 |[],W=>absurd rfl W.ne|[a],_=>by simp[xm,lw,hw];lia
 |a::b::r,W=>by
  have G:Way es (b::r):=⟨by simp,λi Z=>W.lt i (bh _ Z),W.ch.2⟩;have U:=aii E G;have hb:=V_lt E (W.lt b (by simp));have e:=W.ch.1;have R:xm es (a::b::r)=xm es (b::r):=by simp[xm,lw]
  rw[R];simp only[d9,hw,List.headD_cons] at U ⊢;rw[e]
  lia
def Gr(E:Ends es V)(W:Way es w):w.length<=60:=by
 have a:=aii E W;have b:=a6b E W.Et
 lia
def Wk.end_(h:Wk es V ws ws.length):Wys es ws:=by
 refine⟨h.way,h.one,λw hw u G=>?_,?_,h.nd⟩
 .obtain⟨j,Z⟩:=mq.mp hw
  exact h.ext j w (ak.mp Z).1 Z u G
 .have:=h.few;lia
theorem Ze.init:∀{w:Y3},Ze es (w++[k])->Ze es w
 |[],_=>trivial|[_],_=>trivial|a::b::r,h=>⟨h.1,Ze.init (w:=b::r) h.2⟩
theorem Ze.last:∀{w:Y3},w≠[]->Ze es (w++[k])->(at_ es k).1=xm es w
 |[],h,_=>absurd rfl h|[a],_,h=>by simpa[xm,lw] using h.1.symm|a::b::r,_,h=>by have:=Ze.last (w:=b::r) (by simp) h.2;simpa[xm,lw] using this
theorem Wys.all(L:Wys es ws):∀(n:Nat){w:Y3},w.length=n->Way es w->w∈ws
 |0,w,h,W=>absurd (qx h) W.ne
 |n+1,w,h,W=>by
  obtain⟨u,k,rfl⟩:∃u k,w=u++[k]:=⟨w.dropLast,w.getLast W.ne,(vo W.ne).symm⟩;have G:k<es.length:=W.lt k (by simp)
  by_cases Z:u=[]
  .subst Z;exact L.one k G
  .have U:Way es u:=⟨Z,λi R=>W.lt i (ji _ R),W.ch.init⟩
   have m:=L.all n (by simpa using h) U;exact L.ext u m _ (di.mpr ⟨k,Ig.mpr ⟨G,Ze.last Z W.ch⟩,rfl⟩)
def Eu{g:Nat->D}(G:it.den W U M=.ok (.int (n:Int)) M1)(hn:n<=100000)(h:∀i,i<n->∃Z,t.put (.int i) (U++List.replicate k none)=some Z/\e.den W Z M1=.ok (g i) M1) :
 (Ex.comp v k t (.Mp it) e).den W U M=if v then .ok (.vl ((List.range n).map g)) M1 else new (.lst ((List.range n).map g)) M1:=by
 obtain⟨ys,M',a,rfl,rfl⟩:=Bt (v:=v) (k:=k) (t:=t) (e:=e) G hn (λi R M=>R=(List.range i).map g/\M=M1) ⟨rfl,rfl⟩ (λi R M hi hI=>by
  obtain⟨rfl,rfl⟩:=hI;obtain⟨Z,b,c⟩:=h i hi;exact⟨Z,_,_,b,c,by simp[yf],rfl⟩)
 exact a
def Nr(h:j9 M d=some ds):uq .len [d] M=.ok (.int ds.length) M:=by
 cases d with
 |tup l=>cases h;rfl|_=>simp only[MW.j9] at h;exact len_list h
def adk(hm:1<=m)(E:Ends es V)(hd:j9 M d=some (es.map aD)) :
 ∃Z M',prog.call m 31 [d] M=.ok (.ref M.length) M'/\M'[M.length]?=some (.lst (Z.map dq))/\Wys es Z/\m6 M M':=by
 rw[call_of hm rfl];have hn:es.length<=100000:=bj E.few (by decide)
 have c2:Cm.den (PW (m-1)) [some d,none,none,none] M=.ok (.ref M.length) (M++[.lst (((List.range es.length).map λk=>[k]).map dq)]):=by unfold Cm;rw[Eu (n:=es.length) (M1:=M) (g:=λk=>dq [k]) (by simp[Nr hd]) hn (λi hi=>⟨_,rfl,by simp[dq,nD]⟩)];simp[MW.new,gw,ik]
 obtain⟨qk,M',a,Z,b3,rfl,G,g2,U⟩:=Ez (c:=(Ex.cmp .lt (.v 2) (.l (.v 1))).den (PW (m-1))) (body:=Cj.den (PW (m-1)))
  (λn ρ M1=>∃(Z:List (List Nat))(i:Nat)(b3:Option D),ρ=[some d,sR M.length,sI i,b3]/\M1[M.length]?=some (.lst (Z.map dq))/\m6 M M1/\Wk es V Z i/\n=60-i)
  (fun ρ M1=>∃(Z:List (List Nat))(b3:Option D),ρ=[some d,sR M.length,sI Z.length,b3]/\M1[M.length]?=some (.lst (Z.map dq))/\m6 M M1/\Wys es Z)
  (λn ρ M1 hI=>by
   obtain⟨Z,i,b3,rfl,G,g2,U,rfl⟩:=hI;have hl:=len_list (jg G);rcases jo i Z.length with hi|hi
   .right
    obtain⟨w,hw⟩:∃w,Z[i]?=some w:=⟨_,dw hi⟩;have W:=U.way w (az hw);have R:=m6.j9 g2 hd;have x0:uo (.ref M.length) (.int i) M1=some (dq w):=Bc (jg G) (ir _) (by simp[hw]);have wl:=Gr E W;have c1:Ci.den (PW (m-1)) [some d,sR M.length,sI i,sI (xm es w)] M1=.ok (.vl ((ext es w).map dq)) M1:=by unfold Ci;rw[Sd (n:=es.length) (M1:=M1) (q:=λk=>decide ((at_ es k).1=xm es w)) (g:=λk=>dq (w++[k])) (by simp[Nr R]) hn (λj hj=>⟨_,rfl,by simp[J1 R hj,aD,W3],λ_=>by simp[x0,Hh w j (by lia)]⟩)];rw[<- adi];rfl
    have qq:=U.few;have el:Z.length+(ext es w).length<=60:=by
     rw[Zf es V hw] at qq;have b:=W5 E w;rw[<- Dp] at b
     lia
    refine⟨M1,.next,_,_,60-(i+1),?_,?_,.inl rfl,by have:=U.le;lia,Z++ext es w,i+1,sI (xm es w),rfl,oh G,m6.set g2 (bc _),?_,rfl⟩
    .simp[hl,hi]
    .have lst:=Th (M:=M1) W
     have e1:=J1 R W.Q9;simp only[Cj];simp[x0,lst,e1,aD,Tj G];rw[show(at_ es (lw w)).2=xm es w from rfl];simp[c1,abl G (ys:=(ext es w).map dq) (by simp;lia)]
    .exact U.step E hw
   .left
    have:i=Z.length:=by have:=U.le;lia
    subst this;exact⟨M1,by simp[hl],Z,b3,rfl,G,g2,U.end_⟩)
  Wn 60 [some d,sR M.length,sI 0,none] (M++[.lst (((List.range es.length).map λk=>[k]).map dq)]) (by decide)
  ⟨_,0,none,rfl,yl,m6.app _ _,Wk.start E,rfl⟩
 refine⟨Z,M',?_,G,U,g2⟩;simp only[Fn.run,Jb,Ja];simp[-List.map_map,c2,Gj,O2,a]
def adl(h:M[n]?=some (.lst G))(U:gj M y=some Z)(hr:Mt n y=true)(R:G.length+Z.length<100000):Dr .extend (.ref n) [y] M=.ok .non (M.set n (.lst (G++Z))):=by simp[Dr,onL,h,U,hr,R]
theorem Nt(E:Ends es V):∀Z:List (List Nat),Phi es V (Z.flatMap (ext es))<=(Z.map λw=>V (xm es w)).sum
 |[]=>by simp[Phi]
 |w::Z=>by
  have a:=W5 E w;have b:=Nt E Z;rw[List.flatMap_cons,ani,dg,List.sum_cons]
  lia
def Hc(r:Nat)(M Z:dm):Prop:=∀(a:Nat)(o:MO),a≠r->M[a]?=some o->Z[a]?=some o
def Hc.refl(r:Nat)(M:dm):Hc r M M:=λ_ _ _ h=>h
def Hc.trans(a:Hc r M Z)(b:Hc r Z M2):Hc r M M2:=λx o n h=>b x o n (a x o n h)
theorem Hc.set(r:Nat)(M:dm)(o:MO):Hc r M (M.set r o):=λa u n h=>by rw[jh (jr n)];exact h
theorem Hc.gj(k:Hc r M Z)(G:Mt r f=true)(h:gj M f=some ds):MW.gj Z f=some ds:=by
 cases f with
 |ref n =>
  have U:n≠r:=by simpa[Mt] using G
  cases e:M[n]? with
  |none=>simp[MW.gj,e] at h|some o=>cases o<;>simp[MW.gj,e] at h<;>subst h<;>simp[MW.gj,k n _ U e]
 |_=>exact h
def arf(hm:1<=m)(E:Ends es V)(hf:gj M f=some (ws.map dq))(hw:∀w∈ws,Way es w)(hp:Phi es V ws<=60)(hr:M[r]?=some (.lst []))(hk:Mt r f=true) :
 ∃Z G M',Hs.den (PW m) [some (.tup (es.map aD)),a1,some f,sR r,a4,a5] M=.ok (.next,[some (.tup (es.map aD)),a1,some f,sR r,Z,G]) M'/\M'[r]?=some (.lst ((ws.flatMap (ext es)).map dq))/\Hc r M M':=by
 unfold Hs;obtain⟨qk,M',a,Z,G,rfl,U,g2⟩:=xg (W:=PW m) (it:=.v 2) (t:=.name 4) (b:=Hr) (ρ:=[D.tup (es.map aD),a1,some f,sR r,a4,a5]) (M:=M) (M1:=M) rfl hf
  (λi ρ M1=>∃Z G:Option D,ρ=[some (.tup (es.map aD)),a1,some f,sR r,Z,G]/\M1[r]?=some (.lst (((ws.take i).flatMap (ext es)).map dq))/\Hc r M M1)
  ⟨a4,a5,rfl,by simpa using hr,Hc.refl r M⟩ (λi ρ M1 h=>by obtain⟨_,_,_,_,k⟩:=h;exact k.gj hk hf)
  (λi x ρ M1 hx hI=>by
   obtain⟨Z,G,rfl,U,g2⟩:=hI;obtain⟨w,R,rfl⟩:∃w,ws[i]?=some w/\dq w=x:=by simpa using hx
   have W:=hw w (az R);have qq:=(ak.mp R).1;have wl:=Gr E W;have c1:Hq.den (PW m) [some (.tup (es.map aD)),a1,some f,sR r,some (dq w),sI (xm es w)] M1=.ok (.vl ((ext es w).map dq)) M1:=by
    unfold Hq;rw[Sg (ds:=es.map aD) (M1:=M1) (q:=λk=>decide ((at_ es k).1=xm es w)) (g:=λk=>dq (w++[k])) rfl (by simpa using bj E.few (by decide)) (λj x hx=>by
     have hj:j<es.length:=by simpa using(ak.mp hx).1
     have ex:x=aD (at_ es j):=by simpa[Nq hj] using hx.symm
     subst ex;exact⟨_,rfl,by simp[aD,W3],λ_=>by simp[Hh w j (by lia)]⟩)]
    simp only[cz,adi,jz]
   have el:(((ws.take i).flatMap (ext es)).map dq).length+((ext es w).map dq).length<100000:=by
    have e1:(ws.take (i+1)).flatMap (ext es)=(ws.take i).flatMap (ext es)++ext es w:=by rw[kh,R];simp
    have e2:=Nt E (ws.take (i+1));rw[e1,<- Dp] at e2;have e3:((ws.take (i+1)).map λw=>V (xm es w)).sum<=Phi es V ws:=by
     rw[<- Dp,<- uh (i+1) ws,iz,List.sum_append]
     simp;lia
    rw[iy] at e2;rw[cz,cz]
    lia
   refine⟨_,.next,_,_,rfl,?_,.inl rfl,some (dq w),sI (xm es w),rfl,oh (o:=.lst (((ws.take (i+1)).flatMap (ext es)).map dq)) U,g2.trans (Hc.set r M1 _)⟩;simp only[Hr];simp[O5 hm (M:=M1) (d:=.tup (es.map aD)) rfl W,Tj U,c1,abl U el];rw[kh,R];simp)
 refine⟨Z,G,M',a,?_,g2⟩;simpa using U
def Zg(hm:2<=m)(E:Ends es V) :
 ∃(l:List D)(M':dm),prog.call m 13 [.tup (es.map aD)] M=.ok (.ref M.length) M'/\M'[M.length]?=some (.lst l)/\l.length<=60/\m6 M M':=by
 rw[call_of (bj (by decide) hm) rfl];have hn:es.length<=100000:=bj E.few (by decide)
 have c2:Bv.den (PW (m-1)) [some (.tup (es.map aD)),sR M.length,none,none,none,none] (M++[.lst []])=.ok (.vl (((List.range es.length).map λk=>[k]).map dq)) (M++[.lst []]):=by unfold Bv;rw[Eu (n:=es.length) (M1:=M++[.lst []]) (g:=λk=>dq [k]) (by simp[yx]) hn (λi hi=>⟨_,rfl,by simp[dq,nD]⟩)];simp[gw,ik]
 obtain⟨qk,M',a,l,b2,b3,R,U,rfl,g1,g2,g3⟩:=Ez (c:=(Ex.tru (.v 2)).den (PW (m-1))) (body:=Bu.den (PW (m-1)))
  (λn ρ G=>∃(Z:List (List Nat))(l:List D)(f:D)(b3 R U:Option D),ρ=[some (.tup (es.map aD)),sR M.length,some f,b3,R,U]/\G[M.length]?=some (.lst l)/\m6 M G/\gj G f=some (Z.map dq)/\Mt M.length f=true/\(∀w∈Z,Way es w)/\l.length+Phi es V Z<=60/\n=60-l.length)
  (fun ρ G=>∃(l:List D)(b2 b3 R U:Option D),ρ=[some (.tup (es.map aD)),sR M.length,b2,b3,R,U]/\G[M.length]?=some (.lst l)/\m6 M G/\l.length<=60)
  (λn ρ G hI=>by
   obtain⟨Z,l,f,b3,R,U,rfl,g1,g2,g3,g4,g5,g6,rfl⟩:=hI;have hs:=Dw g3
   by_cases hw:Z=[]
   .left
    subst hw;exact⟨G,by simp[hs],l,some f,b3,R,U,rfl,g1,g2,by lia⟩
   .right
    have Kp:=Dp es V Z;have qq:0<Z.length:=m7.mpr hw
    have x1:=adl g1 g3 g4 (by simp;lia);have k1:Hc M.length G (G.set M.length (.lst (l++Z.map dq))):=Hc.set _ _ _;have f1:=k1.gj g4 g3;generalize hM2:G.set M.length (.lst (l++Z.map dq))=M2 at x1 k1 f1;have t1:M2[M.length]?=some (.lst (l++Z.map dq)):=by rw[<- hM2];exact oh g1
    have f2:gj (M2++[.lst []]) f=some (Z.map dq):=(m6.app _ _).gj f1;have hr:Mt M2.length f=true:=by
     cases f with
     |ref n =>
      have:n<M2.length:=by
       cases e:M2[n]? with
       |none=>simp[MW.gj,e] at f1|some o=>exact t8 e
      simpa[Mt] using fu this
     |_=>rfl
    obtain⟨c4,c5,M3,e3,h3,k3⟩:=arf (m:=m-1) (a1:=sR M.length) (a4:=R) (a5:=U) (by lia) E f2 g5 (by lia) yl hr;have tl:M.length<M2.length:=t8 t1
    refine⟨G,.next,[some (.tup (es.map aD)),sR M.length,sR M2.length,sR M2.length,c4,c5],M3,60-(l++Z.map dq).length,?_,?_,.inl rfl,by simp;lia,Z.flatMap (ext es),l++Z.map dq,.ref M2.length,_,_,_,rfl,k3 _ _ (fu tl) (yz t1),?_,jg h3,?_,?_,?_,rfl⟩
    .simp[hs,hw]
    .simp only[Bu]
     simp[Tj g1,x1,MW.new,e3]
    .intro a o h
     have ha:=t8 h;have:=g2 a o h;refine k3 a o (by lia) (yz ?_);rw[<- hM2,jh (by lia)];exact this
    .simpa[Mt] using tu tl
    .intro u hu
     obtain⟨w,h1,h2⟩:=List.mem_flatMap.mp hu;exact W6 (g5 w h1) h2
    .have:=Nt E Z
     rw[iy,cz]
     lia)
  Wn 60 [some (.tup (es.map aD)),sR M.length,some (.vl (((List.range es.length).map λk=>[k]).map dq)),none,none,none] (M++[.lst []]) (by decide)
  ⟨_,[],_,none,none,none,rfl,yl,m6.app _ _,rfl,rfl,(Wk.start E).way,by
   have:=(Wk.start E).few;rw[List.drop_zero,Dp] at this;simpa using this,rfl⟩
 refine⟨l,M',?_,g1,g3,g2⟩;simp only[Fn.run,Ls,Lr];simp[-List.map_map,MW.new,c2,Ht,O2,a]
def aik(Z:j9 U d=some ds):∃s,srcOf U d=some s/\s.len=ds.length/\(∀M i,j9 M d=some ds->s.item i M=ds[i]?)/\∀M,j9 M d=some ds->s.fin M=true:=by
 cases d with
 |vl G=>cases Z;exact⟨.con ds,rfl,rfl,λ_ _ _=>rfl,λ_ _=>rfl⟩
 |tup G=>cases Z;exact⟨.con ds,rfl,rfl,λ_ _ _=>rfl,λ_ _=>rfl⟩
 |ref p =>
  have get:∀{M:dm},j9 M (.ref p)=some ds->M[p]?=some (.lst ds):=fun{M} h=>by
   cases e:M[p]? with
   |none=>simp[MW.j9,MW.gj,e] at h|some o=>cases o<;>simp[MW.j9,MW.gj,e] at h;subst h;rfl
  exact⟨.live p ds.length,by simp[srcOf,get Z],rfl,λM i h=>by simp[Src.item,get h],λM h=>by simp[Src.fin,get h]⟩
 |_=>cases Z
def Dh{U:Type}{f:U->D}{xs:List U}{q:U->Bool}{g:U->D}(qq:it.den W ρ M=.ok d M1)(hd:j9 M1 d=some (xs.map f))(hn:xs.length<=100000)
 (h:∀x∈xs,∃Z,t.put (f x) (ρ++List.replicate k none)=some Z/\c.den W Z M1=.ok (.bl (q x)) M1/\(q x=true->e.den W Z M1=.ok (g x) M1)) :
 (Ex.ym v k t (.val it) c e).den W ρ M=if v then .ok (.vl ((xs.filter q).map g)) M1 else new (.lst ((xs.filter q).map g)) M1:=by
 rw[Jr,Mw,qq];obtain⟨s,hs,hl,hi,hf⟩:=aik hd;simp only[Res.uv,hs,Res.ue];obtain⟨ys,R,g1,g2,rfl⟩:=Jq (fin:=s.fin) (item:=s.item) (body:=λd M=>(Res.qj (t.put d (ρ++List.replicate k none)) M).bind λG M=>(c.den W G M).bind λb R =>
  match b with
   |.bl true=>(e.den W G R).bind λx qk=>.ok (some x) qk
   |.bl false=>.ok none R|_=>.bad) (λi zs M=>zs=((xs.take i).filter q).map g/\M=M1) (n:=xs.length) (λi zs M Kl hI=>by
  obtain⟨rfl,rfl⟩:=hI;obtain⟨Z,a,b,c⟩:=h xs[i] (by simp);refine⟨f xs[i],if q xs[i] then some (g xs[i]) else none,M,by rw[hi M i hd];simp[Kl],?_,?_,rfl⟩
  .cases e:q xs[i] with
   |true=>simp only[a,Res.ue,Res.uv,b,e,c e,jz]|false=>simp only[a,Res.ue,Res.uv,b,e];rfl
  .rw[List.take_succ_eq_append_getElem Kl,List.filter_append,iz]
   cases e:q xs[i]<;>simp[e]) (λzs M h=>h.2▸hf M1 hd) xs.length 0 [] M1 (vm _) ⟨by simp,rfl⟩
 rw[List.nil_append,o6] at g2;subst g2;rw[zm,hl,cz,bx hn];exact nq (λr=>r.bind λds M2=>if v=true then Res.ok (.vl ds) M2 else new (.lst ds) M2) g1
def Cr{U:Type}{f:U->D}{xs:List U}{g:U->D}(G:it.den W ρ M=.ok d M1)(hd:j9 M1 d=some (xs.map f))(hn:xs.length<=100000)
 (h:∀x∈xs,∃Z,t.put (f x) (ρ++List.replicate k none)=some Z/\e.den W Z M1=.ok (g x) M1) :
 (Ex.comp v k t (.val it) e).den W ρ M=if v then .ok (.vl (xs.map g)) M1 else new (.lst (xs.map g)) M1:=by
 rw[O4,Mw,G];obtain⟨s,hs,hl,hi,hf⟩:=aik hd;simp only[Res.uv,hs,Res.ue];obtain⟨ys,M',g1,g2,rfl⟩:=Jq (fin:=s.fin) (item:=s.item) (body:=λd M=>(Res.qj (t.put d (ρ++List.replicate k none)) M).bind λR M=>(e.den W R M).bind λx M'=>.ok (some x) M') (λi zs M=>zs=(xs.take i).map g/\M=M1) (n:=xs.length) (λi zs M Kl hI=>by
  obtain⟨rfl,rfl⟩:=hI;obtain⟨Z,a,b⟩:=h xs[i] (by simp);exact⟨f xs[i],some (g xs[i]),M,by rw[hi M i hd];simp[Kl],by simp only[a,Res.ue,Res.uv,b],by rw[List.take_succ_eq_append_getElem Kl,iz];rfl,rfl⟩)
  (λzs M h=>h.2▸hf M1 hd) xs.length 0 [] M1 (vm _) ⟨by simp,rfl⟩
 rw[List.nil_append,o6] at g2;subst g2;rw[zm,hl,cz,bx hn];exact nq (λr=>r.bind λds M2=>if v=true then Res.ok (.vl ds) M2 else new (.lst ds) M2) g1
theorem adm(M:dm)(g:Nat):∀fs:List Nat,Mr M (.int g) (fs.map nD)=some (fs.map λf=>decide (f=g))
 |[]=>rfl
 |f::fs=>by
  have:um M (nD f) (.int g)=some (decide (f=g)):=Cq M 5 f g;simp only[dg,Mr,this,adm M g fs]
def ank(M:dm)(g:Nat)(fs:Y3):memD M (.int g) (fs.map nD)=some (decide (g∈fs)):=by
 rw[memD,adm,n8]
 congr 1
 induction fs with
 |nil=>simp
 |cons f fs Z =>
  by_cases h:f=g
  .simp[h]
  .simp only[dg,xq,Z,cj,id]
   simp[h,jr h]
def ate(h:e∈es):∃k,k<es.length/\at_ es k=e:=by obtain⟨k,G⟩:=mq.mp h;have Z:=(ak.mp G).1;refine⟨k,Z,?_⟩;have:=Nq Z;rw[G] at this;exact(gq this).symm
def J2(h:k<es.length):at_ es k∈es:=az (Nq h)
theorem ail(V:Nat->Nat):∀G:List Ar,G≠[]->∃e∈G,∀u∈G,V u.1<=V e.1
 |[],h=>absurd rfl h|[a],_=>⟨a,by simp,by simp⟩
 |a::b::r,_=>by
  obtain⟨e,R,U⟩:=ail V (b::r) (by simp)
  by_cases h:V a.1<=V e.1
  .exact⟨e,bh _ R,λu Z=>by rcases cj.mp Z with rfl|Z;exact h;exact U u Z⟩
  .exact⟨a,cg,λu Z=>by rcases cj.mp Z with rfl|Z;exact bc _;have:=U u Z;lia⟩
noncomputable def lft(Z:List Ar):List Ar:=Z.filter λe=>decide (e.1∈Z.map (·.2))
def ain(E:Ends es V)(U:∀e∈Z,e∈es)(hn:Z≠[]):(lft Z).length<Z.length:=by
 obtain⟨e,R,h2⟩:=ail V Z hn;refine List.length_filter_lt_length_iff_exists.mpr ⟨e,R,?_⟩;intro h;obtain⟨u,G,h4⟩:=di.mp (jj h);obtain⟨k,hk,rfl⟩:=ate (U u G);have a:=V_lt E hk;have b:=h2 _ G;rw[h4] at a
 lia
def anl(hm:1<=m)(E:Ends es V):∃M',prog.call m 5 [.tup (es.map aD)] M=.ok (.bl false) M'/\m6 M M':=by
 rw[call_of hm rfl];obtain⟨qk,M',a,b1,G,rfl,g2⟩:=Ez (c:=(Ex.cmp .ne (.v 2) (.l (.v 1))).den (PW (m-1))) (body:=Fp.den (PW (m-1)))
  (λn ρ M1=>∃(Z:List Ar)(f:D)(U:Int)(G:Option D),ρ=[some (.tup (es.map aD)),some f,sI U,G]/\m6 M M1/\j9 M1 f=some (Z.map aD)/\(∀e∈Z,e∈es)/\Z.length<=10/\(U=Z.length->Z=[])/\n=2*Z.length+if U=Z.length then 0 else 1)
  (fun ρ M1=>∃(b1 G:Option D),ρ=[some (.tup (es.map aD)),b1,sI 0,G]/\m6 M M1)
  (λn ρ M1 hI=>by
   obtain⟨Z,f,U,G,rfl,g2,g3,g4,g5,g6,rfl⟩:=hI;have hl:=Nr g3;rw[cz] at hl
   by_cases e:U=Z.length
   .left
    have qq:=g6 e;subst qq;exact⟨M1,by simp[hl,e],some f,G,by simp[e],g2⟩
   .right
    have c2:Fo.den (PW (m-1)) [some (.tup (es.map aD)),some f,sI Z.length,G] M1=.ok (.vl ((Z.map (·.2)).map nD)) M1:=by unfold Fo;rw[Cr (d:=f) (M1:=M1) (xs:=Z) (f:=aD) (g:=λe=>nD e.2) rfl g3 (by lia) (λx hx=>⟨_,rfl,by simp[aD,nD,Gy]⟩)];simp[gw,ik]
    have c1:Fl.den (PW (m-1)) [some (.tup (es.map aD)),some f,sI Z.length,some (.vl ((Z.map (·.2)).map nD))] M1=.ok (.vl ((lft Z).map aD)) M1:=by
     unfold Fl;rw[Dh (d:=f) (M1:=M1) (xs:=Z) (f:=aD) (q:=λe=>decide (e.1∈Z.map (·.2))) (g:=aD) rfl g3 (by lia) (λx hx=>⟨_,rfl,by
      have:=ank M1 x.1 (Z.map (·.2));simp[-List.map_map,aD,Ux,this],λ_=>by simp⟩)]
     rfl
    refine⟨M1,.next,[some (.tup (es.map aD)),some (.vl ((lft Z).map aD)),sI Z.length,some (.vl ((Z.map (·.2)).map nD))],M1,_,by simp[hl,e],?_,.inl rfl,?_,lft Z,_,Z.length,_,rfl,g2,rfl,λu hu=>g4 u ((uw.mp hu).1),?_,?_,rfl⟩
    .simp only[Fp]
     simp[-List.map_map,hl,c2,c1]
    .by_cases R:Z=[]
     .subst R;simp[lft] at e ⊢;simp[e]
     .have:=ain E g4 R
      simp only[e,jf];split<;>lia
    .exact bj (qp _ _) g5
    .intro h
     by_cases R:Z=[]
     .subst R;rfl
     .have:=ain E g4 R;lia)
  Wn _ [some (.tup (es.map aD)),sR M.length,sI (-1),none] (M++[.lst (es.map aD)]) (by have:=E.few;show _<1000000;split<;>lia)
  ⟨es,.ref M.length,-1,none,rfl,m6.app _ _,Dw (jg yl),λ_ h=>h,E.few,λh=>by lia,rfl⟩
 refine⟨M',?_,g2⟩;simp only[Fn.run,Nb,M9];simp[uq,MW.new,Jx,O2,a]
def Zh{Z:List Ar}{k:Nat}(U:1<=m)(G:j9 M d=some (Z.map aD)):prog.call m 8 [d,.int k] M=.ok (.bl (decide (k<Z.length))) M:=by rw[call_of U rfl];simp[Fn.run,Sq,Sh,Nr G]
theorem Vj{G:Type}:∀Z:List G,allB (Z.map λ_=>D.bl true)=some true
 |[]=>rfl|_::Z=>by simp[allB,Vj Z]
theorem Ze.zip:∀{w:Y3},Ze es w->∀p∈w.zip (w.drop 1),(at_ es p.1).2=(at_ es p.2).1
 |[],_,p,h=>by simp at h|[_],_,p,h=>by simp at h
 |a::b::r,c,p,h=>by
  simp only[List.drop_succ_cons,List.drop_zero,List.zip_cons_cons,cj] at h;rcases h with rfl|h
  .exact c.1
  .exact Ze.zip (w:=b::r) c.2 p (by simpa using h)
def aio(hm:2<=m)(Z:j9 M d=some (es.map aD))(qq:es.length<=10)(E:w.length<=60)(W:Way es w):prog.call m 9 [d,dq w] M=.ok (.bl true) M:=by
 rw[call_of (bj (by decide) hm) rfl];have c2:Lq.den (PW (m-1)) [some d,some (dq w)] M=.ok (.vl (w.map λ_=>.bl true)) M:=by
  unfold Lq;rw[Cr (d:=dq w) (M1:=M) (xs:=w) (f:=nD) (g:=λ_=>.bl true) rfl rfl (by lia) (λx U=>⟨_,rfl,by
   have:=Zh (m:=m-1) (k:=x) (by lia) Z;simp[nD,this,W.lt x U]⟩)]
  rfl
 have hl:1<=w.length:=m7.mpr W.ne
 have cu:Ms (dq w) (some 1) none M=some (dq (w.drop 1)):=by
  have:Jg (w.map nD) (some 1) none=(w.drop 1).map nD:=by
   have e:min 1 w.length=1:=by lia
   simp only[Jg,clip,cz];rw[bx (by decide),show(1:Int).toNat=1 from rfl,e,List.map_drop];exact vy (by simp)
  show some (D.tup (Jg (w.map nD) (some 1) none))=_;rw[this];rfl
 have zi:(Mg.zip (.p (.v 1) (.cut (.v 1) (.some (.i 1)) .none))).den (PW (m-1)) [some d,some (dq w)] M=.ok (.con (Qw (w.map nD) ((w.drop 1).map nD))) M:=by rw[ac6];simp only[Bl,Dt,ah1,ac5,Vf,Ve,Gi,Res.uv,cu,Res.ue];rfl
 have c1:Lp.den (PW (m-1)) [some d,some (dq w)] M=.ok (.vl ((w.zip (w.drop 1)).map λ_=>.bl true)) M:=by
  unfold Lp;rw[O4,zi];have ez:Qw (w.map nD) ((w.drop 1).map nD)=(w.zip (w.drop 1)).map λp=>.tup [nD p.1,nD p.2]:=by rw[Qw,List.zip_map,gw];rfl
  rw[ez,Res.uv,ang (g:=λ_=>.bl true) (by simp;lia) (λx U=>by
   obtain⟨p,G,rfl⟩:=di.mp U;have z:=W.ch.zip p G;have p1:=W.lt p.1 (ye G).1;have R:=W.lt p.2 (List.mem_of_mem_drop (ye G).2);simp[nD,Gy,J1 Z p1,J1 Z R,aD,z])]
  simp
 have O6:w.isEmpty=false:=by cases w<;>first|exact absurd rfl W.ne|rfl
 simp only[Fn.run,Y9,Y8];have t0:(Ex.ntr (.v 1)).den (PW (m-1)) [some d,some (dq w)] M=.ok (.bl false) M:=by show Res.qj (some (D.bl (w.map nD).isEmpty)) M=_;rw[List.isEmpty_map,O6];rfl
 simp[t0,-Ws,c2,c1,uq,Vj]
structure J5(es:List Ar)(a b:Y3):Prop where
 one:Way es a
 two:Way es b
 st:yu es a=yu es b
 go:xm es a=xm es b
def aip(hm:3<=m)(Z:j9 M d=some (es.map aD))(E:Ends es V)(B:J5 es a b):prog.call m 12 [d,dq a,dq b] M=.ok (.bl true) M:=by rw[call_of (bj (by decide) hm) rfl];have U:=aio (m:=m-1) (by lia) Z E.few (Gr E B.one) B.one;have h2:=aio (m:=m-1) (by lia) Z E.few (Gr E B.two) B.two;have R:=Lx (m:=m-1) (by lia) Z B.one;have h4:=Lx (m:=m-1) (by lia) Z B.two;have h5:=O5 (m:=m-1) (by lia) Z B.one;have G:=O5 (m:=m-1) (by lia) Z B.two;simp[Fn.run,Ng,Nf,U,h2,R,h4,h5,G,B.st,B.go]
inductive Gn where
 |same (a b:Y3)|apart (k:Nat)
noncomputable def sD(s:String):D:=.str (PySem.Str.ofString s)
def Gn.toD:Gn->D
 |.same a b=>.tup [.str (PySem.Str.ofString "same"),dq a,dq b]|.apart k=>.tup [.str (PySem.Str.ofString "apart"),.int (k:Nat)]
def Gd(Z:List Ar):Gn->Prop
 |.same a b=>J5 Z a b|.apart k=>k<Z.length
def aiq(G:4<=m)(Z:j9 M d=some (es.map aD))(E:Ends es V)(g:Gn)(h:Gd es g):prog.call m 7 [d,g.toD] M=.ok (.bl true) M:=by
 rw[call_of (bj (by decide) G) rfl];cases g with
 |same a b =>
  have:=aip (m:=m-1) (by lia) Z E h;simp[Fn.run,Ft,Fq,Gn.toD,this]
 |apart k =>
  have:=Zh (m:=m-1) (k:=k) (by lia) Z;have U:PySem.Str.ofString "apart"≠PySem.Str.ofString "same" := by decide
  simp[Fn.run,Ft,Fq,Gn.toD,this,U,show k<es.length from h]
def air(hm:2<=m)(E:Ends es V):∃M',prog.call m 4 [.tup (es.map aD)] M=.ok .non M'/\m6 M M':=by
 rw[call_of (bj (by decide) hm) rfl];obtain⟨M',a,k⟩:=anl (m:=m-1) (M:=M) (by lia) E;have lp:∃Z G:Option D,Fj.den (PW (m-1)) [some (.tup (es.map aD)),none,none] M=.ok (.next,[some (.tup (es.map aD)),Z,G]) M:=by
  unfold Fj;obtain⟨qq,U,e,Z,G,rfl,rfl⟩:=Dy (W:=PW (m-1)) (it:=.v 0) (t:=.names [1,2]) (b:=Fi) (ρ:=[D.tup (es.map aD),none,none]) (M:=M) (M1:=M) rfl
   (λ_ R U=>∃Z G:Option D,R=[some (.tup (es.map aD)),Z,G]/\U=M) ⟨none,none,rfl,rfl⟩ (λi x R U hx hI=>by
    obtain⟨Z,G,rfl,rfl⟩:=hI;obtain⟨e,h1,rfl⟩:∃e,es[i]?=some e/\aD e=x:=by simpa using hx
    have hs:=E.sm e (az h1);have s1:(e.1:Int)<=7:=by lia
    have s2:(e.2:Int)<=7:=by lia
    exact⟨_,.next,[some (.tup (es.map aD)),sI e.1,sI e.2],U,rfl,by simp[Fi,Gy,s1,s2],.inl rfl,_,_,rfl,rfl⟩)
  exact⟨Z,G,e⟩
 obtain⟨Z,G,e⟩:=lp;have p1:(1:Int)<=es.length:=by have:=E.pos;lia
 have p2:(es.length:Int)<=10:=by have:=E.few;lia
 refine⟨M',?_,k⟩;simp only[Fn.run,M8,Mz];simp[yx,p1,p2,e,a]
def anm{Z:List Gn}(hm:5<=m)(E:Ends es V)(hg:∀g∈Z,Gd es g)(hl:Z.length<=8):prog.call m 6 [.tup (es.map aD),.tup (Z.map Gn.toD)] M=.ok .non M:=by
 rw[call_of (bj (by decide) hm) rfl];have lp:∃G:Option D,Eg.den (PW (m-1)) [some (.tup (es.map aD)),some (.tup (Z.map Gn.toD)),none] M=.ok (.next,[some (.tup (es.map aD)),some (.tup (Z.map Gn.toD)),G]) M:=by
  unfold Eg;obtain⟨qq,U,e,G,rfl,rfl⟩:=Dy (W:=PW (m-1)) (it:=.v 1) (t:=.name 2) (b:=Ef) (ρ:=[D.tup (es.map aD),D.tup (Z.map Gn.toD),none]) (M:=M) (M1:=M) rfl
   (λ_ R U=>∃G:Option D,R=[some (.tup (es.map aD)),some (.tup (Z.map Gn.toD)),G]/\U=M) ⟨none,rfl,rfl⟩ (λi x R U hx hI=>by
    obtain⟨G,rfl,rfl⟩:=hI;obtain⟨g,h1,rfl⟩:∃g,Z[i]?=some g/\g.toD=x:=by simpa using hx
    have:=aiq (m:=m-1) (M:=U) (d:=.tup (es.map aD)) (by lia) rfl E g (hg g (az h1));exact⟨_,.next,[some (.tup (es.map aD)),some (.tup (Z.map Gn.toD)),some g.toD],U,rfl,by simp[Ef,this],.inl rfl,_,rfl,rfl⟩)
  exact⟨G,e⟩
 obtain⟨G,e⟩:=lp;have p:¬(8:Int)<Z.length:=by lia
 simp only[Fn.run,Kz,Ky];simp[yx,p,e]
structure Uv where
 es:List Ar
 gs:List Gn
 a:List Nat
 b:List Nat
def Uv.toD(s:Uv):D:=.tup [.tup (s.es.map aD),.tup (s.gs.map Gn.toD),.tup [dq s.a,dq s.b]]
structure Fy(s:Uv)(V:Nat->Nat):Prop where
 E:Ends s.es V
 gs:∀g∈s.gs,Gd s.es g
 few:s.gs.length<=8
 W7:J5 s.es s.a s.b
def Zi(hm:6<=m)(h:Fy s V):∃M',prog.call m 3 [s.toD] M=.ok .non M'/\m6 M M':=by
 rw[call_of (bj (by decide) hm) rfl];obtain⟨Z,R,k1⟩:=air (m:=m-1) (M:=M) (by lia) h.E;have e2:=anm (m:=m-1) (M:=Z) (by lia) h.E h.gs h.few;have e3:=aip (m:=m-1) (M:=Z) (d:=.tup (s.es.map aD)) (by lia) rfl h.E h.W7;obtain⟨l,M2,e4,U,l4,G⟩:=Zg (m:=m-1) (M:=Z) (by lia) h.E;have ll:=len_list (jg U);have p:¬(60:Int)<l.length:=by lia
 refine⟨M2,?_,k1.trans G⟩;simp only[Fn.run,Jw,Jv,Uv.toD];simp[R,e2,e3,e4,ll,p]
noncomputable def qt(r:X9):D:=.tup (r.map D.int)
def Jc(Z:List (List Int)):D:=.tup (Z.map qt)
noncomputable def u9(Z:List (List Int))(k:Nat):List Int:=Z.getD k []
noncomputable def Dd(r:X9)(x:Int):Int:=r.getD x.toNat 0
def stp(Z:List (List Int))(x:Int)(k:Nat):Int:=Dd (u9 Z k) x
def gone(Z:List (List Int))(w:Y3)(x:Int):Int:=w.foldl (stp Z) x
def Led(Z:List (List Int)):List Nat->Int->Prop
 |[],_=>True|k::r,x=>k<Z.length/\0<=x/\x<(u9 Z k).length/\Led Z r (stp Z x k)
def Ly{k:Nat}(Z:k<acts.length):uo (Jc acts) (.int k) M=some (qt (u9 acts k)) :=
 Jp (ir _) (by simp[u9,Z,List.getD])
def Ih{x:Int}{r:X9}(G:0<=x)(U:x<r.length):uo (qt r) (.int x) M=some (.int (Dd r x)):=by
 have Z:x.toNat<r.length:=by lia
 exact Jp G (by simp[Dd,List.getD,Z])
def ais{W:Kv}{E:Int->Option D->Env}{x:Int}{b:j8}(hb:∀(x:Int) (k:Nat) (M:dm),k<acts.length->0<=x->x<(u9 acts k).length->b.den W (E x (some (.int k))) M=.ok (.next,E (stp acts x k) (some (.int k))) M)
 (hp:∀x (b4:Option D) (d:D),(Tg.name j).put d (E x b4)=some (E x (some d))) (qq:it.den W (E x b4) M=.ok (dq w) M) (h:Led acts w x) :
 ∃Z,(zx.for_ (.name j) (.val it) b).den W (E x b4) M=.ok (.next,E (gone acts w x) Z) M:=by
 obtain⟨qk,G,e,Z,y,r,rfl,rfl,U,R,h3⟩:=Dy (W:=W) (it:=it) (t:=.name j) (b:=b) (ρ:=E x b4) (M:=M) (M1:=M) (ds:=w.map nD) qq
  (λi ρ G=>∃(Z:Option D)(y:Int)(r:Y3),ρ=E y Z/\G=M/\w.drop i=r/\Led acts r y/\gone acts r y=gone acts w x) ⟨b4,x,w,rfl,rfl,rfl,h,rfl⟩ (λi d ρ G hx hI=>by
   obtain⟨Z,y,r,rfl,rfl,U,R,h3⟩:=hI;obtain⟨k,hk,rfl⟩:∃k,w[i]?=some k/\nD k=d:=by simpa using hx
   obtain⟨hl,ek⟩:=ak.mp hk;rw[ql hl,ek] at U;subst U;exact⟨_,.next,_,G,hp y Z _,hb y k G R.1 R.2.1 R.2.2.1,.inl rfl,_,_,_,rfl,rfl,rfl,R.2.2.2,h3⟩)
 rw[cz,List.drop_length] at U;subst U;exact⟨Z,by rw[e,<- h3];rfl⟩
def ait(R:1<=m)(h:Led acts w x):prog.call m 30 [Jc acts,dq w,.int x] M=.ok (.int (gone acts w x)) M:=by
 rw[call_of R rfl];obtain⟨c4,e⟩:=ais (W:=PW (m-1)) (j:=4) (it:=.v 1) (b:=G4) (M:=M) (b4:=none) (E:=λy Z=>[some (Jc acts),some (dq w),some (.int x),some (.int y),Z])
  (λy k M hk U G=>by simp[G4,Ly hk,Ih U G,stp]) (λ_ _ _=>rfl) rfl h
 simp only[Fn.run,Qe,Qd,K7];simp[e]
def adn(R:1<=m)(h:Led acts w x):prog.call m 34 [Jc acts,dq w,.int x] M=.ok (.int (gone acts w x)) M:=by
 rw[call_of R rfl];obtain⟨c4,e⟩:=ais (W:=PW (m-1)) (j:=3) (it:=.v 1) (b:=G5) (M:=M) (b4:=none) (E:=λy Z=>[some (Jc acts),some (dq w),some (.int y),Z])
  (λy k M hk U G=>by simp[G5,Ly hk,Ih U G,stp]) (λ_ _ _=>rfl) rfl h
 simp only[Fn.run,Qg,Qf,La];simp[e]
noncomputable def mx(e:Ar):Nat:=if e.1<e.2 then e.2 else e.1
noncomputable def W8(l:Y3)(a:Nat):Nat:=l.foldl (λm x=>if m<x then x else m) a
def Ag(Z:List Ar):Nat:=match Z.map mx with|[]=>0|a::l=>W8 l a
theorem Vl:∀(l:Y3)(a:Nat),(l.map λ(x:Nat)=>(x:Int)).foldl (λm x=>if m<x then x else m) (a:Int)=(W8 l a:Nat)
 |[],a=>rfl
 |x::l,a=>by
  have e:(if(a:Int)<(x:Int) then(x:Int) else(a:Int))=((if a<x then x else a:Nat):Int):=by split<;>split<;>lia
  show(l.map λ(x:Nat)=>(x:Int)).foldl (λm x=>if m<x then x else m) (if(a:Int)<(x:Int) then(x:Int) else(a:Int))=_;rw[e,Vl l];rfl
theorem ado:∀(l:Y3)(a:Nat),a<=W8 l a/\∀x∈l,x<=W8 l a
 |[],a=>⟨bc _,by simp⟩
 |x::l,a=>by
  obtain⟨G,U⟩:=ado l (if a<x then x else a);refine⟨?_,λy Z=>?_⟩
  .show a<=W8 l _;split at G<;>lia
  .show y<=W8 l _
   rcases cj.mp Z with rfl|Z
   .split at G<;>lia
   .exact U y Z
def Lz(h:e∈es):e.1<=Ag es/\e.2<=Ag es:=by
 have m:mx e∈es.map mx:=di.mpr ⟨e,h,rfl⟩;have k:mx e<=Ag es:=by
  unfold Ag;cases q:es.map mx with
  |nil=>rw[q] at m;cases m
  |cons a l =>
   rw[q] at m;obtain⟨G,Z⟩:=ado l a;rcases cj.mp m with rfl|m
   .exact G
   .exact Z _ m
 unfold mx at k;split at k<;>exact⟨by lia,by lia⟩
theorem adp:∀l:List Nat,Vd (l.map nD)=some (l.map λ(x:Nat)=>(x:Int))
 |[]=>rfl|x::l=>by simp[Vd,nD,adp l]
def Zj(M:dm)(Z:j9 M d=some ((a::l).map nD)):uq .max [d] M=.ok (.int (W8 l a:Nat)) M:=by show Res.qj ((((j9 M d).bind Vd).bind am2).map D.int) M=_;rw[Z,w6,adp,w6,dg,am2,Vl];rfl
def abm{Z:List Ar}{y v:Nat}(R:ρ[v]?=some (some d))(G:ρ.length=y)(U:j9 M d=some (Z.map aD))(hl:Z.length<=10) :
 (Ex.comp true 1 (.name y) (.val (.v v)) (.blt .max (.o (.v y)))).den W ρ M=.ok (.vl ((Z.map mx).map nD)) M:=by
 subst G;rw[Cr (d:=d) (M1:=M) (xs:=Z) (f:=aD) (g:=λe=>nD (mx e)) (by simp[R]) U (by lia) (λx hx=>⟨_,rfl,by
  have g:((ρ++List.replicate 1 none).set ρ.length (some (aD x)))[ρ.length]?=some (some (aD x)):=uc (by simp);have e:uq .max [aD x] M=.ok (nD (mx x)) M:=by rw[Zj (a:=x.1) (l:=[x.2]) M rfl];rfl
  simp[g,e]⟩)]
 simp[gw,ik]
def abn(Z:es≠[]):uq .max [.vl ((es.map mx).map nD)] M=.ok (.int (Ag es:Nat)) M:=by
 unfold Ag;cases q:es.map mx with
 |nil=>exact absurd (List.map_eq_nil_iff.mp q) Z|cons a l=>exact Zj M rfl
def aiu(G:1<=m)(E:Ends es V)(Z:j9 M d=some (es.map aD)):prog.call m 25 [d] M=.ok (.int ((Ag es+1:Nat):Int)) M:=by rw[call_of G rfl];have U:es≠[]:=qm E.pos;have c:=abm (W:=PW (m-1)) (ρ:=[some d]) (v:=0) rfl rfl Z E.few;simp only[Fn.run,Qc,Qa];simp[-List.map_map,show K6.den (PW (m-1)) [some d] M=_ from c,abn U]
def Zk(U:List Ar)(G:X9)(Z:List (List Int))(k:Nat):Prop :=
 ((u9 Z k).length:Int)=Dd G (at_ U k).1/\∀x∈u9 Z k,0<=x/\x<Dd G (at_ U k).2
structure Sets(es:List Ar)(zs:X9)(acts:List (List Int)):Prop where
 n:zs.length=Ag es+1
 a:acts.length=es.length
 z:∀z∈zs,0<=z
 r:∀k,k<es.length->Zk es zs acts k
def Fz(e:Ar):uo (aD e) (.int 0) M=some (.int (e.1:Nat)):=Bd _ _
def Qj(e:Ar):uo (aD e) (.int 1) M=some (.int (e.2:Nat)):=Hm _ _ _
theorem Zm{G:Type}(q:G->Bool):∀Z:List G,allB (Z.map λx=>D.bl (q x))=some (Z.all q)
 |[]=>rfl|x::Z=>by simp[allB,Zm q Z]
def Tn{G:Type}(q:G->Bool)(Z:List G):uq .all [.vl (Z.map λx=>D.bl (q x))] M=.ok (.bl (Z.all q)) M:=by show Res.qj ((allB (Z.map λx=>D.bl (q x))).map D.bl) M=_;rw[Zm];rfl
def aiv{Z:X9}(E:Ends es V)(U:Z.length=Ag es+1)(G:k<es.length):(at_ es k).1<Z.length/\(at_ es k).2<Z.length:=by
 have:=Lz (J2 G)
 lia
def ano(hm:2<=m)(E:Ends es V)(hl:zs.length<=1000)(hr:∀r∈acts,(r:X9).length<=1000) :
 ∃b,prog.call m 27 [.tup (es.map aD),qt zs,Jc acts] M=.ok (.bl b) M/\(b=true↔Sets es zs acts):=by
 rw[call_of (bj (by decide) hm) rfl];have e0:=aiu (m:=m-1) (M:=M) (d:=.tup (es.map aD)) (by lia) E rfl;have R:uq .len [qt zs] M=.ok (.int zs.length) M:=by simp[qt,yx]
 have l2:uq .len [Jc acts] M=.ok (.int acts.length) M:=by simp[Jc,yx]
 have l3:uq .len [.tup (es.map aD)] M=.ok (.int es.length) M:=by simp[yx]
 have q1:((zs.length:Int)=(Ag es:Int)+1)↔zs.length=Ag es+1:=by lia
 have q2:((acts.length:Int)=(es.length:Int))↔acts.length=es.length:=by lia
 simp only[Fn.run,Tc,S8]
 by_cases Z:zs.length=Ag es+1
 case neg=>exact⟨false,by simp[e0,R,q1,Z],by simp;exact λh=>Z h.n⟩
 by_cases G:acts.length=es.length
 case neg=>exact⟨false,by simp[e0,R,q1,Z,l2,l3,q2,G],by simp;exact λh=>G h.a⟩
 have c2:Ib.den (PW (m-1)) [some (.tup (es.map aD)),some (qt zs),some (Jc acts),none,none] M=.ok (.vl (zs.map λz=>.bl (decide (0<=z)))) M:=by unfold Ib;rw[Cr (d:=qt zs) (M1:=M) (xs:=zs) (f:=D.int) (g:=λz=>.bl (decide (0<=z))) rfl rfl (by lia) (λx hx=>⟨_,rfl,by simp⟩)];rfl
 by_cases h3:(zs.all λz=>decide (0<=z))=true
 case neg =>
  have a:=Tn (M:=M) (λz:Int=>decide (0<=z)) zs;rw[Bool.eq_false_iff.mpr h3] at a;exact⟨false,by simp[e0,R,q1,Z,l2,l3,q2,G,c2,a],by simp;exact λh=>h3 (iw.mpr λz hz=>vh (h.z z hz))⟩
 have a3:=Tn (M:=M) (λz:Int=>decide (0<=z)) zs;rw[h3] at a3;have hz:∀z∈zs,0<=z:=λz hz=>jj (iw.mp h3 z hz)
 have lp:Goes (λi ρ M1=>∃b3 b4:Option D,ρ=[some (.tup (es.map aD)),some (qt zs),some (Jc acts),b3,b4]/\M1=M/\∀k,k<i->Zk es zs acts k) (λv M1=>v=.bl false/\M1=M/\∃k,k<es.length/\¬Zk es zs acts k) es.length (Ia.den (PW (m-1)) [some (.tup (es.map aD)),some (qt zs),some (Jc acts),none,none] M):=by
  unfold Ia;refine Wy (s:=.con (Qw (acts.map qt) (es.map aD))) (M1:=M) rfl (by simp[Src.len,Qw,G]) _ _ ⟨none,none,rfl,rfl,λk U=>absurd U (n6 _)⟩ (λ_ _ _=>rfl) (λi ρ M1 hi hI=>?_);obtain⟨b3,b4,rfl,rfl,U⟩:=hI;obtain⟨s1,s2⟩:=aiv E Z hi;have z1:uo (qt zs) (.int ((at_ es i).1:Nat)) M1=some (.int (Dd zs (at_ es i).1)):=Ih (ir _) (by lia);have z2:uo (qt zs) (.int ((at_ es i).2:Nat)) M1=some (.int (Dd zs (at_ es i).2)):=Ih (ir _) (by lia);have lr:uq .len [qt (u9 acts i)] M1=.ok (.int (u9 acts i).length) M1:=by simp[qt,yx]
  have rl:(u9 acts i).length<=1000:=hr _ (by
   have:i<acts.length:=by lia
   have e:acts[i]?=some (u9 acts i):=by simp[u9,List.getD,this]
   exact az e)
  refine⟨.tup [qt (u9 acts i),aD (at_ es i)],[some (.tup (es.map aD)),some (qt zs),some (Jc acts),some (qt (u9 acts i)),some (aD (at_ es i))],?_,rfl,?_⟩
  .have qq:i<acts.length:=by lia
   have e1:acts[i]?=some (u9 acts i):=by simp[u9,List.getD,qq]
   show(Qw (acts.map qt) (es.map aD))[i]?=_;rw[Qw,gf,List.getElem?_zip_eq_some (z:=(qt (u9 acts i),aD (at_ es i))).mpr ⟨by rw[gf,e1];rfl,by rw[gf,Nq hi];rfl⟩];rfl
  .have c1:Hz.den (PW (m-1)) [some (.tup (es.map aD)),some (qt zs),some (Jc acts),some (qt (u9 acts i)),some (aD (at_ es i))] M1=.ok (.vl ((u9 acts i).map λx=>.bl (decide (0<=x)&&decide (x<Dd zs (at_ es i).2)))) M1:=by
    unfold Hz;rw[Cr (d:=qt (u9 acts i)) (M1:=M1) (xs:=u9 acts i) (f:=D.int) (g:=λx=>.bl (decide (0<=x)&&decide (x<Dd zs (at_ es i).2))) rfl rfl (by lia) (λx hx=>⟨_,rfl,by
     by_cases h:0<=x<;>simp[h,Qj,z2]⟩)]
    rfl
   simp only[Np]
   by_cases r1:((u9 acts i).length:Int)=Dd zs (at_ es i).1
   case neg=>exact⟨.ret (.bl false),[some (.tup (es.map aD)),some (qt zs),some (Jc acts),some (qt (u9 acts i)),some (aD (at_ es i))],M1,by simp[lr,Fz,z1,r1],.inr ⟨_,rfl,rfl,rfl,i,hi,λh=>r1 h.1⟩⟩
   have a1:=Tn (M:=M1) (λx:Int=>decide (0<=x)&&decide (x<Dd zs (at_ es i).2)) (u9 acts i)
   by_cases r2:((u9 acts i).all λx=>decide (0<=x)&&decide (x<Dd zs (at_ es i).2))=true
   .rw[r2] at a1
    refine⟨.next,[some (.tup (es.map aD)),some (qt zs),some (Jc acts),some (qt (u9 acts i)),some (aD (at_ es i))],M1,by simp[lr,Fz,z1,r1,c1,a1],.inl ⟨rfl,_,_,rfl,rfl,λk qk=>?_⟩⟩;rcases jo k i with g|g
    .exact U k g
    .have:k=i:=by lia
     subst this;refine⟨r1,λx hx=>?_⟩;have:=iw.mp r2 x hx;simpa using this
   .rw[Bool.eq_false_iff.mpr r2] at a1
    exact⟨.ret (.bl false),[some (.tup (es.map aD)),some (qt zs),some (Jc acts),some (qt (u9 acts i)),some (aD (at_ es i))],M1,by simp[lr,Fz,z1,r1,c1,a1],.inr ⟨_,rfl,rfl,rfl,i,hi,λh=>r2 (iw.mpr λx hx=>by simpa using h.2 x hx)⟩⟩
 obtain⟨fl,qv,M',e,⟨rfl,b3,b4,rfl,rfl,U⟩|⟨v,rfl,rfl,rfl,k,U,hn⟩⟩:=lp
 .exact⟨true,by simp[e0,R,q1,Z,l2,l3,q2,G,c2,a3,e],by simp;exact⟨Z,G,hz,U⟩⟩
 .exact⟨false,by simp[e0,R,q1,Z,l2,l3,q2,G,c2,a3,e],by simp;exact λh=>hn (h.r k U)⟩
def adq{x:Int}{r:X9}(G:0<=x)(h:x<r.length):Dd r x∈r:=by
 have Z:x.toNat<r.length:=by lia
 have:r[x.toNat]?=some (Dd r x):=by simp[Dd,List.getD,Z]
 exact az this
theorem Sets.led(S:Sets es zs acts):∀{w:Y3}{x:Int},Way es w->0<=x->x<Dd zs (yu es w)->Led acts w x
 |[],_,W,_,_=>absurd rfl W.ne
 |[k],x,W,h0,h=>by
  have G:=W.lt k (by simp);have r:=S.r k G;have Z:x<Dd zs (at_ es k).1:=h
  exact⟨by have:=S.a;lia,h0,by rw[r.1];exact Z,trivial⟩
 |a::b::r,x,W,h0,h=>by
  have G:=W.lt a (by simp);have q:=S.r a G;have Z:x<Dd zs (at_ es a).1:=h
  have U:x<(u9 acts a).length:=by rw[q.1];exact Z
  have m:=q.2 _ (adq h0 U);have W':Way es (b::r):=⟨by simp,λi R=>W.lt i (bh _ R),W.ch.2⟩;exact⟨by have:=S.a;lia,h0,U,S.led W' m.1 (by
   have e:yu es (b::r)=(at_ es a).2:=W.ch.1.symm;rw[e];exact m.2)⟩
def Sets.size(S:Sets es zs acts)(W:Way es w):Dd zs (yu es w)=((u9 acts (hw w)).length:Int):=(S.r _ W.Et).1.symm
def Dz(Z:List (List Int))(n:Nat)(a b:Y3):Bool:=(List.range n).all λx=>decide (gone Z a x=gone Z b x)
def adt{n:Nat}(hm:2<=m)(S:Sets es zs acts)(B:J5 es a b)(Z:Dd zs (yu es a)=(n:Int))(hl:n<=1000):prog.call m 29 [Jc acts,.int n,dq a,dq b] M=.ok (.bl (Dz acts n a b)) M:=by
 rw[call_of (bj (by decide) hm) rfl];have c:Ie.den (PW (m-1)) [some (Jc acts),some (.int n),some (dq a),some (dq b)] M=.ok (.vl ((List.range n).map λ(x:Nat)=>.bl (decide (gone acts a x=gone acts b x)))) M:=by
  unfold Ie;rw[Eu (n:=n) (M1:=M) (g:=λ(x:Nat)=>.bl (decide (gone acts a x=gone acts b x))) rfl (by lia) (λi hi=>⟨_,rfl,by
   have G:=ait (m:=m-1) (M:=M) (by lia) (S.led (x:=(i:Int)) B.one (by lia) (by rw[Z];lia));have R:=ait (m:=m-1) (M:=M) (by lia) (S.led (x:=(i:Int)) B.two (by lia) (by rw[<- B.st,Z];lia));simp[G,R]⟩)]
  rfl
 have U:=Tn (M:=M) (λx:Nat=>decide (gone acts a x=gone acts b x)) (List.range n);simp only[Fn.run,Te,Td];simp[c,U,Dz]
theorem W9:∀l:List Int,Vd (l.map D.int)=some l
 |[]=>rfl|x::l=>by simp[Vd,W9 l]
def Vm{r:X9}(h:r.length<31):uq .Gx [qt r] M=.ok (.int ((yt r).length:Nat)) M:=by show Res.qj ((Vd (r.map D.int)).bind λis=>if is.length<31 then some (D.int (yt is).length) else none) M=_;rw[W9,w6,bx h];rfl
def Xa(U:List Ar)(G:X9)(Z:List (List Int)):Gn->Bool
 |.same a b=>Dz Z (Dd G (yu U a)).toNat a b|.apart k=>decide ((yt (u9 Z k)).length=(u9 Z k).length)
def Xb(S:Sets es zs acts)(G:k<es.length):u9 acts k∈acts:=by
 have Z:k<acts.length:=by rw[S.a];exact G
 have e:acts[k]?=some (u9 acts k):=by simp[u9,List.getD,Z]
 exact az e
def Tp(S:Sets es zs acts)(Z:∀r∈acts,(r:X9).length<31)(W:Way es w):Dd zs (yu es w)=((Dd zs (yu es w)).toNat:Int)/\(Dd zs (yu es w)).toNat<=1000:=by have h:=S.size W;have q:=Z _ (Xb S W.Et);rw[h];exact⟨by simp,by simp;lia⟩
def aiw(E:Ends es V)(S:Sets es zs acts)(W:Way es w):uo (qt zs) (.int (yu es w:Nat)) M=some (.int (Dd zs (yu es w))):=by have:=(aiv E S.n W.Et).1;exact Ih (ir _) (by unfold yu;lia)
def ayk(hm:3<=m)(E:Ends es V)(S:Sets es zs acts)(U:∀r∈acts,(r:X9).length<31)(g:Gn)(Z:Gd es g) :
 prog.call m 28 [.tup (es.map aD),qt zs,Jc acts,g.toD] M=.ok (.bl (Xa es zs acts g)) M:=by
 rw[call_of (bj (by decide) hm) rfl];simp only[Fn.run,adb,ada];cases g with
 |same a b =>
  have B:J5 es a b:=Z;obtain⟨G,e2⟩:=Tp S U B.one;have s:=adt (m:=m-1) (M:=M) (by lia) S B G e2;rw[<- G] at s;have w:=Lx (m:=m-1) (M:=M) (d:=.tup (es.map aD)) (by lia) rfl B.one;have ne:PySem.Str.ofString "same"≠PySem.Str.ofString "apart" := by decide
  simp[Gn.toD,ne,w,aiw E S B.one,s,Xa]
 |apart k =>
  have R:k<es.length:=Z
  have hl:k<acts.length:=by rw[S.a];exact R
  have lr:uq .len [qt (u9 acts k)] M=.ok (.int (u9 acts k).length) M:=by simp[qt,yx]
  simp[Gn.toD,Ly hl,Vm (U _ (Xb S R)),lr,Xa]
  lia
def Brk(s:Uv)(G:X9)(Z:List (List Int)):Prop :=
 Sets s.es G Z/\Dz Z (Dd G (yu s.es s.a)).toNat s.a s.b=false/\(s.gs.all (Xa s.es G Z))=true
def af6(hm:7<=m)(h:Fy s V)(hl:zs.length<=1000)(hr:∀r∈acts,(r:X9).length<31) :
 ∃b M',prog.call m 26 [s.toD,qt zs,Jc acts] M=.ok (.bl b) M'/\m6 M M'/\(b=true↔Brk s zs acts):=by
 rw[call_of (bj (by decide) hm) rfl];obtain⟨M1,U,R⟩:=Zi (m:=m-1) (M:=M) (by lia) h;obtain⟨b,e2,hb⟩:=ano (m:=m-1) (M:=M1) (acts:=acts) (by lia) h.E hl (λr h=>by have:=hr r h;lia);simp only[Fn.run,Zd,Zc];have G:∀M,uo s.toD (.int 0) M=some (.tup (s.es.map aD)):=λM=>Bd _ _
 have t1:∀M,uo s.toD (.int 1) M=some (.tup (s.gs.map Gn.toD)):=λM=>Hm _ _ _
 have t2:∀M,uo s.toD (.int 2) M=some (.tup [dq s.a,dq s.b]):=λM=>Q6 _ _ _ _
 cases b with
 |false=>exact⟨false,M1,by simp[U,G,e2],R,by simp;intro x;exact absurd (hb.mpr x.1) (by simp)⟩
 |true =>
  have S:=hb.mp rfl;obtain⟨n1,n2⟩:=Tp S hr h.W7.one;have w:=Lx (m:=m-1) (M:=M1) (d:=.tup (s.es.map aD)) (by lia) rfl h.W7.one;have z:=aiw (M:=M1) h.E S h.W7.one;have Z:=adt (m:=m-1) (M:=M1) (by lia) S h.W7 n1 n2;rw[<- n1] at Z;cases q:Dz acts (Dd zs (yu s.es s.a)).toNat s.a s.b with
  |true =>
   rw[q] at Z;exact⟨false,M1,by simp[U,G,t2,e2,w,z,Z],R,by simp;intro x;exact absurd x.2.1 (by simp[q])⟩
  |false =>
   rw[q] at Z;have c:Lw.den (PW (m-1)) [some s.toD,some (qt zs),some (Jc acts),some (.int (Dd zs (yu s.es s.a)))] M1=.ok (.vl (s.gs.map λg=>.bl (Xa s.es zs acts g))) M1:=by
    unfold Lw;rw[Cr (d:=.tup (s.gs.map Gn.toD)) (M1:=M1) (xs:=s.gs) (f:=Gn.toD) (g:=λg=>.bl (Xa s.es zs acts g)) (by simp[t1]) rfl (by have:=h.few;lia) (λg hg=>⟨_,rfl,by
     have:=ayk (m:=m-1) (M:=M1) (by lia) h.E S hr g (h.gs g hg);simp[G,this]⟩)]
    rfl
   have al:=Tn (M:=M1) (Xa s.es zs acts) s.gs;refine⟨s.gs.all (Xa s.es zs acts),M1,by simp[-List.all_eq_true,U,G,t2,e2,w,z,Z,c,al],R,?_⟩;exact⟨λa=>⟨S,q,a⟩,λx=>x.2.2⟩
def eq_nil(Z:List D):um M (.vl Z) (.vl [])=some Z.isEmpty:=by
 cases Z with
 |nil=>rfl|cons a l=>rfl
abbrev EB(s:Uv)(zs:X9)(acts:List (List Int))(b6 b7 b8 b9 b10 b11 b12 b13:Option D):Env :=
 [some s.toD,some (qt zs),some (Jc acts),some (.tup (s.es.map aD)),some (.tup (s.gs.map Gn.toD)),some (.tup [dq s.a,dq s.b]),b6,b7,b8,b9,b10,b11,b12,b13]
def inB(Z:X9)(e:Ar)(x:Int):Bool:=decide (0<=x)&&decide (x<Dd Z e.2)
def anq(E:Ends s.es V)(h1:zs.length=Ag s.es+1)(h2:acts.length=s.es.length)(hr:∀r∈acts,(r:X9).length<31) :
 Goes (λi ρ M1=>∃b6 b7:Option D,ρ=EB s zs acts b6 b7 none none none none none none/\M1=M/\∀k,k<i->Zk s.es zs acts k) (λv M1=>v=.bl false/\M1=M/\∃k,k<s.es.length/\¬Zk s.es zs acts k) s.es.length (Ay.den W (EB s zs acts none none none none none none none none) M):=by
 unfold Ay;refine Y7 (n:=s.es.length) (M1:=M) (by simp[yx]) (by have:=E.few;lia) _ _ ⟨none,none,rfl,rfl,λk hk=>absurd hk (n6 _)⟩ (λi ρ M1 R hI=>?_);obtain⟨b6,b7,rfl,rfl,hk⟩:=hI;obtain⟨s1,s2⟩:=aiv E h1 R;have Z:i<acts.length:=by lia
 have z1:uo (qt zs) (.int ((at_ s.es i).1:Nat)) M1=some (.int (Dd zs (at_ s.es i).1)):=Ih (ir _) (by lia);have z2:uo (qt zs) (.int ((at_ s.es i).2:Nat)) M1=some (.int (Dd zs (at_ s.es i).2)):=Ih (ir _) (by lia);have lr:uq .len [qt (u9 acts i)] M1=.ok (.int (u9 acts i).length) M1:=by simp[qt,yx]
 have rl:(u9 acts i).length<31:=hr _ (az (i:=i) (by simp[u9,List.getD,Z]))
 have U:=J1 (M:=M1) (d:=.tup (s.es.map aD)) (es:=s.es) rfl R;have c3:Ax.den W (EB s zs acts (sI i) (some (qt (u9 acts i))) none none none none none none) M1=.ok (.vl (((u9 acts i).filter λx=>!inB zs (at_ s.es i) x).map D.int)) M1:=by
  unfold Ax;rw[Dh (d:=qt (u9 acts i)) (M1:=M1) (xs:=u9 acts i) (f:=D.int) (q:=λx=>!inB zs (at_ s.es i) x) (g:=D.int) rfl rfl (by lia) (λx hx=>⟨_,rfl,by
   by_cases h:0<=x<;>simp[h,inB,U,Qj,z2],λ_=>by simp⟩)]
  rfl
 refine⟨_,rfl,?_⟩;simp only[El]
 by_cases G:((u9 acts i).length:Int)=Dd zs (at_ s.es i).1
 case neg=>exact⟨.ret (.bl false),EB s zs acts (sI i) (some (qt (u9 acts i))) none none none none none none,M1,by simp[Ly Z,lr,U,Fz,z1,G],.inr ⟨_,rfl,rfl,rfl,i,R,λh=>G h.1⟩⟩
 by_cases r2:((u9 acts i).filter λx=>!inB zs (at_ s.es i) x)=[]
 .refine⟨.next,EB s zs acts (sI i) (some (qt (u9 acts i))) none none none none none none,M1,by simp[Ly Z,lr,U,Fz,z1,G,c3,r2,eq_nil],.inl ⟨rfl,_,_,rfl,rfl,λk qq=>?_⟩⟩
  rcases jo k i with g|g
  .exact hk k g
  .have:k=i:=by lia
   subst this;refine⟨G,λx hx=>?_⟩;have:=List.filter_eq_nil_iff.mp r2 x hx;simpa[inB] using this
 .have e:(((u9 acts i).filter λx=>!inB zs (at_ s.es i) x).map D.int).isEmpty=false:=by
   cases q:((u9 acts i).filter λx=>!inB zs (at_ s.es i) x) with
   |nil=>exact absurd q r2|cons a l=>rfl
  refine⟨.ret (.bl false),EB s zs acts (sI i) (some (qt (u9 acts i))) none none none none none none,M1,by simp only[Y4,Dk];simp[-List.isEmpty_map,Ly Z,lr,U,Fz,z1,G,c3,eq_nil,e],.inr ⟨_,rfl,rfl,rfl,i,R,λh=>r2 (List.filter_eq_nil_iff.mpr λx hx=>by simpa[inB] using h.2 x hx)⟩⟩
theorem adu:∀(l:X9)(a:Int),l.foldl (λm x=>if x<m then x else m) a<0↔a<0\/∃x∈l,x<0
 |[],a=>by simp
 |x::l,a=>by
  rw[List.foldl_cons,adu l];constructor
  .rintro(h|⟨y,Z,G⟩)
   .split at h
    .exact .inr ⟨x,cg,h⟩
    .exact .inl h
   .exact .inr ⟨y,bh _ Z,G⟩
  .rintro(h|⟨y,Z,G⟩)
   .left;split<;>lia
   .rcases cj.mp Z with rfl|Z
    .left;split<;>lia
    .exact .inr ⟨y,Z,G⟩
def atf(Z:(zs:X9)≠[]):∃v:Int,uq .min [qt zs] M=.ok (.int v) M/\(v<0↔∃z∈zs,z<0):=by
 cases zs with
 |nil=>exact absurd rfl Z
 |cons a l =>
  refine⟨l.foldl (λm x=>if x<m then x else m) a,?_,?_⟩
  .show Res.qj (((Vd ((a::l).map D.int)).bind asu).map D.int) M=_
   rw[W9];rfl
  .rw[adu];simp
def aix(hm:1<=m){n:Nat}(S:Sets s.es zs acts)(B:J5 s.es a b)(E:Ends s.es V)(R:Dd zs (yu s.es a)=(n:Int))(hl:n<=1000) :
 ∃Z,Aq.den (PW m) (EB s zs acts b6 b7 b8 (some (dq a)) (some (dq b)) (some (.bl true)) b12 b13) M=.ok (.next,EB s zs acts b6 b7 b8 (some (dq a)) (some (dq b)) (some (.bl (Dz acts n a b))) Z b13) M:=by
 unfold Aq;have xe:=J1 (M:=M) (d:=.tup (s.es.map aD)) (es:=s.es) rfl B.one.Et;have z:=aiw (M:=M) E S B.one;obtain⟨qq,G,e,Z,rfl,rfl⟩:=Bo (W:=PW m) (n:=n) (M1:=M) (t:=.name 12) (b:=Ao) (ρ:=EB s zs acts b6 b7 b8 (some (dq a)) (some (dq b)) (some (.bl true)) b12 b13) (M:=M)
  (it:=.ix (.v 1) (.ix (.ix (.v 3) (.ix (.v 9) (.i 0))) (.i 0))) (by
   have r0:=Ti (M:=M) B.one;have z':uo (qt zs) (.int ((at_ s.es (hw a)).1:Nat)) M=some (.int n):=by rw[<- R];exact z
   simp[r0,xe,Fz,z']) (by lia)
  (λi U G=>∃Z:Option D,U=EB s zs acts b6 b7 b8 (some (dq a)) (some (dq b)) (some (.bl (Dz acts i a b))) Z b13/\G=M) ⟨b12,rfl,rfl⟩ (λi U G hi hI=>by
   obtain⟨Z,rfl,rfl⟩:=hI;have l1:=adn (m:=m) (M:=G) hm (S.led (x:=(i:Int)) B.one (by lia) (by rw[R];lia));have l2:=adn (m:=m) (M:=G) hm (S.led (x:=(i:Int)) B.two (by lia) (by rw[<- B.st,R];lia));refine⟨_,.next,EB s zs acts b6 b7 b8 (some (dq a)) (some (dq b)) (some (.bl (Dz acts (i+1) a b))) (sI i) b13,G,rfl,?_,.inl rfl,_,rfl,rfl⟩;have e:Dz acts (i+1) a b=(Dz acts i a b&&decide (gone acts a i=gone acts b i)):=by simp[Dz,yf]
   rw[e];simp only[Ao];cases q:Dz acts i a b<;>simp[l1,l2])
 exact⟨Z,e⟩
noncomputable def Uy:Gn->Bool
 |.same _ _=>true|.apart _=>false
noncomputable def pr:Gn->List Nat×List Nat
 |.same a b=>(a,b)|.apart _=>([],[])
def pD(p:List Nat×List Nat):D:=.tup [dq p.1,dq p.2]
def Uv.ps(s:Uv):List (List Nat×List Nat):=(s.gs.filter Uy).map pr++[(s.a,s.b)]
def smB(U:List Ar)(G:X9)(Z:List (List Int))(p:List Nat×List Nat):Bool:=Dz Z (Dd G (yu U p.1)).toNat p.1 p.2
def Xc:PySem.Str.ofString "apart"≠PySem.Str.ofString "same" := by decide
def aym(U:s.gs.length<=8)(G:b13=none):zb.den W (EB s zs acts b6 b7 b8 b9 b10 b11 b12 b13) M=.ok (.vl (((s.gs.filter Uy).map pr).map pD)) M:=by
 unfold zb;rw[Dh (d:=.tup (s.gs.map Gn.toD)) (M1:=M) (xs:=s.gs) (f:=Gn.toD) (q:=Uy) (g:=λg=>pD (pr g)) rfl rfl (by lia) (λg Z=>⟨_,rfl,by
  cases g<;>simp[Gn.toD,Uy,Xc],λh=>by
  cases g with
  | same a b=>simp[Gn.toD,pr,pD,Ms,Jg,clip]|apart k=>cases h⟩)]
 simp[gw,ik]
def ayn(Z:s.gs.length<=8)(S:Sets s.es zs acts)(hr:∀r∈acts,(r:X9).length<31)(U:∀g∈s.gs,Gd s.es g):An.den W (EB s zs acts b6 b7 b8 b9 b10 b11 b12 b13) M=.ok (.vl ((s.gs.filter λg=>!Uy g).map λg=>.bl (Xa s.es zs acts g))) M:=by
 unfold An;rw[Dh (d:=.tup (s.gs.map Gn.toD)) (M1:=M) (xs:=s.gs) (f:=Gn.toD) (q:=λg=>!Uy g) (g:=λg=>.bl (Xa s.es zs acts g)) rfl rfl (by lia) (λg hx=>⟨_,rfl,by
  cases g<;>simp[Gn.toD,Uy,Xc.symm],λh=>by
  cases g with
  |same a b=>cases h
  |apart k =>
   have G:k<s.es.length:=U _ hx
   have Z:k<acts.length:=by rw[S.a];exact G
   have R:uq .len [qt (u9 acts k)] M=.ok (.int (u9 acts k).length) M:=by simp[qt,yx]
   simp[Gn.toD,Ly Z,Vm (hr _ (Xb S G)),R,Xa]
   lia⟩)]
 rfl
def atg(h:Fy s V):∀p∈s.ps,J5 s.es p.1 p.2:=by
 intro p Z;rcases bz.mp Z with h1|h1
 .obtain⟨g,U,rfl⟩:=di.mp h1
  obtain⟨R,G⟩:=uw.mp U;have:=h.gs g R;cases g with
  |same a b=>exact this|apart k=>cases G
 .simp at h1;subst h1;exact h.W7
def anr(hm:1<=m)(h:Fy s V)(S:Sets s.es zs acts)(hr:∀r∈acts,(r:X9).length<31)(hq:M[q]?=some (.lst [])) :
 ∃R U G Z M',Aw.den (PW m) (EB s zs acts b6 b7 (sR q) none none none none none) M=.ok (.next,EB s zs acts b6 b7 (sR q) R U G Z none) M'/\M'[q]?=some (.lst (s.ps.map λp=>.bl (smB s.es zs acts p)))/\Hc q M M':=by
 unfold Aw;have pl:s.ps.length<=9:=by have a:=qp Uy s.gs;have b:=h.few;simp[Uv.ps];lia
 have it:(Ex.bin .add zb (.Ku (.o (.v 5)))).den (PW m) (EB s zs acts b6 b7 (sR q) none none none none none) M=.ok (.vl (s.ps.map pD)) M:=by have a:=qp Uy s.gs;have b:=h.few;have c:=aym (W:=PW m) (zs:=zs) (acts:=acts) (b6:=b6) (b7:=b7) (b8:=sR q) (b9:=none) (b10:=none) (b11:=none) (b12:=none) (b13:=none) (M:=M) h.few rfl;simp only[ac3,c,Res.uv,Mv,Bl,Dt];rw[show(Ex.v 5).den (PW m) (EB s zs acts b6 b7 (sR q) none none none none none) M=.ok (.tup [dq s.a,dq s.b]) M from rfl];simp only[Res.uv];rw[Kq _ _ (by simp;lia)];simp[Uv.ps,pD]
 obtain⟨qv,M',e,R,U,G,Z,rfl,g1,g2⟩:=xg (W:=PW m) (t:=.names [9,10]) (b:=Av) it (ds:=s.ps.map pD) rfl
  (λi ρ M1=>∃R U G Z:Option D,ρ=EB s zs acts b6 b7 (sR q) R U G Z none/\M1[q]?=some (.lst ((s.ps.take i).map λp=>.bl (smB s.es zs acts p)))/\Hc q M M1)
  ⟨none,none,none,none,rfl,by simpa using hq,Hc.refl q M⟩ (λ_ _ _ _=>rfl) (λi x ρ M1 hx hI=>by
   obtain⟨R,U,G,Z,rfl,g1,g2⟩:=hI;obtain⟨p,hp,rfl⟩:∃p,s.ps[i]?=some p/\pD p=x:=by simpa using hx
   have B:=atg h p (az hp);obtain⟨n1,n2⟩:=Tp S hr B.one;obtain⟨qq,e1⟩:=aix (m:=m) (M:=M1) (b6:=b6) (b7:=b7) (b8:=sR q) (b12:=Z) (b13:=none) hm S B h.E n1 n2;have qk:=(ak.mp hp).1;have tl:((s.ps.take i).map λp=>D.bl (smB s.es zs acts p)).length<100000:=by simp;lia
   refine⟨_,.next,EB s zs acts b6 b7 (sR q) (some (dq p.1)) (some (dq p.2)) (some (.bl (smB s.es zs acts p))) qq none,M1.set q (.lst ((s.ps.take i).map (λp=>D.bl (smB s.es zs acts p))++[.bl (smB s.es zs acts p)])),rfl,?_,.inl rfl,_,_,_,_,rfl,?_,g2.trans (Hc.set q M1 _)⟩
   .simp only[Av]
    simp only[Dk,O1,Gi,Res.uv,R8,Ln,Res.ue,Du,Y5,abh];rw[show((EB s zs acts b6 b7 (sR q) R U G Z none).set 9 (some (dq p.1))).set 10 (some (dq p.2))=EB s zs acts b6 b7 (sR q) (some (dq p.1)) (some (dq p.2)) G Z none from rfl];rw[show(EB s zs acts b6 b7 (sR q) (some (dq p.1)) (some (dq p.2)) G Z none).set 11 (some (.bl true))=EB s zs acts b6 b7 (sR q) (some (dq p.1)) (some (dq p.2)) (some (.bl true)) Z none from rfl,e1];simp[Gz g1,Dl g1 tl,smB]
   .rw[oh g1,kh,hp];simp)
 refine⟨R,U,G,Z,M',e,?_,g2⟩;simpa using g1
theorem aiz(M:dm)(g:Bool):∀bs:List Bool,Mr M (.bl g) (bs.map D.bl)=some (bs.map (·==g))
 |[]=>rfl|b::bs=>by simp only[dg,Mr,ayd,aiz M g bs]
def ayo(M:dm)(bs:List Bool):Ux M (.bl false) (.vl (bs.map D.bl))=some (!bs.all id):=by
 show memD M (.bl false) (bs.map D.bl)=_;rw[memD,aiz,n8]
 congr 1
 induction bs with
 |nil=>rfl|cons b bs Z=>cases b<;>simp_all
def ai0(xs:List D)(y:D):Jg (xs++[y]) none (some (-1))=xs:=by
 have h:(-1+((xs.length:Int)+1)).toNat=xs.length:=by lia
 simp only[Jg,clip,iy,d9,List.length_nil];rw[bw (by decide)];simp[h]
def ai1(h:M[q]?=some (.lst (Z++[y]))):uo (.ref q) (.int (-1)) M=some y:=by
 have e:Oz (Z++[y]).length (-1)=some Z.length:=by
  have U:-((Z++[y]).length:Int)<=-1:=by simp;lia
  have G:(-1+((Z++[y]).length:Int)).toNat=Z.length:=by simp;lia
  rw[Oz,bw (by decide),bx U,G]
 simp only[uo,h,jg h,ixL,e,w6];simp
def ai2(hm:2<=m)(h:Fy s V)(hl:zs.length<=1000)(hr:∀r∈acts,(r:X9).length<31) :
 ∃b M',prog.call m 35 [s.toD,qt zs,Jc acts] M=.ok (.bl b) M'/\m6 M M'/\(b=true↔Brk s zs acts):=by
 rw[call_of (bj (by decide) hm) rfl];have hn:s.es≠[]:=qm h.E.pos;have c4:zc.den (PW (m-1)) (EB s zs acts none none none none none none none none) M=.ok (.vl ((s.es.map mx).map nD)) M:=abm (v:=3) rfl rfl rfl h.E.few;have tp:=abn (M:=M) hn;have l1:uq .len [qt zs] M=.ok (.int zs.length) M:=by simp[qt,yx]
 have l2:uq .len [Jc acts] M=.ok (.int acts.length) M:=by simp[Jc,yx]
 have l3:uq .len [.tup (s.es.map aD)] M=.ok (.int s.es.length) M:=by simp[yx]
 have q1:((zs.length:Int)=1+(Ag s.es:Int))↔zs.length=Ag s.es+1:=by lia
 have q2:((acts.length:Int)=(s.es.length:Int))↔acts.length=s.es.length:=by lia
 have as:(zx.asg (.tg (.names [3,4,5])) (.v 0)).den (PW (m-1)) (some s.toD::some (qt zs)::some (Jc acts)::List.replicate 11 none) M=.ok (.next,EB s zs acts none none none none none none none none) M:=rfl;simp only[Fn.run,Gq,Gp];simp only[d9,List.length_nil,jz,dg,List.map_nil,List.cons_append,List.nil_append,Dk];rw[show(14-3:Nat)=11 from rfl,as];simp only[Du,Dk]
 by_cases h1:zs.length=Ag s.es+1
 case neg=>exact⟨false,M,by simp[-List.map_map,l1,c4,tp,q1,h1],m6.refl M,by simp;exact λx=>h1 x.1.n⟩
 have qk:=q1.mpr h1
 by_cases h2:acts.length=s.es.length
 case neg=>exact⟨false,M,by simp[-List.map_map,l1,c4,tp,qk,l2,l3,q2,h2],m6.refl M,by simp;exact λx=>h2 x.1.a⟩
 obtain⟨v,mn,hv⟩:=atf (M:=M) (zs:=zs) (qm (by lia))
 by_cases h3:v<0
 case pos =>
  obtain⟨z,z1,z2⟩:=hv.mp h3;exact⟨false,M,by simp[-List.map_map,l1,c4,tp,qk,l2,l3,q2,h2,mn,h3],m6.refl M,by simp;exact λx=>by have:=x.1.z z z1;lia⟩
 have hz:∀z∈zs,0<=z:=λz hz=>Int.not_lt.mp λg=>h3 (hv.mpr ⟨z,hz,g⟩)
 have qv:(Ex.or (.cmp .ne (.l (.v 1)) (.bin .add (.i 1) (.blt .max (.o zc)))) (.or (.cmp .ne (.l (.v 2)) (.l (.v 3))) (.cmp .lt (.blt .min (.o (.v 1))) (.i 0)))).den (PW (m-1)) (EB s zs acts none none none none none none none none) M=.ok (.bl false) M:=by simp[-List.map_map,l1,c4,tp,qk,l2,l3,q2,h2,mn,h3]
 rw[show(zx.f (Ex.or (.cmp .ne (.l (.v 1)) (.bin .add (.i 1) (.blt .max (.o zc)))) (.or (.cmp .ne (.l (.v 2)) (.l (.v 3))) (.cmp .lt (.blt .min (.o (.v 1))) (.i 0)))) (.o (.ret (.cst (.bl false))))).den (PW (m-1)) (EB s zs acts none none none none none none none none) M=.ok (.next,EB s zs acts none none none none none none none none) M by rw[Y4,qv];rfl];simp only[Du,Dk];obtain⟨fl,q5,Z,e,⟨rfl,b6,b7,rfl,rfl,hk⟩|⟨v,rfl,rfl,rfl,k,hk,hn⟩⟩:=anq (M:=M) (W:=PW (m-1)) (s:=s) h.E h1 h2 hr
 case inr=>exact⟨false,Z,by rw[e];simp,m6.refl Z,by simp;exact λx=>hn (x.1.r k hk)⟩
 have S:Sets s.es zs acts:=⟨h1,h2,hz,hk⟩;obtain⟨c9,q0,q4,q3,M2,e2,g1,g2⟩:=anr (m:=m-1) (M:=Z++[.lst []]) (q:=Z.length) (b6:=b6) (b7:=b7) (by lia) h S hr yl;have c1:=ayn (W:=PW (m-1)) (b6:=b6) (b7:=b7) (b8:=sR Z.length) (b9:=c9) (b10:=q0) (b11:=q4) (b12:=q3) (b13:=none) (M:=M2) h.few S hr h.gs;have al:(zx.a 8 (.lst .z)).den (PW (m-1)) (EB s zs acts b6 b7 none none none none none none) Z=.ok (.next,EB s zs acts b6 b7 (sR Z.length) none none none none none) (Z++[.lst []]):=rfl;rw[e];simp only[Du,Dk];rw[al];simp only[Du,Dk];rw[e2];simp only[Du,Dk,O1,c1,Res.uv,R8,Ln,Res.ue];obtain⟨G,hx⟩:∃G:List Bool,G=((s.gs.filter Uy).map pr).map (smB s.es zs acts):=⟨_,rfl⟩;obtain⟨R,hy⟩:∃R:List Bool,R=(s.gs.filter λg=>!Uy g).map (Xa s.es zs acts):=⟨_,rfl⟩;obtain⟨y,qq⟩:∃y:Bool,y=smB s.es zs acts (s.a,s.b):=⟨_,rfl⟩;have e3:(s.ps.map λp=>D.bl (smB s.es zs acts p))=G.map D.bl++[D.bl y]:=by simp[Uv.ps,hx,qq,gw,ik]
 have e4:((s.gs.filter λg=>!Uy g).map λg=>D.bl (Xa s.es zs acts g))=R.map D.bl:=by simp[hy,gw,ik]
 rw[e3] at g1;rw[e4];have lx:G.length<=8:=by have:=qp Uy s.gs;have:=h.few;simp[hx];lia
 have ly:R.length<=8:=by have:=qp (λg=>!Uy g) s.gs;have:=h.few;simp[hy];lia
 have cu:Ms (.ref Z.length) none (some (-1)) M2=some (.vl (G.map D.bl)):=by show(gj M2 (.ref Z.length)).map _=_;rw[jg g1,n8,ai0]
 have il:=ai1 g1;have ad:=Kq (M:=M2) (R.map D.bl) (G.map D.bl) (by simp;lia);rw[<- iz] at ad;have U:=ayo M2 (R++G);refine⟨(R++G).all id&&!y,M2,?_,?_,?_⟩
 .cases q:(R++G).all id with
  |true=>rw[q] at U;simp[-List.map_append,cu,il,ad,U]|false=>rw[q] at U;simp[-List.map_append,cu,il,ad,U]
 .intro a o ha
  exact g2 a o (fu (t8 ha)) (yz ha)
 .rw[ao,List.all_append,ao]
  have sp:∀gs:List Gn,(gs.all (Xa s.es zs acts)=true)↔(((gs.filter λg=>!Uy g).map (Xa s.es zs acts)).all id=true/\(((gs.filter Uy).map pr).map (smB s.es zs acts)).all id=true):=by
   intro gs
   induction gs with
   |nil=>simp
   |cons g gs ih =>
    rw[List.all_cons,ao,ih];cases g with
    |same a b =>
     simp only[List.filter_cons,Uy,xn,fc,jf,jz,dg,List.all_cons,pr,smB,Xa,id,ao];constructor
     .rintro⟨a,b,c⟩;exact⟨b,a,c⟩
     .rintro⟨a,b,c⟩;exact⟨b,a,c⟩
    |apart k =>
     simp only[List.filter_cons,Uy,Bool.not_false,fc,jf,jz,dg,List.all_cons,Xa,id,ao];constructor
     .rintro⟨a,b,c⟩;exact⟨⟨a,b⟩,c⟩
     .rintro⟨⟨a,b⟩,c⟩;exact⟨a,b,c⟩
  have:=sp s.gs;rw[<- hy,<- hx] at this;rw[<- this];constructor
  .rintro⟨a,b⟩
   exact⟨S,by rw[qq] at b;simpa[smB] using b,a⟩
  .rintro⟨_,b,a⟩
   exact⟨a,by rw[qq];simpa[smB] using b⟩
structure Sp where
 a:List Nat
 b:List Nat
 y:D
def Sp.toD(s:Sp):D:=.tup [dq s.a,dq s.b,s.y]
def Sp.of(s:Sp)(h t:Y3):Prop:=s.a=h/\s.b=t\/s.b=h/\s.a=t
inductive Em(ss:List Sp)(a:Y3):List Nat->Prop
 |refl:Em ss a a
 |step:Em ss a b->s∈ss->s.of b c->Em ss a c
theorem abo{U:Type}[DecidableEq U]:∀{f S:List U},f.Nodup->(∀p∈f,p∈S)->f.length<=S.length
 |[],S,_,_=>ig _
 |a::f,S,nd,h=>by
  have Z:=jy.mp nd;have G:=h a cg;have:=abo (f:=f) (S:=S.erase a) Z.2 (λp R=>(wg (λ(e:p=a)=>Z.1 (e▸R))).mpr (h p (bh _ R)));rw[List.length_erase_of_mem G] at this;have:=vq G;simp only[d9];lia
def ath(h:M[p]?=some (.lst xs)):Ux M a (.ref p)=memD M a xs:=by simp[Ux,h,j9,gj]
def Hc.get(k:Hc r M Z)(G:a≠r)(h:M[a]?=some o):Z[a]?=some o:=k a o G h
theorem adx:∀(l:Y3)(a:Nat),a<n->(∀x∈l,x<n)->W8 l a<n
 |[],a,h,_=>h
 |x::l,a,h,hl=>by
  show W8 l (if a<x then x else a)<n
  exact adx l _ (by have:=hl x cg;split<;>lia) (λy Z=>hl y (bh _ Z))
theorem Way.cons(W:Way es w)(G:k<es.length)(e:(at_ es k).2=yu es w):Way es (k::w):=by
 refine⟨by simp,λi Z=>?_,?_⟩
 .rcases cj.mp Z with rfl|h
  .exact G
  .exact W.lt i h
 .cases w with
  |nil=>exact absurd rfl W.ne|cons b r=>exact⟨e,W.ch⟩
def ati(h:w≠[]):hw (w++x)=hw w:=by
 cases w with
 |nil=>exact absurd rfl h|cons a l=>rfl
def Gs(h:w≠[]):yu es (w++x)=yu es w:=by rw[yu,ati h,yu]
def Nu(w:Y3)(k:Nat):xm es (w++[k])=(at_ es k).2:=by simp[xm,lw]
def Ea(h:w≠[]):xm es (k::w)=xm es w:=by
 cases w with
 |nil=>exact absurd rfl h|cons a l=>simp[xm,lw]
theorem J5.app(B:J5 es a b)(Z:k<es.length)(e:(at_ es k).1=xm es a):J5 es (a++[k]) (b++[k]) :=
 ⟨B.one.app Z e,B.two.app Z (e.trans B.go),by rw[Gs B.one.ne,Gs B.two.ne,B.st],by rw[Nu,Nu]⟩
theorem J5.cons(B:J5 es a b)(Z:k<es.length)(e:(at_ es k).2=yu es a):J5 es (k::a) (k::b) :=
 ⟨B.one.cons Z e,B.two.cons Z (e.trans B.st),rfl,by rw[Ea B.one.ne,Ea B.two.ne,B.go]⟩
def Em.bes(h:Em ss a b)(R:∀s∈ss,J5 es s.a s.b)(W:Way es a):J5 es a b:=by
 induction h with
 |refl=>exact⟨W,W,rfl,rfl⟩
 |step _ U G Z =>
  have B:=R _ U;rcases G with⟨rfl,rfl⟩|⟨rfl,rfl⟩
  .exact⟨W,B.two,Z.st.trans B.st,Z.go.trans B.go⟩
  .exact⟨W,B.one,Z.st.trans B.st.symm,Z.go.trans B.go.symm⟩
def atj(w:Y3)(k:Nat):lw (w++[k])=k:=by simp[lw]
def Way.off(W:Way es w)(G:1<w.length):Way es w.dropLast/\xm es w.dropLast=(at_ es (lw w)).1/\yu es w.dropLast=yu es w:=by
 obtain⟨u,k,rfl⟩:∃u k,w=u++[k]:=⟨w.dropLast,w.getLast W.ne,(vo W.ne).symm⟩;have Z:u≠[]:=by rintro rfl;simp at G
 rw[List.dropLast_concat,atj,Gs Z];exact⟨⟨Z,λi U=>W.lt i (ji _ U),W.ch.init⟩,(Ze.last Z W.ch).symm,rfl⟩
def Vn(w:Y3)(k:Nat)(Z:w.length<1000):Ba .add (.tup [.int k]) (dq w) M=.ok (dq (k::w)) M:=by rw[dq,O3 _ _ (by simp;lia)];simp[dq,nD]
def Em.trans(U:Em ss a b)(h2:Em ss b c):Em ss a c:=by
 induction h2 with
 |refl=>exact U|step _ G Z R=>exact .step R G Z
def Em.symm(h:Em ss a b):Em ss b a:=by
 induction h with
 |refl=>exact .refl
 |step _ R U ih =>
  refine Em.trans (.step .refl R ?_) ih;rcases U with⟨Z,G⟩|⟨Z,G⟩
  .exact .inr ⟨G,Z⟩
  .exact .inl ⟨G,Z⟩
def Em.more(h:Em ss a b):Em (ss++X) a b:=by
 induction h with
 |refl=>exact .refl|step _ Z G U=>exact .step U (ji _ Z) G
def Cv(G:List (List Nat))(Z:List Sp):Prop:=∃R:List (List Nat),(∀w∈G,∃r∈R,Em Z w r)/\R.length+Z.length<=60
theorem Cv.step(C:Cv G ss)(ha:x.a∈G)(hb:x.b∈G)(hn:¬Em ss x.a x.b):Cv G (ss++[x]):=by
 obtain⟨R,Z,h2⟩:=C;obtain⟨ra,a1,a2⟩:=Z _ ha;obtain⟨rb,U,b2⟩:=Z _ hb;have ne:ra≠rb:=by rintro rfl;exact hn (a2.trans b2.symm)
 refine⟨R.erase rb,λw hw=>?_,?_⟩
 .obtain⟨r,r1,r2⟩:=Z w hw
  by_cases e:r=rb
  .subst e
   refine⟨ra,(wg ne).mpr a1,?_⟩;have s1:Em (ss++[x]) x.b x.a:=.step .refl (fj _ cg) (.inr ⟨rfl,rfl⟩);exact(r2.more.trans b2.symm.more).trans (s1.trans a2.more)
  .exact⟨r,(wg e).mpr r1,r2.more⟩
 .rw[List.length_erase_of_mem U,iy]
  have:=vq U
  simp;lia
def Cv.len(C:Cv Z ss):ss.length<=60:=by obtain⟨R,_,h⟩:=C;lia
abbrev Cs:=List (Ar×Nat)
noncomputable def kv(Z:Cs):List (List Kx×D):=Z.map λc=>([.inl (c.1.1:Int),.inl (c.1.2:Int)],.ref c.2)
noncomputable def up(Z:Nat->List (List Nat))(a:Nat)(w:Y3)(b:Nat):List (List Nat):=if b=a then Z a++[w] else Z b
noncomputable def Mi(Z:Cs)(G:Nat->List (List Nat)):Nat:=(Z.map λc=>(G c.2).length).sum
def ai3{Z:Cs}(h:∀c∈Z,c.2≠a):Mi Z (up ct a w)=Mi Z ct:=by
 unfold Mi
 congr 1
 refine qi λc G=>?_
 simp[up,h c G]
theorem ai4:∀{Z:Cs},(Z.map (·.2)).Nodup->Mi Z (up ct a w)<=Mi Z ct+1
 |[],_=>ig _
 |c::Z,nd=>by
  rw[dg] at nd;have G:=jy.mp nd
  by_cases e:c.2=a
  .have:Mi Z (up ct a w)=Mi Z ct:=ai3 λx U q=>G.1 (by rw[e,<- q];exact di.mpr ⟨x,U,rfl⟩)
   show(up ct a w c.2).length+Mi Z (up ct a w)<=(ct c.2).length+Mi Z ct+1
   rw[this,e];simp[up];lia
  .have:=ai4 (ct:=ct) (a:=a) (w:=w) G.2
   show(up ct a w c.2).length+Mi Z (up ct a w)<=(ct c.2).length+Mi Z ct+1
   rw[show up ct a w c.2=ct c.2 by simp[up,e]];lia
def ai5{Z:Cs}:∀{c},c∈Z->(ct c.2).length<=Mi Z ct:=by
 induction Z with
 |nil=>intro c h;cases h
 |cons x l G =>
  intro c h;show _<=(ct x.2).length+Mi l ct
  rcases cj.mp h with rfl|h
  .lia
  .have:=G h;lia
def ayr(Z:Cs)(k:Ar):(∃c∈Z,c.1=k/\Bq (kv Z) [.inl (k.1:Int),.inl (k.2:Int)]=some (.ref c.2))\/Bq (kv Z) [.inl (k.1:Int),.inl (k.2:Int)]=none:=by
 induction Z with
 |nil=>exact .inr rfl
 |cons c Z ih =>
  by_cases e:c.1=k
  .subst e
   exact .inl ⟨c,cg,rfl,by simp[Bq,kv]⟩
  .have U:¬((c.1.1:Int)=k.1/\(c.1.2:Int)=k.2):=λq=>e (Prod.ext (by have:=q.1;lia) (by have:=q.2;lia))
   have hk:Bq (kv (c::Z)) [.inl (k.1:Int),.inl (k.2:Int)]=Bq (kv Z) [.inl (k.1:Int),.inl (k.2:Int)]:=by
    have:¬((Sum.inl (c.1.1:Int):Kx)=.inl k.1/\(Sum.inl (c.1.2:Int):Kx)=.inl k.2):=λq=>U ⟨Sum.inl.inj q.1,Sum.inl.inj q.2⟩
    have G:decide (([.inl (c.1.1:Int),.inl (c.1.2:Int)]:List Kx)=[.inl (k.1:Int),.inl (k.2:Int)])=false:=sy λq=>this ⟨(xr q).1,(xr (xr q).2).1⟩
    simp only[Bq,kv,dg,kj,G]
   rw[hk];rcases ih with⟨x,R,h2,h3⟩|h
   .exact .inl ⟨x,bh _ R,h2,h3⟩
   .exact .inr h
structure Rws(es:List Ar)(r q:Nat)(M M1:dm)(cs:Cs)(ct:Nat->List (List Nat))(n:Nat):Prop where
 g:M1[r]?=some (.dT (kv cs))
 c:∀c∈cs,q<c.2/\M1[c.2]?=some (.lst ((ct c.2).map dq))/\ct c.2≠[]/\∀w∈ct c.2,Way es w/\(yu es w,xm es w)=c.1
 nd:(cs.map (·.2)).Nodup
 z:Mi cs ct<=n
 l:cs.length<=n
 ne:0<n->cs≠[]
 k:m6 M M1
noncomputable def xK:Ex:=.bm .append (.bm .setdefault (.v 1) (.p (.tup (.p (.ix (.ix (.v 0) (.ix (.v 2) (.i 0))) (.i 0)) (.ix (.ix (.v 0) (.ix (.v 2) (.neg (.i 1)))) (.i 1)))) (.lst .z))) (.o (.v 2))
def Rws.step{G:Cs}{ct:Nat->List (List Nat)}(hd:j9 Z d=some (es.map aD))(R:Rws es r q M Z G ct n)(hr:M.length<=r)(hq:r<q)(qv:q<Z.length)(W:Way es w)(hn:n<=60) :
 ∃(qk:Cs)(q1:Nat->List (List Nat))(M':dm),xK.den (PW m) [some d,sR r,some (dq w),b3,b4,b5] Z=.ok .non M'/\Rws es r q M M' qk q1 (n+1)/\∀a o,a<=q->a≠r->Z[a]?=some o->M'[a]?=some o:=by
 have kt:Mq (.tup [.int (yu es w),.int (xm es w)])=some [.inl (yu es w:Int),.inl (xm es w:Int)]:=rfl;have e1:=Ti (M:=Z) W;have e2:=Th (M:=Z) W;have e3:=J1 hd W.Et;have e4:=J1 hd W.Q9;have rl:=t8 R.g;have r2:(Z++[.lst []])[r]?=some (.dT (kv G)):=yz R.g;have q0:Jm .setdefault (.ref r) Z=true:=by simp[Jm,R.g]
 have qq:∀{v:D}{M2:dm},Dr .setdefault (.ref r) [.tup [.int (yu es w),.int (xm es w)],.ref Z.length] (Z++[.lst []])=.ok v M2->Jm .append v M2=true->xK.den (PW m) [some d,sR r,some (dq w),b3,b4,b5] Z=Dr .append v [dq w] M2:=fun{v M2} h1 h2=>by simp[xK,q0,e1,e2,e3,e4,Fz,Qj,MW.new];rw[show(at_ es (hw w)).1=yu es w from rfl,show(at_ es (lw w)).2=xm es w from rfl,h1];simp[h2]
 rcases ayr G (yu es w,xm es w) with⟨c,h1,h2,h3⟩|h3
 .obtain⟨c1,c2,c3,c4⟩:=R.c c h1
  have cl:=t8 c2;have g2:(Z++[.lst []])[c.2]?=some (.lst ((ct c.2).map dq)):=yz c2;have s1:Dr .setdefault (.ref r) [.tup [.int (yu es w),.int (xm es w)],.ref Z.length] (Z++[.lst []])=.ok (.ref c.2) (Z++[.lst []]):=by simp only[Dr,onT,r2,kt];simp only at h3;simp only[h3]
  have zl:=ai5 (ct:=ct) h1;have zn:=R.z;refine⟨G,up ct c.2 w,(Z++[MO.lst []]).set c.2 (.lst ((ct c.2++[w]).map dq)),?_,⟨?_,λx hx=>?_,R.nd,bj (ai4 R.nd) (by lia),by have:=R.l;lia,λ_ q=>by rw[q] at h1;(cases h1),m6.set (m6.trans R.k (m6.app _ _)) (by lia)⟩,λa o h1 h2 h=>?_⟩
  .rw[qq s1 (Gz g2),Dl g2 (by simp;lia)]
   simp
  .rw[jh (by lia)];exact r2
  .obtain⟨x1,x2,x3,x4⟩:=R.c x hx
   by_cases e:x.2=c.2
   .have ek:x.1=c.1:=by
     rw[e] at x3 x4;obtain⟨u,U⟩:=List.exists_mem_of_ne_nil _ x3;rw[<- (x4 u U).2,(c4 u U).2]
    rw[e];refine⟨c1,by rw[oh g2];simp[up],by simp[up],λu U=>?_⟩;have U:u∈ct c.2++[w]:=by simpa[up] using U
    rcases bz.mp U with q|q
    .rw[ek];exact c4 u q
    .simp at q;subst q;exact⟨W,by rw[ek,h2]⟩
   .have:up ct c.2 w x.2=ct x.2:=by simp[up,e]
    rw[this];exact⟨x1,by rw[jh (jr e)];exact yz x2,x3,x4⟩
  .rw[jh (by lia)];exact yz h
 .have fr:∀c∈G,c.2≠Z.length:=λc hc=>by have:=t8 (R.c c hc).2.1;lia
  have s1:Dr .setdefault (.ref r) [.tup [.int (yu es w),.int (xm es w)],.ref Z.length] (Z++[.lst []])=.ok (.ref Z.length) ((Z++[MO.lst []]).set r (.dT (kv (G++[((yu es w,xm es w),Z.length)])))):=by
   have hl:(kv G).length<100000:=by have:=R.l;simp[kv];lia
   simp only[Dr,onT,r2,kt];simp only at h3;simp only[h3,hl,jz];simp[kv]
  have g3:((Z++[MO.lst []]).set r (.dT (kv (G++[((yu es w,xm es w),Z.length)]))))[Z.length]?=some (.lst []):=by rw[jh (by lia)];exact yl
  have same:Mi G (λb=>if b=Z.length then[w] else ct b)=Mi G ct:=by
   unfold Mi
   congr 1
   exact qi λc hc=>by simp[fr c hc]
  have zn:=R.z;refine⟨G++[((yu es w,xm es w),Z.length)],λb=>if b=Z.length then[w] else ct b,((Z++[MO.lst []]).set r (.dT (kv (G++[((yu es w,xm es w),Z.length)])))).set Z.length (.lst [dq w]),?_,⟨?_,λx hx=>?_,?_,?_,by have:=R.l;simp;lia,λ_=>by simp,m6.set (m6.set (m6.trans R.k (m6.app _ _)) hr) (by lia)⟩,λa o h1 h2 h=>?_⟩
  .rw[qq s1 (Gz g3),Dl g3 (by simp)]
   simp
  .rw[jh (by lia)];exact oh r2
  .rcases bz.mp hx with q|q
   .obtain⟨x1,x2,x3,x4⟩:=R.c x q
    simp only[fr x q,jf];exact⟨x1,by rw[jh (jr (fr x q)),jh (by lia)];exact yz x2,x3,x4⟩
   .simp at q;subst q
    simp only[jz];exact⟨qv,by rw[oh g3];rfl,by simp,λu U=>by simp at U;subst U;exact⟨W,rfl⟩⟩
  .rw[iz,mz]
   refine⟨R.nd,by simp,λa ha b hb=>?_⟩;simp at hb;subst hb;obtain⟨x,hx,rfl⟩:=di.mp ha;exact fr x hx
  .have:Mi (G++[((yu es w,xm es w),Z.length)]) (λb=>if b=Z.length then[w] else ct b)=Mi G (λb=>if b=Z.length then[w] else ct b)+1:=by simp[Mi]
   rw[this,same];lia
  .rw[jh (by lia),jh (jr h2)];exact yz h
def al2(hm:1<=m)(E:Ends es V)(hd:j9 M d=some (es.map aD))(hr:M[r]?=some (.dT []))(hM:m6 M0 M)(h0:M0.length<=r)(qv:j9 M0 d=some (es.map aD)) :
 ∃U cs G M',Am.den (PW m) [some d,sR r,none,none,none,none] M=.ok (.next,[some d,sR r,U,none,none,none]) M'/\Rws es r M.length M0 M' cs G 60:=by
 unfold Am;obtain⟨ws,M1,e1,g1,L,k1⟩:=adk (m:=m) (M:=M) (d:=d) hm E hd;have rl:=t8 hr;have fw:=L.few;obtain⟨q1,M',e,U,cs,G,rfl,R,-,-⟩:=xg (W:=PW m) (it:=.call 31 (.o (.v 0))) (t:=.name 2) (b:=Ek) (ρ:=[some d,sR r,none,none,none,none]) (M:=M) (M1:=M1) (d:=.ref M.length) (by simp[e1]) (jg g1)
  (λi ρ Z=>∃(U:Option D)(cs:Cs)(G:Nat->List (List Nat)),ρ=[some d,sR r,U,none,none,none]/\Rws es r M.length M0 Z cs G i/\Z[M.length]?=some (.lst (ws.map dq))/\j9 Z d=some (es.map aD))
  ⟨none,[],λ_=>[],rfl,⟨k1 _ _ hr,by simp,by simp,ig _,ig _,λh=>absurd h (n6 _),hM.trans k1⟩,g1,m6.j9 k1 hd⟩
  (λi ρ Z h=>by obtain⟨_,_,_,_,_,g,_⟩:=h;exact jg g)
  (λi z ρ Z hz hI=>by
   obtain⟨U,cs,G,rfl,R,g,q0⟩:=hI;obtain⟨w,hi,rfl⟩:∃w,ws[i]?=some w/\dq w=z:=by simpa using hz
   have il:=(ak.mp hi).1;obtain⟨qq,qk,M3,e3,R3,k3⟩:=R.step (m:=m) (b3:=none) (b4:=none) (b5:=none) q0 h0 rl (t8 g) (L.way w (az hi)) (by lia);refine⟨_,.next,[some d,sR r,some (dq w),none,none,none],M3,rfl,?_,.inl rfl,_,qq,qk,rfl,R3,k3 _ _ (bc _) (by lia) g,m6.j9 R3.k qv⟩;have e4:(zx.expr xK).den (PW m) [some d,sR r,some (dq w),none,none,none] Z=.ok (.next,[some d,sR r,some (dq w),none,none,none]) M3:=by rw[ac8,e3];rfl
   show(j8.o (.expr xK)).den (PW m) [some d,sR r,some (dq w),none,none,none] Z=_;rw[Dk,e4];rfl)
 rw[cz] at R;refine⟨U,cs,G,M',e,R.g,R.c,R.nd,bj R.z fw,bj R.l fw,λ_=>R.ne ?_,R.k⟩;have:=L.one 0 (by have:=E.pos;lia);exact vq this
structure Prs(es:List Ar)(p:Nat)(M M1:dm)(L:List (List Nat×List Nat))(n:Nat):Prop where
 g:M1[p]?=some (.lst (L.map pD))
 b:∀x∈L,J5 es x.1 x.2
 l:L.length<=n
 k:m6 M M1
abbrev EA(d:D)(r p:Nat)(b2 b4 b5:Option D):Env:=[some d,sR r,b2,sR p,b4,b5]
def al1{l:List (List Nat)}(hl:l.length<=60)(qq:l≠[])(hb:∀w∈l,Way es w/\(yu es w,xm es w)=c)(ha:U[a]?=some (.lst (l.map dq)))(qk:a≠p)(hp:M.length<=p)(P:Prs es p M U L n)(hn:n<=3600) :
 ∃R Z M',Aj.den (PW m) (EA d r p b2 (sR a) b5) U=.ok (.next,EA d r p b2 (sR a) R) M'/\Prs es p M M' Z (n+60*l.length)/\Z≠[]/\Hc p U M':=by
 unfold Aj;obtain⟨qv,M',e,R,Z,rfl,G,k',h'⟩:=xg (W:=PW m) (it:=.v 4) (t:=.name 5) (b:=za) (ρ:=EA d r p b2 (sR a) b5) (M:=U) (M1:=U) (d:=.ref a) rfl (jg ha)
  (λi ρ M2=>∃(R:Option D)(Z:List (List Nat×List Nat)),ρ=EA d r p b2 (sR a) R/\Prs es p M M2 Z (n+60*i)/\Hc p U M2/\(0<i->Z≠[]))
  ⟨b5,L,rfl,P,Hc.refl _ _,λh=>absurd h (n6 _)⟩
  (λi ρ M2 h=>by obtain⟨_,_,_,_,k,_⟩:=h;exact jg (k _ _ qk ha))
  (λi z ρ M2 hz hI=>by
   obtain⟨R,Z,rfl,G,k',h'⟩:=hI;obtain⟨w,hi,rfl⟩:∃w,l[i]?=some w/\dq w=z:=by simpa using hz
   have il:=(ak.mp hi).1;have a2:=k' _ _ qk ha;obtain⟨Ww,cw⟩:=hb w (az hi);have c1:Ai.den (PW m) (EA d r p b2 (sR a) (some (dq w))) M2=.ok (.vl ((l.map λu=>(w,u)).map pD)) M2:=by unfold Ai;rw[Cr (d:=.ref a) (M1:=M2) (xs:=l) (f:=dq) (g:=λu=>pD (w,u)) rfl (Dw (jg a2)) (by lia) (λu hu=>⟨_,rfl,by simp[pD]⟩)];simp[gw,ik]
   have lp:=G.l;refine⟨_,.next,EA d r p b2 (sR a) (some (dq w)),M2.set p (.lst ((Z++l.map λu=>(w,u)).map pD)),rfl,?_,.inl rfl,_,Z++l.map λu=>(w,u),rfl,⟨oh G.g,λx hx=>?_,by simp;lia,m6.set G.k hp⟩,k'.trans (Hc.set _ _ _),λ_=>by simp[qq]⟩
   .show za.den (PW m) (EA d r p b2 (sR a) (some (dq w))) M2=_
    simp only[za];simp[-List.map_map,Tj G.g,c1,abl G.g (ys:=(l.map λu=>(w,u)).map pD) (by simp;lia)]
   .rcases bz.mp hx with q|q
    .exact G.b x q
    .obtain⟨u,hu,rfl⟩:=di.mp q
     obtain⟨Wu,cu⟩:=hb u hu;have:=cw.trans cu.symm;exact⟨Ww,Wu,(Prod.ext_iff.mp this).1,(Prod.ext_iff.mp this).2⟩)
 rw[cz] at G h';exact⟨R,Z,M',e,G,h' (m7.mpr qq),k'⟩
def ai6(hm:2<=m)(E:Ends es V)(hd:j9 M d=some (es.map aD)) :
 ∃p L M',prog.call m 32 [d] M=.ok (.ref p) M'/\M.length<=p/\Prs es p M M' L 3600/\L≠[]:=by
 rw[call_of (bj (by decide) hm) rfl];obtain⟨b2,Z,ct,G,e1,R⟩:=al2 (m:=m-1) (M:=M++[.dT []]) (r:=M.length) (M0:=M) (by lia) E (m6.j9 (m6.app _ _) hd) yl (m6.app _ _) (bc _) hd;have rl:=t8 R.g;have q1:=R.z;have lp:∃b4 U L M',Al.den (PW (m-1)) (EA d M.length G.length b2 none none) (G++[.lst []])=.ok (.next,EA d M.length G.length b2 b4 U) M'/\Prs es G.length M M' L 3600/\L≠[]:=by
  unfold Al;have qv:(G++[.lst []])[M.length]?=some (.dT (kv Z)):=yz R.g;obtain⟨q0,M',e,b4,U,L,rfl,P,O6,-⟩:=as9 (W:=PW (m-1)) (it:=.vals (.v 1)) (t:=.name 4) (b:=Ak) (ρ:=EA d M.length G.length b2 none none) (M:=G++[.lst []]) (M1:=(G++[MO.lst []]).set M.length (.dF (kv Z))) (s:=.con (Z.map λc=>.ref c.2)) (n:=Z.length)
   (by
    have:ac2 (.ref M.length) (G++[.lst []])=.ok (.con (Z.map λc=>.ref c.2)) ((G++[MO.lst []]).set M.length (.dF (kv Z))):=by simp only[ac2,qv];simp[kv,gw,ik]
    rw[Yz,ah1];exact this) (by simp[Src.len])
   (λi ρ M2=>∃(b4 U:Option D)(L:List (List Nat×List Nat)),ρ=EA d M.length G.length b2 b4 U/\Prs es G.length M M2 L (60*Mi (Z.take i) ct)/\(0<i->L≠[])/\∀c∈Z,M2[c.2]?=some (.lst ((ct c.2).map dq)))
   ⟨none,none,[],rfl,⟨by rw[jh (by lia)];exact yl,by simp,ig _,m6.set (m6.trans R.k (m6.app _ _)) (bc _)⟩,λh=>absurd h (n6 _),λc hc=>by
    have:=(R.c c hc).1;rw[jh (by simp at this;lia)];exact yz (R.c c hc).2.1⟩ (λ_ _ _=>rfl)
   (λi ρ M2 hi hI=>by
    obtain⟨b4,U,L,rfl,P,O6,hc⟩:=hI;obtain⟨c,qk⟩:∃c,Z[i]?=some c:=⟨_,dw hi⟩;have qq:=az qk;obtain⟨c1,c2,c3,c4⟩:=R.c c qq;have cl:=ai5 (ct:=ct) qq;have tk:Mi (Z.take (i+1)) ct=Mi (Z.take i) ct+(ct c.2).length:=by rw[kh,qk];simp[Mi]
    have tl:Mi (Z.take (i+1)) ct<=Mi Z ct:=by
     have:Mi Z ct=Mi (Z.take (i+1)) ct+Mi (Z.drop (i+1)) ct:=by
      conv=>lhs;rw[<- uh (i+1) Z]
      unfold Mi;rw[iz,List.sum_append]
     lia
    have cne:∀x∈Z,x.2≠G.length:=λx hx=>by have:=t8 (R.c x hx).2.1;lia
    obtain⟨Gf,L',M3,e3,P3,n3,k3⟩:=al1 (m:=m-1) (d:=d) (r:=M.length) (b2:=b2) (b5:=U) (l:=ct c.2) (by lia) c3 c4 (hc c qq) (cne c qq) (t8 R.g |> λh=>by lia) P (by lia);refine⟨.ref c.2,EA d M.length G.length b2 (sR c.2) U,by simp[Src.item,qk],rfl,EA d M.length G.length b2 (sR c.2) Gf,M3,?_,_,Gf,L',rfl,⟨P3.g,P3.b,by have:=P3.l;rw[tk];lia,P3.k⟩,λ_=>n3,λx hx=>k3 _ _ (cne x hx) (hc x hx)⟩;simp only[Ak];simp[e3])
  exact⟨b4,U,L,M',e,⟨P.g,P.b,by have:=P.l;rw[o6] at this;lia,P.k⟩,O6 (m7.mpr (R.ne (by decide)))⟩
 obtain⟨b4,U,L,M',e,P,O6⟩:=lp;refine⟨G.length,L,M',?_,by lia,P,O6⟩;simp only[Fn.run,Gm,Gk];simp[MW.new,e1,e]
def Nv(U:1<=es.length)(h2:es.length<=10)(Z:∀e∈es,(e:Ar).1<=7/\e.2<=7)(R:∀v,v<8->((nxt es v).map λk=>1+V (at_ es k).2).sum<=V v)(h5:((List.range es.length).map λk=>1+V (at_ es k).2).sum<=60):Ends es V :=
 ⟨U,h2,Z,λv=>by
  rcases jo v 8 with h|h
  .exact R v h
  .have:nxt es v=[]:=List.eq_nil_iff_forall_not_mem.mpr λk hk=>by
    obtain⟨G,q2⟩:=Ig.mp hk;have:=(Z _ (J2 G)).1
    lia
   rw[this];exact ig _,h5⟩
noncomputable def Vk(l:Y3)(v:Nat):Nat:=l.getD v 0
noncomputable def kn:List (List Ar):=[[(0,1),(0,1),(1,2)],[(0,1),(1,2),(0,2),(2,3)],[(0,1),(0,2),(1,3),(2,3),(3,4)],[(0,1),(1,2),(0,3),(3,4),(1,4),(2,5),(4,5)],[(3,1),(3,1),(1,0),(1,0),(0,2)]]
def anu(h:es∈kn):∃V,Ends es V:=by
 simp only[kn,cj,wz,or_false] at h;rcases h with rfl|rfl|rfl|rfl|rfl
 .exact⟨Vk [4,1],Nv (by decide) (by decide) (by decide) (by decide+kernel) (by decide+kernel)⟩
 .exact⟨Vk [5,2,1],Nv (by decide) (by decide) (by decide) (by decide+kernel) (by decide+kernel)⟩
 .exact⟨Vk [6,2,2,1],Nv (by decide) (by decide) (by decide) (by decide+kernel) (by decide+kernel)⟩
 .exact⟨Vk [8,4,1,2,1],Nv (by decide) (by decide) (by decide) (by decide+kernel) (by decide+kernel)⟩
 .exact⟨Vk [1,4,0,10],Nv (by decide) (by decide) (by decide) (by decide+kernel) (by decide+kernel)⟩
structure Rnd(es:List Ar):Prop where
 r:∀e∈es,e.1<=3/\e.1<e.2/\e.2<=6
noncomputable def cn(Z:List Ar)(v:Nat):Nat:=(Z.filter λe=>decide (e.1=v)).length
def Pr(Z:List Ar):Nat->Nat
 |0=>(1+cn Z 0)*((1+cn Z 1)*((1+cn Z 2)*(1+cn Z 3)))|1=>(1+cn Z 1)*((1+cn Z 2)*(1+cn Z 3))|2=>(1+cn Z 2)*(1+cn Z 3)|3=>1+cn Z 3|_=>1
def ai7(es:List Ar):(List.range es.length).map (at_ es)=es:=by
 refine List.ext_getElem? λi=>?_
 rcases jo i es.length with h|h
 .simp[h,Nq]
  have:=Nq h;rw[dw h] at this;exact(gq this).symm
 .simp[h]
def atk(Z:List Ar)(v:Nat):(nxt Z v).length=cn Z v:=by
 have:(Z.filter λe=>decide (e.1=v))=(nxt Z v).map (at_ Z):=by
  conv=>lhs;rw[<- ai7 Z]
  rw[List.filter_map];rfl
 rw[cn,this,cz]
theorem ai8{f:Nat->Nat}:∀{l:Y3},(∀k∈l,f k<=b)->(l.map f).sum<=l.length*b
 |[],_=>by simp
 |a::l,h=>by
  have:=ai8 (l:=l) λk Z=>h k (bh _ Z)
  have:=h a cg;simp[Nat.add_mul];lia
def Cu{a b c:Nat}(h:c<=b):c<=(1+a)*b:=by
 have:b<=(1+a)*b:=by rw[Nat.add_mul];lia
 lia
theorem ai9(Z:List Ar):∀v,1<=Pr Z v
 |0=>Cu (Cu (Cu (by lia)))|1=>Cu (Cu (by lia))|2=>Cu (by lia)|3=>by show 1<=1+cn Z 3;lia
 |_+4=>bc _
theorem anv(Z:List Ar):∀v,Pr Z (v+1)<=Pr Z v
 |0=>Cu (bc _)|1=>Cu (bc _)|2=>Cu (bc _)|3=>ai9 Z 3|_+4=>bc _
theorem Xd(Z:List Ar):∀{u v:Nat},v<=u->Pr Z u<=Pr Z v
 |0,v,h=>by rw[Nat.le_zero.mp h];exact bc _
 |u+1,v,h=>by
  rcases jo v (u+1) with q|q
  .exact bj (anv Z u) (Xd Z (by lia))
  .have:v=u+1:=by lia
   rw[this];exact bc _
theorem atl(Z:List Ar):∀{v:Nat},v<=3->Pr Z v=(1+cn Z v)*Pr Z (v+1)
 |0,_=>rfl|1,_=>rfl|2,_=>rfl|3,_=>(Nat.mul_one _).symm
theorem abp:∀{es:List Ar},Rnd es->∀f:Nat->Nat,(es.map λe=>f e.1).sum=cn es 0*f 0+cn es 1*f 1+cn es 2*f 2+cn es 3*f 3
 |[],_,f=>by simp[cn]
 |e::es,R,f=>by
  have G:=abp (es:=es) ⟨λx Z=>R.r x (bh _ Z)⟩ f;have h:=(R.r e cg).1;have c:∀v,cn (e::es) v=cn es v+if e.1=v then 1 else 0:=λv=>by
   unfold cn
   by_cases q:e.1=v<;>simp[q]
  rw[dg,List.sum_cons,G,c,c,c,c];have:e.1=0\/e.1=1\/e.1=2\/e.1=3:=by lia
  rcases this with q|q|q|q<;>simp[q,Nat.add_mul]<;>lia
theorem ady:∀l:List Ar,(l.map λ_=>1).sum=l.length
 |[]=>rfl|_::l=>by rw[dg,List.sum_cons,ady l,d9];lia
def four:∀a,a<7->∀b,b<7->∀c,c<7->∀d,d<7->a+b+c+d<=6->a*((1+b)*((1+c)*(1+d)))+b*((1+c)*(1+d))+c*(1+d)+d<=60:=by decide+kernel
def aja(R:Rnd es)(h1:1<=es.length)(h2:es.length<=6):Ends es λv=>Pr es v-1:=by
 have pp:=ai9 es;have pe:∀v,1+(Pr es v-1)=Pr es v:=λv=>by have:=pp v;lia
 refine⟨h1,by lia,λe G=>by have:=R.r e G;lia,λv=>?_,?_⟩
 .simp only[pe]
  rcases jo 3 v with h|h
  .have:nxt es v=[]:=List.eq_nil_iff_forall_not_mem.mpr λk U=>by
    obtain⟨Z,q2⟩:=Ig.mp U;have:=(R.r _ (J2 Z)).1
    lia
   rw[this];exact ig _
  .have:=ai8 (f:=λk=>Pr es (at_ es k).2) (b:=Pr es (v+1)) (l:=nxt es v) λk U=>by
    obtain⟨Z,q2⟩:=Ig.mp U;have:=(R.r _ (J2 Z)).2.1;exact Xd es (by lia)
   rw[atk] at this;have e:=atl es h;rw[Nat.add_mul,Nat.one_mul] at e;have:=pp (v+1)
   lia
 .simp only[pe]
  have a:((List.range es.length).map λk=>Pr es (at_ es k).2).sum=(es.map λe=>Pr es e.2).sum:=by have:=nq (List.map λe=>Pr es e.2) (ai7 es);rw[gw] at this;exact nq List.sum this
  have b:∀l:List Ar,(∀e∈l,e∈es)->(l.map λe=>Pr es e.2).sum<=(l.map λe=>Pr es (e.1+1)).sum:=by
   intro l
   induction l with
   |nil=>intro _;simp
   |cons x l ih =>
    intro h;have:=ih λe G=>h e (bh _ G)
    have:=Xd es (show x.1+1<=x.2 from(R.r x (h x cg)).2.1)
    simp;lia
  have c:(es.map λe=>Pr es (e.1+1)).sum=cn es 0*Pr es 1+cn es 1*Pr es 2+cn es 2*Pr es 3+cn es 3*Pr es 4:=abp R λv=>Pr es (v+1)
  have d:=abp R λ_=>1
  rw[ady] at d;simp only[Nat.mul_one] at d;have:=b es λ_ h=>h
  rw[a];have g:=four (cn es 0) (by lia) (cn es 1) (by lia) (cn es 2) (by lia) (cn es 3) (by lia) (by lia);rw[c,show Pr es 1=(1+cn es 1)*((1+cn es 2)*(1+cn es 3)) from rfl,show Pr es 2=(1+cn es 2)*(1+cn es 3) from rfl,show Pr es 3=1+cn es 3 from rfl,show Pr es 4=1 from rfl,Nat.mul_one] at this;exact bj this g
def Has.lt(h:Has t f M):t<M.length:=by obtain⟨n,h,_⟩:=h;exact t8 h
theorem St.set(S:St t f M Z)(R:M.length<=p)(ht:t<M.length):St t f M (Z.set p o):=by obtain⟨n,h,U⟩:=S.has;exact⟨by simpa using S.len,⟨n,by rw[jh (by lia)];exact h,U⟩,λa u G e=>by rw[jh (by have:=t8 e;lia)];exact S.keep a u G e⟩
def St.keep'(S:St t f M Z)(k:m6 Z M2):St t f M M2:=S.trans (.of S.has k)
theorem St.refl(h:Has t f M):St t f M M:=.of h (m6.refl M)
abbrev EY(t:Nat)(b1 b2 b3 b4 b5 b6 b7 b8:Option D):Env:=[sR t,b1,b2,b3,b4,b5,b6,b7,b8]
theorem ayt(M:dm):∀{v:Nat},v<4->∃z:Nat,uo (.vl [.int 1,.int 1,.int 2,.int 3]) (.int v) M=some (.int z)/\1<=z/\z<=3
 |0,_=>⟨1,rfl,by decide,by decide⟩|1,_=>⟨1,rfl,by decide,by decide⟩|2,_=>⟨2,rfl,by decide,by decide⟩|3,_=>⟨3,rfl,by decide,by decide⟩
def sy1(hm:1<=m)(hs:Has t f M)(hp:M1[p]?=some (.lst []))(S:St t f M M1)(hl:M.length<=p) :
 ∃Z U G M',Bj.den (PW m) (EY t (sR p) none none none none none none none) M1=.ok (.next,EY t (sR p) U G none none none none none) M'/\M'[p]?=some (.lst (Z.map aD))/\Rnd Z/\1<=Z.length/\Z.length<=6/\St t f M M':=by
 unfold Bj;obtain⟨v,M2,e2,hv,s2,l2⟩:=zp (m:=m) (many:=6) hm S.has (by decide) (by decide);have tl:=hs.lt;obtain⟨qq,M',e,Z,U,G,rfl,g1,g2,g3,R⟩:=Bo (W:=PW m) (n:=1+v) (M1:=M2) (t:=.name 2) (b:=Bh) (ρ:=EY t (sR p) none none none none none none none) (M:=M1) (it:=.bin .add (.i 1) (.call 2 (.p (.v 0) (.i 6)))) (by
  simp[e2]) (by lia) (λi ρ M3=>∃(Z:List Ar)(U G:Option D),ρ=EY t (sR p) U G none none none none none/\M3[p]?=some (.lst (Z.map aD))/\Rnd Z/\Z.length=i/\St t f M M3) ⟨[],none,none,rfl,s2.keep _ _ (by lia) hp,⟨by simp⟩,rfl,S.trans s2⟩ (λi ρ M3 hi hI=>by
  obtain⟨Z,U,G,rfl,g1,g2,g3,R⟩:=hI;obtain⟨a,M4,e4,h4,s4,_⟩:=zp (m:=m) (many:=4) hm R.has (by decide) (by decide);obtain⟨c,M5,e5,h5,s5,_⟩:=zp (m:=m) (many:=4) hm s4.has (by decide) (by decide);obtain⟨z,e6,z1,z2⟩:=ayt M5 (v:=c) (by lia);obtain⟨x,M7,e7,h7,s7,_⟩:=zp (m:=m) (many:=z) hm s5.has (by lia) (by lia);have S7:St t f M M7:=((R.trans s4).trans s5).trans s7;have p4:M4[p]?=some (.lst (Z.map aD)):=s4.keep _ _ (by lia) g1;have p7:M7[p]?=some (.lst (Z.map aD)):=s7.keep _ _ (by lia) (s5.keep _ _ (by lia) p4);have ei:((a:Int)+1+(x:Int))=((a+1+x:Nat):Int):=by lia
  refine⟨_,.next,EY t (sR p) (sI i) (sI a) none none none none none,M7.set p (.lst ((Z++[(a,a+1+x)]).map aD)),rfl,?_,.inl rfl,Z++[(a,a+1+x)],_,_,rfl,oh p7,⟨λe he=>?_⟩,by simp;lia,S7.set hl tl⟩
  .show Bh.den (PW m) (EY t (sR p) (sI i) G none none none none none) M3=_
   simp only[Bh];simp[e4,Gz p4,e5,e6,e7,Dl p7 (d:=.tup [.int (a:Int),.int ((a:Int)+1+(x:Int))]) (by simp;lia),aD]
  .rcases bz.mp he with q|q
   .exact g2.r e q
   .simp at q;subst q
    exact⟨by show a<=3;lia,by show a<a+1+x;lia,by show a+1+x<=6;lia⟩)
 exact⟨Z,U,G,M',e,g1,g2,by lia,by lia,R⟩
def sy2(hm:1<=m)(S:St t f M U)(tl:t<M.length)(hd:∀M2,St t f M M2->j9 M2 d=some (es.map aD))(E:Ends es V) :
 ∃(Z:List Gn)(G:dm),Bg.den (PW m) (EY t (some d) b2 b3 b4 b5 none none none) U=.ok (.ref G.length) (G++[.lst (Z.map Gn.toD)])/\(∀g∈Z,Gd es g)/\Z.length<=3/\St t f M G/\U.length<=G.length/\(∀a o,a≠t->U[a]?=some o->G[a]?=some o):=by
 unfold Bg;obtain⟨v,M2,e2,hv,s2,l2⟩:=zp (m:=m) (many:=4) hm S.has (by decide) (by decide);have hf:=E.few;have hp:=E.pos;obtain⟨ys,G,e,Z,rfl,h1,h2,h3,h4,h5⟩:=Bt (W:=PW m) (v:=false) (k:=1) (n:=v) (M1:=M2) (t:=.name 9) (e:=.tup (.p (.cst (.str (PySem.Str.ofString "apart"))) (.call 2 (.p (.v 0) (.l (.v 1)))))) (ρ:=EY t (some d) b2 b3 b4 b5 none none none) (M:=U) (it:=.call 2 (.p (.v 0) (.i 4))) (by simp[e2]) (by lia)
  (λi xs R=>∃Z:List Gn,xs=Z.map Gn.toD/\(∀g∈Z,Gd es g)/\Z.length=i/\St t f M R/\U.length<=R.length/\(∀a o,a≠t->U[a]?=some o->R[a]?=some o)) ⟨[],rfl,by simp,rfl,S.trans s2,s2.len,s2.keep⟩ (λi xs R hi hI=>by
   obtain⟨Z,rfl,h1,h2,h3,h4,h5⟩:=hI;have ll:=Nr (hd R h3);rw[cz] at ll;obtain⟨k,M4,e4,hk,s4,_⟩:=zp (m:=m) (many:=es.length) hm h3.has (by lia) (by lia);refine⟨_,Gn.toD (.apart k),M4,rfl,?_,Z++[.apart k],by simp,λg hg=>?_,by simp;lia,h3.trans s4,bj h4 s4.len,λa o n h=>s4.keep a o n (h5 a o n h)⟩
   .simp[ll,e4,Gn.toD]
   .rcases bz.mp hg with q|q
    .exact h1 g q
    .simp at q;subst q;exact Int.ofNat_lt.mp hk)
 exact⟨Z,G,e,h1,by lia,h3,h4,h5⟩
def ajb(x:List Nat×List Nat):Ba .add (.tup [.str (PySem.Str.ofString "same")]) (pD x) M=.ok (Gn.toD (.same x.1 x.2)) M:=by rw[pD,O3 _ _ (by simp)];rfl
def sy0{gs:List Gn}(hm:1<=m)(S:St t f M R)(tl:t<M.length)(hg:R[g]?=some (.lst (gs.map Gn.toD)))(qq:p≠g)(qv:M.length<=g)(Kp:M.length<=p)(hp:R[p]?=some (.lst ((L:List (List Nat×List Nat)).map pD)))(hb:∀x∈L,J5 es x.1 x.2)(hl:L.length<=3600)(O6:L≠[])(qk:∀g∈gs,Gd es g)(q0:gs.length<=3) :
 ∃(Z:List Gn)(G:Option D)(M':dm),Bf.den (PW m) (EY t b1 b2 b3 b4 (sR p) (sR g) none none) R=.ok (.next,EY t b1 G b3 b4 (sR p) (sR g) none none) M'/\M'[g]?=some (.lst (Z.map Gn.toD))/\M'[p]?=some (.lst (L.map pD))/\(∀g∈Z,Gd es g)/\Z.length<=6/\St t f M M':=by
 unfold Bf;obtain⟨v,M2,e2,hv,s2,l2⟩:=zp (m:=m) (many:=4) hm S.has (by decide) (by decide);have lp:0<L.length:=m7.mpr O6
 obtain⟨q1,M',e,Z,G,rfl,h1,h2,h3,h4,h5⟩:=Bo (W:=PW m) (n:=v) (M1:=M2) (t:=.name 2) (b:=Be) (ρ:=EY t b1 b2 b3 b4 (sR p) (sR g) none none) (M:=R) (it:=.call 2 (.p (.v 0) (.i 4))) (by simp[e2]) (by lia)
  (λi ρ U=>∃(Z:List Gn)(G:Option D),ρ=EY t b1 G b3 b4 (sR p) (sR g) none none/\U[g]?=some (.lst (Z.map Gn.toD))/\U[p]?=some (.lst (L.map pD))/\(∀g∈Z,Gd es g)/\Z.length<=3+i/\St t f M U) ⟨gs,b2,rfl,s2.keep _ _ (by lia) hg,s2.keep _ _ (by lia) hp,qk,by lia,S.trans s2⟩ (λi ρ U hi hI=>by
   obtain⟨Z,G,rfl,h1,h2,h3,h4,h5⟩:=hI;obtain⟨k,M4,e4,hk,s4,_⟩:=zp (m:=m) (many:=L.length) hm h5.has (by lia) (by lia);have ll:=len_list (jg h2);rw[cz] at ll;have g4:=s4.keep _ _ (show g≠t by lia) h1;have p4:=s4.keep _ _ (show p≠t by lia) h2;obtain⟨x,hx⟩:∃x,L[k]?=some x:=⟨_,dw (by lia)⟩;have ix:uo (.ref p) (.int k) M4=some (pD x):=Bc (jg p4) (ir _) (by simp[hx]);refine⟨_,.next,EY t b1 (sI i) b3 b4 (sR p) (sR g) none none,M4.set g (.lst ((Z++[Gn.same x.1 x.2]).map Gn.toD)),rfl,?_,.inl rfl,Z++[Gn.same x.1 x.2],_,rfl,oh g4,by rw[jh (jr qq)];exact p4,λy hy=>?_,by simp;lia,(h5.trans s4).set qv tl⟩
   .show Be.den (PW m) (EY t b1 (sI i) b3 b4 (sR p) (sR g) none none) U=_
    simp only[Be];simp[Gz h1,ll,e4,ix,ajb,Dl g4 (d:=Gn.toD (.same x.1 x.2)) (by simp;lia)]
   .rcases bz.mp hy with q|q
    .exact h3 y q
    .simp at q;subst q;exact hb x (az hx))
 exact⟨Z,G,M',e,h1,h2,h3,by lia,h5⟩
def af7(Z:List D)(n:Nat):Jg Z (some (n:Int)) none=Z.drop n:=by
 simp only[Jg,clip];rw[bx (by lia),jt,vy (by simp)];rcases Nat.le_total n Z.length with h|h
 .rw[Nat.min_eq_left h]
 .rw[Nat.min_eq_right h,List.drop_length,List.drop_of_length_le h]
def anw(Z:List D)(n:Nat):Jg Z none (some (n:Int))=Z.take n:=by
 simp only[Jg,clip,List.drop_zero,Nat.sub_zero];rw[bx (by lia),jt];rcases Nat.le_total n Z.length with h|h
 .rw[Nat.min_eq_left h]
 .rw[Nat.min_eq_right h,o6,vy h]
def anx(h:M[g]?=some (.lst ds))(G Z:Option Int):Ms (.ref g) G Z M=some (.vl (Jg ds G Z)):=by simp[Ms,gj,h]
def Xe(Z:List D):uq .tuple [.vl Z] M=.ok (.tup Z) M:=rfl
def tlS:j8:=.c (.a 5 (.call 32 (.o (.v 1)))) (.c (.a 6 Bg) (.c Bf (.c (.a 7 (.call 2 (.p (.v 0) (.bin .add (.i 1) (.l (.v 6)))))) (.q (.a 8 zq) (.f (.or (.cmp .eq (.v 8) (.Ku .z)) (.cmp .eq (.call 2 (.p (.v 0) (.i 8))) (.i 0))) (.o (.a 8 (.v 5)))) (.ret (.tup (.q (.blt .tuple (.o (.v 1))) (.blt .tuple (.o (.bin .add (.cut (.v 6) (.some (.v 7)) .none) (.cut (.v 6) .none (.some (.v 7)))))) (.ix (.v 8) (.call 2 (.p (.v 0) (.l (.v 8))))))))))))
def anz(hm:2<=m)(hs:Has t f M)(E:Ends es V)(hd:∀M5,St t f M M5->j9 M5 d=some (es.map aD)) :
 ∃s qk M',tlS.den (PW m) (EY t (some d) b2 b3 b4 none none none none) M=.ok (.ret s.toD,qk) M'/\Fy s V/\St t f M M':=by
 have tl:=hs.lt;obtain⟨p,L,M1,e1,p1,P,hL⟩:=ai6 (m:=m) hm E (hd M (.refl hs));have S1:St t f M M1:=.of hs P.k;obtain⟨gs,Z,e2,g2,n2,S2,l2,k2⟩:=sy2 (m:=m) (b2:=b2) (b3:=b3) (b4:=b4) (b5:=sR p) (by lia) S1 tl hd E;have pl:=t8 P.g;have q1:St t f M (Z++[.lst (gs.map Gn.toD)]):=S2.keep' (m6.app _ _);have lp:0<L.length:=m7.mpr hL
 have Ll:=P.l;obtain⟨U,c2,M3,e3,g3,p3,d3,n3,S3⟩:=sy0 (m:=m) (b1:=some d) (b2:=b2) (b3:=b3) (b4:=b4) (g:=Z.length) (p:=p) (gs:=gs) (L:=L) (by lia) q1 tl yl (by lia) (by have:=S2.len;lia) p1 (yz (k2 _ _ (by lia) P.g)) P.b P.l hL g2 n2;have l3:=len_list (jg g3);rw[cz] at l3;obtain⟨u,M4,e4,hu,S4,_⟩:=zp (m:=m) (many:=1+U.length) (by lia) S3.has (by lia) (by lia);have p4:=S4.keep _ _ (show p≠t by lia) p3;have g4:=S4.keep _ _ (show Z.length≠t by have:=S2.len;lia) g3;have c1:zq.den (PW m) (EY t (some d) c2 b3 b4 (sR p) (sR Z.length) (sI u) none) M4=.ok (.vl ((L.filter λx=>decide (x.1≠x.2)).map pD)) M4:=by unfold zq;rw[Dh (d:=.ref p) (M1:=M4) (xs:=L) (f:=pD) (q:=λx=>decide (x.1≠x.2)) (g:=pD) rfl (Dw (jg p4)) (by lia) (λx hx=>⟨_,rfl,by simp[pD,Tf],λ_=>by simp⟩)];rfl
 have fin:∃v8 X M5,((zx.f (.or (.cmp .eq (.v 8) (.Ku .z)) (.cmp .eq (.call 2 (.p (.v 0) (.i 8))) (.i 0))) (.o (.a 8 (.v 5)))).den (PW m) (EY t (some d) c2 b3 b4 (sR p) (sR Z.length) (sI u) (some (.vl ((L.filter λx=>decide (x.1≠x.2)).map pD)))) M4=.ok (.next,EY t (some d) c2 b3 b4 (sR p) (sR Z.length) (sI u) (some v8)) M5)/\gj M5 v8=some (X.map pD)/\(∀G,St t f M5 G->gj G v8=some (X.map pD))/\X≠[]/\X.length<=3600/\(∀x∈X,J5 es x.1 x.2)/\St t f M4 M5:=by
  by_cases h:L.filter (λx=>decide (x.1≠x.2))=[]
  .refine⟨.ref p,L,M4,?_,jg p4,λG s=>jg (s.keep _ _ (by lia) p4),hL,Ll,P.b,.refl S4.has⟩
   rw[h];simp[eq_nil]
  .obtain⟨q,M5,e5,hq,R,_⟩:=zp (m:=m) (many:=8) (by lia) S4.has (by decide) (by decide)
   have he:((L.filter λx=>decide (x.1≠x.2)).map pD).isEmpty=false:=by rw[List.isEmpty_map];simpa using h
   by_cases q0:q=0
   .have p5:=R.keep _ _ (show p≠t by lia) p4
    refine⟨.ref p,L,M5,?_,jg p5,λG s=>jg (s.keep _ _ (by lia) p5),hL,Ll,P.b,R⟩;subst q0;rw[Y4,ara,Q5];simp only[Mv,Dt,ah2,Res.uv,ah9,eq_nil,he,n8,Res.ue,arb];simp[e5]
   .refine⟨.vl ((L.filter λx=>decide (x.1≠x.2)).map pD),L.filter (λx=>decide (x.1≠x.2)),M5,?_,rfl,λ_ _=>rfl,h,bj (qp _ _) Ll,λx hx=>P.b x (uw.mp hx).1,R⟩
    rw[Y4,ara,Q5];have:¬(q:Int)=0:=by lia
    simp only[Mv,Dt,ah2,Res.uv,ah9,eq_nil,he,n8,Res.ue,arb];simp[e5,this,q0]
 obtain⟨v8,X,M5,e5,a5,k5,nX,lX,bX,R⟩:=fin;have l5:=len_list a5;rw[cz] at l5;have xp:0<X.length:=m7.mpr nX
 obtain⟨v,G,e6,hv,S6,_⟩:=zp (m:=m) (many:=X.length) (by lia) R.has (by lia) (by lia);obtain⟨x,hx⟩:∃x,X[v]?=some x:=⟨_,dw (by lia)⟩;have i6:uo v8 (.int v) G=some (pD x):=Bc (k5 G S6) (ir _) (by simp[hx]);have qq:St t f M M5:=(S3.trans S4).trans R;have d5:=hd M5 qq;have t5:uq .tuple [d] M5=.ok (.tup (es.map aD)) M5:=by simp[uq,d5]
 have g5:=R.keep _ _ (show Z.length≠t by have:=S2.len;lia) g4;refine⟨⟨es,U.drop u++U.take u,x.1,x.2⟩,EY t (some d) c2 b3 b4 (sR p) (sR Z.length) (sI u) (some v8),G,?_,⟨E,λg hg=>?_,?_,bX x (az hx)⟩,qq.trans S6⟩
 .have qv:zq.den (PW m) [sR t,some d,c2,b3,b4,sR p,sR Z.length,sI u,none] M4=_:=c1
  simp only[tlS];simp[e1,e2,e3,l3,e4];rw[qv];simp only[Res.uv,Res.ue,Ln,R8,List.set_cons_succ,List.set_cons_zero,Du];simp only[Dk,e5,Du];simp[t5,anx g5,af7,anw,l5];rw[Kq _ _ (by simp;lia)];simp[Xe,l5,e6,i6,Uv.toD,pD]
 .rcases bz.mp hg with q|q
  .exact d3 g (List.mem_of_mem_drop q)
  .exact d3 g (List.mem_of_mem_take q)
 .simp;lia
def knD:List D:=kn.map λZ=>.tup (Z.map aD)
noncomputable def kX1:Ex:=(.Ku (.q (.tup (.q (.tup (.p (.i 0) (.i 1))) (.tup (.p (.i 0) (.i 1))) (.tup (.p (.i 1) (.i 2))))) (.tup (.c (.tup (.p (.i 0) (.i 1))) (.q (.tup (.p (.i 1) (.i 2))) (.tup (.p (.i 0) (.i 2))) (.tup (.p (.i 2) (.i 3)))))) (.tup (.c (.tup (.p (.i 0) (.i 1))) (.c (.tup (.p (.i 0) (.i 2))) (.q (.tup (.p (.i 1) (.i 3))) (.tup (.p (.i 2) (.i 3))) (.tup (.p (.i 3) (.i 4)))))))))
noncomputable def kX2:Ex:=(.Ku (.p (.tup (.c (.tup (.p (.i 0) (.i 1))) (.c (.tup (.p (.i 1) (.i 2))) (.c (.tup (.p (.i 0) (.i 3))) (.c (.tup (.p (.i 3) (.i 4))) (.q (.tup (.p (.i 1) (.i 4))) (.tup (.p (.i 2) (.i 5))) (.tup (.p (.i 4) (.i 5))))))))) (.tup (.c (.tup (.p (.i 3) (.i 1))) (.c (.tup (.p (.i 3) (.i 1))) (.q (.tup (.p (.i 1) (.i 0))) (.tup (.p (.i 1) (.i 0))) (.tup (.p (.i 0) (.i 2)))))))))
def fS:zx:=.f (.cmp .gt (.call 2 (.p (.v 0) (.i 3))) (.i 0)) (.o (.a 1 (.ix (.v 4) (.call 2 (.p (.v 0) (.i 5))))))
def af9(hm:3<=m)(hs:Has t f M):∃s V M',prog.call m 33 [.ref t] M=.ok s.toD M'/\Fy s V/\St t f M M':=by
 rw[call_of (bj (by decide) hm) rfl];have tl:=hs.lt;have S0:St t f M (M++[.lst []]):=.of hs (m6.app _ _);obtain⟨es,G,Z,M1,e1,g1,R,n1,n2,S1⟩:=sy1 (m:=m-1) (by lia) hs yl S0 (bc _);obtain⟨v,M2,e2,hv,S2,_⟩:=zp (m:=m-1) (many:=3) (by lia) S1.has (by decide) (by decide);have g2:=S2.keep _ _ (show M.length≠t by lia) g1;have qq:∃d es V M3,ifK ((j8.o (.a 1 (.ix (.v 4) (.call 2 (.p (.v 0) (.i 5)))))).den (PW (m-1)) (EY t (sR M.length) G Z (some (.vl knD)) none none none none)) (j8.nil.den (PW (m-1)) (EY t (sR M.length) G Z (some (.vl knD)) none none none none)) (.ok (.bl (decide (0<(v:Int)))) M2)=.ok (.next,EY t (some d) G Z (some (.vl knD)) none none none none) M3/\Ends es V/\(∀M5,St t f M3 M5->j9 M5 d=some (es.map aD))/\St t f M2 M3:=by
  by_cases h:v=0
  .subst h
   exact⟨.ref M.length,es,_,M2,rfl,aja R n1 n2,λM5 s=>Dw (jg (s.keep _ _ (by lia) g2)),.refl S2.has⟩
  .obtain⟨k,M3,e3,hk,S3,_⟩:=zp (m:=m-1) (many:=5) (by lia) S2.has (by decide) (by decide)
   obtain⟨x,hx⟩:∃x,kn[k]?=some x:=⟨_,dw (by show k<5;lia)⟩;obtain⟨V,E⟩:=anu (az hx);refine⟨.tup (x.map aD),x,V,M3,?_,E,λ_ _=>rfl,S3⟩;have h':(0:Int)<(v:Int):=by lia
   have i3:uo (.vl knD) (.int k) M3=some (.tup (x.map aD)):=Bc rfl (ir _) (by simp[knD,hx]);rw[vh h',ax9];simp[e3,i3]
 obtain⟨d,q0,V,M3,e3,E,hd,S3⟩:=qq;obtain⟨s,q1,M4,e4,h4,S4⟩:=anz (m:=m-1) (b2:=G) (b3:=Z) (b4:=some (.vl knD)) (by lia) S3.has E hd;refine⟨s,V,M4,?_,h4,((S1.trans S2).trans S3).trans S4⟩;have qv:∀U M,kX1.den (PW (m-1)) U M=.ok (.vl (knD.take 3)) M:=λU M=>rfl
 have qk:∀U M,kX2.den (PW (m-1)) U M=.ok (.vl (knD.drop 3)) M:=λU M=>rfl
 have ka:∀M,Ba .add (.vl (knD.take 3)) (.vl (knD.drop 3)) M=.ok (.vl knD) M:=λM=>by rw[Kq _ _ (by rw[<- iy,uh];show 5<=100000;decide),uh]
 have b0:K8=.c (.a 1 (.lst .z)) (.c Bj (.c (.a 4 kX1) (.c (.a 4 (.bin .add (.v 4) kX2)) (.c fS tlS)))):=rfl;have e0:fS.den (PW (m-1)) (EY t (sR M.length) G Z (some (.vl knD)) none none none none) M1=.ok (.next,EY t (some d) G Z (some (.vl knD)) none none none none) M3:=by rw[fS,Y4,Q5,Yx];simp only[Bl,Dt,asy,Gi,Res.uv,e2,cmp_gt,n8,Res.ue];exact e3
 simp only[Fn.run,K9,b0];simp[MW.new,e1,qv,qk,ka,e0,e4]
def stD(p:List Int×List (List Int)):D:=.tup [qt p.1,Jc p.2]
abbrev EZ(t:Nat)(es:List Ar)(n p:Nat)(b4 b5 b6 b7:Option D):Env:=[sR t,some (.tup (es.map aD)),sI n,sR p,b4,b5,b6,b7]
noncomputable def atN(r:Y3)(x:Nat):Nat:=r.getD x 0
def abq{Z:Y3}(h:M[p]?=some (.lst (Z.map nD)))(G:i<Z.length):uo (.ref p) (.int (i:Nat)) M=some (.int (atN Z i:Nat)) :=
 Bc (jg h) (ir _) (by simp[G,nD,atN,List.getD])
def Ra(E:Ends es V):Ag es<=7:=by
 have U:es≠[]:=qm E.pos;unfold Ag;cases q:es.map mx with
 |nil=>exact ig _
 |cons a l =>
  have all:∀x∈a::l,x<8:=λx Z=>by rw[<- q] at Z;obtain⟨e,G,rfl⟩:=di.mp Z;have:=E.sm e G;unfold mx;split<;>lia
  have:=adx (n:=8) l a (all a cg) λx Z=>all x (bh _ Z)
  exact uz this
structure Szs(es:List Ar)(zs:Y3):Prop where
 l:zs.length=Ag es+1
 s:∀z∈zs,z<=3
def Szs.at(Z:Szs es zs)(i:Nat):atN zs i<=3:=by
 rcases jo i zs.length with h|h
 .exact Z.s _ (az (i:=i) (by simp[atN,List.getD,h]))
 .simp[atN,List.getD,h]
def ls3{n:Nat}(hm:1<=m)(E:Ends es V)(hs:Has t f M)(hn:n<=3):∃Z M',Hb.den (PW m) [sR t,some (.tup (es.map aD)),sI n,none,none,none,none,none] M=.ok (.ref M'.length) (M'++[.lst (Z.map nD)])/\Szs es Z/\St t f M M':=by
 unfold Hb;have c:=abm (W:=PW m) (M:=M) (ρ:=[sR t,D.tup (es.map aD),sI n,none,none,none,none,none]) (v:=1) (y:=8) (d:=.tup (es.map aD)) rfl rfl rfl E.few;have tf:=Ra E;obtain⟨ys,M',e,Z,rfl,h1,U,G⟩:=Bt (W:=PW m) (v:=false) (k:=1) (n:=1+Ag es) (M1:=M) (t:=.name 8) (e:=.call 2 (.p (.v 0) (.bin .add (.v 2) (.i 1)))) (ρ:=[sR t,D.tup (es.map aD),sI n,none,none,none,none,none]) (M:=M) (it:=.bin .add (.i 1) (.blt .max (.o Ha))) (by
  have c':Ha.den (PW m) [sR t,some (.tup (es.map aD)),sI n,none,none,none,none,none] M=_:=c;simp[-List.map_map,c',abn (qm E.pos)]) (by lia)
  (λi xs R=>∃Z:List Nat,xs=Z.map nD/\Z.length=i/\(∀z∈Z,z<=3)/\St t f M R) ⟨[],rfl,rfl,by simp,.refl hs⟩ (λi xs R hi hI=>by
   obtain⟨Z,rfl,h1,U,G⟩:=hI;obtain⟨k,M4,e4,hk,s4,_⟩:=zp (m:=m) (many:=n+1) hm G.has (by lia) (by lia);refine⟨_,nD k,M4,rfl,?_,Z++[k],by simp,by simp;lia,λz hz=>?_,G.trans s4⟩
   .simp[e4,nD]
   .rcases bz.mp hz with q|q
    .exact U z q
    .simp at q;subst q;lia)
 exact⟨Z,M',e,⟨by lia,U⟩,G⟩
def ls2(E:Ends es V)(hp:M[p]?=some (.lst (zs.map nD)))(Z:Szs es zs) :
 ∃Gf Je G R,G7.den (PW m) (EZ t es n p b4 b5 b6 none) M=.ok (.next,EZ t es n p b4 Gf Je none) R/\R[p]?=some (.lst (G.map nD))/\Szs es G/\Hc p M R/\R.length=M.length:=by
 unfold G7;obtain⟨qq,R,e,Gf,Je,G,rfl,h1,h2,h3,h4⟩:=Dy (W:=PW m) (it:=.v 1) (t:=.names [5,6]) (b:=zr) (ρ:=EZ t es n p b4 b5 b6 none) (M:=M) (M1:=M) (ds:=es.map aD) rfl
  (λi ρ U=>∃(Gf Je:Option D)(G:Y3),ρ=EZ t es n p b4 Gf Je none/\U[p]?=some (.lst (G.map nD))/\Szs es G/\Hc p M U/\U.length=M.length) ⟨b5,b6,zs,rfl,hp,Z,Hc.refl _ _,rfl⟩ (λi x ρ U hx hI=>by
   obtain⟨Gf,Je,G,rfl,h1,h2,h3,h4⟩:=hI;obtain⟨a,hi,rfl⟩:∃a,es[i]?=some a/\aD a=x:=by simpa using hx
   have tp:=Lz (az hi);have l:=h2.l;have x6:=abq h1 (show a.2<G.length by lia)
   by_cases q:atN G a.2=0
   .refine⟨_,.next,EZ t es n p b4 (sI a.1) (sI a.2) none,U.set p (.lst ((G.set a.1 0).map nD)),rfl,?_,.inl rfl,_,_,G.set a.1 0,rfl,oh h1,⟨by simp[l],λz hz=>?_⟩,h3.trans (Hc.set _ _ _),by simp[h4]⟩
    .show zr.den (PW m) (EZ t es n p b4 (sI a.1) (sI a.2) none) U=_
     simp[zr,x6,q,Wv h1 (i:=(a.1:Int)) (d:=.int 0) (ir _) (by simp;lia),List.map_set,nD]
    .rcases List.mem_or_eq_of_mem_set hz with q|q
     .exact h2.s z q
     .lia
   .refine⟨_,.next,EZ t es n p b4 (sI a.1) (sI a.2) none,U,rfl,?_,.inl rfl,_,_,G,rfl,h1,h2,h3,h4⟩
    show zr.den (PW m) (EZ t es n p b4 (sI a.1) (sI a.2) none) U=_;have q':¬((atN G a.2:Nat):Int)=0:=by lia
    simp[zr,x6,q,q'])
 exact⟨Gf,Je,G,R,e,h1,h2,h3,h4⟩
def ls1(E:Ends es V)(hp:M[p]?=some (.lst (zs.map nD)))(Z:Szs es zs) :
 ∃G Gf R U M',G9.den (PW m) (EZ t es n p none none none none) M=.ok (.next,EZ t es n p G Gf R none) M'/\M'[p]?=some (.lst (U.map nD))/\Szs es U/\Hc p M M'/\M'.length=M.length:=by
 unfold G9;obtain⟨qk,M',e,G,Gf,R,U,rfl,h1,h2,h3,h4⟩:=Bo (W:=PW m) (n:=es.length) (M1:=M) (t:=.name 4) (b:=G8) (ρ:=EZ t es n p none none none none) (M:=M) (it:=.l (.v 1)) (by simp[yx]) (by have:=E.few;lia)
  (λi ρ M1=>∃(G Gf R:Option D)(U:Y3),ρ=EZ t es n p G Gf R none/\M1[p]?=some (.lst (U.map nD))/\Szs es U/\Hc p M M1/\M1.length=M.length) ⟨none,none,none,zs,rfl,hp,Z,Hc.refl _ _,rfl⟩ (λi ρ M1 hi hI=>by
   obtain⟨G,Gf,R,U,rfl,h1,h2,h3,h4⟩:=hI;obtain⟨c5,c6,qq,M2,e2,g1,g2,g3,g4⟩:=ls2 (m:=m) (t:=t) (n:=n) (b4:=sI i) (b5:=Gf) (b6:=R) E h1 h2;exact⟨_,.next,EZ t es n p (sI i) c5 c6 none,M2,rfl,by simp[G8,e2],.inl rfl,_,_,_,qq,rfl,g1,g2,h3.trans g3,g4.trans h4⟩)
 exact⟨G,Gf,R,U,M',e,h1,h2,h3,h4⟩
def ls0(hm:1<=m)(E:Ends es V)(S:St t f M R)(tl:t<M.length)(hp:R[p]?=some (.lst (zs.map nD)))(Kp:M.length<=p)(Z:Szs es zs)(hq:R[q]?=some (.lst []))(qq:M.length<=q)(qv:p≠q) :
 ∃(Gf Je:Option D)(G:List (List Int))(M':dm),G6.den (PW m) (EZ t es n p b4 b5 b6 (sR q)) R=.ok (.next,EZ t es n p b4 Gf Je (sR q)) M'/\M'[q]?=some (.lst (G.map qt))/\M'[p]?=some (.lst (zs.map nD))/\G.length=es.length/\(∀r∈G,(r:X9).length<=3)/\St t f M M':=by
 unfold G6;obtain⟨q0,M',e,Gf,Je,G,rfl,h1,h2,h3,h4,h5⟩:=Dy (W:=PW m) (it:=.v 1) (t:=.names [5,6]) (b:=Dn) (ρ:=EZ t es n p b4 b5 b6 (sR q)) (M:=R) (M1:=R) (ds:=es.map aD) rfl
  (λi ρ U=>∃(Gf Je:Option D)(G:List (List Int)),ρ=EZ t es n p b4 Gf Je (sR q)/\U[q]?=some (.lst (G.map qt))/\U[p]?=some (.lst (zs.map nD))/\G.length=i/\(∀r∈G,r.length<=3)/\St t f M U) ⟨b5,b6,[],rfl,hq,hp,rfl,by simp,S⟩ (λi x ρ U hx hI=>by
   obtain⟨Gf,Je,G,rfl,h1,h2,h3,h4,h5⟩:=hI;obtain⟨a,hi,rfl⟩:∃a,es[i]?=some a/\aD a=x:=by simpa using hx
   have il:=(ak.mp hi).1;have tp:=Lz (az hi);have l:=Z.l;have x5:=abq h2 (show a.1<zs.length by lia);have z5:=Z.at a.1;have z6:=Z.at a.2;obtain⟨ys,M3,e3,r,rfl,g1,g2,g3,g4⟩:=Bt (W:=PW m) (v:=true) (k:=1) (n:=atN zs a.1) (M1:=U) (t:=.name 8) (e:=.call 2 (.p (.v 0) (.blt .max (.p (.i 1) (.ix (.v 3) (.v 6)))))) (ρ:=EZ t es n p b4 (sI a.1) (sI a.2) (sR q)) (M:=U) (it:=.ix (.v 3) (.v 5)) (by simp[x5]) (by lia)
    (λi xs M3=>∃r:List Int,xs=r.map D.int/\r.length=i/\St t f M M3/\M3[p]?=some (.lst (zs.map nD))/\M3[q]?=some (.lst (G.map qt))) ⟨[],rfl,rfl,h5,h2,h1⟩ (λi xs M3 hi hI=>by
     obtain⟨r,rfl,g1,g2,g3,g4⟩:=hI;have x6:=abq g3 (show a.2<zs.length by lia);obtain⟨k,M4,e4,hk,s4,_⟩:=zp (m:=m) (many:=if(1:Int)<(atN zs a.2:Nat) then((atN zs a.2:Nat):Int) else 1) hm g2.has (by split<;>lia) (by split<;>lia);refine⟨_,.int k,M4,rfl,?_,r++[(k:Int)],by simp,by simp;lia,g2.trans s4,s4.keep _ _ (by lia) g3,s4.keep _ _ (by lia) g4⟩;have mx:uq .max [.int 1,.int (atN zs a.2:Nat)] M3=.ok (.int (if(1:Int)<(atN zs a.2:Nat) then((atN zs a.2:Nat):Int) else 1)) M3:=rfl;simp[x6,mx,e4])
   have qk:Lb.den (PW m) (EZ t es n p b4 (sI a.1) (sI a.2) (sR q)) U=.ok (.vl (r.map D.int)) M3:=e3;refine⟨_,.next,EZ t es n p b4 (sI a.1) (sI a.2) (sR q),M3.set q (.lst ((G++[r]).map qt)),rfl,?_,.inl rfl,_,_,G++[r],rfl,oh g4,by rw[jh (jr qv)];exact g3,by simp;lia,λy hy=>?_,g2.set qq tl⟩
   .show Dn.den (PW m) (EZ t es n p b4 (sI a.1) (sI a.2) (sR q)) U=_
    simp only[Dn];simp[Gz h1,qk,Xe,Dl g4 (d:=.tup (r.map D.int)) (by have:=E.few;simp;lia),qt]
   .rcases bz.mp hy with q|q
    .exact h4 y q
    .simp at q;subst q;lia)
 rw[cz] at h3;exact⟨Gf,Je,G,M',e,h1,h2,h3,h4,h5⟩
def Rb(h:M[p]?=some (.lst ds)):uq .tuple [.ref p] M=.ok (.tup ds) M:=by simp[uq,j9,gj,h]
def ajc{n:Nat}(hm:2<=m)(E:Ends es V)(hs:Has t f M)(hn:n<=3):∃(p:List Int×List (List Int))(M':dm),prog.call m 36 [.ref t,.tup (es.map aD),.int (n:Nat)] M=.ok (stD p) M'/\p.1.length=Ag es+1/\p.2.length=es.length/\(∀r∈p.2,r.length<=3)/\St t f M M':=by
 rw[call_of (bj (by decide) hm) rfl];have tl:=hs.lt;obtain⟨zs,U,e1,Z1,S1⟩:=ls3 (m:=m-1) (n:=n) (by lia) E hs hn;have m1:=S1.len;have Z:St t f M (U++[.lst (zs.map nD)]):=S1.keep' (m6.app _ _);obtain⟨b4,b5,b6,R,M2,e2,g2,Z2,k2,l2⟩:=ls1 (m:=m-1) (t:=t) (n:=n) E (M:=U++[.lst (zs.map nD)]) yl Z1;have S2:St t f M M2:=by obtain⟨x,h,ho⟩:=Z.has;exact⟨by have:=Z.len;lia,⟨x,k2 _ _ (by lia) h,ho⟩,λa o O6 he=>k2 _ _ (by have:=t8 he;lia) (Z.keep a o O6 he)⟩
 have qq:=t8 g2;have S3:St t f M (M2++[.lst []]):=S2.keep' (m6.app _ _);obtain⟨c5,c6,G,M4,e4,q4,p4,a4,r4,S4⟩:=ls0 (m:=m-1) (n:=n) (b4:=b4) (b5:=b5) (b6:=b6) (p:=U.length) (q:=M2.length) (by lia) E S3 tl (yz g2) (by lia) Z2 yl (by have:=S2.len;lia) (by lia);refine⟨(R.map λ(x:Nat)=>(x:Int),G),M4,?_,by simp[Z2.l],a4,r4,S4⟩;simp only[Fn.run,Qi,Qh];simp[-List.map_map,e1,e2,MW.new,e4,Rb p4,Rb q4];simp[stD,qt,Jc,nD,gw,ik]
noncomputable abbrev Mk:=List (List Nat×List Nat)
noncomputable def mkOf(Z:Mk)(w:Y3):List Nat:=((Z.find? λp=>decide (p.1=w)).map (·.2)).getD w
noncomputable def kx(w:Y3):List Kx:=w.map λ(x:Nat)=>Sum.inl (x:Int)
def Hi(Z:Mk):List (List Kx×D):=Z.map λp=>(kx p.1,dq p.2)
theorem abr:∀{a b:Y3},kx a=kx b->a=b
 |[],[],_=>rfl|[],_::_,h=>by simp[kx] at h|_::_,[],h=>by simp[kx] at h
 |x::a,y::b,h=>by
  have Z:(Sum.inl (x:Int):Kx)=.inl (y:Int):=(xr h).1;have G:(x:Int)=(y:Int):=Sum.inl.inj Z;rw[abr (xr h).2,show x=y by lia]
def Ga(w:Y3):Mq (dq w)=some (kx w):=by
 show abf (w.map nD)=some (kx w)
 induction w with
 |nil=>rfl|cons x w Z=>simp only[dg,abf,Z];rfl
def ajd(a b:Y3):decide (kx a=kx b)=decide (a=b):=by
 by_cases h:a=b
 .simp[h]
 .have:¬kx a=kx b:=λe=>h (abr e)
  simp[h,this]
def lk_row(Z:Mk)(w:Y3):Bq (Hi Z) (kx w)=(Z.find? λp=>decide (p.1=w)).map λp=>dq p.2:=by
 unfold Bq Hi
 induction Z with
 |nil=>rfl
 |cons p Z G =>
  simp only[dg,kj,ajd]
  by_cases h:p.1=w
  .simp[h]
  .simp only[h,decide_false];exact G
def atm(Z:Mk)(w:Y3):(Bq (Hi Z) (kx w)).getD (dq w)=dq (mkOf Z w):=by rw[lk_row,mkOf];cases Z.find? λp=>decide (p.1=w)<;>rfl
noncomputable def Bp(Z:Mk)(w v:Y3):Mk:=if w∈Z.map (·.1) then Z.map (λp=>if p.1=w then(p.1,v) else p) else Z++[(w,v)]
def abt(mk:Mk)(w v:Y3):Ru (Hi mk) (kx w) (dq v)=Hi (Bp mk w v):=by
 have e:((Hi mk).any λkv=>decide (kv.1=kx w))=decide (w∈mk.map (·.1)):=by
  induction mk with
  |nil=>simp[Hi]
  |cons p mk Z =>
   have:Hi (p::mk)=(kx p.1,dq p.2)::Hi mk:=rfl;rw[this,xq,Z,ajd,dg]
   by_cases h:p.1=w
   .simp[h]
   .simp[h,jr h]
 unfold Ru Bp;rw[e]
 by_cases h:w∈mk.map (·.1)
 .rw[bx (by simpa using h),bx h,Hi,Hi,gw,gw]
  refine qi λp _=>?_
  show(if kx p.1=kx w then(kx p.1,dq v) else(kx p.1,dq p.2))=_
  by_cases q:p.1=w
  .simp[q]
  .have:¬kx p.1=kx w:=λe=>q (abr e)
   simp[q,this]
 .rw[bw (by simpa using h),bw h];simp[Hi]
def find_some{mk:Mk}(h:w∈mk.map (·.1)):∃v,mk.find? (λp=>decide (p.1=w))=some (w,v)/\(w,v)∈mk:=by
 induction mk with
 |nil=>cases h
 |cons p mk U =>
  by_cases e:p.1=w
  .exact⟨p.2,by simp[<- e],by rw[<- e];exact cg⟩
  .rw[dg] at h
   rcases cj.mp h with q|q
   .exact absurd q.symm e
   .obtain⟨v,G,Z⟩:=U q
    exact⟨v,by simp[e,G],bh _ Z⟩
def find_none{Z:Mk}(h:w∉Z.map (·.1)):Z.find? (λp=>decide (p.1=w))=none:=by rw[List.find?_eq_none];intro p G e;exact h (di.mpr ⟨p,G,by simpa using e⟩)
def Tt{Z:Mk}(h:w∉Z.map (·.1)):mkOf Z w=w:=by rw[mkOf,find_none h];rfl
def adz{mk:Mk}(h:w∈mk.map (·.1)):(w,mkOf mk w)∈mk:=by obtain⟨v,G,Z⟩:=find_some h;rw[mkOf,G];exact Z
def Nx(Z:Mk)(w v:Y3):∀x,x∈(Bp Z w v).map (·.1)↔x∈Z.map (·.1)\/x=w:=λx=>by
 unfold Bp
 by_cases h:w∈Z.map (·.1)
 .rw[bx h,gw]
  have:(((λ(p:List Nat×List Nat)=>p.1) ∘ λp=>if p.1=w then(p.1,v) else p):List Nat×List Nat->List Nat)=λp=>p.1:=by funext p;by_cases q:p.1=w<;>simp[q]
  rw[this];exact⟨.inl,λq=>q.elim id λe=>e▸h⟩
 .rw[bw h];simp
def aje(Z:Mk)(w v x:Y3):mkOf (Bp Z w v) x=if x=w then v else mkOf Z x:=by
 unfold Bp
 by_cases h:w∈Z.map (·.1)
 .rw[bx h]
  unfold mkOf;have e:∀l:Mk,((l.map λp=>if p.1=w then(p.1,v) else p).find? λp=>decide (p.1=x))=(l.find? λp=>decide (p.1=x)).map λp=>if p.1=w then(p.1,v) else p:=λl=>by
   induction l with
   |nil=>rfl
   |cons p l R =>
    have G:(if p.1=w then(p.1,v) else p).1=p.1:=by by_cases q:p.1=w<;>simp[q]
    simp only[dg,kj,G,R]
    by_cases q:p.1=x<;>simp[q]
  rw[e]
  by_cases q:x=w
  .subst q
   obtain⟨u,U,_⟩:=find_some h;rw[U];simp
  .rw[bw q]
   cases hf:Z.find? λp=>decide (p.1=x) with
   |none=>rfl
   |some p =>
    have:p.1=x:=by have:=List.find?_some hf;simpa using this
    have:¬p.1=w:=by rw[this];exact q
    simp[this]
 .rw[bw h]
  unfold mkOf;rw[List.find?_append]
  by_cases q:x=w
  .subst q
   rw[find_none h];simp
  .rw[bw q]
   cases Z.find? λp=>decide (p.1=x) with
   |some p=>rfl|none=>simp[jr q]
def O7{Z:Mk}(h:(Z.map (·.1)).Nodup)(w v:Y3):((Bp Z w v).map (·.1)).Nodup:=by
 unfold Bp
 by_cases q:w∈Z.map (·.1)
 .rw[bx q,gw]
  have:(((λ(p:List Nat×List Nat)=>p.1) ∘ λp=>if p.1=w then(p.1,v) else p):List Nat×List Nat->List Nat)=λp=>p.1:=by funext p;by_cases q:p.1=w<;>simp[q]
  rw[this];exact h
 .rw[bw q,iz]
  exact mz.mpr ⟨h,by simp,λa U b G e=>by simp at G;subst G;subst e;exact q U⟩
def Rc(Z:Mk)(w v:Y3):(Bp Z w v).length<=Z.length+1:=by unfold Bp;split<;>simp
def Vo(kept gone:Y3)(p:List Nat×List Nat):List Nat×List Nat:=if p.2=gone then(p.1,kept) else p
def tkM(Z:Mk)(a b:Y3):Mk:=(Bp (Bp Z a (mkOf Z a)) b (mkOf Z b)).map (Vo (mkOf Z a) (mkOf Z b))
def ad0(Z:Mk)(a b x:Y3):mkOf (Bp (Bp Z a (mkOf Z a)) b (mkOf Z b)) x=mkOf Z x:=by
 rw[aje,aje]
 by_cases h:x=b
 .rw[bx h,h]
 .rw[bw h]
  by_cases q:x=a
  .rw[bx q,q]
  .rw[bw q]
structure TI(ss:List Sp)(mk:Mk):Prop where
 nd:(mk.map (·.1)).Nodup
 vk:∀p∈mk,p.2∈mk.map (·.1)
 id:∀w,mkOf mk (mkOf mk w)=mkOf mk w
 Vp:∀w u,mkOf mk w=mkOf mk u↔Em ss w u
 l:mk.length<=2*ss.length
def Xf(k g:Y3)(p:List Nat×List Nat):(Vo k g p).1=p.1:=by unfold Vo;split<;>rfl
def Rf(k g:Y3)(Z:Mk):(Z.map (Vo k g)).map (·.1)=Z.map (·.1):=by rw[gw];exact qi λp _=>Xf k g p
def ajg(T:TI ss mk)(a b w:Y3):mkOf mk w∈mk.map (·.1)\/mkOf mk w=w:=by
 by_cases h:w∈mk.map (·.1)
 .exact .inl (T.vk _ (adz h))
 .exact .inr (Tt h)
def ayu(T:TI ss mk)(a b w:Y3):mkOf (tkM mk a b) w=if mkOf mk w=mkOf mk b then mkOf mk a else mkOf mk w:=by
 have G:∀x,x=a\/x=b->mkOf mk x∈(Bp (Bp mk a (mkOf mk a)) b (mkOf mk b)).map (·.1):=λx hx=>by
  rw[Nx,Nx];rcases ajg T a b x with q|q
  .exact .inl (.inl q)
  .rw[q];rcases hx with rfl|rfl
   .exact .inl (.inr rfl)
   .exact .inr rfl
 have Z:=ad0 mk a b w;unfold tkM
 by_cases h:w∈(Bp (Bp mk a (mkOf mk a)) b (mkOf mk b)).map (·.1)
 .obtain⟨v,U,_⟩:=find_some h
  have e:v=mkOf mk w:=by rw[<- Z,mkOf,U];rfl
  have f:∀l:Mk,l.find? (λp=>decide (p.1=w))=some (w,v)->(l.map (Vo (mkOf mk a) (mkOf mk b))).find? (λp=>decide (p.1=w))=some (Vo (mkOf mk a) (mkOf mk b) (w,v)):=λl=>by
   induction l with
   |nil=>intro h;cases h
   |cons p l R =>
    intro h;simp only[dg,kj,Xf] at h ⊢
    by_cases q:p.1=w
    .simp only[q,decide_true] at h ⊢;cases h;rfl
    .simp only[q,decide_false] at h ⊢;exact R h
  rw[mkOf,f _ U,e];unfold Vo
  by_cases q:mkOf mk w=mkOf mk b<;>simp[q]
 .rw[Tt (by rw[Rf];exact h)]
  have e:mkOf mk w=w:=by rw[<- Z];exact Tt h
  rw[e,bw];intro q;exact h (q▸G b (.inr rfl))
def aoa(T:TI ss mk)(x:Sp):TI (ss++[x]) (tkM mk x.a x.b):=by
 have R:=ayu T x.a x.b;have qk:=T.id x.a;refine⟨?_,λp hp=>?_,λw=>?_,λw u=>?_,?_⟩
 .unfold tkM;rw[Rf];exact O7 (O7 T.nd _ _) _ _
 .have keys:∀y,y∈(tkM mk x.a x.b).map (·.1)↔(y∈mk.map (·.1)\/y=x.a)\/y=x.b:=λy=>by unfold tkM;rw[Rf,Nx,Nx]
  have Z:∀y,y∈(tkM mk x.a x.b).map (·.1)->mkOf mk y∈(tkM mk x.a x.b).map (·.1):=λy hy=>by
   rcases ajg T x.a x.b y with q|q
   .exact(keys _).mpr (.inl (.inl q))
   .rw[q];exact hy
  have hk:p.1∈(tkM mk x.a x.b).map (·.1):=di.mpr ⟨p,hp,rfl⟩;obtain⟨r,hr,rfl⟩:=di.mp hp;have qv:=O7 (O7 T.nd x.a (mkOf mk x.a)) x.b (mkOf mk x.b);have qq:r.1∈(Bp (Bp mk x.a (mkOf mk x.a)) x.b (mkOf mk x.b)).map (·.1):=di.mpr ⟨r,hr,rfl⟩;have e:r.2=mkOf mk r.1:=by
   obtain⟨v,G,h2⟩:=find_some qq;have:v=mkOf mk r.1:=by rw[<- ad0 mk x.a x.b r.1,mkOf,G];rfl
   obtain⟨i,hi⟩:=mq.mp hr;obtain⟨j,U⟩:=mq.mp h2;have:i=j:=Fw qv (x:=r.1) (by rw[gf,hi];rfl) (by rw[gf,U];rfl);subst this;rw[hi] at U;have U:=gq U;rw[U];assumption
  rw[Xf] at hk;unfold Vo;split
  .exact Z x.a ((keys _).mpr (.inl (.inr rfl)))
  .rw[e];exact Z _ hk
 .rw[R,R w]
  by_cases q:mkOf mk w=mkOf mk x.b
  .rw[bx q]
   split
   .rfl
   .exact qk
  .rw[bw q,T.id,bw q]
 .rw[R,R]
  constructor
  .intro h
   have sw:Em (ss++[x]) x.a x.b:=.step .refl (fj _ cg) (.inl ⟨rfl,rfl⟩)
   by_cases q:mkOf mk w=mkOf mk x.b
   .rw[bx q] at h
    have G:=((T.Vp _ _).mp q).more (X:=[x])
    by_cases r:mkOf mk u=mkOf mk x.b
    .exact G.trans ((T.Vp _ _).mp r).more.symm
    .rw[bw r] at h
     exact(G.trans sw.symm).trans ((T.Vp _ _).mp h).more
   .rw[bw q] at h
    by_cases r:mkOf mk u=mkOf mk x.b
    .rw[bx r] at h
     exact(((T.Vp _ _).mp h).more.trans sw).trans ((T.Vp _ _).mp r).more.symm
    .rw[bw r] at h
     exact((T.Vp _ _).mp h).more
  .intro h
   induction h with
   |refl=>rfl
   |step _ G h2 ih =>
    refine ih.trans ?_;have fin:∀{y z:Y3},mkOf mk y=mkOf mk z->(if mkOf mk y=mkOf mk x.b then mkOf mk x.a else mkOf mk y)=if mkOf mk z=mkOf mk x.b then mkOf mk x.a else mkOf mk z:=λe=>by rw[e]
    have Z:(if mkOf mk x.a=mkOf mk x.b then mkOf mk x.a else mkOf mk x.a)=if mkOf mk x.b=mkOf mk x.b then mkOf mk x.a else mkOf mk x.b:=by simp
    rcases bz.mp G with q|q
    .rcases h2 with⟨rfl,rfl⟩|⟨rfl,rfl⟩
     .exact fin ((T.Vp _ _).mpr (.step .refl q (.inl ⟨rfl,rfl⟩)))
     .exact fin ((T.Vp _ _).mpr (.step .refl q (.inr ⟨rfl,rfl⟩)))
    .simp at q;subst q
     rcases h2 with⟨rfl,rfl⟩|⟨rfl,rfl⟩
     .exact Z
     .exact Z.symm
 .unfold tkM
  have:=Rc (Bp mk x.a (mkOf mk x.a)) x.b (mkOf mk x.b);have:=Rc mk x.a (mkOf mk x.a);have:=T.l
  simp;lia
def atn:TI [] []:=⟨by simp,by simp,λ_=>rfl,λw u=>⟨λh=>by have h:w=u:=h;rw[h];exact .refl,λh=>by
 induction h with
 | refl=>rfl|step _ Z _ _=>cases Z⟩,bc _⟩
structure Tie(t p q:Nat)(M:dm)(ss:List Sp)(mk:Mk):Prop where
 i:M[t]?=some (.ins 3 [(1,.ref p),(0,.ref q)])
 s:M[p]?=some (.lst (ss.map Sp.toD))
 k:M[q]?=some (.dT (Hi mk))
def ad1{Z:Mk}(T:Tie t p q M ss Z):Hg (.ref t) 1 M=some (.ref p):=by simp[Hg,T.i,List.lookup]
def arh{Z:Mk}(T:Tie t p q M ss Z):Hg (.ref t) 0 M=some (.ref q):=by simp[Hg,T.i,List.lookup]
def ato{Z:Mk}(T:Tie t p q M ss Z):t≠p:=by rintro rfl;have:=T.i;rw[T.s] at this;cases this
def atp{Z:Mk}(T:Tie t p q M ss Z):t≠q:=by rintro rfl;have:=T.i;rw[T.k] at this;cases this
def atq{Z:Mk}(T:Tie t p q M ss Z):p≠q:=by rintro rfl;have:=T.s;rw[T.k] at this;cases this
def ajh{mk:Mk}(T:Tie t p q M ss mk)(k:m6 M Z):Tie t p q Z ss mk:=⟨k _ _ T.i,k _ _ T.s,k _ _ T.k⟩
def J6(p q:Nat)(M Z:dm):Prop:=∀(a:Nat)(o:MO),a≠p->a≠q->M[a]?=some o->Z[a]?=some o
def J6.refl(p q:Nat)(M:dm):J6 p q M M:=λ_ _ _ _ h=>h
def J6.trans(a:J6 p q M Z)(b:J6 p q Z M2):J6 p q M M2:=λx o n k h=>b x o n k (a x o n k h)
def J6.of(k:m6 M M'):J6 p q M M':=λa o _ _ h=>k a o h
def Kw:prog.cls[3]?=some ⟨15,[(0,16),(1,17),(2,18),(3,19)]⟩:=rfl
def atr(h:M[n]?=some (.dT Z)):Jm .get (.ref n) M=true:=by simp[Jm,h]
def Ny{Z:Mk}(G:1<=m)(T:Tie t p q M ss Z):prog.call m 16 [.ref t,dq w] M=.ok (dq (mkOf Z w)) M:=by
 rw[call_of G rfl];have g:Dr .get (.ref q) [dq w,dq w] M=.ok (dq (mkOf Z w)) M:=by simp[Dr,onT,T.k,Ga,atm]
 simp[Fn.run,Py,Px,arh T,atr T.k,g]
def ad2{Z:Mk}(G:2<=m)(T:Tie t p q M ss Z):prog.call m 17 [.ref t,dq a,dq b] M=.ok (.bl (decide (mkOf Z a=mkOf Z b))) M:=by
 rw[call_of (bj (by decide) G) rfl];have e:∀w,prog.call (m-1) 16 [.ref t,dq w] M=.ok (dq (mkOf Z w)) M:=λw=>Ny (by lia) T
 simp[Fn.run,Iv,Iu,T.i,Kw,List.lookup,e,Tf]
def aob{A B:Mk}{pr:List Nat×List Nat}(h:((A++pr::B).map (·.1)).Nodup):Bq (Hi (A++pr::B)) (kx pr.1)=some (dq pr.2)/\∀v,Bp (A++pr::B) pr.1 v=A++(pr.1,v)::B:=by
 have G:pr.1∉A.map (·.1):=by rw[iz,mz] at h;intro q;exact h.2.2 _ q pr.1 (by simp) rfl
 have U:pr.1∉B.map (·.1):=by rw[iz,mz] at h;exact(jy.mp h.2.1).1
 have Z:∀(l:Mk)(v:Y3),pr.1∉l.map (·.1)->(l.map λp=>if p.1=pr.1 then(p.1,v) else p)=l:=λl v hl=>by
  conv=>rhs;rw[<- List.map_id l]
  refine qi λp R=>?_
  have:¬p.1=pr.1:=λe=>hl (e▸di.mpr ⟨p,R,rfl⟩)
  simp[this]
 constructor
 .rw[lk_row,List.find?_append,find_none G];simp
 .intro v
  unfold Bp;rw[bx (by simp),iz,dg,Z A v G,Z B v U];simp
def aoc(w:Y3):af4 (kx w)=dq w:=by unfold af4 kx dq;rw[gw];rfl
def aji(Z:Mk):((Hi Z).map λp=>af4 p.1)=(Z.map (·.1)).map dq:=by rw[Hi,gw,gw];exact qi λp _=>aoc _
def aod{Z:Mk}{M:dm}(hi:M[t]?=some (.ins 3 [(1,.ref p),(0,.ref q)]))(hk:M[q]?=some (.dT (Hi Z)))(nd:(Z.map (·.1)).Nodup)(hl:Z.length<=1000)(qv:t≠q) :
 ∃R U,G3.den (PW m) [sR t,b1,some (dq kept),some (dq gn),none] M=.ok (.next,[sR t,b1,some (dq kept),some (dq gn),R]) U/\U[q]?=some (.dT (Hi (Z.map (Vo kept gn))))/\Hc q M U/\U.length=M.length:=by
 unfold G3;have li:uq .list [.ref q] M=.ok (.vl ((Z.map (·.1)).map dq)) M:=by
  have a:j9 M (.ref q)=none:=by simp[j9,gj,hk]
  have l:(Hi Z).length<=1000:=by simpa[Hi] using hl
  simp only[uq,Jl,a,hk,bx l,aji]
 have fl:Hg (.ref t) 0 M=some (.ref q):=by simp[Hg,hi,List.lookup]
 obtain⟨q1,U,e,R,rfl,h1,h2,h3⟩:=xg (W:=PW m) (it:=.blt .list (.o (.fld (.v 0) 0))) (t:=.name 4) (b:=Dm) (ρ:=[sR t,b1,dq kept,dq gn,none]) (M:=M) (M1:=M) (d:=.vl ((Z.map (·.1)).map dq)) (by simp[fl,li]) rfl
  (λi ρ G=>∃R,ρ=[sR t,b1,some (dq kept),some (dq gn),R]/\G[q]?=some (.dT (Hi ((Z.take i).map (Vo kept gn)++Z.drop i)))/\Hc q M G/\G.length=M.length)
  ⟨none,rfl,by simpa using hk,Hc.refl _ _,rfl⟩ (λ_ _ _ _=>rfl) (λi x ρ G hx hI=>by
   obtain⟨R,rfl,g1,g2,g3⟩:=hI;obtain⟨pr,hp,rfl⟩:∃pr,Z[i]?=some pr/\dq pr.1=x:=by simpa using hx
   have qk:=(ak.mp hp).1;have dr:Z.drop i=pr::Z.drop (i+1):=by rw[ql qk,(ak.mp hp).2]
   have q0:(((Z.take i).map (Vo kept gn)++pr::Z.drop (i+1)).map (·.1)).Nodup:=by
    have:((Z.take i).map (Vo kept gn)++pr::Z.drop (i+1)).map (·.1)=Z.map (·.1):=by rw[iz,Rf,<- dr,<- iz,uh]
    rw[this];exact nd
   rw[dr] at g1;obtain⟨f1,f2⟩:=aob q0;have qq:Hg (.ref t) 0 G=some (.ref q):=by simp[Hg,g2 t _ qv hi,List.lookup]
   have x1:uo (.ref q) (dq pr.1) G=some (dq pr.2):=by rw[ayi g1 (Ga _),f1]
   have tk:(Z.take (i+1)).map (Vo kept gn)++Z.drop (i+1)=(Z.take i).map (Vo kept gn)++Vo kept gn pr::Z.drop (i+1):=by rw[kh,hp];simp
   by_cases e:pr.2=gn
   .refine⟨_,.next,[sR t,b1,some (dq kept),some (dq gn),some (dq pr.1)],G.set q (.dT (Hi ((Z.take (i+1)).map (Vo kept gn)++Z.drop (i+1)))),rfl,?_,.inl rfl,_,rfl,oh g1,g2.trans (Hc.set _ _ _),by simpa using g3⟩
    have st:=abi (d:=dq kept) g1 (Ga pr.1) (by simp[Hi];lia);rw[abt,f2] at st;rw[tk];have sw:Vo kept gn pr=(pr.1,kept):=by simp[Vo,e]
    simp[Dm,qq,x1,Tf,e,st,sw]
   .refine⟨_,.next,[sR t,b1,some (dq kept),some (dq gn),some (dq pr.1)],G,rfl,?_,.inl rfl,_,rfl,?_,g2,g3⟩
    .simp[Dm,qq,x1,Tf,e]
    .rw[tk,show Vo kept gn pr=pr by simp[Vo,e]];exact g1)
 refine⟨R,U,e,?_,h2,h3⟩;simpa using h1
def aoe{mk:Mk}(hm:2<=m)(T:Tie t p q M ss mk)(I:TI ss mk)(x:Sp)(hl:ss.length<=100) :
 ∃G,prog.call m 18 [.ref t,x.toD] M=.ok .non G/\Tie t p q G (ss++[x]) (tkM mk x.a x.b)/\J6 p q M G/\G.length=M.length:=by
 rw[call_of (bj (by decide) hm) rfl];have U:=atq T;have tp:=ato T;have R:=atp T;have il:=I.l;have ap:=Dl (d:=x.toD) T.s (by simp;lia);generalize hM1:M.set p (.lst (ss.map Sp.toD++[x.toD]))=M1 at ap;have Z:Tie t p q M1 (ss++[x]) mk:=⟨by rw[<- hM1,jh (jr tp)];exact T.i,by rw[<- hM1,oh T.s];simp,by rw[<- hM1,jh U];exact T.k⟩;have e1:∀w,prog.call (m-1) 16 [.ref t,dq w] M1=.ok (dq (mkOf mk w)) M1:=λw=>Ny (by lia) Z
 have s1:=abi (d:=dq (mkOf mk x.a)) Z.k (Ga x.a) (by simp[Hi];lia);rw[abt] at s1;generalize hM2:M1.set q (.dT (Hi (Bp mk x.a (mkOf mk x.a))))=M2 at s1;have k2:M2[q]?=some (.dT (Hi (Bp mk x.a (mkOf mk x.a)))):=by rw[<- hM2];exact oh Z.k
 have i2:M2[t]?=some (.ins 3 [(1,.ref p),(0,.ref q)]):=by rw[<- hM2,jh (jr R)];exact Z.i
 have l1:=Rc mk x.a (mkOf mk x.a);have s2:=abi (d:=dq (mkOf mk x.b)) k2 (Ga x.b) (by simp[Hi];lia);rw[abt] at s2;have l2:=Rc (Bp mk x.a (mkOf mk x.a)) x.b (mkOf mk x.b);generalize hM3:M2.set q (.dT (Hi (Bp (Bp mk x.a (mkOf mk x.a)) x.b (mkOf mk x.b))))=M3 at s2;have k3:M3[q]?=some (.dT (Hi (Bp (Bp mk x.a (mkOf mk x.a)) x.b (mkOf mk x.b)))):=by rw[<- hM3];exact oh k2
 have i3:M3[t]?=some (.ins 3 [(1,.ref p),(0,.ref q)]):=by rw[<- hM3,jh (jr R)];exact i2
 obtain⟨b4,M4,e4,k4,B4,l4⟩:=aod (m:=m-1) (b1:=some x.toD) (kept:=mkOf mk x.a) (gn:=mkOf mk x.b) i3 k3 (O7 (O7 I.nd _ _) _ _) (by lia) R;have x0:∀M,uo x.toD (.int 0) M=some (dq x.a):=λM=>Bd _ _
 have x1:∀M,uo x.toD (.int 1) M=some (dq x.b):=λM=>Hm _ _ _
 have f2:Hg (.ref t) 0 M2=some (.ref q):=by simp[Hg,i2,List.lookup]
 refine⟨M4,?_,⟨B4 _ _ R i3,?_,k4⟩,?_,?_⟩
 .simp only[Fn.run,P0,Pz]
  simp[ad1 T,Gz T.s,ap,Z.i,Kw,List.lookup,x0,x1,e1,arh Z,s1,f2,s2,e4]
 .refine B4 _ _ U ?_
  rw[<- hM3,jh (jr U),<- hM2,jh (jr U)];exact Z.s
 .intro a o n1 n2 h
  refine B4 a o n2 ?_;rw[<- hM3,jh (jr n2),<- hM2,jh (jr n2),<- hM1,jh (jr n1)];exact h
 .rw[l4,<- hM3,<- hM2,<- hM1];simp
def ajj{R:Mk}(hm:3<=m)(T:Tie t p q M ss R)(I:TI ss R)(hl:ss.length<=100)(a b:Y3)(y:D) :
 ∃U Z G,prog.call m 19 [.ref t,dq a,dq b,y] M=.ok .non U/\Tie t p q U Z G/\TI Z G/\J6 p q M U/\U.length=M.length/\(Z=ss/\G=R/\Em ss a b\/Z=ss++[⟨a,b,y⟩]/\¬Em ss a b):=by
 rw[call_of (bj (by decide) hm) rfl];have e1:=ad2 (m:=m-1) (a:=a) (b:=b) (by lia) T
 by_cases h:mkOf R a=mkOf R b
 .refine⟨M,ss,R,?_,T,I,J6.refl _ _ _,rfl,.inl ⟨rfl,rfl,(I.Vp _ _).mp h⟩⟩
  simp[Fn.run,Hv,Hu,T.i,Kw,List.lookup,e1,h]
 .obtain⟨U,e2,T2,B2,l2⟩:=aoe (m:=m-1) (by lia) T I ⟨a,b,y⟩ hl
  refine⟨U,_,_,?_,T2,aoa I _,B2,l2,.inr ⟨rfl,λq=>h ((I.Vp _ _).mpr q)⟩⟩;have qq:prog.call (m-1) 18 [.ref t,.tup [dq a,dq b,y]] M=_:=e2;simp[Fn.run,Hv,Hu,T.i,Kw,List.lookup,e1,h,qq]
theorem ajk{Z:List (List Nat)}(one:∀k,k<es.length->[k]∈Z)(U:∀w∈Z,∀u∈ext es w,u∈Z):∀(n:Nat){w:Y3},w.length=n->Way es w->w∈Z
 |0,w,h,W=>absurd (qx h) W.ne
 |n+1,w,h,W=>by
  obtain⟨u,k,rfl⟩:∃u k,w=u++[k]:=⟨w.dropLast,w.getLast W.ne,(vo W.ne).symm⟩;have R:k<es.length:=W.lt k (by simp)
  by_cases G:u=[]
  .subst G;exact one k R
  .have Wu:Way es u:=⟨G,λi hi=>W.lt i (ji _ hi),W.ch.init⟩
   have m:=ajk one U n (by simpa using h) Wu;exact U u m _ (di.mpr ⟨k,Ig.mpr ⟨R,Ze.last G W.ch⟩,rfl⟩)
def ajl(hm:2<=m)(E:Ends es V) :
 ∃(us:List (List Nat))(M':dm),prog.call m 13 [.tup (es.map aD)] M=.ok (.ref M.length) M'/\M'[M.length]?=some (.lst (us.map dq))/\us.length<=60/\m6 M M'/\(∀w∈us,Way es w)/\∀w,Way es w->w∈us:=by
 rw[call_of (bj (by decide) hm) rfl];have hn:es.length<=100000:=bj E.few (by decide)
 have c2:Bv.den (PW (m-1)) [some (.tup (es.map aD)),sR M.length,none,none,none,none] (M++[.lst []])=.ok (.vl (((List.range es.length).map λk=>[k]).map dq)) (M++[.lst []]):=by unfold Bv;rw[Eu (n:=es.length) (M1:=M++[.lst []]) (g:=λk=>dq [k]) (by simp[yx]) hn (λi hi=>⟨_,rfl,by simp[dq,nD]⟩)];simp[gw,ik]
 obtain⟨qk,M',a,us,b2,b3,R,U,rfl,g1,g2,g3,g4,g5⟩:=Ez (c:=(Ex.tru (.v 2)).den (PW (m-1))) (body:=Bu.den (PW (m-1)))
  (λn ρ G=>∃(Z us:List (List Nat))(f:D)(b3 R U:Option D),ρ=[some (.tup (es.map aD)),sR M.length,some f,b3,R,U]/\G[M.length]?=some (.lst (us.map dq))/\m6 M G/\gj G f=some (Z.map dq)/\Mt M.length f=true/\(∀w∈Z,Way es w)/\us.length+Phi es V Z<=60/\n=60-us.length/\(∀w∈us,Way es w)/\(∀k,k<es.length->[k]∈us++Z)/\∀w∈us,∀u∈ext es w,u∈us++Z)
  (fun ρ G=>∃(us:List (List Nat))(b2 b3 R U:Option D),ρ=[some (.tup (es.map aD)),sR M.length,b2,b3,R,U]/\G[M.length]?=some (.lst (us.map dq))/\m6 M G/\us.length<=60/\(∀w∈us,Way es w)/\∀w,Way es w->w∈us)
  (λn ρ G hI=>by
   obtain⟨Z,us,f,b3,R,U,rfl,g1,g2,g3,g4,g5,g6,rfl,g7,g8,g9⟩:=hI;have hs:=Dw g3
   by_cases hw:Z=[]
   .left
    subst hw;exact⟨G,by simp[hs],us,some f,b3,R,U,rfl,g1,g2,by lia,g7,λw W=>ajk (by simpa using g8) (by simpa using g9) _ rfl W⟩
   .right
    have Kp:=Dp es V Z;have qq:0<Z.length:=m7.mpr hw
    have x1:=adl g1 g3 g4 (by simp;lia);have k1:Hc M.length G (G.set M.length (.lst (us.map dq++Z.map dq))):=Hc.set _ _ _;have f1:=k1.gj g4 g3;generalize hM2:G.set M.length (.lst (us.map dq++Z.map dq))=M2 at x1 k1 f1;have t1:M2[M.length]?=some (.lst (us.map dq++Z.map dq)):=by rw[<- hM2];exact oh g1
    have f2:gj (M2++[.lst []]) f=some (Z.map dq):=(m6.app _ _).gj f1;have hr:Mt M2.length f=true:=by
     cases f with
     |ref n =>
      have:n<M2.length:=by
       cases e:M2[n]? with
       |none=>simp[MW.gj,e] at f1|some o=>exact t8 e
      simpa[Mt] using fu this
     |_=>rfl
    obtain⟨c4,c5,M3,e3,h3,k3⟩:=arf (m:=m-1) (a1:=sR M.length) (a4:=R) (a5:=U) (by lia) E f2 g5 (by lia) yl hr;have tl:M.length<M2.length:=t8 t1
    refine⟨G,.next,[some (.tup (es.map aD)),sR M.length,sR M2.length,sR M2.length,c4,c5],M3,60-(us++Z).length,?_,?_,.inl rfl,by simp;lia,Z.flatMap (ext es),us++Z,.ref M2.length,_,_,_,rfl,by rw[iz];exact k3 _ _ (fu tl) (yz t1),?_,jg h3,?_,?_,?_,rfl,?_,λk hk=>ji _ (g8 k hk),?_⟩
    .simp[hs,hw]
    .simp only[Bu]
     simp[Tj g1,x1,MW.new,e3]
    .intro a o h
     have ha:=t8 h;have:=g2 a o h;refine k3 a o (by lia) (yz ?_);rw[<- hM2,jh (by lia)];exact this
    .simpa[Mt] using tu tl
    .intro u hu
     obtain⟨w,h1,h2⟩:=List.mem_flatMap.mp hu;exact W6 (g5 w h1) h2
    .have:=Nt E Z
     rw[iy]
     lia
    .intro w hw
     rcases bz.mp hw with q|q
     .exact g7 w q
     .exact g5 w q
    .intro w hw u hu
     rcases bz.mp hw with q|q
     .exact ji _ (g9 w q u hu)
     .exact fj _ (List.mem_flatMap.mpr ⟨w,q,hu⟩))
  Wn 60 [some (.tup (es.map aD)),sR M.length,some (.vl (((List.range es.length).map λk=>[k]).map dq)),none,none,none] (M++[.lst []]) (by decide)
  ⟨((List.range es.length).map λk=>[k]),[],_,none,none,none,rfl,yl,m6.app _ _,rfl,rfl,(Wk.start E).way,by
    have:=(Wk.start E).few;rw[List.drop_zero,Dp] at this;simpa using this,rfl,by simp,by simpa using(Wk.start E).one,by simp⟩
 refine⟨us,M',?_,g1,g3,g2,g4,g5⟩;simp only[Fn.run,Ls,Lr];simp[-List.map_map,MW.new,c2,Ht,O2,a]
def So(s:Uv)(a b:Y3):Prop:=∀G Z,Sets s.es G Z->(s.gs.all (Xa s.es G Z))=true->∀x:Int,0<=x->x<Dd G (yu s.es a)->gone Z a x=gone Z b x
def Nz:gone acts (w++[k]) x=stp acts (gone acts w x) k:=by simp[gone,List.foldl_append]
def ajm(S:Sets es zs acts)(Z:k<es.length)(G:0<=x)(h:x<Dd zs (at_ es k).1):0<=stp acts x k/\stp acts x k<Dd zs (at_ es k).2 :=
 (S.r k Z).2 _ (adq G (by rw[(S.r k Z).1];exact h))
theorem ajn(S:Sets es zs acts):∀{w:Y3}{x:Int},Way es w->0<=x->x<Dd zs (yu es w)->0<=gone acts w x/\gone acts w x<Dd zs (xm es w)
 |[],_,W,_,_=>absurd rfl W.ne|[k],x,W,h0,h=>ajm S (W.lt k (by simp)) h0 h
 |a::b::r,x,W,h0,h=>by
  have m:=ajm S (W.lt a (by simp)) h0 h;have G:Way es (b::r):=⟨by simp,λi Z=>W.lt i (bh _ Z),W.ch.2⟩;have e:yu es (b::r)=(at_ es a).2:=W.ch.1.symm;have:=ajn S G m.1 (by rw[e];exact m.2);rw[Ea (by simp)];exact this
def So.refl:So s a a:=λ_ _ _ _ _ _ _=>rfl
def So.cons(h:So s a b)(hk:k<s.es.length)(e:(at_ s.es k).2=yu s.es a):So s (k::a) (k::b):=λU Z S g x G R=>by have m:=ajm S hk G R;exact h U Z S g _ m.1 (by rw[<- e];exact m.2)
def So.app(h:So s a b)(U:a≠[]):So s (a++[k]) (b++[k]):=λzs Z S g x R G=>by rw[Gs U] at G;rw[Nz,Nz,h zs Z S g x R G]
theorem ari:∀r:List Int,(yt r).length<=r.length
 |[]=>bc _
 |x::r=>by
  have:=ari r;unfold yt;split<;>simp<;>lia
theorem arj:∀{r:X9},(yt r).length=r.length->r.Nodup
 |[],_=>by simp
 |x::r,h=>by
  unfold yt at h;have l:=ari r;split at h
  .simp at h;lia
  .next q=>exact jy.mpr ⟨q,arj (by simpa using h)⟩
theorem ark:∀{r:X9},r.Nodup->yt r=r
 |[],_=>rfl
 |x::r,h=>by
  have h:=jy.mp h;unfold yt;rw[bw h.1,ark h.2]
def N5{r:X9}{x:Int}(Z:0<=x)(h:x<r.length):r[x.toNat]?=some (Dd r x):=by
 have:x.toNat<r.length:=by lia
 simp[Dd,List.getD,this]
def So.off(h:So s (a++[k]) (b++[k]))(B:J5 s.es a b)(hk:k<s.es.length)(e:(at_ s.es k).1=xm s.es a)(hg:.apart k∈s.gs):So s a b:=λzs Z S g x U hx=>by
 have q:=h zs Z S g x U (by rw[Gs B.one.ne];exact hx);rw[Nz,Nz] at q;have m:=iw.mp g _ hg;have nd:(u9 Z k).Nodup:=arj (by simpa[Xa] using m);have R:=ajn S B.one U hx;have G:=ajn S B.two U (by rw[<- B.st];exact hx);rw[<- e,<- (S.r k hk).1] at R;rw[<- B.go,<- e,<- (S.r k hk).1] at G;have g1:=N5 R.1 R.2;have g2:=N5 G.1 G.2;have q':Dd (u9 Z k) (gone Z a x)=Dd (u9 Z k) (gone Z b x):=q;rw[q'] at g1;have:=Fw nd g1 g2
 lia
theorem So.same(h:.same a b∈s.gs):So s a b:=λG Z S g x R U=>by have m:=iw.mp g _ h;have m:Dz Z (Dd G (yu s.es a)).toNat a b=true:=m;have:=iw.mp m x.toNat (jc.mpr (by lia));have:=jj this;rw[show((x.toNat:Nat):Int)=x by lia] at this;exact this
theorem So.trans(h1:So s a b)(h2:So s b c)(e:yu s.es a=yu s.es b):So s a c:=λU Z S g x G R=>(h1 U Z S g x G R).trans (h2 U Z S g x G (by rw[<- e];exact R))
theorem So.symm(G:So s a b)(e:yu s.es a=yu s.es b):So s b a:=λR Z S g x U hx=>(G R Z S g x U (by rw[e];exact hx)).symm
def So.Vp{Z:List Sp}(G:∀x∈Z,J5 s.es x.a x.b)(ho:∀x∈Z,So s x.a x.b)(W:Way s.es a)(h:Em Z a b):So s a b:=by
 induction h with
 |refl=>exact So.refl
 |step h0 U h2 R =>
  have B:=G _ U;have O:=ho _ U;have B0:=h0.bes G W;rcases h2 with⟨rfl,rfl⟩|⟨rfl,rfl⟩
  .exact R.trans O B0.st
  .exact R.trans (O.symm B.st) B0.st
structure Ts(s:Uv)(ws:List (List Nat))(t p q:Nat)(M:dm)(ss:List Sp)(mk:Mk):Prop where
 T:Tie t p q M ss mk
 I:TI ss mk
 c:Cv ws ss
 b:∀x∈ss,J5 s.es x.a x.b
 o:∀x∈ss,So s x.a x.b
def N6{mk:Mk}(A:Ts s G t p q M ss mk)(k:m6 M Z):Ts s G t p q Z ss mk:=⟨ajh A.T k,A.I,A.c,A.b,A.o⟩
def Tu{mk:Mk}(hm:3<=m)(L:Wys s.es ws)(A:Ts s ws t p q M ss mk)(B:J5 s.es a b)(O:So s a b)(y:D) :
 ∃G X Z,prog.call m 19 [.ref t,dq a,dq b,y] M=.ok .non G/\Ts s ws t p q G (ss++X) Z/\J6 p q M G/\G.length=M.length/\Em (ss++X) a b/\(X=[]->Z=mk):=by
 obtain⟨G,qq,Z,e,T',I',R,l',⟨rfl,rfl,h⟩|⟨rfl,h⟩⟩:=ajj hm A.T A.I (by have:=A.c.len;lia) a b y
 .exact⟨G,[],Z,e,⟨by simpa using T',by simpa using I',by simpa using A.c,by simpa using A.b,by simpa using A.o⟩,R,l',by simpa using h,λ_=>rfl⟩
 .refine⟨G,[⟨a,b,y⟩],Z,e,⟨T',I',A.c.step (L.all _ rfl B.one) (L.all _ rfl B.two) h,λx U=>?_,λx U=>?_⟩,R,l',.step .refl (fj _ cg) (.inl ⟨rfl,rfl⟩),λh=>by simp at h⟩
  .rcases bz.mp U with q|q
   .exact A.b x q
   .simp at q;subst q;exact B
  .rcases bz.mp U with q|q
   .exact A.o x q
   .simp at q;subst q;exact O
def Zn{R:Mk}(hm:3<=m)(L:Wys s.es ws)(A:Ts s ws t p q M ss R)(c:Prop)(h:c->J5 s.es a b/\So s a b)(y:D) :
 ∃G X Z,(c->prog.call m 19 [.ref t,dq a,dq b,y] M=.ok .non G)/\(¬c->G=M)/\Ts s ws t p q G (ss++X) Z/\J6 p q M G/\G.length=M.length/\(c->Em (ss++X) a b)/\(X=[]->Z=R):=by
 by_cases U:c
 .obtain⟨G,X,Z,e,A',B',l',g,i⟩:=Tu hm L A (h U).1 (h U).2 y
  exact⟨G,X,Z,λ_=>e,λq=>absurd U q,A',B',l',λ_=>g,i⟩
 .exact⟨M,[],R,λq=>absurd q U,λ_=>rfl,by simpa using A,J6.refl _ _ _,rfl,λq=>absurd q U,λ_=>rfl⟩
def pa1{mk:Mk}{x:Sp}(hm:3<=m)(E:Ends s.es V)(L:Wys s.es ws)(A:Ts s ws t p q M ss mk)(B:J5 s.es x.a x.b)(O:So s x.a x.b) :
 ∃X Z Gf Je M',Fv.den (PW m) [sR t,some (.tup (s.es.map aD)),some (dq x.a),some (dq x.b),b4,b5,b6] M=.ok (.next,[sR t,some (.tup (s.es.map aD)),some (dq x.a),some (dq x.b),b4,Gf,Je]) M'/\Ts s ws t p q M' (ss++X) Z/\J6 p q M M'/\M'.length=M.length/\(X=[]->Z=mk) /\
  ∀k,k<s.es.length->((at_ s.es k).2=yu s.es x.a->Em (ss++X) (k::x.a) (k::x.b))/\((at_ s.es k).1=xm s.es x.a->Em (ss++X) (x.a++[k]) (x.b++[k])):=by
 unfold Fv;have la:=Gr E B.one;have lb:=Gr E B.two;obtain⟨qv,M',e,X,Z,Gf,Je,rfl,h1,h2,h3,h4,h5⟩:=Js (W:=PW m) (it:=.v 1) (t:=.names [5,6]) (b:=Bw) (ρ:=[sR t,D.tup (s.es.map aD),dq x.a,dq x.b,b4,b5,b6]) (M:=M) (M1:=M) (ds:=s.es.map aD) rfl
  (λi ρ U=>∃(X:List Sp)(Z:Mk)(Gf Je:Option D),ρ=[sR t,some (.tup (s.es.map aD)),some (dq x.a),some (dq x.b),b4,Gf,Je]/\Ts s ws t p q U (ss++X) Z/\J6 p q M U/\U.length=M.length/\(X=[]->Z=mk) /\
   ∀k,k<i->((at_ s.es k).2=yu s.es x.a->Em (ss++X) (k::x.a) (k::x.b))/\((at_ s.es k).1=xm s.es x.a->Em (ss++X) (x.a++[k]) (x.b++[k])))
  ⟨[],mk,b5,b6,rfl,by simpa using A,J6.refl _ _ _,rfl,λ_=>rfl,λk hk=>absurd hk (n6 _)⟩
  (λi y ρ U hy hI=>by
   obtain⟨X,Z,Gf,Je,rfl,A1,B1,l1,i1,C1⟩:=hI;have hi:i<s.es.length:=by simpa using(ak.mp hy).1
   have ex:y=aD (at_ s.es i):=by simpa[Nq hi] using hy.symm
   subst ex;obtain⟨M2,X2,qk,e2,n2,A2,B2,l2,t2,i2⟩:=Zn (m:=m) (a:=i::x.a) (b:=i::x.b) hm L A1 ((at_ s.es i).2=yu s.es x.a) (λq=>⟨B.cons hi q,O.cons hi q⟩) (.tup [sD "put",.tup [.int i],.tup []]);obtain⟨M3,X3,qq,R,n3,A3,B3,l3,t3,i3⟩:=Zn (m:=m) (a:=x.a++[i]) (b:=x.b++[i]) hm L A2 ((at_ s.es i).1=xm s.es x.a) (λq=>⟨B.app hi q,O.app B.one.ne⟩) (.tup [sD "put",.tup [],.tup [.int i]]);have w1:=Lx (m:=m) (M:=U) (d:=.tup (s.es.map aD)) (by lia) rfl B.one;have w2:=O5 (m:=m) (M:=M2) (d:=.tup (s.es.map aD)) (by lia) rfl B.one;have r1:∀M,Ba .add (.tup [.int i]) (dq x.a) M=.ok (dq (i::x.a)) M:=λM=>Vn _ _ (by lia)
   have r2:∀M,Ba .add (.tup [.int i]) (dq x.b) M=.ok (dq (i::x.b)) M:=λM=>Vn _ _ (by lia)
   have r3:∀M,Ba .add (dq x.a) (.tup [.int i]) M=.ok (dq (x.a++[i])) M:=λM=>Hh _ _ (by lia)
   have r4:∀M,Ba .add (dq x.b) (.tup [.int i]) M=.ok (dq (x.b++[i])) M:=λM=>Hh _ _ (by lia)
   have as:ss++X++X2++X3=ss++(X++(X2++X3)):=by simp
   rw[as] at A3 t3;refine⟨_,.next,[sR t,some (.tup (s.es.map aD)),some (dq x.a),some (dq x.b),b4,sI i,some (aD (at_ s.es i))],M3,rfl,?_,.inl rfl,X++(X2++X3),qq,_,_,rfl,A3,(B1.trans B2).trans B3,by lia,?_,?_⟩
   .show Bw.den (PW m) [sR t,some (.tup (s.es.map aD)),some (dq x.a),some (dq x.b),b4,sI i,some (aD (at_ s.es i))] U=_
    have j1:=A1.T.i;have j2:=A2.T.i;simp only[Bw];unfold sD at e2 R
    by_cases c1:(at_ s.es i).2=yu s.es x.a
    .have e2:=e2 c1
     by_cases G:(at_ s.es i).1=xm s.es x.a
     .have R:=R G
      simp[Fz,Qj,w1,w2,Cq,um,c1,G,j1,j2,Kw,List.lookup,r1,r2,r3,r4,e2,R]
     .have n3:=n3 G
      simp[Fz,Qj,w1,w2,Cq,um,c1,G,j1,j2,Kw,List.lookup,r1,r2,r3,r4,e2,n3]
    .have n2:=n2 c1
     subst n2
     by_cases G:(at_ s.es i).1=xm s.es x.a
     .have R:=R G
      simp[Fz,Qj,w1,w2,Cq,um,c1,G,j1,j2,Kw,List.lookup,r1,r2,r3,r4,R]
     .have n3:=n3 G
      simp[Fz,Qj,w1,w2,Cq,um,c1,G,j1,j2,Kw,List.lookup,r1,r2,r3,r4,n3]
   .intro h
    simp at h;rw[i3 h.2.2,i2 h.2.1,i1 h.1]
   .intro k hk
    rw[<- as];rcases Nat.lt_or_eq_of_le (uz hk) with q|rfl
    .exact⟨λh=>((C1 k q).1 h).more.more,λh=>((C1 k q).2 h).more.more⟩
    .exact⟨λh=>(t2 h).more,λh=>by rw[as];exact t3 h⟩)
 rw[cz] at h5;exact⟨X,Z,Gf,Je,M',e,h1,h2,h3,h4,h5⟩
def Put(Z:List Ar)(U G:List Sp):Prop:=∀x∈U,∀k,k<Z.length->((at_ Z k).2=yu Z x.a->Em G (k::x.a) (k::x.b))/\((at_ Z k).1=xm Z x.a->Em G (x.a++[k]) (x.b++[k]))
def arl{Z:Mk}(A:Ts s G t p q M ss Z):t<M.length/\p<M.length/\q<M.length:=⟨t8 A.T.i,t8 A.T.s,t8 A.T.k⟩
def ayx{mk:Mk}(hm:4<=m)(E:Ends s.es V)(L:Wys s.es ws)(A:Ts s ws t p q M ss mk) :
 ∃X Z U,prog.call m 21 [.ref t,.tup (s.es.map aD)] M=.ok .non U/\Ts s ws t p q U (ss++X) Z/\J6 p q M U/\M.length<=U.length/\(X=[]->Z=mk)/\Put s.es ss (ss++X):=by
 rw[call_of (bj (by decide) hm) rfl];obtain⟨-,lp,lq⟩:=arl A;have li:uq .list [.ref p] M=.ok (.ref M.length) (M++[.lst (ss.map Sp.toD)]):=by have a:=Dw (jg A.T.s);simp only[uq,Jl,a,MW.new]
 obtain⟨qk,U,e,X,Z,b2,b3,b4,b5,R,rfl,A',B',l',i',C'⟩:=xg (W:=PW (m-1)) (it:=.blt .list (.o (.fld (.v 0) 1))) (t:=.names [2,3,4]) (b:=Bx) (ρ:=[sR t,D.tup (s.es.map aD),none,none,none,none,none]) (M:=M) (M1:=M++[.lst (ss.map Sp.toD)]) (d:=.ref M.length) (by simp[ad1 A.T,li]) (jg yl)
  (λi ρ G=>∃(X:List Sp)(Z:Mk)(b2 b3 b4 b5 R:Option D),ρ=[sR t,some (.tup (s.es.map aD)),b2,b3,b4,b5,R]/\Ts s ws t p q G (ss++X) Z/\J6 p q (M++[.lst (ss.map Sp.toD)]) G/\(M++[MO.lst (ss.map Sp.toD)]).length<=G.length/\(X=[]->Z=mk)/\Put s.es (ss.take i) (ss++X))
  ⟨[],mk,none,none,none,none,none,rfl,by simpa using N6 A (m6.app _ _),J6.refl _ _ _,bc _,λ_=>rfl,by intro x hx;simp at hx⟩
  (λi ρ G h=>by
   obtain⟨_,_,_,_,_,_,_,_,_,k,_⟩:=h;exact jg (k _ _ (by lia) (by lia) yl))
  (λi y ρ G hy hI=>by
   obtain⟨X,Z,b2,b3,b4,b5,R,rfl,A1,B1,l1,i1,C1⟩:=hI;obtain⟨x,hi,rfl⟩:∃x,ss[i]?=some x/\x.toD=y:=by simpa using hy
   have hx:=az hi;obtain⟨X2,qq,c5,c6,M2,e2,A2,B2,l2,i2,C2⟩:=pa1 (m:=m-1) (b4:=some x.y) (b5:=b5) (b6:=R) (by lia) E L A1 (A.b x hx) (A.o x hx);have as:ss++X++X2=ss++(X++X2):=by simp
   rw[as] at A2 C2;refine⟨_,.next,_,M2,rfl,by
    show Bx.den (PW (m-1)) [sR t,some (.tup (s.es.map aD)),some (dq x.a),some (dq x.b),some x.y,b5,R] G=_;simp only[Bx,Y0,e2];rfl,.inl rfl,X++X2,qq,_,_,_,_,_,rfl,A2,B1.trans B2,by lia,?_,?_⟩
   .intro h
    simp at h;rw[i2 h.2,i1 h.1]
   .rw[kh,hi]
    intro z hz k hk;rcases bz.mp hz with r|r
    .have:=C1 z r k hk
     rw[<- as];exact⟨λh=>(this.1 h).more,λh=>(this.2 h).more⟩
    .have r:z=x:=by simpa using r
     subst r;exact C2 k hk)
 simp only[cz,o6] at C';refine⟨X,Z,U,?_,A',(J6.of (m6.app _ _)).trans B',by simp at l';lia,i',C'⟩;have e':J0.den (PW (m-1)) _ M=_:=e;simp[Fn.run,Nj,Ni,e']
noncomputable def arw:Gn->Nat
 |.apart k=>k|.same _ _=>0
def Uv.ks(s:Uv):List Nat:=(s.gs.filter λg=>!Uy g).map arw
def ajo{s:Uv}{k:Nat}:k∈s.ks↔.apart k∈s.gs:=by
 unfold Uv.ks;rw[di];constructor
 .rintro⟨g,Z,rfl⟩
  obtain⟨U,G⟩:=uw.mp Z;cases g with
  |same a b=>cases G|apart k=>exact U
 .intro h
  exact⟨_,uw.mpr ⟨h,rfl⟩,rfl⟩
def ayy{s:Uv}(Z:1<=m)(G:s.gs.length<=8):prog.call m 14 [.tup (s.gs.map Gn.toD)] M=.ok (.vl (s.ks.map nD)) M:=by
 rw[call_of Z rfl];have c:Dg.den (PW (m-1)) [some (.tup (s.gs.map Gn.toD))] M=.ok (.vl (s.ks.map nD)) M:=by
  unfold Dg;rw[Dh (d:=.tup (s.gs.map Gn.toD)) (M1:=M) (xs:=s.gs) (f:=Gn.toD) (q:=λg=>!Uy g) (g:=λg=>nD (arw g)) rfl rfl (by lia) (λg U=>⟨_,rfl,by
   cases g<;>simp[Gn.toD,Uy,Xc.symm],λh=>by
   cases g with
   | same a b=>cases h|apart k=>simp[Gn.toD,arw,nD]⟩)]
  simp[Uv.ks,gw,ik]
 simp[Fn.run,Jz,Jy,c]
def Off(Z:List Ar)(G:List Sp)(k:Nat):Prop:=∀a b,Way Z a->Way Z b->xm Z a=(at_ Z k).1->xm Z b=(at_ Z k).1->Em G (a++[k]) (b++[k])->Em G a b
def atu{mk:Mk}(A:Ts s R t p q M ss mk)(U:f≠t)(G:f≠p)(Z:f≠q):Ts s R t p q (M.set f o) ss mk :=
 ⟨⟨by rw[jh U];exact A.T.i,by rw[jh G];exact A.T.s,by rw[jh Z];exact A.T.k⟩,A.I,A.c,A.b,A.o⟩
def abv{Z:Mk}(I:TI ss Z)(w:Y3):Em ss (mkOf Z w) w:=(I.Vp _ _).mp (I.id w)
structure Fst(es:List Ar)(k:Nat)(ss:List Sp)(F:Mk):Prop where
 h:∀x∈F,Way es x.2/\xm es x.2=(at_ es k).1/\Em ss (x.2++[k]) x.1
def ayz(h:M[n]?=some (.dT Z)):Jm .setdefault (.ref n) M=true:=by simp[Jm,h]
def to0{U F:Mk}(hg:.apart k∈s.gs)(hk:k<s.es.length)(A:Ts s ws t p q M ss U)(hf:M[f]?=some (.dT (Hi F)))(h1:f≠t)(h2:f≠p)(h3:f≠q)(S:Fst s.es k ss F)(hl:F.length<=1000)(W:Way s.es w)(hw:xm s.es w=(at_ s.es k).1) :
 ∃g G R,Dr .setdefault (.ref f) [dq (mkOf U (w++[k])),dq w] M=.ok (dq g) R/\Ts s ws t p q R ss U/\R[f]?=some (.dT (Hi G))/\Hc f M R/\R.length=M.length/\J5 s.es g w/\So s g w/\Fst s.es k ss G/\G.length<=F.length+1 /\
  mkOf U (w++[k])∈G.map (·.1)/\mkOf G (mkOf U (w++[k]))=g/\∀x∈F.map (·.1),x∈G.map (·.1)/\mkOf G x=mkOf F x:=by
 have tg:=abv A.I (w++[k]);generalize mkOf U (w++[k])=κ at tg;have sd:∀v,Bq (Hi F) (kx κ)=some v->Dr .setdefault (.ref f) [dq κ,dq w] M=.ok v M:=λv h=>by simp only[Dr,onT,hf,Ga,h]
 by_cases h:κ∈F.map (·.1)
 .have m:=adz h
  obtain⟨w1,w2,w3⟩:=S.h _ m;have tt:=w3.trans tg;have W1:=w1.app hk w2.symm;have B1:=tt.bes A.b W1;have B:J5 s.es (mkOf F κ) w:=⟨w1,W,by have:=B1.st;rw[Gs w1.ne,Gs W.ne] at this;exact this,w2.trans hw.symm⟩;have O:=So.off (So.Vp A.b A.o W1 tt) B hk w2.symm hg;refine⟨mkOf F κ,F,M,sd _ ?_,A,hf,Hc.refl _ _,rfl,B,O,S,by lia,h,rfl,λx Z=>⟨Z,rfl⟩⟩;obtain⟨v,e1,_⟩:=find_some h;rw[lk_row,mkOf,e1];rfl
 .have n:Bq (Hi F) (kx κ)=none:=by rw[lk_row,find_none h];rfl
  have lf:(Hi F).length<100000:=by simp[Hi];lia
  have qq:Hi F++[(kx κ,dq w)]=Hi (F++[(κ,w)]):=by simp[Hi]
  have fa:∀x∈F.map (·.1),mkOf (F++[(κ,w)]) x=mkOf F x:=λx Z=>by obtain⟨v,e1,_⟩:=find_some Z;rw[mkOf,mkOf,List.find?_append,e1];rfl
  refine⟨w,F++[(κ,w)],M.set f (.dT (Hi (F++[(κ,w)]))),?_,atu A h1 h2 h3,oh hf,Hc.set _ _ _,by simp,⟨W,W,rfl,rfl⟩,So.refl,⟨λx Z=>?_⟩,by simp,by simp,?_,λx Z=>⟨by rw[iz];exact ji _ Z,fa x Z⟩⟩
  .simp only[Dr,onT,hf,Ga,n,lf,jz,qq]
  .rcases bz.mp Z with r|r
   .exact S.h x r
   .have r:x=(κ,w):=by simpa using r
    subst r;exact⟨W,hw,tg.symm⟩
  .rw[mkOf,List.find?_append,find_none h];simp
def ajp(S:Fst es k ss F):Fst es k (ss++X) F:=⟨λx Z=>let ⟨a,b,c⟩:=S.h x Z;⟨a,b,c.more⟩⟩
def to1{mk:Mk}{k:Nat}(hm:3<=m)(E:Ends s.es V)(L:Wys s.es ws)(hg:.apart k∈s.gs)(hk:k<s.es.length)(A:Ts s ws t p q M ss mk)(hf:M[f]?=some (.dT []))(h1:f≠t)(h2:f≠p)(h3:f≠q)(B0:J6 p q M0 M)(l0:M0.length<=f)(qk:p<M0.length/\q<M0.length) :
 ∃X Z Gf G R,Hy.den (PW m) [sR t,some (.tup (s.es.map aD)),b2,sI k,sR f,b5,b6] M=.ok (.next,[sR t,some (.tup (s.es.map aD)),b2,sI k,sR f,Gf,G]) R/\Ts s ws t p q R (ss++X) Z/\J6 p q M0 R/\M.length<=R.length/\(X=[]->Z=mk/\Off s.es ss k):=by
 unfold Hy;obtain⟨us,M1,e1,g1,n1,k1,w1,a1⟩:=ajl (m:=m) (M:=M) (by lia) E;have fl:=t8 hf;obtain⟨qv,R,e,X,Z,F,Gf,G,rfl,A',B',l',-,-,-,-,C'⟩:=xg (W:=PW m) (it:=.call 13 (.o (.v 1))) (t:=.name 5) (b:=Ae) (ρ:=[sR t,D.tup (s.es.map aD),b2,sI k,sR f,b5,b6]) (M:=M) (M1:=M1) (d:=.ref M.length) (by simp[e1]) (jg g1)
  (λi ρ M2=>∃(X:List Sp)(Z F:Mk)(Gf G:Option D),ρ=[sR t,some (.tup (s.es.map aD)),b2,sI k,sR f,Gf,G]/\Ts s ws t p q M2 (ss++X) Z/\J6 p q M0 M2/\M.length<=M2.length/\M2[f]?=some (.dT (Hi F))/\M2[M.length]?=some (.lst (us.map dq))/\Fst s.es k (ss++X) F/\F.length<=i /\
   (X=[]->Z=mk/\∀w∈us.take i,xm s.es w=(at_ s.es k).1->mkOf mk (w++[k])∈F.map (·.1)/\Em ss w (mkOf F (mkOf mk (w++[k])))))
  ⟨[],mk,[],b5,b6,rfl,by simpa using N6 A k1,B0.trans (J6.of k1),m6.len k1,k1 _ _ hf,g1,⟨by simp⟩,bc _,λ_=>⟨rfl,by simp⟩⟩
  (λi ρ M2 h=>by
   obtain⟨_,_,_,_,_,_,_,_,_,_,k,_⟩:=h;exact jg k)
  (λi y ρ M2 hy hI=>by
   obtain⟨X,Z,F,Gf,G,rfl,A2,B2,l2,f2,u2,S2,n2,C2⟩:=hI;obtain⟨w,hi,rfl⟩:∃w,us[i]?=some w/\dq w=y:=by simpa using hy
   have il:=(ak.mp hi).1;have W:=w1 w (az hi);have wl:=Gr E W;have v1:=O5 (m:=m) (M:=M2) (d:=.tup (s.es.map aD)) (by lia) rfl W;have v2:=J1 (M:=M2) (d:=.tup (s.es.map aD)) rfl hk
   by_cases c:xm s.es w=(at_ s.es k).1
   .obtain⟨g,F',M3,e3,A3,f3,B3,l3,Bs,O,S3,n3,m3,q3,o3⟩:=to0 hg hk A2 f2 h1 h2 h3 S2 (by lia) W c
    obtain⟨M4,X4,qq,e4,A4,B4,l4,t4,i4⟩:=Tu (m:=m) hm L A3 Bs O (.tup [sD "off",.int k]);have mo:=Ny (m:=m) (w:=w++[k]) (by lia) A2.T;have r3:Ba .add (dq w) (.tup [.int k]) M2=.ok (dq (w++[k])) M2:=Hh _ _ (by lia);have as:ss++X++X4=ss++(X++X4):=by simp
    rw[as] at A4;have bt:J6 p q M0 M3:=λa o x1 x2 h=>B3 a o (by have:=t8 h;lia) (B2 a o x1 x2 h)
    refine⟨_,.next,[sR t,some (.tup (s.es.map aD)),b2,sI k,sR f,some (dq w),some (dq g)],M4,rfl,?_,.inl rfl,X++X4,qq,F',_,_,rfl,A4,bt.trans B4,by lia,B4 _ _ h2 h3 f3,B4 _ _ (by lia) (by lia) (B3 _ _ (by lia) u2),by rw[<- as];exact ajp S3,by lia,?_⟩
    .show Ae.den (PW m) [sR t,some (.tup (s.es.map aD)),b2,sI k,sR f,some (dq w),G] M2=_
     have j2:=A2.T.i;have j3:=A3.T.i;unfold sD at e4;simp only[Ae];simp[v1,v2,Fz,Cq,um,c,ayz f2,j2,j3,Kw,List.lookup,r3,mo,e3,e4]
    .intro U
     simp at U;obtain⟨rfl,rfl⟩:=U;obtain⟨rfl,C⟩:=C2 rfl;have i4:=i4 rfl;subst i4;refine⟨rfl,λu hu hc=>?_⟩;rw[kh,hi] at hu;rcases bz.mp hu with r|r
     .obtain⟨x1,x2⟩:=C u r hc
      obtain⟨y1,y2⟩:=o3 _ x1;exact⟨y1,by rw[y2];exact x2⟩
     .have r:u=w:=by simpa using r
      subst r;exact⟨m3,by rw[q3];simpa using t4.symm⟩
   .refine⟨_,.next,[sR t,some (.tup (s.es.map aD)),b2,sI k,sR f,some (dq w),G],M2,rfl,?_,.inl rfl,X,Z,F,_,_,rfl,A2,B2,l2,f2,u2,S2,by lia,λU=>⟨(C2 U).1,λu hu hc=>?_⟩⟩
    .show Ae.den (PW m) [sR t,some (.tup (s.es.map aD)),b2,sI k,sR f,some (dq w),G] M2=_
     simp only[Ae];simp[v1,v2,Fz,Cq,um,c]
    .rw[kh,hi] at hu
     rcases bz.mp hu with r|r
     .exact(C2 U).2 u r hc
     .have r:u=w:=by simpa using r
      subst r;exact absurd hc c)
 simp only[cz,o6] at C';refine⟨X,Z,Gf,G,R,e,A',B',l',λU=>⟨(C' U).1,λa b Wa Wb ga gb tg=>?_⟩⟩;obtain⟨x1,x2⟩:=(C' U).2 a (a1 a Wa) ga;obtain⟨y1,y2⟩:=(C' U).2 b (a1 b Wb) gb;rw[(A.I.Vp _ _).mpr tg] at x2;exact x2.trans y2.symm
def ay0{mk:Mk}(hm:4<=m)(h:Fy s V)(L:Wys s.es ws)(A:Ts s ws t p q M ss mk) :
 ∃X Z U,prog.call m 22 [.ref t,.tup (s.es.map aD),.vl (s.ks.map nD)] M=.ok .non U/\Ts s ws t p q U (ss++X) Z/\J6 p q M U/\M.length<=U.length/\(X=[]->Z=mk/\∀k,.apart k∈s.gs->Off s.es ss k):=by
 rw[call_of (bj (by decide) hm) rfl];obtain⟨lt,lp,lq⟩:=arl A;obtain⟨qk,U,e,X,Z,b3,b4,b5,R,rfl,A',B',l',C'⟩:=xg (W:=PW (m-1)) (it:=.v 2) (t:=.name 3) (b:=Es) (ρ:=[sR t,D.tup (s.es.map aD),D.vl (s.ks.map nD),none,none,none,none]) (M:=M) (M1:=M) (d:=.vl (s.ks.map nD)) rfl rfl
  (λi ρ G=>∃(X:List Sp)(Z:Mk)(b3 b4 b5 R:Option D),ρ=[sR t,some (.tup (s.es.map aD)),some (.vl (s.ks.map nD)),b3,b4,b5,R]/\Ts s ws t p q G (ss++X) Z/\J6 p q M G/\M.length<=G.length/\(X=[]->Z=mk/\∀k∈s.ks.take i,Off s.es ss k))
  ⟨[],mk,none,none,none,none,rfl,by simpa using A,J6.refl _ _ _,bc _,λ_=>⟨rfl,by simp⟩⟩
  (λ_ _ _ _=>rfl)
  (λi y ρ G hy hI=>by
   obtain⟨X,Z,b3,b4,b5,R,rfl,A1,B1,l1,C1⟩:=hI;obtain⟨k,hi,rfl⟩:∃k,s.ks[i]?=some k/\nD k=y:=by simpa using hy
   have hg:=ajo.mp (az hi);have hk:k<s.es.length:=h.gs _ hg
   have A2:=N6 A1 (m6.app G [.dT []]);obtain⟨X3,qq,c5,c6,M3,e3,A3,B3,l3,C3⟩:=to1 (m:=m-1) (b2:=some (.vl (s.ks.map nD))) (b5:=b5) (b6:=R) (M0:=M) (by lia) h.E L hg hk A2 yl (by lia) (by lia) (by lia) (B1.trans (J6.of (m6.app _ _))) l1 ⟨lp,lq⟩;have as:ss++X++X3=ss++(X++X3):=by simp
   rw[as] at A3;refine⟨_,.next,[sR t,some (.tup (s.es.map aD)),some (.vl (s.ks.map nD)),sI k,sR G.length,c5,c6],M3,rfl,by
    show Es.den (PW (m-1)) [sR t,some (.tup (s.es.map aD)),some (.vl (s.ks.map nD)),sI k,b4,b5,R] G=_;simp[Es,MW.new,e3],.inl rfl,X++X3,qq,_,_,_,_,rfl,A3,B3,by simp at l3;lia,?_⟩
   intro hx;simp at hx;obtain⟨rfl,rfl⟩:=hx;obtain⟨rfl,D1⟩:=C1 rfl;obtain⟨rfl,D3⟩:=C3 rfl;refine⟨rfl,λj hj=>?_⟩;rw[kh,hi] at hj;rcases bz.mp hj with r|r
   .exact D1 j r
   .have r:j=k:=by simpa using r
    subst r;simpa using D3)
 simp only[cz,o6] at C';refine⟨X,Z,U,?_,A',B',l',λhx=>⟨(C' hx).1,λk hk=>(C' hx).2 k (ajo.mpr hk)⟩⟩;have e':Nk.den (PW (m-1)) _ M=_:=e;simp[Fn.run,Sy,Sx,e']
def aof(G:1<=m):prog.call m 15 [.ref M.length] (M++[.ins 3 []])=.ok .non (M++[.ins 3 [(1,.ref (M.length+1)),(0,.ref (M.length+2))],.lst [],.dT []]):=by
 rw[call_of G rfl];have Z:Ry (.ref M.length) 1 (.ref (M.length+1)) (M++[.ins 3 [],.lst []])=some (M++[.ins 3 [(1,.ref (M.length+1))],.lst []]):=by simp[Ry,Rx]
 have U:Ry (.ref M.length) 0 (.ref (M.length+2)) (M++[.ins 3 [(1,.ref (M.length+1))],.lst [],.dT []])=some (M++[.ins 3 [(1,.ref (M.length+1)),(0,.ref (M.length+2))],.lst [],.dT []]):=by simp[Ry,Rx]
 simp[Fn.run,K5,K1,MW.new,Z,U]
structure Clo(s:Uv)(ss:List Sp):Prop where
 put:Put s.es ss ss
 off:∀k,.apart k∈s.gs->Off s.es ss k
 same:∀a b,.same a b∈s.gs->Em ss a b
def at1{mk:Mk}(hm:3<=m)(h:Fy s V)(L:Wys s.es ws)(A:Ts s ws t p q M [] mk) :
 ∃U Z b2 b3 R,Hx.den (PW m) [some s.toD,sR t,none,none,none] M=.ok (.next,[some s.toD,sR t,b2,b3,none]) R/\Ts s ws t p q R U Z/\J6 p q M R/\M.length<=R.length/\∀a b,.same a b∈s.gs->Em U a b:=by
 unfold Hx;have i1:∀M,uo s.toD (.int 1) M=some (.tup (s.gs.map Gn.toD)):=λM=>Hm _ _ _
 obtain⟨qk,R,e,U,Z,b2,b3,rfl,A',B',l',C'⟩:=Js (W:=PW m) (it:=.ix (.v 0) (.i 1)) (t:=.names [2,3]) (b:=Ad) (ρ:=[some s.toD,sR t,none,none,none]) (M:=M) (M1:=M) (ds:=s.gs.map Gn.toD) (by simp[i1])
  (λi ρ G=>∃(U:List Sp)(Z:Mk)(b2 b3:Option D),ρ=[some s.toD,sR t,b2,b3,none]/\Ts s ws t p q G U Z/\J6 p q M G/\M.length<=G.length/\∀a b,.same a b∈s.gs.take i->Em U a b)
  ⟨[],mk,none,none,rfl,A,J6.refl _ _ _,bc _,by simp⟩
  (λi y ρ G hy hI=>by
   obtain⟨U,Z,b2,b3,rfl,A1,B1,l1,C1⟩:=hI;obtain⟨g,hi,rfl⟩:∃g,s.gs[i]?=some g/\g.toD=y:=by simpa using hy
   have hg:=az hi;cases g with
   |same a b =>
    obtain⟨M2,X,qq,e2,A2,B2,l2,t2,-⟩:=Tu (m:=m) hm L A1 (h.gs _ hg) (So.same hg) (.tup [sD "given",.int i]);refine⟨_,.next,[some s.toD,sR t,sI i,some (Gn.toD (.same a b)),none],M2,rfl,?_,.inl rfl,U++X,qq,_,_,rfl,A2,B1.trans B2,by lia,λc d hc=>?_⟩
    .show Ad.den (PW m) [some s.toD,sR t,sI i,some (Gn.toD (.same a b)),none] G=_
     unfold sD at e2;have j:=A1.T.i;have x0:uo (Gn.toD (.same a b)) (.int 0) G=some (.str (PySem.Str.ofString "same")):=Bd _ _;have x1:uo (Gn.toD (.same a b)) (.int 1) G=some (dq a):=Hm _ _ _;have x2:uo (Gn.toD (.same a b)) (.int 2) G=some (dq b):=Q6 _ _ _ _;simp[Ad,x0,x1,x2,j,Kw,List.lookup,e2]
    .rw[kh,hi] at hc
     rcases bz.mp hc with r|r
     .exact(C1 c d r).more
     .have r:Gn.same c d=Gn.same a b:=j4.mp r
      cases r;exact t2
   |apart k =>
    refine⟨_,.next,[some s.toD,sR t,sI i,some (Gn.toD (.apart k)),none],G,rfl,?_,.inl rfl,U,Z,_,_,rfl,A1,B1,l1,λc d hc=>?_⟩
    .show Ad.den (PW m) [some s.toD,sR t,sI i,some (Gn.toD (.apart k)),none] G=_
     have x0:uo (Gn.toD (.apart k)) (.int 0) G=some (.str (PySem.Str.ofString "apart")):=Bd _ _;simp[Ad,x0,Xc]
    .rw[kh,hi] at hc
     rcases bz.mp hc with r|r
     .exact C1 c d r
     .cases j4.mp r)
 rw[cz,o6] at C';exact⟨U,Z,b2,b3,R,e,A',B',l',C'⟩
def abw(hm:5<=m)(h:Fy s V)(L:Wys s.es ws):∃p q Z U M',prog.call m 20 [s.toD] M=.ok (.ref M.length) M'/\Ts s ws M.length p q M' Z U/\Clo s Z/\m6 M M':=by
 rw[call_of (bj (by decide) hm) rfl];have e0:=aof (m:=m-1) (M:=M) (by lia);generalize hM1:M++[.ins 3 [(1,.ref (M.length+1)),(0,.ref (M.length+2))],.lst [],.dT []]=M1 at e0;have k1:m6 M M1:=hM1▸m6.app _ _;have l1:M1.length=M.length+3:=by rw[<- hM1];simp
 have A1:Ts s ws M.length (M.length+1) (M.length+2) M1 [] []:=⟨⟨by rw[<- hM1];simp,by rw[<- hM1];simp,by rw[<- hM1];simp[Hi]⟩,atn,⟨ws,λw hw=>⟨w,hw,.refl⟩,by simpa using L.few⟩,by simp,by simp⟩;obtain⟨R,qq,b2,b3,M2,e2,A2,B2,l2,C2⟩:=at1 (m:=m-1) (by lia) h L A1;have i0:∀M,uo s.toD (.int 0) M=some (.tup (s.es.map aD)):=λM=>Bd _ _
 have i1:∀M,uo s.toD (.int 1) M=some (.tup (s.gs.map Gn.toD)):=λM=>Hm _ _ _
 obtain⟨qv,M',e,Z,U,z,rfl,A',B',l',C'⟩:=Ez (c:=(Ex.cmp .ne (.v 4) (.l (.fld (.v 1) 1))).den (PW (m-1))) (body:=Hw.den (PW (m-1)))
  (λn ρ G=>∃(Z:List Sp)(U:Mk)(z:Int),ρ=[some s.toD,sR M.length,b2,b3,sI z]/\Ts s ws M.length (M.length+1) (M.length+2) G Z U/\J6 (M.length+1) (M.length+2) M1 G/\M1.length<=G.length/\(∀a b,.same a b∈s.gs->Em Z a b)/\(z=(Z.length:Int)->Put s.es Z Z/\∀k,.apart k∈s.gs->Off s.es Z k)/\n=if z=(Z.length:Int) then 0 else 1+(60-Z.length))
  (fun ρ G=>∃(Z:List Sp)(U:Mk)(z:Int),ρ=[some s.toD,sR M.length,b2,b3,sI z]/\Ts s ws M.length (M.length+1) (M.length+2) G Z U/\J6 (M.length+1) (M.length+2) M1 G/\M1.length<=G.length/\Clo s Z)
  (λn ρ G hI=>by
   obtain⟨Z,U,z,rfl,A3,B3,l3,C3,D3,rfl⟩:=hI;have ln:=len_list (jg A3.T.s);rw[cz] at ln;have fs:=ad1 A3.T
   by_cases c:z=(Z.length:Int)
   .left
    exact⟨G,by simp[fs,ln,um,Wt,c],Z,U,z,rfl,A3,B3,l3,⟨(D3 c).1,(D3 c).2,C3⟩⟩
   .right
    obtain⟨X,q0,M4,e4,A4,B4,l4,-,P4⟩:=ayx (m:=m-1) (by lia) h.E L A3;obtain⟨Y,qk,M5,e5,A5,B5,l5,C5⟩:=ay0 (m:=m-1) (by lia) h L A4;have ap:=ayy (m:=m-1) (M:=M4) (s:=s) (by lia) h.few;have n3:=A3.c.len;have n5:=A5.c.len;refine⟨G,.next,[some s.toD,sR M.length,b2,b3,sI (Z.length:Nat)],M5,_,by simp[fs,ln,um,Wt,c],?_,.inl rfl,?_,Z++X++Y,qk,Z.length,rfl,A5,(B3.trans B4).trans B5,by lia,λa b hg=>(C3 a b hg).more.more,λq=>?_,rfl⟩
    .simp[Hw,fs,ln,i0,i1,e4,ap,e5]
    .rw[bw c]
     simp only[iy] at n5 ⊢;split<;>lia
    .simp at q
     have hX:X=[]:=qx (by lia);have hY:Y=[]:=qx (by lia);subst hX;subst hY;simp at P4 C5 ⊢;exact⟨P4,C5.2⟩)
  Wn (1+(60-R.length)) [some s.toD,sR M.length,b2,b3,sI (-1)] M2 (yj (show 1+(60-R.length)<=61 by lia) (by decide))
  ⟨R,qq,-1,rfl,A2,B2,by lia,C2,λq=>by lia,(bw (by lia)).symm⟩
 refine⟨M.length+1,M.length+2,Z,U,M',?_,A',C',λa o ha=>B' a o (by have:=t8 ha;lia) (by have:=t8 ha;lia) (k1 a o ha)⟩;simp only[Fn.run,Sw,Sv,Nh];simp[Kw,e0,e2,O2];have e':Br _ _ Wn [some s.toD,sR M.length,b2,b3,sI (-1)] M2=_:=e;simp[e']
def ajq(E:Ends es V)(W:Way es w):V (xm es w)<V (yu es w):=by
 have a:=aii E W;have b:=V_lt E W.Et;have c:1<=w.length:=m7.mpr W.ne
 show V (xm es w)<V (at_ es (hw w)).1
 lia
def Xg(W:Way es (k::w))(h:w≠[]):Way es w/\yu es w=(at_ es k).2:=by obtain⟨b,r,rfl⟩:=List.exists_cons_of_ne_nil h;exact⟨⟨by simp,λi Z=>W.lt i (bh _ Z),W.ch.2⟩,W.ch.1.symm⟩
theorem ad4:∀{u:Y3},Way es u->Way es w->xm es u=yu es w->Way es (u++w)/\yu es (u++w)=yu es u/\xm es (u++w)=xm es w
 |[],U,_,_=>absurd rfl U.ne|[k],U,W,e=>⟨W.cons (U.lt k (by simp)) e,rfl,Ea W.ne⟩
 |a::b::r,U,W,e=>by
  obtain⟨Z,G⟩:=Xg U (by simp);rw[Ea (by simp)] at e;obtain⟨x,y,z⟩:=ad4 Z W e;exact⟨x.cons (U.lt a (by simp)) (by rw[y];exact G.symm),rfl,by rw[show a::b::r++w=a::(b::r++w) from rfl,Ea x.ne,z]⟩
def ajr(C:Clo s ss)(G:∀x∈ss,J5 s.es x.a x.b)(W:Way s.es a)(hk:k<s.es.length)(e:(at_ s.es k).1=xm s.es a)(h:Em ss a b):Em ss (a++[k]) (b++[k]):=by
 induction h with
 |refl=>exact .refl
 |step h0 Z R ih =>
  have U:=h0.bes G W;have B1:=G _ Z;refine ih.trans ?_;have c:=(C.put _ Z k hk).2;rcases R with⟨rfl,rfl⟩|⟨rfl,rfl⟩
  .exact c (e.trans U.go)
  .exact(c (e.trans (U.go.trans B1.go.symm))).symm
def ad5(C:Clo s ss)(G:∀x∈ss,J5 s.es x.a x.b)(W:Way s.es a)(hk:k<s.es.length)(e:(at_ s.es k).2=yu s.es a)(h:Em ss a b):Em ss (k::a) (k::b):=by
 induction h with
 |refl=>exact .refl
 |step h0 Z R ih =>
  have U:=h0.bes G W;have B1:=G _ Z;refine ih.trans ?_;have c:=(C.put _ Z k hk).1;rcases R with⟨rfl,rfl⟩|⟨rfl,rfl⟩
  .exact c (e.trans U.st)
  .exact(c (e.trans (U.st.trans B1.st.symm))).symm
theorem Vq(C:Clo s ss)(Z:∀x∈ss,J5 s.es x.a x.b):∀{w a b:Y3},Way s.es w->Way s.es a->yu s.es w=xm s.es a->Em ss a b->Em ss (a++w) (b++w)
 |[],_,_,W,_,_,_=>absurd rfl W.ne|[k],a,b,W,A,e,h=>ajr C Z A (W.lt k (by simp)) e h
 |k::j::r,a,b,W,A,e,h=>by
  obtain⟨U,R⟩:=Xg W (by simp);have G:=W.lt k (by simp);have:=Vq C Z (a:=a++[k]) (b:=b++[k]) U (A.app G e) (by rw[R,Nu]) (ajr C Z A G e h);simpa using this
theorem Zo(C:Clo s ss)(Z:∀x∈ss,J5 s.es x.a x.b)(A:Way s.es a)(h:Em ss a b):∀{u:Y3},Way s.es u->xm s.es u=yu s.es a->Em ss (u++a) (u++b)
 |[],U,_=>absurd rfl U.ne|[k],U,e=>ad5 C Z A (U.lt k (by simp)) e h
 |k::j::r,U,e=>by
  obtain⟨G,s'⟩:=Xg U (by simp);rw[Ea (by simp)] at e;obtain⟨x,y,z⟩:=ad4 G A e;have R:(at_ s.es k).2=yu s.es (j::r++a):=by rw[y];exact s'.symm
  exact ad5 C Z x (U.lt k (by simp)) R (Zo C Z A h G e)
def ajs{Z:Mk}(I:TI ss Z)(G:∀x∈ss,J5 es x.a x.b)(W:Way es w):J5 es w (mkOf Z w):=(abv I w).symm.bes G W
structure Rw(es:List Ar)(st:Nat)(mk:Mk)(cr:Nat->List (List Nat))(P:List Nat->Prop):Prop where
 nd:∀v,(cr v).Nodup
 el:∀v,∀u∈cr v,(u=[]/\v=st)\/(Way es u/\yu es u=st/\xm es u=v/\mkOf mk u=u)
 nil:[]∈cr st
 all:∀w,P w->Way es w->yu es w=st->mkOf mk w∈cr (xm es w)
noncomputable def Tv(l:List (List Nat))(u:Y3):Nat:=(l.map λf=>decide (f=u)).findIdx id
def N7{l:List (List Nat)}{u:Y3}(h:u∈l):l[Tv l u]?=some u:=by
 induction l with
 |nil=>cases h
 |cons x l Z =>
  by_cases e:x=u
  .simp[Tv,List.findIdx_cons,e]
  .have h:u∈l:=by simpa[jr e] using h
   have:=Z h;have q:Tv (x::l) u=Tv l u+1:=by simp[Tv,List.findIdx_cons,e]
   rw[q];simpa using this
def ajt{l:List (List Nat)}{u:Y3}(h:u∈l):Tv l u<l.length:=(ak.mp (N7 h)).1
def ad6{l:List (List Nat)}{u v:Y3}(h:u∈l)(k:v∈l)(e:Tv l u=Tv l v):u=v:=by have a:=N7 h;rw[e,N7 k] at a;exact(gq a).symm
def atv{l:List (List Nat)}{u:Y3}(Z:l.Nodup)(h:l[i]?=some u):Tv l u=i:=Fw Z (N7 (az h)) h
def Uz(G:List Ar)(U:Mk)(Z:Nat->List (List Nat))(k:Nat):List Int:=(Z (at_ G k).1).map λu=>((Tv (Z (at_ G k).2) (mkOf U (u++[k])):Nat):Int)
def N8(Z:List Ar)(G:Mk)(U:Nat->List (List Nat)):List (List Int):=(List.range Z.length).map (Uz Z G U)
def bSz(G:List Ar)(Z:Nat->List (List Nat)):List Int:=(List.range (Ag G+1)).map λv=>((Z v).length:Int)
def ad7(Z:k<es.length):u9 (N8 es mk cr) k=Uz es mk cr k:=by simp[u9,N8,List.getD,Z]
def aoi(Z:v<=Ag es):Dd (bSz es cr) (v:Nat)=((cr v).length:Int):=by
 have:v<Ag es+1:=by lia
 simp[Dd,bSz,List.getD,this]
def ad8{U:Mk}(R:Rw es st U cr P)(Z:k<es.length)(hu:u∈cr (at_ es k).1):Way es (u++[k])/\yu es (u++[k])=st/\xm es (u++[k])=(at_ es k).2:=by
 rcases R.el _ u hu with⟨rfl,e⟩|⟨W,G,e2,_⟩
 .exact⟨Way.one Z,e,rfl⟩
 .exact⟨W.app Z e2.symm,by rw[Gs W.ne];exact G,Nu _ _⟩
def Oa{Z:Mk}(R:Rw es st Z cr λ_=>True)(hk:k<es.length)(U:u∈cr (at_ es k).1):mkOf Z (u++[k])∈cr (at_ es k).2:=by obtain⟨W,G,e2⟩:=ad8 R hk U;have:=R.all _ trivial W G;rw[e2] at this;exact this
def arn{mk:Mk}(G:k<es.length)(Z:u∈cr (at_ es k).1):stp (N8 es mk cr) (Tv (cr (at_ es k).1) u:Nat) k=(Tv (cr (at_ es k).2) (mkOf mk (u++[k])):Nat):=by unfold stp;rw[ad7 G,Uz,Dd,List.getD,gf,jt,N7 Z];rfl
theorem aro{mk:Mk}(I:TI ss mk)(G:∀x∈ss,J5 s.es x.a x.b)(C:Clo s ss)(R:Rw s.es st mk cr λ_=>True):∀{w u:Y3},Way s.es w->u∈cr (yu s.es w)->gone (N8 s.es mk cr) w (Tv (cr (yu s.es w)) u:Nat)=(Tv (cr (xm s.es w)) (mkOf mk (u++w)):Nat)
 |[],_,W,_=>absurd rfl W.ne|[k],u,W,hu=>arn (W.lt k (by simp)) hu
 |k::j::r,u,W,hu=>by
  obtain⟨W',Z⟩:=Xg W (by simp);have U:=W.lt k (by simp);have m:=Oa R U hu;have ih:=aro I G C R (w:=j::r) (u:=mkOf mk (u++[k])) W' (by rw[Z];exact m);rw[Z] at ih;have e1:=arn (mk:=mk) (es:=s.es) (cr:=cr) (k:=k) U hu;show gone (N8 s.es mk cr) (j::r) (stp (N8 s.es mk cr) (Tv (cr (at_ s.es k).1) u:Nat) k)=_;rw[e1,ih,Ea (k:=k) (w:=j::r) (by simp)];obtain⟨Wu,x1,x2⟩:=ad8 R U hu;have B:=ajs I G Wu;have tg:=Vq C G W' B.two (by rw[Z,<- B.go,x2]) (abv I (u++[k]));rw[(I.Vp _ _).mpr tg];simp
def atw{G:Mk}(E:Ends es V)(R:Rw es st G cr λ_=>True):Sets es (bSz es cr) (N8 es G cr):=by
 refine⟨by simp[bSz],by simp[N8],λz hz=>?_,λk Z=>?_⟩
 .obtain⟨v,_,rfl⟩:=di.mp hz;exact ir _
 .have t:=Lz (J2 Z)
  refine⟨?_,λx U=>?_⟩
  .rw[ad7 Z,aoi t.1];simp[Uz]
  .rw[ad7 Z] at U
   obtain⟨u,hu,rfl⟩:=di.mp U;rw[aoi t.2];have:=ajt (Oa R Z hu)
   lia
def Rg(W:Way es w):yu es w<=Ag es/\xm es w<=Ag es:=⟨(Lz (J2 W.Et)).1,(Lz (J2 W.Q9)).2⟩
def ay1{G:Mk}(h:Fy s V)(I:TI ss G)(hb:∀x∈ss,J5 s.es x.a x.b)(C:Clo s ss)(R:Rw s.es (yu s.es s.a) G cr λ_=>True)(hn:mkOf G s.a≠mkOf G s.b):Brk s (bSz s.es cr) (N8 s.es G cr):=by
 have Z:=fun{w u:Y3}=>aro (w:=w) (u:=u) I hb C R
 refine⟨atw h.E R,?_,iw.mpr λg hg=>?_⟩
 .rw[aoi (Rg h.W7.one).1,jt]
  have l1:=Z h.W7.one R.nil;have l2:=Z h.W7.two (by rw[<- h.W7.st];exact R.nil);have m1:=R.all _ trivial h.W7.one rfl;have m2:=R.all _ trivial h.W7.two h.W7.st.symm;rw[<- h.W7.st,<- h.W7.go] at l2;rw[<- h.W7.go] at m2;cases q:Dz (N8 s.es G cr) (cr (yu s.es s.a)).length s.a s.b with
  |false=>rfl
  |true =>
   have:=iw.mp q (Tv (cr (yu s.es s.a)) []) (jc.mpr (ajt R.nil));have:=jj this;rw[l1,l2] at this;exact absurd (ad6 m1 m2 (D_ this)) hn
 .cases g with
  |same a b =>
   have B:J5 s.es a b:=h.gs _ hg;show Dz _ (Dd (bSz s.es cr) (yu s.es a)).toNat a b=true;rw[aoi (Rg B.one).1,jt];refine iw.mpr λx hx=>vh ?_
   have hx:=jc.mp hx;obtain⟨u,U⟩:∃u,(cr (yu s.es a))[x]?=some u:=⟨_,dw hx⟩;have mu:=az U;have ex:=atv (R.nd _) U;have l1:=Z B.one mu;have l2:=Z B.two (by rw[<- B.st];exact mu);rw[<- B.st,<- B.go] at l2;rw[ex] at l1 l2;have tg:Em ss (u++a) (u++b):=by
    have t0:=C.same a b hg;rcases R.el _ u mu with⟨rfl,_⟩|⟨W,_,e2,_⟩
    .exact t0
    .exact Zo C hb B.one t0 W e2
   rw[l1,l2,(I.Vp _ _).mpr tg]
  |apart k =>
   have hk:k<s.es.length:=h.gs _ hg
   show decide ((yt (u9 (N8 s.es G cr) k)).length=(u9 (N8 s.es G cr) k).length)=true;rw[ad7 hk];refine vh (nq _ (ark ?_));have inj:∀u∈cr (at_ s.es k).1,∀v∈cr (at_ s.es k).1,mkOf G (u++[k])=mkOf G (v++[k])->u=v:=λu U v hv e=>by
    have no:∀w,w∈cr (at_ s.es k).1->(at_ s.es k).1=yu s.es s.a->w=[]:=λw hw q=>by
     rcases R.el _ w hw with⟨rfl,_⟩|⟨W,e1,e2,_⟩
     .rfl
     .have:=ajq h.E W
      rw[e1,e2,q] at this
      lia
    rcases R.el _ u U with⟨r,q⟩|⟨W1,a1,a2,a3⟩
    .rw[r,no v hv q]
    .rcases R.el _ v hv with⟨r,q⟩|⟨W2,b1,b2,b3⟩
     .rw[r,no u U q]
     .have:=C.off k hg u v W1 W2 a2 b2 ((I.Vp _ _).mp e)
      rw[<- a3,<- b3];exact(I.Vp _ _).mpr this
   have nd:∀l:List (List Nat),l.Nodup->(∀u∈l,u∈cr (at_ s.es k).1)->(l.map λu=>((Tv (cr (at_ s.es k).2) (mkOf G (u++[k])):Nat):Int)).Nodup:=λl=>by
    induction l with
    |nil=>intro _ _;simp
    |cons x l ih =>
     intro nd hl;have nd:=jy.mp nd;rw[dg];refine jy.mpr ⟨λq=>?_,ih nd.2 λu U=>hl u (bh _ U)⟩;obtain⟨y,h1,h2⟩:=di.mp q;have hx:=hl x cg;have hy:=hl y (bh _ h1);have e:=ad6 (Oa R hk hy) (Oa R hk hx) (D_ h2);exact nd.1 (inj y hy x hx e▸h1)
   exact nd _ (R.nd _) λ_ h=>h
def ay2{mk:Mk}(E:Ends es V)(L:Wys es ws)(R:Rw es st mk cr P)(U:k<es.length):(cr (at_ es k).1).length<=30:=by
 by_cases e:(at_ es k).1=st
 .have:(cr (at_ es k).1).length<=[([]:Y3)].length:=abo (R.nd _) λw hw=>by
   rcases R.el _ w hw with⟨rfl,_⟩|⟨W,e1,G,_⟩
   .simp
   .have:=ajq E W
    rw[e1,G,e] at this
    lia
  simp at this;lia
 .have Z:∀w∈cr (at_ es k).1,Way es w/\xm es w=(at_ es k).1:=λw hw=>by
   rcases R.el _ w hw with⟨_,q⟩|⟨W,_,G,_⟩
   .exact absurd q e
   .exact⟨W,G⟩
  have n2:((cr (at_ es k).1).map λw=>w++[k]).Nodup:=Kr (λa b h=>by simpa using h) (R.nd _);have nn:((cr (at_ es k).1)++(cr (at_ es k).1).map λw=>w++[k]).Nodup:=mz.mpr ⟨R.nd _,n2,λa ha b hb q=>by
   obtain⟨c,_,rfl⟩:=di.mp hb;have:=(Z a ha).2;rw[q,Nu] at this;have v:=V_lt E U;rw[this] at v
   lia⟩
  have nl:=abo nn (S:=ws) λw hw=>by
   rcases bz.mp hw with q|q
   .exact L.all _ rfl (Z w q).1
   .obtain⟨c,hc,rfl⟩:=di.mp q
    exact L.all _ rfl ((Z c hc).1.app U (Z c hc).2.symm)
  have:=L.few;rw[iy,cz] at nl
  lia
noncomputable def RV(Z n:Nat):List D:=(List.range n).map λi=>D.ref (Z+i)
abbrev EK(es:List Ar)(t st:Nat)(b3 b4 b5 b6 b7 b8 b9:Option D):Env:=[some (.tup (es.map aD)),sR t,sI st,b3,b4,b5,b6,b7,b8,b9]
def ad9(Z:v<n):uo (.vl (RV base n)) (.int (v:Nat)) M=some (.ref (base+v)) :=
 Bc rfl (ir _) (by simp[RV,Z])
def bs3(R:1<=m)(E:Ends es V):Cg.den (PW m) (EK es t st none none none none none none none) M=.ok (.vl (RV M.length (Ag es+1))) (M++List.replicate (Ag es+1) (.lst [])):=by
 unfold Cg;have tf:=Ra E;have c:=aiu (m:=m) (M:=M) (d:=.tup (es.map aD)) R E rfl;obtain⟨ys,M',e,rfl,rfl⟩:=Bt (W:=PW m) (v:=true) (k:=1) (n:=Ag es+1) (M1:=M) (t:=.name 10) (e:=.lst .z) (ρ:=EK es t st none none none none none none none) (M:=M) (it:=.call 25 (.o (.v 0))) (by simp[c]) (by lia)
  (λi G Z=>G=RV M.length i/\Z=M++List.replicate i (.lst [])) ⟨rfl,by simp⟩ (λi G Z hi U=>by
   obtain⟨rfl,rfl⟩:=U;refine⟨_,.ref (M.length+i),_,rfl,?_,by simp[RV,yf],rfl⟩;simp[MW.new,List.replicate_succ',v9])
 exact e
structure Rm(base n:Nat)(M:dm)(cr:Nat->List (List Nat)):Prop where
 g:∀v,v<n->M[base+v]?=some (.lst ((cr v).map dq))
noncomputable def Ob(Z:Nat->List (List Nat))(v:Nat)(u:Y3):Nat->List (List Nat):=λx=>if x=v then Z v++[u] else Z x
def aea(R:Rm base n M cr)(k:m6 M Z):Rm base n Z cr:=⟨λv G=>k _ _ (R.g v G)⟩
def aju(R:Rm base n M cr)(G:v<n):Rm base n (M.set (base+v) (.lst ((cr v).map dq++[dq u]))) (Ob cr v u):=⟨λx Z=>by
 by_cases e:x=v
 .subst e;rw[oh (R.g x Z)];simp[Ob]
 .rw[jh (by lia),R.g x Z];simp[Ob,e]⟩
def bs1{mk:Mk}(hm:2<=m)(E:Ends s.es V)(A:Ts s ws t p q M ss mk)(qk:st<=Ag s.es)(R:Rm M.length (Ag s.es+1) M1 cr)(Q:Rw s.es st mk cr λ_=>False)(l1:M.length+(Ag s.es+1)=M1.length)(k1:m6 M M1)(hc:∀v,(cr v).length<=1) :
 ∃b4 b5 G M',Ce.den (PW m) (EK s.es t st (some (.vl (RV M.length (Ag s.es+1)))) none none none none none none) M1=.ok (.next,EK s.es t st (some (.vl (RV M.length (Ag s.es+1)))) b4 b5 none none none none) M'/\Rm M.length (Ag s.es+1) M' G/\Rw s.es st mk G (λ_=>True)/\m6 M M'/\M1.length<=M'.length/\∀v,(G v).length<=61:=by
 unfold Ce;obtain⟨us,M2,e2,g2,n2,k2,w2,a2⟩:=ajl (m:=m) (M:=M1) hm E;obtain⟨qq,M',e,b4,b5,G,rfl,R',Q',K',l',-,n'⟩:=xg (W:=PW m) (it:=.call 13 (.o (.v 0))) (t:=.name 4) (b:=ug) (ρ:=EK s.es t st (some (.vl (RV M.length (Ag s.es+1)))) none none none none none none) (M:=M1) (M1:=M2) (d:=.ref M1.length) (by simp[e2]) (jg g2)
  (λi ρ M3=>∃(b4 b5:Option D)(G:Nat->List (List Nat)),ρ=EK s.es t st (some (.vl (RV M.length (Ag s.es+1)))) b4 b5 none none none none/\Rm M.length (Ag s.es+1) M3 G/\Rw s.es st mk G (λw=>w∈us.take i)/\m6 M M3/\M1.length<=M3.length/\M3[M1.length]?=some (.lst (us.map dq))/\∀v,(G v).length<=i+1)
  ⟨none,none,cr,rfl,aea R k2,⟨Q.nd,Q.el,Q.nil,λw hw=>by simp at hw⟩,m6.trans k1 k2,m6.len k2,g2,hc⟩
  (λi ρ M3 h=>by obtain⟨_,_,_,_,_,_,_,_,g,_⟩:=h;exact jg g)
  (λi x ρ M3 hx hI=>by
   obtain⟨b4,b5,G,rfl,R3,U,K3,l3,g3,n3⟩:=hI;obtain⟨w,hi,rfl⟩:∃w,us[i]?=some w/\dq w=x:=by simpa using hx
   have il:=(ak.mp hi).1;have W:=w2 w (az hi);have vt:xm s.es w<Ag s.es+1:=Nat.lt_succ_of_le (Rg W).2
   have v1:=O5 (m:=m) (M:=M3) (d:=.tup (s.es.map aD)) (by lia) rfl W;have v2:=Lx (m:=m) (M:=M3) (d:=.tup (s.es.map aD)) (by lia) rfl W;have rv:=ad9 (M:=M3) (base:=M.length) vt;have A3:=N6 A K3;have mo:=Ny (m:=m) (w:=w) (by lia) A3.T;have j:=A3.T.i;have tk:∀z,z∈us.take (i+1)->z∈us.take i\/z=w:=λz hz=>by
    rw[kh,hi] at hz;rcases bz.mp hz with r|r
    .exact .inl r
    .exact .inr (by simpa using r)
   by_cases c:yu s.es w=st
   .have me:=ath (a:=dq (mkOf mk w)) (R3.g _ vt)
    rw[anh] at me
    by_cases d:mkOf mk w∈G (xm s.es w)
    .refine⟨_,.next,EK s.es t st (some (.vl (RV M.length (Ag s.es+1)))) (some (dq w)) (sR (M.length+xm s.es w)) none none none none,M3,rfl,?_,.inl rfl,_,_,G,rfl,R3,⟨U.nd,U.el,U.nil,λz hz Z e=>?_⟩,K3,l3,g3,λv=>by have:=n3 v;lia⟩
     .show ug.den (PW m) (EK s.es t st (some (.vl (RV M.length (Ag s.es+1)))) (some (dq w)) b5 none none none none) M3=_
      simp[ug,v1,v2,rv,c,um,Cq,j,Kw,List.lookup,mo,me,d,Er]
     .rcases tk z hz with r|rfl
      .exact U.all z r Z e
      .exact d
    .have ap:=Dl (d:=dq (mkOf mk w)) (R3.g _ vt) (by have:=n3 (xm s.es w);simp;lia)
     have B:=ajs A.I A.b W;refine⟨_,.next,EK s.es t st (some (.vl (RV M.length (Ag s.es+1)))) (some (dq w)) (sR (M.length+xm s.es w)) none none none none,_,rfl,?_,.inl rfl,_,_,Ob G (xm s.es w) (mkOf mk w),rfl,aju (u:=mkOf mk w) R3 vt,⟨λv=>?_,λv u hu=>?_,?_,λz hz Z e=>?_⟩,m6.set K3 (by lia),by simpa using l3,by rw[jh (by lia)];exact g3,λv=>?_⟩
     .show ug.den (PW m) (EK s.es t st (some (.vl (RV M.length (Ag s.es+1)))) (some (dq w)) b5 none none none none) M3=_
      simp[ug,v1,v2,rv,c,um,Cq,j,Kw,List.lookup,mo,me,d,Er,Gz (R3.g _ vt),ap]
     .unfold Ob
      by_cases r:v=xm s.es w
      .rw[bx r]
       exact mz.mpr ⟨U.nd _,by simp,λa ha b hb q=>by simp at hb;subst hb;subst q;exact d ha⟩
      .rw[bw r];exact U.nd v
     .unfold Ob at hu
      by_cases r:v=xm s.es w
      .rw[bx r] at hu
       rcases bz.mp hu with x|x
       .exact r▸U.el _ u x
       .have x:u=mkOf mk w:=by simpa using x
        subst x;exact .inr ⟨B.two,B.st.symm.trans c,B.go.symm.trans r.symm,A.I.id w⟩
      .rw[bw r] at hu;exact U.el v u hu
     .unfold Ob
      split
      .next r=>exact ji _ (r▸U.nil)
      .exact U.nil
     .unfold Ob
      rcases tk z hz with r|rfl
      .have:=U.all z r Z e
       split
       .next q=>rw[<- q];exact ji _ this
       .exact this
      .simp
     .unfold Ob
      have:=n3 v;have:=n3 (xm s.es w);split<;>simp<;>lia
   .refine⟨_,.next,EK s.es t st (some (.vl (RV M.length (Ag s.es+1)))) (some (dq w)) (sR (M.length+xm s.es w)) none none none none,M3,rfl,?_,.inl rfl,_,_,G,rfl,R3,⟨U.nd,U.el,U.nil,λz hz Z e=>?_⟩,K3,l3,g3,λv=>by have:=n3 v;lia⟩
    .show ug.den (PW m) (EK s.es t st (some (.vl (RV M.length (Ag s.es+1)))) (some (dq w)) b5 none none none none) M3=_
     simp[ug,v1,v2,rv,c,um,Cq,Er]
    .rcases tk z hz with r|rfl
     .exact U.all z r Z e
     .exact absurd e c)
 simp only[cz,o6] at Q' n';exact⟨b4,b5,G,M',e,R',⟨Q'.nd,Q'.el,Q'.nil,λw _ W=>Q'.all w (a2 w W) W⟩,K',l',λv=>by have:=n' v;lia⟩
theorem Zq{u:Y3}:∀{l:List (List Nat)},u∈l->(l.map λf=>decide (f=u)).findIdx? id=some (Tv l u)
 |[],h=>by cases h
 |x::l,h=>by
  by_cases e:x=u
  .simp[Tv,List.findIdx?_cons,List.findIdx_cons,e]
  .have h:u∈l:=by simpa[jr e] using h
   have:=Zq h;simp[Tv,List.findIdx?_cons,List.findIdx_cons,e];simpa[Tv,ik] using this
def ay3(h:M[n]?=some (.lst Z)):Jm .index (.ref n) M=true:=by simp[Jm,gj,h]
def ay4(h:M[n]?=some (.lst (l.map dq)))(Z:u∈l):Dr .index (.ref n) [dq u] M=.ok (.int (Tv l u:Nat)) M:=by simp only[Dr,Jl,jg h,w6,ass,W4,Zq Z,n8,Res.ue]
def bs0{Z:Mk}(hm:1<=m)(E:Ends s.es V)(L:Wys s.es ws)(A:Ts s ws t p q M ss Z)(R:Rm M.length (Ag s.es+1) U cr)(Q:Rw s.es st Z cr λ_=>True)(k1:m6 M U)(hp:U[z]?=some (.lst []))(hz:M.length+(Ag s.es+1)<=z)(hn:∀v,(cr v).length<=61) :
 ∃b7 b8 G M',Cd.den (PW m) (EK s.es t st (some (.vl (RV M.length (Ag s.es+1)))) b4 b5 (sR z) none none none) U=.ok (.next,EK s.es t st (some (.vl (RV M.length (Ag s.es+1)))) b4 b5 (sR z) b7 b8 G) M'/\Rm M.length (Ag s.es+1) M' cr/\m6 M M'/\M'[z]?=some (.lst ((N8 s.es Z cr).map qt)):=by
 unfold Cd;have ef:=E.few;obtain⟨qq,M',e,b7,b8,G,rfl,R',K',g'⟩:=Js (W:=PW m) (it:=.v 0) (t:=.names [7,8]) (b:=Aa) (ρ:=EK s.es t st (some (.vl (RV M.length (Ag s.es+1)))) b4 b5 (sR z) none none none) (M:=U) (M1:=U) (ds:=s.es.map aD) rfl
  (λi ρ M2=>∃b7 b8 G:Option D,ρ=EK s.es t st (some (.vl (RV M.length (Ag s.es+1)))) b4 b5 (sR z) b7 b8 G/\Rm M.length (Ag s.es+1) M2 cr/\m6 M M2/\M2[z]?=some (.lst (((List.range i).map (Uz s.es Z cr)).map qt)))
  ⟨none,none,none,rfl,R,k1,by simpa using hp⟩
  (λi y ρ M2 hy hI=>by
   obtain⟨b7,b8,G,rfl,R2,K2,g2⟩:=hI;have hi:i<s.es.length:=by simpa using(ak.mp hy).1
   have ex:y=aD (at_ s.es i):=by simpa[Nq hi] using hy.symm
   subst ex;have tp:=Lz (J2 hi);have v1:(at_ s.es i).1<Ag s.es+1:=by lia
   have v2:(at_ s.es i).2<Ag s.es+1:=by lia
   have r1:=ad9 (M:=M2) (base:=M.length) v1;have r2:=ad9 (M:=M2) (base:=M.length) v2;have A2:=N6 A K2;have j:=A2.T.i;have c2:Ca.den (PW m) (EK s.es t st (some (.vl (RV M.length (Ag s.es+1)))) b4 b5 (sR z) (sI i) (some (aD (at_ s.es i))) (sR (M.length+(at_ s.es i).2))) M2=.ok (.vl ((Uz s.es Z cr i).map D.int)) M2:=by
    unfold Ca;rw[Cr (d:=.ref (M.length+(at_ s.es i).1)) (M1:=M2) (xs:=cr (at_ s.es i).1) (f:=dq) (g:=λu=>.int (Tv (cr (at_ s.es i).2) (mkOf Z (u++[i])):Nat)) (by simp[Fz,r1]) (Dw (jg (R2.g _ v1))) (by have:=hn (at_ s.es i).1;lia) (λu hu=>⟨_,rfl,by
     have mo:=Ny (m:=m) (w:=u++[i]) hm A2.T;have ul:u.length<1000:=by
      rcases Q.el _ u hu with⟨rfl,_⟩|⟨W,_⟩
      .simp
      .have:=Gr E W;lia
     have ra:Ba .add (dq u) (.tup [.int i]) M2=.ok (dq (u++[i])) M2:=Hh _ _ ul;simp[ay3 (R2.g _ v2),j,Kw,List.lookup,ra,mo,ay4 (R2.g _ v2) (Oa Q hi hu)]⟩)]
    simp[Uz,gw,ik]
   have ap:=Dl (d:=qt (Uz s.es Z cr i)) g2 (by simp;lia);refine⟨_,.next,EK s.es t st (some (.vl (RV M.length (Ag s.es+1)))) b4 b5 (sR z) (sI i) (some (aD (at_ s.es i))) (sR (M.length+(at_ s.es i).2)),M2.set z (.lst (((List.range (i+1)).map (Uz s.es Z cr)).map qt)),rfl,?_,.inl rfl,_,_,_,rfl,⟨λv hv=>by rw[jh (by lia)];exact R2.g v hv⟩,m6.set K2 (by lia),oh g2⟩;show Aa.den (PW m) (EK s.es t st (some (.vl (RV M.length (Ag s.es+1)))) b4 b5 (sR z) (sI i) (some (aD (at_ s.es i))) G) M2=_;unfold qt at ap;simp only[Aa];simp[-List.map_map,Qj,r2,Gz g2,c2,Xe,ap,yf];rfl)
 rw[cz] at g';exact⟨b7,b8,G,M',e,R',K',g'⟩
def ajv{G:Mk}(hm:3<=m)(h:Fy s V)(L:Wys s.es ws)(A:Ts s ws t p q M ss G)(C:Clo s ss)(hn:mkOf G s.a≠mkOf G s.b) :
 ∃zs Z M',prog.call m 24 [.tup (s.es.map aD),.ref t,.int (yu s.es s.a)] M=.ok (.tup [sD "breaks",qt zs,Jc Z]) M'/\m6 M M'/\Brk s zs Z/\zs.length<=1000/\∀r∈Z,r.length<31:=by
 rw[call_of (bj (by decide) hm) rfl];have W:=h.W7.one;have st:=(Rg W).1;have R:yu s.es s.a<Ag s.es+1:=by lia
 have tf:=Ra h.E;have e3:=bs3 (m:=m-1) (t:=t) (st:=yu s.es s.a) (M:=M) (by lia) h.E;have R0:Rm M.length (Ag s.es+1) (M++List.replicate (Ag s.es+1) (.lst [])) (λ_=>[]):=⟨λv hv=>by rw[ou (by lia)];simp[hv]⟩;have R1:=aju (u:=[]) R0 R;have ap:=Dl (d:=dq []) (R0.g _ R) (by simp);have Q1:Rw s.es (yu s.es s.a) G (Ob (λ_=>[]) (yu s.es s.a) []) λ_=>False:=by
  refine⟨λv=>?_,λv u U=>?_,by simp[Ob],λ_ f=>f.elim⟩
  .unfold Ob;split<;>simp
  .unfold Ob at U
   split at U
   .next q=>exact .inl ⟨by simpa using U,q⟩
   .cases U
 generalize hM1:(M++List.replicate (Ag s.es+1) (MO.lst [])).set (M.length+yu s.es s.a) (.lst (([]:List (List Nat)).map dq++[dq []]))=M1 at ap R1;have k1:m6 M M1:=hM1▸m6.set (m6.app _ _) (by lia);have l1:M.length+(Ag s.es+1)=M1.length:=by rw[<- hM1];simp
 obtain⟨b4,b5,cr,M2,e2,R2,Q2,K2,l2,n2⟩:=bs1 (m:=m-1) (by lia) h.E A st R1 Q1 l1 k1 (λv=>by unfold Ob;split<;>simp);have R3:=aea R2 (m6.app M2 [.lst []]);obtain⟨b7,b8,b9,M4,e4,R4,K4,g4⟩:=bs0 (m:=m-1) (b4:=b4) (b5:=b5) (by lia) h.E L A R3 Q2 (m6.trans K2 (m6.app _ _)) yl (by lia) n2;refine⟨bSz s.es cr,N8 s.es G cr,M4,?_,K4,ay1 h A.I A.b C Q2 hn,by simp[bSz];lia,λr hr=>?_⟩
 .have c1:By.den (PW (m-1)) (EK s.es t (yu s.es s.a) (some (.vl (RV M.length (Ag s.es+1)))) b4 b5 (sR M2.length) b7 b8 b9) M4=.ok (.vl ((List.range (Ag s.es+1)).map λv=>.int (cr v).length)) M4:=by
   unfold By;rw[Cr (d:=.vl (RV M.length (Ag s.es+1))) (M1:=M4) (xs:=List.range (Ag s.es+1)) (f:=λi=>.ref (M.length+i)) (g:=λv=>.int (cr v).length) rfl rfl (by simp;lia) (λv hv=>⟨_,rfl,by
    have:=len_list (jg (R4.g v (jc.mp hv)));rw[cz] at this;simp[this]⟩)]
   rfl
  have rv:=ad9 (M:=M++List.replicate (Ag s.es+1) (.lst [])) (base:=M.length) R;have em:D.tup []=dq []:=rfl;simp only[Fn.run,Iz,Iw];simp[e3,rv,Gz (R0.g _ R),em,ap,e2,MW.new,e4,c1,Xe,Rb g4];simp[sD,qt,Jc,bSz,gw,ik]
 .obtain⟨k,hk,rfl⟩:=di.mp hr
  have:=ay2 h.E L Q2 (jc.mp hk);simp[Uz];lia
def Jd(s:Uv)(d:D):Prop:=((∃x,d=.tup [sD "holds",x])/\So s s.a s.b)\/∃G Z,d=.tup [sD "breaks",qt G,Jc Z]/\Brk s G Z/\G.length<=1000/\∀r∈Z,r.length<31
def agb(hm:7<=m)(h:Fy s V):∃d G,prog.call m 23 [s.toD] M=.ok d G/\m6 M G/\Jd s d:=by
 rw[call_of (bj (by decide) hm) rfl];obtain⟨ws,_,_,_,L,_⟩:=adk (m:=1) (M:=[]) (d:=.tup (s.es.map aD)) (by lia) h.E rfl;obtain⟨M1,U,R⟩:=Zi (m:=m-1) (M:=M) (by lia) h;obtain⟨p,q,ss,mk,M2,e2,A,C,k2⟩:=abw (m:=m-1) (M:=M1) (by lia) h L;have e3:=ad2 (m:=m-1) (a:=s.a) (b:=s.b) (by lia) A.T;have i0:∀M,uo s.toD (.int 0) M=some (.tup (s.es.map aD)):=λM=>Bd _ _
 have i2:∀M,uo s.toD (.int 2) M=some (.tup [dq s.a,dq s.b]):=λM=>Q6 _ _ _ _
 have j:=A.T.i;simp only[Fn.run,Zb,Za]
 by_cases c:mkOf mk s.a=mkOf mk s.b
 .refine⟨_,M2,?_,m6.trans R k2,.inl ⟨⟨.tup (ss.map Sp.toD),rfl⟩,So.Vp A.b A.o h.W7.one ((A.I.Vp _ _).mp c)⟩⟩
  simp[U,e2,i2,j,Kw,List.lookup,e3,c,ad1 A.T,Rb A.T.s,sD]
 .obtain⟨zs,Z,M3,e4,k4,B,l1,l2⟩:=ajv (m:=m-1) (by lia) h L A C c
  have w:=Lx (m:=m-1) (M:=M2) (d:=.tup (s.es.map aD)) (by lia) rfl h.W7.one;refine⟨_,M3,?_,m6.trans (m6.trans R k2) k4,.inr ⟨zs,Z,rfl,B,l1,l2⟩⟩;simp[U,e2,i0,i2,j,Kw,List.lookup,e3,c,w,e4]
def atx(h:Fy s V)(O:So s s.a s.b):¬Brk s zs acts:=λ⟨S,n,g⟩=>by
 have:Dz acts (Dd zs (yu s.es s.a)).toNat s.a s.b=true:=iw.mpr λx Z=>vh (O zs acts S g x (ir _) (by have:=jc.mp Z;lia))
 rw[this] at n;cases n
def aty:PySem.Str.ofString "holds"≠PySem.Str.ofString "breaks" := by decide
abbrev EJ(sc:D)(t:Nat)(b2 b3 b4 b5 b6 b7 b8:Option D):Env:=[some sc,sR t,b2,b3,b4,b5,b6,b7,b8]
def atz{i:Nat}(hm:7<=m)(h:Fy s V)(J:Jd s d)(hs:Has t f M):∃c6 c7 c8 M',Q8.den (PW m) (EJ sc t b2 (some s.toD) (some d) (sI i) b6 b7 b8) M=.ok (.next,EJ sc t b2 (some s.toD) (some d) (sI i) c6 c7 c8) M'/\St t f M M':=by
 have i0:∀M,uo s.toD (.int 0) M=some (.tup (s.es.map aD)):=λM=>Bd _ _
 obtain⟨p,M1,e1,z1,a1,r1,S1⟩:=ajc (m:=m) (n:=2+i%2) (by lia) h.E hs (by lia);have tf:=Ra h.E;have hr:∀r∈p.2,r.length<31:=λr hr=>by have:=r1 r hr;lia
 obtain⟨b,M2,e2,k2,q2⟩:=ai2 (m:=m) (M:=M1) (zs:=p.1) (acts:=p.2) (by lia) h (by lia) hr;obtain⟨G,M3,e3,k3,q3⟩:=af6 (m:=m) (M:=M2) (zs:=p.1) (acts:=p.2) hm h (by lia) hr;have eb:G=b:=by cases b<;>cases G<;>simp_all
 subst eb;refine⟨some (qt p.1),some (Jc p.2),some (.bl G),M3,?_,(S1.keep' k2).keep' k3⟩;have en:(2:Int)+(i:Int)%2=((2+i%2:Nat):Int):=by lia
 have U:prog.call m 36 [.ref t,.tup (s.es.map aD),.int ((2:Int)+(i:Int)%2)] M=.ok (.tup [qt p.1,Jc p.2]) M1:=by rw[en];exact e1
 simp only[Q8];have R:um M3 (.bl G) (.bl G)=some true:=by simp[um,Mh]
 rcases J with⟨⟨x,rfl⟩,O⟩|⟨zs,Z,rfl,B,_⟩
 .have nb:G=false:=by
   cases G with
   |false=>rfl|true=>exact absurd (q2.mp rfl) (atx h O)
  subst nb;simp[i0,U,e2,e3,R,Wo,Er]
 .have x0:∀M,uo (.tup [sD "breaks",qt zs,Jc Z]) (.int 0) M=some (sD "breaks"):=λM=>Bd _ _
  have xe:∀M,um M (sD "breaks") (.str (PySem.Str.ofString "breaks"))=some true:=λM=>by simp[um,Mh,sD]
  cases G<;>simp[i0,U,e2,e3,R,x0,xe,Wo,Er]
def fJ:zx:=.f (.and (.cmp .eq (.ix (.v 4) (.i 0)) (.cst (.str (PySem.Str.ofString "breaks")))) (.not (.call 35 (.q (.v 3) (.ix (.v 4) (.i 1)) (.ix (.v 4) (.i 2)))))) (.o (.ret (.cst (.bl false))))
def aoj(hm:7<=m)(hs:Has t f M):∃c3 c4 c5 R U c8 M',W0.den (PW m) (EJ sc t b2 b3 b4 b5 b6 b7 b8) M=.ok (.next,EJ sc t b2 c3 c4 c5 R U c8) M'/\St t f M M':=by
 obtain⟨s,V,M1,e1,h,S1⟩:=af9 (m:=m) (by lia) hs;obtain⟨d,G,e2,k2,J⟩:=agb (m:=m) (M:=M1) hm h;have S2:=S1.keep' k2;have first:∃M3,fJ.den (PW m) (EJ sc t b2 (some s.toD) (some d) b5 b6 b7 b8) G=.ok (.next,EJ sc t b2 (some s.toD) (some d) b5 b6 b7 b8) M3/\m6 G M3:=by
  rcases J with⟨⟨x,rfl⟩,O⟩|⟨zs,Z,rfl,B,l1,l2⟩
  .refine⟨G,?_,m6.refl _⟩
   have x0:uo (.tup [sD "holds",x]) (.int 0) G=some (sD "holds"):=Bd _ _;have xe:um G (sD "holds") (.str (PySem.Str.ofString "breaks"))=some false:=by simp[um,Mh,sD,aty]
   simp[fJ,x0,xe,Er]
  .obtain⟨b,M3,e3,k3,q3⟩:=ai2 (m:=m) (M:=G) (zs:=zs) (acts:=Z) (by lia) h l1 l2
   have hb:b=true:=q3.mpr B;subst hb;refine⟨M3,?_,k3⟩;have x0:uo (.tup [sD "breaks",qt zs,Jc Z]) (.int 0) G=some (sD "breaks"):=Bd _ _;have x1:uo (.tup [sD "breaks",qt zs,Jc Z]) (.int 1) G=some (qt zs):=Hm _ _ _;have x2:uo (.tup [sD "breaks",qt zs,Jc Z]) (.int 2) G=some (Jc Z):=Q6 _ _ _ _;have xe:um G (sD "breaks") (.str (PySem.Str.ofString "breaks"))=some true:=by simp[um,Mh,sD]
   simp[fJ,x0,x1,x2,xe,e3,Er]
 obtain⟨M3,e3,k3⟩:=first
 have S3:=S2.keep' k3;obtain⟨qk,M4,e4,c5,R,U,c8,rfl,S4⟩:=Bo (W:=PW m) (t:=.name 5) (b:=Q8) (it:=.i 12) (n:=12) (ρ:=EJ sc t b2 (some s.toD) (some d) b5 b6 b7 b8) (M:=M3) (M1:=M3) rfl (by decide)
  (λ_ ρ M'=>∃c5 R U c8:Option D,ρ=EJ sc t b2 (some s.toD) (some d) c5 R U c8/\St t f M3 M') ⟨b5,b6,b7,b8,rfl,.refl S3.has⟩
  (λi ρ M4 hi hI=>by
   obtain⟨c5,R,U,c8,rfl,S4⟩:=hI;obtain⟨d6,d7,d8,M5,e5,S5⟩:=atz (m:=m) (i:=i) (sc:=sc) (b2:=b2) (b6:=R) (b7:=U) (b8:=c8) hm h J S4.has;exact⟨_,.next,_,M5,rfl,e5,.inl rfl,_,_,_,_,rfl,S4.trans S5⟩)
 refine⟨some s.toD,some d,c5,R,U,c8,M4,?_,S3.trans S4⟩;have qq:Wz.den (PW m) _ M3=_:=e4;show(j8.c (.a 3 (.call 33 (.o (.v 1)))) (.q (.a 4 (.call 23 (.o (.v 3)))) fJ Wz)).den (PW m) _ M=_;simp[e1,e2,e3,qq]
def at3{m:Nat}{ns:X9}{M:dm}(hm:8<=m):∃M',prog.call m 37 [.fz (ns.map D.int)] M=.ok (.bl true) M':=by
 rw[call_of (bj (by decide) hm) rfl];obtain⟨n0,G,s0,o0⟩:=aih (m:=m-1) (k:=0) (ns:=ns) (M:=M) (by lia);have s0:prog.call (m-1) 1 [.fz (ns.map D.int),.int 0] M=_:=s0;have qq:Has M.length G (M++[.lst [.int n0,.bl G]]):=⟨n0,by simp,o0⟩;obtain⟨qk,M',e,⟨b2,Z,b4,b5,U,R,b8,rfl⟩,-⟩:=Bo (W:=PW (m-1)) (t:=.name 2) (b:=W0) (it:=.i 3) (n:=3) (ρ:=EJ (.fz (ns.map D.int)) M.length none none none none none none none) (M:=M++[.lst [.int n0,.bl G]]) (M1:=M++[.lst [.int n0,.bl G]]) rfl (by decide)
  (λ_ ρ M'=>(∃b2 Z b4 b5 U R b8,ρ=EJ (.fz (ns.map D.int)) M.length b2 Z b4 b5 U R b8)/\Has M.length G M') ⟨⟨none,none,none,none,none,none,none,rfl⟩,qq⟩
  (λi ρ M1 hi hI=>by
   obtain⟨⟨b2,Z,b4,b5,U,R,b8,rfl⟩,h1⟩:=hI;obtain⟨c3,c4,c5,c6,c7,c8,M2,e2,S2⟩:=aoj (m:=m-1) (sc:=.fz (ns.map D.int)) (b2:=sI i) (b3:=Z) (b4:=b4) (b5:=b5) (b6:=U) (b7:=R) (b8:=b8) (by lia) h1;exact⟨_,.next,_,M2,rfl,e2,.inl rfl,⟨_,c3,c4,c5,c6,c7,c8,rfl⟩,S2.has⟩)
 have e':ade.den (PW (m-1)) _ _=_:=e;exact⟨M',by simp[Fn.run,aif,ard,s0,e']⟩
end K76
namespace L2
open PySem PySem.Spec PyProof.Rows
abbrev Key:=Sum Int Str
noncomputable def Vr:Key->Value->Bool
 |.inl k,v=>Value.isInt k v|.inr x,v=>Value.isStrOf x v
noncomputable def a6q(w:World):Key->Int
 |.inl k=>hashInt k|.inr x=>hashStr w x
theorem yq:∀{k:Key}{v:Value},Vr k v=true->(∃i t,k=Sum.inl i/\v=Value.int i t)\/(∃x t,k=Sum.inr x/\v=Value.str x t)
 |.inl i,v,h=>by
  obtain⟨t,e⟩:=Value.isInt_shape (k:=i) (v:=v) h;exact .inl ⟨i,t,rfl,e⟩
 |.inr x,v,h=>by
  obtain⟨t,e⟩:=Value.isStrOf_shape (x:=x) (v:=v) h;exact .inr ⟨x,t,rfl,e⟩
def agc(i:Int)(t:Tok):Vr (.inl i) (.int i t)=true:=by simp[Vr,Value.isInt]
def agd(x:Str)(t:Tok):Vr (.inr x) (.str x t)=true:=by simp[Vr,Value.isStrOf]
def at4(a b:Int):decide ((Sum.inl a:Key)=Sum.inl b)=(a==b):=by
 by_cases e:a=b
 .subst e;simp
 .have h:¬(Sum.inl a:Key)=Sum.inl b:=λq=>e (Sum.inl.inj q)
  rw[sy h];exact(vg.mpr e).symm
def at5(a b:Str):decide ((Sum.inr a:Key)=Sum.inr b)=decide (a=b):=by
 by_cases e:a=b
 .subst e;simp
 .have h:¬(Sum.inr a:Key)=Sum.inr b:=λq=>e (Sum.inr.inj q)
  rw[sy h,sy e]
def at6(a:Int)(b:Str):decide ((Sum.inl a:Key)=Sum.inr b)=false:=sy (λq=>nomatch q)
def at7(a:Str)(b:Int):decide ((Sum.inr a:Key)=Sum.inl b)=false:=sy (λq=>nomatch q)
def yr(prog:Program)(w:World):PySem.KeyKind prog w Key where
 is:=Vr
 hash:=a6q w
 inj:=λv a b U G=>by
  rcases yq U with⟨i,t,rfl,rfl⟩|⟨x,t,rfl,rfl⟩
  .rcases yq G with⟨j,u,rfl,e⟩|⟨y,u,rfl,e⟩
   .injection e with e1 _;rw[e1]
   .exact nomatch e
  .rcases yq G with⟨j,u,rfl,e⟩|⟨y,u,rfl,e⟩
   .exact nomatch e
   .injection e with e1 _;rw[e1]
 byValue:=λk v h=>by rcases yq h with⟨i,t,rfl,rfl⟩|⟨x,t,rfl,rfl⟩<;>rfl
 pyHash:=λZ h=>by
  rcases yq Z with⟨i,t,rfl,rfl⟩|⟨x,t,rfl,rfl⟩
  .exact wpAny_pyHash_int h
  .exact wpAny_pyHash_str h
 eqBool:=λR Z h=>by
  rcases yq R with⟨i,t,rfl,rfl⟩|⟨x,t,rfl,rfl⟩
  .rcases yq Z with⟨j,u,rfl,rfl⟩|⟨y,u,rfl,rfl⟩
   .rw[at4] at h;exact wpAny_eqBool_int h
   .rw[at6] at h;exact SeqAt.EqAt.int_str i t y u _ _ _ _ h
  .rcases yq Z with⟨j,u,rfl,rfl⟩|⟨y,u,rfl,rfl⟩
   .rw[at7] at h;exact SeqAt.EqAt.str_int x t j u _ _ _ _ h
   .rw[at5] at h;exact wpAny_eqBool_str h
 «strs»:=λk x t v h=>by
  rcases yq h with⟨i,u,rfl,e⟩|⟨y,u,rfl,e⟩
  .exact nomatch e
  .injection e with e1 _
   subst e1;cases v<;>rfl
def Zr(prog:Program)(w:World)(i:Int)(t:Tok):(yr prog w).is (.inl i) (.int i t)=true:=agc i t
def Zt(prog:Program)(w:World)(x:Str)(t:Tok):(yr prog w).is (.inr x) (.str x t)=true:=agd x t
end L2
namespace L2
open PySem PySem.Spec PyProof.Rows
set_option genInjectivity true in
inductive V where
 |non|bl (b:Bool)|int (i:Int)|str (x:Str)|byt (b:Array UInt8)|flt (b:UInt64)|ref (a:Addr)|ty (n:String)
 deriving DecidableEq
def RelV:V->Value->Prop
 |.non,u=>u=Value.none|.bl b,u=>u=Value.bool b|.int i,u=>∃t,u=Value.int i t|.str x,u=>∃t,u=Value.str x t|.byt b,u=>∃t,u=Value.bytes b t|.flt b,u=>∃t,u=Value.float b t|.ref a,u=>u=Value.ref a|.ty n,u=>u=Value.type n
abbrev Vals:List V->List Value->Prop:=Paired RelV
theorem Vals.length(r:Vals Z G):Z.length=G.length:=Paired.length r
theorem Vals.get:∀{Z:List V}{G:Zl}{i:Nat}{x:V},Vals Z G->Z[i]?=some x->∃u,G[i]?=some u/\RelV x u
 |_,_,_,_,.nil,e=>by simp at e|_,_,0,_,.cons r _,e=>by simp at e;subst e;exact⟨_,rfl,r⟩
 |_,_,i+1,x,.cons _ t,e=>by
  obtain⟨u,R,U⟩:=Vals.get (i:=i) (x:=x) t (by simpa using e);exact⟨u,by simpa using R,U⟩
theorem Vals.set{x:V}{u:Value}(r:RelV x u):∀{Z:List V}{G:Zl}(i:Nat),Vals Z G->Vals (Z.set i x) (G.set i u)
 |_,_,_,.nil=>.nil|_,_,0,.cons _ t=>.cons r t|_,_,i+1,.cons q t=>.cons q (Vals.set r i t)
theorem Vals.append:∀{Z R:List V}{G U:Zl},Vals Z G->Vals R U->Vals (Z++R) (G++U):=by intro _ _ _ _ h r;induction h with|nil=>exact r|cons q t ih=>exact .cons q ih
theorem Vals.take:∀{Z:List V}{G:Zl}(n:Nat),Vals Z G->Vals (Z.take n) (G.take n)
 |_,_,0,_=>.nil|_,_,_+1,.nil=>.nil|_,_,n+1,.cons r t=>.cons r (Vals.take n t)
theorem Vals.drop:∀{Z:List V}{G:Zl}(n:Nat),Vals Z G->Vals (Z.drop n) (G.drop n)
 |_,_,0,r=>r|_,_,_+1,.nil=>.nil|_,_,n+1,.cons _ t=>Vals.drop n t
def Jh:Option V->Option Value->Prop
 |some v,some u=>RelV v u|none,none=>True|_,_=>False
def KV{Z:Type}:List (Z×V)->List (Z×Value)->Prop:=Paired λ(p:Z×V) (q:Z×Value)=>p.1=q.1/\RelV p.2 q.2
noncomputable def kV:Key->V
 |.inl i=>.int i|.inr x=>.str x
inductive HO where
 |lst (xs:List V)
 |tup (xs:List V)
 |dK (ni:List (Key×V))|dT (ni:List (List Key×V))
 |set (S:Int->Bool) (n:Nat)
 |ins (C dx:Addr) (fs:List (Str×V))
 |own (x:Addr)
 |xd (fs:List (Str×V))
 |met (f x:Addr)
 |Mp (lo hi:Int)
 |Hd (o:Obj) (u:HO)
 |tbl (ps:Xt)
 |ext (φ:Heap->Prop)
abbrev Hp:=Addr->Option HO
noncomputable def upd(H:Hp)(a:Addr)(o:HO):Hp:=λb=>if b=a then some o else H b
def qy:upd H a o a=some o:=by unfold upd;rw[bx rfl]
def j6(h:b≠a):upd H a o b=H b:=by unfold upd;rw[bw h]
def Zu{H:Hp}(h:H a=some o)(Z:H b=some u)(d:o≠u):a≠b:=by intro e;subst e;rw[h] at Z;exact d (gq Z)
def m5{H:Hp}(h:H a=some o)(Z:H b=none):a≠b:=by intro e;subst e;rw[h] at Z;cases Z
section
variable(P:Program)(w:World)
def U0(h:Heap)(a:Addr)(Z:Xt):Prop:=∃o,h.get? a=some o/\o.cls=.type "tuple"/\∃n,o.data=.seq Z n/\o.dict=none
def U0.is(x:U0 h a items):IsTup h a items:=let ⟨o,h1,h2,n,h3,_⟩:=x;⟨o,h1,h2,n,h3⟩
def U0.new(h:Heap)(items:Xt):U0 (h.push { cls:=.type "tuple",data:=.seq items }) h.objs.size items:=⟨_,bf _ rfl,rfl,_,rfl,rfl⟩
def yw(H:Hp)(h:Heap)(a:Addr):HO->Prop
 |.lst Z=>Z.length<=sizeLine/\∃(U:Zl)(n:Nat),Vals Z U/\h.get? a=some { cls:=.type "list",data:=.seq U.toArray n }|.tup Z=>Z.length<=sizeLine/\∃U:List Value,Vals Z U/\U0 h a U.toArray|.dK ni=>ni.length<=sizeLine/\(a==sysModules)=false/\∃R,KV ni R/\h.DictOf (yr P w) a R
 |.dT ni=>ni.length<=sizeLine/\(a==sysModules)=false/\∃Z:List (List Key×Addr×Value),
  Paired (λ(p:List Key×V) (q:List Key×Addr×Value)=>p.1=q.1/\H q.2.1=some (.tup (p.1.map kV))/\RelV p.2 q.2.2) ni Z /\
  ∃o es ep,h.get? a=some o/\o.ExactDict/\o.data=.dict es ep/\es.toList=Z.map (entryOfKey (tupleKind (yr P w)))/\(Z.map (·.1)).Nodup
 |.set S n=>h.SetOf (intKind P w) a S n
 |.ins C dx fs=>H dx=some (.own a)/\fs.length<=1000/\dx≠a/\h.get? a=some (PySem.W.instObj C dx) /\
  ∃G,h.Ns1 dx G/\(∀f,Jh (fs.lookup f) (G f))/\PySem.Within G (fs.map (·.1))
 |.own _=>∃o,h.get? a=some o|.xd fs=>∃G,h.Ns1 a G/\∀f,Jh (fs.lookup f) (G f)|.Mp lo hi=>∃t u v,h.get? a=some { cls:=.type "range",data:=.fields #[.int lo t,.int hi u,.int 1 v] }|.Hd o u=>h.get? a=some o/\yw H h a u|.tbl ps=>h.get? a=some { cls:=.none,data:=.fields ps }|.met f x=>h.get? a=some (PySem.W.methodObj (.ref f) (.ref x))|.ext φ=>φ h/\(∃o,h.get? a=some o)/\∀h1 h2:Heap,φ h1->(∀o,h1.get? a=some o->h2.get? a=some o)->φ h2
def Ma(H:Hp)(h:Heap):Prop:=∀a o,H a=some o->yw P w H h a o
end
theorem yw.lt(x:yw P w H h a o):a<h.objs.size:=by
 cases o with
 |lst G=>obtain⟨_,_,_,_,e⟩:=x;exact au e
 |tup G=>obtain⟨_,_,_,p⟩:=x;exact(U0.is p).lt
 |dK Z=>obtain⟨_,_,_,_,o,_,_,e,_⟩:=x;exact au e
 |dT Z=>obtain⟨_,_,_,_,o,_,_,e,_⟩:=x;exact au e
 |set S n=>obtain⟨o,_,_,_,e,_⟩:=x;exact au e
 |ins C U fs=>obtain⟨_,_,_,e,_⟩:=x;exact au e
 |own y=>obtain⟨_,e⟩:=x;exact au e
 |xd fs=>obtain⟨_,⟨_,_,_,e,_⟩,_⟩:=x;exact au e
 |Mp lo hi=>obtain⟨_,_,_,e⟩:=x;exact au e
 |Hd ob u=>obtain⟨e,_⟩:=x;exact au e
 |tbl ps=>exact au (show h.get? a=some _ from x)
 |met f y=>exact au (show h.get? a=some _ from x)
 |ext R=>obtain⟨_,⟨_,e⟩,_⟩:=x;exact au e
theorem Paired.at9{α R:Type}{F G:α->R->Prop}:∀{Z:List α}{U:List R},Paired F Z U->(∀a b,F a b->G a b)->Paired G Z U:=by intro _ _ h f;induction h with|nil=>exact .nil|cons r t ih=>exact .cons (f _ _ r) ih
def yw.stay(x:yw P w H h a o)(k:∀b u,(b=a\/H b=some (.own a))->h.get? b=some u->h'.get? b=some u)(ho:∀b,H b=some (.own a)->H' b=some (.own a))(ht:∀b R,H b=some (.tup R)->H' b=some (.tup R)):yw P w H' h' a o:=by
 induction o with
 |lst R=>obtain⟨z,rn,n,r,e⟩:=x;exact⟨z,rn,n,r,k _ _ (.inl rfl) e⟩
 |tup R=>obtain⟨z,rn,r,Z,e,c⟩:=x;exact⟨z,rn,r,Z,k _ _ (.inl rfl) e,c⟩
 |dK ni=>obtain⟨z,y,vs,r,Z,U,G,e,c⟩:=x;exact⟨z,y,vs,r,Z,U,G,k _ _ (.inl rfl) e,c⟩
 |dT ni =>
  obtain⟨z,y,R,r,Z,U,G,e,c⟩:=x;exact⟨z,y,R,Paired.at9 r λp q z=>⟨z.1,ht _ _ z.2.1,z.2.2⟩,Z,U,G,k _ _ (.inl rfl) e,c⟩
 |set S n=>obtain⟨Z,U,G,t,e,c⟩:=x;exact⟨Z,U,G,t,k _ _ (.inl rfl) e,c⟩
 |ins C dx fs =>
  obtain⟨d,z,ne,e,mA,⟨od,U,G,e2,c⟩,r⟩:=x;exact⟨ho _ d,z,ne,k _ _ (.inl rfl) e,mA,⟨od,U,G,k _ _ (.inr d) e2,c⟩,r⟩
 |own y=>obtain⟨Z,e⟩:=x;exact⟨Z,k _ _ (.inl rfl) e⟩
 |xd fs=>obtain⟨mA,⟨od,U,G,e,c⟩,r⟩:=x;exact⟨mA,⟨od,U,G,k _ _ (.inl rfl) e,c⟩,r⟩
 |Mp lo hi=>obtain⟨t,u,v,e⟩:=x;exact⟨t,u,v,k _ _ (.inl rfl) e⟩
 |Hd Z u ih=>obtain⟨e,q⟩:=x;exact⟨k _ _ (.inl rfl) e,ih q⟩
 |tbl ps =>
  have e:h.get? a=some { cls:=.none,data:=.fields ps }:=x;show h'.get? a=some { cls:=.none,data:=.fields ps };exact k a _ (.inl rfl) e
 |met f y =>
  have e:h.get? a=some (PySem.W.methodObj (.ref f) (.ref y)):=x;show h'.get? a=some (PySem.W.methodObj (.ref f) (.ref y));exact k a _ (.inl rfl) e
 |ext φ=>obtain⟨p,⟨o,e⟩,st⟩:=x;exact⟨st _ _ p λo q=>k _ _ (.inl rfl) q,⟨o,k _ _ (.inl rfl) e⟩,st⟩
theorem Ma.lt(x:Ma P w H h)(e:H a=some o):a<h.objs.size:=(x a o e).lt
def Ma.fresh(x:Ma P w H h)(e:h.objs.size<=a):H a=none:=by
 cases q:H a with
 |none=>rfl|some u=>exact absurd (gm (x.lt q) e) (nu _)
def Ma.kept(x:Ma P w H h)(k:∀b u,h.get? b=some u->h'.get? b=some u):Ma P w H h':=λa o e =>
 (x a o e).stay (λb u _ q=>k b u q) (λ_ q=>q) λ_ _ q=>q
def Ma.laid(x:Ma P w H h)(k:∀b u,h.get? b=some u->h'.get? b=some u)(U:h.objs.size<=a)(new:yw P w (upd H a o) h' a o):Ma P w (upd H a o) h':=λb u e=>by
 have Z:=x.fresh U
 by_cases G:b=a
 .subst G;rw[qy] at e;cases e;exact new
 .rw[j6 G] at e
  exact(x b u e).stay (λc v _ q=>k c v q) (λc q=>by rw[j6 (m5 q Z)];exact q) λc R q=>by rw[j6 (m5 q Z)];exact q
def Rd(H:Hp)(a:Addr)(u:HO):Prop:=H a=some u\/∃o,H a=some (.Hd o u)
def Rd.ok(r:Rd H a u)(x:Ma P w H h):yw P w H h a u:=by
 rcases r with r|⟨o,r⟩
 .exact x a u r
 .obtain⟨_,q⟩:=x a _ r
  exact q
def Mut:Option HO->Prop
 |some (.lst _)=>True|some (.dK _)=>True|some (.dT _)=>True|some (.set _ _)=>True|some (.ins _ _ _)=>True|some (.ext _)=>True|_=>False
def Ma.write(ok:Ma P w H h)(U:Mut (H x))(he:e=x\/H e=some (.own x))(k:∀b u,b≠e->h.get? b=some u->h'.get? b=some u)(qk:∃u,h'.get? e=some u)(new:yw P w (upd H x o') h' x o'):Ma P w (upd H x o') h':=λb u q=>by
 have G:∀c y,H c=some (.own y)->c≠x:=λc y r z=>by subst z;rw[r] at U;exact U
 have qq:∀c R,H c=some (.tup R)->c≠x:=λc R r z=>by subst z;rw[r] at U;exact U
 by_cases hb:b=x
 .subst hb;rw[qy] at q;cases q;exact new
 .rw[j6 hb] at q
  by_cases Z:b=e
  .have q':H b=some (.own x):=by
    rcases he with z|z
    .exact absurd (Z.trans z) hb
    .rw[Z];exact z
   rw[q] at q';cases q';obtain⟨v,hv⟩:=qk;exact⟨v,by rw[Z];exact hv⟩
  .refine(ok b u q).stay (λc v hc r=>k c v ?_ r) (λc r=>by rw[j6 (G c b r)];exact r) λc R r=>by rw[j6 (qq c R r)];exact r
   rcases hc with rfl|hc
   .exact Z
   .rintro rfl
    rcases he with z|z
    .exact G c b hc z
    .rw[hc] at z;cases z;exact hb rfl
structure Un(fs ex:X1)(H H':Hp)(h h':Heap):Prop where
 keep:∀b o,h.get? b=some o->H b=none->b∉fs->b∉ex->h'.get? b=some o
 slot:∀b o,h.get? b=some o->H b=none->b∈fs->b∉ex->∃sl,h'.get? b=some { o with slots:=sl }
 free:∀b o,h.get? b=some o->H b=none->b∉ex->H' b=none
 there:∀b o,h.get? b=some o->b∉ex->∃o',h'.get? b=some o'
 Tw:∀b xs,H b=some (.tup xs)->H' b=some (.tup xs)
 Xh:∀b o u,H b=some (.Hd o u)->H' b=some (.Hd o u)
 Zv:∀b ps,H b=some (.tbl ps)->∃more,H' b=some (.tbl (ps++more))
def Un.any(u:Un fs ex H H1 h h1)(q:h.get? b=some Z)(n:H b=none)(U:b∉ex):∃R,h1.get? b=some { Z with slots:=R }:=by
 by_cases G:b∈fs
 .exact u.slot b Z q n G U
 .exact⟨Z.slots,u.keep b Z q n G U⟩
def Un.kept(k:∀b u,h.get? b=some u->h'.get? b=some u):Un fs ex H H h h' :=
 ⟨λb Z q _ _ _=>k b Z q,λb Z q _ _ _=>⟨Z.slots,k b Z q⟩,λ_ _ _ n _=>n,λb Z q _=>⟨Z,k b Z q⟩,λ_ _ q=>q,λ_ _ _ q=>q,λ_ ps q=>⟨#[],by rw[q];simp⟩⟩
def Un.refl:Un fs ex H H h h:=Un.kept λ_ _ q=>q
theorem Un.laid(k:∀b u,h.get? b=some u->h'.get? b=some u)(U:h.objs.size<=a)(Z:H a=none):Un fs ex H (upd H a o) h h' where
 keep:=λb u q _ _ _=>k b u q
 slot:=λb u q _ _ _=>⟨u.slots,k b u q⟩
 free:=λb u q n _=>by rw[j6 (fu (gm (au q) U))];exact n
 there:=λb u q _=>⟨u,k b u q⟩
 Tw:=λb G q=>by rw[j6 (m5 q Z)];exact q
 Xh:=λb u G q=>by rw[j6 (m5 q Z)];exact q
 Zv:=λb ps q=>⟨#[],by rw[j6 (m5 q Z),q];simp⟩
def Un.write(G:Mut (H x))(he:e=x\/H e=some (.own x))(k:∀b u,b≠e->h.get? b=some u->h'.get? b=some u)(R:∃u,h'.get? e=some u):Un fs ex H (upd H x o) h h':=by
 have hx:∀b,H b=none->b≠x:=λb n z=>by subst z;rw[n] at G;exact G
 have hb:∀b,H b=none->b≠e:=λb n z=>by
  subst z;rcases he with r|r
  .exact hx b n r
  .rw[n] at r;cases r
 have U:∀b u,H b=some u->¬Mut (some u)->b≠x:=λb u q nm z=>by subst z;rw[q] at G;exact nm G
 refine⟨λb u q n _ _=>k b u (hb b n) q,λb u q n _ _=>⟨u.slots,k b u (hb b n) q⟩,λb u q n _=>by rw[j6 (hx b n)];exact n,λb u q _=>?_,
  λb xs q=>by rw[j6 (U b _ q λz=>z)];exact q,λb u xs q=>by rw[j6 (U b _ q λz=>z)];exact q,λb ps q=>⟨#[],by rw[j6 (U b _ q λz=>z),q];simp⟩⟩
 by_cases Z:b=e
 .subst Z;exact R
 .exact⟨u,k b u Z q⟩
noncomputable def trk(h:Heap)(H:Hp):List Addr:=(List.range h.objs.size).filter λa=>(H a).isSome
def Xi(h:Heap)(H:Hp):Heap:=PySem.W.hideAll h (trk h H)
def age(h:Heap)(H:Hp):(Xi h H).objs.size=h.objs.size:=PySem.W.hideAll_size _ _
def ajw(e:h.get? b=some o)(n:H b=none):(Xi h H).get? b=some o :=
 PySem.W.hideAll_get _ e λZ=>by have q:(H b).isSome=true:=(uw.mp Z).2;rw[n] at q;simp at q
def aok(e:(Xi h H).get? b=some o):h.get? b=some o/\H b=none:=by
 have Z:h.get? b=some o:=PySem.W.of_hideAll (trk h H) e;refine⟨Z,?_⟩;cases q:H b with
 |none=>rfl
 |some x =>
  have G:b∈trk h H:=uw.mpr ⟨jc.mpr (au Z),by simp[q]⟩;have z:(Xi h H).get? b=none:=PySem.W.hideAll_none (trk h H) G;rw[z] at e;cases e
end L2
namespace L2
open PySem PySem.Spec PyProof.Rows
structure Mod(K:Fg)(mg:Zs)(base:Heap):Prop where
 kin:K.In base
 glob:base.Ns mainGlobals mg
 blt:∃mb,base.Ns builtinsNs mb/\∀x:Str,x≠"__name__" -> mb x=bootBuiltins x
 nolimit:base.NoLimit
structure Cx where
 prog:Program
 w:World
 K:Fg
 mg:Str->Option Value
 base:Heap
 A:Around
 N:List Str
 s₀:Shared
 H₀:Hp
 env:Env
 outer:List Env
 stack:List Env
 ex:List Addr
 fn:Str->Bool
 calm:Bool
 pn:List (Addr×Obj)
 xe:Value->Shared->Prop
noncomputable def frs(l:List Env):List Addr:=l.filterMap (·.frame)
abbrev Cx.fs(X:Cx):List Addr:=frs X.outer
def Vis(Z:Scope)(x:Str):Prop:=Z.names.lookup x=some .local\/Z.names.lookup x=some .cell\/Z.names.lookup x=some .free
def Loc(Z:Scope)(x:Str):Prop:=Z.names.lookup x=some .local\/Z.names.lookup x=some .cell
def Look(Z:Env)(h:Heap)(m:Zs)(x:Str)(u:Value):Prop :=
 (Z.kindOf x=some .local/\m x=some u)\/((Z.kindOf x=some .cell\/Z.kindOf x=some .free)/\∃c,Z.cells.lookup x=some c/\h.IsCell c (some u))
structure Cx.Ok(X:Cx):Prop where
 mod:Mod X.K X.mg X.base
 kind:X.env.scope.kind=.function
 glob:X.env.globals=mainGlobals
 blt:X.env.builtins=builtinsNs
 above:X.s₀.heap.objs.size<=X.env.locals
 inj:∀x y c,X.env.cells.lookup x=some c->X.env.cells.lookup y=some c->x=y
 has:∀x,(X.env.kindOf x=some .cell\/X.env.kindOf x=some .free)->∃c,X.env.cells.lookup x=some c
 cab:∀x c,X.fn x=true->X.env.cells.lookup x=some c->X.s₀.heap.objs.size<=c
 hd:X.calm=true->X.A.handled=none
 frames:X.A.frames=some X.stack
 stk:X.stack=X.outer\/(X.stack=X.env::X.outer/\X.env.frame=some X.env.locals)
 exf:∀b∈X.ex,b≠X.env.locals/\∀x c,X.env.cells.lookup x=some c->c≠b
 bs:∀b o,X.base.get? b=some o->X.s₀.heap.get? b=some o/\X.H₀ b=none
 bsz:X.base.objs.size<=X.s₀.heap.objs.size
 ajy:∀b o,X.base.get? b=some o->b∉X.ex
 aom:∀b∈X.ex,b∉X.fs
 Qx:X.s₀.heap.FunFrames X.base X.outer
 frf:∀b∈X.fs,X.H₀ b=none
structure Inv(X:Cx)(pins:Zp)(σ:List (Option V))(H:Hp)(s:Shared):Prop where
 ok:X.Ok
 os:s.os=X.s₀.os
 bare:AllBare s.gens
 base:Un X.fs X.ex X.H₀ H X.s₀.heap s.heap
 loc:∃m,s.heap.Ns X.env.locals m/\∀(i:Nat)(x:Str)(v:V),X.N[i]?=some x->σ[i]?=some (some v)->Vis X.env.scope x->∃u,RelV v u/\Look X.env s.heap m x u
 cell:∀x c,X.env.cells.lookup x=some c->∃v,s.heap.IsCell c v
 free:H X.env.locals=none
 J7:∀x c,X.env.cells.lookup x=some c->H c=none
 pin:∀p∈X.pn++pins,s.heap.get? p.1=some p.2/\H p.1=none/\p.1≠X.env.locals/\p.1∉X.fs/\∀v,p.2.data≠.cell v
 yp:Ma X.prog X.w H s.heap
 len:σ.length=X.N.length
def Cx.Ok.a6s{X:Cx}(ok:X.Ok)(e:X.base.get? b=some o):b∉X.fs:=λZ=>by have:=(ok.Qx.mem Z).1;rw[e] at this;cases this
theorem Inv.bs(I:Inv X pins σ H s):∀b o,X.base.get? b=some o->s.heap.get? b=some o/\H b=none:=λb o e =>
 ⟨I.base.keep b o (I.ok.bs b o e).1 (I.ok.bs b o e).2 (I.ok.a6s e) (I.ok.ajy b o e),I.base.free b o (I.ok.bs b o e).1 (I.ok.bs b o e).2 (I.ok.ajy b o e)⟩
def Inv.bk(I:Inv X pins σ H s):∀b o,X.base.get? b=some o->s.heap.get? b=some o:=λb o e=>(I.bs b o e).1
theorem Inv.mod(I:Inv X pins σ H s):Mod X.K X.mg X.base:=I.ok.mod
def Inv.kIn(I:Inv X pins σ H s):X.K.In s.heap:=I.ok.mod.kin.keeps I.bk
theorem Inv.lt(I:Inv X pins σ H s):X.env.locals<s.heap.objs.size:=let ⟨_,hn,_⟩:=I.loc;hn.lt
def Inv.sz(I:Inv X pins σ H s):X.s₀.heap.objs.size<=s.heap.objs.size:=bj I.ok.above (yo I.lt)
def Inv.ay7(I:Inv X pins σ H s)(h:s.heap.objs.size<=a):a∉X.fs:=λZ=>by obtain⟨_,o,G,_⟩:=I.ok.Qx.mem Z;exact absurd (gm (au G) (bj I.sz h)) (nu _)
def Inv.cne(I:Inv X pins σ H s):∀x c,X.env.cells.lookup x=some c->c≠X.env.locals:=λx c e z=>by obtain⟨v,o,R,U⟩:=I.cell x c e;obtain⟨m,⟨o',es,ep,Z,G,_⟩,_⟩:=I.loc;rw[z,Z] at R;cases R;rw[G] at U;cases U
theorem Inv.Qx(I:Inv X pins σ H s):s.heap.FunFrames X.base X.outer:=by
 have all:∀(l:List Env),(∀b∈frs l,b∈X.fs)->X.s₀.heap.FunFrames X.base l->s.heap.FunFrames X.base l:=by
  intro l
  induction l with
  |nil=>intro _ _;trivial
  |cons qq r ih =>
   intro R hl;obtain⟨hk,⟨L,o,U,hn,ho,hd⟩,hr⟩:=hl;have Z:L∈X.fs:=R L (by unfold frs;rw[List.filterMap_cons,U];exact cg);obtain⟨sl,e⟩:=I.base.slot L o ho (I.ok.frf L Z) Z λz=>I.ok.aom L z Z
   exact⟨hk,⟨L,_,U,hn,e,hd⟩,ih (λb G=>R b (by unfold frs;rw[List.filterMap_cons,U];exact bh _ G)) hr⟩
 exact all X.outer (λ_ G=>G) I.ok.Qx
theorem Inv.stack(I:Inv X pins σ H s):s.heap.FunFrames X.base X.stack:=by
 rcases I.ok.stk with e|⟨e,hf⟩
 .rw[e];exact I.Qx
 .rw[e]
  obtain⟨m,Z,_⟩:=I.loc;refine .cons (by rw[I.ok.kind];decide) hf Z ?_ I.Qx;exact Heap.get?_none_of_le (bj I.ok.bsz I.ok.above)
def Inv.Xj(I:Inv X pins σ H s):∀b∈frs X.stack,b∈X.env.locals::X.fs:=λb Z=>by
 rcases I.ok.stk with e|⟨e,hf⟩
 .rw[e] at Z;exact bh _ Z
 .rw[e] at Z
  unfold frs at Z;rw[List.filterMap_cons,hf] at Z;exact Z
def Inv.aee(I:Inv X pins σ H s):∀b∈frs X.stack,H b=none:=λb Z=>by
 rcases cj.mp (I.Xj b Z) with e|Z
 .rw[e];exact I.free
 .obtain⟨_,o,G,_⟩:=I.ok.Qx.mem Z
  exact I.base.free b o G (I.ok.frf b Z) λz=>I.ok.aom b z Z
def Inv.step{ch:X1}(I:Inv X pins σ H s)(U:∀b∈ch,(b∈X.ex\/X.s₀.heap.objs.size<=b)/\b≠X.env.locals/\(∀x c,X.env.cells.lookup x=some c->c≠b)/\∀p∈X.pn++pins,p.1≠b)(qq:∀b o,b≠X.env.locals->b∉X.fs->b∉ch->s.heap.get? b=some o->H b=none->h'.get? b=some o)(qv:∀b o,b≠X.env.locals->b∈X.fs->b∉ch->s.heap.get? b=some o->H b=none->∃sl,h'.get? b=some { o with slots:=sl })(free:∀b o,b∉ch->s.heap.get? b=some o->H b=none->H' b=none)(q0:∀b o,b∉ch->s.heap.get? b=some o->∃o',h'.get? b=some o')(Tw:∀b xs,H b=some (.tup xs)->H' b=some (.tup xs))(Xh:∀b o u,H b=some (.Hd o u)->H' b=some (.Hd o u))(Zv:∀b ps,H b=some (.tbl ps)->∃more,H' b=some (.tbl (ps++more)))(ns:∀m,s.heap.Ns X.env.locals m->h'.Ns X.env.locals m)(yp:Ma X.prog X.w H' h')(hg:AllBare g') :
 Inv X pins σ H' { s with heap:=h',gens:=g',drawn:=d',toks:=t' }:=by
 have q1:∀b o,X.s₀.heap.get? b=some o->b≠X.env.locals:=λb o e=>fu (gm (au e) I.ok.above)
 have qk:∀b o,X.s₀.heap.get? b=some o->b∉X.ex->b∉ch:=λb o e Z hb=>by
  rcases(U b hb).1 with z|z
  .exact Z z
  .exact absurd (gm (au e) z) (nu _)
 have R:∀x c,X.env.cells.lookup x=some c->∀v,s.heap.IsCell c v->h'.IsCell c v:=λx c e v ⟨o,ho,hd⟩=>by
  have G:c∉ch:=λz=>(U c z).2.2.1 x c e rfl
  by_cases hc:c∈X.fs
  .obtain⟨sl,q⟩:=qv c o (I.cne x c e) hc G ho (I.J7 x c e)
   exact⟨_,q,hd⟩
  .exact⟨o,qq c o (I.cne x c e) hc G ho (I.J7 x c e),hd⟩
 refine⟨I.ok,I.os,hg,⟨λb o e n hb Z=>?_,λb o e n hb Z=>?_,λb o e n Z=>?_,λb o e Z=>?_,λb xs e=>Tw b xs (I.base.Tw b xs e),λb o xs e=>Xh b o xs (I.base.Xh b o xs e),λb ps e=>?_⟩,?_,λx c e=>?_,?_,λx c e=>?_,λp hp=>?_,yp,I.len⟩
 .exact qq b o (q1 b o e) hb (qk b o e Z) (I.base.keep b o e n hb Z) (I.base.free b o e n Z)
 .obtain⟨sl,e1⟩:=I.base.slot b o e n hb Z
  obtain⟨q2,e2⟩:=qv b _ (q1 b o e) hb (qk b o e Z) e1 (I.base.free b o e n Z);exact⟨q2,e2⟩
 .obtain⟨o',e1⟩:=I.base.there b o e Z
  exact free b o' (qk b o e Z) e1 (I.base.free b o e n Z)
 .obtain⟨o',e1⟩:=I.base.there b o e Z
  exact q0 b o' (qk b o e Z) e1
 .obtain⟨m1,e1⟩:=I.base.Zv b ps e
  obtain⟨m2,e2⟩:=Zv b _ e1;exact⟨m1++m2,by rw[e2,Array.append_assoc]⟩
 .obtain⟨m,hn,hl⟩:=I.loc
  refine⟨m,ns m hn,λi x v e1 e2 e3=>?_⟩;obtain⟨u,r,l⟩:=hl i x v e1 e2 e3;refine⟨u,r,?_⟩;rcases l with l|⟨k,c,e,z⟩
  .exact .inl l
  .exact .inr ⟨k,c,e,R x c e _ z⟩
 .obtain⟨v,z⟩:=I.cell x c e
  exact⟨v,R x c e v z⟩
 .obtain⟨m,⟨o,_,_,ho,_⟩,_⟩:=I.loc
  exact free _ o (λz=>(U _ z).2.1 rfl) ho I.free
 .obtain⟨v,o,ho,hd⟩:=I.cell x c e
  exact free c o (λz=>(U c z).2.2.1 x c e rfl) ho (I.J7 x c e)
 .obtain⟨e,n,ne,nf,d⟩:=I.pin p hp
  have G:p.1∉ch:=λz=>(U p.1 z).2.2.2 p hp rfl
  exact⟨qq p.1 p.2 ne nf G e n,free p.1 p.2 G e n,ne,nf,d⟩
def Inv.un(I:Inv X pins σ H s)(u:Un X.fs [] H H' s.heap h')(yp:Ma X.prog X.w H' h'):Inv X pins σ H' { s with heap:=h',toks:=t' }:=by
 obtain⟨m,⟨o,es,ep,ho,r⟩,_⟩:=id I.loc;obtain⟨sl,hL⟩:=u.any ho I.free (by simp);exact I.step (g':=s.gens) (d':=s.drawn) (ch:=[]) (λ_ z=>nomatch z) (λb o _ U _ e n=>u.keep b o e n U (by simp)) (λb o _ U _ e n=>u.slot b o e n U (by simp)) (λb o _ e n=>u.free b o e n (by simp)) (λb o _ e=>u.there b o e (by simp)) u.Tw u.Xh u.Zv (λm' hm=>by
  obtain⟨o',G,R,Z,r'⟩:=hm;rw[ho] at Z;cases Z;exact⟨_,G,R,hL,r'⟩) yp I.bare
def Inv.call(I:Inv X pins σ H s)(u:Un (frs X.stack) ch H H' s.heap h')(yp:Ma X.prog X.w H' h')(hg:AllBare g')(U:∀b∈ch,(b∈X.ex\/X.s₀.heap.objs.size<=b)/\b≠X.env.locals/\(∀x c,X.env.cells.lookup x=some c->c≠b)/\∀p∈X.pn++pins,p.1≠b) :
 Inv X pins σ H' { s with heap:=h',gens:=g',drawn:=d',toks:=t' }:=by
 obtain⟨m,⟨o,es,ep,ho,r⟩,_⟩:=id I.loc;obtain⟨sl,hL⟩:=u.any ho I.free λz=>(U _ z).2.1 rfl
 exact I.step (ch:=ch) U (λb o hL hb Z e n=>u.keep b o e n (λz=>(cj.mp (I.Xj b z)).elim hL hb) Z) (λb o _ _ Z e n=>u.any e n Z) (λb o Z e n=>u.free b o e n Z) (λb o Z e=>u.there b o e Z) u.Tw u.Xh u.Zv (λm' hm=>by
  obtain⟨o',R,qq,G,r'⟩:=hm;rw[ho] at G;cases G;exact⟨_,R,qq,hL,r'⟩) yp hg
def Inv.turned(I:Inv X pins σ H s)(k:∀b o,b≠it->s.heap.get? b=some o->h'.get? b=some o)(hn:H it=none)(U:it≠X.env.locals)(h1:it∈X.ex\/X.s₀.heap.objs.size<=it)(h2:∀x c,X.env.cells.lookup x=some c->c≠it)(h3:∀p∈X.pn++pins,p.1≠it):Inv X pins σ H { s with heap:=h',toks:=t' }:=by
 have G:∀b u,H b=some u->b≠it:=λb u e z=>by rw[z,hn] at e;cases e
 refine I.step (g':=s.gens) (d':=s.drawn) (ch:=[it]) (λb hb=>?_) (λb o _ _ Z e _=>k b o (λz=>Z (by simp[z])) e) (λb o _ _ Z e _=>⟨o.slots,k b o (λz=>Z (by simp[z])) e⟩) (λ_ _ _ _ n=>n)
  (λb o Z e=>⟨o,k b o (λz=>Z (by simp[z])) e⟩) (λ_ _ e=>e) (λ_ _ _ e=>e) (λb ps e=>⟨#[],by rw[e];simp⟩) (λm R=>?_) (λb u e=>?_) I.bare
 .have e:b=it:=by simpa using hb
  subst e;exact⟨h1,U,h2,h3⟩
 .obtain⟨o,es,ep,ho,r⟩:=R
  exact⟨o,es,ep,k _ o (jr U) ho,r⟩
 .refine(I.yp b u e).stay (λc v Z q=>k c v ?_ q) (λ_ q=>q) λ_ _ q=>q
  rcases Z with z|z
  .rw[z];exact G b u e
  .exact G c _ z
def Inv.tok(I:Inv X pins σ H s)(t:Nat):Inv X pins σ H { s with toks:=t }:=I.un (h':=s.heap) (t':=t) Un.refl I.yp
theorem Inv.kept(I:Inv X pins σ H s)(k:∀b u,s.heap.get? b=some u->Z.get? b=some u):Inv X pins σ H { s with heap:=Z,toks:=t' }:=I.un (Un.kept k) (I.yp.kept k)
theorem Inv.laid(I:Inv X pins σ H s)(k:∀b u,s.heap.get? b=some u->h'.get? b=some u)(Z:s.heap.objs.size<=a)(new:yw X.prog X.w (upd H a o) h' a o) :
 Inv X pins σ (upd H a o) { s with heap:=h',toks:=t' }:=I.un (Un.laid k Z (I.yp.fresh Z)) (I.yp.laid k Z new)
theorem Inv.write(I:Inv X pins σ H s)(R:Mut (H x))(U:e=x\/H e=some (.own x))(k:∀b u,b≠e->s.heap.get? b=some u->G.get? b=some u)(Z:∃u,G.get? e=some u)(new:yw X.prog X.w (upd H x o) G x o):Inv X pins σ (upd H x o) { s with heap:=G,toks:=t' }:=I.un (Un.write R U k Z) (I.yp.write R U k Z new)
def Inv.weak(I:Inv X pins σ H s)(Z:σ'.length=σ.length)(w:∀(i:Nat) v,σ'[i]?=some (some v)->σ[i]?=some (some v)):Inv X pins σ' H s :=
 ⟨I.ok,I.os,I.bare,I.base,let ⟨m,hn,hl'⟩:=I.loc;⟨m,hn,λi x v G R U=>hl' i x v G (w i v R) U⟩,I.cell,I.free,I.J7,I.pin,I.yp,Z.trans I.len⟩
def Inv.Xk(I:Inv X pins σ H s)(h:∀p∈aef,s.heap.get? p.1=some p.2/\H p.1=none/\p.1≠X.env.locals/\p.1∉X.fs/\∀v,p.2.data≠.cell v):Inv X aef σ H s :=
 ⟨I.ok,I.os,I.bare,I.base,I.loc,I.cell,I.free,I.J7,λp Z=>(bz.mp Z).elim (λz=>I.pin p (ji _ z)) (h p),I.yp,I.len⟩
def Fw{N:Yf}(Z:N.Nodup){i:Nat}(a:N[i]?=some x)(b:N[j]?=some x):i=j:=by obtain⟨h1,G⟩:=ak.mp a;obtain⟨R,U⟩:=ak.mp b;exact(wy Z).mp (G.trans U.symm)
def agf(I:Inv X pins σ H s)(hN:X.N.Nodup)(hi:X.N[i]?=some x)(hx:Loc X.env.scope x)(r:RelV v u)(h:∀s',Inv X pins (σ.set i (some v)) H s'->(∃a,Heap.SameBut a s.heap s'.heap/\(a=X.env.locals\/X.env.cells.lookup x=some a))->Q () s')(hf:X.fn x=true\/X.env.scope.names.lookup x=some .local:=by first|exact .inl rfl|exact .inr rfl|assumption):wpAny M A (storeName X.env x u) Q E s:=by
 obtain⟨m,hn,hl⟩:=id I.loc;have q3:(X.env.scope.kind==.class||(X.env.scope.kind==.module&&X.env.locals != X.env.globals))=false:=by rw[I.ok.kind];rfl
 have qq:i < σ.length:=by rw[I.len];exact(ak.mp hi).1
 have cne:=I.cne;have G:∀{a:Addr}{h':Heap},(∃o,s.heap.get? a=some o/\H a=none)->Heap.SameBut a s.heap h'->Ma X.prog X.w H h':=fun{a h'} ha Z b ob e=>by
  obtain⟨_,_,Qk⟩:=ha;refine(I.yp b ob e).stay (λc w' R q=>(Z.2 c ?_).trans q) (λ_ q=>q) λ_ _ q=>q
  rintro rfl;rcases R with rfl|R
  .rw[Qk] at e;cases e
  .rw[Qk] at R;cases R
 rcases hx with hk|hk
 .refine wpAny_storeName_local hk hn (λh' Wl Z=>?_) q3
  obtain⟨oL,_,_,q2,_⟩:=id hn;refine h _ ⟨I.ok,I.os,I.bare,⟨λb o e n hb hx=>?_,λb o e n hb hx=>?_,I.base.free,λb o e hx=>?_,I.base.Tw,I.base.Xh,I.base.Zv⟩,⟨_,Wl,λj y v' U e2 e3=>?_⟩,λy c e=>?_,I.free,I.J7,λp hp=>?_,G ⟨oL,q2,I.free⟩ Z,by simpa using I.len⟩ ⟨_,Z,.inl rfl⟩
  .exact(Z.2 b (fu (gm (au e) I.ok.above))).trans (I.base.keep b o e n hb hx)
  .obtain⟨sl,U⟩:=I.base.slot b o e n hb hx
   exact⟨sl,(Z.2 b (fu (gm (au e) I.ok.above))).trans U⟩
  .obtain⟨o',U⟩:=I.base.there b o e hx
   exact⟨o',(Z.2 b (fu (gm (au e) I.ok.above))).trans U⟩
  .by_cases hj:j=i
   .subst hj
    rw[hi] at U;cases U;rw[uc qq] at e2;cases e2;exact⟨u,r,.inl ⟨hk,by simp⟩⟩
   .rw[q8 (jr hj)] at e2
    obtain⟨u',r',q⟩:=hl j y v' U e2 e3;refine⟨u',r',?_⟩;rcases q with⟨k,e⟩|⟨k,c,e,z⟩
    .refine .inl ⟨k,?_⟩
     have:y≠x:=λe=>hj (Fw hN U (e▸hi))
     simp[this,e]
    .exact .inr ⟨k,c,e,z.sameBut Z (cne y c e)⟩
  .obtain⟨w',z⟩:=I.cell y c e
   exact⟨w',z.sameBut Z (cne y c e)⟩
  .obtain⟨e,n,ne,nf,d⟩:=I.pin p hp
   exact⟨(Z.2 p.1 ne).trans e,n,ne,nf,d⟩
 .have qk:X.fn x=true:=by
   rcases hf with z|z
   .exact z
   .rw[z] at hk;cases hk
  obtain⟨c,R⟩:=I.ok.has x (.inl hk);obtain⟨w',z⟩:=I.cell x c R;refine wpAny_storeName_cell I.ok.kind hk R z (λh' qv Z=>?_);obtain⟨oc,q1,q4⟩:=id z;refine h { s with heap:=h' } ⟨I.ok,I.os,I.bare,⟨λb o e n hb hx=>?_,λb o e n hb hx=>?_,I.base.free,λb o e hx=>?_,I.base.Tw,I.base.Xh,I.base.Zv⟩,⟨m,hn.sameBut Z (jr (cne x c R)),λj y v' U e2 e3=>?_⟩,λy c' e=>?_,I.free,I.J7,λp hp=>?_,G ⟨oc,q1,I.J7 x c R⟩ Z,by simpa using I.len⟩ ⟨c,Z,.inr R⟩
  .exact(Z.2 b (fu (gm (au e) (I.ok.cab x c qk R)))).trans (I.base.keep b o e n hb hx)
  .obtain⟨sl,U⟩:=I.base.slot b o e n hb hx
   exact⟨sl,(Z.2 b (fu (gm (au e) (I.ok.cab x c qk R)))).trans U⟩
  .obtain⟨o',U⟩:=I.base.there b o e hx
   exact⟨o',(Z.2 b (fu (gm (au e) (I.ok.cab x c qk R)))).trans U⟩
  .by_cases hj:j=i
   .subst hj
    rw[hi] at U;cases U;rw[uc qq] at e2;cases e2;exact⟨u,r,.inr ⟨.inl hk,c,R,qv⟩⟩
   .rw[q8 (jr hj)] at e2
    obtain⟨u',r',q⟩:=hl j y v' U e2 e3;refine⟨u',r',?_⟩;rcases q with q|⟨k,c',e,z'⟩
    .exact .inl q
    .refine .inr ⟨k,c',e,z'.sameBut Z ?_⟩
     rintro rfl;exact hj (Fw hN U (I.ok.inj _ _ _ e R▸hi))
  .by_cases q0:c'=c
   .subst q0;exact⟨_,qv⟩
   .obtain⟨w2,z2⟩:=I.cell y c' e
    exact⟨w2,z2.sameBut Z q0⟩
  .obtain⟨e,n,ne,nf,d⟩:=I.pin p hp
   refine⟨(Z.2 p.1 ?_).trans e,n,ne,nf,d⟩;intro q;rw[q,q1] at e;have q':oc=p.2:=gq e;exact d w' (by rw[<- q'];exact q4)
def aj1(I:Inv X pins σ H s)(G:X.N.Nodup)(U:X.N[i]?=some x)(hx:Loc X.env.scope x)(r:RelV v u)(h:∀Z,Inv X pins (σ.set i (some v)) H Z->Q () Z)(hf:X.fn x=true\/X.env.scope.names.lookup x=some .local:=by first|exact .inl rfl|exact .inr rfl|assumption):wpAny M A (storeName X.env x u) Q E s :=
 agf I G U hx r (λZ R _=>h Z R) hf
def Inv.call'(I:Inv X pins σ H s)(ho:s'.os=s.os)(u:Un (frs X.stack) ch H H' s.heap s'.heap)(yp:Ma X.prog X.w H' s'.heap)(hg:AllBare s'.gens)(Z:∀b∈ch,(b∈X.ex\/X.s₀.heap.objs.size<=b)/\b≠X.env.locals/\(∀x c,X.env.cells.lookup x=some c->c≠b)/\∀p∈X.pn++pins,p.1≠b):Inv X pins σ H' s':=by obtain⟨h',U,G,R,o'⟩:=s';have e:o'=s.os:=ho;subst e;exact I.call (g':=U) (t':=R) (d':=G) u yp hg Z
abbrev XK:=Value->Option Addr->Hp->Prop
abbrev St:=List (Option V)
abbrev VK:=V->Hp->Prop
abbrev TE:=St->Hp->VK->Prop
abbrev TT:=St->Hp->(Bool->Hp->Prop)->Prop
abbrev TA:=St->Hp->(List V->Hp->Prop)->Prop
structure Ends where
 nx:St->Hp->Prop
 rt:VK
 bk:St->Hp->Prop:=λ_ _=>False
 ct:St->Hp->Prop:=λ_ _=>False
abbrev TS:=Ends->St->Hp->Prop
def EP(X:Cx)(Z:Zp)(U:St)(Q:VK)(u:Value)(R:Shared):Prop:=∃v G,Inv X Z U G R/\RelV v u/\Q v G
def TP(X:Cx)(Z:Zp)(U:St)(Q:Bool->Hp->Prop)(b:Bool)(R:Shared):Prop:=∃G,Inv X Z U G R/\Q b G
def AP(X:Cx)(Z:Zp)(R:St)(Q:List V->Hp->Prop)(us:Zl)(s':Shared):Prop:=∃G U,Inv X Z R U s'/\Vals G us/\Q G U
def SP(X:Cx)(G:Zp)(D:Ends)(f:Flow)(R:Shared):Prop :=
 match f with
 |.next=>∃Z U,Inv X G Z U R/\D.nx Z U|.brk=>∃Z U,Inv X G Z U R/\D.bk Z U|.cont=>∃Z U,Inv X G Z U R/\D.ct Z U|.ret u=>∃v Z U,Inv X G Z U R/\RelV v u/\D.rt v U
def PE(X:Cx)(e:Expr)(t:TE):Prop :=
 ∀(Z:Zp)(s:Shared)(G:St)(H:Hp)(Q:VK),Inv X Z G H s->t G H Q->wpAny (model X.prog X.w) X.A (eval e X.env) (EP X Z G Q) X.xe s
def PT(X:Cx)(e:Expr)(t:TT):Prop :=
 ∀(Z:Zp)(s:Shared)(G:St)(H:Hp)(Q:Bool->Hp->Prop),Inv X Z G H s->t G H Q->wpAny (model X.prog X.w) X.A (isTrue e X.env (eval e X.env)) (TP X Z G Q) X.xe s
def PW(X:Cx)(e:Expr)(t:TT):Prop :=
 ∀(G:Sem Value)(Z:Zp)(s:Shared)(U:St)(H:Hp)(Q:Bool->Hp->Prop),Inv X Z U H s->t U H Q->wpAny (model X.prog X.w) X.A (isTrue e X.env G) (TP X Z U Q) X.xe s
def PW.pt(h:PW X e t):PT X e t:=h _
def PA(X:Cx)(R:Ya)(t:TA):Prop :=
 ∀(U:Pos)(Z:Zp)(s:Shared)(G:St)(H:Hp)(Q:List V->Hp->Prop),Inv X Z G H s->t G H Q->wpAny (model X.prog X.w) X.A (spliced (backTo U (starEach R X.env))) (AP X Z G Q) X.xe s
def PS(X:Cx)(U:Stmt)(t:TS):Prop :=
 ∀(Z:Zp)(s:Shared)(G:St)(H:Hp)(D:Ends),Inv X Z G H s->t D G H->wpAny (model X.prog X.w) X.A (exec U X.env) (SP X Z D) X.xe s
def Oc(X:Cx)(U:List Stmt)(t:TS):Prop :=
 ∀(Z:Zp)(s:Shared)(G:St)(H:Hp)(D:Ends),Inv X Z G H s->t D G H->wpAny (model X.prog X.w) X.A (execs U X.env) (SP X Z D) X.xe s
def zg(h:wpAny M A t Q E s)(G:∀a s,Q a s->Z a s):wpAny M A t Z E s:=mj h G λ_ _ x=>x
end L2
namespace L2
open PySem PySem.Spec PyProof.Rows
def a6x(i:Nat):TE:=λZ H Q=>∃v,Z[i]?=some (some v)/\Q v H
def tC(v:V):TE:=λ_ H Q=>Q v H
def aud(hN:X.N[i]?=some x)(hv:Vis X.env.scope x)(R:(x==("__debug__" : Str))=false:=by decide)(qq:(x==("__classdict__" : Str))=false:=by decide):PE X (.Name x pos) (a6x i):=by
 intro U s σ H Q I h;obtain⟨v,e,h⟩:=h;obtain⟨m,hn,hl⟩:=I.loc;obtain⟨u,r,l⟩:=hl i x v hN e hv;have fin:EP X U σ Q u s:=⟨v,H,I,r,h⟩;rcases l with⟨Z,hm⟩|⟨Z,c,hc,G⟩
 .exact wpAny_Name (wpAny_loadName_local I.ok.kind Z hn hm fin) R
 .rcases Z with Z|Z
  .exact wpAny_Name (wpAny_loadName_cell I.ok.kind Z hc G fin) R
  .exact wpAny_Name (wpAny_loadName_free I.ok.kind Z hc G fin qq) R
def aue:PE X (.Constant (.int i) j pos) (tC (.int i)):=λ_ _ _ H _ I h=>wpAny_Constant_int ⟨.int i,H,I.tok _,⟨_,rfl⟩,h⟩
def aza:PE X (.Constant (.bool b) j pos) (tC (.bl b)):=λ_ _ _ H _ I h=>Constant_bool ⟨.bl b,H,I,rfl,h⟩
def auf:PE X (.Constant .none j pos) (tC .non):=λ_ _ _ H _ I h=>Constant_none ⟨.non,H,I,rfl,h⟩
def auh:PE X (.Constant (.str x) j pos) (tC (.str x)):=λ_ _ _ H _ I h=>Calls.Constant_str ⟨.str x,H,I.tok _,⟨_,rfl⟩,h⟩
def Gl(X:Cx)(x:Str):Prop:=X.env.kindOf x=some .globalImplicit
def Xl(I:Inv X pins σ H s)(G:Gl X x)(U:X.mg x=some u)(h:Q u s)(Z:(x==("__debug__" : Str))=false:=by decide):wpAny (model X.prog X.w) X.A (eval (.Name x pos) X.env) Q E s :=
 Calls.Name_function_global I.ok.kind G (Calls.loadGlobal_global (by rw[I.ok.glob];exact I.mod.glob.keeps I.bk) U h) Z
def Ii(I:Inv X pins σ H s)(G:Gl X x)(hm:X.mg x=none)(R:bootBuiltins x=some u)(h:Q u s)(hn:x≠"__name__" := by decide)(Z:(x==("__debug__" : Str))=false:=by decide):wpAny (model X.prog X.w) X.A (eval (.Name x pos) X.env) Q E s:=by obtain⟨mb,U,h2⟩:=I.mod.blt;exact Calls.Name_function_global I.ok.kind G (Calls.loadGlobal_builtin (by rw[I.ok.glob];exact I.mod.glob.keeps I.bk) hm (by rw[I.ok.blt];exact U.keeps I.bk) ((h2 x hn).trans R) h) Z
def aon(G:Gl X x)(U:X.mg x=some u)(r:RelV v u)(Z:(x==("__debug__" : Str))=false:=by decide):PE X (.Name x pos) (tC v) :=
 λ_ _ _ H _ I h=>Xl I G U ⟨v,H,I,r,h⟩ Z
def tB(t:TE):TT:=λG H Q=>t G H λx Z=>∃c,x=.bl c/\Q c Z
def aui(h:PE X e t)(R:∀Z,isTrue e X.env Z=(do let v <- Z;standAt e.pos;holding [v] (truthy v)):=by intro _;rfl):PT X e (tB t):=by intro G s U H Q I hw;refine isTrue_plain (zg (h G s U H _ I hw) λv s1 ⟨x,H1,I1,r1,q1⟩=>?_) (R _);obtain⟨d,rfl,q⟩:=q1;cases r1;exact jw ⟨H1,I1,q⟩
def a6y(t u:TT):TT:=λG H Q=>t G H λc Z=>if c=true then u G Z Q else Q false Z
def tOr(t u:TT):TT:=λG H Q=>t G H λc Z=>if c=true then Q true Z else u G Z Q
def a6z(t:TT):TT:=λG H Q=>t G H λc Z=>Q (!c) Z
def aoo(U:PT X a tA):PW X (.BoolOp .And [a] pos) tA:=by
 intro R Z s G H Q I h;refine isTrue_and (zg (U Z s G H Q I h) λc s1 e=>?_);cases c with
 |true=>exact isTrue_and_nil e|false=>exact e
def auj(U:PT X a tA):PW X (.BoolOp .Or [a] pos) tA:=by
 intro R Z s G H Q I h;refine isTrue_or (zg (U Z s G H Q I h) λc s1 e=>?_);cases c with
 |false=>exact isTrue_or_nil e|true=>exact e
def auk{Z:Ya}(ha:PT X a tA)(hb:PW X (.BoolOp .And (b::Z) pos) tB'):PW X (.BoolOp .And (a::b::Z) pos) (a6y tA tB'):=by
 intro wh G s R H Q I h;refine isTrue_and (zg (ha G s R H _ I h) λc s1 z_=>?_);obtain⟨H1,U,q1⟩:=z_;cases c with
 |true=>exact hb wh G s1 R H1 Q U q1|false=>exact⟨H1,U,q1⟩
def azb{Z:Ya}(ha:PT X a tA)(hb:PW X (.BoolOp .Or (b::Z) pos) tB'):PW X (.BoolOp .Or (a::b::Z) pos) (tOr tA tB'):=by
 intro wh G s R H Q I h;refine isTrue_or (zg (ha G s R H _ I h) λc s1 z_=>?_);obtain⟨H1,U,q1⟩:=z_;cases c with
 |true=>exact⟨H1,U,q1⟩|false=>exact hb wh G s1 R H1 Q U q1
def aj3(G:PT X a tA):PT X (.UnaryOp .Not a pos) (a6z tA):=by intro Z s R H Q I h;exact isTrue_not (G Z s R H (λc U=>Q (!c) U) I h)
def azc(R U:TE):TE:=λG H Q=>R G H λx Z=>∃c,x=.bl c/\if c=true then U G Z Q else Q (.bl false) Z
def a66(R U:TE):TE:=λG H Q=>R G H λx Z=>∃c,x=.bl c/\if c=true then Q (.bl true) Z else U G Z Q
def azd(U:TE):TE:=λG H Q=>U G H λx Z=>∃c,x=.bl c/\Q (.bl (!c)) Z
def aul{Z:Ya}(ha:PE X a ta)(hb:PE X (.BoolOp .And (b::Z) pos) tb):PE X (.BoolOp .And (a::b::Z) pos) (azc ta tb):=by
 intro G s σ H Q I h;refine BoolOp_and (zg (ha G s σ H _ I h) λv s1 z_=>?_);obtain⟨x,H1,R,r1,U⟩:=z_;obtain⟨c,rfl,U⟩:=U;cases r1;refine jw ?_;cases c with
 |true=>exact hb G s1 σ H1 Q R U|false=>exact⟨.bl false,H1,R,rfl,U⟩
def aze{Z:Ya}(ha:PE X a ta)(hb:PE X (.BoolOp .Or (b::Z) pos) tb):PE X (.BoolOp .Or (a::b::Z) pos) (a66 ta tb):=by
 intro G s σ H Q I h;refine BoolOp_or (zg (ha G s σ H _ I h) λv s1 z_=>?_);obtain⟨x,H1,R,r1,U⟩:=z_;obtain⟨c,rfl,U⟩:=U;cases r1;refine jw ?_;cases c with
 |false=>exact hb G s1 σ H1 Q R U|true=>exact⟨.bl true,H1,R,rfl,U⟩
def aum(ha:PE X a ta):PE X (.UnaryOp .Not a pos) (azd ta):=by intro Z s σ H Q I h;refine UnaryOp_ (zg (ha Z s σ H _ I h) λv s1 z_=>?_);obtain⟨x,H1,U,R,G⟩:=z_;obtain⟨c,rfl,G⟩:=G;cases R;exact not_of (jw ⟨.bl (!c),H1,U,rfl,G⟩)
end L2
namespace L2
open PySem PySem.Spec PyProof.Rows
def Ec(K:Fg)(H:Hp)(a:Addr)(G:List V):Prop :=
 Rd H a (.lst G) \/
  ∃(o:Obj)(Z:Xt)(n:Nat),K.lookup a=some o/\o.cls=.type "list"/\o.dict=none/\o.data=.seq Z n/\Z.size<=sizeLine/\Vals G Z.toList
def Fb(K:Fg)(H:Hp)(a:Addr)(G:List V):Prop :=
 Rd H a (.tup G) \/
  ∃(o:Obj)(Z:Xt)(n:Nat),K.lookup a=some o/\o.cls=.type "tuple"/\o.data=.seq Z n/\Z.size<=sizeLine/\Vals G Z.toList
noncomputable def a67:Value->Option V
 |.none=>some .non|.bool b=>some (.bl b)|.int i _=>some (.int i)|.str x _=>some (.str x)|.bytes b _=>some (.byt b)|.float b _=>some (.flt b)|.ref a=>some (.ref a)|.type n=>some (.ty n)|_=>none
def RelV.abs(r:RelV x u):a67 u=some x:=by
 cases x with
 |non=>cases r;rfl|bl _=>cases r;rfl|int _=>obtain⟨t,rfl⟩:=r;rfl
 |str _=>obtain⟨t,rfl⟩:=r;rfl
 |byt _=>obtain⟨t,rfl⟩:=r;rfl
 |flt _=>obtain⟨t,rfl⟩:=r;rfl
 |ref _=>cases r;rfl|ty _=>cases r;rfl
def RelV.inj(r:RelV x u)(q:RelV y u):x=y:=gq (r.abs.symm.trans q.abs)
theorem Vals.inj:∀{Z G:List V}{U:Zl},Vals Z U->Vals G U->Z=G
 |_,_,_,.nil,.nil=>rfl|_,_,_,.cons r t,.cons r' t'=>by rw[r.inj r',Vals.inj t t']
def Ec.of{K:Fg}(h:H a=some (.lst xs)):Ec K H a xs:=.inl (.inl h)
def Fb.of{K:Fg}(h:H a=some (.tup xs)):Fb K H a xs:=.inl (.inl h)
def Inv.list(I:Inv X pins σ H s)(h:Ec X.K H a G):∃Z:List Value,Vals G Z/\PlainL s.heap a Z.toArray/\G.length<=sizeLine:=by
 rcases h with h|⟨o,Z,n,hk,hc,hd,hs,hz,r⟩
 .obtain⟨z,Z,n,r,e⟩:=h.ok I.yp
  exact⟨Z,r,⟨_,n,e,rfl,rfl,rfl⟩,z⟩
 .refine⟨Z.toList,r,⟨o,n,I.kIn a o hk,hc,hd,by simpa using hs⟩,?_⟩
  have e:=r.length;simp only[qg] at e;exact a_ (f_ e) hz
def Inv.tuple(I:Inv X pins σ H s)(h:Fb X.K H a G):∃Z:List Value,Vals G Z/\IsTup s.heap a Z.toArray/\G.length<=sizeLine:=by
 rcases h with h|⟨o,Z,n,hk,hc,hs,hz,r⟩
 .obtain⟨z,Z,r,p⟩:=h.ok I.yp
  exact⟨Z,r,p.is,z⟩
 .refine⟨Z.toList,r,⟨o,I.kIn a o hk,hc,n,by simpa using hs⟩,?_⟩
  have e:=r.length;simp only[qg] at e;exact a_ (f_ e) hz
def Inv.Zw(I:Inv X pins σ H s)(h:Ec X.K H a R)(U:Ec X.K H a ys):R=ys:=by
 obtain⟨rn,r,⟨o,n,e,_,_,d⟩,_⟩:=I.list h;obtain⟨its',r',⟨o',n',G,_,_,Z⟩,_⟩:=I.list U;rw[e] at G;cases G;rw[d] at Z;injection Z with d1 _
 have:rn=its':=by simpa using nq Array.toList d1
 subst this;exact r.inj r'
def Inv.Vs(I:Inv X pins σ H s)(h:Fb X.K H a R)(U:Fb X.K H a ys):R=ys:=by
 obtain⟨rn,r,⟨o,e,_,n,d⟩,_⟩:=I.tuple h;obtain⟨its',r',⟨o',G,_,n',Z⟩,_⟩:=I.tuple U;rw[e] at G;cases G;rw[d] at Z;injection Z with d1 _
 have:rn=its':=by simpa using nq Array.toList d1
 subst this;exact r.inj r'
noncomputable abbrev Cx.U3(X:Cx)(E:Y1):Cx:={ X with xe:=E }
abbrev Cx.nox(X:Cx):Cx:=X.U3 λ_ _=>False
theorem Cx.Ok.U3{X:Cx}(ok:X.Ok)(E:Y1):(X.U3 E).Ok :=
 ⟨ok.mod,ok.kind,ok.glob,ok.blt,ok.above,ok.inj,ok.has,ok.cab,ok.hd,ok.frames,ok.stk,ok.exf,ok.bs,ok.bsz,ok.ajy,ok.aom,ok.Qx,ok.frf⟩
def Cx.Ok.J8{X:Cx}(ok:(X.U3 E).Ok):X.Ok :=
 ⟨ok.mod,ok.kind,ok.glob,ok.blt,ok.above,ok.inj,ok.has,ok.cab,ok.hd,ok.frames,ok.stk,ok.exf,ok.bs,ok.bsz,ok.ajy,ok.aom,ok.Qx,ok.frf⟩
theorem Inv.U3(I:Inv X pins σ H s)(E:Y1):Inv (X.U3 E) pins σ H s:=⟨I.ok.U3 E,I.os,I.bare,I.base,I.loc,I.cell,I.free,I.J7,I.pin,I.yp,I.len⟩
theorem Inv.J8(I:Inv (X.U3 E) pins σ H s):Inv X pins σ H s:=⟨I.ok.J8,I.os,I.bare,I.base,I.loc,I.cell,I.free,I.J7,I.pin,I.yp,I.len⟩
theorem SP.J8(h:SP (X.U3 E) pins D f s'):SP X pins D f s':=by
 cases f with
 |next=>obtain⟨Z,G,I,q⟩:=h;exact⟨Z,G,I.J8,q⟩
 |brk=>obtain⟨Z,G,I,q⟩:=h;exact⟨Z,G,I.J8,q⟩
 |cont=>obtain⟨Z,G,I,q⟩:=h;exact⟨Z,G,I.J8,q⟩
 |ret u=>obtain⟨v,Z,G,I,r,q⟩:=h;exact⟨v,Z,G,I.J8,r,q⟩
theorem Oc.nox{G:List Stmt}(h:Oc X.nox G t):Oc X G t:=λZ s U H D I hw =>
 mj (h Z s U H D (I.U3 _) hw) (λ_ _ q=>q.J8) λ_ _ z=>False.elim z
def azg:TS:=λD Z H=>D.nx Z H
def a68(t u:TS):TS:=λD Z H=>t { D with nx:=u D } Z H
def aop:Oc X [] azg:=λ_ _ Z H _ I h=>wpAny_execs_nil ⟨Z,H,I,h⟩
def aj4{R:Stmt}{Z:List Stmt}(h1:PS X R t)(h2:Oc X Z u):Oc X (R::Z) (a68 t u):=by
 intro G s σ H D I h;refine wpAny_execs_cons (zg (h1 G s σ H { D with nx:=u D } I h) λf s1 q=>?_);cases f with
 |next =>
  obtain⟨U,H',I',q⟩:=q;exact h2 G s1 U H' D I' q
 |ret v=>exact q|brk=>exact q|cont=>exact q
def Inv.quiet(I:Inv X pins σ H s):interactive X.env=false:=by simp[interactive,I.ok.kind]
def azh(G:TE):TS:=λD Z H=>G Z H λ_ U=>D.nx Z U
def aoq(he:PE X e R)(U:swapsWith e none pos.line X.env=pure false:=by rfl):PS X (.Expr e pos) (azh R):=by intro Z s G H D I h;exact wpAny_Expr_any (zg (he Z s G H _ I h) λv s1 ⟨x,H1,I1,r1,q1⟩=>⟨G,H1,I1,q1⟩) I.quiet U
def a69(Z:TE):TS:=λD G H=>Z G H D.rt
def aun(R:PE X e U):PS X (.Return (some e) pos) (a69 U):=by intro Z s G H D I h;exact wpAny_Return_some (zg (R Z s G H _ I h) λv s1 ⟨x,H1,I1,r1,q1⟩=>⟨x,G,H1,I1,r1,q1⟩)
def a7a(c:TT)(t u:TS):TS:=λD Z H=>c Z H λb G=>if b=true then t D Z G else u D Z G
def azi(hc:PT X c tc)(ha:Oc X a t)(hb:Oc X b u):PS X (.If c a b pos) (a7a tc t u):=by
 intro Z s G H D I h;refine wpAny_If (zg (hc Z s G H _ I h) λd s1 z_=>?_);obtain⟨R,U,q1⟩:=z_;cases d with
 |true=>exact ha Z s1 G R D U q1|false=>exact hb Z s1 G R D U q1
abbrev TG:=V->St->Hp->(St->Hp->Prop)->Prop
abbrev TGs:=List V->St->Hp->(St->Hp->Prop)->Prop
def PG(X:Cx)(Z:Expr)(t:TG):Prop :=
 ∀(G:Zp)(s:Shared)(R:St)(H:Hp)(v:V)(u:Value)(Q:St->Hp->Prop),Inv X G R H s->RelV v u->t v R H Q ->
  wpAny (model X.prog X.w) X.A (assign Z X.env u) (λ_ s'=>∃U H',Inv X G U H' s'/\Q U H') X.xe s
def PGs(X:Cx)(ts:Ya)(t:TGs):Prop :=
 ∀(Z:Zp)(s:Shared)(U:St)(H:Hp)(vs:List V)(R:Zl)(Q:St->Hp->Prop),Inv X Z U H s->Vals vs R->t vs U H Q ->
  wpAny (model X.prog X.w) X.A (assignInOrder ((assignEach ts X.env).map (·.2)) R) (λ_ s'=>∃G H',Inv X Z G H' s'/\Q G H') X.xe s
abbrev auo:=V->V->V->Hp->(Hp->Prop)->Prop
def aup(X:Cx)(t:auo):Prop :=
 ∀(Z:Zp)(s:Shared)(U:St)(H:Hp)(o i v:V)(ov G u:Value)(Q:Hp->Prop),Inv X Z U H s->RelV o ov->RelV i G->RelV v u->t o i v H Q ->
  wpAny (model X.prog X.w) X.A (setItem ov G u) (λ_ s'=>∃R,Inv X Z U R s'/\Q R) X.xe s
def aeg(i:Nat):TG:=λv Z H Q=>Q (Z.set i (some v)) H
def Xm(G:X.N.Nodup)(U:X.N[i]?=some x)(hx:Loc X.env.scope x)(hf:X.fn x=true\/X.env.scope.names.lookup x=some .local:=by first|exact .inl rfl|exact .inr rfl|assumption):PG X (.Name x pos) (aeg i):=by intro Z s σ H v u Q I r h;exact wpAny_assign_Name (aj1 I G U hx r (λs' R=>⟨_,H,R,h⟩) hf)
def a7b:TGs:=λZ G H Q=>Z=[]/\Q G H
def azl(t:TG)(u:TGs):TGs:=λG U H Q=>∃v r,G=v::r/\t v U H λZ R=>u r Z R Q
def aor:PGs X [] a7b:=by intro Z s G H U R Q I r h;obtain⟨e,h⟩:=h;subst e;cases r;exact assignInOrder_nil ⟨G,H,I,h⟩
def aj5(h1:PG X e t)(h2:PGs X es u)(hs:(assignEach (e::es) X.env).map (·.2)=assign e X.env::(assignEach es X.env).map (·.2):=by rfl):PGs X (e::es) (azl t u):=by
 intro Z s σ H vs us Q I r h;obtain⟨v,vr,e1,h⟩:=h;subst e1;cases r with
 |cons r R =>
  rw[hs];refine assignInOrder_cons (zg (h1 Z s σ H _ _ _ I r h) λ_ s1 z_=>?_);obtain⟨G,H1,U,q1⟩:=z_;exact h2 Z s1 G H1 _ _ Q U R q1
def a7c(K:Fg)(n:Nat)(t:TGs):TG:=λv G H Q=>∃a Z,v=.ref a/\Fb K H a Z/\Z.length=n/\t Z G H Q
def auq(hc:X.calm=true)(h:PGs X es t)(hn:(assignEach es X.env).length=n:=by rfl)(G:(assignEach es X.env).findIdx? (·.1)=none:=by rfl):PG X (.Tuple es k pos) (a7c X.K n t):=by
 intro Z s U H v u Q I r hw;obtain⟨a,xs,e1,hq,hl,hw⟩:=hw;subst e1;cases r;obtain⟨rn,R,ht,hz⟩:=I.tuple hq;refine assign_Tuple_tuple (I.ok.hd hc) ht (by simp[hn,<- hl,R.length]) G λh' hx=>?_
 have I1:Inv X Z U H { s with heap:=h' }:=I.kept (t':=s.toks) λb o e=>hx b o (fu (au e)) e
 exact h Z _ U H xs _ Q I1 (by simpa using R) hw
def a7d(to U:TE)(t:auo):TG:=λv Z H Q=>to Z H λo R=>U Z R λi G=>t o i v G λH3=>Q Z H3
def aur(ho:PE X o to)(hi:PE X i ti)(hs:aup X t)(ha:∀v,assign (.Subscript o i pos) X.env v=(do
 let G <- holding [v] (eval o X.env)
 let U <- holding [v,G] (eval i X.env)
 standAt pos
 holding [v,G,U] (setItem G U v)
 release [v,G,U] []):=by intro _;rfl):PG X (.Subscript o i pos) (a7d to ti t):=by
 intro Z s R H v u Q I r h;rw[ha];refine aa (jx (zg (ho Z s R H _ I h) λG s1 z_=>?_));obtain⟨x,H1,I1,r1,q1⟩:=z_;refine aa (jx (zg (hi Z s1 R H1 _ I1 q1) λU s2 z_=>?_));obtain⟨y,H2,I2,r2,q2⟩:=z_;refine aa (wpAny_standAt (aa (jx (zg (hs Z s2 R H2 x y v G U u _ I2 r1 r2 r q2) λ_ s3 z_=>?_))));obtain⟨H3,I3,q3⟩:=z_;exact wpAny_release ⟨R,H3,I3,q3⟩
def aus(G:TE)(g:TG):TS:=λD Z H=>G Z H λx U=>g x Z U D.nx
def aj6(he:PE X e te)(R:PG X tg g)(U:swapsWithSole [tg] e pos.line X.env=pure false:=by rfl)(hw:swappedStores [tg] e X.env=pure none:=by rfl)(h1:(assignEach [tg] X.env).map (·.2)=[assign tg X.env]:=by rfl):PS X (.Assign [tg] e pos) (aus te g):=by intro Z s G H D I h;refine wpAny_Assign_stores (zg (he Z s G H _ I h) λv s1 ⟨x,H1,I1,r1,q1⟩=>?_) U hw;rw[h1];exact zg (R Z s1 G H1 x v _ I1 r1 q1) λ_ s2 q=>q
def aut(c:TT)(tb:TS):TS:=λD Z H=>∃W:Nat->St->Hp->Prop,(∃m,W m Z H)/\∀m Z H,W m Z H ->
 c Z H λb R=>if b=true then ∃N:St->Hp->Prop,(∀G H',N G H'->∃U,U<m/\W U G H')/\tb { D with nx:=N,ct:=N,bk:=D.nx } Z R else D.nx Z R
def aj7(hp:PassesOwn (model X.prog X.w) X.A X.env X.xe)(hc:PT X c tc)(hb:Oc X body tb):PS X (.While c body [] pos) (aut tc tb):=by
 intro G s σ H D I h;obtain⟨W,⟨m0,w0⟩,qk⟩:=h;refine wpAny_While (codeAny_whileLoop (λn s'=>∃qq H',Inv X G qq H' s'/\W n qq H') ?_ m0 ⟨σ,H,I,w0⟩);rintro n s1 ⟨U,H1,I1,w1⟩;refine o9 hp (zg (hc G s1 U H1 _ I1 (qk n U H1 w1)) λb s2 z_=>?_);obtain⟨H2,I2,q2⟩:=z_;cases b with
 |true =>
  obtain⟨N,hN,q2⟩:=q2;rw[bx rfl];refine o9 hp (zg (hb G s2 U H2 _ I2 q2) λf s3 q3=>?_);cases f with
  |next =>
   obtain⟨Z,R,I3,n3⟩:=q3;obtain⟨m',hm,w3⟩:=hN Z R n3;exact⟨m',hm,Z,R,I3,w3⟩
  |cont =>
   obtain⟨Z,R,I3,n3⟩:=q3;obtain⟨m',hm,w3⟩:=hN Z R n3;exact⟨m',hm,Z,R,I3,w3⟩
  |brk=>exact q3|ret v=>exact q3
 |false =>
  rw[bw ie];exact wpAny_execs_nil ⟨U,H2,I2,q2⟩
structure It where
 go:Nat->Hp->Prop
 yld:Nat->Hp->V->Hp->Prop
 stop:Nat->Hp->Prop
def Qy(X:Cx)(Z:Zp)(H:Hp)(b:Addr):Prop :=
 H b=none/\b≠X.env.locals/\b∉X.fs/\(b∈X.ex\/X.s₀.heap.objs.size<=b)/\(∀x c,X.env.cells.lookup x=some c->c≠b)/\∀p∈X.pn++Z,p.1≠b
def Inv.agg(I:Inv X pins σ H s)(Z:s.heap.objs.size<=b)(U:R b=none):Qy X pins R b:=by
 refine⟨U,tu (gm I.lt Z),I.ay7 Z,.inr (bj I.sz Z),λx c e z=>?_,λp G z=>?_⟩
 .obtain⟨v,q⟩:=I.cell x c e
  exact absurd (gm q.lt (by rw[z];exact Z)) (nu _)
 .exact absurd (gm (au (I.pin p G).1) (by rw[z];exact Z)) (nu _)
structure Turn(P:Program)(w:World)(K:Fg)(tg:Expr)(J:It)(fp:X1)(it:Addr)(tn:Nat->Heap->Prop):Prop where
 mem:it∈fp
 obj:∀i h,tn i h->∀b∈fp,∃o,h.get? b=some o/\∀v,o.data≠.cell v
 keep:∀i h h',tn i h->(∀b∈fp,∀o,h.get? b=some o->h'.get? b=some o)->tn i h'
 item:∀(X:Cx),X.prog=P->X.w=w->X.K=K->X.calm=true->∀(i:Nat)(pins:Zp)(s:Shared)(σ:St)(H:Hp)(E:Y1),Inv X pins σ H s->(∀b∈fp,Qy X pins H b)->tn i s.heap->J.go i H ->
  wpAny (model P w) X.A (pyNext (.ref it)) (λr s1=>∃u,r=some u /\
   wpAny (model P w) X.A (letOwnedTupleGo tg (.ref it) u) (λ_ s2=>∃x H',Inv X pins σ H' s2/\RelV x u/\J.yld i H x H'/\tn (i+1) s2.heap/\∀b∈fp,H' b=none) E s1) E s
 done:∀(X:Cx),X.prog=P->X.w=w->X.K=K->X.calm=true->∀(i:Nat)(pins:Zp)(s:Shared)(σ:St)(H:Hp)(E:Y1),Inv X pins σ H s->(∀b∈fp,Qy X pins H b)->tn i s.heap->J.stop i H ->
  wpAny (model P w) X.A (pyNext (.ref it)) (λr s1=>r=none/\Inv X pins σ H s1) E s
 self:∀(A:Around)(i:Nat)(s:Shared)(Q:Y1)(E:Y1),tn i s.heap->Q (.ref it) s->wpAny (model P w) A (pyIter (.ref it)) Q E s
abbrev TI:=St->Hp->(It->Hp->Prop)->Prop
def PIE(X:Cx)(Z:Zp)(σ:St)(tg:Expr)(R:It->Hp->Prop)(U:Value)(s2:Shared):Prop :=
 ∃(it:Addr)(fp:X1)(tn:Nat->Heap->Prop)(J:It)(G:Hp),U=.ref it/\Inv X Z σ G s2/\Turn X.prog X.w X.K tg J fp it tn/\tn 0 s2.heap/\(∀b∈fp,Qy X Z G b)/\R J G
def PI(X:Cx)(tg G:Expr)(wi:TI):Prop :=
 ∀(Z:Zp)(s:Shared)(U:St)(H:Hp)(R:It->Hp->Prop),Inv X Z U H s->wi U H R ->
  wpAny (model X.prog X.w) X.A (eval G X.env) (λv s1=>wpAny (model X.prog X.w) X.A (pyIter v) (PIE X Z U tg R) X.xe s1) X.xe s
def aeh(ho:s.heap.get? it=some o)(hc:o.cls=.type n)(G:o.data=.fields U)(R:["enumerate", "zip", "dict_itemiterator", "dict_reverseitemiterator", "odict_iterator", "itertools.zip_longest", "itertools.pairwise"].contains n=false)(Z:Q () s):wpAny M A (letOwnedTupleGo tg (.ref it) u) Q E s:=by
 unfold letOwnedTupleGo;cases tg<;>first
  |exact aj Z
  | (cases u<;>first
   |exact aj Z
   | (refine aa (wpAny_load ho ?_)
      rw[hc,G];show wpAny M A (if(["enumerate", "zip", "dict_itemiterator", "dict_reverseitemiterator", "odict_iterator", "itertools.zip_longest", "itertools.pairwise"].contains n&&U[0]?==some (rawInt _))=true then _ else _) Q E s;rw[bw (by intro h;rw[R,Bool.false_and] at h;cases h)];exact aj Z))
noncomputable def Itl(K:Fg)(a:Addr):It :=
 ⟨λi H=>∃Z x,Ec K H a Z/\Z[i]?=some x,λi H x G=>G=H/\∀Z,Ec K H a Z->Z[i]?=some x,λi H=>∃Z,Ec K H a Z/\Z.length<=i⟩
noncomputable def Itt(K:Fg)(a:Addr):It :=
 ⟨λi H=>∃Z x,Fb K H a Z/\Z[i]?=some x,λi H x G=>G=H/\∀Z,Fb K H a Z->Z[i]?=some x,λi H=>∃Z,Fb K H a Z/\Z.length<=i⟩
noncomputable def Mg(G:Int)(n:Nat):It:=⟨λi _=>i<n,λi H x Z=>Z=H/\x=.int (G+i),λi _=>n<=i⟩
theorem agh{K:Fg}(a it:Addr):Turn P w K tg (Itl K a) [it] it (λi h=>h.IsListIter it a i) where
 mem:=by simp
 obj:=λi h Z b U=>by
  have e:b=it:=by simpa using U
  subst e;obtain⟨o,e,c,d⟩:=Z;exact⟨o,e,λv z=>by rw[d] at z;cases z⟩
 keep:=λi h h' Z k=>Z.at λo e=>k it (by simp) o e
 item:=by
  intro X hP hw hK hc i G s σ H E I hf Z hg;subst hP hw hK;obtain⟨xs,x,hq,hx⟩:=hg;obtain⟨rn,rv,p,hz⟩:=I.list hq;obtain⟨u,hu,ru⟩:=rv.get hx;obtain⟨f0,f1,f2,f3,f4,f5⟩:=hf it (by simp);refine wpAny_pyNext_list_item Z p.isList (x:=u) (by simpa using hu) λh' R sb=>?_
  have I1:Inv X G σ H { s with heap:=h' }:=I.turned (t':=s.toks) (λb o U e=>(sb.2 b U).trans e) f0 f1 f3 f4 f5;obtain⟨o,e,c,d⟩:=id R;exact⟨u,rfl,aeh (s:={ s with heap:=h' }) e c d (by decide) ⟨x,H,I1,ru,⟨rfl,λys hy=>by rw[I.Zw hy hq];exact hx⟩,R,λb U=>(hf b U).1⟩⟩
 done:=by intro X hP hw hK hc i G s σ H E I hf Z hg;subst hP hw hK;obtain⟨xs,hq,hx⟩:=hg;obtain⟨rn,rv,p,hz⟩:=I.list hq;obtain⟨f0,f1,f2,f3,f4,f5⟩:=hf it (by simp);have hl:=rv.length;exact wpAny_pyNext_list_end (I.ok.hd hc) Z p.isList (by simp;exact a_ (g_ hl) hx) λh' eb=>⟨rfl,I.turned (t':=s.toks) (λb o U e=>eb b o U e) f0 f1 f3 f4 f5⟩
 self:=λ_ _ _ _ _ Z h=>wpAny_pyIter_listiter Z h
theorem abx{K:Fg}(a it:Addr):Turn P w K tg (Itt K a) [it] it (λi h=>h.IsTupleIter it a i) where
 mem:=by simp
 obj:=λi h Z b U=>by
  have e:b=it:=by simpa using U
  subst e;obtain⟨o,e,c,d⟩:=Z;exact⟨o,e,λv z=>by rw[d] at z;cases z⟩
 keep:=λi h h' Z k=>Z.at λo e=>k it (by simp) o e
 item:=by
  intro X hP hw hK hc i G s σ H E I hf Z hg;subst hP hw hK;obtain⟨xs,x,hq,hx⟩:=hg;obtain⟨rn,rv,p,hz⟩:=I.tuple hq;obtain⟨u,hu,ru⟩:=rv.get hx;obtain⟨f0,f1,f2,f3,f4,f5⟩:=hf it (by simp);refine wpAny_pyNext_tuple_item Z (show s.heap.IsTuple a rn.toArray from p) (x:=u) (by simpa using hu) λh' R sb=>?_
  have I1:Inv X G σ H { s with heap:=h' }:=I.turned (t':=s.toks) (λb o U e=>(sb.2 b U).trans e) f0 f1 f3 f4 f5;obtain⟨o,e,c,d⟩:=id R;exact⟨u,rfl,aeh (s:={ s with heap:=h' }) e c d (by decide) ⟨x,H,I1,ru,⟨rfl,λys hy=>by rw[I.Vs hy hq];exact hx⟩,R,λb U=>(hf b U).1⟩⟩
 done:=by intro X hP hw hK hc i G s σ H E I hf Z hg;subst hP hw hK;obtain⟨xs,hq,hx⟩:=hg;obtain⟨rn,rv,p,hz⟩:=I.tuple hq;obtain⟨f0,f1,f2,f3,f4,f5⟩:=hf it (by simp);have hl:=rv.length;exact wpAny_pyNext_tuple_end (I.ok.hd hc) Z (show s.heap.IsTuple a rn.toArray from p) (by simp;exact a_ (g_ hl) hx) λh' eb=>⟨rfl,I.turned (t':=s.toks) (λb o U e=>eb b o U e) f0 f1 f3 f4 f5⟩
 self:=λ_ _ _ _ _ Z h=>wpAny_pyIter_tupleiter Z h
theorem aby{K:Fg}(it:Addr)(lo:Int)(n:Nat):Turn P w K tg (Mg lo n) [it] it (λi h=>IsRangeIter h it (lo+(i:Nat)*1) ((n:Int)-(i:Nat)) 1) where
 mem:=by simp
 obj:=λi h Z b U=>by
  have e:b=it:=by simpa using U
  subst e;exact⟨_,Z,λv z=>by
   have z':Data.fields _=Data.cell v:=z;cases z'⟩
 keep:=λi h h' Z k=>k it (by simp) _ Z
 item:=by
  intro X hP hw hK hc i G s σ H E I hf Z hg;subst hP hw hK;obtain⟨f0,f1,f2,f3,f4,f5⟩:=hf it (by simp);have W:=Walks.range (prog:=X.prog) (w:=X.w) (I.ok.hd hc) it lo 1 n;refine W.item i s _ _ hg Z λv h' tk hv R kk=>?_
  obtain⟨t,rfl⟩:=hv;have I1:Inv X G σ H { s with heap:=h',toks:=tk }:=I.turned (λb o U e=>kk b o (by simpa using U) e) f0 f1 f3 f4 f5;refine⟨_,rfl,aeh (s:={ s with heap:=h',toks:=tk }) (n := "range_iterator") R rfl rfl (by decide) ⟨.int (lo+i),H,I1,⟨t,?_⟩,⟨rfl,rfl⟩,R,λb U=>(hf b U).1⟩⟩;rw[Int.mul_one]
 done:=by intro X hP hw hK hc i G s σ H E I hf Z hg;subst hP hw hK;obtain⟨f0,f1,f2,f3,f4,f5⟩:=hf it (by simp);exact wpAny_pyNext_range_end (I.ok.hd hc) Z (by have:n<=i:=hg;lia) λh' eb=>⟨rfl,I.turned (t':=s.toks) (λb o U e=>eb b o U e) f0 f1 f3 f4 f5⟩
 self:=λ_ _ _ _ _ Z h=>wpAny_pyIter_rangeiter Z h
end L2
namespace L2
open PySem PySem.Spec PyProof.Rows
def aj8{lo:Int}(I:Inv X pins σ H s)(h1:-(2 ^ 62)<=lo)(h2:lo<2 ^ 62)(h3:-(2 ^ 62)<=Z)(h4:Z<2 ^ 62)(q:R (Mg lo (Z-lo).toNat) H):wpAny (model X.prog X.w) X.A (pyIter (.ref s.heap.objs.size)) (PIE X pins σ tg R) E { s with heap:=s.heap.push { cls:=.type "range",data:=.fields #[.int lo t,.int Z u,.int 1 v] },toks:=U }:=by
 refine wpAny_pyIter_range (IsRange.new ..) (small_one h1 h2 h3 h4) ?_;have G:Inv X pins σ H { s with heap:=s.heap.push { cls:=.type "range",data:=.fields #[.int lo t,.int Z u,.int 1 v] },toks:=U }:=I.kept λb o e=>aq _ e
 refine⟨(s.heap.push { cls:=.type "range",data:=.fields #[.int lo t,.int Z u,.int 1 v] }).objs.size,[(s.heap.push { cls:=.type "range",data:=.fields #[.int lo t,.int Z u,.int 1 v] }).objs.size],_,_,H,rfl,
  G.kept (t':=U) λb o e=>aq _ e,aby _ lo (Z-lo).toNat,?_,λb hb=>?_,q⟩
 .have e1:lo+((0:Nat):Int)*1=lo:=by simp
  have e2:(((Z-lo).toNat:Nat):Int)-((0:Nat):Int)=Builtin.Range.rangeSize lo Z 1:=by rw[rangeSize_one];split<;>lia
  show IsRangeIter _ _ (lo+((0:Nat):Int)*1) ((((Z-lo).toNat:Nat):Int)-((0:Nat):Int)) 1;rw[e1,e2];exact bf _ rfl
 .have e:b=(s.heap.push { cls:=.type "range",data:=.fields #[.int lo t,.int Z u,.int 1 v] }).objs.size:=by simpa using hb
  subst e;exact G.agg (bc _) (G.yp.fresh (bc _))
def azn(ta:TA):TI:=λU H R=>ta U H λZ G=>∃j:Int,Z=[.int j]/\-(2 ^ 62)<=j/\j<2 ^ 62/\R (Mg 0 j.toNat) G
def agi{X:Cx}{tg:Expr}(hg:Gl X "range")(hm:X.mg "range" = none)(ha:PA X [a] ta)(hs:starEach [a] X.env=[(false,eval a X.env)]:=by rfl):PI X tg (.Call (.Name "range" p) [a] [] pos) (azn ta):=by
 intro Z s U H R I h;refine Call_ (Ii I hg hm boot_range (p8 (zg (ha pos Z s U H _ I h) λus s1 ⟨vs,H1,I1,r1,G⟩=>?_) hs rfl));obtain⟨j,e,G,q2,q⟩:=G;subst e;cases r1 with
 |cons r rr =>
  cases rr;obtain⟨t,rfl⟩:=r;exact call_range_1 (aj8 I1 (by lia) (by lia) G q2 (by simpa using q))
def a7f(wi:TI)(g:TG)(tb:TS):TS:=λD Z H=>wi Z H λJ H1=>∃W:Nat->Nat->St->Hp->Prop,(∃m,W 0 m Z H1)/\∀i m Z H,W i m Z H ->
 (J.stop i H/\D.nx Z H)\/(J.go i H/\∃N:St->Hp->Prop,(∀G U,N G U->∃m',m'<m/\W (i+1) m' G U)/\∀x U,J.yld i H x U->g x Z U λR H2=>tb { D with nx:=N,ct:=N,bk:=D.nx } R H2)
noncomputable def O8(Z:X1)(h:Heap):List (Addr×Obj):=Z.filterMap λb=>(h.get? b).map λo=>(b,o)
def Ij(Z:b∈G)(e:h.get? b=some o):(b,o)∈O8 G h:=List.mem_filterMap.mpr ⟨b,Z,by rw[e];rfl⟩
def agj(Z:p∈O8 R h):p.1∈R/\h.get? p.1=some p.2:=by
 obtain⟨b,U,e⟩:=List.mem_filterMap.mp Z;cases q:h.get? b with
 |none=>rw[q] at e;cases e
 |some o =>
  rw[q] at e;have G:(b,o)=p:=gq e;subst G;exact⟨U,q⟩
def Inv.pinned{X:Cx}(I:Inv X pins σ H s)(hf:∀b∈Z,Qy X pins H b)(ho:∀b∈Z,∃o,s.heap.get? b=some o/\∀v,o.data≠.cell v):Inv X (pins++O8 Z s.heap) σ H s :=
 I.Xk λp hp=>(bz.mp hp).elim (λz=>I.pin p (fj _ z)) λz=>by obtain⟨U,e⟩:=agj z;obtain⟨f0,f1,R,_⟩:=hf p.1 U;obtain⟨o,G,d⟩:=ho p.1 U;rw[e] at G;cases G;exact⟨e,f0,f1,R,d⟩
def Inv.J9{X:Cx}(I:Inv X (pins++G) σ H s):Inv X pins σ H s:=I.Xk λp Z=>I.pin p (fj _ (ji _ Z))
def auu{X:Cx}{tg:Expr}(hp:PassesOwn (model X.prog X.w) X.A X.env X.xe)(hc:X.calm=true)(hi:PI X tg iter wi)(hg:PG X tg g)(U:Oc X body tb)(hs:∀x,foldedSetIterable iter X.env x=pure x:=by intro _;rfl):PS X (.For tg iter body [] pos) (a7f wi g tb):=by
 intro G s σ H D I h;refine wpAny_For (zg (hi G s σ H _ I h) λv s1 h1=>zg h1 λzw s2 h2=>?_) hs;obtain⟨it,fp,tn,J,H2,e,I2,T,q5,f2,W,⟨m0,w0⟩,q4⟩:=h2;subst e;have qv:∀{H':Hp},(∀b∈fp,H' b=none)->∀b∈fp,Qy X G H' b:=λhn b U=>⟨hn b U,(f2 b U).2⟩
 refine codeAny_forLoop_any (λn s'=>∃i qq H',Inv X G qq H' s'/\tn i s'.heap/\(∀b∈fp,H' b=none)/\W i n qq H') ?_ m0 ⟨0,σ,H2,I2,q5,λb U=>(f2 b U).1,w0⟩;rintro n s3 ⟨i,R,H3,I3,q1,q2,w3⟩;rcases q4 i n R H3 w3 with⟨q3,qn⟩|⟨go,N,hN,step⟩
 .refine o9 hp (zg (T.done X rfl rfl rfl hc i G s3 R H3 X.xe I3 (qv q2) q1 q3) λr s4 z_=>?_)
  obtain⟨hr,I4⟩:=z_;subst hr;exact wpAny_execs_nil ⟨R,H3,I4,qn⟩
 .refine o9 hp (zg (T.item X rfl rfl rfl hc i G s3 R H3 X.xe I3 (qv q2) q1 go) λr s4 z_=>?_)
  obtain⟨u,hr,h4⟩:=z_;subst hr;refine o9 hp (zg h4 λ_ s5 z_=>?_);obtain⟨x,H5,I5,r5,y5,q0,zk⟩:=z_;have zv:=I5.pinned (qv zk) (T.obj _ _ q0);refine o9 hp (zg (hg _ s5 R H5 x u _ zv r5 (step x H5 y5)) λ_ s6 z_=>?_);obtain⟨zz,H6,I6,q6⟩:=z_;refine o9 hp (zg (U _ s6 zz H6 _ I6 q6) λf s7 q7=>?_);have qk:∀{Z:St}{H7:Hp},Inv X (G++O8 fp s5.heap) Z H7 s7->N Z H7->∃m,m<n/\∃i qq H',Inv X G qq H' s7/\tn i s7.heap/\(∀b∈fp,H' b=none)/\W i m qq H':=fun{Z H7} I7 n7=>by obtain⟨m',hm,w7⟩:=hN Z H7 n7;refine⟨m',hm,i+1,Z,H7,I7.J9,T.keep _ _ _ q0 λb U o e=>(I7.pin (b,o) (fj _ (fj _ (Ij U e)))).1,λb U=>?_,w7⟩;obtain⟨o,e,d⟩:=T.obj _ _ q0 b U;exact(I7.pin (b,o) (fj _ (fj _ (Ij U e)))).2.1
  cases f with
  |next=>obtain⟨Z,H7,I7,n7⟩:=q7;exact qk I7 n7
  |cont=>obtain⟨Z,H7,I7,n7⟩:=q7;exact qk I7 n7
  |brk=>obtain⟨Z,H7,I7,q7⟩:=q7;exact⟨Z,H7,I7.J9,q7⟩
  |ret v=>obtain⟨x7,Z,H7,I7,r7,q7⟩:=q7;exact⟨x7,Z,H7,I7.J9,r7,q7⟩
end L2
namespace L2
open PySem PySem.Spec PyProof.Rows
abbrev R2:=V->V->Hp->VK->Prop
def Az(X:Cx)(f:Value->Value->Sem Value)(r:R2):Prop :=
 ∀(Z:Zp)(s:Shared)(G:St)(H:Hp)(x y:V)(v u:Value)(Q:VK),Inv X Z G H s->RelV x v->RelV y u->r x y H Q ->
  wpAny (model X.prog X.w) X.A (f v u) (EP X Z G Q) X.xe s
def UnR(X:Cx)(f:Value->Sem Value)(r:V->Hp->VK->Prop):Prop :=
 ∀(Z:Zp)(s:Shared)(G:St)(H:Hp)(x:V)(v:Value)(Q:VK),Inv X Z G H s->RelV x v->r x H Q ->
  wpAny (model X.prog X.w) X.A (f v) (EP X Z G Q) X.xe s
def Ab(X:Cx)(f:Value)(r:List V->Hp->VK->Prop):Prop :=
 ∀(Z:Zp)(s:Shared)(U:St)(H:Hp)(G:List V)(R:Zl)(Q:VK),Inv X Z U H s->Vals G R->r G H Q ->
  wpAny (model X.prog X.w) X.A (call f R) (EP X Z U Q) X.xe s
def a7j(X:Cx)(r:V->Hp->(Bool->Hp->Prop)->Prop):Prop :=
 ∀(Z:Zp)(s:Shared)(G:St)(H:Hp)(x:V)(v:Value)(Q:Bool->Hp->Prop),Inv X Z G H s->RelV x v->r x H Q ->
  wpAny (model X.prog X.w) X.A (truthy v) (TP X Z G Q) X.xe s
def tOp(r:R2)(U tb:TE):TE:=λZ H Q=>U Z H λx R=>tb Z R λy G=>r x y G Q
def tUn(r:V->Hp->VK->Prop)(U:TE):TE:=λG H Q=>U G H λx Z=>r x Z Q
def rI(C:Int->Int->Prop)(g:Int->Int->V):R2:=λx y H Q=>∃i j,x=.int i/\y=.int j/\C i j/\Q (g i j) H
def rI0(g:Int->Int->V):R2:=λx y H Q=>∃i j,x=.int i/\y=.int j/\Q (g i j) H
def rU(g:Int->V):V->Hp->VK->Prop:=λx H Q=>∃i,x=.int i/\Q (g i) H
def auw{X:Cx}{a b:Expr}{ta tb:TE}(ha:PE X a ta)(hb:PE X b tb){Z:Zp}{s:Shared}{G:St}{H:Hp}{R:V->V->Hp->Prop}(I:Inv X Z G H s)
 (h:ta G H λx H1=>tb G H1 λy U=>R x y U) {Q:Y1} {f:Value->Value->Sem Value}
 (hf:∀v u s2 x y U,Inv X Z G U s2->RelV x v->RelV y u->R x y U->wpAny (model X.prog X.w) X.A (f v u) Q X.xe s2) :
 wpAny (model X.prog X.w) X.A (eval a X.env) (λv qq=>wpAny (model X.prog X.w) X.A (eval b X.env) (λu qk=>wpAny (model X.prog X.w) X.A (f v u) Q X.xe qk) X.xe qq) X.xe s:=by
 refine zg (ha Z s G H _ I h) λv s1 z_=>?_
 obtain⟨x,H1,I1,r1,q1⟩:=z_;refine zg (hb Z s1 G H1 _ I1 q1) λu s2 z_=>?_
 obtain⟨y,U,I2,r2,q2⟩:=z_;exact hf v u s2 x y U I2 r1 r2 q2
def azp{X:Cx}{a b:Expr}{R tb:TE}{G:Pos}{U:Operator}{r:R2}(ho:Az X (binaryOp U) r)(ha:PE X a R)(hb:PE X b tb):PE X (.BinOp a U b G) (tOp r R tb):=by intro Z s σ H Q I h;exact wpAny_BinOp (auw ha hb I h λv u s2 x y H2 I2 rx ry q=>ho Z s2 σ H2 x y v u Q I2 rx ry q)
def azq{X:Cx}{a:Expr}{ta:TE}{G:Pos}{U:UnaryOp}{r:V->Hp->VK->Prop}(ho:UnR X (unaryOp U) r)(ha:PE X a ta):PE X (.UnaryOp U a G) (tUn r ta):=by intro Z s R H Q I h;exact UnaryOp_ (zg (ha Z s R H _ I h) λv s1 ⟨x,H1,I1,r1,q1⟩=>ho Z s1 R H1 x v Q I1 r1 q1)
def opI{X:Cx}{f:Value->Value->Sem Value}{C:Int->Int->Prop}{g:Int->Int->Int}
 (Z:∀(i j:Int)(t u:Tok)(s:Shared)(Q:Y1)(E:Y1),C i j->Q (.int (g i j) s.toks) { s with toks:=s.toks+1 }->wpAny (model X.prog X.w) X.A (f (.int i t) (.int j u)) Q E s) :
 Az X f (rI C λi j=>.int (g i j)):=by
 intro G s σ H x y v u Q I rx R h;obtain⟨i,j,rfl,rfl,hc,q⟩:=h;obtain⟨t,rfl⟩:=rx;obtain⟨U,rfl⟩:=R;exact Z i j t U s _ _ hc ⟨.int (g i j),H,I.tok _,⟨_,rfl⟩,q⟩
def azr{X:Cx}{f:Value->Value->Sem Value}{g:Int->Int->Int}
 (Z:∀(i j:Int)(t u:Tok)(s:Shared)(Q:Y1)(E:Y1),Q (.int (g i j) s.toks) { s with toks:=s.toks+1 }->wpAny (model X.prog X.w) X.A (f (.int i t) (.int j u)) Q E s) :
 Az X f (rI0 λi j=>.int (g i j)):=by
 intro G s σ H x y v u Q I rx R h;obtain⟨i,j,rfl,rfl,q⟩:=h;obtain⟨t,rfl⟩:=rx;obtain⟨U,rfl⟩:=R;exact Z i j t U s _ _ ⟨.int (g i j),H,I.tok _,⟨_,rfl⟩,q⟩
def aot{X:Cx}{f:Value->Value->Sem Value}{g:Int->Int->Bool}
 (Z:∀(i j:Int)(t u:Tok)(s:Shared)(Q:Y1)(E:Y1),Q (.bool (g i j)) s->wpAny (model X.prog X.w) X.A (f (.int i t) (.int j u)) Q E s) :
 Az X f (rI0 λi j=>.bl (g i j)):=by
 intro G s σ H x y v u Q I rx R h;obtain⟨i,j,rfl,rfl,q⟩:=h;obtain⟨t,rfl⟩:=rx;obtain⟨U,rfl⟩:=R;exact Z i j t U s _ _ ⟨.bl (g i j),H,I,rfl,q⟩
def a7k(i j:Int):Prop:=0<j/\j<1073741824
def a7l(i j:Int):Prop:=0<=j/\j<=1000000/\i.natAbs<2 ^ 64
def auy(i j:Int):Prop:=(-(2 ^ 64)<i/\i<2 ^ 64)\/(-(2 ^ 64)<j/\j<2 ^ 64)
def auy.ok{i j:Int}(h:auy i j):IntMulOk i j:=by
 rcases h with⟨G,Z⟩|⟨G,Z⟩
 .exact .of_left (intBits_le_64 G Z)
 .exact .of_right (intBits_le_64 G Z)
def auz{X:Cx}:Az X (binaryOp .Add) (rI0 λi j=>.int (i+j)):=azr λ_ _ _ _ _ _ _ q=>add_int q
def au0{X:Cx}:Az X (binaryOp .Sub) (rI0 λi j=>.int (i-j)):=azr λ_ _ _ _ _ _ _ q=>sub_int q
def au1{X:Cx}:Az X (binaryOp .Mult) (rI auy λi j=>.int (i*j)):=opI λ_ _ _ _ _ _ _ Z q=>mul_int q Z.ok
def aou{X:Cx}:Az X (binaryOp .FloorDiv) (rI a7k λi j=>.int (i / j)):=opI λi j _ _ _ _ _ Z q=>by
 have U:(0:Int)<j:=Z.1
 have G:j<1073741824:=Z.2
 exact floordiv_int (by lia) (by rw[Int.fdiv_eq_ediv_of_nonneg i (by lia)];exact q) (.inl (PyProof.noPylong_small (by omega)))
def au2{X:Cx}:Az X (binaryOp .Mod) (rI (λ_ j=>0<j) λi j=>.int (i%j)):=opI λi j _ _ _ _ _ Z q=>by
 have G:(0:Int)<j:=Z
 exact mod_int' (by lia) (by rw[Int.fmod_eq_emod_of_nonneg i (by lia)];exact q)
def au3{X:Cx}:Az X (binaryOp .Pow) (rI a7l λi j=>.int (i ^ j.toNat)):=opI λ_ _ _ _ _ _ _ Z q=>pow_int_small Z.1 Z.2.1 Z.2.2 q
def unI{X:Cx}{f:Value->Sem Value}{g:Int->Int}
 (Z:∀(i:Int)(t:Tok)(s:Shared)(Q:Y1)(E:Y1),Q (.int (g i) s.toks) { s with toks:=s.toks+1 }->wpAny (model X.prog X.w) X.A (f (.int i t)) Q E s) :
 UnR X f (rU λi=>.int (g i)):=by
 intro G s R H x v Q I U h;obtain⟨i,rfl,q⟩:=h;obtain⟨t,rfl⟩:=U;exact Z i t s _ _ ⟨.int (g i),H,I.tok _,⟨_,rfl⟩,q⟩
def au4{X:Cx}:UnR X (unaryOp .USub) (rU λi=>.int (-i)):=unI λ_ _ _ _ _ q=>neg_int q
noncomputable def au5:V->V->Bool
 |.non,.non=>true|.non,.int _=>true|.int _,.non=>true|.non,.bl _=>true|.bl _,.non=>true|.non,.str _=>true|.str _,.non=>true
 |.int _,.int _=>true|.bl _,.bl _=>true|.str _,.str _=>true|.byt _,.byt _=>true
 |.int _,.str _=>true|.str _,.int _=>true|.bl _,.str _=>true|.str _,.bl _=>true
 |_,_=>false
def rEq:R2:=λx y H Q=>au5 x y=true/\Q (.bl (decide (x=y))) H
def rNe:R2:=λx y H Q=>au5 x y=true/\Q (.bl (!decide (x=y))) H
def aei{i j:Int}:decide (V.int i=V.int j)=(i==j):=by rw[v5];simp
def aj9{i j:Bool}:decide (V.bl i=V.bl j)=(i==j):=by rw[v5];simp
def aej{i j:Str}:decide (V.str i=V.str j)=(i==j):=by rw[v5];simp
def aek{i j:Array UInt8}:decide (V.byt i=V.byt j)=(i.toList==j.toList):=by rw[v5];cases i;cases j;simp
def u6{X:Cx}{Z:Zp}{U:St}{H:Hp}{s:Shared}{Q:VK}{k G:Bool}(I:Inv X Z U H s)(q:Q (.bl k) H)(e:k=G):EP X Z U Q (.bool G) s:=by subst e;exact⟨.bl k,H,I,rfl,q⟩
def azs{X:Cx}:Az X (compareOp .Eq) rEq:=by
 intro qq s σ H x y v u Q I R Z h;obtain⟨U,q⟩:=h;cases x with
 |non =>
  cases R;cases y with
  |non=>cases Z;exact PySem.EqNone.eq_none_none (u6 I q (by simp))|bl j=>cases Z;exact PySem.EqNone.eq_none_bool (u6 I q (by simp))|int j=>obtain⟨G,rfl⟩:=Z;exact PySem.EqNone.eq_none_int (u6 I q (by simp))
  |str j=>obtain⟨G,rfl⟩:=Z;exact PySem.EqNone.eq_none_str (u6 I q (by simp))
  |_=>exact absurd (show false=true from U) ie
 |bl i =>
  cases R;cases y with
  |non=>cases Z;exact PySem.EqNone.eq_bool_none (u6 I q (by simp))|bl j=>cases Z;exact eq_bool (u6 I q aj9)|str j=>obtain⟨G,rfl⟩:=Z;exact PySem.EqMixed.eq_bool_str (u6 I q (by simp))
  |_=>exact absurd (show false=true from U) ie
 |int i =>
  obtain⟨t,rfl⟩:=R;cases y with
  |non=>cases Z;exact PySem.EqNone.eq_int_none (u6 I q (by simp))|int j=>obtain⟨G,rfl⟩:=Z;exact eq_int (u6 I q aei)
  |str j=>obtain⟨G,rfl⟩:=Z;exact PySem.EqMixed.eq_int_str (u6 I q (by simp))
  |_=>exact absurd (show false=true from U) ie
 |str i =>
  obtain⟨t,rfl⟩:=R;cases y with
  |non=>cases Z;exact PySem.EqNone.eq_str_none (u6 I q (by simp))|bl j=>cases Z;exact PySem.EqMixed.eq_str_bool (u6 I q (by simp))|int j=>obtain⟨G,rfl⟩:=Z;exact PySem.EqMixed.eq_str_int (u6 I q (by simp))
  |str j=>obtain⟨G,rfl⟩:=Z;exact eq_str (u6 I q aej)
  |_=>exact absurd (show false=true from U) ie
 |byt i =>
  obtain⟨t,rfl⟩:=R;cases y with
  |byt j=>obtain⟨G,rfl⟩:=Z;exact PySem.W.eq_bytes (u6 I q aek)
  |_=>exact absurd (show false=true from U) ie
 |_=>cases y<;>exact absurd (show false=true from U) ie
def azt{X:Cx}:Az X (compareOp .NotEq) rNe:=by
 intro qq s σ H x y v u Q I R Z h;obtain⟨U,q⟩:=h;cases x with
 |non =>
  cases R;cases y with
  |non=>cases Z;exact PySem.EqNone.ne_none_none (u6 I q (by simp))|bl j=>cases Z;exact PySem.EqNone.ne_none_bool (u6 I q (by simp))|int j=>obtain⟨G,rfl⟩:=Z;exact PySem.EqNone.ne_none_int (u6 I q (by simp))
  |str j=>obtain⟨G,rfl⟩:=Z;exact PySem.EqNone.ne_none_str (u6 I q (by simp))
  |_=>exact absurd (show false=true from U) ie
 |bl i =>
  cases R;cases y with
  |non=>cases Z;exact PySem.EqNone.ne_bool_none (u6 I q (by simp))|bl j=>cases Z;exact ne_bool (u6 I q (nq not aj9))|str j=>obtain⟨G,rfl⟩:=Z;exact PySem.EqMixed.ne_bool_str (u6 I q (by simp))
  |_=>exact absurd (show false=true from U) ie
 |int i =>
  obtain⟨t,rfl⟩:=R;cases y with
  |non=>cases Z;exact PySem.EqNone.ne_int_none (u6 I q (by simp))|int j=>obtain⟨G,rfl⟩:=Z;exact ne_int (u6 I q (nq not aei))
  |str j=>obtain⟨G,rfl⟩:=Z;exact PySem.EqMixed.ne_int_str (u6 I q (by simp))
  |_=>exact absurd (show false=true from U) ie
 |str i =>
  obtain⟨t,rfl⟩:=R;cases y with
  |non=>cases Z;exact PySem.EqNone.ne_str_none (u6 I q (by simp))|bl j=>cases Z;exact PySem.EqMixed.ne_str_bool (u6 I q (by simp))|int j=>obtain⟨G,rfl⟩:=Z;exact PySem.EqMixed.ne_str_int (u6 I q (by simp))
  |str j=>obtain⟨G,rfl⟩:=Z;exact ne_str (u6 I q (nq not aej))
  |_=>exact absurd (show false=true from U) ie
 |byt i =>
  obtain⟨t,rfl⟩:=R;cases y with
  |byt j=>obtain⟨G,rfl⟩:=Z;exact PySem.W.ne_bytes (u6 I q (nq not aek))
  |_=>exact absurd (show false=true from U) ie
 |_=>cases y<;>exact absurd (show false=true from U) ie
def azu{X:Cx}:Az X (compareOp .Lt) (rI0 λi j=>.bl (decide (i<j))):=aot λ_ _ _ _ _ _ _ q=>lt_int q
def azv{X:Cx}:Az X (compareOp .LtE) (rI0 λi j=>.bl (decide (i<=j))):=aot λ_ _ _ _ _ _ _ q=>le_int q
def azw{X:Cx}:Az X (compareOp .Gt) (rI0 λi j=>.bl (decide (j<i))):=aot λ_ _ _ _ _ _ _ q=>gt_int q
def azx{X:Cx}:Az X (compareOp .GtE) (rI0 λi j=>.bl (decide (j<=i))):=aot λ_ _ _ _ _ _ _ q=>ge_int q
def Az.or{X:Cx}{f:Value->Value->Sem Value}{r U:R2}(h:Az X f r)(h':Az X f U):Az X f (λx y H Q=>r x y H Q\/U x y H Q):=by
 intro Z s G H x y v u Q I rx R q;rcases q with q|q
 .exact h Z s G H x y v u Q I rx R q
 .exact h' Z s G H x y v u Q I rx R q
def aov{X:Cx}{a b:Expr}{R tb:TE}{U:Pos}{G:CmpOp}{r:R2}(ho:Az X (compareOp G) r)(ha:PE X a R)(hb:PE X b tb)(hm:behindInMarks G b=false):PE X (.Compare a [G] [b] U) (tOp r R tb):=by intro Z s σ H Q I h;exact wpAny_Compare1 (auw ha hb I h λv u s2 x y H2 I2 rx ry q=>ho Z s2 σ H2 x y v u Q I2 rx ry q) hm
def ars(t:TE):TT:=λZ H Q=>t Z H λx G=>∃k,x=.bl k/\Q k G
def aow{X:Cx}{a b:Expr}{ta tb:TE}{R:Pos}{G:CmpOp}{r:R2}(ho:Az X (compareOp G) r)(ha:PE X a ta)(hb:PE X b tb)(hm:behindInMarks G b=false):PT X (.Compare a [G] [b] R) (ars (tOp r ta tb)):=by
 intro Z s U H Q I h;refine wpAny_isTrue_Compare1 (zg (ha Z s U H _ I h) λv s1 ⟨x,H1,I1,r1,q1⟩=>zg (hb Z s1 U H1 _ I1 q1) λu s2 ⟨y,H2,I2,r2,q2⟩ =>
  zg (ho Z s2 U H2 x y v u _ I2 r1 r2 q2) λc s3 ⟨z,H3,I3,r3,k,e,q3⟩=>?_) hm
 subst e;cases r3;exact jw ⟨H3,I3,q3⟩
def Xn(r r':R2)(R tb tc:TE):TE:=λZ H Q=>R Z H λx H1=>tb Z H1 λy U=>r x y U λz G=>∃k,z=.bl k /\
 (if k=true then tc Z G λw' H4=>r' y w' H4 Q else Q (.bl false) G)
def aka{X:Cx}{a b c:Expr}{ta tb tc:TE}{qq:Pos}{op G:CmpOp}{r r':R2}(ho:Az X (compareOp op) r)(R:Az X (compareOp G) r')(ha:PE X a ta)(hb:PE X b tb)(hc:PE X c tc)
 (hm:lastMarks [op,G] [b,c]=false:=by with_unfolding_all rfl):PE X (.Compare a [op,G] [b,c] qq) (Xn r r' ta tb tc):=by
 intro Z s U H Q I h;refine Compare_chain (zg (ha Z s U H _ I h) λv s1 ⟨x,H1,I1,r1,q1⟩=>chain_link (zg (hb Z s1 U H1 _ I1 q1) λu s2 ⟨y,H2,I2,r2,q2⟩ =>
  zg (ho Z s2 U H2 x y v u _ I2 r1 r2 q2) λd s3 ⟨z,H3,I3,r3,k,e,q3⟩=>?_)) hm
 subst e;cases r3;refine jw ?_;cases k with
 |false=>exact ite_ff ⟨.bl false,H3,I3,rfl,q3⟩|true=>exact ite_tt (chain_last (zg (hc Z s3 U H3 _ I3 q3) λw' s4 ⟨z',H4,I4,r4,q4⟩=>R Z s4 U H4 y z' u w' Q I4 r2 r4 q4))
def akb{X:Cx}{a b c:Expr}{ta tb tc:TE}{qq:Pos}{op G:CmpOp}{r r':R2}(ho:Az X (compareOp op) r)(R:Az X (compareOp G) r')(ha:PE X a ta)(hb:PE X b tb)(hc:PE X c tc)
 (hm:lastMarks [op,G] [b,c]=false:=by with_unfolding_all rfl):PT X (.Compare a [op,G] [b,c] qq) (ars (Xn r r' ta tb tc)):=by
 intro Z s U H Q I h;refine isTrue_chain (zg (ha Z s U H _ I h) λv s1 ⟨x,H1,I1,r1,q1⟩=>test_link (zg (hb Z s1 U H1 _ I1 q1) λu s2 ⟨y,H2,I2,r2,q2⟩ =>
  zg (ho Z s2 U H2 x y v u _ I2 r1 r2 q2) λd s3 ⟨z,H3,I3,r3,k,e,q3⟩=>?_)) hm
 subst e;cases r3;refine jw ?_;cases k with
 |false =>
  obtain⟨k',e',q'⟩:=q3;cases e';exact ite_ff ⟨H3,I3,q'⟩
 |true =>
  refine ite_tt (test_last (zg (hc Z s3 U H3 _ I3 q3) λw' s4 ⟨z',H4,I4,r4,q4⟩=>zg (R Z s4 U H4 y z' u w' _ I4 r2 r4 q4) λd' s5 z_=>?_));obtain⟨z2,H5,I5,r5,k2,e2,q5⟩:=z_;subst e2;cases r5;exact jw ⟨H5,I5,q5⟩
def aox(K:Fg)(x:V)(H:Hp)(k:Bool):Prop :=
 match x with
 |.non=>k=false|.bl b=>k=b|.int i=>k=(i != 0)|.str y=>y.length<=sizeLine/\k=((y.length:Int) != 0)|.byt y=>y.size<=sizeLine/\k=((y.size:Int) != 0)|.ref p=>(∃Z,Ec K H p Z/\k=!Z.isEmpty)\/(∃Z,Fb K H p Z/\k=!Z.isEmpty)\/∃G,H p=some (.dK G)/\k=!G.isEmpty|_=>False
def ab0{Z:Type}{U:List (Z×V)}{G:List (Z×Value)}(r:KV U G):(!G.isEmpty)=!U.isEmpty:=by cases r<;>rfl
def Tz{Z:List V}{G:Zl}(r:Vals Z G):(!G.toArray.isEmpty)=!Z.isEmpty:=by cases r<;>simp
def T3:(sizeLine:Nat)<2 ^ 63:=by rw[sizeLine_eq];decide
def akc{X:Cx}:a7j X (λx H Q=>∃k,aox X.K x H k/\Q k H):=by
 intro qq s σ H x v Q I rx h;obtain⟨k,e,q⟩:=h;have hl:=T3;have hs:sizeLine=16777216:=sizeLine_eq;cases x with
 |non =>
  cases rx;have Z:k=false:=e;subst Z;exact truthy_none ⟨H,I,q⟩
 |bl b =>
  cases rx;have Z:k=b:=e;subst Z;exact jw ⟨H,I,q⟩
 |int i =>
  obtain⟨t,rfl⟩:=rx;have Z:k=(i != 0):=e;subst Z;exact PySem.P.truthy_int ⟨H,I,q⟩
 |str y =>
  obtain⟨t,rfl⟩:=rx;obtain⟨hy,Z⟩:y.length<=sizeLine/\k=((y.length:Int) != 0):=e
  subst Z;exact PySem.P.truthy_str (by lia) ⟨H,I.tok _,q⟩
 |byt y =>
  obtain⟨t,rfl⟩:=rx;obtain⟨hy,Z⟩:y.size<=sizeLine/\k=((y.size:Int) != 0):=e
  subst Z;exact PySem.W.truthy_bytes (a_ hy (a_ (f_ hs) (by decide))) ⟨H,I.tok _,q⟩
 |ref p =>
  cases rx;have Z:(∃U,Ec X.K H p U/\k=!U.isEmpty)\/(∃U,Fb X.K H p U/\k=!U.isEmpty)\/∃R,H p=some (.dK R)/\k=!R.isEmpty:=e;rcases Z with⟨U,hx,Z⟩|⟨U,hx,Z⟩|⟨R,hx,Z⟩
  .subst Z
   obtain⟨rn,r,pl,hz⟩:=I.list hx;have G:=r.length;exact wpAny_truthy_list pl.isList (by simp only[dj];lia) ⟨H,I.tok _,by rw[Tz r];exact q⟩
  .subst Z
   obtain⟨rn,r,pl,hz⟩:=I.tuple hx;have G:=r.length;exact truthy_tuple pl (by simp only[dj];lia) ⟨H,I.tok _,by rw[Tz r];exact q⟩
  .subst Z
   obtain⟨hz,hS,vs,r,m⟩:R.length<=sizeLine/\(p==sysModules)=false/\∃vs,KV R vs/\s.heap.DictOf (yr X.prog X.w) p vs:=I.yp p _ hx
   have G:R.length=vs.length:=Paired.length r;exact wpAny_truthy_dict hS m (by lia) ⟨H,I.tok _,by rw[ab0 r];exact q⟩
 |_=>exact(show False from e).elim
def akd{X:Cx}{a:Expr}{R:TE}(ha:PE X a R)(he:∀Z,isTrue a X.env Z=(do let v <- Z;standAt a.pos;holding [v] (truthy v))) :
 PT X a (λU H Q=>R U H λx H'=>∃k,aox X.K x H' k/\Q k H'):=by
 intro G s U H Q I h;exact isTrue_plain (zg (ha G s U H _ I h) λv s1 ⟨x,H1,I1,r1,q1⟩=>akc G s1 U H1 x v Q I1 r1 q1) (he _)
def vals1{x:V}{Z:Zl}(r:Vals [x] Z):∃u,Z=[u]/\RelV x u:=by
 cases r with
 |cons G U=>cases U;exact⟨_,rfl,G⟩
def vals2{x y:V}{Z:Zl}(r:Vals [x,y] Z):∃u w',Z=[u,w']/\RelV x u/\RelV y w':=by
 cases r with
 |cons G r2 =>
  cases r2 with
  |cons R U=>cases U;exact⟨_,_,rfl,G,R⟩
def agk{X:Cx}(R:X.calm=true):Ab X (.builtin "max") (λG H Q=>∃i j,G=[.int i,.int j]/\Q (.int (if j > i then j else i)) H):=by
 intro U s σ H G us Q I r h;obtain⟨i,j,rfl,q⟩:=h;obtain⟨u,w',rfl,⟨t,rfl⟩,⟨t',rfl⟩⟩:=vals2 r;refine max_two_ints (I.ok.hd R) λh' tk k=>⟨_,H,I.kept k,?_,q⟩
 by_cases Z:j > i
 .rw[bx Z,bx Z];exact⟨_,rfl⟩
 .rw[bw Z,bw Z];exact⟨_,rfl⟩
def agl{X:Cx}(R:X.calm=true):Ab X (.builtin "min") (λG H Q=>∃i j,G=[.int i,.int j]/\Q (.int (if j<i then j else i)) H):=by
 intro U s σ H G us Q I r h;obtain⟨i,j,rfl,q⟩:=h;obtain⟨u,w',rfl,⟨t,rfl⟩,⟨t',rfl⟩⟩:=vals2 r;refine min_two_ints (I.ok.hd R) λh' tk k=>⟨_,H,I.kept k,?_,q⟩
 by_cases Z:j<i
 .rw[bx Z,bx Z];exact⟨_,rfl⟩
 .rw[bw Z,bw Z];exact⟨_,rfl⟩
end L2
namespace L2
open PySem PySem.Spec PyProof.Rows
structure ab1(h:Heap)(x dx C:Addr)(mA:Zs):Prop where
 obj:h.get? x=some (PySem.W.instObj C dx)
 ns:h.Ns1 dx mA
 ne:dx≠x
set_option tactic.hygienic true in
def agm{h:Heap}{G:Addr}{U:Zs}(n:h.Ns1 G U):∃J,h.get? G=some J/\∀Z,PySem.W.lookIn Z J=some (U Z):=by
 obtain⟨o,C,ep,ho,S,hk,_,u⟩:=n;refine⟨o,ho,λZ=>?_⟩;have e:=u Z;unfold nsFind findBy at e;rw[<- Array.find?_toList] at e;unfold PySem.W.lookIn;rw[S];dsimp only;split
 .rename_i y q
  rw[q] at e;exact nq some e
 .rename_i q
  rw[q] at e;have a:C.toList.any (·.refKey)=false:=by rw[List.any_eq_false];intro y L;obtain⟨z,t,Y⟩:=hk y (Array.mem_toList_iff.mp L);simp[DictEntry.refKey,Y]
  have R:¬C.toList.any (·.refKey)=true:=by rw[a];exact ie
  rw[bw R];exact nq some e
def ab1.look{h:Heap}{x U C:Addr}{R:Zs}(I:ab1 h x U C R):∃G,PySem.W.InstAt h x (PySem.W.instObj C U) C (some G)/\∀Z,PySem.W.lookIn Z G=some (R Z) :=
 let ⟨G,ho,hl⟩:=agm I.ns
 ⟨G,⟨I.obj,rfl,rfl,ho⟩,hl⟩
def get_map{prog:Program}{w:World}{A:Around}{E:Y1}{s:Shared}{K:Fg}{x dx C:Addr}{R:Zs}{Z:Str}{v:Value}{G:Bool}{Q:Y1}(X:K.In s.heap)(I:ab1 s.heap x dx C R)(hg:PySem.W.plainGet K C Z=true)(hh:PySem.W.hasDictIn K C=true)
 (ha:PySem.W.findIn K (.ref C) Z=some none) (hv:R Z=some v) (U:PySem.W.handedIn v=true) (h:Q v { s with toks:=s.toks+1 }) :
 wpAny (model prog w) A (getAttr (.ref x) Z G) Q E s:=by
 obtain⟨od,J,hl⟩:=I.look;exact PySem.W.get_value X J (PySem.W.plainGet_of hg).1 (PySem.W.findObj_own hh ha rfl (by rw[hl,hv])) U h
def ake{prog:Program}{w:World}{A:Around}{E:Y1}{s:Shared}{K:Fg}{x R C f:Addr}{U:Zs}{Z:Str}{pl:Sem Bool}{Q:Value×List Value->Shared->Prop}(X:K.In s.heap)(I:ab1 s.heap x R C U)(G:PySem.W.plainGet K C Z=true)
 (hf:PySem.W.findIn K (.ref C) Z=some (some (.ref f))) (ht:PySem.W.isFn K (.ref f)=true) (hv:U Z=none) (h:Q (.ref f,[.ref x]) s) :
 wpAny (model prog w) A (getMethod (.ref x) Z pl) Q E s:=by
 obtain⟨od,J,hl⟩:=I.look;exact PySem.W.method_fn X J (PySem.W.plainGet_of G).1 (PySem.W.plainGet_of G).2 hf (beq_iff_eq.mp ht) (by show(PySem.W.lookIn Z od).map (·.isSome)=some false;rw[hl,hv];rfl) h
def aoy{prog:Program}{w:World}{A:Around}{E:Y1}{s:Shared}{K:Fg}{x G C:Addr}{mA:Zs}{Z:Str}{v:Value}{ns:Yf}{Q:Unit->Shared->Prop}(X:K.In s.heap)(I:ab1 s.heap x G C mA)
 (hs:PySem.W.findIn K (.ref C) "__setattr__" = some (some (.builtin "object.__setattr__"))) (hp:PySem.W.plainOver K C=true) (ht:PySem.W.takerIn K C Z=some none) (hh:PySem.W.hasDictIn K C=true)
 (hw:PySem.Within mA ns) (qq:ns.length<=sizeLine)
 (h:∀h',ab1 h' x G C (λy=>if y=Z then some v else mA y)->Heap.SameBut G s.heap h'->Q () { s with heap:=h',toks:=s.toks+2 }) :
 wpAny (model prog w) A (setAttr (.ref x) Z v) Q E s:=by
 obtain⟨od,J,hl⟩:=I.look;refine PySem.W.set_plain X J hs (PySem.W.osa_open (s:={ s with toks:=s.toks+1 }) (r:=none) X J hp ht λb=>?_);obtain⟨cd,hc,q1⟩:=PySem.W.any_some hh;have hx:s.heap.get? x=some ⟨.ref C,some G,.plain,#[]⟩:=I.obj;refine aa (aj (aa (aa (wpAny_loadPart hx (aa (PySem.W.Looks.here (s:={ s with toks:=s.toks+1 }) (PySem.W.looks_clsIn X hc) ?_))))));rw[q1];refine aj (a:=some G) (aa (aj (aa ?_)));refine wpAny_nsSet1 (s:={ s with toks:=s.toks+1 }) I.ns λh' R U=>?_
 obtain⟨oD,q2,q3,qk,qv,q0⟩:=R.count (PySem.Within.cons Z v hw);refine aa (wpAny_lookBehind qk (by rw[qv];exact pastItsLine_dict (bj q0 (by rw[d9];exact v_ qq))) ?_);exact aj (h _ ⟨(U.2 _ (jr I.ne)).trans I.obj,R,I.ne⟩ U)
def akf{prog:Program}{w:World}{A:Around}{s:Shared}{K:Fg}{C f:Addr}{R:Result->Shared->Prop}{G:Zl}{U:List (Str×Value)}(X:K.In s.heap)(hm:PySem.W.makesIn K C=true)
 (hi:PySem.W.findIn K (.ref C) "__init__" = some (some (.ref f))) (hf:PySem.W.typeIn K (.ref f)=some (.type "function"))
 (h:codeAny (model prog w) (A.under (.builtin "type.__call__" ⟨.ref C::G,U⟩)) (.call (.ref f) ⟨.ref (s.heap.objs.size+1)::G,U⟩) (PySem.W.InitBack (s.heap.objs.size+1) R)
  { s with heap:=(s.heap.push PySem.W.emptyDict).push (PySem.W.instObj C s.heap.objs.size) }) :
 codeAny (model prog w) A (.call (.ref C) ⟨G,U⟩) R s:=by
 obtain⟨hh,g,d,t,os⟩:=s;exact PySem.W.make_core (PySem.W.makes_of X hm) (PySem.W.looks_findIn X hi) (λZ=>PySem.W.bind_fn X Z hf) (.inl rfl) h
noncomputable def Gg(f:Str)(v:V):List (Str×V)->List (Str×V)
 |[]=>[(f,v)]|(g,x)::r=>if g=f then(g,v)::r else(g,x)::Gg f v r
theorem Ql(f g:Str)(v:V):∀fs:List (Str×V),(Gg f v fs).lookup g=if g=f then some v else fs.lookup g
 |[]=>by
  show List.lookup g [(f,v)]=_
  by_cases h:g=f
  .have Z:(g==f)=true:=beq_iff_eq.mpr h
   simp only[List.lookup,Z,bx h]
  .have Z:(g==f)=false:=vg.mpr h
   simp only[List.lookup,Z,bw h]
 |(k,x)::r=>by
  have U:=Ql f g v r;rw[show Gg f v ((k,x)::r)=(if k=f then(k,v)::r else(k,x)::Gg f v r) from rfl]
  by_cases G:k=f
  .rw[bx G]
   by_cases h:g=k
   .have Z:(g==k)=true:=beq_iff_eq.mpr h
    simp only[List.lookup,Z,bx (h.trans G)]
   .have Z:(g==k)=false:=vg.mpr h
    simp only[List.lookup,Z,bw (λe:g=f=>h (e.trans G.symm))]
  .rw[bw G]
   by_cases h:g=k
   .have Z:(g==k)=true:=beq_iff_eq.mpr h
    simp only[List.lookup,Z,bw (λe:g=f=>G (h.symm.trans e))]
   .have Z:(g==k)=false:=vg.mpr h
    simp only[List.lookup,Z];exact U
theorem O9(f:Str)(v:V):∀fs:List (Str×V),f∈(Gg f v fs).map (·.1)/\∀g,g∈fs.map (·.1)->g∈(Gg f v fs).map (·.1)
 |[]=>⟨by simp[Gg],λg h=>by simp at h⟩
 |(k,x)::r=>by
  obtain⟨U,G⟩:=O9 f v r;rw[show Gg f v ((k,x)::r)=(if k=f then(k,v)::r else(k,x)::Gg f v r) from rfl]
  by_cases Z:k=f
  .rw[bx Z]
   subst Z;exact⟨by simp,λg h=>by simpa using h⟩
  .rw[bw Z]
   refine⟨?_,λg h=>?_⟩
   .rw[dg]
    exact bh _ U
   .rw[dg] at h ⊢
    rcases cj.mp h with e|e
    .exact cj.mpr (.inl e)
    .exact bh _ (G g e)
theorem Qm(f:Str)(v:V):∀fs:List (Str×V),(Gg f v fs).length<=fs.length+1
 |[]=>by simp[Gg]
 |(k,x)::r=>by
  have G:=Qm f v r;rw[show Gg f v ((k,x)::r)=(if k=f then(k,v)::r else(k,x)::Gg f v r) from rfl]
  by_cases Z:k=f
  .rw[bx Z,d9,d9];exact x_
  .rw[bw Z,d9,d9];exact v_ G
def Jh.some_of{v:V}{o:Option Value}(r:Jh (some v) o):∃u,o=some u/\RelV v u:=by
 cases o with
 |none=>exact(show False from r).elim
 |some u=>exact⟨u,rfl,r⟩
def Jh.none_of{o:Option Value}(r:Jh none o):o=none:=by
 cases o with
 |none=>rfl|some u=>exact(show False from r).elim
def agn{v:V}{u:Value}(r:RelV v u):PySem.W.handedIn u=true:=by
 cases v with
 |non=>cases(show u=Value.none from r);rfl
 |bl b=>cases(show u=Value.bool b from r);rfl
 |int i=>obtain⟨t,e⟩:=(show ∃t,u=Value.int i t from r);cases e;rfl
 |str x=>obtain⟨t,e⟩:=(show ∃t,u=Value.str x t from r);cases e;rfl
 |byt b=>obtain⟨t,e⟩:=(show ∃t,u=Value.bytes b t from r);cases e;rfl
 |flt b=>obtain⟨t,e⟩:=(show ∃t,u=Value.float b t from r);cases e;rfl
 |ref a=>cases(show u=Value.ref a from r);rfl
 |ty n=>cases(show u=Value.type n from r);rfl
def Km{P:Program}{w:World}{H:Hp}{h:Heap}{a C G:Addr}{fs:List (Str×V)}(R:Ma P w H h)(e:H a=some (.ins C G fs)):∃Z,ab1 h a G C Z/\(∀f,Jh (fs.lookup f) (Z f))/\PySem.Within Z (fs.map (·.1))/\fs.length<=1000/\H G=some (.own a):=by obtain⟨d,z,U,ob,Z,n,r,q⟩:=(show yw P w H h a (.ins C G fs) from R a _ e);exact⟨Z,⟨ob,n,U⟩,r,q,z,d⟩
structure Cls(K:Fg)(C:Addr):Prop where
 pg:PySem.W.plainGet K C Str.empty=true
 hd:PySem.W.hasDictIn K C=true
 po:PySem.W.plainOver K C=true
 sa:PySem.W.findIn K (.ref C) "__setattr__" = some (some (.builtin "object.__setattr__"))
def Cls.get{K:Fg}{C:Addr}(c:Cls K C)(f:Str):PySem.W.plainGet K C f=true:=c.pg
def Eh(K:Fg)(C:Addr)(f:Str):Prop:=PySem.W.findIn K (.ref C) f=some none
def Eh.taker{K:Fg}{C:Addr}{f:Str}(n:Eh K C f):PySem.W.takerIn K C f=some none:=by unfold PySem.W.takerIn;rw[show PySem.W.findIn K (.ref C) f=some none from n];rfl
structure Meth(K:Fg)(C:Addr)(m:Str)(f:Addr):Prop where
 at_:PySem.W.findIn K (.ref C) m=some (some (.ref f))
 fn:PySem.W.isFn K (.ref f)=true
 kp:PySem.W.keepIn K (.ref f)=true
def ab3{X:Cx}{Z:Zp}{G:St}{H:Hp}{s:Shared}{a C dx:Addr}{fs:List (Str×V)}{f:Str}{v:V}{A:Around}{E:Y1}{b:Bool}{Q:Y1}(I:Inv X Z G H s)(e:H a=some (.ins C dx fs))(c:Cls X.K C)(n:Eh X.K C f)(l:fs.lookup f=some v)
 (h:∀u U,Inv X Z G H U->RelV v u->Q u U):wpAny (model X.prog X.w) A (getAttr (.ref a) f b) Q E s:=by
 obtain⟨mA,O,r,_,_,_⟩:=Km I.yp e;obtain⟨u,hu,R⟩:=Jh.some_of (v:=v) (o:=mA f) (by rw[<- l];exact r f);exact get_map I.kIn O (c.get f) c.hd n hu (agn R) (h u _ (I.tok _) R)
def ab4{X:Cx}{Z:Zp}{U:St}{H:Hp}{s:Shared}{a C G:Addr}{fs:List (Str×V)}{A:Around}{E:Y1}{m:Str}{g:Addr}{pl:Sem Bool}{Q:Value×List Value->Shared->Prop}(I:Inv X Z U H s)(e:H a=some (.ins C G fs))(c:Cls X.K C)(k:Meth X.K C m g)(l:fs.lookup m=none)
 (h:Q (.ref g,[.ref a]) s):wpAny (model X.prog X.w) A (getMethod (.ref a) m pl) Q E s:=by
 obtain⟨R,O,r,_,_,_⟩:=Km I.yp e;have hn:R m=none:=Jh.none_of (by rw[<- l];exact r m);exact ake I.kIn O (c.get m) k.at_ k.fn hn h
def ab5{X:Cx}{Z:Zp}{σ:St}{H:Hp}{s:Shared}{a C G:Addr}{fs:List (Str×V)}{f:Str}{A:Around}{E:Y1}{y:V}{u:Value}{Q:Unit->Shared->Prop}(I:Inv X Z σ H s)(e:H a=some (.ins C G fs))(c:Cls X.K C)(n:Eh X.K C f)(hl:fs.length<1000)(ry:RelV y u)
 (h:∀s',Inv X Z σ (upd H a (.ins C G (Gg f y fs))) s'->Q () s'):wpAny (model X.prog X.w) A (setAttr (.ref a) f u) Q E s:=by
 obtain⟨mA,O,r,R,_,ho⟩:=Km I.yp e;have hz:(fs.map (·.1)).length<=sizeLine:=by rw[cz,sizeLine_eq];exact e_ (b_ hl (by decide))
 refine aoy I.kIn O c.sa c.po n.taker c.hd R hz λh' U sb=>h _ ?_
 have hd:∃o,h'.get? G=some o:=let ⟨o,_,_,e',_⟩:=U.ns;⟨o,e'⟩;refine I.write (x:=a) (e:=G) (by rw[e];exact True.intro) (.inr ho) (λb q hb z=>(sb.2 b hb).trans z) hd ?_;refine⟨by rw[j6 O.ne];exact ho,?_,O.ne,U.obj,_,U.ns,λg=>?_,λg hg=>?_⟩
 .have:=Qm f y fs;exact a_ this hl
 .show Jh ((Gg f y fs).lookup g) (if g=f then some u else mA g)
  rw[Ql]
  by_cases q:g=f
  .rw[bx q,bx q];exact ry
  .rw[bw q,bw q];exact r g
 .by_cases q:g=f
  .rw[q];exact(O9 f y fs).1
  .refine(O9 f y fs).2 g (R g λz=>hg ?_)
   show(if g=f then some u else mA g)=none;rw[bw q];exact z
def Inv.made{X:Cx}{Z:Zp}{G:St}{H:Hp}{s:Shared}{C:Addr}(I:Inv X Z G H s):Inv X Z G (upd (upd H s.heap.objs.size (.own (s.heap.objs.size+1))) (s.heap.objs.size+1) (.ins C s.heap.objs.size []))
 { s with heap:=(s.heap.push PySem.W.emptyDict).push (PySem.W.instObj C s.heap.objs.size) }:=by
 have U:(s.heap.push PySem.W.emptyDict).get? s.heap.objs.size=some PySem.W.emptyDict:=bf s.heap rfl;have e2:((s.heap.push PySem.W.emptyDict).push (PySem.W.instObj C s.heap.objs.size)).get? (s.heap.objs.size+1)=some (PySem.W.instObj C s.heap.objs.size):=by
  have:=bf (s.heap.push PySem.W.emptyDict) (o:=PySem.W.instObj C s.heap.objs.size) rfl
  rwa [jq] at this
 have e3:(s.heap.push PySem.W.emptyDict).Ns s.heap.objs.size (λ_=>none):=⟨PySem.W.emptyDict,#[],_,U,rfl,(λe he=>absurd he (by simp)),λ_=>rfl⟩;have I1:=I.laid (a:=s.heap.objs.size) (o:=.own (s.heap.objs.size+1)) (h':=s.heap.push PySem.W.emptyDict) (t':=s.toks) (λb u q=>aq _ q) (bc _) ⟨_,U⟩;refine I1.laid (a:=s.heap.objs.size+1) (o:=.ins C s.heap.objs.size []) (t':=s.toks) (λb u q=>aq _ q) (Nat.le_of_eq (jq _ _)) ?_;have R:s.heap.objs.size≠s.heap.objs.size+1:=fu (qu _);refine⟨by rw[j6 R,qy],ig _,R,e2,λ_=>none,(Heap.Ns1.of_empty e3).at λo q=>aq _ q,λ_=>True.intro,λy hy=>absurd rfl hy⟩
def aoz{A:Around}{E:Y1}{prog:Program}{w:World}{Z:Env}{e:Expr}{f:Str}{U:Pos}{s:Shared}{Q:Y1}(R:attributeBase e f Z (eval e Z)=eval e Z)
 (h:wpAny (model prog w) A (eval e Z) (λo G=>wpAny (model prog w) A (getAttr o f true) Q E G) E s):wpAny (model prog w) A (eval (.Attribute e f U) Z) Q E s :=
 Attribute_any_ h (by rw[arm_eval_Attribute,R])
def a7m(K:Fg)(R:TE)(f:Str):TE:=λU H Q=>R U H λx Z=>∃a C G fs v,x=.ref a/\Z a=some (.ins C G fs)/\Cls K C/\Eh K C f/\fs.lookup f=some v/\Q v Z
def a7n(K:Fg)(R tv:TE)(f:Str):TS:=λD Z H=>tv Z H λy H1=>R Z H1 λx U=>∃a C G fs,x=.ref a/\U a=some (.ins C G fs)/\Cls K C/\Eh K C f/\fs.length<1000 /\
 D.nx Z (upd U a (.ins C G (Gg f y fs)))
def au6{X:Cx}{e:Expr}{f:Str}{G:Pos}{U:TE}(he:PE X e U)(hb:attributeBase e f X.env (eval e X.env)=eval e X.env):PE X (.Attribute e f G) (a7m X.K U f):=by intro Z s σ H Q I h;refine aoz hb (zg (he Z s σ H _ I h) λu s1 z_=>?_);obtain⟨x,H1,R,rx,a,C,dx,fs,v,ex,ea,c,n,l,q⟩:=z_;subst ex;obtain rfl:u=Value.ref a:=rx;exact ab3 R ea c n l λu' s2 I2 ru=>⟨v,H1,I2,ru,q⟩
def au7{X:Cx}{o Z:Expr}{f:Str}{R G:Pos}{ta tv:TE}(ha:PE X o ta)(hv:PE X Z tv)(hs:swapsWith Z (some (.Attribute o f G)) R.line X.env=pure false):PS X (.Assign [.Attribute o f G] Z R) (a7n X.K ta tv f):=by intro U s σ H D I h;refine plainObj_wpAny_Assign_Attribute (zg (hv U s σ H _ I h) λu s1 ⟨y,H1,I1,ry,q⟩=>zg (ha U s1 σ H1 _ I1 q) λov s2 ⟨x,H2,I2,rx,a,C,dx,fs,ex,ea,c,n,l,q2⟩=>?_) hs;subst ex;obtain rfl:ov=Value.ref a:=rx;exact ab5 I2 ea c n l ry λs3 I3=>⟨σ,_,I3,q2⟩
end L2
namespace L2
open PySem PySem.Spec PyProof.Rows
structure xu(k:Nat)(A:Around):Prop where
 hd:A.handled=none
 dp:A.depth+3*k+5<recursionLimit
 un:A.units+16*k+200<cLine
def xu.mono{j k:Nat}{A:Around}(r:xu k A)(h:j<=k):xu j A:=⟨r.hd,by have:=r.dp;lia,by have:=r.un;lia⟩
theorem xu.deeper{k:Nat}{A:Around}(r:xu (k+1) A)(Z:Env):xu k (A.deeper Z) :=
 ⟨r.hd,by have:=r.dp;show A.depth+1+3*k+5<_;lia,by have:=r.un;show A.units+3+16*k+200<_;lia⟩
theorem xu.in1{k:Nat}{A:Around}(r:xu (k+1) A):xu k A.in1 :=
 ⟨r.hd,by have:=r.dp;show A.depth+3*k+5<_;lia,by have:=r.un;show A.units+1+16*k+200<_;lia⟩
def ab6{A:Around}{C:Addr}{G:Zl}{Z:List (Str×Value)}:(A.under (.builtin "type.__call__" ⟨.ref C::G,Z⟩)).depth=A.depth+1:=by first|rfl|simp[Around.under,Code.weight,Code.isCreation,Code.isGuard,Code.isCaller,Code.frames,Code.isFrame,guardIds]
def ab7{A:Around}{C:Addr}{G:Zl}{Z:List (Str×Value)}:(A.under (.builtin "type.__call__" ⟨.ref C::G,Z⟩)).units=A.units+1:=by first|rfl|simp[Around.under,Code.cUnits,Code.frames,Code.isFrame]
def xu.make{k:Nat}{A:Around}(r:xu (k+1) A)(C:Addr)(G:Zl)(Z:List (Str×Value)):xu k (A.under (.builtin "type.__call__" ⟨.ref C::G,Z⟩)) :=
 ⟨r.hd,by have:=r.dp;rw[ab6];lia,by have:=r.un;rw[ab7];lia⟩
theorem xu.depth{k:Nat}{A:Around}(r:xu k A):A.depth<recursionLimit:=by have:=r.dp;lia
theorem xu.units{k:Nat}{A:Around}(r:xu k A):A.units+64<cLine:=by have:=r.un;lia
def xu.T4{k:Nat}{A:Around}(r:xu k A):A.units<cLine:=by have:=r.un;lia
def azy:TA:=λ_ H Q=>Q [] H
def azz(U:TE)(tr:TA):TA:=λZ H Q=>U Z H λx R=>tr Z R λxs G=>Q (x::xs) G
def au8{X:Cx}:PA X [] azy:=λ_ _ _ _ H Q I h=>Calls.spliced_nil ⟨[],H,I,.nil,h⟩
def ao0{X:Cx}{e:Expr}{G:Ya}{te:TE}{t:TA}(ha:PE X e te)(hr:PA X G t)(hs:starEach (e::G) X.env=(false,eval e X.env)::starEach G X.env:=by rfl):PA X (e::G) (azz te t):=by intro U Z s R H Q I h;rw[hs];show wpAny _ _ (spliced ((false,eval e X.env)::backTo U (starEach G X.env))) _ _ s;refine Calls.spliced_cons (zg (ha Z s R H _ I h) λu s1 z_=>?_);obtain⟨x,H1,I1,r1,q1⟩:=z_;exact zg (hr U Z s1 R H1 _ I1 q1) λus s2 ⟨xs,H2,I2,r2,q2⟩=>⟨x::xs,H2,I2,.cons r1 r2,q2⟩
def a7o(t:TA):TE:=λU H Q=>t U H λZ G=>Z.length<=sizeLine/\∀p,G p=none->Q (.ref p) (upd G p (.tup Z))
def a7p(t:TA):TE:=λU H Q=>t U H λZ G=>Z.length<=sizeLine/\∀p,G p=none->Q (.ref p) (upd G p (.lst Z))
def au9{X:Cx}{R:Ya}{t:TA}{Z:Pos}{x1}(h:PA X R t):PE X (.Tuple R x1 Z) (a7o t):=by intro G s σ H Q I hq;refine wpAny_Tuple_spliced (zg (h Z G s σ H _ I hq) λus U ⟨xs,H1,I1,r,z,q⟩=>⟨by rw[<- r.length];exact z,?_⟩);have hf:H1 U.heap.objs.size=none:=I1.yp.fresh (bc _);refine⟨.ref U.heap.objs.size,upd H1 U.heap.objs.size (.tup xs),I1.laid (t':=U.toks) (λb u e=>aq _ e) (bc _) ?_,rfl,q _ hf⟩;exact⟨z,us,r,U0.new _ _⟩
def akg{X:Cx}{R:Ya}{t:TA}{Z:Pos}(h:PA X R t):PE X (.List R Z) (a7p t):=by intro G s σ H Q I hq;refine wpAny_List_spliced (zg (h Z G s σ H _ I hq) λus U ⟨xs,H1,I1,r,z,q⟩=>⟨by rw[<- r.length];exact z,?_⟩);have hf:H1 U.heap.objs.size=none:=I1.yp.fresh (bc _);refine⟨.ref U.heap.objs.size,upd H1 U.heap.objs.size (.lst xs),I1.laid (t':=U.toks) (λb u e=>aq _ e) (bc _) ?_,rfl,q _ hf⟩;exact⟨z,us,0,r,bf _ rfl⟩
abbrev Sp:=List V->Hp->VK->XK->Prop
abbrev CXT:=List Env->Hp->Shared->XK->Value->Shared->Prop
structure ab8(P:Program)(w:World)(K:Fg)(mg:Zs)(base:Heap)(A:Around)(outer:List Env)(s:Shared)(H:Hp):Prop where
 frames:A.frames=some outer
 mod:Mod K mg base
 bs:∀b o,base.get? b=some o->s.heap.get? b=some o/\H b=none
 bsz:base.objs.size<=s.heap.objs.size
 Qx:s.heap.FunFrames base outer
 frf:∀b∈frs outer,H b=none
 yp:Ma P w H s.heap
 bare:AllBare s.gens
def CE(Z:List Env)(P:Program)(w:World)(H:Hp)(s:Shared)(Q:VK)(u:Value)(G:Shared):Prop :=
 ∃v U,G.os=s.os/\AllBare G.gens/\Un (frs Z) [] H U s.heap G.heap/\Ma P w U G.heap/\RelV v u/\Q v U
def CR(U:CXT)(Z:List Env)(P:Program)(w:World)(H:Hp)(s:Shared)(Q:VK)(E:XK)(r:Result)(G:Shared):Prop :=
 match r with
 |.ok (.ret u)=>CE Z P w H s Q u G|.ok _=>False|.error e=>U Z H s E e G
structure Ei(P:Program)(w:World)(K:Fg)(mg:Zs)(base:Heap)(CX:CXT)(k:Nat)(f:Addr)(fd:FuncData)(ps:Yf)(sp:Sp):Prop where
 len:∀vs H Q E,sp vs H Q E->vs.length=ps.length
 run:∀(A:Around)(outer:List Env)(s:Shared)(H:Hp)(args:Args)(us:Zl)(vs:List V)(Q:VK)(E:XK),xu k A->ab8 P w K mg base A outer s H->BindsTo s fd args (ps.zip us)->Vals vs us->sp vs H Q E ->
  codeAny (model P w) A (.call (.ref f) args) (CR CX outer P w H s Q E) s
def Ei.imp{P:Program}{w:World}{K:Fg}{mg:Zs}{Z:Heap}{CX:CXT}{k:Nat}{f:Addr}{fd:FuncData}{ps:Yf}{sp sp':Sp}(F:Ei P w K mg Z CX k f fd ps sp)
 (h:∀U H Q E,sp' U H Q E->sp U H Q E):Ei P w K mg Z CX k f fd ps sp' :=
 ⟨λU H Q E q=>F.len U H Q E (h _ _ _ _ q),λA G s H R us U Q E hr he hb hv hs=>F.run A G s H R us U Q E hr he hb hv (h _ _ _ _ hs)⟩
def ab8.make{P:Program}{w:World}{K:Fg}{mg:Zs}{G:Heap}{A:Around}{Z:List Env}{s:Shared}{H:Hp}(e:ab8 P w K mg G A Z s H)(C:Addr)(R:Zl)(U:List (Str×Value)) :
 ab8 P w K mg G (A.under (.builtin "type.__call__" ⟨.ref C::R,U⟩)) Z s H:=⟨by first|exact e.frames|(simpa[Around.under,Code.envs,Code.isFrame,pushEnvs] using e.frames),e.mod,e.bs,e.bsz,e.Qx,e.frf,e.yp,e.bare⟩
def Inv.env0{X:Cx}{Z:Zp}{G:St}{H:Hp}{s:Shared}(I:Inv X Z G H s):ab8 X.prog X.w X.K X.mg X.base X.A X.stack s H :=
 ⟨I.ok.frames,I.ok.mod,I.bs,bj I.ok.bsz I.sz,I.stack,I.aee,I.yp,I.bare⟩
def Inv.after{X:Cx}{Z:Zp}{R:St}{H:Hp}{s s':Shared}{Q:VK}{u:Value}(I:Inv X Z R H s)(h:CE X.stack X.prog X.w H s Q u s'):EP X Z R Q u s':=by obtain⟨v,H',os,G,un,yp,r,q⟩:=h;obtain⟨hh,g,d,t,U⟩:=s';obtain rfl:U=s.os:=os;exact⟨v,H',I.call (h':=hh) (g':=g) (d':=d) (t':=t) (ch:=[]) un yp G (λb z=>absurd z (by simp)),r,q⟩
def az0(Z:Sp)(G:List V)(E:XK)(t:TA):TE:=λU H Q=>t U H λR H1=>Z (R++G) H1 Q E
def az1(C:Addr)(m:Str)(U:Sp)(T5:List V)(E:XK)(ta:TE)(t:TA):TE:=λZ H Q=>ta Z H λx G=>∃a R fs,x=.ref a/\G a=some (.ins C R fs)/\fs.lookup m=none /\
 t Z G λvs H2=>U (x::(vs++T5)) H2 Q E
def az2(C:Addr)(U:Sp)(T5:List V)(E:XK)(t:TA):TE:=fun σ H Q=>t σ H λvs G=>∀x Z,G x=none->G Z=none->Z≠x ->
 U (.ref x::(vs++T5)) (upd (upd G Z (.own x)) x (.ins C Z [])) (λv R=>v=.non/\Q (.ref x) R) E
def Binds(K:Fg)(U:FuncData)(ps:Yf)(G:Zl):Prop :=
 ∀(s:Shared)(Z:Zl),K.In s.heap->(Z++G).length=ps.length->BindsTo s U ⟨Z,[]⟩ (ps.zip (Z++G))
def Binds.all{K:Fg}{U:FuncData}{ps:Yf}(h:∀Z:List Value,Z.length=ps.length->bindArgs U ⟨Z,[]⟩=pure (ps.zip Z)):Binds K U ps []:=λs Z _ G=>by rw[yc] at G ⊢;exact .of_eq (h Z G)
def Passes(U:CXT)(X:Cx)(E:XK):Prop:=∀(Z:Zp)(R:St)(H:Hp)(s:Shared)(e:Value)(G:Shared),Inv X Z R H s->U X.stack H s E e G->X.xe e G
def akh{X:Cx}{CX:CXT}{k:Nat}{f:Addr}{fd:FuncData}{ps:Yf}{sp:Sp}{R:List V}{G:Zl}{E:XK}{Z:Zp}{σ:St}{H:Hp}{s:Shared}{Q:VK}{us:Zl}{vs:List V}(F:Ei X.prog X.w X.K X.mg X.base CX k f fd ps sp)(hr:xu k X.A)(hb:Binds X.K fd ps G)(hd:Vals R G)(hx:Passes CX X E)
 (I:Inv X Z σ H s) (r:Vals vs us) (h:sp (vs++R) H Q E):wpAny (model X.prog X.w) X.A (call (.ref f) us) (EP X Z σ Q) X.xe s:=by
 have r2:Vals (vs++R) (us++G):=r.append hd;have hl:(us++G).length=ps.length:=by rw[<- r2.length];exact F.len _ _ _ _ h
 refine wpAny_call (codeAny_mono (F.run X.A X.stack s H ⟨us,[]⟩ (us++G) (vs++R) Q E hr I.env0 (hb s us I.kIn hl) r2 h) λr s' U=>?_);cases r with
 |error e=>exact hx Z σ H s e s' I U
 |ok fl =>
  cases fl with
  |ret u=>exact I.after U|next=>exact False.elim U|brk=>exact False.elim U|cont=>exact False.elim U
def ao1{X:Cx}{CX:CXT}{k:Nat}{f:Addr}{fd:FuncData}{ps:Yf}{sp:Sp}{T5:List V}{R:Zl}{E:XK}{x:Str}{p Z:Pos}{e:Expr}{U:Ya}{t:TA}(F:Ei X.prog X.w X.K X.mg X.base CX k f fd ps sp)(hr:xu k X.A)(hg:Gl X x)(hm:X.mg x=some (.ref f))(hk:PySem.W.keepIn X.K (.ref f)=true)(hb:Binds X.K fd ps R)(hd:Vals T5 R)(hx:Passes CX X E)
 (ha:PA X (e::U) t) (Xo:(x==("__debug__" : Str))=false:=by decide) (he:starEach (e::U) X.env=(false,eval e X.env)::starEach U X.env:=by rfl) (Kp:(backTo Z (starEach U X.env)).any (·.1)=false:=by rfl) :
 PE X (.Call (.Name x p) (e::U) [] Z) (az0 sp T5 E t):=by
 intro G s σ H Q I h;refine m8 (Xl I hg hm ?_ Xo);refine PySem.W.callWith_K (h₀:=X.base) I.ok.mod.kin hk (zg (ha Z G s σ H _ I h) λus s1 ⟨vs,H1,I1,r,q⟩=>⟨I1.kIn,?_⟩) he Kp;exact akh F hr hb hd hx I1 r q
def ao2{X:Cx}{CX:CXT}{k:Nat}{f C:Addr}{fd:FuncData}{ps:Yf}{sp:Sp}{T5:List V}{ds:Zl}{E:XK}{m:Str}{Z G:Pos}{e o:Expr}{R:Ya}{ta:TE}{t:TA}{pl:Sem Bool}(he:PE X o ta)(c:Cls X.K C)(hm:Meth X.K C m f)(F:Ei X.prog X.w X.K X.mg X.base CX k f fd ps sp)(hr:xu k X.A)(hb:Binds X.K fd ps ds)(hd:Vals T5 ds)(hx:Passes CX X E)(ha:PA X (e::R) t)
 (qq:starEach (e::R) X.env=(false,eval e X.env)::starEach R X.env:=by rfl) (Kp:(backTo Z (starEach R X.env)).any (·.1)=false:=by rfl)
 (ht:eval (.Call (.Attribute o m G) (e::R) [] Z) X.env=(do
  let ov <- eval o X.env
  standAt G.atName
  let (f,first) <- holding [ov] (getMethod ov m pl)
  callWith Z f first (backTo Z (starEach (e::R) X.env)) (backToKw Z (keywordEach [] X.env))):=by rfl) :
 PE X (.Call (.Attribute o m G) (e::R) [] Z) (az1 C m sp T5 E ta t):=by
 intro U s σ H Q I h;refine PySem.W.methodCall_KW (pl:=pl) (zg (he U s σ H _ I h) λu s1 ⟨x,H1,I1,rx,a,dx,fs,ex,ea,l,q⟩=>?_) ht;subst ex;obtain rfl:u=Value.ref a:=rx;refine ab4 I1 ea c hm l ?_;refine PySem.W.callWith_K (first:=[.ref a]) (h₀:=X.base) I.ok.mod.kin hm.kp (zg (ha Z U s1 σ H1 _ I1 q) λus s2 ⟨vs,H2,I2,r,q2⟩=>⟨I2.kIn,?_⟩) qq Kp;exact akh (us:=.ref a::us) (vs:=.ref a::vs) F hr hb hd hx I2 (.cons rfl r) q2
structure Mk(K:Fg)(C f:Addr):Prop where
 makes:PySem.W.makesIn K C=true
 init:PySem.W.findIn K (.ref C) "__init__" = some (some (.ref f))
 fn:PySem.W.isFn K (.ref f)=true
 kp:PySem.W.keepIn K (.ref C)=true
def aki{X:Cx}{CX:CXT}{k:Nat}{f C:Addr}{fd:FuncData}{ps:Yf}{sp:Sp}{T5:List V}{U:Zl}{E:XK}{G:Zp}{σ:St}{H:Hp}{s:Shared}{Q:VK}{us:Zl}{vs:List V}(M:Mk X.K C f)(F:Ei X.prog X.w X.K X.mg X.base CX k f fd ps sp)(hr:xu (k+1) X.A)(hb:Binds X.K fd ps U)(hd:Vals T5 U)
 (hx:Passes CX X E) (I:Inv X G σ H s) (r:Vals vs us)
 (h:∀x R,H x=none->H R=none->R≠x->sp (.ref x::(vs++T5)) (upd (upd H R (.own x)) x (.ins C R [])) (λv H2=>v=.non/\Q (.ref x) H2) E) :
 wpAny (model X.prog X.w) X.A (call (.ref C) us) (EP X G σ Q) X.xe s:=by
 have hq:=h (s.heap.objs.size+1) s.heap.objs.size (I.yp.fresh (o8 _)) (I.yp.fresh (bc _)) (fu (qu _));have I2:=Inv.made (C:=C) I;have r2:Vals (V.ref (s.heap.objs.size+1)::(vs++T5)) (Value.ref (s.heap.objs.size+1)::(us++U)):=.cons rfl (r.append hd);have hl:(Value.ref (s.heap.objs.size+1)::us++U).length=ps.length:=by have e:=r2.length;rw[F.len _ _ _ _ hq] at e;exact e.symm
 refine wpAny_call (akf (f:=f) I.kIn M.makes M.init (beq_iff_eq.mp M.fn) (codeAny_mono (F.run _ X.stack _ _ ⟨Value.ref (s.heap.objs.size+1)::us,[]⟩ (Value.ref (s.heap.objs.size+1)::(us++U)) _ _ E (hr.make C us [])
  (I2.env0.make C us []) (hb _ (Value.ref (s.heap.objs.size+1)::us) I2.kIn hl) r2 hq) λr s' Z=>?_))
 cases r with
 |error e=>exact hx G σ _ _ e s' I2 Z
 |ok fl =>
  cases fl with
  |ret u =>
   obtain⟨v,H',I3,rv,ev,q3⟩:=I2.after Z;subst ev;exact⟨rv,⟨V.ref (s.heap.objs.size+1),H',I3,rfl,q3⟩⟩
  |next=>exact False.elim Z|brk=>exact False.elim Z|cont=>exact False.elim Z
def akj{X:Cx}{CX:CXT}{k:Nat}{f C:Addr}{fd:FuncData}{ps:Yf}{G:Sp}{R:List V}{U:Zl}{E:XK}{x:Str}{p Z:Pos}(M:Mk X.K C f)(F:Ei X.prog X.w X.K X.mg X.base CX k f fd ps G)(hr:xu (k+1) X.A)(hg:Gl X x)(hm:X.mg x=some (.ref C))(hb:Binds X.K fd ps U)(hd:Vals R U)(hx:Passes CX X E)
 (Xo:(x==("__debug__" : Str))=false:=by decide):PE X (.Call (.Name x p) [] [] Z) (az2 C G R E azy):=by
 intro qq s σ H Q I h;refine m8 (Xl I hg hm ?_ Xo);exact PySem.W.callWith_K0 I.kIn M.kp (aki (us:=[]) M F hr hb hd hx I .nil h)
structure Rh(N P:Yf)(sc:Scope):Prop where
 kind:sc.kind=.function
 co:sc.isCoroutine=false
 gen:sc.isGenerator=false
 nd:N.Nodup
 pre:N.take P.length=P
 par:∀x∈P,sc.names.lookup x=some .local\/sc.names.lookup x=some .cell
 ava:∀y∈sc.names,y.2≠.free
theorem Vt{Z:Str->Option NameKind}{x:Str}:∀{binds:List (Str×Value)}{m:Zs},(∀v,(x,v)∉binds)->bindL Z binds m x=m x
 |[],_,_=>rfl
 |(n,v)::r,m,h=>by
  unfold bindL;rw[Vt λw hw=>h w (bh _ hw)];split
  .have:x≠n:=by rintro rfl;exact h v cg
   simp[this]
  .rfl
theorem Vu{Z:Str->Option NameKind}{x:Str}:∀{binds:List (Str×Value)}{m:Zs},(∀v,(x,v)∉binds)->bindC Z binds m x=m x
 |[],_,_=>rfl
 |(n,v)::r,m,h=>by
  unfold bindC;rw[Vu λw hw=>h w (bh _ hw)];split
  .rfl
  .have:x≠n:=by rintro rfl;exact h v cg
   simp[this]
theorem Vv{Z:Str->Option NameKind}{x:Str}{v:Value}:∀{P:Yf}{G:Zl}{i:Nat}{m:Zs},P.Nodup->P[i]?=some x->G[i]?=some v->Z x=some .local ->
 bindL Z (P.zip G) m x=some v
 |[],_,_,_,_,h,_,_=>by simp at h|_::_,[],_,_,_,_,h,_=>by simp at h
 |p::P,w::G,0,m,nd,h1,h2,hk=>by
  simp at h1 h2;subst h1;subst h2;show bindL Z ((p,w)::P.zip G) m p=_;unfold bindL;rw[Vt λv U=>(jy.mp nd).1 (ye U).1,bx hk];simp
 |p::P,w::G,i+1,m,nd,h1,h2,hk=>by
  show bindL Z ((p,w)::P.zip G) m x=_;unfold bindL;exact Vv (i:=i) (jy.mp nd).2 (by simpa using h1) (by simpa using h2) hk
theorem Vw{Z:Str->Option NameKind}{x:Str}{v:Value}:∀{P:Yf}{G:Zl}{i:Nat}{m:Zs},P.Nodup->P[i]?=some x->G[i]?=some v->Z x≠some .local ->
 bindC Z (P.zip G) m x=some v
 |[],_,_,_,_,h,_,_=>by simp at h|_::_,[],_,_,_,_,h,_=>by simp at h
 |p::P,w::G,0,m,nd,h1,h2,hk=>by
  simp at h1 h2;subst h1;subst h2;show bindC Z ((p,w)::P.zip G) m p=_;unfold bindC;rw[Vu λv U=>(jy.mp nd).1 (ye U).1,bw hk];simp
 |p::P,w::G,i+1,m,nd,h1,h2,hk=>by
  show bindC Z ((p,w)::P.zip G) m x=_;unfold bindC;exact Vw (i:=i) (jy.mp nd).2 (by simpa using h1) (by simpa using h2) hk
noncomputable def start(N:Yf)(Z:List V):St:=Z.map some++List.replicate (N.length-Z.length) none
noncomputable def ab9(CX:CXT)(P:Program)(w:World)(K:Fg)(mg:Zs)(base:Heap)(N:Yf)(G:Str)(Z:Scope)(f:Addr)(R:Value)(A:Around)(outer:List Env)(s:Shared)(H:Hp)(E:XK):Cx where
 prog:=P
 w:=w
 K:=K
 mg:=mg
 base:=base
 A:=A.deeper (envOfC G Z s.heap.objs.size f R)
 N:=N
 s₀:=s
 H₀:=H
 env:=envOfC G Z s.heap.objs.size f R
 outer:=outer
 stack:=envOfC G Z s.heap.objs.size f R::outer
 ex:=[]
 calm:=true
 fn:=λ_=>true
 pn:=[]
 xe:=λe s'=>wpAny (model P w) (A.deeper (envOfC G Z s.heap.objs.size f R)) (leaving (envOfC G Z s.heap.objs.size f R) e) (λ_ U=>CX outer H s E e U) (λe' U=>CX outer H s E e' U) s'
def Zx{Z:Scope}{n:Nat}{x:Str}(h:Z.names.lookup x=some .cell):∃c,(cellsFrom n Z.names []).lookup x=some c:=by have q:=PySem.W.cellsFrom_some Z.names n [] (.inl h);exact j0.mp q
def ago{CX:CXT}{P:Program}{w:World}{K:Fg}{mg:Zs}{qq:Heap}{N ps:Yf}{U:Str}{Z:Scope}{f:Addr}{cd:Value}{A:Around}{G:List Env}{s s1:Shared}{H:Hp}{E:XK}{us:Zl}{vs:List V}
 (S:Rh N ps Z) (hd:A.handled=none) (e0:ab8 P w K mg qq A G s H) (hl:vs.length=ps.length) (r:Vals vs us)
 (x:InCallC s s.heap.objs.size (bindL (envOfC U Z s.heap.objs.size f cd).kindOf (ps.zip us) λ_=>none) (cellsFrom (s.heap.objs.size+1) Z.names []) (bindC (envOfC U Z s.heap.objs.size f cd).kindOf (ps.zip us) λ_=>none) s1) :
 Inv (ab9 CX P w K mg qq N U Z f cd A G s H E) [] (start N vs) H s1:=by
 have Kp:ps.length<=N.length:=by have:=nq List.length S.pre;rw[List.length_take] at this;lia
 obtain⟨h1,tk,rfl,hk⟩:=x.done;have qk:∀b:Addr,b∉(ab9 CX P w K mg qq N U Z f cd A G s H E).ex:=λb z=>absurd (show b∈([]:X1) from z) (by simp)
 refine⟨⟨e0.mod,S.kind,rfl,rfl,bc _,λy z c h1 R=>?_,λy hy=>?_,λy c _ h=>?_,λ_=>hd,Around.frames_deeper e0.frames,.inr ⟨rfl,rfl⟩,λb z=>absurd z (qk b),e0.bs,e0.bsz,λb _ _=>qk b,λb z=>absurd z (qk b),e0.Qx,e0.frf⟩,
  rfl,e0.bare,Un.kept hk,⟨_,x.toInCall.ns,λi y v h1 R h3=>?_⟩,λy c h=>⟨_,x.cell y c h⟩,e0.yp.fresh (bc _),λy c h=>?_,λp hp=>absurd (show p∈([]:Zp) from hp) (by simp),e0.yp.kept hk,?_⟩
 .exact name_of_addr x.apart (vf h1) (vf R)
 .have hy:Z.names.lookup y=some .cell\/Z.names.lookup y=some .free:=hy
  rcases hy with hy|hy
  .exact Zx hy
  .exact absurd rfl (S.ava _ (vf hy))
 .exact yo (x.above y c (vf h))
 .have hi:i<vs.length:=by
   unfold start at R
   by_cases hi:i<vs.length
   .exact hi
   .rw[ou (by simpa using hi)] at R
    rw[List.getElem?_replicate] at R;split at R<;>cases R
  have ha:vs[i]?=some v:=by
   unfold start at R;rw[gr (by simpa using hi),gf] at R;cases e:vs[i]? with
   |none=>rw[e] at R;cases R|some a=>rw[e] at R;cases R;rfl
  obtain⟨u,hu,rv⟩:=r.get ha;have hp:ps[i]?=some y:=by rw[<- S.pre,List.getElem?_take_of_lt (b_ hi (f_ hl))];exact h1
  have qv:ps.Nodup:=by rw[<- S.pre];exact S.nd.sublist (List.take_sublist _ _)
  refine⟨u,rv,?_⟩;rcases S.par y (az hp) with k|k
  .exact .inl ⟨k,Vv qv hp hu k⟩
  .obtain⟨c,e⟩:=Zx (n:=s.heap.objs.size+1) k
   refine .inr ⟨.inl k,c,e,?_⟩;have q:=x.cell y c e;rw[Vw qv hp hu (by show Z.names.lookup y≠_;rw[k];decide)] at q;exact q
 .exact e0.yp.fresh (yo (x.above y c (vf h)))
 .unfold start
  show _=N.length;rw[iy,cz,List.length_replicate]
  lia
def az5{CX:CXT}{P:Program}{w:World}{K:Fg}{mg:Zs}{qq:Heap}{k:Nat}{f:Addr}{q1 U:Str}{qk:Arguments}{qv:List Stmt}{Z:Scope}{dV kV q2 pm R ct oc:Value}{an od:Option Addr}
 {zz:Array (Option Value)} {N ps:Yf} {sp:Sp} (lk:K.lookup f=some ⟨oc,od,.func (PySem.W.fnOf q1 U qk qv Z dV kV q2 pm an R ct),zz⟩) (q5:PySem.W.codeIn K R U=true) (S:Rh N ps Z)
 (len:∀vs H Q E,sp vs H Q E->vs.length=ps.length)
 (q7:∀(A:Around)(G:List Env)(s:Shared)(H:Hp)(vs:List V)(Q:VK)(E:XK),xu k (A.deeper (envOfC U Z s.heap.objs.size f R))->sp vs H Q E ->
  ∃t,Oc (ab9 CX P w K mg qq N U Z f R A G s H E) qv t/\t { nx:=λ_ H'=>Q .non H',rt:=Q } (start N vs) H) :
 Ei P w K mg qq CX (k+1) f (PySem.W.fnOf q1 U qk qv Z dV kV q2 pm an R ct) ps sp:=by
 refine⟨len,λA G s H zk us vs Q E hr e0 hb r q3=>?_⟩;have hl:=len _ _ _ _ q3;have KX:K.In s.heap:=e0.mod.kin.keeps λb o e=>(e0.bs b o e).1
 have q6:s.heap.NoLimit:=e0.mod.nolimit.keeps λb o e=>(e0.bs b o e).1
 have q4:∀y∈ps.zip us,Z.names.lookup y.1=some .local\/(Z.names.lookup y.1=some .cell/\((cellsFrom (s.heap.objs.size+1) Z.names []).lookup y.1).isSome=true):=λ⟨n,v⟩ hy=>by
  rcases S.par n (ye hy).1 with q|q
  .exact .inl q
  .exact .inr ⟨q,PySem.W.cellsFrom_some _ _ _ (.inl q)⟩
 refine codeAny_call_function hr.depth (KX _ _ lk) rfl S.co S.gen rfl (PySem.W.codeRec_of KX q5) (hb _ _ _ _ ?_);refine wpAny_newFunctionEnv_cells S.kind q4 λzv he s1 x=>?_
 subst he;refine⟨q6.keeps x.toInCall.keep,codeAny_func ?_⟩;obtain⟨t,ht,hq⟩:=q7 A G s H vs Q E (hr.deeper _) q3;have I:Inv (ab9 CX P w K mg qq N U Z f R A G s H E) [] (start N vs) H s1:=ago S hr.hd e0 hl r x;refine mj (ht [] s1 (start N vs) H _ I hq) (λfl s' hs=>?_) λe s' hs=>hs
 have fin:∀{q0:St}{H':Hp}{v:V}{u:Value},Inv (ab9 CX P w K mg qq N U Z f R A G s H E) [] q0 H' s'->RelV v u->Q v H'->CE G P w H s Q u s' :=
  fun{q0 H' v u} J rv q=>⟨v,H',J.os,J.bare,J.base,J.yp,rv,q⟩
 cases fl with
 |ret u =>
  obtain⟨v,q0,H',J,rv,q⟩:=hs;exact fin J rv q
 |next =>
  obtain⟨q0,H',J,q⟩:=hs;exact fin (v:=V.non) (u:=Value.none) J rfl q
 |brk =>
  obtain⟨_,_,_,q⟩:=hs;exact False.elim q
 |cont =>
  obtain⟨_,_,_,q⟩:=hs;exact False.elim q
end L2
namespace L2
open PySem PySem.Spec PyProof.Rows
def tCB(r:List V->Hp->VK->Prop)(t:TA):TE:=λU H Q=>t U H λZ G=>r Z G Q
def akl{X:Cx}{x:Str}{p G:Pos}{e:Expr}{U:Ya}{t:TA}{id:String}{r:List V->Hp->VK->Prop}(hc:Ab X (.builtin id) r)(hg:Gl X x)(hm:X.mg x=none)(hv:bootBuiltins x=some (.builtin id))(ha:PA X (e::U) t)(hn:x≠"__name__" := by decide)(Xo:(x==("__debug__" : Str))=false:=by decide)
 (he:starEach (e::U) X.env=(false,eval e X.env)::starEach U X.env:=by rfl) (Kp:(backTo G (starEach U X.env)).any (·.1)=false:=by rfl):PE X (.Call (.Name x p) (e::U) [] G) (tCB r t):=by
 intro Z s R H Q I h;refine m8 (Ii I hg hm hv ?_ hn Xo);exact u5 (zg (ha G Z s R H _ I h) λus s1 ⟨vs,H1,I1,r1,q1⟩=>hc Z s1 R H1 vs us Q I1 r1 q1) he Kp
def agp{X:Cx}{x:Str}{p G:Pos}{e:Expr}{U:Ya}{t:TA}{T:String}{r:List V->Hp->VK->Prop}(hc:Ab X (.type T) r)(hg:Gl X x)(hm:X.mg x=none)(hv:bootBuiltins x=some (.type T))(ha:PA X (e::U) t)(hn:x≠"__name__" := by decide)(Xo:(x==("__debug__" : Str))=false:=by decide)
 (he:starEach (e::U) X.env=(false,eval e X.env)::starEach U X.env:=by rfl) (Kp:(backTo G (starEach U X.env)).any (·.1)=false:=by rfl):PE X (.Call (.Name x p) (e::U) [] G) (tCB r t):=by
 intro Z s R H Q I h;refine m8 (Ii I hg hm hv ?_ hn Xo);exact p8 (zg (ha G Z s R H _ I h) λus s1 ⟨vs,H1,I1,r1,q1⟩=>hc Z s1 R H1 vs us Q I1 r1 q1) he Kp
section
variable{κ:Type}[DecidableEq κ]
def Pa(Z:List (κ×V))(k:κ):Option V:=(Z.find? λkv=>decide (kv.1=k)).map (·.2)
def putK(Z:List (κ×V))(k:κ)(v:V):List (κ×V) :=
 if(Z.any λkv=>decide (kv.1=k))=true then Z.map (λkv=>if kv.1=k then(kv.1,v) else kv) else Z++[(k,v)]
def Od{p:κ×V}(e:p.1=k):Pa (p::r) k=some p.2:=by simp[Pa,kj,e]
def Oe{p:κ×V}(e:¬p.1=k):Pa (p::r) k=Pa r k:=by simp[Pa,kj,e]
theorem Zy(k:κ):∀Z:List (κ×V),(Z.any λkv=>decide (kv.1=k))=(Pa Z k).isSome
 |[]=>rfl
 |p::r=>by
  rw[xq]
  by_cases e:p.1=k
  .simp only[Od e,vh e,Bool.true_or,Option.isSome_some]
  .rw[Oe e,sy e,Bool.false_or];exact Zy k r
def Qn(Z:List (κ×V))(k:κ)(v:V):(putK Z k v).length<=Z.length+1:=by
 unfold putK;split
 .rw[cz];exact x_
 .rw[iy,d9,List.length_nil];exact bc _
def Jh.agq(r:Jh o u):o.isSome=u.isSome:=by
 cases o with
 |none=>cases u with
  |none=>rfl|some _=>exact(show False from r).elim
 |some _=>cases u with
  |none=>exact(show False from r).elim
  |some _=>rfl
theorem Jh.getD(r:Jh o u)(Z:RelV d G):RelV (o.getD d) (u.getD G):=by
 cases o with
 |none=>cases u with
  |none=>exact Z|some _=>exact(show False from r).elim
 |some _=>cases u with
  |none=>exact(show False from r).elim
  |some _=>exact r
def KV.val(r:KV R U)(k:κ):Jh (Pa R k) (valueAt U k):=by
 unfold KV at r
 induction r with
 |nil=>exact True.intro
 |@cons p q ps qs h t ih =>
  obtain⟨G,h2⟩:=h
  by_cases e:p.1=k
  .have Z:q.1=k:=G.symm.trans e
   have b:valueAt (q::qs) k=some q.2:=by simp[valueAt,kj,Z]
   rw[Od e,b];exact h2
  .have Z:¬q.1=k:=λz=>e (G.trans z)
   have b:valueAt (q::qs) k=valueAt qs k:=by simp[valueAt,kj,Z]
   rw[Oe e,b];exact ih
theorem KV.any(r:KV G Z)(k:κ):(G.any λkv=>decide (kv.1=k))=Z.any λkv=>decide (kv.1=k):=by
 unfold KV at r
 induction r with
 |nil=>rfl|cons h t U=>rw[xq,xq,U,h.1]
def KV.aca(r:KV U G)(k:κ)(R:RelV y u) :
 KV (U.map λkv=>if kv.1=k then(kv.1,y) else kv) (G.map λkv=>if kv.1=k then(kv.1,u) else kv):=by
 unfold KV at r ⊢
 induction r with
 |nil=>exact .nil
 |@cons p q ps qs h t ih =>
  rw[dg,dg];refine .cons ?_ ih;obtain⟨Z,h2⟩:=h
  by_cases e:p.1=k
  .rw[bx e,bx (Z.symm.trans e)];exact⟨Z,R⟩
  .rw[bw e,bw (λz=>e (Z.trans z))];exact⟨Z,h2⟩
def KV.put(r:KV U Z)(k:κ)(G:RelV y u):KV (putK U k y) (stored Z k u):=by
 unfold putK stored;rw[r.any k]
 by_cases e:(Z.any λkv=>decide (kv.1=k))=true
 .rw[bx e,bx e];exact r.aca k G
 .rw[bw e,bw e];exact Paired.snoc r ⟨rfl,G⟩
theorem KV.length{G:List (κ×V)}{Z:List (κ×Value)}(r:KV G Z):G.length=Z.length:=Paired.length r
end
def aem(r:RelV (kV k) u):(yr P w).is k u=true:=by
 cases k with
 |inl i=>obtain⟨t,e⟩:=(show ∃t,u=Value.int i t from r);subst e;exact Zr P w i t
 |inr x=>obtain⟨t,e⟩:=(show ∃t,u=Value.str x t from r);subst e;exact Zt P w x t
theorem Vx{P:Program}{w:World}:∀{ks:List Key}{Z:Zl},Vals (ks.map kV) Z->ItemsAre (yr P w) ks Z
 |[],_,r=>by rw[List.map_nil] at r;cases r;exact .nil
 |k::ks,_,r=>by
  rw[dg] at r;cases r with
  |cons h t=>exact .cons (aem h) (Vx t)
abbrev KT(H:Hp):List (List Key×V)->List (List Key×Addr×Value)->Prop:=Paired λp q=>p.1=q.1/\H q.2.1=some (.tup (p.1.map kV))/\RelV p.2 q.2.2
def KT.val(r:KT H U R)(k:List Key):Jh (Pa U k) ((atKey R k).map (·.2)):=by
 induction r with
 |nil=>exact True.intro
 |@cons p q ps qs h t ih =>
  obtain⟨G,_,h2⟩:=h
  by_cases e:p.1=k
  .have Z:q.1=k:=G.symm.trans e
   have b:atKey (q::qs) k=some q.2:=by simp[atKey,kj,Z]
   rw[Od e,b];exact h2
  .have Z:¬q.1=k:=λz=>e (G.trans z)
   have b:atKey (q::qs) k=atKey qs k:=by simp[atKey,kj,Z]
   rw[Oe e,b];exact ih
def KT.aca(r:KT H U xs)(k:List Key)(R:RelV y u) :
 KT H (U.map λkv=>if kv.1=k then(kv.1,y) else kv) (xs.map (putAt k u)):=by
 induction r with
 |nil=>exact .nil
 |@cons p q ps qs h t ih =>
  rw[dg,dg];refine .cons ?_ ih;obtain⟨Z,G,h3⟩:=h;unfold putAt
  by_cases e:p.1=k
  .rw[bx e,bx (Z.symm.trans e)];exact⟨Z,G,R⟩
  .rw[bw e,bw (λz=>e (Z.trans z))];exact⟨Z,G,h3⟩
def KT.put(r:KT H G Z)(k:List Key)(R:H b=some (.tup (k.map kV)))(U:RelV y u) :
 KT H (putK G k y) (storedH Z k b u):=by
 have e:(G.any λkv=>decide (kv.1=k))=(atKey Z k).isSome:=by rw[Zy,(r.val k).agq,Option.isSome_map]
 unfold putK storedH;rw[e]
 by_cases q:(atKey Z k).isSome=true
 .rw[bx q,bx q];exact r.aca k U
 .rw[bw q,bw q];exact Paired.snoc r ⟨rfl,R,U⟩
def KT.keeps(r:KT H U xs)(G:∀b Z,H b=some (.tup Z)->R b=some (.tup Z)):KT R U xs :=
 Paired.at9 r λ_ _ z=>⟨z.1,G _ _ z.2.1,z.2.2⟩
def aru(ok:Ma P w H h)(e:Rd H a u):yw P w H h a u:=e.ok ok
def aen(ok:Ma P w H h)(e:Rd H a (.dK Z)):Z.length<=sizeLine/\(a==sysModules)=false/\∃vs,KV Z vs/\h.DictOf (yr P w) a vs :=
 show yw P w H h a (.dK Z) from aru ok e
def az7(ok:Ma P w H h)(e:H a=some (.dK Z)):Z.length<=sizeLine/\(a==sysModules)=false/\∃vs,KV Z vs/\h.DictOf (yr P w) a vs:=aen ok (.inl e)
def T6(ok:Ma P w H h)(e:H a=some (.tup (ks.map kV))):(tupleKind (yr P w)).is h ks a:=by obtain⟨_,R,r,o,U,G,n,Z,_⟩:=(show yw P w H h a (.tup (ks.map kV)) from ok a _ e);exact⟨o,R.toArray,n,U,G,Z,by simpa using Vx r⟩
def aeo(ok:Ma P w H h)(e:Rd H a (.dT G)):G.length<=sizeLine/\(a==sysModules)=false /\
 ∃xs,KT H G xs/\h.DictOfH (tupleKind (yr P w)) a xs:=by
 obtain⟨z,y,xs,r,o,U,R,h1,h2,h3,h4,h5⟩:=(show yw P w H h a (.dT G) from aru ok e);refine⟨z,y,xs,r,o,U,R,h1,h2,h3,h4,λx Z=>?_,h5⟩;have all:∀{l:List (List Key×V)}{m:List (List Key×Addr×Value)},KT H l m->∀x∈m,(tupleKind (yr P w)).is h x.1 x.2.1:=by
  intro l m q
  induction q with
  |nil=>intro x Z;exact nomatch Z
  |@cons p q ps qs hq t ih =>
   intro x Z;rcases cj.mp Z with e|Z
   .subst e
    exact T6 ok (by rw[<- hq.1];exact hq.2.1)
   .exact ih x Z
 exact all r x Z
def arv(ok:Ma P w H h)(e:H a=some (.dT Z)):Z.length<=sizeLine/\(a==sysModules)=false /\
 ∃xs,KT H Z xs/\h.DictOfH (tupleKind (yr P w)) a xs:=aeo ok (.inl e)
def acb(H:Hp)(a:Addr)(y:V)(r:Option V):Prop :=
 (∃Z k,Rd H a (.dK Z)/\y=kV k/\r=Pa Z k)\/∃Z k b,Rd H a (.dT Z)/\y=.ref b/\H b=some (.tup (k.map kV))/\r=Pa Z k
def ao3(H:Hp)(a:Addr)(y v:V)(G:Hp):Prop :=
 (∃Z k,H a=some (.dK Z)/\y=kV k/\Z.length<sizeLine/\G=upd H a (.dK (putK Z k v))) \/
 ∃Z k b,H a=some (.dT Z)/\y=.ref b/\H b=some (.tup (k.map kV))/\Z.length<sizeLine/\G=upd H a (.dT (putK Z k v))
def acb.t{k:List Key}(e:H a=some (.dT Z))(G:H b=some (.tup (k.map kV))):acb H a (.ref b) (Pa Z k):=.inr ⟨Z,k,b,.inl e,rfl,G,rfl⟩
def ao3.t{k:List Key}(e:H a=some (.dT Z))(U:H b=some (.tup (k.map kV)))(G:Z.length<sizeLine) :
 ao3 H a (.ref b) v (upd H a (.dT (putK Z k v))):=.inr ⟨Z,k,b,e,rfl,U,G,rfl⟩
def Inv.big(I:Inv X pins σ H s):sysModules<s.heap.objs.size:=by
 have h:mainGlobals<s.heap.objs.size:=(I.mod.glob.keeps I.bk).lt
 exact Nat.lt_trans (by decide) h
def agr(hu:A.units+1<cLine)(I:Inv X pins σ H s)(g:acb H a y (some v))(ry:RelV y u)(h:∀U s',Inv X pins σ H s'->RelV v U->Q U s') :
 wpAny (model X.prog X.w) A (getItem (.ref a) u) Q E s:=by
 rcases g with⟨ni,k,e,R,l⟩|⟨ni,k,b,e,R,eb,l⟩
 .subst R
  obtain⟨z,hd,vs,Z,dd⟩:=aen I.yp e;obtain⟨U,hw,G⟩:=Jh.some_of (v:=v) (o:=valueAt vs k) (by rw[l];exact Z.val k);exact wpAny_getItem_of (aem ry) dd.mapOf hw (h U _ (I.tok _) G)
 .subst R
  cases(show u=Value.ref b from ry);obtain⟨z,hd,xs,Z,dd⟩:=aeo I.yp e;obtain⟨U,hw,G⟩:=Jh.some_of (v:=v) (o:=(atKey xs k).map (·.2)) (by rw[l];exact Z.val k);obtain⟨p,hp,qq⟩:=bu.mp hw;refine wpAny_getItem_heap (tupleKind_room_in1 hu) (T6 I.yp eb) dd hp ?_;rw[qq];exact h U _ (I.tok _) G
def Xp(I:Inv X pins σ H s)(R:Mut (H a))(U:Heap.SameBut a s.heap Z)(he:∃q,Z.get? a=some q)(new:yw X.prog X.w (upd H a G) Z a G) :
 Inv X pins σ (upd H a G) { s with heap:=Z,toks:=t' } :=
 I.write (x:=a) (e:=a) R (.inl rfl) (λb q hb z=>(U.2 b hb).trans z) he new
def avb(z:U.length<=sizeLine)(hd:(a==sysModules)=false)(Z:KV U G)(dd:R.DictOf (yr P w) a G) :
 yw P w H' R a (.dK U):=⟨z,hd,G,Z,dd⟩
def ags(hu:A.units+1<cLine)(I:Inv X pins σ H s)(g:ao3 H a y v H')(ry:RelV y u)(rv:RelV v r)(h:∀s',Inv X pins σ H' s'->Q () s') :
 wpAny (model X.prog X.w) A (setItem (.ref a) u r) Q E s:=by
 rcases g with⟨U,k,e,ey,l,eH⟩|⟨U,k,b,e,ey,eb,l,eH⟩
 .subst ey eH
  obtain⟨z,hd,vs,Z,dd⟩:=az7 I.yp e;have hz:vs.length<=sizeLine:=by rw[<- Z.length];exact z
  have hl:(putK U k v).length<=sizeLine:=by have:=Qn U k v;exact a_ this l
  refine wpAny_setItem_pairs (hsz:=hz) (aem ry) dd λh' G hs=>h _ ?_
  have he:∃q,h'.get? a=some q:=let ⟨q,_,_,R,_⟩:=G;⟨q,R⟩;exact Xp I (by rw[e];exact True.intro) hs he (avb hl hd (Z.put k rv) G)
 .subst ey eH
  cases(show u=Value.ref b from ry);obtain⟨z,hd,xs,Z,dd⟩:=arv I.yp e;have hz:xs.length<=sizeLine:=by rw[<- Paired.length Z];exact z
  have hl:(putK U k v).length<=sizeLine:=by have:=Qn U k v;exact a_ this l
  refine wpAny_setItem_heap (hsz:=hz) (tupleKind_room_in1 hu) (T6 I.yp eb) dd λh' G hs=>h _ ?_
  obtain⟨q,es,ep,R,h2,h3,h4,_,h5⟩:=G;refine Xp I (by rw[e];exact True.intro) hs ⟨q,R⟩ ⟨hl,hd,_,(Z.put k eb rv).keeps λc ys ec=>?_,q,es,ep,R,h2,h3,h4,h5⟩;rw[j6 (Zu ec e (λz=>nomatch z))];exact ec
def Zz(I:Inv X pins σ H s)(g:acb H a y o):s.TypeIs (.ref a) "dict" := by
 rcases g with⟨G,k,e,_,_⟩|⟨G,k,b,e,_,_,_⟩
 .obtain⟨_,_,R,_,Z⟩:=aen I.yp e
  exact Z.typeIs
 .obtain⟨_,_,U,_,Z⟩:=aeo I.yp e
  exact Z.typeIs
def akm(h:Heap)(Z:sysModules<h.objs.size):yw P w H (h.push { cls:=.type "dict",data:=.dict #[] }) h.objs.size (.dT []) :=
 ⟨ig _,vg.mpr (jr (fu Z)),[],.nil,_,#[],0,bf _ rfl,⟨rfl,rfl,rfl⟩,rfl,rfl,List.nodup_nil⟩
def avc:TE:=λ_ H Q=>∀p,H p=none->Q (.ref p) (upd H p (.dT []))
def akn:PE X (.Dict [] [] pos) avc:=λZ s G H Q I h =>
 wpAny_Dict_empty ⟨.ref s.heap.objs.size,_,I.laid (a:=s.heap.objs.size) (o:=.dT []) (t':=s.toks) (λ_ _ q=>aq _ q) (bc _) (akm s.heap I.big),rfl,h _ (I.yp.fresh (bc _))⟩
def avd(hu:A.units+1<cLine)(I:Inv X pins σ H s)(g:acb H a y o)(ry:RelV y u)(rd:RelV d r)(h:∀w' s',Inv X pins σ H s'->RelV (o.getD d) w'->Q w' s') :
 wpAny (model X.prog X.w) A (call (.builtin "dict.get") [.ref a,u,r]) Q E s:=by
 rcases g with⟨ni,k,e,U,l⟩|⟨ni,k,b,e,U,eb,l⟩
 .subst U
  obtain⟨z,R,vs,Z,G⟩:=aen I.yp e;refine call_meetsIn PySem.F.slot_dict_get G.typeIs PySem.F.entry_dict_get (PySem.F.args_dict_get_3 _ _ _) (meets_dict_get_default (yr X.prog X.w) a (aem ry) R r) ⟨_,G.mapOf,h _ _ (I.tok _) ?_⟩;rw[l];exact(Z.val k).getD rd
 .subst U
  cases(show u=Value.ref b from ry);obtain⟨z,R,xs,Z,G⟩:=aeo I.yp e;refine call_meetsIn PySem.F.slot_dict_get G.typeIs PySem.F.entry_dict_get (PySem.F.args_dict_get_3 _ _ _) (meetsH_dict_get_default (tupleKind (yr X.prog X.w)) a b R r) ⟨tupleKind_room_in1 hu,k,xs,T6 I.yp eb,G,h _ _ (I.tok _) ?_⟩;rw[l];exact(Z.val k).getD rd
end L2
namespace HT
open PySem PyProof.Rows
def ao5(ht:IsTup s.heap t G.toArray)(hb:IsTup s.heap b U.toArray)(h0:G=[]->Q (.ref b) s)(h1:U=[]->Q (.ref t) s)(h2:G≠[]->U≠[]->Q (.ref s.heap.objs.size) { s with heap:=s.heap.push { cls:=.type "tuple",data:=.seq (G++U).toArray } })(q1:G.length+U.length<=sizeLine):wpAny (model prog w) A (binaryOp .Add (.ref t) (.ref b)) Q E s:=by
 obtain⟨⟨q3,dd,qv,sl⟩,ho,hc,n,hd⟩:=id ht;obtain⟨⟨q4,qq,q2,R⟩,Z,qk,n2,q0⟩:=id hb;simp only at hc hd qk q0;subst hc hd qk q0;have e:G.toArray++U.toArray=(G++U).toArray:=by simp
 by_cases hv:G=[]
 .exact concat_meets ⟨_,ho,rfl⟩ ⟨_,Z,rfl⟩ noFill_tuple_add seq_tuple_add PySem.F.slot_tuple_add PySem.F.entry_tuple_add (PySem.F.args_tuple_add_2 _ _)
   (tuple_addW0 t b G.toArray U.toArray n n2 dd qq sl R (by simp[hv])) ⟨ho,Z,h0 hv⟩
 by_cases hw:U=[]
 .exact concat_meets ⟨_,ho,rfl⟩ ⟨_,Z,rfl⟩ noFill_tuple_add seq_tuple_add PySem.F.slot_tuple_add PySem.F.entry_tuple_add (PySem.F.args_tuple_add_2 _ _)
   (tuple_addW1 t b G.toArray U.toArray n n2 dd qq sl R (by simpa using hv) (by simp[hw])) ⟨ho,Z,h1 hw⟩
 .refine concat_meets ⟨_,ho,rfl⟩ ⟨_,Z,rfl⟩ noFill_tuple_add seq_tuple_add PySem.F.slot_tuple_add PySem.F.entry_tuple_add (PySem.F.args_tuple_add_2 _ _)
   (tuple_addW2 t b G.toArray U.toArray n n2 dd qq sl R (by simpa using hv) (by simpa using hw) (by rw[dj,dj];exact q1)) ⟨ho,Z,?_⟩
  rw[e];exact h2 hv hw
noncomputable def Ed(n d:Nat):Option Int->Nat
 |none=>d|some v=>if v<0 then(v+(n:Int)).toNat else min v.toNat n
def ave(n d:Nat)(G:d<=n)(o:Option Int):Ed n d o<=n:=by
 cases o with
 |none=>exact G
 |some v =>
  show(if v<0 then(v+(n:Int)).toNat else min v.toNat n)<=n
  by_cases Z:v<0
  .rw[bx Z];lia
  .rw[bw Z];exact Nat.min_le_right _ _
def aep(v:Int)(n d:Nat):(if v<0 then max (v+(n:Int)) 0 else min v (n:Int))=((Ed n d (some v):Nat):Int):=by
 show(if v<0 then max (v+(n:Int)) 0 else min v (n:Int))=(((if v<0 then(v+(n:Int)).toNat else min v.toNat n):Nat):Int)
 by_cases Z:v<0
 .simp only[bx Z];lia
 .simp only[bw Z];lia
def acd(G Z:Option Int)(n:Nat):Builtin.Slice.sliceAdjust G Z 1 (n:Int)=(((Ed n 0 G:Nat):Int),((Ed n n Z:Nat):Int)):=by
 have U:¬((1:Int)<0):=by lia
 unfold Builtin.Slice.sliceAdjust;simp only[U,jf];refine Prod.ext ?_ ?_
 .cases G with
  |none=>rfl|some v=>exact aep v n 0
 .cases Z with
  |none=>rfl|some v=>exact aep v n n
def ace(i j:Nat):Builtin.Slice.slicePlaces (i:Int) (j:Int) 1=j-i:=by unfold Builtin.Slice.slicePlaces;have Z:(1:Int) > 0:=m_ (by decide);simp only[Z,jz,Int.ediv_one];split<;>lia
def T7(p:IsPart v o)(h:Q o s):wpAny (model prog w) A (Builtin.Slice.slicePartIndex v) Q E s:=by
 cases p with
 |none=>exact slicePart_none h|int i t=>exact slicePart_int h
def Pb{Z:Option Int}{n:Nat}(hs:s.heap.IsSliceOf sl vl vu .none)(pl:IsPart vl Z)(pu:IsPart vu R)(h:Q (((Ed n 0 Z:Nat):Int),1,Ed n n R-Ed n 0 Z) s):wpAny (model prog w) A (Builtin.Slice.sliceApplied (.ref sl) (pure (n:Int))) Q E s:=by obtain⟨os,G,qq,U⟩:=id hs;unfold Builtin.Slice.sliceApplied Builtin.Slice.sliceFields;refine aa (aa (gh G U (x:=vl) rfl (aa (gh G U (x:=vu) rfl (aa (gh G U (x:=.none) rfl (aj ?_)))))));refine aa (slicePart_none ?_);show wpAny _ _ (if((1:Int)==0)=true then _ else _) _ _ s;rw[bw (by decide)];refine aa (T7 pl (aa (T7 pu (aa (aj ?_)))));show wpAny _ _ (match Builtin.Slice.sliceAdjust Z R 1 (n:Int) with|(Z,R)=>pure (Z,(1:Int),Builtin.Slice.slicePlaces Z R 1)) _ _ s;rw[acd Z R n];show wpAny _ _ (pure (((Ed n 0 Z:Nat):Int),(1:Int),Builtin.Slice.slicePlaces ((Ed n 0 Z:Nat):Int) ((Ed n n R:Nat):Int) 1)) _ _ s;rw[ace];exact aj h
def ako(Z:Xt)(i k:Nat):((List.range k).filterMap λ(m:Nat)=>Z[((i:Int)+(m:Int)*1).toNat]?).toArray=((Z.toList.drop i).take k).toArray:=by
 have e:(λ(m:Nat)=>Z[((i:Int)+(m:Int)*1).toNat]?)=λm=>Z[i+m]?:=by
  funext m
  have:((i:Int)+(m:Int)*1).toNat=i+m:=by lia
  rw[this]
 rw[e];have:=pick_run Z i k;rw[List.filterMap_map] at this;have G:((λx=>Z[x]?) ∘ λx=>i+x)=λm=>Z[i+m]?:=rfl
 rw[G] at this;rw[this]
def Og{Z:Option Int}(ht:IsTup s.heap t items)(hs:s.heap.IsSliceOf sl vl vu .none)(pl:IsPart vl Z)(pu:IsPart vu R)(hw:Ed items.size 0 Z=0->Ed items.size items.size R=items.size->Q (.ref t) s)(h:Q (.ref s.heap.objs.size) { s with heap:=s.heap.push { cls:=.type "tuple",data:=.seq ((items.toList.drop (Ed items.size 0 Z)).take (Ed items.size items.size R-Ed items.size 0 Z)).toArray } })(q0:items.size<=sizeLine):wpAny (model prog w) A (getItem (.ref t) (.ref sl)) Q E s:=by
 have U:sizeOk (.seq ((items.toList.drop (Ed items.size 0 Z)).take (Ed items.size items.size R-Ed items.size 0 Z)).toArray):=by
  show((items.toList.drop (Ed items.size 0 Z)).take (Ed items.size items.size R-Ed items.size 0 Z)).toArray.size<=sizeLine
  rw[dj,List.length_take,List.length_drop,qg];omega
 have hj:Ed items.size items.size R<=items.size:=ave _ _ (bc _) R
 obtain⟨os,qq,qk,q4⟩:=id hs;have qv:s.TypeIs (.ref sl) "slice" := ⟨os,qq,qk⟩;unfold getItem
 try with_reducible refine jx ?_
 first|refine aa (aj ?_)|skip
 refine aa (wpAny_sequenceKey ht.typeIs (by decide) ?_);refine aa (jd (name:=Str.ofString "__getitem__") ht.typeIs ux
  (jm ux ht.typeIs entry_tuple_getitem ?_ (args_tuple_getitem _ _)))
 show wpAny _ _ (Builtin.Tuple.tupleItemsOf (.ref t) >>= _) _ _ s;refine aa (tupleItemsOf_ ht ?_);refine aa (wpAny_typeOf qv ?_);rw[bx (by decide)];refine aa (Pb hs pl pu ?_);show wpAny _ _ (if(((Ed items.size 0 Z:Nat):Int)==0&&(1:Int)==1&&(Ed items.size items.size R-Ed items.size 0 Z)==items.size)=true then _ else _) _ _ s
 by_cases G:(((Ed items.size 0 Z:Nat):Int)==0&&(1:Int)==1&&(Ed items.size items.size R-Ed items.size 0 Z)==items.size)=true
 .rw[bx G]
  rw[ao,ao] at G;have q1:((Ed items.size 0 Z:Nat):Int)=0:=eq_of_beq G.1.1;have q2:Ed items.size items.size R-Ed items.size 0 Z=items.size:=eq_of_beq G.2;have q3:=hw (by lia) (by lia);refine aa (m:=Builtin.Tuple.tupleIsExact (.ref t)) (aa (wpAny_typeOf ht.typeIs (aj ?_)));rw[bx (by decide)];exact aa (wpAny_rule (aj ⟨_,rfl,aj q3⟩))
 rw[bw G,ako]
 first
  |exact aa (m:=Builtin.Tuple.tupleExact _) (ju (aj ⟨_,rfl,aj h⟩) U)
  |exact aa (m:=Builtin.Tuple.tupleExact _) (ju (aa (aj (aj ⟨_,rfl,aj h⟩))) U)
  |exact aa (aa (m:=Builtin.Tuple.tupleExact _) (ju (aj (aj ⟨_,rfl,aj h⟩)) U))
  |exact aa (aa (m:=Builtin.Tuple.tupleExact _) (ju (aj ⟨_,rfl,aj h⟩) U))
end HT
namespace L2
open PySem PySem.Spec PyProof.Rows
abbrev TO:=St->Hp->(Option Int->Hp->Prop)->Prop
def PO(X:Cx)(e:Option Expr)(t:TO):Prop :=
 ∀(Z:Zp)(s:Shared)(G:St)(H:Hp)(Q:Option Int->Hp->Prop),Inv X Z G H s->t G H Q ->
  wpAny (model X.prog X.w) X.A (evalPart e X.env) (λu R=>∃o U,Inv X Z G U R/\IsPart u o/\Q o U) X.xe s
def ao7:TO:=λ_ H Q=>Q none H
def az9(t:TE):TO:=λG H Q=>t G H λx Z=>∃i,x=.int i/\Q (some i) Z
def ao8:PO X none ao7:=by intro Z s G H Q I h;rw[evalPart_none];exact aj ⟨none,H,I,.none,h⟩
def ao9(h:PE X e te):PO X (some e) (az9 te):=by
 intro Z s R H Q I hw;rw[evalPart_some];refine zg (h Z s R H _ I hw) λu s1 z_=>?_
 obtain⟨x,H1,G,U,q1⟩:=z_;obtain⟨i,rfl,q⟩:=q1;obtain⟨t,rfl⟩:=U;exact⟨some i,H1,G,.int i t,q⟩
def SlR(X:Cx)(r:V->Option Int->Option Int->Hp->VK->Prop):Prop :=
 ∀(Z:Zp)(s:Shared)(G:St)(H:Hp)(x:V)(v vl vu:Value)(R hi:Option Int)(U:Addr)(Q:VK),Inv X Z G H s->RelV x v->s.heap.IsSliceOf U vl vu .none->IsPart vl R->IsPart vu hi->r x R hi H Q ->
  ∃T id,typeLookup (.type T) "__getitem__" = pure (some (.builtin id))/\s.TypeIs v T/\wpAny (model X.prog X.w) X.A (getItem v (.ref U)) (EP X Z G Q) X.xe s
def SlR.or(h:SlR X r)(h':SlR X r'):SlR X (λx G U H Q=>r x G U H Q\/r' x G U H Q):=by
 intro Z s σ H x v vl vu G U R Q I rx hs pl pu q;rcases q with q|q
 .exact h Z s σ H x v vl vu G U R Q I rx hs pl pu q
 .exact h' Z s σ H x v vl vu G U R Q I rx hs pl pu q
def tSl(r:V->Option Int->Option Int->Hp->VK->Prop)(U:TE)(tl th:TO):TE:=λZ H Q=>U Z H λx R=>tl Z R λl G=>th Z G λu H3=>r x l u H3 Q
def akp{lo:Option Expr}(hr:SlR X r)(he:PE X e te)(hl:PO X lo tl)(hu:PO X hi th):PE X (.Subscript e (.Slice lo hi none p2) pos) (tSl r te tl th):=by
 intro Z s U H Q I h;refine Subscript_ (zg (he Z s U H _ I h) λv s1 z_=>?_);obtain⟨x,H1,I1,r1,q1⟩:=z_;refine wpAny_Slice (zg (hl Z s1 U H1 _ I1 q1) λvl s2 ⟨l,H2,I2,pl,q2⟩=>zg (hu Z s2 U H2 _ I2 q2) λR G z_=>?_);obtain⟨u,H3,I3,pu,q3⟩:=z_;rw[evalPart_none];refine aj ?_;have I4:Inv X Z U H3 { G with heap:=G.heap.push { cls:=.type "slice",data:=.fields #[vl,R,.none] } }:=I3.kept (t':=G.toks) λb ob q=>aq _ q
 obtain⟨T,id,hT,ht,hg⟩:=hr Z { G with heap:=G.heap.push { cls:=.type "slice",data:=.fields #[vl,R,.none] } } U H3 x v vl R l u G.heap.objs.size Q I4 r1 (Heap.IsSliceOf.new ..) pl pu q3;show wpAny (model X.prog X.w) X.A (subscriptTail e (.Slice lo hi none p2) v (.ref G.heap.objs.size)) (EP X Z U Q) X.xe { G with heap:=G.heap.push { cls:=.type "slice",data:=.fields #[vl,R,.none] } };exact tail_any (ops:=[.ref G.heap.objs.size,v]) ht hT hg (by with_unfolding_all rfl)
def Qz(Z:List V)(G U:Option Int):List V:=(Z.drop (HT.Ed Z.length 0 G)).take (HT.Ed Z.length Z.length U-HT.Ed Z.length 0 G)
def Qo(Z:List V)(U G:Option Int):(Qz Z U G).length<=Z.length:=by
 unfold Qz;rw[List.length_take,List.length_drop]
 lia
def a7r(K:Fg):V->Option Int->Option Int->Hp->VK->Prop:=λx U G H Q=>∃a Z,x=.ref a/\Fb K H a Z /\
 (HT.Ed Z.length 0 U=0->HT.Ed Z.length Z.length G=Z.length->Q (.ref a) H)/\∀p,H p=none->Q (.ref p) (upd H p (.tup (Qz Z U G)))
def avf:SlR X (a7r X.K):=by
 intro qq s σ H x v vl vu U R sl Q I rx hs pl pu h;obtain⟨a,G,rfl,hx,hw,q⟩:=h;cases rx;obtain⟨rn,r,ht,hz⟩:=I.tuple hx;have Z:rn.toArray.size=G.length:=by rw[dj];exact r.length.symm
 refine⟨"tuple",_,ux.lookup,ht.typeIs,?_⟩;refine HT.Og ht hs pl pu (by rw[Z];exact λz1 z2=>⟨.ref a,H,I,rfl,hw z1 z2⟩) ?_ (by rw[Z];exact hz);rw[Z];refine⟨.ref s.heap.objs.size,_,I.laid (t':=s.toks) (o:=.tup (Qz G U R)) (λb ob q=>aq _ q) (bc _) ?_,rfl,q _ (I.yp.fresh (bc _))⟩;exact⟨bj (Qo G U R) hz,_,(r.drop (HT.Ed G.length 0 U)).take (HT.Ed G.length G.length R-HT.Ed G.length 0 U),U0.new _ _⟩
def a0a(K:Fg):R2:=λx y H Q=>∃a b Z G,x=.ref a/\y=.ref b/\Fb K H a Z/\Fb K H b G/\Z.length+G.length<=sizeLine /\
 (Z=[]->Q (.ref b) H)/\(G=[]->Q (.ref a) H)/\(∀p,H p=none->Q (.ref p) (upd H p (.tup (Z++G))))
def Vals.aer(r:Vals Z G):G=[]↔Z=[]:=by
 cases r with
 |nil=>simp|cons _ _=>simp
def apa:Az X (binaryOp .Add) (a0a X.K):=by intro R s σ H x y v u Q I rx ry h;obtain⟨a,b,xs,ys,rfl,rfl,ha,hb,U,q0,q1,q2⟩:=h;cases rx;cases ry;obtain⟨rn,Z,p1,_⟩:=I.tuple ha;obtain⟨Z0,G,p2,_⟩:=I.tuple hb;refine HT.ao5 p1 p2 (λz=>⟨.ref b,H,I,rfl,q0 (Z.aer.mp z)⟩) (λz=>⟨.ref a,H,I,rfl,q1 (G.aer.mp z)⟩) (λ_ _=>?_) (by rw[<- Z.length,<- G.length];exact U);refine⟨.ref s.heap.objs.size,_,I.laid (t':=s.toks) (o:=.tup (xs++ys)) (λb ob q=>aq _ q) (bc _) ?_,rfl,q2 _ (I.yp.fresh (bc _))⟩;exact⟨by rw[iy];exact U,_,Z.append G,U0.new _ _⟩
end L2
namespace L2
open PySem PySem.Spec PyProof.Rows
noncomputable def ixN(n:Nat)(i:Int):Option Nat:=if 0<=i then(if i<n then some i.toNat else none) else if -(n:Int)<=i then some (i+n).toNat else none
def Dd{α:Type}(Z:List α)(i:Int):Option α:=(ixN Z.length i).bind λj=>Z[j]?
def aes(h:ixN n i=some j):seqIndex? i n=some j/\j<n/\-(n:Int)<=i/\i<n:=by
 unfold ixN at h
 by_cases G:0<=i
 .rw[bx G] at h
  by_cases Z:i<n
  .rw[bx Z] at h
   have e:i.toNat=j:=gq h;exact⟨by rw[seqIndex_of G Z,e],by lia,by lia,Z⟩
  .rw[bw Z] at h;cases h
 .rw[bw G] at h
  by_cases Z:-(n:Int)<=i
  .rw[bx Z] at h
   have e:(i+n).toNat=j:=gq h;exact⟨by rw[seqIndex_neg (by lia) Z,e],by lia,Z,by lia⟩
  .rw[bw Z] at h;cases h
def N5(h:Dd Z i=some v):∃j,seqIndex? i Z.length=some j/\Z[j]?=some v/\j<Z.length/\-(Z.length:Int)<=i/\i<Z.length:=by
 unfold Dd at h;cases e:ixN Z.length i with
 |none=>rw[e] at h;cases h
 |some j =>
  rw[e] at h;obtain⟨U,h2,G,R⟩:=aes e;exact⟨j,U,h,h2,G,R⟩
def Xq(b:Expr):Prop:=∀o i,subscripted b false o i=operate [o,i] (getItem o i)
def IxR(X:Cx)(r:R2):Prop :=
 ∀(U Z:Expr)(G:Zp)(s:Shared)(R:St)(H:Hp)(x y:V)(v u:Value)(Q:VK),Inv X G R H s->RelV x v->RelV y u->r x y H Q ->
  subscripted Z false v u=operate [v,u] (getItem v u)->wpAny (model X.prog X.w) X.A (subscriptTail U Z v u) (EP X G R Q) X.xe s
def MtR(X:Cx)(id:String)(r:V->List V->Hp->VK->Prop):Prop :=
 ∀(Z:Zp)(s:Shared)(U:St)(H:Hp)(x:V)(G:List V)(v:Value)(R:Zl)(Q:VK),Inv X Z U H s->RelV x v->Vals G R->r x G H Q ->
  wpAny (model X.prog X.w) X.A (call (.builtin id) (v::R)) (EP X Z U Q) X.xe s
def a0c(hr:IxR X r)(ha:PE X a ta)(hb:PE X b tb)(hs:Xq b):PE X (.Subscript a b pos) (tOp r ta tb):=by intro Z s R H Q I h;exact Subscript_ (auw ha hb I h λv u s2 x y U G rx ry q=>hr a b Z s2 R U x y v u Q G rx ry q (hs _ _))
def a7s(K:Fg):R2:=λx y H Q=>∃p Z i v,x=.ref p/\y=.int i/\Ec K H p Z/\Dd Z i=some v/\Q v H
def a7t(K:Fg):R2:=λx y H Q=>∃p Z i v,x=.ref p/\y=.int i/\Fb K H p Z/\Dd Z i=some v/\Q v H
def Bc:IxR X (a7s X.K):=by
 intro qk qq Z s σ H x y v u Q I rx ry h hs;obtain⟨p,xs,i,z,rfl,rfl,hq,he,q⟩:=h;cases rx;obtain⟨t,rfl⟩:=ry;obtain⟨rn,r,pl,hz⟩:=I.list hq;obtain⟨j,G,h2,h3,h4,h5⟩:=N5 he;obtain⟨w,ew,R⟩:=r.get h2;have hl:=r.length;have hn:=T3;have fin:EP X Z σ Q w s:=⟨z,H,I,R,q⟩
 by_cases h0:0<=i
 .have U:i.toNat=j:=by
   rw[seqIndex_of h0 h5] at G;exact gq G
  exact item_listR pl.isList h0 (by lia) (by rw[U];simpa using ew) fin hs
 .have U:(i+(rn.toArray.size:Int)).toNat=j:=by
   rw[seqIndex_neg (by lia) h4] at G;rw[dj,<- hl];exact gq G
  exact subscriptTail_builtinR (x:=w) pl.isList.typeIs slot_list_getitem.lookup
   (wpAny_getItem_list_neg (Q:=λr s'=>r=w/\EP X Z σ Q r s') pl.isList (by lia) (by rw[dj]<;>lia) (by lia) (by rw[U];simpa using ew) ⟨rfl,fin⟩) hs
def Jp:IxR X (a7t X.K):=by
 intro R U Z s σ H x y v u Q I rx ry h hs;obtain⟨p,xs,i,z,rfl,rfl,hq,he,q⟩:=h;cases rx;obtain⟨t,rfl⟩:=ry;obtain⟨rn,r,pl,hz⟩:=I.tuple hq;obtain⟨j,h1,h2,h3,h4,h5⟩:=N5 he;obtain⟨w,ew,G⟩:=r.get h2;have hl:=r.length;have hn:=T3;have fin:EP X Z σ Q w s:=⟨z,H,I,G,q⟩;exact subscriptTail_builtinR (x:=w) pl.typeIs slot_tuple_getitem.lookup
  (getItem_tuple (j:=j) (Q:=λr s'=>r=w/\EP X Z σ Q r s') pl (by lia) (by lia) (by rw[dj,<- hl];exact h1) (by simpa using ew) ⟨rfl,fin⟩) hs
def acf(Z:Zl)(n j:Nat)(u:Value):Obj.mapSeq (·.setIfInBounds j u) { cls:=.type "list",data:=.seq Z.toArray n }={ cls:=.type "list",data:=.seq (Z.set j u).toArray n }:=by simp[Obj.mapSeq]
theorem Inv.lst{X:Cx}{Z:Zp}{R:St}{H:Hp}{s:Shared}{p:Addr}{U:List V}(I:Inv X Z R H s)(h:H p=some (.lst U)) :
 ∃(G:Zl)(n:Nat),Vals U G/\s.heap.get? p=some { cls:=.type "list",data:=.seq G.toArray n }/\U.length<=sizeLine:=by
 obtain⟨z,G,n,r,e⟩:=I.yp p _ h;exact⟨G,n,r,e,z⟩
def Inv.avi{R:Zl}(I:Inv X pins σ H s)(h:H p=some (.lst xs))(ho:s.heap.get? p=some { cls:=.type "list",data:=.seq R.toArray n })(U:f { cls:=.type "list",data:=.seq R.toArray n }={ cls:=.type "list",data:=.seq its'.toArray Z })(r:Vals G its')(hz:G.length<=sizeLine)(t:Nat) :
 Inv X pins σ (upd H p (.lst G)) { s with heap:=s.heap.update p f,toks:=t }:=by
 have e:(s.heap.update p f).get? p=some { cls:=.type "list",data:=.seq its'.toArray Z }:=by rw[km f ho (by rw[U]<;>rfl),U]
 refine I.write (x:=p) (e:=p) (by rw[h];trivial) (.inl rfl) (λb u hb q=>(Heap.get?_update_other _ _ (jr hb)).trans q) ⟨_,e⟩ ?_;exact⟨hz,its',Z,r,e⟩
def a0d:V->V->V->Hp->(Hp->Prop)->Prop:=λo i v H Q=>∃p Z k j,o=.ref p/\i=.int k/\H p=some (.lst Z)/\ixN Z.length k=some j/\Q (upd H p (.lst (Z.set j v)))
def set_list:aup X a0d:=by
 intro Z s σ H o i v ov iv u Q I ro ri rv h;obtain⟨p,xs,k,j,rfl,rfl,hp,hj,q⟩:=h;cases ro;obtain⟨t,rfl⟩:=ri;obtain⟨rn,n,r,U,hz⟩:=I.lst hp;obtain⟨G,h2,h3,h4⟩:=aes hj;have R:=r.length;have hn:=T3;have I':Inv X Z σ (upd H p (.lst (xs.set j v))) { s with heap:=s.heap.update p (Obj.mapSeq (·.setIfInBounds j u)) } :=
  I.avi hp U (acf rn n j u) (r.set rv j) (by rw[yd];exact hz) s.toks
 by_cases h0:0<=k
 .have hk:k.toNat=j:=by
   rw[seqIndex_of h0 h4] at G;exact gq G
  exact PySem.W.ki_setAt U h0 (by lia) (by rw[dj,<- R];exact h4) (by rw[hk];exact⟨_,I',q⟩)
 .have hk:(k+(rn.toArray.size:Int)).toNat=j:=by
   rw[seqIndex_neg (by lia) h3] at G;rw[dj,<- R];exact gq G
  exact PySem.W.ki_setBack U (by lia) (by rw[dj,<- R];exact h3) (by lia) (by rw[hk];exact⟨_,I',q⟩)
def Xr(G Z:Option Int)(n:Nat):(sliceBounds G Z none n).1=((HT.Ed n 0 G:Nat):Int)/\(sliceBounds G Z none n).2.1=((HT.Ed n n Z:Nat):Int)/\(sliceBounds G Z none n).2.2=1:=by
 refine⟨?_,?_,rfl⟩
 .cases G with
  |none=>simp[sliceBounds,HT.Ed]
  |some i =>
   simp only[sliceBounds,HT.Ed,Option.getD_none,show(1:Int) > 0 by decide,jz]
   by_cases h:i<0
   .simp only[h,jz]<;>lia
   .simp only[h,jf]<;>lia
 .cases Z with
  |none=>simp[sliceBounds,HT.Ed]
  |some i =>
   simp only[sliceBounds,HT.Ed,Option.getD_none,show(1:Int) > 0 by decide,jz]
   by_cases h:i<0
   .simp only[h,jz]<;>lia
   .simp only[h,jf]<;>lia
def U4(Z:Zl)(G U:Option Int):slicePick Z.toArray G U none=((Z.drop (HT.Ed Z.length 0 G)).take (HT.Ed Z.length Z.length U-HT.Ed Z.length 0 G)).toArray:=by obtain⟨h1,h2,R⟩:=Xr G U Z.toArray.size;unfold slicePick;rw[h1,h2,R];simp only[sliceRange_one,pick_run,dj]<;>rfl
def a0e(K:Fg):V->Option Int->Option Int->Hp->VK->Prop:=λx U G H Q=>∃a Z,x=.ref a/\Ec K H a Z/\∀p,H p=none->Q (.ref p) (upd H p (.lst (Qz Z U G)))
def apb:SlR X (a0e X.K):=by intro qq s σ H x v vl vu U R sl Q I rx hs pl pu h;obtain⟨a,G,rfl,hx,q⟩:=h;cases rx;obtain⟨rn,r,ht,hz⟩:=I.list hx;have Z:=r.length;refine⟨"list",_,slot_list_getitem.lookup,ht.isList.typeIs,?_⟩;refine wpAny_getItem_list_slice ht.isList hs pl pu .none (by simp) ?_ (by rw[dj]<;>exact a_ (g_ Z) hz);rw[U4,<- Z];refine⟨.ref s.heap.objs.size,_,I.laid (t':=s.toks) (o:=.lst (Qz G U R)) (λb ob q=>aq _ q) (bc _) ?_,rfl,q _ (I.yp.fresh (bc _))⟩;exact⟨bj (Qo G U R) hz,_,0,(r.drop (HT.Ed G.length 0 U)).take (HT.Ed G.length G.length R-HT.Ed G.length 0 U),bf _ rfl⟩
def Xu:Ab X (.builtin "len") (λxs H Q=>∃p G,xs=[.ref p]/\(Ec X.K H p G\/Fb X.K H p G)/\Q (.int G.length) H):=by
 intro qq s σ H xs us Q I r h;obtain⟨p,G,rfl,U,q⟩:=h;obtain⟨u,rfl,rx⟩:=vals1 r;cases rx;have hn:=T3;rcases U with U|U
 .obtain⟨rn,R,pl,hz⟩:=I.list U
  have Z:=R.length;exact Calls.call_len_list pl.isList (by simp only[dj]<;>lia) ⟨.int G.length,H,I.tok _,⟨s.toks+1,by rw[dj,Z]⟩,q⟩
 .obtain⟨rn,R,pl,hz⟩:=I.tuple U
  have Z:=R.length;exact len_tuple pl (by simp only[dj]<;>lia) ⟨.int G.length,H,I.tok _,⟨s.toks+1,by rw[dj,Z]⟩,q⟩
def Xv:Ab X (.type "list") (λxs H Q=>∃p ys,xs=[.ref p]/\(Ec X.K H p ys\/Fb X.K H p ys)/\∀l,H l=none->Q (.ref l) (upd H l (.lst ys))):=by
 intro qq s σ H xs us Q I r h;obtain⟨p,ys,rfl,hq,q⟩:=h;obtain⟨u,rfl,rx⟩:=vals1 r;cases rx;have fin:∀(U:Zl),Vals ys U->ys.length<=sizeLine->∀(G:Heap)(c':Nat),(∀b o',s.heap.get? b=some o'->G.get? b=some o') ->
  G.get? s.heap.objs.size=some { cls:=.type "list",dict:=none,data:=.seq U.toArray c',slots:=#[] }->EP X qq σ Q (.ref s.heap.objs.size) { s with heap:=G }:=λU r' R G c' kp e =>
  ⟨.ref s.heap.objs.size,_,I.laid (t':=s.toks) kp (bc _) (show yw X.prog X.w _ G _ (.lst ys) from⟨R,U,c',r',e⟩),rfl,q _ (I.yp.fresh (bc _))⟩
 rcases hq with hq|hq
 .obtain⟨U,r',pl,R⟩:=I.list hq
  have Z:=r'.length;obtain⟨o,ho,hc,n,hd⟩:=pl.isList;exact call_list_seq p (.inl rfl) ho hc hd (λG c' kp e=>fin U r' R G c' kp e) (by simp only[dj]<;>exact a_ (g_ Z) R)
 .obtain⟨U,r',pl,R⟩:=I.tuple hq
  have Z:=r'.length;obtain⟨o,ho,hc,n,hd⟩:=pl;exact call_list_seq p (.inr rfl) ho hc hd (λG c' kp e=>fin U r' R G c' kp e) (by simp only[dj]<;>exact a_ (g_ Z) R)
def U5:Ab X (.type "tuple") (λxs H Q=>∃p G,xs=[.ref p]/\((Ec X.K H p G/\∀l,H l=none->Q (.ref l) (upd H l (.tup G)))\/(Fb X.K H p G/\Q (.ref p) H))):=by
 intro Z s σ H xs us Q I r h;obtain⟨p,G,rfl,h⟩:=h;obtain⟨u,rfl,rx⟩:=vals1 r;cases rx;rcases h with⟨hq,q⟩|⟨hq,q⟩
 .obtain⟨rn,r',pl,hz⟩:=I.list hq
  have U:=r'.length;refine call_tuple_list pl.isList (λR kp=>?_) (by simp only[dj]<;>exact a_ (g_ U) hz);have I1:Inv X Z σ H { s with heap:=R }:=I.kept (t':=s.toks) kp;have I2:Inv X Z σ (upd H R.objs.size (.tup G)) { s with heap:=R.push { cls:=.type "tuple",data:=.seq rn.toArray } } :=
   I1.laid (t':=s.toks) (λb o e=>aq _ e) (bc _) (show yw X.prog X.w _ _ _ (.tup G) from⟨hz,rn,r',U0.new _ _⟩)
  exact⟨.ref R.objs.size,_,I2,rfl,q _ (I1.yp.fresh (bc _))⟩
 .obtain⟨rn,r',pl,hz⟩:=I.tuple hq
  exact call_tuple_same pl ⟨.ref p,H,I,rfl,q⟩
def tyV(K:Fg)(T:String)(x:V)(H:Hp):Prop:=match x with
 |.str _=>T = "str"|.int _=>T = "int"
 |.ref p=>(T = "list"/\∃G,Ec K H p G)\/(T = "tuple"/\∃o,K.lookup p=some o/\o.cls=.type "tuple"/\o.dict=none) \/
  (T = "dict"/\((∃Z,H p=some (.dK Z))\/∃Z,H p=some (.dT Z)))\/(T = "set"/\∃S n,H p=some (.set S n))
 |_=>False
def avj(I:Inv X pins σ H s)(r:RelV x v)(U:tyV X.K T x H) :
 s.TypeIs v T/\∀a,v=.ref a->∃ob,s.heap.get? a=some ob/\ob.dict=none:=by
 cases x with
 |str z =>
  obtain⟨t,rfl⟩:=r;cases(show T = "str" from U);exact⟨typeIs_str s z t,λ_ e=>nomatch e⟩
 |int i =>
  obtain⟨t,rfl⟩:=r;cases(show T = "int" from U);exact⟨typeIs_int s i t,λ_ e=>nomatch e⟩
 |ref p =>
  cases r;rcases U with⟨rfl,xs,hq⟩|⟨rfl,o,Z,hc,R⟩|⟨rfl,Z⟩|⟨rfl,S,n,Z⟩
  .obtain⟨rn,_,pl,_⟩:=I.list hq
   refine⟨pl.isList.typeIs,λa e=>?_⟩;cases e;obtain⟨o,n,e,c,R,_⟩:=pl;exact⟨o,e,R⟩
  .refine⟨⟨o,I.kIn p o Z,hc⟩,λa e=>?_⟩
   cases e;exact⟨o,I.kIn _ o Z,R⟩
  .have z:∃o,s.heap.get? p=some o/\o.ExactDict:=by
    rcases Z with⟨ni,Z⟩|⟨ni,Z⟩
    .obtain⟨_,_,_,_,o,_,_,e,G,_⟩:=I.yp p _ Z
     exact⟨o,e,G⟩
    .obtain⟨_,_,_,_,o,_,_,e,G,_⟩:=I.yp p _ Z
     exact⟨o,e,G⟩
   obtain⟨o,e,G⟩:=z;refine⟨⟨o,e,G.1⟩,λa e2=>?_⟩;cases e2;exact⟨o,e,G.2.1⟩
  .obtain⟨o,_,_,_,e,G,_⟩:=I.yp p _ Z
   refine⟨⟨o,e,G.1⟩,λa e2=>?_⟩;cases e2;exact⟨o,e,G.2.1⟩
 |_=>exact False.elim U
def tBM(K:Fg)(T:String)(r:V->List V->Hp->VK->Prop)(to:TE)(t:TA):TE:=λZ H Q=>to Z H λx G=>tyV K T x G/\t Z G λR U=>r x R U Q
theorem a0g{id:String}(pa:PlainAttrs T)(U:Slot T name id)(qk:typeOf (.builtin id)=pure (.type "method_descriptor"))(hm:MtR X id r)(ho:PE X o to)(ha:PA X (e::es) t)(Z3:attributeBase o name X.env (eval o X.env)=eval o X.env:=by rfl)(R:((backTo G (starEach (e::es) X.env)).all (λx=>!x.1)&&(backToKw G (keywordEach [] X.env)).all (λx=>x.1.isSome)
&&decide ((e::es).length+([]:List Keyword).length+(if([]:List Keyword).isEmpty then 0 else 1)<30))=true:=by rfl)(Z4:(apos.endLine==G.line)=true:=by rfl)(hs:starEach (e::es) X.env=(false,eval e X.env)::starEach es X.env:=by rfl)(qq:(backTo G (starEach es X.env)).any (·.1)=false:=by rfl) :
 PE X (.Call (.Attribute o name apos) (e::es) [] G) (tBM X.K T r to t):=by
 intro Z s σ H Q I h;refine wpAny_Call_method_late Z3 R Z4 rfl (zg (ho Z s σ H _ I h) λv s1 z_=>?_);obtain⟨x,H1,I1,r1,ty,q1⟩:=z_;obtain⟨h1,h2⟩:=avj I1 r1 ty;refine⟨T,id,pa,U,qk,h1,h2,?_⟩;have hA:=ha G Z s1 σ H1 _ I1 q1;rw[hs] at hA ⊢;refine Calls.callWith_builtin (by show(false||(backTo G (starEach es X.env)).any (·.1))=false;rw[qq]<;>rfl) (Calls.evalArgs_plain ?_);exact zg hA λus s2 ⟨vs,H2,I2,r2,q2⟩=>hm Z s2 σ H2 x vs v us Q I2 r1 r2 q2
end L2
namespace L2
open PySem PySem.Spec PyProof.Rows
def MtM(X:Cx)(id:String)(r:V->List V->Hp->VK->Prop):Prop :=
 ∀(Z:Zp)(s:Shared)(U:St)(H:Hp)(x:V)(G:List V)(v:Value)(R:Zl)(Q:VK),Inv X Z U H s->RelV x v->Vals G R->r x G H Q ->
  wpAny (model X.prog X.w) X.A (call (.builtin id) (v::R)) (EP X Z U Q) X.xe s
theorem Vals.one:∀{x:V}{Z:Zl},Vals [x] Z->∃u,Z=[u]/\RelV x u
 |_,_,.cons r .nil=>⟨_,rfl,r⟩
def Inv.a0h{G:Zl}(I:Inv X pins σ H s)(hH:H l=some (.lst xs))(e:s.heap.get? l=some { cls:=.type "list",data:=.seq G.toArray n })(hf:f G.toArray=its'.toArray)(hv:Vals Z its')(U:Z.length<=sizeLine) :
 Inv X pins σ (upd H l (.lst Z)) { s with heap:=s.heap.update l (Obj.mapSeq f),toks:=t' }:=by
 have q:=PySem.IsL.update e f;rw[hf] at q;refine I.write (x:=l) (e:=l) (by rw[hH];exact trivial) (.inl rfl) (λb' u hb R=>(Heap.get?_update_other s.heap (Obj.mapSeq f) (jr hb)).trans R) ⟨_,q⟩ ?_;exact⟨U,its',_,hv,q⟩
def Inv.a7v(I:Inv X pins σ H s)(R:Vals Z G)(U:Z.length<=sizeLine) :
 Inv X pins σ (upd H s.heap.objs.size (.lst Z)) { s with heap:=s.heap.push { cls:=.type "list",data:=.seq G.toArray },toks:=t' } :=
 I.laid (λ_ _ q=>aq _ q) (bc _) ⟨U,G,0,R,bf _ rfl⟩
theorem Inv.fresh(I:Inv X pins σ H s):H s.heap.objs.size=none:=I.yp.fresh (bc _)
def Inv.agt(I:Inv X pins σ H s)(U:H l=some (.lst G)):G.length<=sizeLine/\∃(Z:Zl)(n:Nat),Vals G Z/\G.length=Z.length/\s.heap.get? l=some { cls:=.type "list",data:=.seq Z.toArray n }:=by obtain⟨z,Z,n,r,e⟩:=I.yp l _ U;exact⟨z,Z,n,r,r.length,e⟩
def akq(h:n<=sizeLine):Builtin.List.listTooLong n=false:=by unfold Builtin.List.listTooLong;exact sy (j_ h)
def apc:V->List V->Hp->VK->Prop:=λx G H Q=>∃l Z y,x=.ref l/\G=[y]/\H l=some (.lst Z)/\Z.length<sizeLine/\Q .non (upd H l (.lst (Z++[y])))
def Vy:MtM X "list.append" apc:=by intro G s σ H x vs v us Q I rx rv h;obtain⟨l,xs,y,rfl,rfl,U,Z,q⟩:=h;cases rx;obtain⟨u,rfl,ru⟩:=rv.one;obtain⟨z,R,n,r,hl,e⟩:=I.agt U;refine call_meets F.slot_list_append ⟨_,e,rfl⟩ F.entry_list_append (F.args_list_append_2 _ _) (PySem.list_append l R.toArray n u (by rw[dj];exact e_ (c_ (g_ hl) Z))) ⟨e,?_⟩;refine⟨.non,_,I.a0h (its':=R++[u]) U e (by simp) (r.append (.cons ru .nil)) ?_,rfl,q⟩;rw[iy,List.length_singleton];exact Z
def apd:V->List V->Hp->VK->Prop:=λx U H Q=>∃l b Z G,x=.ref l/\U=[.ref b]/\H l=some (.lst Z)/\H b=some (.lst G)/\Z.length+G.length<=sizeLine/\Q .non (upd H l (.lst (Z++G)))
def agu:MtM X "list.extend" apd:=by
 intro qq s σ H x vs v us Q I rx rv h;obtain⟨l,b,xs,zs,rfl,rfl,hH,hB,hz,q⟩:=h;cases rx;obtain⟨u,rfl,ru⟩:=rv.one;cases ru;obtain⟨z,G,n,r,hl,e⟩:=I.agt hH;obtain⟨z2,U,n2,r2,qk,e2⟩:=I.agt hB;have Z:G.toArray.size+U.toArray.size<=sizeLine:=by rw[dj,dj];lia
 have R:¬(!G.toArray.isEmpty&&Builtin.List.listTooLong (G.toArray.size+U.toArray.size))=true:=by rw[akq Z,Bool.and_false];exact ie
 refine call_meets F.slot_list_extend ⟨_,e,rfl⟩ F.entry_list_extend (F.args_list_extend_2 _ _)
  (AutoSeq1.list_extend_list_list_0 l G.toArray n b U.toArray n2 R (by rw[dj];exact a_ (g_ hl) z) (a_ Z x_)) ⟨e,e2,?_⟩
 refine⟨.non,_,I.a0h (its':=G++U) hH e (by simp) (r.append r2) ?_,rfl,q⟩;rw[iy];exact hz
def a0j:R2:=λx y H Q=>∃l b Z G,x=.ref l/\y=.ref b/\H l=some (.lst Z)/\H b=some (.lst G)/\Z.length+G.length<=sizeLine/\∀p,H p=none->Q (.ref p) (upd H p (.lst (Z++G)))
def avl:Az X (binaryOp .Add) a0j:=by
 intro Z s σ H x y v u Q I rx ry h;obtain⟨l,b,xs,zs,rfl,rfl,hH,R,hz,q⟩:=h;cases rx;cases ry;obtain⟨z,U,n,r,hl,e⟩:=I.agt hH;obtain⟨z2,G,n2,r2,qq,e2⟩:=I.agt R;refine PySem.P.add_list e e2 ?_ (by rw[dj,dj];lia);have ea:U.toArray++G.toArray=(U++G).toArray:=by simp
 rw[ea];exact⟨.ref _,_,I.a7v (t':=s.toks) (r.append r2) (by rw[iy];exact hz),rfl,q _ I.fresh⟩
end L2
namespace Att
open PySem PySem.W PySem.Calls PyProof.Rows
def Q0:∀(ns:X9)(Z:Zl),WellAll P h Z (ns.map WData.int)->IntsAre Z ns:=by
 intro ns
 induction ns with
 |nil =>
  intro Z w;rw[List.map_nil] at w;cases w;exact .nil
 |cons n ns G =>
  intro Z w;rw[dg] at w;cases w with
  |cons a b =>
   cases a;exact .cons _ _ (G _ b)
def agv{l:OpenLaw}(hn:l.most=some n)(U:l.row.toRowW.claim.pre args=true)(qq:WellAll P h vals args) :
 ∃a vs Z,vals=[Value.ref a]/\args=[WData.list (Z.map WData.int)]/\h.get? a=some { cls:=.type "list",data:=.seq vs.toArray }/\IntsAre vs Z/\Z.length<=n:=by
 have qk:WShape.hasAll [] args [.list .int]=true:=(pre_splitW U).1;have hc:l.pre.holds [] { args:=args }=true:=(pre_splitW U).2;obtain⟨d,r,rfl,h1,h2⟩:=hasAllW_cons qk;obtain rfl:=hasAllW_nil h2;obtain⟨xs,rfl,h3⟩:=hasW_list h1;obtain⟨Z,rfl⟩:=items_int h3;have G:Z.length<=n:=by
  unfold OpenLaw.pre at hc;have R:(WTm.not (.lt (.lit (.int (n:Int))) (.len (.arg 0)))).holds [] { args:=[.list (Z.map .int)] }=true:=by have R:=(holds_andW hc).1;rw[hn] at R;exact R
  have h5:=condW_of R (w_not (w_lt w_lit (w_len_list (w_arg rfl))));rw[cz] at h5;refine Nat.le_of_not_lt λq=>?_
  have q':(n:Int)<((Z.length:Nat):Int):=m_ q
  first
   |(rw[vh q'] at h5;exact absurd h5 (by decide))
   |(simp at h5;omega)
 cases qq with
 |cons w1 w2 =>
  cases w2;cases w1 with
  |list ho Li=>exact⟨_,_,Z,rfl,rfl,ho,Q0 Z _ Li,G⟩
def agw(l:OpenLaw)(Z:List WData):l.row.toRowW.claim.post Z (.bool true) Z=true :=
 postW_of (r:=l.row.toRowW) (X:=(true==true))
  (show WShape.has [] (.bool true) .bool=true by first|rfl|decide|simp[WShape.has,WShape.arms,WShape.armsAll])
  (show(WTm.eq .res (.lit (.bool true))).value [] { args:=Z,res:=some (.bool true),after:=Z }=some (.bool (true==true)) from w_eq_bool (w_res rfl) w_lit) rfl
def Z5{l:OpenLaw}(hn:l.most=some n)(q0:d.params.defaults=[])(call:∀(w:World) (U Z:Shared) (mg mb:Zs) (fa:Addr) (o:Obj) (pm cd R:Value) (a:Addr) (vs:Zl) (ns:X9),
 Ground q loose [] XP w U mg mb Z.heap->YP w Z.heap ->
 Z.heap.get? fa=some o->o.data=.func (docDef d.name d.params d.body d.scope pm cd R)->Z.heap.CodeRec cd d.name->mg d.name=some (.ref fa) ->
 Z.heap.get? a=some { cls:=.type "list",data:=.seq vs.toArray }->IntsAre vs ns->ns.length<=n->Z.gens=#[] ->
 codeAny (model l.prog w) callerA (.call (.ref fa) ⟨[.ref a],[]⟩) (λr s'=>r=.ok (.ret (.bool true))/\OldK Z.heap s'.heap/\s'.os=Z.os/\AllBare s'.gens) Z) :
 WalkO q loose XP YP l.row.toRowW d [] (λf vs=>PySem.call f vs):=by
 intro w U Z mg mb G Y fa o pm cd R dV kV ho hd q2 hD q1 hg q5 vals as q3 q7 zz qv q6;obtain rfl:dV=.none:=Dflts.none hD q0;obtain rfl:kV=.none:=Dflts.noKw hD;obtain⟨a,vs,ns,rfl,rfl,q4,qq,qk⟩:=agv hn q3 qv;refine enter_call (codeAny_mono (call w U Z mg mb fa o pm cd R a vs ns G Y ho (fd_plain hd) q2 q1 q4 qq qk hg) λr s' hq=>?_);obtain⟨rfl,h2,h3,h4⟩:=hq;exact⟨.inl ⟨.bool true,.bool true,[],rfl,λ_=>rfl,.bool true,agw l _,λ_=>⟨List.Pairwise.nil,λ_ hm=>(nomatch hm)⟩⟩,h2,h3,h4⟩
end Att
namespace L2
open PySem PySem.Spec PyProof.Rows
theorem Vz:∀{Z:Zl}{G:X9},IntsAre Z G->Vals (G.map V.int) Z
 |_,_,.nil=>.nil|_,_,.cons n t h=>.cons ⟨t,rfl⟩ (Vz h)
def Only(H:Hp):Prop:=∀b,H b=none\/∃o Z,H b=some (.Hd o (.lst Z))
def akr{K:Fg}(KX:K.In s₁.heap)(q0:s₁.heap.Ns mainGlobals mg)(Z:s₁.heap.Ns builtinsNs mb)(q2:∀x:Str,x≠"__name__" -> mb x=bootBuiltins x)(q5:s₁.heap.NoLimit)(hg:s₁.gens=#[])(ha:s₁.heap.get? a=some { cls:=.type "list",data:=.seq vs.toArray })(hi:IntsAre vs ns)(hl:ns.length<=sizeLine)(hr:xu k callerA)(F:∀U:Heap,K.In U->U.Ns mainGlobals mg->Ei P w K mg U CX k fa fd [x] sp)(zz:∀(s:Shared) (u:Value),BindsTo s fd ⟨[u],[]⟩ [(x,u)])(q7:∀H:Hp,Only H->Ec K H a (ns.map V.int)->sp [.ref a] H (λv _=>v=.bl true) λ_ _ _=>False)(q4:∀H e G,CX [] H s₁ (λ_ _ _=>False) e G->False) :
 codeAny (model P w) callerA (.call (.ref fa) ⟨[.ref a],[]⟩) (λr G=>r=.ok (.ret (.bool true))/\OldK s₁.heap G.heap/\G.os=s₁.os/\AllBare G.gens) s₁:=by
 have rv:=Vz hi;have qv:=hi.length;have qq:∀H:Hp,Only H->Ec K H a (ns.map V.int)->Ma P w H s₁.heap->(∀b,H b≠none->b=a)->(H a≠none->K.lookup a=none) ->
  codeAny (model P w) callerA (.call (.ref fa) ⟨[.ref a],[]⟩) (λr G=>r=.ok (.ret (.bool true))/\OldK s₁.heap G.heap/\G.os=s₁.os/\AllBare G.gens) s₁:=by
  intro H hO hS yp hA hK;have Cw:∀{b:Addr}{o:Obj},s₁.heap.get? b=some o->H b=none->(Xi s₁.heap H).get? b=some o:=λe n=>ajw e n
  have q3:∀{b:Addr}{o:Obj}{es:Array DictEntry}{ep:Nat},s₁.heap.get? b=some o->o.data=.dict es ep->H b=none:=fun{b o es ep} e d=>by
   cases q:H b with
   |none=>rfl
   |some u =>
    have e':b=a:=hA b (by rw[q];simp);subst e';rw[ha] at e;cases e;have d':Data.seq vs.toArray _=Data.dict es ep:=d;cases d'
  have R:∀{b:Addr}{m:Zs},s₁.heap.Ns b m->(Xi s₁.heap H).Ns b m:=fun{b m} ⟨o,es,ep,e,d,r⟩=>⟨o,es,ep,Cw e (q3 e d),d,r⟩
  have qk:K.In (Xi s₁.heap H):=λb o e=>Cw (KX b o e) (by
   cases q:H b with
   |none=>rfl
   |some u =>
    have e':b=a:=hA b (by rw[q];simp);subst e';rw[hK (by rw[q];simp)] at e;cases e)
  have hM:Mod K mg (Xi s₁.heap H):=⟨qk,R q0,⟨mb,R Z,q2⟩,let ⟨mc,h1,h2⟩:=q5;⟨mc,R h1,h2⟩⟩;have e0:ab8 P w K mg (Xi s₁.heap H) callerA [] s₁ H:=⟨rfl,hM,λb o e=>aok e,Nat.le_of_eq (age _ _),trivial,λb Z=>absurd (show b∈([]:X1) from Z) (by simp),yp,.of_eq hg⟩;refine codeAny_mono ((F _ qk (R q0)).run callerA [] s₁ H ⟨[.ref a],[]⟩ [.ref a] [.ref a] _ _ hr e0 (zz s₁ (.ref a)) (.cons rfl .nil) (q7 H hO hS)) λr G h=>?_
  cases r with
  |error e=>exact(q4 H e G h).elim
  |ok fl =>
   cases fl with
   |next=>exact False.elim h|brk=>exact False.elim h|cont=>exact False.elim h
   |ret u =>
    obtain⟨v,H',os,q1,un,q6,r',q⟩:=h;have q':v=.bl true:=q;subst q';obtain rfl:u=Value.bool true:=r';refine⟨rfl,OldK.of_keep λb o e=>?_,os,q1⟩;cases q:H b with
    |none=>exact un.keep b o e q (by intro z;exact absurd (show b∈([]:X1) from z) (by simp)) (by simp)
    |some u =>
     rcases hO b with z|⟨ob,xs,z⟩
     .rw[q] at z;cases z
     .have z2:=un.Xh b ob _ z
      obtain⟨e1,_⟩:=yp b _ z;obtain⟨e2,_⟩:=q6 b _ z2;rw[e] at e1;cases e1;exact e2
 cases hk:K.lookup a with
 |some o =>
  have e:=KX a o hk;rw[ha] at e;cases e;refine qq (λ_=>none) (λ_=>.inl rfl) (.inr ⟨_,vs.toArray,_,hk,rfl,rfl,rfl,by rw[dj,qv];exact hl,by simpa using rv⟩) (λb u z=>by have z':(none:Option HO)=some u:=z;cases z') (λb z=>absurd rfl z) λz=>absurd rfl z
 |none =>
  refine qq (λb=>if b=a then some (.Hd { cls:=.type "list",data:=.seq vs.toArray } (.lst (ns.map V.int))) else none) (λb=>?_) (.inl (.inr ⟨{ cls:=.type "list",data:=.seq vs.toArray },bx rfl⟩)) (λb u z=>?_) (λb z=>?_) λ_=>hk
  .by_cases Z:b=a
   .exact .inr ⟨_,_,bx Z⟩
   .exact .inl (bw Z)
  .by_cases Z:b=a
   .have z':=(bx Z).symm.trans z
    cases z';subst Z;exact⟨ha,by rw[cz];exact hl,vs,_,rv,ha⟩
   .have z':=(bw Z).symm.trans z
    cases z'
  .by_cases Z:b=a
   .exact Z
   .exact absurd (bw Z) z
end L2
namespace L2
open PySem PySem.Spec PyProof.Rows
def apf{l:PySem.W.OpenLaw}{K:Params->Fg}{CX:World->CXT}{sp:World->Sp}(hn:l.most=some n)(q3:n<=sizeLine)(qk:d.params.defaults=[])(hr:xu k callerA)(hY:∀(w:World) (h:Heap),YP w h->(K w.params).In h)(F:∀(w:World) (mg:Zs) (fa:Addr) (h:Heap),(K w.params).In h->h.Ns mainGlobals mg->mg d.name=some (.ref fa) ->
 ∃fd:FuncData,(∀(s:Shared) (u:Value),BindsTo s fd ⟨[u],[]⟩ [(x,u)]) /\
  ∀Z:Heap,(K w.params).In Z->Z.Ns mainGlobals mg->Ei l.prog w (K w.params) mg Z (CX w) k fa fd [x] (sp w))(q1:∀(w:World) (H:Hp) (a:Addr) (ns:X9),ns.length<=n->Only H->Ec (K w.params) H a (ns.map V.int)->sp w [.ref a] H (λv _=>v=.bl true) λ_ _ _=>False)(q0:∀(w:World) (H:Hp) (s:Shared) (e:Value) (s':Shared),CX w [] H s (λ_ _ _=>False) e s'->False) :
 PySem.W.WalkO q loose XP YP l.row.toRowW d [] (λf vs=>PySem.call f vs):=by
 refine Att.Z5 hn qk λw q4 qq mg mb fa o pm cd q5 a vs ns G Y ho hd q6 qv q2 R U hg=>?_
 have KX:=hY w _ Y;obtain⟨fd,hb,hF⟩:=F w mg fa _ KX G.T.g qv;exact akr KX G.T.g G.T.b G.T.builtins G.T.nolimit hg q2 R (bj U q3) hr hF hb (λH hO hS=>q1 w H a ns U hO hS) λH e s'=>q0 w H qq e s'
end L2
namespace L2
open PySem PySem.Spec PyProof.Rows
noncomputable def inClass(s:Stmt)(j:Nat):Stmt:=match s with
 |.ClassDef _ _ _ body _ _ _ _ _ _ _=>body.getD j (.Pass ⟨0,0,0,0⟩)|_=>.Pass ⟨0,0,0,0⟩
noncomputable def Gu(s:Stmt):Arguments:=match s with
 |.FunctionDef _ a _ _ _ _ _ _ _ _=>a|_=>{ posonlyargs:=[],args:=[],vararg:=none,kwonlyargs:=[],kw_defaults:=[],kwarg:=none,defaults:=[] }
noncomputable def Dq(s:Stmt):List Stmt:=match s with
 |.FunctionDef _ _ b _ _ _ _ _ _ _=>b|_=>[]
noncomputable def yg(s:Stmt):Scope:=match s with
 |.FunctionDef _ _ _ _ _ _ sc _ _ _=>sc|_=>{ kind:=.function,names:=[],isGenerator:=false,isCoroutine:=false }
abbrev Yq:CXT:=λ_ _ _ _ _ _=>False
abbrev E0:XK:=λ_ _ _=>False
def aks:Passes Yq X E0:=λ_ _ _ _ _ _ _ h=>h.elim
structure Fun(K:Fg)(x qual:Str)(st:Stmt)(f:Addr)(fd:FuncData):Prop where
 ex:∃(oc:Value)(od:Option Addr)(kV doc pm:Value)(an:Option Addr)(cdv ct:Value)(osl:Array (Option Value)),
  fd=PySem.W.fnOf x qual (Gu st) (Dq st) (yg st) .none kV doc pm an cdv ct/\K.lookup f=some ⟨oc,od,.func fd,osl⟩/\PySem.W.codeIn K cdv qual=true
 kp:PySem.W.keepIn K (.ref f)=true
def Fun.ok{K:Fg}{R:Stmt}(F:Fun K x qual R f fd)(S:Rh N ps (yg R))(len:∀U H Q E,sp U H Q E->U.length=ps.length)(qk:∀(G:Value) (A:Around) (Z:List Env) (s:Shared) (H:Hp) (U:List V) (Q:VK) (E:XK),xu k (A.deeper (envOfC qual (yg R) s.heap.objs.size f G))->sp U H Q E ->
 ∃t,Oc (ab9 Yq P w K mg base N qual (yg R) f G A Z s H E).nox (Dq R) t/\t { nx:=λ_ H'=>Q .non H',rt:=Q } (start N U) H):Ei P w K mg base Yq (k+1) f fd ps sp:=by
 obtain⟨oc,od,kV,q0,pm,an,G,ct,q1,rfl,lk,qv⟩:=F.ex;refine az5 lk qv S len λA Z s H U Q E hr qq=>?_
 obtain⟨t,h,q⟩:=qk G A Z s H U Q E hr qq;exact⟨t,h.nox,q⟩
def Fun.binds{K:Fg}{U:Stmt}(F:Fun K x qual U f fd)(h:∀(kV Z pm:Value) (R:Option Addr) (G ct:Value) (us:Zl),us.length=ps.length->bindArgs (PySem.W.fnOf x qual (Gu U) (Dq U) (yg U) .none kV Z pm R G ct) ⟨us,[]⟩=pure (ps.zip us)):Binds K fd ps []:=by obtain⟨oc,od,kV,Z,pm,R,G,ct,qk,rfl,lk,qq⟩:=F.ex;exact .all (h kV Z pm R G ct)
def akt{K:Fg}{G:Stmt}{f:Addr}{oc:Value}{od an:Option Addr}{R:Array (Option Value)}{kV U pm Z ct:Value}(l:K.lookup f=some ⟨oc,od,.func (PySem.W.fnOf x qual (Gu G) (Dq G) (yg G) .none kV U pm an Z ct),R⟩)(c:PySem.W.codeIn K Z qual=true)(k:PySem.W.keepIn K (.ref f)=true):Fun K x qual G f (PySem.W.fnOf x qual (Gu G) (Dq G) (yg G) .none kV U pm an Z ct):=⟨⟨oc,od,kV,U,pm,an,Z,ct,R,rfl,l,c⟩,k⟩
def aet{A:Around}{k:Nat}(Z:xu k A):A.units+1<cLine:=yj (Nat.add_le_add_left (by decide:1<=64) _) Z.units
end L2
namespace L2
open PySem PySem.Spec PyProof.Rows
noncomputable def Hj(cells:Xs):List (Str×NameKind)->List (Str×Addr)->List (Str×Addr)
 |[],cs=>cs|(n,k)::r,cs=>Hj cells r (if k==.free then(n,(cells.lookup n).getD 0)::cs else cs)
theorem Qp{G Z:Type}{f:G->Z->Sem (ForInStep Z)}{g:G->Z->Z}:∀{l:List G}(c:Z),(∀x∈l,∀c,f x c=pure (.yield (g x c)))->forIn l c f=pure (l.foldl (λc x=>g x c) c)
 |[],c,_=>rfl
 |x::l,c,h=>by
  rw[List.forIn_cons,h x cg,pure_bind];exact Qp (g x c) λy U=>h y (bh _ U)
theorem Qq(cells:Xs):∀(l:X0)(Z:Xs),Hj cells l Z=l.foldl (λc x=>if x.2==.free then(x.1,(cells.lookup x.1).getD 0)::c else c) Z
 |[],_=>rfl|(n,k)::r,Z=>Qq cells r _
def T9(h:∀y∈scope.names,y.2=.free->∃c,env.cells.lookup y.1=some c):closureFor scope env=pure (Hj env.cells scope.names []):=by
 simp only[closureFor];rw[Qp (g:=λx c=>if x.2==.free then(x.1,(env.cells.lookup x.1).getD 0)::c else c) [] (λx R c=>by
  obtain⟨n,k⟩:=x
  by_cases G:k=.free
  .subst G
   obtain⟨c',Z⟩:=h (n,.free) R rfl;have Z:env.cells.lookup n=some c':=Z;simp[cellOf,Z]
  .have U:(k==NameKind.free)=false:=by simpa using G
   simp[U]),Qq]
 rfl
theorem Z6(cells:Xs):∀(l:X0)(Z:Xs)(x:Str)(c:Addr),(∀y∈l,y.2=.free->∃c,cells.lookup y.1=some c)->(Hj cells l Z).lookup x=some c ->
 Z.lookup x=some c\/cells.lookup x=some c
 |[],Z,x,c,_,h=>.inl h
 |(n,k)::r,Z,x,c,hy,h=>by
  rcases Z6 cells r _ x c (λz R=>hy z (bh _ R)) h with q|q
  .by_cases U:k=.free
   .subst U
    simp only[xf,jz,lz] at q;cases e:x==n with
    |true =>
     rw[e] at q;obtain⟨c',G⟩:=hy (n,.free) cg rfl;have G:cells.lookup n=some c':=G;simp only[G,Option.getD_some,Option.some.injEq] at q;subst q;rw[eq_of_beq e];exact .inr G
    |false=>rw[e] at q;exact .inl q
   .have hb:(k==NameKind.free)=false:=by simpa using U
    simp only[hb,fc,jf] at q;exact .inl q
  .exact .inr q
theorem Ua(cells:Xs):∀(l:X0)(Z:Xs)(x:Str),(∃c,Z.lookup x=some c)->∃c,(Hj cells l Z).lookup x=some c
 |[],Z,x,h=>h
 |(n,k)::r,Z,x,h=>by
  refine Ua cells r _ x ?_
  by_cases G:(k==NameKind.free)=true
  .rw[bx G,lz]
   cases e:x==n with
   |true=>exact⟨_,rfl⟩|false=>exact h
  .rw[bw G];exact h
theorem Pg(cells:Xs):∀(l:X0)(Z:Xs)(x:Str),(x,NameKind.free)∈l->∃c,(Hj cells l Z).lookup x=some c
 |(n,k)::r,Z,x,h=>by
  rcases cj.mp h with q|q
  .obtain⟨rfl,rfl⟩:=Prod.mk.inj q
   refine Ua cells r _ x ⟨(cells.lookup x).getD 0,?_⟩;rw[bx (by simp),lz,xf]
  .exact Pg cells r _ x q
theorem Ka{Z:Env}:∀{G:X0}{x:Str},
 (G.map λ(y:Str×NameKind)=>if(y.2==NameKind.free&&Z.scope.kind==.function&&Z.kindOf y.1==some .cell) then(y.1,NameKind.cell) else(y.1,y.2)).lookup x
  = (G.lookup x).map λk=>if(k==NameKind.free&&Z.scope.kind==.function&&Z.kindOf x==some .cell) then NameKind.cell else k
 |[],_=>rfl
 |(n,k)::r,x=>by
  have R:=@Ka Z r x;rw[dg];cases hx:x==n with
  |true =>
   have e:=eq_of_beq hx;subst e;clear hx
   by_cases U:(k==NameKind.free&&Z.scope.kind==.function&&Z.kindOf x==some .cell)=true
   .simp only[U,jz,lz,xf,n8]
   .have hb:(k==NameKind.free&&Z.scope.kind==.function&&Z.kindOf x==some .cell)=false:=by simpa using U
    simp only[hb,fc,jf,lz,xf,n8]
  |false =>
   by_cases U:(k==NameKind.free&&Z.scope.kind==.function&&Z.kindOf n==some .cell)=true
   .simp only[U,jz,lz,hx];exact R
   .simp only[U,lz,hx];simpa[lz,hx] using R
theorem mem_of_lookup{Z G:Type}[BEq Z][LawfulBEq Z]:∀{l:List (Z×G)}{x:Z}{y:G},l.lookup x=some y->(x,y)∈l
 |(a,b)::r,x,y,h=>by
  rw[lz] at h;cases e:x==a with
  |true=>rw[e] at h;cases h;rw[eq_of_beq e];exact cg|false=>rw[e] at h;exact bh _ (mem_of_lookup h)
def Jj(X:Cx)(N:Yf)(Z:Scope)(C:Addr)(G:X1)(s:Shared)(H:Hp):Cx where
 prog:=X.prog
 w:=X.w
 K:=X.K
 mg:=X.mg
 base:=X.base
 A:=X.A
 N:=N
 s₀:=s
 H₀:=H
 env:=compEnvC Z (Hj X.env.cells Z.names []) C X.env
 outer:=X.stack
 stack:=X.stack
 ex:=G
 fn:=λ_=>false
 calm:=X.calm
 pn:=[]
 xe:=λ_ _=>False
structure Eo(X:Cx)(N:Yf)(scope:Scope):Prop where
 kind:scope.kind=.function
 aku:∀y∈scope.names,y.2≠.cell
 locs:∀y∈scope.names,y.2=.local->scope.names.lookup y.1=some .local
 frees:∀y∈scope.names,y.2=.free->X.env.kindOf y.1=some .cell\/X.env.kindOf y.1=some .free
 uniq:∀x k,(x,k)∈scope.names->scope.names.lookup x=some k
 long:X.N.length<=N.length
 vis:∀i x,i<X.N.length->N[i]?=some x->Vis (relabel scope X.env) x->X.N[i]?=some x/\scope.names.lookup x=some .free
theorem Eo.cells(B:Eo X N scope)(ok:X.Ok):∀y∈scope.names,y.2=.free->∃c,X.env.cells.lookup y.1=some c:=λy Z G=>ok.has y.1 (B.frees y Z G)
def Eo.clos(B:Eo X N scope)(ok:X.Ok):closureFor scope X.env=pure (Hj X.env.cells scope.names []):=T9 (B.cells ok)
def Eo.inCells(B:Eo X N scope)(ok:X.Ok)(h:(Hj X.env.cells scope.names []).lookup x=some c):X.env.cells.lookup x=some c:=by
 rcases Z6 _ _ _ _ _ (B.cells ok) h with q|q
 .simp at q
 .exact q
def Z7{X:Cx}(x:Str):(compEnvC scope cl C X.env).kindOf x=(scope.names.lookup x).map λk=>if(k==NameKind.free&&X.env.scope.kind==.function&&X.env.kindOf x==some .cell) then NameKind.cell else k:=by show(relabel scope X.env).names.lookup x=_;exact Ka
def agx(B:Eo X N scope)(I:Inv X pins σ H s)(hf:∀b∈fp,Qy X pins H b)(q0:∀b∈fp,∃o,s.heap.get? b=some o)(q1:U.Ns (s.heap.objs.size+1) λ_=>none)(hk:∀b o,s.heap.get? b=some o->U.get? b=some o)(U6:U.get? s.heap.objs.size=some { cls:=.type "list",data:=.seq ([]:Zl).toArray }) :
 Inv (Jj X N scope (s.heap.objs.size+1) fp s H) [] (σ++List.replicate (N.length-X.N.length) none) (upd H s.heap.objs.size (.lst [])) { s with heap:=U,toks:=t }:=by
 have ok:=I.ok;have hD:H s.heap.objs.size=none:=I.yp.fresh (bc _);have hC:H (s.heap.objs.size+1)=none:=I.yp.fresh (o8 _);have qk:s.heap.objs.size+1≠s.heap.objs.size:=Nat.succ_ne_self _;have lt:∀b∈fp,b<s.heap.objs.size:=λb hb=>by obtain⟨o,e⟩:=q0 b hb;exact au e
 have q2:∀x c,X.env.cells.lookup x=some c->c<s.heap.objs.size:=λx c e=>by obtain⟨v,o,ho,_⟩:=I.cell x c e;exact au ho
 refine⟨⟨ok.mod,B.kind,ok.glob,ok.blt,o8 _,?_,?_,?_,ok.hd,ok.frames,.inl rfl,?_,λb o e=>I.bs b o e,bj ok.bsz I.sz,?_,?_,I.stack,I.aee⟩,rfl,I.bare,?_,?_,?_,?_,?_,?_,?_,?_⟩
 .intro x y c R hy
  exact ok.inj x y c (B.inCells ok R) (B.inCells ok hy)
 .intro x R
  rw[show(Jj X N scope (s.heap.objs.size+1) fp s H).env.kindOf x=_ from Z7 x] at R;cases e:scope.names.lookup x with
  |none=>rw[e] at R;rcases R with q|q<;>simp at q
  |some k =>
   have Qk:k=.free:=by
    rw[e] at R;cases k with
    |free=>rfl|cell=>exact absurd rfl (B.aku _ (mem_of_lookup e))|«local»=>rcases R with q|q<;>simp at q
    |globalExplicit=>rcases R with q|q<;>simp at q
    |globalImplicit=>rcases R with q|q<;>simp at q
   subst Qk;exact Pg _ _ _ _ (mem_of_lookup e)
 .intro x c h;cases h
 .intro b hb
  refine⟨λe=>?_,λx c hc e=>?_⟩
  .have q:=lt b hb
   have e:b=s.heap.objs.size+1:=e;rw[e] at q;exact absurd q (Nat.not_lt.mpr (o8 _))
  .obtain⟨_,_,_,_,f4,_⟩:=hf b hb
   exact f4 x c (B.inCells ok hc) e
 .intro b o e hb
  obtain⟨_,_,_,f3,_⟩:=hf b hb;rcases f3 with q|q
  .exact ok.ajy b o e q
  .exact nu _ (gm (au e) (bj ok.bsz q))
 .intro b hb q
  obtain⟨_,f1,f2,_⟩:=hf b hb;rcases cj.mp (I.Xj b q) with z|z
  .exact f1 z
  .exact f2 z
 .exact Un.laid hk (bc _) hD
 .refine⟨_,q1,λi x v hN Z hv=>?_⟩
  have hi:i<X.N.length:=by
   rcases jo i σ.length with q|q
   .rw[I.len] at q;exact q
   .rw[ou q] at Z
    rw[List.getElem?_replicate] at Z;split at Z<;>simp at Z
  rw[gr (by rw[I.len];exact hi)] at Z;obtain⟨R,Qk⟩:=B.vis i x hi hN hv;obtain⟨m,_,hl⟩:=I.loc;have qq:=B.frees _ (mem_of_lookup Qk) rfl;have qv:Vis X.env.scope x:=by
   rcases qq with q|q
   .exact .inr (.inl q)
   .exact .inr (.inr q)
  obtain⟨u,ru,lu⟩:=hl i x v R Z qv;refine⟨u,ru,.inr ⟨?_,?_⟩⟩
  .rw[show(Jj X N scope (s.heap.objs.size+1) fp s H).env.kindOf x=_ from Z7 x,Qk]
   simp only[n8];split
   .exact .inl rfl
   .exact .inr rfl
  .rcases lu with⟨q,_⟩|⟨_,c,hc,ic⟩
   .rcases qq with z|z<;>rw[q] at z<;>cases z
   .obtain⟨c',G⟩:=Pg X.env.cells scope.names [] x (mem_of_lookup Qk)
    have:=B.inCells ok G;rw[hc] at this;cases this;exact⟨c,G,ic.keeps hk⟩
 .intro x c hc
  obtain⟨v,iv⟩:=I.cell x c (B.inCells ok hc);exact⟨v,iv.keeps hk⟩
 .show upd H s.heap.objs.size (.lst []) (s.heap.objs.size+1)=none
  rw[j6 qk];exact hC
 .intro x c hc
  have G:=B.inCells ok hc;rw[j6 (fu (q2 x c G))];exact I.J7 x c G
 .intro p hp;simp[Jj] at hp
 .exact Ma.laid I.yp hk (bc _) ⟨ig _,[],0,.nil,U6⟩
 .show(σ++List.replicate (N.length-X.N.length) none).length=N.length
  rw[iy,List.length_replicate,I.len];have:=B.long;omega
def Kc(I:Nat->Shared->Prop)(q5:∀n s,I n s->wpAny (model prog w) A (pyNext it) (λr G=>match r with
 |none=>R (.ok .next) G
 | some v=>wpAny (model prog w) A (letOwnedTupleGo target it v) (λ_ qq=>wpAny (model prog w) A (assign target env v) (λ_ q1 =>
  wpAny (model prog w) A (forIn ifs true λc r=>if r=true then do let ok <- isTrue c env (eval c env);pure (ForInStep.yield ok) else pure (ForInStep.yield r)) (λok U =>
   if ok=true then wpAny (model prog w) A (eval elt env) (λx q2 =>
    wpAny (model prog w) A (call (.builtin "list.append") [acc,x]) (λ_ qv=>∃m,m<n/\I m qv) (λ_ _=>False) q2) (λ_ _=>False) U
   else ∃m,m<n/\I m U) (λ_ _=>False) q1) (λ_ _=>False) qq) (λ_ _=>False) G) (λ_ _=>False) s)(n:Nat)(h:I n s) :
 codeAny (model prog w) A (.compLoop (.ListComp elt [⟨target,iter,ifs,0⟩] scope pos) 0 it acc env) R s:=by
 have nv:∀{α:Type}{t:Sem α}{Q:α->Shared->Prop}{E:Y1}{s:Shared},wpAny (model prog w) A t Q (λ_ _=>False) s->wpAny (model prog w) A t Q E s:=λh=>mj h (λ_ _ q=>q) λ_ _ f=>f.elim
 refine codeAny_loop rfl I (λn s hI=>?_) n h;show wpAny _ A ((compTurn (.ListComp elt [⟨target,iter,ifs,0⟩] scope pos) 0 it acc env).onRaise (λx=>do noteFrame x env;theTreesLotGoes x)) _ _ s;refine wpAny_noted ?_;rw[compTurn_list];refine aa (wpAny_standAt (aa (mj (q5 n s hI) (λr G qk=>?_) λ_ _ Z=>Z.elim)));cases r with
 |none=>exact aj qk
 |some v =>
  refine aa (mj qk (λ_ qq q3=>?_) λ_ _ Z=>Z.elim);refine aa (mj q3 (λ_ q1 q4=>aa (mj q4 (λok U q0=>?_) λ_ _ Z=>Z.elim)) λ_ _ Z=>Z.elim);cases ok with
  |false=>exact aj ⟨rfl,q0⟩
  |true =>
   exact aa (aa (mj q0 (λx q2 q7=>aa (mj q7 (λ_ qv q6=>aj (aj ⟨rfl,q6⟩)) λ_ _ Z=>Z.elim)) λ_ _ Z=>Z.elim))
def Z8(k:Nat)(wi:TI)(g:TG)(tc:TT)(te:TE):TE:=λU H Q=>wi U H λJ H1=>∀D,H1 D=none->∃W:Nat->Nat->Hp->Prop,(∃m,W 0 m (upd H1 D (.lst [])))/\∀i m H,W i m H ->
 (J.stop i H/\Q (.ref D) H)\/(J.go i H/\∀x H',J.yld i H x H'->g x (U++List.replicate k none) H' λZ H2=>Z.length=(U++List.replicate k none).length /\
  (∀(j:Nat) v,(U++List.replicate k none)[j]?=some (some v)->Z[j]?=some (some v))/\tc Z H2 λb H3 =>
   if b=true then te Z H3 λv H4=>∃R G,H4 D=some (.lst R)/\R.length<sizeLine/\G<m/\W (i+1) G (upd H4 D (.lst (R++[v]))) else ∃G,G<m/\W (i+1) G H3)
def PTs(X:Cx)(Z:Ya)(G:TT):Prop:=(Z=[]/\G=λ_ H Q=>Q true H)\/∃c,Z=[c]/\PT X c G
def V0(I:Inv X pins σ H s)(R:∀b∈Z,Qy X pins H b)(J:Inv (Jj X N scope (s.heap.objs.size+1) Z s H) [] qq H3 s3):Inv X pins σ H3 s3/\∃m,s3.heap.Ns (s.heap.objs.size+1) m:=by
 refine⟨I.call' J.os J.base J.yp J.bare λb hb=>?_,?_⟩
 .obtain⟨_,f1,_,U,G,f5⟩:=R b hb
  exact⟨U,f1,G,f5⟩
 .obtain⟨m,hn,_⟩:=J.loc
  exact⟨m,hn⟩
def agy(I:Inv X pins σ H s)(I3:Inv X pins σ G s3)(hC:G (s.heap.objs.size+1)=none)(R:Heap.SameBut (s.heap.objs.size+1) s3.heap U):Inv X pins σ G { s3 with heap:=U }:=by
 have big:∀b o,s.heap.get? b=some o->b≠s.heap.objs.size+1:=λb o e z=>by have:=au e;rw[z] at this;exact absurd this (Nat.not_lt.mpr (o8 _))
 refine I3.turned (t':=s3.toks) (λb o hb e=>R.extBut b o hb e) hC ?_ (.inr (bj I.sz (o8 _))) ?_ ?_
 .intro e
  obtain⟨m,⟨o,_,_,Z,_⟩,_⟩:=I.loc;exact big _ o Z e.symm
 .intro x c hc
  obtain⟨v,o,Z,_⟩:=I.cell x c hc;exact big c o Z
 .intro p hp
  exact big p.1 p.2 (I.pin p hp).1
def Ub{RR:Value->Addr->Result->Shared->Prop}(B:Eo X N scope)(Gv:X.calm=true)(I:Inv X pins σ H s)(hf:∀b∈G,Qy X pins H b)(T:Turn X.prog X.w X.K tg J G it tn)(h0:tn 0 s.heap)(hg:∀C s H,PG (Jj X N scope C G s H) tg g)(hc:∀C s H,PTs (Jj X N scope C G s H) ifs tc)(he:∀C s H,PE (Jj X N scope C G s H) elt te){Q:VK}(W:Nat->Nat->Hp->Prop)(w0:W 0 m0 (upd H s.heap.objs.size (.lst [])))(z6:∀i m H,W i m H->(J.stop i H/\Q (.ref s.heap.objs.size) H)\/(J.go i H/\∀x H',J.yld i H x H'->g x (σ++List.replicate (N.length-X.N.length) none) H' λq1 H2=>q1.length=(σ++List.replicate (N.length-X.N.length) none).length /\
 (∀(j:Nat) v,(σ++List.replicate (N.length-X.N.length) none)[j]?=some (some v)->q1[j]?=some (some v))/\tc q1 H2 λb H3 =>
  if b=true then te q1 H3 λv H4=>∃xs R,H4 s.heap.objs.size=some (.lst xs)/\xs.length<sizeLine/\R<m/\W (i+1) R (upd H4 s.heap.objs.size (.lst (xs++[v]))) else ∃R,R<m/\W (i+1) R H3))(y0:∀z4 H3 s3,Inv (Jj X N scope (s.heap.objs.size+1) G s H) [] z4 H3 s3->Q (.ref s.heap.objs.size) H3->RR (.ref s.heap.objs.size) (s.heap.objs.size+1) (.ok .next) s3) :
 wpAny (model X.prog X.w) X.A (newList []) (λz8 z5=>wpAny (model X.prog X.w) X.A (newFunctionEnv scope X.env.globals (Hj X.env.cells scope.names []) [] X.env.qual none .none (some X.env)) (λq2 z1 =>
  codeAny (model X.prog X.w) X.A (.compStart (.ListComp elt [⟨tg,iter,ifs,0⟩] scope pos) 0 (.ref it) z8 { q2 with scope:=relabel scope X.env }) (RR z8 q2.locals) z1) E z5) E s:=by
 refine ju (wpAny_newFunctionEnv B.aku (by intro y hy;simp at hy) (λqv U Z=>?_) B.kind);dsimp only at U Z ⊢;have zw:(s.heap.push { cls:=.type "list",dict:=none,data:=.seq ([]:Zl).toArray }).objs.size=s.heap.objs.size+1:=jq _ _;rw[zw] at U Z;have q4:∀b o,s.heap.get? b=some o->qv.get? b=some o:=λb o e=>Z.extBut b o (λz=>absurd (au e) (by rw[z];exact Nat.not_lt.mpr (o8 _))) (aq _ (aq _ e))
 have U6:qv.get? s.heap.objs.size=some { cls:=.type "list",data:=.seq ([]:Zl).toArray }:=Z.extBut _ _ (fu (qu _)) (aq _ (bf _ rfl));have zz:∀b∈G,∃o,s.heap.get? b=some o:=λb hb=>let ⟨o,e,_⟩:=T.obj 0 _ h0 b hb;⟨o,e⟩
 have I0:=agx (t:=s.toks+([]:List (Str×Value)).length) B I hf zz U q4 U6;have zk:∀{H':Hp},(∀b∈G,H' b=none)->∀b∈G,Qy (Jj X N scope (s.heap.objs.size+1) G s H) [] H' b:=λhn b hb=>by
  obtain⟨f0,f1,f2,f3,f4,f5⟩:=hf b hb;refine⟨hn b hb,?_,?_,.inl hb,?_,λp hp=>(by simp[Jj] at hp)⟩
  .intro z
   obtain⟨o,e⟩:=zz b hb;have:=au e;rw[show b=s.heap.objs.size+1 from z] at this;exact absurd this (Nat.not_lt.mpr (o8 _))
  .intro q
   rcases cj.mp (I.Xj b q) with z|z
   .exact f1 z
   .exact f2 z
  .intro x c hc
   exact f4 x c (B.inCells I.ok hc)
 have yk:∀b∈G,upd H s.heap.objs.size (.lst []) b=none:=λb hb=>by obtain⟨o,e⟩:=zz b hb;rw[j6 (fu (au e))];exact(hf b hb).1
 have q3:∀s':Shared,s'={ s with heap:=qv,toks:=s.toks+([]:List (Str×Value)).length }->codeAny (model X.prog X.w) X.A (.compLoop (.ListComp elt [⟨tg,iter,ifs,0⟩] scope pos) 0 (.ref it) (.ref s.heap.objs.size) (compEnvC scope (Hj X.env.cells scope.names []) (s.heap.objs.size+1) X.env))
  (RR (.ref s.heap.objs.size) (s.heap.objs.size+1)) s':=by
  rintro s' rfl;refine Kc (λn s'=>∃i qk H',Inv (Jj X N scope (s.heap.objs.size+1) G s H) [] qk H' s'/\(∀(j:Nat) v,(σ++List.replicate (N.length-X.N.length) none)[j]?=some (some v)->qk[j]?=some (some v))/\tn i s'.heap/\(∀b∈G,H' b=none)/\W i n H') ?_ m0
   ⟨0,_,_,I0,λ_ _ z=>z,T.keep 0 _ _ h0 (λb _ o e=>q4 b o e),yk,w0⟩
  rintro n s3 ⟨i,z4,H3,I3,k3,z0,z3,w3⟩;have z7:=I3.weak (σ':=σ++List.replicate (N.length-X.N.length) none) (by rw[I3.len];exact I0.len) k3;rcases z6 i n H3 w3 with⟨z2,qn⟩|⟨go,step⟩
  .refine zg (T.done (Jj X N scope (s.heap.objs.size+1) G s H) rfl rfl rfl Gv i [] s3 _ H3 (λ_ _=>False) z7 (zk z3) z0 z2) λr s4 z_=>?_
   obtain⟨hr,I4⟩:=z_;subst hr;exact y0 _ _ _ I4 qn
  .refine zg (T.item (Jj X N scope (s.heap.objs.size+1) G s H) rfl rfl rfl Gv i [] s3 _ H3 (λ_ _=>False) z7 (zk z3) z0 go) λr s4 z_=>?_
   obtain⟨u,hr,h4⟩:=z_;subst hr;refine zg h4 λ_ s5 z_=>?_
   obtain⟨x,H5,I5,r5,y5,zv,yv⟩:=z_;have z9:=I5.pinned (zk yv) (T.obj _ _ zv);refine zg (hg _ _ _ _ s5 _ H5 x u _ z9 r5 (step x H5 y5)) λ_ s6 z_=>?_
   obtain⟨qq,H6,I6,l6,k6,q6⟩:=z_;have q0:∀{aef:Zp}{H7:Hp}{s7:Shared}{m:Nat},Inv (Jj X N scope (s.heap.objs.size+1) G s H) ([]++O8 G s5.heap) qq H7 s7->m<n->W (i+1) m H7 ->
    ∃m,m<n/\∃i qk H',Inv (Jj X N scope (s.heap.objs.size+1) G s H) [] qk H' s7/\(∀(j:Nat) v,(σ++List.replicate (N.length-X.N.length) none)[j]?=some (some v)->qk[j]?=some (some v))/\tn i s7.heap/\(∀b∈G,H' b=none)/\W i m H':=fun{_ H7 s7 m} I7 hm w7=>by
    refine⟨m,hm,i+1,qq,H7,I7.J9,k6,T.keep _ _ _ zv λb hb o e=>(I7.pin (b,o) (fj _ (fj _ (Ij hb e)))).1,λb hb=>?_,w7⟩;obtain⟨o,e,d⟩:=T.obj _ _ zv b hb;exact(I7.pin (b,o) (fj _ (fj _ (Ij hb e)))).2.1
   have q5:wpAny (model X.prog X.w) X.A (forIn ifs true λc r=>if r=true then do let ok <- isTrue c (compEnvC scope (Hj X.env.cells scope.names []) (s.heap.objs.size+1) X.env) (eval c (compEnvC scope (Hj X.env.cells scope.names []) (s.heap.objs.size+1) X.env));pure (ForInStep.yield ok) else pure (ForInStep.yield r))
    (TP (Jj X N scope (s.heap.objs.size+1) G s H) ([]++O8 G s5.heap) qq λb H3 =>
     if b=true then te qq H3 λv H4=>∃xs R,H4 s.heap.objs.size=some (.lst xs)/\xs.length<sizeLine/\R<n/\W (i+1) R (upd H4 s.heap.objs.size (.lst (xs++[v]))) else ∃R,R<n/\W (i+1) R H3) (λ_ _=>False) s6:=by
    rcases hc (s.heap.objs.size+1) s H with⟨rfl,rfl⟩|⟨c,rfl,yy⟩
    .exact wpAny_tests_nil ⟨H6,I6,q6⟩
    .exact wpAny_tests_one (yy _ s6 qq H6 _ I6 q6)
   refine zg q5 λok s7 z_=>?_
   obtain⟨H7,I7,q7⟩:=z_;cases ok with
   |false =>
    obtain⟨R,hm,w7⟩:=(show ∃R,R<n/\W (i+1) R H7 from q7);exact q0 (aef:=[]) I7 hm w7
   |true =>
    show wpAny _ _ _ _ _ _;refine zg (he _ _ _ _ s7 qq H7 _ I7 q7) λx s8 z_=>?_
    obtain⟨v,H8,I8,r8,xs,R,hD,hl,hm,w8⟩:=z_;refine zg (Vy _ s8 qq H8 (.ref s.heap.objs.size) [v] (.ref s.heap.objs.size) [x] (λ_ H'=>W (i+1) R H') I8 rfl (.cons r8 .nil) ⟨_,xs,v,rfl,rfl,hD,hl,w8⟩) λ_ s9 z_=>?_
    obtain⟨_,H9,I9,_,w9⟩:=z_;exact q0 (aef:=[]) I9 hm w9
 rw[zw];exact codeAny_compStart_list (q3 _ rfl) (T.self _ 0 _ _ _ (T.keep 0 _ _ h0 (λb _ o e=>q4 b o e)) (q3 _ rfl))
def aeu(B:Eo X N scope)(Gv:X.calm=true)(hi:PI X tg iter wi)(hg:∀C Z s H,PG (Jj X N scope C Z s H) tg g)(hc:∀C Z s H,PTs (Jj X N scope C Z s H) ifs tc)(he:∀C Z s H,PE (Jj X N scope C Z s H) elt te)(hs:∀x,foldedSetIterable iter X.env x=pure x):PE X (.ListComp elt [⟨tg,iter,ifs,0⟩] scope pos) (Z8 (N.length-X.N.length) wi g tc te):=by intro G s σ H Q I h;rw[eval_ListComp];refine wpAny_comprehension_free (use:=none) rfl hs (B.clos I.ok) B.kind B.locs (zg (hi G s σ H _ I h) λv s1 h1=>zg h1 λq0 s2 h2=>?_);obtain⟨it,Z,tn,J,H2,rfl,R,T,qk,f2,q2⟩:=h2;obtain⟨W,⟨m0,w0⟩,U⟩:=q2 s2.heap.objs.size (R.yp.fresh (bc _));refine Ub (RR:=λqq C=>compPost (model X.prog X.w) X.A X.xe none (EP X G σ Q) qq C) B Gv R f2 T qk (λC s H=>hg C Z s H) (λC s H=>hc C Z s H) (λC s H=>he C Z s H) W w0 U ?_;intro q1 H3 s3 I3 q3;obtain⟨J3,m,hn⟩:=V0 R f2 I3;exact⟨m,hn,λh' qv=>⟨.ref s2.heap.objs.size,H3,agy R J3 I3.free qv,rfl,q3⟩⟩
set_option tactic.hygienic true in
def aev(B:Eo X N scope)(Gv:X.calm=true)(hi:PI X tg iter wi)(hg:∀C G s H,PG (Jj X N scope C G s H) tg g)(hc:∀C G s H,PTs (Jj X N scope C G s H) ifs tc)(he:∀C G s H,PE (Jj X N scope C G s H) elt te)(hs:∀x,foldedSetIterable iter X.env x=pure x)(hN:X.N.Nodup)(hy:X.N[i]?=some y)(hl:X.env.scope.names.lookup y=some .local)(qq:swapsWith (.ListComp elt [⟨tg,iter,ifs,0⟩] scope pos) (some (.Name y py)) akv.line X.env=pure true) :
 PS X (.Assign [.Name y py] (.ListComp elt [⟨tg,iter,ifs,0⟩] scope pos) akv) (aus (Z8 (N.length-X.N.length) wi g tc te) (aeg i)):=by
 intro Z s σ H D I h;rw[exec_Assign_Name_used _ _ _ _ qq];refine aa (wpAny_standAt (aa ?_));show wpAny _ _ (do let _ <- comprehension (.ListComp elt [⟨tg,iter,ifs,0⟩] scope pos) scope X.env _ (newList []) false (eval iter X.env) (some (assign (.Name y py) X.env))) _ _ s;refine aa (mj (wpAny_comprehension_free (use:=some (assign (.Name y py) X.env)) (Q:=λ_ s'=>SP X Z D .next s') rfl hs (B.clos I.ok) B.kind B.locs
  (zg (hi Z s σ H _ I h) λv s1 h1=>zg h1 λq7 Y h2=>?_)) (λ_ s' hq=>aj (aj hq)) λ_ _ e=>e)
 obtain⟨it,G,tn,J,H2,rfl,U,T,qv,f2,q2⟩:=h2;obtain⟨W,⟨m0,w0⟩,S⟩:=q2 Y.heap.objs.size (U.yp.fresh (bc _));refine Ub (RR:=λqk C=>compPost (model X.prog X.w) X.A X.xe (some (assign (.Name y py) X.env)) (λ_ s'=>SP X Z D .next s') qk C) (Q:=λx H1=>aeg i x σ H1 D.nx) B Gv U f2 T qv (λC s H=>hg C G s H) (λC s H=>hc C G s H) (λC s H=>he C G s H) W w0 S ?_;intro zz H3 s3 I3 q3;obtain⟨J3,m,hn⟩:=V0 U f2 I3;have q5:=I3.free;obtain⟨u,_,_,L,q6,_⟩:=id hn;have big:∀b o,Y.heap.get? b=some o->b≠Y.heap.objs.size+1:=λb o e z=>by have:=au e;rw[z] at this;exact absurd this (Nat.not_lt.mpr (o8 _))
 have R:Y.heap.objs.size+1≠X.env.locals:=λe=>by obtain⟨m,⟨o,_,_,ho,_⟩,_⟩:=U.loc;exact big _ o ho e.symm
 have J4:Inv X (Z++[(Y.heap.objs.size+1,u)]) σ H3 s3:=J3.Xk λp hp=>by
  rcases bz.mp hp with q|q
  .exact J3.pin p (fj _ q)
  .have e:p=(Y.heap.objs.size+1,u):=by simpa using q
   subst e;refine⟨L,q5,R,λhb=>?_,λv z=>by rw[q6] at z;cases z⟩;exact U.ay7 (o8 _) hb
 show wpAny (model X.prog X.w) X.A (assign (.Name y py) X.env (.ref Y.heap.objs.size)) _ _ s3;refine zg (Xm (pos:=py) hN hy (.inl hl) (.inr hl) (Z++[(Y.heap.objs.size+1,u)]) s3 σ H3 (.ref Y.heap.objs.size) (.ref Y.heap.objs.size) D.nx J4 rfl q3) λ_ s4 z_=>?_
 obtain⟨q0,H4,I4,q4⟩:=z_;have pC:=I4.pin (Y.heap.objs.size+1,u) (fj _ (fj _ (by simp)));refine⟨m,hn.at' λo e=>by rw[L] at e;cases e;exact pC.1,λh' q1=>⟨q0,H4,?_,q4⟩⟩;refine(I4.J9).turned (t':=s4.toks) (λb o hb e=>q1.extBut b o hb e) pC.2.1 R (.inr (bj U.sz (o8 _))) ?_ ?_
 .intro x c hc
  obtain⟨v,o,ho,_⟩:=U.cell x c hc;exact big c o ho
 .intro p hp
  exact big p.1 p.2 (U.pin p hp).1
end L2
namespace Sm
open PySem L2
open MW (Ex De OEx Mg zx j8 Lv Tg Res dm MO Kv Cp Op2 Blt Bm Kx)
abbrev Dv:=MW.D
abbrev En:=MW.Env
structure Io where
 l:List Addr
 δ:List Addr
noncomputable def Io.add(Z:Io)(p:Addr):Io:=⟨Z.l++[p],Z.δ⟩
noncomputable def Io.hide(Z:Io)(p:Addr):Io:=⟨Z.l,p::Z.δ⟩
def Io.off(Z:Io)(a:Addr):Prop:=a∉Z.l/\a∉Z.δ
def Xw(K:Fg)(H:Hp)(a:Addr)(G:List V):Prop :=
 (∃o,H a=some (.Hd o (.lst G))) \/
  ∃(o:Obj)(Z:Xt)(n:Nat),K.lookup a=some o/\o.cls=.type "list"/\o.dict=none/\o.data=.seq Z n/\Z.size<=sizeLine/\Vals G Z.toList
def Xw.sq(h:Xw K H a vs):Ec K H a vs:=by
 rcases h with⟨o,h⟩|h
 .exact .inl (.inr ⟨o,h⟩)
 .exact .inr h
mutual
inductive Rep(K:Fg)(ι:Io)(H:Hp):Dv->V->Prop
 |non:Rep K ι H .non .non
 |bl (b:Bool):Rep K ι H (.bl b) (.bl b)
 |int (i:Int):Rep K ι H (.int i) (.int i)
 |str (s:Str):Rep K ι H (.str s) (.str s)
 |tup {a:Addr} {ds:List Dv} {vs:List V} (e:H a=some (.tup vs)) (r:my K ι H ds vs):Rep K ι H (.tup ds) (.ref a)
 |vl {a:Addr} {ds:List Dv} {vs:List V} (e:H a=some (.lst vs)) (n:ι.off a) (r:my K ι H ds vs):Rep K ι H (.vl ds) (.ref a)
 |fz {a:Addr} {ds:List Dv} {vs:List V} (e:Xw K H a vs) (r:my K ι H ds vs):Rep K ι H (.fz ds) (.ref a)
 |ref {n:Nat} {a:Addr} (e:ι.l[n]?=some a):Rep K ι H (.ref n) (.ref a)
inductive my(K:Fg)(ι:Io)(H:Hp):List Dv->List V->Prop
 |nil:my K ι H [] []
 |cons {d:Dv} {v:V} {ds:List Dv} {vs:List V} (h:Rep K ι H d v) (t:my K ι H ds vs):my K ι H (d::ds) (v::vs)
end
structure Le(ι:Io)(H:Hp)(ι':Io)(H':Hp):Prop where
 ext:∃Y,ι'.l=ι.l++Y/\∀a∈Y,H a=none
 del:ι'.δ=ι.δ
 tup:∀a vs,H a=some (.tup vs)->H' a=some (.tup vs)
 Hd:∀a o u,H a=some (.Hd o u)->H' a=some (.Hd o u)
 lst:∀a vs,a∉ι.l->H a=some (.lst vs)->H' a=some (.lst vs)
 dom:∀a,H' a=none->H a=none
def Le.refl(Z:Io)(H:Hp):Le Z H Z H:=⟨⟨[],by simp,by simp⟩,rfl,λ_ _ h=>h,λ_ _ _ h=>h,λ_ _ _ h=>h,λ_ h=>h⟩
def Ew{H H':Hp}(U:∀a u,H a=some u->∃G,H' a=some G)(h:H' a=none):H a=none:=by
 cases e:H a with
 |none=>rfl|some u=>obtain⟨G,Z⟩:=U a u e;rw[h] at Z;cases Z
def Le.get(l:Le G H Z U){n:Nat}(h:G.l[n]?=some a):Z.l[n]?=some a:=by obtain⟨Y,e,_⟩:=l.ext;rw[e,gr (ak.mp h).1];exact h
def Le.avn(l:Le R H Z H')(h:a∉R.l)(G:H a=some o):a∉Z.l:=by
 obtain⟨Y,e,U⟩:=l.ext;rw[e];intro m;rcases bz.mp m with q|q
 .exact h q
 .rw[U a q] at G;cases G
def Le.out(l:Le U H Z R)(h:U.off a)(G:H a=some o):Z.off a:=⟨l.avn h.1 G,by rw[l.del];exact h.2⟩
theorem Le.trans(a:Le ι H R H1)(b:Le R H1 U H2):Le ι H U H2:=by
 obtain⟨Y,e1,h1⟩:=a.ext;obtain⟨Z,e2,h2⟩:=b.ext;refine⟨⟨Y++Z,by rw[e2,e1,v9],λx m=>?_⟩,b.del.trans a.del,λx G h=>b.tup x G (a.tup x G h),λx o u h=>b.Hd x o u (a.Hd x o u h),λx G n h=>b.lst x G (a.avn n h) (a.lst x G n h),λx h=>a.dom x (b.dom x h)⟩;rcases bz.mp m with q|q
 .exact h1 x q
 .exact a.dom x (h2 x q)
structure LeX(ι:Io)(H:Hp)(ι':Io)(H':Hp):Prop where
 ext:∃Y,ι'.l=ι.l++Y/\∀a∈Y,H a=none
 del:∀a∈ι'.δ,a∈ι.δ\/H a=none
 tup:∀a vs,H a=some (.tup vs)->H' a=some (.tup vs)
 Hd:∀a o u,H a=some (.Hd o u)->H' a=some (.Hd o u)
 lst:∀a vs,a∉ι.l->H a=some (.lst vs)->H' a=some (.lst vs)
def Le.toX(l:Le G H Z H'):LeX G H Z H':=⟨l.ext,λa h=>.inl (by rw[<- l.del];exact h),l.tup,l.Hd,l.lst⟩
def LeX.get(l:LeX G H Z U){n:Nat}(h:G.l[n]?=some a):Z.l[n]?=some a:=by obtain⟨Y,e,_⟩:=l.ext;rw[e,gr (ak.mp h).1];exact h
def LeX.out(l:LeX R H G H')(h:R.off a)(Z:H a=some o):G.off a:=by
 obtain⟨Y,e,U⟩:=l.ext;refine⟨λm=>?_,λm=>?_⟩
 .rw[e] at m
  rcases bz.mp m with q|q
  .exact h.1 q
  .rw[U a q] at Z;cases Z
 .rcases l.del a m with q|q
  .exact h.2 q
  .rw[q] at Z;cases Z
structure Tr(K:Fg)(ι:Io)(H:Hp)(ι':Io)(H':Hp):Prop where
 tup:∀a vs,H a=some (.tup vs)->H' a=some (.tup vs)
 vl:∀a vs,H a=some (.lst vs)->ι.off a->H' a=some (.lst vs)/\ι'.off a
 fz:∀a vs,Xw K H a vs->Xw K H' a vs
 rf:∀(n:Nat) a,ι.l[n]?=some a->ι'.l[n]?=some a
mutual
theorem Rep.tr{K:Fg}{G Z:Io}{H U:Hp}(l:Tr K G H Z U):∀{d:Dv}{v:V},Rep K G H d v->Rep K Z U d v
 |_,_,.non=>.non|_,_,.bl b=>.bl b|_,_,.int i=>.int i|_,_,.str s=>.str s|_,_,.tup e r=>.tup (l.tup _ _ e) (my.tr l r)|_,_,.vl e n r=>.vl (l.vl _ _ e n).1 (l.vl _ _ e n).2 (my.tr l r)|_,_,.fz e r=>.fz (l.fz _ _ e) (my.tr l r)|_,_,.ref e=>.ref (l.rf _ _ e)
theorem my.tr{K:Fg}{ι Z:Io}{H R:Hp}(l:Tr K ι H Z R):∀{G:List Dv}{U:List V},my K ι H G U->my K Z R G U
 |_,_,.nil=>.nil|_,_,.cons h t=>.cons (Rep.tr l h) (my.tr l t)
end
def LeX.tr(l:LeX U H Z H'):Tr K U H Z H':=⟨l.tup,λa G e n=>⟨l.lst _ _ n.1 e,l.out n e⟩,λa G e=>by
 rcases e with⟨o,e⟩|e
 .exact .inl ⟨o,l.Hd _ _ _ e⟩
 .exact .inr e,λ_ _ e=>l.get e⟩
def Rep.Gw(l:LeX G H Z U)(r:Rep K G H d v):Rep K Z U d v:=r.tr l.tr
def my.Gw(l:LeX G H Z U)(r:my K G H ds vs):my K Z U ds vs:=r.tr l.tr
def Rep.mono(l:Le G H Z U)(r:Rep K G H d v):Rep K Z U d v:=r.Gw l.toX
def my.mono(l:Le G H Z U)(r:my K G H ds vs):my K Z U ds vs:=r.Gw l.toX
theorem my.length{K:Fg}{U:Io}{H:Hp}:∀{G:List Dv}{Z:List V},my K U H G Z->G.length=Z.length:=by intro A B h;induction A generalizing B with|nil=>cases h;rfl|cons d A ih=>cases h with|cons _ t=>rw[d9,d9,ih t]
theorem my.get{K:Fg}{U:Io}{H:Hp}:∀{Z:List Dv}{G:List V}{i:Nat}{d:Dv},my K U H Z G->Z[i]?=some d->∃v,G[i]?=some v/\Rep K U H d v
 |_,_,_,_,.nil,e=>by simp at e|_,_,0,_,.cons h _,e=>by simp at e;subst e;exact⟨_,rfl,h⟩
 |_,_,i+1,d,.cons _ t,e=>by
  obtain⟨v,R,h2⟩:=my.get (i:=i) t (by simpa using e);exact⟨v,by simpa using R,h2⟩
theorem my.set{K:Fg}{Z:Io}{H:Hp}{d:Dv}{v:V}(r:Rep K Z H d v):∀{U:List Dv}{G:List V}(i:Nat),my K Z H U G->my K Z H (U.set i d) (G.set i v)
 |_,_,_,.nil=>.nil|_,_,0,.cons _ t=>.cons r t|_,_,i+1,.cons h t=>.cons h (my.set r i t)
theorem my.append{K:Fg}{Z:Io}{H:Hp}:∀{G es:List Dv}{R U:List V},my K Z H G R->my K Z H es U->my K Z H (G++es) (R++U):=by intro A _ B _ h r;induction A generalizing B with|nil=>cases h;exact r|cons d A ih=>cases h with|cons h t=>exact .cons h (ih t)
theorem my.drop{K:Fg}{U:Io}{H:Hp}:∀{G:List Dv}{Z:List V}(n:Nat),my K U H G Z->my K U H (G.drop n) (Z.drop n)
 |_,_,0,r=>r|_,_,_+1,.nil=>.nil|_,_,n+1,.cons _ t=>my.drop n t
theorem my.take{K:Fg}{U:Io}{H:Hp}:∀{G:List Dv}{Z:List V}(n:Nat),my K U H G Z->my K U H (G.take n) (Z.take n)
 |_,_,0,_=>.nil|_,_,_+1,.nil=>.nil|_,_,n+1,.cons h t=>.cons h (my.take n t)
theorem my.eraseIdx{K:Fg}{U:Io}{H:Hp}:∀{G:List Dv}{Z:List V}(n:Nat),my K U H G Z->my K U H (G.eraseIdx n) (Z.eraseIdx n)
 |_,_,_,.nil=>.nil|_,_,0,.cons _ t=>t|_,_,n+1,.cons h t=>.cons h (my.eraseIdx n t)
theorem my.ints{K:Fg}{G:Io}{H:Hp}:∀(Z:X9),my K G H (Z.map MW.D.int) (Z.map V.int)
 |[]=>.nil|n::r=>.cons (.int n) (my.ints r)
structure Nm where
 cls:Nat->Option Addr
 fld:Nat->Str
 inj:∀i j,fld i=fld j->i=j
inductive o5{κ κ':Type}(K:Fg)(ι:Io)(H:Hp)(f:κ->κ'->Prop):List (κ×Dv)->List (κ'×V)->Prop
 |nil:o5 K ι H f [] []
 |cons {k:κ} {k':κ'} {d:Dv} {v:V} {l:List (κ×Dv)} {l':List (κ'×V)} (hk:f k k') (h:Rep K ι H d v) (t:o5 K ι H f l l'):o5 K ι H f ((k,d)::l) ((k',v)::l')
theorem o5.tr{U Z:Type}{f:U->Z->Prop}(t:Tr K ι H G R){l:List (U×Dv)}{l':List (Z×V)}(h:o5 K ι H f l l'):o5 K G R f l l':=by
 induction h with
 |nil=>exact .nil|cons k h _ ih=>exact .cons k (h.tr t) ih
def o5.mono(le:Le G H Z U)(h:o5 K G H f l l'):o5 K Z U f l l':=h.tr le.toX.tr
def Ej(R:Nm)(K:Fg)(G:Io)(H:Hp)(o:MO)(a:Addr):Prop :=
 match o with
 |.lst ds=>∃U,H a=some (.lst U)/\my K G H ds U|.dT ni=>∃l,H a=some (.dT l)/\o5 K G H (λk Z=>k=Z) ni l
 |.ins c fs=>∃C dx l,R.cls c=some C/\H a=some (.ins C dx l)/\o5 K G H (λk Z=>Z=R.fld k) fs l
 |.dF ni=>∃l o,H a=some (.Hd o (.dT l))/\o5 K G H (λk Z=>k=Z) ni l
structure j7(nm:Nm)(K:Fg)(ι:Io)(H:Hp)(M:dm):Prop where
 len:ι.l.length=M.length
 nd:ι.l.Nodup
 del:∀a∈ι.δ,a∉ι.l/\∃vs,H a=some (.lst vs)
 obj:∀(n:Nat)(o:MO)(a:Addr),M[n]?=some o->ι.l[n]?=some a->Ej nm K ι H o a
def Mu:Option HO->Prop
 |some (.Hd _ (.dT _))=>True|u=>Mut u
theorem Ej.some(h:Ej nm K ι H o a):∃u,H a=some u/\Mu (H a):=by
 cases o with
 |lst R=>obtain⟨Z,e,_⟩:=h;exact⟨_,e,by rw[e];trivial⟩
 |dT G=>obtain⟨Z,e,_⟩:=h;exact⟨_,e,by rw[e];trivial⟩
 |ins c fs=>obtain⟨C,U,l,_,e,_⟩:=h;exact⟨_,e,by rw[e];trivial⟩
 |dF G=>obtain⟨Z,ob,e,_⟩:=h;exact⟨_,e,by rw[e];trivial⟩
def j7.addr(S:j7 nm K Z H M){n:Nat}(h:M[n]?=some o):∃a,Z.l[n]?=some a/\Ej nm K Z H o a:=by
 have G:n < Z.l.length:=by rw[S.len];exact MW.t8 h
 exact⟨Z.l[n],by simp[G],S.obj n o _ h (by simp[G])⟩
def j7.mem(S:j7 nm K G H M)(h:a∈G.l):∃u,H a=some u/\Mu (H a):=by
 obtain⟨n,Z,rfl⟩:=vd h;have U:n<M.length:=by rw[<- S.len];exact Z
 exact(S.obj n M[n] G.l[n] (by simp[U]) (by simp[Z])).some
def j7.fresh(S:j7 nm K Z H M)(h:H a=none):Z.off a:=by
 refine⟨λm=>?_,λm=>?_⟩
 .obtain⟨u,e,_⟩:=S.mem m
  rw[h] at e;cases e
 .obtain⟨_,G,e⟩:=S.del a m
  rw[h] at e;cases e
theorem Ej.tr(h:Ej nm K ι H o a)(t:Tr K ι H G U)(e:U a=H a):Ej nm K G U o a:=by
 cases o with
 |lst ds=>obtain⟨Z,q,r⟩:=h;exact⟨Z,e.trans q,r.tr t⟩
 |dT ni=>obtain⟨Z,q,r⟩:=h;exact⟨Z,e.trans q,r.tr t⟩
 |ins c fs=>obtain⟨C,R,l,hc,q,r⟩:=h;exact⟨C,R,l,hc,e.trans q,r.tr t⟩
 |dF ni=>obtain⟨Z,ob,q,r⟩:=h;exact⟨Z,ob,e.trans q,r.tr t⟩
def Ej.move(h:Ej nm K U H o a)(le:Le U H Z G)(e:G a=H a):Ej nm K Z G o a:=h.tr le.toX.tr e
def j7.laid(S:j7 nm K G H M)(h:H p=none)(o:HO):j7 nm K G (upd H p o) M/\Le G H G (upd H p o):=by
 have Z:∀a u,H a=some u->a≠p:=λa u e=>m5 e h
 have le:Le G H G (upd H p o):=⟨⟨[],by simp,by simp⟩,rfl,λa U e=>by rw[j6 (Z a _ e)];exact e,λa _ u e=>by rw[j6 (Z a _ e)];exact e,λa U _ e=>by rw[j6 (Z a _ e)];exact e,
  λa h'=>Ew (λb u e=>⟨u,by rw[j6 (Z b _ e)];exact e⟩) h'⟩
 refine⟨⟨S.len,S.nd,λa R=>?_,λn o' a hn R=>?_⟩,le⟩
 .obtain⟨h1,U,h2⟩:=S.del a R
  exact⟨h1,U,le.lst a U h1 h2⟩
 .have q:=S.obj n o' a hn R
  obtain⟨u,e,_⟩:=q.some;exact q.move le (by rw[j6 (Z a u e)])
def zu{Z:Type}{l:List Z}{x y:Z}(h:(l++[x])[n]?=some y):(l[n]?=some y)\/(n=l.length/\y=x):=by
 rcases jo n l.length with q|q
 .rw[gr q] at h;exact .inl h
 .rw[ou q] at h
  have:n-l.length=0:=by
   rcases Nat.eq_zero_or_pos (n-l.length) with z|z
   .exact z
   .rw[v7 (by simp;exact z)] at h;cases h
  rw[this] at h;simp at h;exact .inr ⟨by lia,h.symm⟩
def j7.new(S:j7 nm K Z H M)(h:H p=none)(G:∀a u,H a=some u->H' a=some u)(ho:Le Z H (Z.add p) H'->Ej nm K (Z.add p) H' o p):j7 nm K (Z.add p) H' (M++[o])/\Le Z H (Z.add p) H':=by
 have le:Le Z H (Z.add p) H':=⟨⟨[p],rfl,by simpa using h⟩,rfl,λa R e=>G _ _ e,λa _ u e=>G _ _ e,λa R _ e=>G _ _ e,λa h'=>Ew (H:=H) (H':=H') (λb u e=>⟨u,G b u e⟩) h'⟩;refine⟨⟨by simp[Io.add,S.len],?_,λa U=>?_,λn o' a hn U=>?_⟩,le⟩
 .exact mz.mpr ⟨S.nd,by simp,by
   intro x hx y hy;have:y=p:=by simpa using hy
   subst this;intro e;subst e;exact(S.fresh h).1 hx⟩
 .obtain⟨h1,R,h2⟩:=S.del a U
  exact⟨le.avn h1 h2,R,G _ _ h2⟩
 .rcases zu hn with q|⟨q,rfl⟩
  .rcases zu U with r|⟨r,_⟩
   .have z:=S.obj n o' a q r
    obtain⟨u,e,_⟩:=z.some;exact z.move le ((G a u e).trans e.symm)
   .exact absurd (MW.t8 q) (by rw[r,S.len];exact nu _)
  .rcases zu U with r|⟨_,rfl⟩
   .exact absurd (ak.mp r).1 (by rw[q,S.len];exact nu _)
   .exact ho le
def j7.put(S:j7 nm K U H M)(hn:M[n]?=some G)(ha:U.l[n]?=some a)(ho:Le U H U (upd H a u)->Ej nm K U (upd H a u) o a)(hd:∀k,G≠.dF k:=by nofun):j7 nm K U (upd H a u) (M.set n o)/\Le U H U (upd H a u):=by
 have Z:Mut (H a):=by
  have z:=S.obj n G a hn ha;cases G with
  |dF k=>exact absurd rfl (hd k)|ins c fs=>obtain⟨C,dx,l,_,e,_⟩:=z;rw[e];trivial
  |_=>obtain⟨vs,e,_⟩:=z;rw[e];trivial
 have hm:a∈U.l:=az ha;have le:Le U H U (upd H a u):=⟨⟨[],by simp,by simp⟩,rfl,λb vs e=>by rw[j6 (λz=>by subst z;rw[e] at Z;exact Z)];exact e,
  λb _ _ e=>by rw[j6 (λz=>by subst z;rw[e] at Z;exact Z)];exact e,λb vs nb e=>by rw[j6 (λz=>by subst z;exact nb hm)];exact e,λb h'=>Ew (λc w e=>by
   by_cases z:c=a
   .exact⟨u,by rw[z,qy]⟩
   .exact⟨w,by rw[j6 z];exact e⟩) h'⟩
 refine⟨⟨by rw[yd];exact S.len,S.nd,λb hb=>?_,λm o' b R hb=>?_⟩,le⟩
 .obtain⟨h1,vs,h2⟩:=S.del b hb
  exact⟨h1,vs,le.lst b vs h1 h2⟩
 by_cases q:m=n
 .subst q
  rw[MW.oh hn] at R;cases R;rw[ha] at hb;cases hb;exact ho le
 .rw[MW.jh (jr q)] at R
  have z:=S.obj m o' b R hb;have nb:b≠a:=λe=>by subst e;obtain⟨l1,e1⟩:=ak.mp hb;obtain⟨l2,e2⟩:=ak.mp ha;exact q ((wy S.nd).mp (e1.trans e2.symm))
  exact z.move le (by rw[j6 nb])
def apg(Z:H D=none):Tr K G H (G.hide D) (upd H D o) :=
 have k:∀{a u},H a=some u->upd H D o a=some u:=λe=>by rw[j6 (m5 e Z)];exact e
 ⟨λ_ _ e=>k e,λa U e n=>⟨k e,n.1,λm=>by
  rcases cj.mp m with q|q
  .exact m5 e Z q
  .exact n.2 q⟩,λ_ _ e=>e.imp (λ⟨q,e⟩=>⟨q,k e⟩) id,λ_ _ e=>e⟩
def aex(Z:H D=some (.lst U))(hm:D∈G.δ):Tr K G H G (upd H D (.lst R)) :=
 have k:∀{a u},a≠D->H a=some u->upd H D (.lst R) a=some u:=λn e=>by rw[j6 n];exact e
 ⟨λ_ _ e=>k (Zu e Z (by intro z;cases z)) e,λa U e n=>⟨k (λz=>by subst z;exact n.2 hm) e,n⟩,λ_ _ e=>e.imp (λ⟨q,e⟩=>⟨q,k (Zu e Z (by intro z;cases z)) e⟩) id,λ_ _ e=>e⟩
def Io.show(Z:Io)(H:Hp)(D:Addr):Tr K (Z.hide D) H Z H:=⟨λ_ _ e=>e,λ_ _ e n=>⟨e,n.1,λm=>n.2 (bh _ m)⟩,λ_ _ e=>e,λ_ _ e=>e⟩
theorem Rep.show(r:Rep K (Z.hide D) H d v):Rep K Z H d v:=r.tr (Z.show H D)
theorem my.show(r:my K (Z.hide D) H d v):my K Z H d v:=r.tr (Z.show H D)
theorem j7.hide(S:j7 nm K ι H M)(Z:H D=none):j7 nm K (ι.hide D) (upd H D (.lst [])) M:=by
 refine⟨S.len,S.nd,λa G=>?_,λn o a hn G=>?_⟩
 .rcases cj.mp G with q|q
  .subst q;exact⟨(S.fresh Z).1,[],qy⟩
  .obtain⟨h1,R,U⟩:=S.del a q
   exact⟨h1,R,by rw[j6 (m5 U Z)];exact U⟩
 .have z:=S.obj n o a hn G
  obtain⟨u,e,_⟩:=z.some;exact z.tr (apg Z) (by rw[j6 (m5 e Z)])
def j7.grow(S:j7 nm K R H M)(hD:H D=some (.lst vs))(U:D∈R.δ):j7 nm K R (upd H D (.lst ws)) M:=by
 refine⟨S.len,S.nd,λa Z=>?_,λn o a hn Z=>?_⟩
 .obtain⟨G,us,h2⟩:=S.del a Z
  by_cases z:a=D
  .subst z;exact⟨G,ws,qy⟩
  .exact⟨G,us,by rw[j6 z];exact h2⟩
 .have z:=S.obj n o a hn Z
  have ne:a≠D:=λe=>by subst e;exact(S.del a U).1 (az Z)
  exact z.tr (aex hD U) (by rw[j6 ne])
theorem j7.show(S:j7 nm K (G.hide D) H M):j7 nm K G H M :=
 ⟨S.len,S.nd,λa Z=>S.del a (bh _ Z),λn o a U Z=>(S.obj n o a U Z).tr (G.show H D) rfl⟩
structure LeD(D:Addr)(ι:Io)(H:Hp)(ι':Io)(H':Hp):Prop where
 ext:∃Y,ι'.l=ι.l++Y/\∀a∈Y,H a=none
 del:ι'.δ=D::ι.δ
 tup:∀a vs,H a=some (.tup vs)->H' a=some (.tup vs)
 Hd:∀a o u,H a=some (.Hd o u)->H' a=some (.Hd o u)
 lst:∀a vs,a∉ι.l->H a=some (.lst vs)->H' a=some (.lst vs)
 dom:∀a,H' a=none->H a=none
def LeD.toX(l:LeD D U H Z H')(G:H D=none):LeX U H Z H':=⟨l.ext,λa h=>by
 rw[l.del] at h;rcases cj.mp h with q|q
 .exact .inr (by rw[q];exact G)
 .exact .inl q,l.tup,l.Hd,l.lst⟩
def LeD.start(Z:H D=none)(o:HO):LeD D R H (R.hide D) (upd H D o) :=
 ⟨⟨[],by simp[Io.hide],by simp⟩,rfl,λa G e=>by rw[j6 (m5 e Z)];exact e,λa _ _ e=>by rw[j6 (m5 e Z)];exact e,λa G _ e=>by rw[j6 (m5 e Z)];exact e,
  λa U=>Ew (λb u e=>⟨u,by rw[j6 (m5 e Z)];exact e⟩) U⟩
def LeD.go(a:LeD D ι H U H1)(b:Le U H1 R H2):LeD D ι H R H2:=by
 obtain⟨Y,e1,h1⟩:=a.ext;obtain⟨Z,e2,h2⟩:=b.ext;have out:∀x o,x∉ι.l->H x=some o->x∉U.l:=λx o n h m=>by
  rw[e1] at m;rcases bz.mp m with q|q
  .exact n q
  .rw[h1 x q] at h;cases h
 refine⟨⟨Y++Z,by rw[e2,e1,v9],λx m=>?_⟩,b.del.trans a.del,λx G h=>b.tup x G (a.tup x G h),λx o u h=>b.Hd x o u (a.Hd x o u h),λx G n h=>b.lst x G (out x _ n h) (a.lst x G n h),λx h=>a.dom x (b.dom x h)⟩;rcases bz.mp m with q|q
 .exact h1 x q
 .exact a.dom x (h2 x q)
def LeD.grow(a:LeD D ι H G R)(U:H D=none)(hD:R D=some (.lst vs)):LeD D ι H G (upd R D (.lst ws)) :=
 ⟨a.ext,a.del,λx Z h=>by rw[j6 (m5 h U)];exact a.tup x Z h,λx o u h=>by rw[j6 (m5 h U)];exact a.Hd x o u h,λx Z n h=>by rw[j6 (m5 h U)];exact a.lst x Z n h,
  λx h=>a.dom x (by
   by_cases z:x=D
   .rw[z,qy] at h;cases h
   .rw[j6 z] at h;exact h)⟩
def LeD.done(a:LeD D G H ⟨Z.l,D::Z.δ⟩ H1):Le G H Z H1 :=
 ⟨a.ext,(xr a.del).2,a.tup,a.Hd,a.lst,a.dom⟩
inductive qe(K:Fg)(ι:Io)(H:Hp):En->St->Prop
 |nil:qe K ι H [] []
 |skp {y:Option V} {ρ:En} {σ:St} (t:qe K ι H ρ σ):qe K ι H (none::ρ) (y::σ)
 |has {d:Dv} {v:V} {ρ:En} {σ:St} (h:Rep K ι H d v) (t:qe K ι H ρ σ):qe K ι H (some d::ρ) (some v::σ)
theorem qe.Gw{K:Fg}{ι Z:Io}{H U:Hp}(le:LeX ι H Z U):∀{R:En}{G:St},qe K ι H R G->qe K Z U R G:=by intro _ _ h;induction h with|nil=>exact .nil|skp t ih=>exact .skp ih|has h t ih=>exact .has (h.Gw le) ih
theorem qe.mono{K:Fg}{ι Z:Io}{H U:Hp}(le:Le ι H Z U):∀{R:En}{G:St},qe K ι H R G->qe K Z U R G:=by intro _ _ h;induction h with|nil=>exact .nil|skp t ih=>exact .skp ih|has h t ih=>exact .has (h.mono le) ih
theorem qe.get{K:Fg}{ι:Io}{H:Hp}:∀{R:En}{U:St}{i:Nat}{d:Dv},qe K ι H R U->R[i]?=some (some d)->∃v,U[i]?=some (some v)/\Rep K ι H d v
 |_,_,_,_,.nil,e=>by simp at e|_,_,0,_,.skp _,e=>by simp at e|_,_,0,_,.has h _,e=>by simp at e;subst e;exact⟨_,rfl,h⟩
 |_,_,i+1,d,.skp t,e=>by
  obtain⟨v,Z,G⟩:=qe.get (i:=i) t (by simpa using e);exact⟨v,by simpa using Z,G⟩
 |_,_,i+1,d,.has _ t,e=>by
  obtain⟨v,Z,G⟩:=qe.get (i:=i) t (by simpa using e);exact⟨v,by simpa using Z,G⟩
theorem qe.set{K:Fg}{Z:Io}{H:Hp}{d:Dv}{v:V}(r:Rep K Z H d v):∀{G:En}{U:St}(i:Nat),qe K Z H G U->qe K Z H (G.set i (some d)) (U.set i (some v))
 |_,_,_,.nil=>.nil|_,_,0,.skp t=>.has r t|_,_,0,.has _ t=>.has r t|_,_,i+1,.skp t=>.skp (qe.set r i t)|_,_,i+1,.has h t=>.has h (qe.set r i t)
theorem qe.length{K:Fg}{U:Io}{H:Hp}:∀{Z:En}{G:St},qe K U H Z G->Z.length=G.length:=by intro _ _ h;induction h with|nil=>rfl|skp _ ih=>rw[d9,d9,ih]|has _ _ ih=>rw[d9,d9,ih]
theorem qe.append{K:Fg}{U:Io}{H:Hp}:∀{ρ G:En}{R Z:St},qe K U H ρ R->qe K U H G Z->qe K U H (ρ++G) (R++Z):=by intro _ _ _ _ h r;induction h with|nil=>exact r|skp t ih=>exact .skp ih|has h t ih=>exact .has h ih
theorem qe.akx{K:Fg}{G:Io}{H:Hp}:∀(k:Nat){Z:St},Z.length=k->qe K G H (List.replicate k none) Z
 |0,[],_=>.nil|k+1,_::r,h=>.skp (qe.akx k (by simpa using h))
theorem qe.aky{K:Fg}{U:Io}{H:Hp}:∀{G:List Dv}{Z:List V},my K U H G Z->qe K U H (G.map some) (Z.map some)
 |_,_,.nil=>.nil|_,_,.cons h t=>.has h (qe.aky t)
def dz{r:Res α}(h:r.bind f=.ok b M):∃a Z,r=.ok a Z/\f a Z=.ok b M:=by
 cases r with
 |ok a Z=>exact⟨a,Z,rfl,h⟩|bad=>cases h
def rm(h:Res.qj o M=.ok a Z):o=some a/\Z=M:=by
 cases o with
 |none=>cases h|some x=>cases h;exact⟨rfl,rfl⟩
def PE.weak(h:PE X e t)(w:∀Z H Q,t' Z H Q->t Z H Q):PE X e t':=λG s Z H Q I q=>h G s Z H Q I (w Z H Q q)
def PT.weak(h:PT X e t)(w:∀Z H Q,t' Z H Q->t Z H Q):PT X e t':=λG s Z H Q I q=>h G s Z H Q I (w Z H Q q)
def PA.weak(h:PA X es t)(w:∀Z H Q,t' Z H Q->t Z H Q):PA X es t':=λU G s Z H Q I q=>h U G s Z H Q I (w Z H Q q)
def PS.weak(h:PS X e t)(w:∀D Z H,t' D Z H->t D Z H):PS X e t':=λG s Z H D I q=>h G s Z H D I (w D Z H q)
def Oc.weak(h:Oc X e t)(w:∀D Z H,t' D Z H->t D Z H):Oc X e t':=λG s Z H D I q=>h G s Z H D I (w D Z H q)
def Az.weak(h:Az X f r)(w:∀x y H Q,r' x y H Q->r x y H Q):Az X f r':=λZ s U H x y v u Q I R G q=>h Z s U H x y v u Q I R G (w x y H Q q)
section
variable(nm:Nm)(W:Kv)(K:Fg)
def tE(e:Ex):TE:=fun σ H Q=>∃U ρ M d R,j7 nm K U H M/\qe K U H ρ σ/\e.den W ρ M=.ok d R/\∀Z G v,Le U H Z G->j7 nm K Z G R->Rep K Z G d v->Q v G
def tQ(e:Ex):TT:=fun σ H Q=>∃U ρ M b R,j7 nm K U H M/\qe K U H ρ σ/\e.den W ρ M=.ok (.bl b) R/\∀Z G,Le U H Z G->j7 nm K Z G R->Q b G
def Yr(es:De):TA:=fun σ H Q=>∃U ρ M ds R,j7 nm K U H M/\qe K U H ρ σ/\es.den W ρ M=.ok ds R/\∀Z G vs,Le U H Z G->j7 nm K Z G R->my K Z G ds vs->Q vs G
def Uc(D:Ends)(ι:Io)(H:Hp)(fl:MW.Flow)(R:En)(M:dm):Prop :=
 ∀Z U G,Le ι H Z U->j7 nm K Z U M->qe K Z U R G ->
  match fl with
  |.next=>D.nx G U|.brk=>D.bk G U|.cont=>D.ct G U|.ret d=>∀v,Rep K Z U d v->D.rt v U
def tS(st:zx):TS:=λD σ H=>∃G R M fl Z U,j7 nm K G H M/\qe K G H R σ/\st.den W R M=.ok (fl,Z) U/\Uc nm K D G H fl Z U
def tSs(st:j8):TS:=λD σ H=>∃G R M fl Z U,j7 nm K G H M/\qe K G H R σ/\st.den W R M=.ok (fl,Z) U/\Uc nm K D G H fl Z U
end
def PE.of(h:PE X a t)(w:∀σ H Q G ρ M d U,j7 nm X.K G H M->qe X.K G H ρ σ->e'.den W ρ M=.ok d U->(∀Z H' v,Le G H Z H'->j7 nm X.K Z H' U->Rep X.K Z H' d v->Q v H')->t σ H Q):PE X a (tE nm W X.K e'):=PE.weak h fun σ H Q z_=>by obtain⟨G,ρ,M,d,U,S,R,e,q⟩:=z_;exact w σ H Q G ρ M d U S R e q
def PT.of(h:PT X a t)(w:∀σ H Q G ρ M b U,j7 nm X.K G H M->qe X.K G H ρ σ->e'.den W ρ M=.ok (.bl b) U->(∀Z H',Le G H Z H'->j7 nm X.K Z H' U->Q b H')->t σ H Q):PT X a (tQ nm W X.K e'):=PT.weak h fun σ H Q z_=>by obtain⟨G,ρ,M,d,U,S,R,e,q⟩:=z_;exact w σ H Q G ρ M d U S R e q
def PA.of(h:PA X es t)(w:∀σ H Q G ρ M ds U,j7 nm X.K G H M->qe X.K G H ρ σ->qq.den W ρ M=.ok ds U->(∀Z H' vs,Le G H Z H'->j7 nm X.K Z H' U->my X.K Z H' ds vs->Q vs H')->t σ H Q):PA X es (Yr nm W X.K qq):=PA.weak h fun σ H Q z_=>by obtain⟨G,ρ,M,d,U,S,R,e,q⟩:=z_;exact w σ H Q G ρ M d U S R e q
def PS.of(h:PS X st t)(w:∀D σ H G ρ M fl Z U,j7 nm X.K G H M->qe X.K G H ρ σ->s'.den W ρ M=.ok (fl,Z) U->Uc nm X.K D G H fl Z U->t D σ H):PS X st (tS nm W X.K s'):=PS.weak h λD σ H z_=>by obtain⟨G,ρ,M,fl,Z,U,S,R,e,q⟩:=z_;exact w D σ H G ρ M fl Z U S R e q
def Oc.of(h:Oc X st t)(w:∀D σ H G ρ M fl Z U,j7 nm X.K G H M->qe X.K G H ρ σ->s'.den W ρ M=.ok (fl,Z) U->Uc nm X.K D G H fl Z U->t D σ H):Oc X st (tSs nm W X.K s'):=Oc.weak h λD σ H z_=>by obtain⟨G,ρ,M,fl,Z,U,S,R,e,q⟩:=z_;exact w D σ H G ρ M fl Z U S R e q
def one{X:Cx}{M1:dm}(S:j7 nm X.K ι H M)(R:qe X.K ι H ρ σ)(ha:a'.den W ρ M=.ok x M1)(h:∀Z U v,Le ι H Z U->j7 nm X.K Z U M1->qe X.K Z U ρ σ->Rep X.K Z U x v->G v U):tE nm W X.K a' σ H G :=
 ⟨ι,ρ,M,x,M1,S,R,ha,λqq H' v le S' r=>h qq H' v le S' (R.mono le) r⟩
theorem two{X:Cx}{M1 M2:dm}{G:V->V->Hp->Prop}(S:j7 nm X.K ι H M)(R:qe X.K ι H U σ)(ha:a'.den W U M=.ok x M1)(hb:b'.den W U M1=.ok y M2)(h:∀Z H2 v u,Le ι H Z H2->j7 nm X.K Z H2 M2->qe X.K Z H2 U σ->Rep X.K Z H2 x v->Rep X.K Z H2 y u->G v u H2) :
 tE nm W X.K a' σ H λv H1=>tE nm W X.K b' σ H1 λu H2=>G v u H2 :=
 one S R ha λqq H1 v Z9 S1 R1 r1=>one S1 R1 hb λZ H2 u xj S2 R2 r2=>h Z H2 v u (Z9.trans xj) S2 R2 (r1.mono xj) r2
set_option tactic.hygienic true in
def a0p(G:X.N[i]?=some n)(U:Vis X.env.scope n)(Z:(n==("__debug__" : Str))=false)(Y:(n==("__classdict__" : Str))=false):PE X (.Name n pos) (tE nm W X.K (.var i)) :=
 PE.of (aud G U Z Y) fun σ H Q L ρ M d u S R e q=>by
  rw[MW.am5] at e;split at e
  .rename_i d' Z
   cases e;obtain⟨v,J,C⟩:=R.get Z;exact⟨v,J,q L H v (Le.refl _ _) S C⟩
  .cases e
def a0q:PE X (.Constant (.int i) j pos) (tE nm W X.K (.cst (.int i))) :=
 PE.of aue fun σ H Q Z U M d G S R e q=>by rw[MW.Gi] at e;cases e;exact q Z H _ (Le.refl _ _) S (.int i)
def a73:PE X (.Constant (.bool i) j pos) (tE nm W X.K (.cst (.bl i))) :=
 PE.of aza fun σ H Q Z U M d G S R e q=>by rw[MW.Gi] at e;cases e;exact q Z H _ (Le.refl _ _) S (.bl i)
def a0r:PE X (.Constant .none j pos) (tE nm W X.K (.cst .non)) :=
 PE.of auf fun σ H Q Z U M d G S R e q=>by rw[MW.Gi] at e;cases e;exact q Z H _ (Le.refl _ _) S .non
def a0s:PE X (.Constant (.str i) j pos) (tE nm W X.K (.cst (.str i))) :=
 PE.of auh fun σ H Q Z U M d G S R e q=>by rw[MW.Gi] at e;cases e;exact q Z H _ (Le.refl _ _) S (.str i)
def avo(G:Gl X n)(U:X.mg n=some (.int i t))(Z:(n==("__debug__" : Str))=false):PE X (.Name n pos) (tE nm W X.K (.cst (.int i))) :=
 PE.of (aon (v:=.int i) G U ⟨t,rfl⟩ Z) fun σ H Q ι ρ M d M' S R e q=>by rw[MW.Gi] at e;cases e;exact q ι H _ (Le.refl _ _) S (.int i)
def rOp(nm:Nm)(K:Fg)(f:Dv->Dv->dm->Res Dv):R2:=λv u H Q=>∃U M x y d R,j7 nm K U H M/\Rep K U H x v/\Rep K U H y u/\f x y M=.ok d R /\
 ∀Z G w,Le U H Z G->j7 nm K Z G R->Rep K Z G d w->Q w G
def Az.of(h:Az X f r)(w:∀v u H Q G M x y d U,j7 nm X.K G H M->Rep X.K G H x v->Rep X.K G H y u->g x y M=.ok d U->(∀Z R w,Le G H Z R->j7 nm X.K Z R U->Rep X.K Z R d w->Q w R)->r v u H Q):Az X f (rOp nm X.K g) :=
 Az.weak h λv u H Q z_=>by obtain⟨G,M,x,y,d,U,S,rv,ru,e,q⟩:=z_;exact w v u H Q G M x y d U S rv ru e q
def a0t(ho:Az X (binaryOp op) (rOp nm X.K (MW.Ba U)))(ha:PE X a (tE nm W X.K a'))(hb:PE X b (tE nm W X.K b')):PE X (.BinOp a op b pos) (tE nm W X.K (.bin U a' b')) :=
 PE.of (azp ho ha hb) fun σ H Q ι ρ M d M' S R e q=>by rw[MW.ac3] at e;obtain⟨x,M1,e1,e⟩:=dz e;obtain⟨y,M2,e2,e⟩:=dz e;exact two S R e1 e2 λZ H2 v u le S2 _ rv ru=>⟨Z,M2,x,y,d,M',S2,rv,ru,e,λG H' w V1 S' r=>q G H' w (le.trans V1) S' r⟩
def a0u:Az X (binaryOp .Sub) (rOp nm X.K (MW.Ba .sub)) :=
 Az.of au0 λv u H Q U M x y d M' S Z R e q=>by obtain⟨i,j,rfl,rfl,G⟩:=MW.abg e (by intro z;cases z);cases Z;cases R;cases G;exact⟨_,_,rfl,rfl,q U H _ (Le.refl _ _) S (.int _)⟩
def api{g:Int->Int->Int}{P:Int->Int->Prop}[∀i j,Decidable (P i j)](h:Az X (binaryOp op) r)(R:∀x y M,MW.Ba U x y M=MW.ii x y (λi j=>if P i j then .ok (.int (g i j)) M else .bad) .bad)(w:∀i j H Q,P i j->Q (.int (g i j)) H->r (.int i) (.int j) H Q):Az X (binaryOp op) (rOp nm X.K (MW.Ba U)) :=
 Az.of h λv u H Q ι M x y d M' S rv ru e q=>by
  rw[R] at e;obtain⟨i,j,rfl,rfl,Z⟩:=MW.abg e (by intro z;cases z)
  by_cases G:P i j
  .rw[bx G] at Z
   cases rv;cases ru;cases Z;exact w i j H Q G (q ι H _ (Le.refl _ _) S (.int _))
  .rw[bw G] at Z;cases Z
def a0v:Az X (binaryOp .Mod) (rOp nm X.K (MW.Ba .mod)):=api au2 (λ_ _ _=>rfl) λi j H Q h q=>⟨_,_,rfl,rfl,h,q⟩
def avp:Az X (binaryOp .FloorDiv) (rOp nm X.K (MW.Ba .fdiv)):=api aou (λ_ _ _=>rfl) λi j H Q h q=>⟨_,_,rfl,rfl,h,q⟩
def a0w:Az X (binaryOp .Pow) (rOp nm X.K (MW.Ba .pow)):=api au3 (λ_ _ _=>rfl) λi j H Q h q=>⟨_,_,rfl,rfl,⟨h.1,by omega,h.2.2⟩,q⟩
set_option tactic.hygienic true in
def qw{X:Cx}(S:j7 nm X.K Z H M)(r:Rep X.K Z H d v)(h:MW.gj M d=some ds):∃p vs,v=.ref p/\H p=some (.lst vs)/\my X.K Z H ds vs:=by
 cases r with
 |vl e n r=>simp[MW.gj] at h;subst h;exact⟨_,_,rfl,e,r⟩
 |ref e =>
  rename_i n p;simp only[MW.gj] at h;split at h<;>simp at h;rename_i Y J;subst h;obtain⟨vs,G,U⟩:=S.obj n _ p J e;exact⟨p,vs,rfl,G,U⟩
 |_=>simp[MW.gj] at h
def Fd{X:Cx}(S:j7 nm X.K R H M)(r:Rep X.K R H d v)(h:MW.j9 M d=some ds):∃p vs,v=.ref p/\(H p=some (.lst vs)\/H p=some (.tup vs))/\my X.K R H ds vs:=by
 cases r with
 |tup e r=>simp[MW.j9] at h;subst h;exact⟨_,_,rfl,.inr e,r⟩
 |vl e n r =>
  obtain⟨p,vs,U,G,Z⟩:=qw S (.vl e n r) (show MW.gj M _=_ from h);exact⟨p,vs,U,.inl G,Z⟩
 |ref e =>
  obtain⟨p,vs,U,G,Z⟩:=qw S (.ref e) (show MW.gj M _=_ from h);exact⟨p,vs,U,.inl G,Z⟩
 |_=>simp[MW.j9,MW.gj] at h
def Xx{X:Cx}(S:j7 nm X.K Z H M)(U:H p=none)(r:my X.K Z H ds G):j7 nm X.K Z (upd H p (.lst G)) M/\Le Z H Z (upd H p (.lst G))/\Rep X.K Z (upd H p (.lst G)) (.vl ds) (.ref p):=by obtain⟨R,le⟩:=S.laid U (.lst G);exact⟨R,le,.vl qy (S.fresh U) (r.mono le)⟩
def Ik{X:Cx}(S:j7 nm X.K Z H M)(U:H p=none)(r:my X.K Z H ds G):j7 nm X.K Z (upd H p (.tup G)) M/\Le Z H Z (upd H p (.tup G))/\Rep X.K Z (upd H p (.tup G)) (.tup ds) (.ref p):=by obtain⟨R,le⟩:=S.laid U (.tup G);exact⟨R,le,.tup qy (r.mono le)⟩
def aey{X:Cx}(S:j7 nm X.K Z H M)(U:H p=none)(r:my X.K Z H ds G):j7 nm X.K (Z.add p) (upd H p (.lst G)) (M++[.lst ds])/\Le Z H (Z.add p) (upd H p (.lst G))/\Rep X.K (Z.add p) (upd H p (.lst G)) (.ref M.length) (.ref p):=by
 obtain⟨R,le⟩:=S.new (H':=upd H p (.lst G)) (o:=.lst ds) U (λa u e=>by rw[j6 (m5 e U)];exact e) λle=>⟨G,qy,r.mono le⟩
 exact⟨R,le,.ref (by show(Z.l++[p])[M.length]?=some p;rw[<- S.len];simp)⟩
def Ud:(100000:Nat)<=sizeLine:=by decide
set_option tactic.hygienic true in
def apj(h:MW.Ba .add x y M=.ok d M'):(∃i j,x=.int i/\y=.int j/\d=.int (i+j)/\M'=M) \/
 (∃Y Z,x=.tup Y/\y=.tup Z/\Y.length+Z.length<=100000/\d=.tup (Y++Z)/\M'=M) \/
 ∃Y Z,MW.gj M x=some Y/\MW.gj M y=some Z/\Y.length+Z.length<=100000/\d=.vl (Y++Z)/\M'=M:=by
 have h:MW.ah0 x y M=.ok d M':=h;unfold MW.ah0 at h;split at h<;>try cases h
 .exact .inl ⟨_,_,rfl,rfl,rfl,rfl⟩
 .split at h<;>cases h
  rename_i U;exact .inr (.inl ⟨_,_,rfl,rfl,U,rfl,rfl⟩)
 .split at h
  .split at h<;>cases h
   rename_i J C G;exact .inr (.inr ⟨_,_,J,C,G,rfl,rfl⟩)
  .cases h
def a0x:Az X (binaryOp .Mult) (rOp nm X.K (MW.Ba .mul)):=api au1 (λ_ _ _=>rfl) λi j H Q h q=>⟨_,_,rfl,rfl,h,q⟩
def a0y:Az X (binaryOp .Add) (rOp nm X.K (MW.Ba .add)) :=
 Az.of (auz.or (avl.or apa)) λv u H Q ι M x y d M' S rv ru e q=>by
  have G:∀xs R,MW.gj M x=some xs->MW.gj M y=some R->xs.length+R.length<=100000->d=.vl (xs++R)->M'=M->a0j v u H Q:=λxs R h1 h2 hl hd hm=>by
   subst hd hm;obtain⟨p,vs,rfl,e1,Z⟩:=qw S rv h1;obtain⟨p2,qq,rfl,e2,U⟩:=qw S ru h2;refine⟨p,p2,vs,qq,rfl,rfl,e1,e2,?_,λp3 h3=>?_⟩
   .rw[<- Z.length,<- U.length];exact bj hl Ud
   .obtain⟨a,b,c⟩:=Xx S h3 (Z.append U)
    exact q ι _ _ b a c
  rcases apj e with⟨i,j,rfl,rfl,rfl,rfl⟩|⟨xs,R,rfl,rfl,hl,rfl,rfl⟩|⟨xs,R,h1,h2,hl,h3,h4⟩
  .cases rv;cases ru
   exact .inl ⟨_,_,rfl,rfl,q ι H _ (Le.refl _ _) S (.int _)⟩
  .cases rv with
   |tup e1 Z =>
    cases ru with
    |tup e2 U =>
     refine .inr (.inr ⟨_,_,_,_,rfl,rfl,Fb.of e1,Fb.of e2,?_,λhn=>?_,λhn=>?_,λp hp=>?_⟩)
     .rw[<- Z.length,<- U.length];exact bj hl Ud
     .have:=Z.length
      rw[hn] at this;rw[List.length_eq_zero_iff.mp this,List.nil_append] at q;exact q ι H _ (Le.refl _ _) S (.tup e2 U)
     .have:=U.length
      rw[hn] at this;rw[List.length_eq_zero_iff.mp this,yc] at q;exact q ι H _ (Le.refl _ _) S (.tup e1 Z)
     .obtain⟨a,b,c⟩:=Ik S hp (Z.append U)
      exact q ι _ _ b a c
  .exact .inr (.inl (G _ _ h1 h2 hl h3 h4))
def avq{t:TE}(h:PT X a (λZ H Q=>t Z H λx H1=>∃c,x=.bl c/\Q c H1))(w:∀Z H Q,tE nm W X.K a' Z H Q->t Z H Q):PT X a (tQ nm W X.K a') :=
 PT.of h λZ H Q ι ρ M b U S R e q=>w Z H _ ⟨ι,ρ,M,_,U,S,R,e,λG H' v le S' r=>by cases r;exact⟨b,rfl,q G H' le S'⟩⟩
def a00(h:PE X a (tE nm W X.K G))(U:∀Z,isTrue a X.env Z=(do let v <- Z;standAt a.pos;holding [v] (truthy v))):PT X a (tQ nm W X.K G) :=
 avq (aui h U) λ_ _ _ q=>q
def Uw(U:Nm)(K:Fg)(G:Cp):R2:=λv u H Q=>∃Z M x y b,j7 U K Z H M/\Rep K Z H x v/\Rep K Z H y u/\MW.Jk G x y M=some b/\Q (.bl b) H
def aaa{X:Cx}:∀G H Q,tE nm W X.K (.cmp U a' b') G H Q->tOp (Uw nm X.K U) (tE nm W X.K a') (tE nm W X.K b') G H Q:=λG H Q hh=>by obtain⟨ι,ρ,M,d,M',S,R,e,q⟩:=hh;rw[MW.Q5] at e;obtain⟨x,M1,e1,e⟩:=dz e;obtain⟨y,M2,e2,e⟩:=dz e;obtain⟨e,rfl⟩:=rm e;obtain⟨b,e3,rfl⟩:=bu.mp e;exact two S R e1 e2 λZ H2 v u le S2 _ rv ru=>⟨Z,M',x,y,b,S2,rv,ru,e3,q Z H2 _ le S2 (.bl b)⟩
def a01(ho:Az X (compareOp op) (Uw nm X.K Z))(U:PE X a (tE nm W X.K G))(hb:PE X b (tE nm W X.K R))(hm:behindInMarks op b=false):PE X (.Compare a [op] [b] pos) (tE nm W X.K (.cmp Z G R)) :=
 PE.weak (aov ho U hb hm) aaa
def a02(ho:Az X (compareOp op) (Uw nm X.K Z))(R:PE X a (tE nm W X.K G))(hb:PE X b (tE nm W X.K U))(hm:behindInMarks op b=false):PT X (.Compare a [op] [b] pos) (tQ nm W X.K (.cmp Z G U)) :=
 avq (t:=tOp (Uw nm X.K Z) (tE nm W X.K G) (tE nm W X.K U)) (aow ho R hb hm) aaa
def Ue{X:Cx}:∀σ H Q,tE nm W X.K (.chain op1 op2 a' b' c') σ H Q->Xn (Uw nm X.K op1) (Uw nm X.K op2) (tE nm W X.K a') (tE nm W X.K b') (tE nm W X.K c') σ H Q:=fun σ H Q hh=>by
 obtain⟨ι,ρ,M,d,M',S,R,e,q⟩:=hh;rw[MW.af5] at e;obtain⟨x,M1,e1,e⟩:=dz e;obtain⟨y,M2,e2,e⟩:=dz e;obtain⟨k,Z,e3,e⟩:=dz e;obtain⟨e3,rfl⟩:=rm e3;refine two S R e1 e2 λG H2 v u le S2 R2 rv ru=>⟨G,Z,x,y,k,S2,rv,ru,e3,k,rfl,?_⟩
 cases k with
 |false =>
  have e:Res.ok (MW.D.bl false) Z=.ok d M':=e;cases e;exact q G H2 _ le S2 (.bl false)
 |true =>
  have e:((c'.den W ρ Z).bind λz M3=>Res.qj ((MW.Jk op2 y z M3).map MW.D.bl) M3)=.ok d M':=e;obtain⟨z,M3,e4,e⟩:=dz e;obtain⟨e,rfl⟩:=rm e;obtain⟨b,e5,rfl⟩:=bu.mp e;show tE nm W X.K c' σ H2 _;exact one S2 R2 e4 λU H3 w Ri S3 _ rw=>⟨U,M',y,z,b,S3,ru.mono Ri,rw,e5,q U H3 _ (le.trans Ri) S3 (.bl b)⟩
def apk(h1:Az X (compareOp G) (Uw nm X.K op1))(h2:Az X (compareOp Z) (Uw nm X.K op2))(R:PE X a (tE nm W X.K U))(hb:PE X b (tE nm W X.K b'))(hc:PE X c (tE nm W X.K c'))(hm:lastMarks [G,Z] [b,c]=false) :
 PE X (.Compare a [G,Z] [b,c] pos) (tE nm W X.K (.chain op1 op2 U b' c')):=PE.weak (aka h1 h2 R hb hc hm) Ue
def apl(h1:Az X (compareOp R) (Uw nm X.K op1))(h2:Az X (compareOp G) (Uw nm X.K op2))(ha:PE X a (tE nm W X.K Z))(hb:PE X b (tE nm W X.K b'))(hc:PE X c (tE nm W X.K U))(hm:lastMarks [R,G] [b,c]=false) :
 PT X (.Compare a [R,G] [b,c] pos) (tQ nm W X.K (.chain op1 op2 Z b' U)):=avq (t:=Xn (Uw nm X.K op1) (Uw nm X.K op2) (tE nm W X.K Z) (tE nm W X.K b') (tE nm W X.K U)) (akb h1 h2 ha hb hc hm) Ue
def Xy(h:Az X (compareOp op) (rI0 λi j=>.bl (f i j)))(e:∀x y M,MW.Jk Z x y M=MW.Yw f x y):Az X (compareOp op) (Uw nm X.K Z) :=
 Az.weak h λv u H Q U=>by obtain⟨ι,M,x,y,b,S,R,ru,G,q⟩:=U;rw[e] at G;obtain⟨i,j,rfl,rfl,e2⟩:=MW.abg G (by intro z;cases z);cases R;cases ru;cases e2;exact⟨_,_,rfl,rfl,q⟩
def a75:Az X (compareOp .Lt) (Uw nm X.K .lt):=Xy azu λ_ _ _=>rfl
def a76:Az X (compareOp .LtE) (Uw nm X.K .le):=Xy azv λ_ _ _=>rfl
def a77:Az X (compareOp .Gt) (Uw nm X.K .gt):=Xy azw λ_ _ _=>rfl
def a78:Az X (compareOp .GtE) (Uw nm X.K .ge):=Xy azx λ_ _ _=>rfl
set_option tactic.hygienic true in
def ar0{Z:Ya}(U:PE X a (tE nm W X.K a'))(hb:PE X (.BoolOp .And (b::Z) pos) (tE nm W X.K C)):PE X (.BoolOp .And (a::b::Z) pos) (tE nm W X.K (.and a' C)) :=
 PE.of (aul U hb) fun σ H Q ι ρ M d M' S R e q=>by
  rw[MW.Er] at e;obtain⟨x,M1,L,e⟩:=dz e;refine one S R L λG u v le J R1 r=>?_
  cases r<;>try cases e
  rename_i k;refine⟨k,rfl,?_⟩;cases k with
  |false=>cases e;exact q G u _ le J (.bl false)|true=>exact one J R1 e λY H2 w xj S2 _ r2=>q Y H2 w (le.trans xj) S2 r2
set_option tactic.hygienic true in
def a03{Z:Ya}(U:PE X a (tE nm W X.K a'))(hb:PE X (.BoolOp .Or (b::Z) pos) (tE nm W X.K C)):PE X (.BoolOp .Or (a::b::Z) pos) (tE nm W X.K (.or a' C)) :=
 PE.of (aze U hb) fun σ H Q ι ρ M d M' S R e q=>by
  rw[MW.Wo] at e;obtain⟨x,M1,L,e⟩:=dz e;refine one S R L λG u v le J R1 r=>?_
  cases r<;>try cases e
  rename_i k;refine⟨k,rfl,?_⟩;cases k with
  |true=>cases e;exact q G u _ le J (.bl true)|false=>exact one J R1 e λY H2 w xj S2 _ r2=>q Y H2 w (le.trans xj) S2 r2
def a04(U:PE X a (tE nm W X.K G)):PE X (.UnaryOp .Not a pos) (tE nm W X.K (.not G)) :=
 PE.of (aum U) fun σ H Q ι ρ M d M' S R e q=>by
  rw[MW.ac4] at e;obtain⟨x,M1,e1,e⟩:=dz e;refine one S R e1 λZ H1 v le S1 R1 r=>?_
  cases r<;>try cases e
  exact⟨_,rfl,q Z H1 _ le S1 (.bl _)⟩
def Xz{X:Cx}{M1:dm}(S:j7 nm X.K ι H M)(R:qe X.K ι H ρ σ)(ha:a'.den W ρ M=.ok (.bl k) M1)(h:∀Z U,Le ι H Z U->j7 nm X.K Z U M1->qe X.K Z U ρ σ->G k U):tQ nm W X.K a' σ H G :=
 ⟨ι,ρ,M,k,M1,S,R,ha,λqq H' le S'=>h qq H' le S' (R.mono le)⟩
set_option tactic.hygienic true in
def ar3{rest:Ya}(ha:PT X a (tQ nm W X.K a'))(hb:PW X (.BoolOp .And (b::rest) pos) (tQ nm W X.K b')):PW X (.BoolOp .And (a::b::rest) pos) (tQ nm W X.K (.and a' b')) :=
 λZ Y s u H Q I ⟨ι,ρ,M,d,M',S,R,e,q⟩=>auk ha hb Z Y s u H Q I (by
  rw[MW.Er] at e;obtain⟨x,M1,e1,e⟩:=dz e;cases x<;>try cases e
  rename_i k;refine Xz S R e1 λJ H1 le U C=>?_
  cases k with
  | false=>cases e;exact q J H1 le U|true=>exact Xz U C e λG L xj S2 _=>q G L (le.trans xj) S2)
set_option tactic.hygienic true in
def a05{rest:Ya}(ha:PT X a (tQ nm W X.K a'))(hb:PW X (.BoolOp .Or (b::rest) pos) (tQ nm W X.K b')):PW X (.BoolOp .Or (a::b::rest) pos) (tQ nm W X.K (.or a' b')) :=
 λZ Y s u H Q I ⟨ι,ρ,M,d,M',S,R,e,q⟩=>azb ha hb Z Y s u H Q I (by
  rw[MW.Wo] at e;obtain⟨x,M1,e1,e⟩:=dz e;cases x<;>try cases e
  rename_i k;refine Xz S R e1 λJ H1 le U C=>?_
  cases k with
  | true=>cases e;exact q J H1 le U|false=>exact Xz U C e λG L xj S2 _=>q G L (le.trans xj) S2)
def a06(U:PT X a (tQ nm W X.K G)):PT X (.UnaryOp .Not a pos) (tQ nm W X.K (.not G)) :=
 PT.of (aj3 U) fun σ H Q ι ρ M d M' S R e q=>by
  rw[MW.ac4] at e;obtain⟨x,M1,e1,e⟩:=dz e;cases x<;>try cases e
  exact Xz S R e1 λZ H1 le S1 R1=>q Z H1 le S1
def aez:PA X [] (Yr nm W X.K .nil):=PA.of au8 fun σ H Q Z ρ M U G S R e q=>by rw[MW.Dt] at e;cases e;exact q Z H _ (Le.refl _ _) S .nil
def U7{X:Cx}{M1:dm}(S:j7 nm X.K ι H M)(R:qe X.K ι H ρ σ)(ha:es'.den W ρ M=.ok ds M1)(h:∀Z U vs,Le ι H Z U->j7 nm X.K Z U M1->qe X.K Z U ρ σ->my X.K Z U ds vs->G vs U):Yr nm W X.K es' σ H G :=
 ⟨ι,ρ,M,ds,M1,S,R,ha,λqq H' v le S' r=>h qq H' v le S' (R.mono le) r⟩
def X5(ha:PE X a (tE nm W X.K a'))(hr:PA X es (Yr nm W X.K Z))(hs:starEach (a::es) X.env=(false,eval a X.env)::starEach es X.env):PA X (a::es) (Yr nm W X.K (.cons a' Z)) :=
 PA.of (ao0 ha hr hs) fun σ H Q ι ρ M ds M' S R e q=>by rw[MW.Bl] at e;obtain⟨x,M1,e1,e⟩:=dz e;obtain⟨xs,M2,e2,e⟩:=dz e;cases e;exact one S R e1 λqq H1 v le S1 R1 r1=>U7 S1 R1 e2 λG H2 vs U S2 R2 r2=>q G H2 _ (le.trans U) S2 (.cons (r1.mono U) r2)
noncomputable def De.len:De->Nat
 |.nil=>0|.cons _ r=>De.len r+1
theorem Hk{W:Kv}:∀{Z:De}{R:En}{M U:dm}{G:List Dv},Z.den W R M=.ok G U->G.length=De.len Z
 |.nil,_,_,_,_,e=>by rw[MW.Dt] at e;cases e;rfl
 |.cons _ r,_,_,_,_,e=>by
  rw[MW.Bl] at e;obtain⟨x,U,e1,e⟩:=dz e;obtain⟨xs,M2,e2,e⟩:=dz e;cases e;rw[d9,Hk e2];rfl
def a07(h:PA X es (Yr nm W X.K Z))(hl:De.len Z<=1000):PE X (.Tuple es k pos) (tE nm W X.K (.tup Z)) :=
 PE.of (au9 h) fun σ H Q ι ρ M d M' S R e q=>by
  rw[MW.am7] at e;obtain⟨ds,M1,U,e⟩:=dz e;cases e;refine U7 S R U λG H1 vs le S1 R1 r=>⟨?_,λp hp=>?_⟩
  .rw[<- r.length,Hk U];exact bj hl (by decide)
  .obtain⟨S2,xj,r2⟩:=Ik S1 hp r
   exact q G _ _ (le.trans xj) S2 r2
def avs(h:PA X es (Yr nm W X.K Z))(hl:De.len Z<=1000):PE X (.List es pos) (tE nm W X.K (.Ku Z)) :=
 PE.of (akg h) fun σ H Q ι ρ M d M' S R e q=>by
  rw[MW.Mv] at e;obtain⟨ds,M1,U,e⟩:=dz e;cases e;refine U7 S R U λG H1 vs le S1 R1 r=>⟨?_,λp hp=>?_⟩
  .rw[<- r.length,Hk U];exact bj hl (by decide)
  .obtain⟨S2,xj,r2⟩:=Xx S1 hp r
   exact q G _ _ (le.trans xj) S2 r2
def a08(h:PA X es (Yr nm W X.K Z))(hl:De.len Z<=1000):PE X (.List es pos) (tE nm W X.K (.lst Z)) :=
 PE.of (akg h) fun σ H Q ι ρ M d M' S R e q=>by
  rw[MW.am8] at e;obtain⟨ds,M1,G,e⟩:=dz e;cases e;refine U7 S R G λqq H1 vs le S1 R1 r=>⟨?_,λp hp=>?_⟩
  .rw[<- r.length,Hk G];exact bj hl (by decide)
  .obtain⟨U,xj,r2⟩:=aey S1 hp r
   exact q _ _ _ (le.trans xj) U r2
def a09(U:PE X a (tE nm W X.K G)):PE X (.UnaryOp .USub a pos) (tE nm W X.K (.neg G)) :=
 PE.of (azq au4 U) fun σ H Q ι ρ M d M' S R e q=>by
  rw[MW.am6] at e;obtain⟨x,M1,e1,e⟩:=dz e;refine one S R e1 λZ H1 v le S1 R1 r=>?_
  cases r<;>try cases e
  exact⟨_,rfl,q Z H1 _ le S1 (.int _)⟩
open PyProof.Rows (subscriptTail)
section
variable{κ:Type}[DecidableEq κ]{K:Fg}{ι:Io}{H:Hp}
theorem o5.length{κ Z:Type}{f:κ->Z->Prop}:∀{l:List (κ×Dv)}{G:List (Z×V)},o5 K ι H f l G->l.length=G.length:=by intro _ _ h;induction h with|nil=>rfl|cons _ _ _ ih=>rw[d9,d9,ih]
theorem o5.look{k:κ}:∀{G:List (κ×Dv)}{l:List (κ×V)},o5 K ι H (λk U=>k=U) G l->(∀d,MW.Bq G k=some d->∃v,Pa l k=some v/\Rep K ι H d v)/\(MW.Bq G k=none->Pa l k=none)
 |_,_,.nil=>⟨λd h=>by simp[MW.Bq] at h,λ_=>rfl⟩
 |_,_,.cons (k:=q) (k':=q') hk h t=>by
  subst hk;obtain⟨a,b⟩:=o5.look (k:=k) t
  by_cases e:q=k
  .refine⟨λd Z=>?_,λZ=>?_⟩
   .simp[MW.Bq,kj,e] at Z
    subst Z;exact⟨_,Od e,h⟩
   .simp[MW.Bq,kj,e] at Z
  .have z:∀(d:Dv) r,MW.Bq ((q,d)::r) k=MW.Bq r k:=λd r=>by simp[MW.Bq,kj,e]
   rw[z,Oe (by exact e)];exact⟨a,b⟩
theorem o5.any{k:κ}:∀{Z:List (κ×Dv)}{l:List (κ×V)},o5 K ι H (λk G=>k=G) Z l->(Z.any λkv=>decide (kv.1=k))=(l.any λkv=>decide (kv.1=k))
 |_,_,.nil=>rfl|_,_,.cons hk h t=>by subst hk;simp only[xq,o5.any t]
theorem o5.aca{k:κ}{d:Dv}{v:V}(r:Rep K ι H d v):∀{G:List (κ×Dv)}{l:List (κ×V)},o5 K ι H (λk Z=>k=Z) G l ->
 o5 K ι H (λk Z=>k=Z) (G.map λkv=>if kv.1=k then(kv.1,d) else kv) (l.map λkv=>if kv.1=k then(kv.1,v) else kv)
 |_,_,.nil=>.nil
 |_,_,.cons (k:=q) hk h t=>by
  subst hk;simp only[dg]
  by_cases e:q=k
  .simp only[e,jz];exact .cons rfl r (o5.aca r t)
  .simp only[e,jf];exact .cons rfl h (o5.aca r t)
theorem o5.snoc{κ Z:Type}{f:κ->Z->Prop}{k:κ}{G:Z}{d:Dv}{v:V}(R:f k G)(r:Rep K ι H d v):∀{l:List (κ×Dv)}{U:List (Z×V)},o5 K ι H f l U->o5 K ι H f (l++[(k,d)]) (U++[(G,v)])
 |_,_,.nil=>.cons R r .nil|_,_,.cons q h t=>.cons q h (o5.snoc R r t)
def o5.put{k:κ}(r:Rep K ι H d v)(t:o5 K ι H (λk Z=>k=Z) G l):o5 K ι H (λk Z=>k=Z) (MW.Ru G k d) (putK l k v):=by
 unfold MW.Ru putK;rw[t.any (k:=k)]
 by_cases e:(l.any λkv=>decide (kv.1=k))=true
 .rw[bx e,bx e];exact t.aca r
 .rw[bw e,bw e];exact t.snoc rfl r
theorem o5.fld{nm:Nm}{f:Nat}:∀{fs:List (Nat×Dv)}{l:List (Str×V)},o5 K ι H (λk G=>G=nm.fld k) fs l->(∀d,fs.lookup f=some d->∃v,l.lookup (nm.fld f)=some v/\Rep K ι H d v)/\(fs.lookup f=none->l.lookup (nm.fld f)=none)
 |_,_,.nil=>⟨λd h=>by simp at h,λ_=>rfl⟩
 |_,_,.cons (k:=q) (k':=q') hk h t=>by
  subst hk;obtain⟨a,b⟩:=o5.fld (nm:=nm) (f:=f) t;rw[lz,lz]
  by_cases e:f=q
  .subst e
   simp only[xf];exact⟨λd Z=>by cases Z;exact⟨_,rfl,h⟩,λZ=>by cases Z⟩
  .have R:(f==q)=false:=by simpa using e
   have U:(nm.fld f==nm.fld q)=false:=by
    cases z:nm.fld f==nm.fld q with
    |false=>rfl|true=>exact absurd (nm.inj _ _ (eq_of_beq z)) e
   rw[R,U];exact⟨a,b⟩
theorem o5.Gg{Z:Nm}{f:Nat}{d:Dv}{v:V}(r:Rep K ι H d v):∀{fs:List (Nat×Dv)}{l:List (Str×V)},o5 K ι H (λk G=>G=Z.fld k) fs l->o5 K ι H (λk G=>G=Z.fld k) (MW.Rx f d fs) (L2.Gg (Z.fld f) v l)
 |_,_,.nil=>.cons rfl r .nil
 |_,_,.cons (k:=q) (k':=q') hk h t=>by
  subst hk;unfold MW.Rx L2.Gg
  by_cases e:q=f
  .subst e
   simp only[jz];exact .cons rfl r t
  .have U:¬Z.fld q=Z.fld f:=λz=>e (Z.inj _ _ z)
   rw[bw e,bw U];exact .cons rfl h (o5.Gg r t)
def avt(r:Rep K ι H d v)(h:MW.asr d=some k):v=kV k:=by cases r<;>simp[MW.asr] at h<;>subst h<;>rfl
set_option tactic.hygienic true in
theorem akz:∀{Z:List Dv}{Y:List V}{ks:List Kx},my K ι H Z Y->MW.abf Z=some ks->Y=ks.map kV
 |_,_,_,.nil,h=>by simp[MW.abf] at h;subst h;rfl
 |_,_,_,.cons r t,h=>by
  simp only[MW.abf] at h;split at h
  .rename_i k J G U
   cases h;rw[avt r G,akz t U];rfl
  .cases h
def X6(r:Rep K ι H d v)(h:MW.Mq d=some ks):∃b,v=.ref b/\H b=some (.tup (ks.map kV)):=by
 cases r with
 |tup e r=>exact⟨_,rfl,by rw[<- akz r h];exact e⟩|_=>simp[MW.Mq] at h
end
def avu(hu:X.A.units+1<cLine):IxR X (λx y H Q=>∃a v,x=.ref a/\acb H a y (some v)/\Q v H):=by intro G Z U s σ H x y v u Q I rx ry h R;obtain⟨p,z,rfl,g,q⟩:=h;cases rx;exact PyProof.Rows.tail_any (Zz I g) PySem.F.slot_dict_getitem.lookup (agr hu I g ry λw' s' I' r=>⟨z,H,I',r,q⟩) R
def a79(G:Nm)(K:Fg):R2:=λv u H Q=>∃Z M x y d,j7 G K Z H M/\Rep K Z H x v/\Rep K Z H y u/\MW.uo x y M=some d/\∀w,Rep K Z H d w->Q w H
set_option tactic.hygienic true in
def avv(hu:X.A.units+1<cLine):IxR X (a79 nm X.K):=by
 intro Y Z G s σ H v u v' u' Q I rv ru ⟨ι,M,x,y,d,S,rx,ry,e,q⟩ hs;have C:∀(p:Addr)(U:List V)(R:List Dv),v=.ref p->(Ec X.K H p U\/Fb X.K H p U)->my X.K ι H R U->(match y with|.int i=>(MW.Oz R.length i).bind λj=>R[j]?|_=>none)=some d ->
  wpAny (model X.prog X.w) X.A (subscriptTail Y Z v' u') (EP X G σ Q) X.xe s:=λp U R hv hq r e=>by
  subst hv;obtain⟨i,qk⟩:∃i,y=.int i:=by cases y<;>first|exact⟨_,rfl⟩|cases e
  subst qk;cases ry;obtain⟨j,J,e2⟩:=iu.mp e;obtain⟨z,h1,L⟩:=r.get e2;have qq:Dd U i=some z:=by unfold Dd;rw[show ixN U.length i=some j from by rw[<- r.length];exact J];exact h1
  rcases hq with hq|hq
  .exact L2.Bc Y Z G s σ H _ _ v' u' Q I rv ru ⟨p,U,i,z,rfl,rfl,hq,qq,q z L⟩ hs
  .exact L2.Jp Y Z G s σ H _ _ v' u' Q I rv ru ⟨p,U,i,z,rfl,rfl,hq,qq,q z L⟩ hs
 cases rx with
 |tup J r1=>exact C _ _ _ rfl (.inr (Fb.of J)) r1 (by cases ry<;>first|exact e|(simp[MW.uo,MW.ixL,MW.j9] at e))
 |vl J n1 r1=>exact C _ _ _ rfl (.inl (Ec.of J)) r1 (by cases ry<;>first|exact e|(simp[MW.uo,MW.ixL,MW.j9,MW.gj] at e))
 |fz J r1=>exact C _ _ _ rfl (.inl J.sq) r1 (by cases ry<;>first|exact e|(simp[MW.uo,MW.ixL] at e))
 |ref J =>
  rename_i n p;simp only[MW.uo] at e;split at e
  .rename_i ni hn
   obtain⟨l,h1,L⟩:=S.obj n _ p hn J;obtain⟨k,e2,e3⟩:=iu.mp e;obtain⟨z,h3,h4⟩:=(L.look (k:=k)).1 d e3;obtain⟨b,rfl,hb⟩:=X6 ry e2;exact avu hu Y Z G s σ H _ _ v' u' Q I rv ru ⟨p,z,rfl,.inr ⟨l,k,b,.inl h1,rfl,hb,h3.symm⟩,q z h4⟩ hs
  .cases hl:MW.gj M (.ref n) with
   |none=>rw[hl] at e;cases e
   |some R =>
    obtain⟨p',U,hp,h1,L⟩:=qw S (.ref J) hl;cases hp;rw[hl] at e;exact C _ _ _ rfl (.inl (Ec.of h1)) L (by cases ry<;>first|exact e|cases e)
 |_=>simp[MW.uo,MW.ixL,MW.j9,MW.gj] at e
def a8a(hu:X.A.units+1<cLine)(ha:PE X a (tE nm W X.K a'))(hb:PE X b (tE nm W X.K b'))(hs:Xq b):PE X (.Subscript a b pos) (tE nm W X.K (.ix a' b')) :=
 PE.of (a0c (avv (nm:=nm) hu) ha hb hs) fun σ H Q ι ρ M d U S R e q=>by rw[MW.asz] at e;obtain⟨x,M1,e1,e⟩:=dz e;obtain⟨y,M2,e2,e⟩:=dz e;obtain⟨e,rfl⟩:=rm e;exact two S R e1 e2 λZ H2 v u le G _ rv ru=>⟨Z,U,x,y,d,G,rv,ru,e,λw r=>q Z H2 w le G r⟩
set_option tactic.hygienic true in
def a1a(hn:n=nm.fld f)(Y:∀c C,nm.cls c=some C->Cls X.K C/\Eh X.K C n)(U:PE X a (tE nm W X.K a'))(hb:attributeBase a n X.env (eval a X.env)=eval a X.env):PE X (.Attribute a n pos) (tE nm W X.K (.fld a' f)) :=
 PE.of (au6 U hb) fun σ H Q ι ρ M d M' S R e q=>by
  rw[MW.am9] at e;obtain⟨x,M1,u,e⟩:=dz e;obtain⟨e,rfl⟩:=rm e;refine one S R u λZ H1 v le J R1 r=>?_
  obtain⟨m,G⟩:∃m,x=.ref m:=by cases x<;>first|exact⟨_,rfl⟩|cases e
  subst G;obtain⟨p,rfl,hp⟩:∃p,v=.ref p/\Z.l[m]?=some p:=by cases r with|ref z=>exact⟨_,rfl,z⟩
  simp only[MW.Hg] at e;split at e
  .rename_i c fs hm
   obtain⟨C,L,l,h1,h2,h3⟩:=J.obj m _ p hm hp;obtain⟨z,h4,h5⟩:=(h3.fld (nm:=nm) (f:=f)).1 d e;subst hn;obtain⟨g1,g2⟩:=Y c C h1;exact⟨p,C,L,l,z,rfl,h2,g1,g2,h4,q Z H1 z le J h5⟩
  .cases e
open MW (Ex De OEx Mg zx j8 Lv Tg Res dm MO Kv Cp Op2 Blt Bm Kx Src)
noncomputable def Ph:Expr->Bool
 |.ListComp ..=>false|.SetComp ..=>false|.DictComp ..=>false|_=>true
def Kd(h:Ph e=true)(t:Option Expr)(l:Nat)(Z:Env):swapsWith e t l Z=pure false:=by cases e<;>first|rfl|(cases h)
noncomputable def Gh:Expr->Bool
 |.Set ..=>false|_=>true
def Cy(h:Gh e=true)(Z:Env)(x:Value):foldedSetIterable e Z x=pure x:=by cases e<;>first|rfl|(cases h)
def Qs(h:Gh e=true)(Z:CmpOp):behindInMarks Z e=false:=by cases e<;>first|rfl|(cases h)
noncomputable def ar4:Expr->Bool
 |.Tuple ..=>false|_=>true
noncomputable def noStar:Expr->Bool
 |.Starred ..=>false|_=>true
def qb(h:noStar e=true)(Z:Ya)(env:Env):starEach (e::Z) env=(false,eval e env)::starEach Z env:=by cases e<;>first|rfl|(cases h)
noncomputable def X7:Expr->Bool
 |.Slice ..=>false|_=>true
def ak0(h:X7 e=true):Xq e:=by intro o i;cases e<;>first|rfl|(cases h)
noncomputable def zf:Tg->List Nat
 |.name i=>[i]|.names is=>is
def tGt(nm:Nm)(K:Fg)(t:Tg):TG:=λv R H Q=>∃U ρ M d G,j7 nm K U H M/\qe K U H ρ R/\Rep K U H d v/\t.put d ρ=some G/\∀Z,qe K U H G Z->Z.length=R.length->(∀j,j∉zf t->Z[j]?=R[j]?)->Q Z H
def PG.weak(h:PG X tg t)(w:∀v Z H Q,t' v Z H Q->t v Z H Q):PG X tg t':=λG s Z H v u Q I r q=>h G s Z H v u Q I r (w v Z H Q q)
def PG.of(h:PG X tg t)(w:∀v U H Q ι ρ M d G,j7 nm X.K ι H M->qe X.K ι H ρ U->Rep X.K ι H d v->tt.put d ρ=some G->(∀Z,qe X.K ι H G Z->Z.length=U.length->(∀j,j∉zf tt->Z[j]?=U[j]?)->Q Z H)->t v U H Q):PG X tg (tGt nm X.K tt) :=
 PG.weak h λv U H Q z_=>by obtain⟨ι,ρ,M,d,G,S,R,r,e,q⟩:=z_;exact w v U H Q ι ρ M d G S R r e q
def avw(Z:X.N.Nodup)(G:X.N[i]?=some n)(hx:Loc X.env.scope n)(hf:X.fn n=true\/X.env.scope.names.lookup n=some .local):PG X (.Name n pos) (tGt nm X.K (.name i)) :=
 PG.of (Xm Z G hx hf) λv σ H Q ι ρ M d U S R r e q=>by cases e;exact q _ (R.set r i) (by simp) λj hj=>q8 (λz=>hj (by simp[zf,z]))
noncomputable def Il:List Nat->List V->St->St
 |i::is,v::vs,σ=>Il is vs (σ.set i (some v))|_,_,σ=>σ
theorem Ug{Z:Io}{H:Hp}{K:Fg}:∀{is:Y3}{U:List Dv}{vs:List V}{ρ:En}{G:St},qe K Z H ρ G->my K Z H U vs->qe K Z H (MW.Gy is U ρ) (Il is vs G)
 |[],_,_,_,_,R,r=>by cases r<;>exact R|_::_,_,_,_,_,R,.nil=>R|i::is,_,_,_,_,R,.cons h t=>Ug (is:=is) (R.set h i) t
theorem Oh:∀{is:Y3}{G:List V}{Z:St}{j:Nat},j∉is->(Il is G Z)[j]?=Z[j]?
 |[],G,Z,j,_=>by cases G<;>rfl|i::is,[],Z,j,_=>rfl
 |i::is,v::G,Z,j,h=>by
  show(Il is G (Z.set i (some v)))[j]?=_;rw[Oh (λz=>h (bh _ z)),q8 (λz=>h (by rw[z];exact cg))]
theorem Qt:∀{is:Y3}{G:List V}{Z:St},(Il is G Z).length=Z.length
 |[],G,Z=>by cases G<;>rfl|_::_,[],Z=>rfl|i::is,v::G,Z=>by show(Il is G (Z.set i (some v))).length=_;rw[Qt,yd]
inductive Im(X:Cx):List Expr->List Nat->Prop
 |nil:Im X [] []
 |cons {n:Str} {p:Pos} {i:Nat} {ts:Ya} {is:Y3} (hi:X.N[i]?=some n) (hx:Loc X.env.scope n) (hf:X.fn n=true\/X.env.scope.names.lookup n=some .local) (t:Im X ts is):Im X (.Name n p::ts) (i::is)
theorem aab{X:Cx}(hN:X.N.Nodup):∀{ts:Ya}{is:Y3},Im X ts is->PGs X ts (λG U H Q=>G.length=is.length/\Q (Il is G U) H)
 |_,_,.nil=>λZ s U H G us Q I r q=>by
  obtain⟨R,h2⟩:=q;have hv:G=[]:=List.length_eq_zero_iff.mp R;subst hv;exact aor Z s U H [] us Q I r ⟨rfl,h2⟩
 |_,_,.cons hi hx hf t=>λZ s U H G us Q I r q=>by
  obtain⟨R,h2⟩:=q;cases G with
  |nil=>simp at R|cons v G=>exact aj5 (Xm hN hi hx hf) (aab hN t) (by rfl) Z s U H (v::G) us Q I r ⟨v,G,rfl,by simpa using R,h2⟩
theorem Di{X:Cx}{env:Env}:∀{Z:Ya}{is:Y3},Im X Z is->(assignEach Z env).length=is.length/\(assignEach Z env).findIdx? (·.1)=none
 |_,_,.nil=>⟨rfl,rfl⟩
 |_,_,.cons hi hx hf t=>by
  obtain⟨G,U⟩:=Di (env:=env) t;refine⟨by simp[assignEach,G],?_⟩;simp[assignEach,List.findIdx?_cons];simpa using U
set_option tactic.hygienic true in
def apm(u:X.calm=true)(G:X.N.Nodup)(h:Im X C is):PG X (.Tuple C k pos) (tGt nm X.K (.names is)) :=
 PG.of (auq u (aab G h) (Di h).1 (Di h).2) λv σ H Q ι ρ M d U S R r e q=>by
  cases r with
  |tup J Z =>
   simp only[Tg.put] at e;split at e<;>cases e;rename_i Y;exact⟨_,_,rfl,Fb.of J,by rw[<- Z.length];exact Y,by rw[<- Z.length];exact Y,q _ (Ug R Z) Qt λj L=>Oh L⟩
  |_=>simp[Tg.put] at e
def ak1(he:PE X a (tE nm W X.K a'))(hg:PG X tg (tGt nm X.K t))(hs:swapsWithSole [tg] a pos.line X.env=pure false)(hw:swappedStores [tg] a X.env=pure none)(h1:(assignEach [tg] X.env).map (·.2)=[assign tg X.env]) :
 PS X (.Assign [tg] a pos) (tS nm W X.K (.asg (.tg t) a')) :=
 PS.of (aj6 he hg hs hw h1) λD σ H ι ρ M fl G M' S R e q=>by rw[MW.O1] at e;obtain⟨x,M1,e1,e⟩:=dz e;obtain⟨qq,M2,e2,e⟩:=dz e;cases e;rw[MW.R8] at e2;obtain⟨e3,e4⟩:=rm e2;subst e4;exact one S R e1 λZ H1 v le S1 R1 r=>⟨Z,ρ,_,x,G,S1,R1,r,e3,λU R' _ _=>q Z H1 U le S1 R'⟩
def avx(he:PE X a (tE nm W X.K U))(hs:swapsWith a none pos.line X.env=pure false):PS X (.Expr a pos) (tS nm W X.K (.expr U)) :=
 PS.of (aoq he hs) λD σ H ι ρ M fl qq M' S R e q=>by rw[MW.ac8] at e;obtain⟨x,M1,e1,e⟩:=dz e;cases e;exact one S R e1 λZ H1 v le S1 G r=>q Z H1 σ le S1 G
def a1c(he:PE X a (tE nm W X.K U)):PS X (.Return (some a) pos) (tS nm W X.K (.ret U)) :=
 PS.of (aun he) λD σ H ι ρ M fl qq M' S R e q=>by rw[MW.as5] at e;obtain⟨x,M1,e1,e⟩:=dz e;cases e;exact one S R e1 λZ H1 v le S1 G r=>q Z H1 σ le S1 G v r
def Uc.mono{X:Cx}(le:Le ι H G H')(q:Uc nm X.K D ι H fl ρ M):Uc nm X.K D G H' fl ρ M:=λU R Z xj S2 R2=>q U R Z (le.trans xj) S2 R2
set_option tactic.hygienic true in
def a1d(hc:PT X c (tQ nm W X.K c'))(ht:Oc X ts (tSs nm W X.K G))(hf:Oc X fs (tSs nm W X.K J)):PS X (.If c ts fs pos) (tS nm W X.K (.iff c' G J)) :=
 PS.of (azi hc ht hf) λD σ H ι C M u Y U S R e q=>by
  rw[MW.as4] at e;obtain⟨x,L,e1,e⟩:=dz e;cases x<;>try cases e
  rename_i k;refine Xz S R e1 λZ H1 le S1 R1=>?_
  cases k with
  |true=>exact⟨Z,C,L,u,Y,U,S1,R1,e,q.mono le⟩|false=>exact⟨Z,C,L,u,Y,U,S1,R1,e,q.mono le⟩
def avy:Oc X [] (tSs nm W X.K .nil):=Oc.of aop λD Z H U ρ M fl G M' S R e q=>by rw[MW.ana] at e;cases e;exact q U H Z (Le.refl _ _) S R
def apn{G:List Stmt}(h1:PS X st (tS nm W X.K qv))(h2:Oc X G (tSs nm W X.K rest')):Oc X (st::G) (tSs nm W X.K (.cons qv rest')) :=
 Oc.of (aj4 h1 h2) λD σ H ι ρ M fl q0 M' S R e q=>by
  rw[MW.Y0] at e;obtain⟨⟨qk,qq⟩,M1,e1,e⟩:=dz e;refine⟨ι,ρ,M,qk,qq,M1,S,R,e1,λZ H1 U le S1 R1=>?_⟩;cases qk with
  |next=>exact⟨Z,qq,M1,fl,q0,M',S1,R1,e,q.mono le⟩|brk=>cases e;exact q Z H1 U le S1 R1|cont=>cases e;exact q Z H1 U le S1 R1|ret d=>cases e;exact q Z H1 U le S1 R1
set_option tactic.hygienic true in
def ar5(hp:PassesOwn (model X.prog X.w) X.A X.env X.xe)(hc:PT X c (tQ nm W X.K c'))(hb:Oc X body (tSs nm W X.K Uh)):PS X (.While c body [] pos) (tS nm W X.K (.whl c' Uh)) :=
 PS.of (aj7 hp hc hb) λD σ H ι ρ M fl q1 M' S R e q=>by
  rw[MW.O2] at e;refine⟨λm qq H1=>∃J U M1,Le ι H J H1/\j7 nm X.K J H1 M1/\qe X.K J H1 U qq/\MW.Br (c'.den W) (Uh.den W) m U M1=.ok (fl,q1) M',⟨MW.Wn,ι,ρ,M,Le.refl _ _,S,R,e⟩,?_⟩;rintro m qq H1 ⟨J,U,M1,Z9,S1,R1,Y⟩;cases m with
  |zero=>cases Y
  |succ m =>
   simp only[MW.Br] at Y;obtain⟨x,M2,e2,Y⟩:=dz Y;cases x<;>try cases Y
   rename_i k;refine Xz S1 R1 e2 λqk H2 xj S2 R2=>?_
   cases k with
   |false=>cases Y;exact q qk H2 qq (Z9.trans xj) S2 R2
   |true =>
    obtain⟨⟨q0,u⟩,M3,e3,Y⟩:=dz Y;refine⟨λG L=>∃Z qv M4,Le ι H Z L/\j7 nm X.K Z L M4/\qe X.K Z L qv G/\MW.Br (c'.den W) (Uh.den W) m qv M4=.ok (fl,q1) M',λG L h4=>⟨m,qu _,h4⟩,qk,U,M2,q0,u,M3,S2,R2,e3,λZ L G C S4 R4=>?_⟩;cases q0 with
    |next=>exact⟨Z,u,M3,(Z9.trans xj).trans C,S4,R4,Y⟩|cont=>exact⟨Z,u,M3,(Z9.trans xj).trans C,S4,R4,Y⟩|brk=>cases Y;exact q Z L G ((Z9.trans xj).trans C) S4 R4|ret d=>cases Y;exact q Z L G ((Z9.trans xj).trans C) S4 R4
def ag0(nm:Nm)(K:Fg)(ι:Io)(H:Hp)(s:Src)(J:It):Prop:=∀Z G R,LeX ι H Z G->j7 nm K Z G R ->
 (∀i d,i<s.len->s.item i R=some d->J.go i G/\∀v U,J.yld i G v U->Le Z G Z U/\j7 nm K Z U R/\Rep K Z U d v)/\(s.fin R=true->J.stop s.len G)
def tI(U:Nm)(W:Kv)(K:Fg)(it:Mg):TI:=fun σ H R=>∃ι ρ M s M',j7 U K ι H M/\qe K ι H ρ σ/\it.den W ρ M=.ok s M'/\∀Z G J,Le ι H Z G->j7 U K Z G M'->ag0 U K Z G s J->R J G
set_option tactic.hygienic true in
def a1f(hp:PassesOwn (model X.prog X.w) X.A X.env X.xe)(hc:X.calm=true)(hi:PI X tg iter (tI nm W X.K it))(hg:PG X tg (tGt nm X.K t))(hb:Oc X body (tSs nm W X.K Uh))(hs:Gh iter=true):PS X (.For tg iter body [] pos) (tS nm W X.K (.for_ t it Uh)) :=
 PS.of (auu hp hc hi hg hb (Cy hs X.env)) λD σ H ι ρ M fl G M' S R e q=>by
  rw[MW.ah7] at e;obtain⟨s,M1,e1,e⟩:=dz e;refine⟨ι,ρ,M,s,M1,S,R,e1,λqk H1 J Z9 S1 sj=>?_⟩;refine⟨λi m q0 H2=>m=s.len-i/\i<=s.len/\∃Y u M2,Le qk H1 Y H2/\j7 nm X.K Y H2 M2/\qe X.K Y H2 u q0/\MW.Bk s.fin s.item (λd ρ M=>match t.put d ρ with|some G=>Uh.den W G M|none=>.bad) m i u M2=.ok (fl,G) M',
   ⟨s.len,rfl,ig _,qk,ρ,M1,Le.refl _ _,S1,R.mono Z9,e⟩,?_⟩
  rintro i m q0 H2 ⟨hm,q7,Y,u,M2,xj,S2,R2,U⟩;obtain⟨go,q3⟩:=sj Y H2 M2 xj.toX S2;cases m with
  |zero =>
   simp only[MW.Bk] at U;split at U<;>cases U;rename_i R9;have hi:i=s.len:=by lia
   subst hi;exact .inl ⟨q3 R9,q Y H2 q0 (Z9.trans xj) S2 R2⟩
  |succ m =>
   simp only[MW.Bk] at U;split at U
   .cases U
   .rename_i d hd
    obtain⟨⟨q1,qv⟩,M3,e3,U⟩:=dz U;obtain⟨g1,g2⟩:=go i d (by omega) hd;refine .inr ⟨g1,λC H4=>∃Z L M4,Le qk H1 Z H4/\j7 nm X.K Z H4 M4/\qe X.K Z H4 L C/\MW.Bk s.fin s.item (λd ρ M=>match t.put d ρ with|some G=>Uh.den W G M|none=>.bad) m (i+1) L M4=.ok (fl,G) M',
     λC H4 ⟨Z,L,M4,h4⟩=>⟨m,qu _,by omega,by omega,Z,L,M4,h4⟩,λv H3 yv=>?_⟩
    obtain⟨Ri,S3,r3⟩:=g2 v H3 yv;split at e3
    .rename_i q2 q4
     refine⟨Y,u,M2,d,q2,S3,R2.mono Ri,r3,q4,λq6 R5 _ _=>⟨Y,q2,M2,q1,qv,M3,S3,R5,e3,λZ H4 C q5 S4 R4=>?_⟩⟩;have qq:=(xj.trans Ri).trans q5;cases q1 with
     |next=>exact⟨Z,qv,M3,qq,S4,R4,U⟩|cont=>exact⟨Z,qv,M3,qq,S4,R4,U⟩|brk=>cases U;exact q Z H4 C (Z9.trans qq) S4 R4|ret d=>cases U;exact q Z H4 C (Z9.trans qq) S4 R4
    .cases e3
section
variable{nm:Nm}{W:Kv}{X:Cx}{a b c:Expr}{a' b' c':Ex}{pos pos':Pos}{ι:Io}{H:Hp}{σ:St}{ρ:En}{M M1 M2:dm}{x y:Dv}{es:Ya}{es':De}{tg iter elt:Expr}
def PI.weak(h:PI X tg iter G)(w:∀σ H R,wi' σ H R->G σ H R):PI X tg iter wi':=λZ s σ H R I q=>h Z s σ H R I (w σ H R q)
def PI.of(h:PI X tg iter wi)(w:∀σ H R' ι ρ M s G,j7 nm X.K ι H M->qe X.K ι H ρ σ->it.den W ρ M=.ok s G->(∀Z U J,Le ι H Z U->j7 nm X.K Z U G->ag0 nm X.K Z U s J->R' J U)->wi σ H R'):PI X tg iter (tI nm W X.K it) :=
 PI.weak h fun σ H R' z_=>by obtain⟨ι,ρ,M,s,G,S,R,e,q⟩:=z_;exact w σ H R' ι ρ M s G S R e q
def avz(hl:PE X l tl):PI X tg l (fun σ H R=>tl σ H λx U=>∃a,x=.ref a/\((∃xs,Ec X.K U a xs)/\R (Itl X.K a) U\/(∃xs,Fb X.K U a xs)/\R (Itt X.K a) U)):=by
 intro qq s σ H R I h;refine zg (hl qq s σ H _ I h) λv Z z_=>?_
 obtain⟨x,U,G,r1,q1⟩:=z_;obtain⟨a,e,⟨⟨xs,hq⟩,q⟩|⟨⟨xs,hq⟩,q⟩⟩:=q1
 .subst e
  cases r1;obtain⟨rn,rv,p,hz⟩:=G.list hq;refine wpAny_pyIter_list p.isList ?_;refine⟨Z.heap.objs.size,[Z.heap.objs.size],_,_,U,rfl,G.kept (t':=Z.toks) λb o e=>aq _ e,agh a _,⟨_,bf _ rfl,rfl,rfl⟩,λb hb=>?_,q⟩;have e:b=Z.heap.objs.size:=by simpa using hb
  subst e;exact G.agg (bc _) (G.yp.fresh (bc _))
 .subst e
  cases r1;obtain⟨rn,rv,p,hz⟩:=G.tuple hq;refine m9 (show Z.heap.IsTuple a rn.toArray from p) ?_;refine⟨Z.heap.objs.size,[Z.heap.objs.size],_,_,U,rfl,G.kept (t':=Z.toks) λb o e=>aq _ e,abx a _,⟨_,bf _ rfl,rfl,rfl⟩,λb hb=>?_,q⟩;have e:b=Z.heap.objs.size:=by simpa using hb
  subst e;exact G.agg (bc _) (G.yp.fresh (bc _))
def V2{p:Addr}{ds:List Dv}{s:Src}(hs:∀Z U M1,LeX ι H Z U->j7 nm X.K Z U M1->(∀i d,s.item i M1=some d->∃G v,U p=some (.lst G)/\G[i]?=some v/\Rep X.K Z U d v)/\(s.fin M1=true->∃G,U p=some (.lst G)/\G.length<=s.len)) :
 ag0 nm X.K ι H s (Itl X.K p):=λZ U M1 le S1=>by
 obtain⟨a,b⟩:=hs Z U M1 le S1;refine⟨λi d hi hd=>?_,λhf=>?_⟩
 .obtain⟨G,v,R,h2,h3⟩:=a i d hd
  refine⟨⟨G,v,Ec.of R,h2⟩,λu H2 ⟨e,y⟩=>?_⟩;subst e;have:=y G (Ec.of R);rw[h2] at this;cases this;exact⟨Le.refl _ _,S1,h3⟩
 .obtain⟨G,R,h2⟩:=b hf
  exact⟨G,Ec.of R,h2⟩
set_option tactic.hygienic true in
def a1g(ha:PE X a (tE nm W X.K a')):PI X tg a (tI nm W X.K (.val a')) :=
 PI.of (avz ha) fun σ H R' ι ρ M s M' S R e q=>by
  rw[MW.Mw] at e;obtain⟨x,M1,e1,e⟩:=dz e;obtain⟨e,rfl⟩:=rm e;refine one S R e1 λU H1 v le S1 R1 r=>?_
  cases r with
  |@tup p Z J h1 r1 =>
   simp only[MW.srcOf] at e;cases e;refine⟨p,rfl,.inr ⟨⟨J,Fb.of h1⟩,q U H1 _ le S1 λqk H2 M2 G S2=>⟨λi d hi Y=>?_,λ_=>⟨J,Fb.of (G.tup _ _ h1),by rw[<- r1.length];exact bc _⟩⟩⟩⟩;have Y:Z[i]?=some d:=Y;obtain⟨v,g1,g2⟩:=(r1.Gw G).get Y;refine⟨⟨J,v,Fb.of (G.tup _ _ h1),g1⟩,λu H3 ⟨ee,yy⟩=>?_⟩;subst ee;have:=yy J (Fb.of (G.tup _ _ h1));rw[g1] at this;cases this;exact⟨Le.refl _ _,S2,g2⟩
  |@vl p Z J h1 n1 r1 =>
   simp only[MW.srcOf] at e;cases e;refine⟨p,rfl,.inl ⟨⟨J,Ec.of h1⟩,q U H1 _ le S1 (V2 (ds:=Z) λqk H2 M2 G S2=>⟨λi d Y=>?_,λ_=>⟨J,G.lst _ _ n1.1 h1,by rw[<- r1.length];exact bc _⟩⟩)⟩⟩;have Y:Z[i]?=some d:=Y;obtain⟨v,g1,g2⟩:=(r1.Gw G).get Y;exact⟨J,v,G.lst _ _ n1.1 h1,g1,g2⟩
  |@ref n p h1 =>
   simp only[MW.srcOf] at e;obtain⟨Z,hn,rfl⟩:∃Z,M'[n]?=some (.lst Z)/\s=.live n Z.length:=by
    split at e
    .rename_i Z hn;cases e;exact⟨Z,hn,rfl⟩
    .cases e
   obtain⟨J,g1,g2⟩:=S1.obj n _ p hn h1;refine⟨p,rfl,.inl ⟨⟨J,Ec.of g1⟩,q U H1 _ le S1 (V2 (ds:=Z) λqk H2 M2 G S2=>⟨λi d Y=>?_,λhf=>?_⟩)⟩⟩
   .simp only[Src.item] at Y
    split at Y
    .rename_i qq L
     split at Y
     .obtain⟨C,k1,k2⟩:=S2.obj n _ p L (G.get h1)
      obtain⟨v,k3,k4⟩:=k2.get Y;exact⟨C,v,k1,k3,k4⟩
     .cases Y
    .cases Y
   .simp only[Src.fin] at hf
    split at hf
    .rename_i qq L
     obtain⟨C,k1,k2⟩:=S2.obj n _ p L (G.get h1);refine⟨C,k1,?_⟩;rw[<- k2.length];have:qq.length=Z.length:=by simpa using hf
     rw[this];exact bc _
    .cases hf
  |_=>simp[MW.srcOf] at e
set_option tactic.hygienic true in
def a1h(C:Gl X "range")(hm:X.mg "range" = none)(U:PE X a (tE nm W X.K a'))(Y:noStar a=true):PI X tg (.Call (.Name "range" pr) [a] [] pos) (tI nm W X.K (.Mp a')) :=
 PI.of (agi C hm (X5 U aez (qb Y _ _)) (qb Y _ _)) fun σ H R' ι ρ M s M' S R e q=>by
  rw[MW.Mx] at e;obtain⟨x,M1,e1,e⟩:=dz e;refine U7 (es':=.cons a' .nil) (ds:=[x]) (M1:=M1) S R (by rw[MW.Bl,e1];simp) λG H1 vs le S1 R1 r=>?_
  obtain⟨i,hx⟩:∃i,x=.int i:=by cases x<;>first|exact⟨_,rfl⟩|cases e
  subst hx;have e:(if i.natAbs<=100000 then Res.ok (Src.con ((List.range i.toNat).map λ(k:Nat)=>MW.D.int (k:Int))) M1 else .bad)=.ok s M':=e;split at e<;>cases e;rename_i hi;cases r with
  |cons L r2 =>
   cases L;cases r2;refine⟨i,rfl,by lia,by omega,q G H1 _ le S1 λqq H2 M2 xj S2=>⟨λj d hj Z=>?_,λ_=>?_⟩⟩
   .have J:j<i.toNat:=by simpa[Src.len] using hj
    have Z:((List.range i.toNat).map λ(k:Nat)=>MW.D.int (k:Int))[j]?=some d:=Z;rw[gf,List.getElem?_range J] at Z;have Z:MW.D.int (j:Int)=d:=by simpa using Z
    subst Z;refine⟨J,λu H3 ⟨ee,yy⟩=>?_⟩;subst ee yy;exact⟨Le.refl _ _,S2,by rw[Int.zero_add];exact .int _⟩
   .show i.toNat<=_
    simp[Src.len]
def ag1(R:qe K ι H ρ σ):qe K ι H (ρ++List.replicate k none) (σ++List.replicate k none):=R.append (qe.akx k (by simp))
def ak2{Z:St}(U:σ.length=n)(R:∀i∈zf t,n<=i)(h:∀j,j∉zf t->Z[j]?=(σ++List.replicate k none)[j]?):∀(j:Nat) v,(σ++List.replicate k none)[j]?=some (some v)->Z[j]?=some (some v):=λj v e=>by
 by_cases G:j∈zf t
 .have:=R j G
  rw[ou (a_ (f_ U) this),List.getElem?_replicate] at e;split at e<;>simp at e
 .rw[h j G];exact e
noncomputable def ar6(o:Option Dv):List Dv:=match o with|some x=>[x]|none=>[]
set_option tactic.hygienic true in
def aac(h:MW.Ah fin item body (k+1) i M=.ok ds Z) :
 ∃d o M1 rest,item i M=some d/\body d M=.ok o M1/\MW.Ah fin item body k (i+1) M1=.ok rest Z/\ds=ar6 o++rest:=by
 simp only[MW.Ah] at h;split at h
 .cases h
 .rename_i d G
  obtain⟨o,M1,Y,h⟩:=dz h;obtain⟨rest,M2,J,h⟩:=dz h;cases h;exact⟨d,o,M1,rest,G,Y,J,by cases o<;>rfl⟩
def my.snoc(r:my K ι H ds Z)(h:Rep K ι H d v):my K ι H (ds++[d]) (Z++[v]):=r.append (.cons h .nil)
set_option tactic.hygienic true in
def Rj(e:MW.zm s body M1=.ok ds M2):s.len<=100000/\MW.Ah s.fin s.item body s.len 0 M1=.ok ds M2:=by
 unfold MW.zm at e;split at e
 .rename_i Z
  exact⟨Z,e⟩
 .cases e
def keptAs(v:Bool)(Z:List Dv)(M:dm):Res Dv:=if v=true then .ok (.vl Z) M else MW.new (.lst Z) M
def ag2(h:(Ex.comp v k t it e').den W ρ M=.ok d M'):∃s M1 Z M2,it.den W ρ M=.ok s M1/\s.len<=100000 /\
 MW.Ah s.fin s.item (λd M=>match t.put d (ρ++List.replicate k none) with|some G=>(e'.den W G M).bind λx M'=>.ok (some x) M'|none=>.bad) s.len 0 M1=.ok Z M2/\keptAs v Z M2=.ok d M':=by
 rw[MW.Yy] at h;obtain⟨s,M1,R,h⟩:=dz h;obtain⟨Z,M2,U,h⟩:=dz h;exact⟨s,M1,Z,M2,R,(Rj U).1,(Rj U).2,h⟩
def Io.adopt(ι:Io)(H:Hp)(D:Addr):Tr K (ι.hide D) H (ι.add D) H:=⟨λ_ _ e=>e,λ_ _ e n=>⟨e,λm=>(bz.mp m).elim n.1 λz=>n.2 (by rw[j4.mp z];exact cg),λm=>n.2 (bh _ m)⟩,λ_ _ e=>e,λn a e=>by
 have e:ι.l[n]?=some a:=e;show(ι.l++[D])[n]?=_;rw[gr (ak.mp e).1];exact e⟩
theorem Rep.adopt(r:Rep K (ι.hide D) H d v):Rep K (ι.add D) H d v:=r.tr (ι.adopt H D)
theorem my.adopt(r:my K (ι.hide D) H d v):my K (ι.add D) H d v:=r.tr (ι.adopt H D)
theorem j7.adopt(S:j7 nm K (ι.hide D) H M)(hd:H D=some (.lst U))(r:my K (ι.hide D) H ds U)(Z:ι.off D):j7 nm K (ι.add D) H (M++[.lst ds]):=by
 refine⟨by have:=S.len;simp only[Io.hide] at this;simp[Io.add,this],?_,λa G=>?_,λn o a hn G=>?_⟩
 .exact mz.mpr ⟨S.nd,by simp,by
   intro x hx y R;have:y=D:=by simpa using R
   subst this;intro e;subst e;exact Z.1 hx⟩
 .obtain⟨h1,U,h2⟩:=S.del a (bh _ G)
  exact⟨λm=>(bz.mp m).elim h1 λz=>Z.2 (by rw[<- j4.mp z];exact G),U,h2⟩
 .rcases zu hn with q|⟨q,rfl⟩
  .rcases zu G with z|⟨z,_⟩
   .exact(S.obj n o a q z).tr (ι.adopt H D) rfl
   .exact absurd (MW.t8 q) (by rw[z,<- S.len];exact nu _)
  .rcases zu G with z|⟨_,rfl⟩
   .exact absurd (ak.mp z).1 (by rw[q,<- S.len];exact nu _)
   .exact⟨U,hd,r.adopt⟩
def ak3(S:j7 nm K (ι.hide D) H M)(hd:H D=some (.lst vs))(r:my K (ι.hide D) H ds vs)(G:ι.off D)(le:Le U R ι H)(h0:R D=none)(h:keptAs v ds M=.ok d M') :
 ∃Z,Le U R Z H/\j7 nm K Z H M'/\Rep K Z H d (.ref D):=by
 unfold keptAs at h;split at h
 .cases h
  exact⟨ι,le,S.show,.vl hd G r.show⟩
 .cases h
  refine⟨ι.add D,⟨?_,le.del,le.tup,le.Hd,le.lst,le.dom⟩,S.adopt hd r G,.ref ?_⟩
  .obtain⟨Y,e,hY⟩:=le.ext
   exact⟨Y++[D],by show ι.l++[D]=_;rw[e,v9],λa ha=>(bz.mp ha).elim (hY a) λz=>by rw[j4.mp z];exact h0⟩
  .show(ι.l++[D])[M.length]?=some D
   rw[<- S.len];simp[Io.hide]
def BodyOk(nm:Nm)(K:Fg)(Z:St)(tc:TT)(te:TE)(R:En)(M:dm)(o:Option Dv)(M':dm):Prop:=∀ι H (G1:V->Hp->Prop) (G0:Hp->Prop),j7 nm K ι H M->qe K ι H R Z ->
 (∀G U v,Le ι H G U->j7 nm K G U M'->(match o with|some x=>Rep K G U x v->G1 v U|none=>G0 U))->tc Z H λb H3=>if b=true then te Z H3 λv H4=>G1 v H4 else G0 H3
set_option tactic.hygienic true in
def V3{N:Yf}(hk:N.length-X.N.length=k)(ho:∀i∈zf t,X.N.length<=i)(z3:σ.length=X.N.length)(S:j7 nm X.K ι H M)(R:qe X.K ι H ρ σ)(e1:it.den W ρ M=.ok s M1)(zk:s.len<=100000)(e2:MW.Ah s.fin s.item body s.len 0 M1=.ok ds M')(ek:keptAs v0 ds M'=.ok d0 M0)(q:∀q4 H' v,Le ι H q4 H'->j7 nm X.K q4 H' M0->Rep X.K q4 H' d0 v->Q v H')(hb:∀d M2 o M3,body d M2=.ok o M3->∃q0,t.put d (ρ++List.replicate k none)=some q0/\∀q2,BodyOk nm X.K q2 tc te q0 M2 o M3):Z8 (N.length-X.N.length) (tI nm W X.K it) (tGt nm X.K t) tc te σ H Q:=by
 refine⟨ι,ρ,M,s,M1,S,R,e1,λL H1 J Z9 S1 sj D hD=>?_⟩;rw[hk];refine⟨λi m H2=>m=s.len-i/\i<=s.len/\∃Z M2 G vs qq,LeD D L H1 (Io.hide Z D) H2/\j7 nm X.K (Io.hide Z D) H2 M2/\H2 D=some (.lst vs)/\my X.K (Io.hide Z D) H2 G vs/\G.length<=i /\
  MW.Ah s.fin s.item body m i M2=.ok qq M'/\ds=G++qq,?_,?_⟩
 .exact⟨s.len,rfl,ig _,L,M1,[],[],ds,LeD.start hD _,S1.hide hD,qy,.nil,bc _,e2,rfl⟩
 .rintro i m H2 ⟨hm,z1,Z,M2,G,vs,qq,xj,S2,q7,q1,U6,e3,qv⟩
  have q6:Le L H1 Z H2:=LeD.done xj;have z0:Z.δ=L.δ:=q6.del;have zv:Z.off D:=⟨(S2.del D cg).1,λz=>by rw[z0] at z;exact(S1.fresh hD).2 z⟩;obtain⟨go,zz⟩:=sj (Io.hide Z D) H2 M2 (xj.toX hD) S2;cases m with
  |zero =>
   simp only[MW.Ah] at e3;split at e3<;>cases e3;rename_i R9;refine hG λ_ _k=>?_
   have hi:i=s.len:=by lia
   subst hi;rw[yc] at qv;subst qv;obtain⟨z4,z2,S9,r9⟩:=ak3 S2 q7 q1 zv q6 hD ek;apply _k;exact .inl ⟨zz R9,q z4 H2 _ (Z9.trans z2) S9 r9⟩
  |succ m =>
   refine hG λ_ _k=>?_
   obtain⟨d,o,M3,C,h1,h2,h3,h4⟩:=aac e3;obtain⟨g1,g2⟩:=go i d (by lia) h1;apply _k;refine .inr ⟨g1,λv H3 yv=>?_⟩;refine hG λ_ _k=>?_
   obtain⟨Ri,S3,r3⟩:=g2 v H3 yv;obtain⟨q0,z6,zw⟩:=hb d M2 o M3 h2;have R3:qe X.K (Io.hide Z D) H3 ρ σ:=((R.mono Z9).Gw (xj.toX hD)).mono Ri;apply _k;refine⟨Io.hide Z D,ρ++List.replicate k none,M2,d,q0,S3,ag1 R3,r3,z6,λq2 R5 l5 k5=>⟨l5,ak2 z3 ho k5,?_⟩⟩;have z5:=Ri.lst D vs (S2.del D cg).1 q7;refine zw q2 (Io.hide Z D) H3 _ _ S3 R5 (λY H6 u qk S6=>by
    have U:=qk.lst D vs (S2.del D cg).1 z5;have q3:LeD D L H1 Y H6:=(xj.go Ri).go qk;have ei:Y=Io.hide ⟨Y.l,Z.δ⟩ D:=by have:=qk.del;obtain⟨l6,z7⟩:=Y;simp only[Io.hide] at this ⊢;rw[this]
    rw[ei] at q3 S6;have q5:my X.K (Io.hide ⟨Y.l,Z.δ⟩ D) H6 G vs:=by rw[<- ei];exact(q1.mono Ri).mono qk
    cases o with
    |none =>
     refine⟨m,qu _,by lia,by lia,⟨Y.l,Z.δ⟩,M3,G,vs,C,q3,S6,U,q5,a_ U6 x_,h3,?_⟩;rw[qv,h4];rfl
    |some x =>
     intro r6;rw[ei] at r6;have Wj:D∈(Io.hide ⟨Y.l,Z.δ⟩ D).δ:=cg;refine⟨vs,m,U,?_,qu _,by lia,by lia,⟨Y.l,Z.δ⟩,M3,G++[x],vs++[u],C,q3.grow hD U,S6.grow U Wj,qy,(q5.snoc r6).tr (aex U Wj),by simp;exact U6,h3,?_⟩
     .rw[<- q1.length]
      exact yj (bj U6 (bj z1 zk)) (by decide)
     .rw[qv,h4];simp[ar6])
set_option tactic.hygienic true in
def V4{N:Yf}(hk:N.length-X.N.length=k)(ho:∀i∈zf t,X.N.length<=i):∀σ H Q,σ.length=X.N.length->tE nm W X.K (.comp v0 k t it e') σ H Q ->
 Z8 (N.length-X.N.length) (tI nm W X.K it) (tGt nm X.K t) (λ_ H Q=>Q true H) (tE nm W X.K e') σ H Q:=fun σ H Q U hh=>by
 obtain⟨ι,ρ,M,d,M',S,R,e,q⟩:=hh;obtain⟨s,M1,ds,M2,e1,Z,e2,ek⟩:=ag2 e;refine V3 hk ho U S R e1 Z e2 ek q λd M2 o M3 Y=>?_
 split at Y
 .rename_i L C
  obtain⟨x,M4,e5,Y⟩:=dz Y;cases Y;refine⟨L,C,λqq qk H5 G1 G0 S5 R5 g=>?_⟩;show if true=true then _ else _
  rw[bx rfl];exact one (X:=X) S5 R5 e5 λJ H6 u G S6 R6 r6=>g J H6 u G S6 r6
 .cases Y
def aad(h:(Ex.ym v k t it c' e').den W ρ M=.ok d M'):∃s M1 G M2,it.den W ρ M=.ok s M1/\s.len<=100000 /\
 MW.Ah s.fin s.item (λd M=>match t.put d (ρ++List.replicate k none) with|some Z=>(c'.den W Z M).bind λb M'=>(match b with|.bl true=>(e'.den W Z M').bind λx U=>.ok (some x) U|.bl false=>.ok none M'|_=>.bad)|none=>.bad) s.len 0 M1=.ok G M2/\keptAs v G M2=.ok d M':=by
 rw[MW.Rz] at h;obtain⟨s,M1,e1,h⟩:=dz h;obtain⟨G,M2,R,h⟩:=dz h;exact⟨s,M1,G,M2,e1,(Rj R).1,(Rj R).2,h⟩
set_option tactic.hygienic true in
def Qu{N:Yf}(hk:N.length-X.N.length=k)(ho:∀i∈zf t,X.N.length<=i):∀σ H Q,σ.length=X.N.length->tE nm W X.K (.ym v0 k t it c' e') σ H Q ->
 Z8 (N.length-X.N.length) (tI nm W X.K it) (tGt nm X.K t) (tQ nm W X.K c') (tE nm W X.K e') σ H Q:=fun σ H Q L hh=>by
 obtain⟨ι,ρ,M,d,M',S,R,e,q⟩:=hh;obtain⟨s,M1,ds,M2,e1,J,e2,ek⟩:=aad e;refine V3 hk ho L S R e1 J e2 ek q λd M2 o M3 Z=>?_
 split at Z
 .rename_i qv qk
  obtain⟨x,M4,e5,Z⟩:=dz Z;refine⟨qv,qk,λq0 q1 H5 G1 G0 S5 R5 g=>?_⟩;split at Z
  .obtain⟨y,M6,e6,Z⟩:=dz Z
   cases Z;refine Xz (X:=X) S5 R5 e5 λG H6 Y C R6=>?_
   rw[bx rfl];exact one (X:=X) C R6 e6 λqq H7 u U S7 R7 r7=>g qq H7 u (Y.trans U) S7 r7
  .cases Z
   refine Xz (X:=X) S5 R5 e5 λG H6 Y C R6=>?_
   rw[bw (by simp)];exact g G H6 .non Y C
  .cases Z
 .cases Z
def PE.aae(h:PE X e t)(w:∀σ H Q,σ.length=X.N.length->t' σ H Q->t σ H Q):PE X e t':=λZ s σ H Q I q=>h Z s σ H Q I (w σ H Q I.len q)
def PS.aae(h:PS X st t)(w:∀D σ H,σ.length=X.N.length->t' D σ H->t D σ H):PS X st t':=λZ s σ H D I q=>h Z s σ H D I (w D σ H I.len q)
def av2(B:Eo X N scope)(G:X.calm=true)(hi:PI X tg iter (tI nm W X.K it))(R:∀C Z s H,PG (Jj X N scope C Z s H) tg (tGt nm X.K t))(he:∀C Z s H,PE (Jj X N scope C Z s H) elt (tE nm W X.K e'))(U:Gh iter=true)(hk:N.length-X.N.length=k)(ho:∀i∈zf t,X.N.length<=i):PE X (.ListComp elt [⟨tg,iter,[],0⟩] scope pos) (tE nm W X.K (.comp v0 k t it e')) :=
 PE.aae (aeu B G hi R (λ_ _ _ _=>.inl ⟨rfl,rfl⟩) he (Cy U X.env)) (V4 hk ho)
def ak4(B:Eo X N scope)(G:X.calm=true)(hi:PI X tg iter (tI nm W X.K it))(R:∀C Z s H,PG (Jj X N scope C Z s H) tg (tGt nm X.K t))(hc:∀C Z s H,PT (Jj X N scope C Z s H) c (tQ nm W X.K c'))(he:∀C Z s H,PE (Jj X N scope C Z s H) elt (tE nm W X.K e'))(U:Gh iter=true)(hk:N.length-X.N.length=k)(ho:∀i∈zf t,X.N.length<=i):PE X (.ListComp elt [⟨tg,iter,[c],0⟩] scope pos) (tE nm W X.K (.ym v0 k t it c' e')) :=
 PE.aae (aeu B G hi R (λ_ _ _ _=>.inr ⟨c,rfl,hc _ _ _ _⟩) he (Cy U X.env)) (Qu hk ho)
def aaf(h:∀σ H Q,σ.length=X.N.length->tE nm W X.K e' σ H Q->tt σ H Q):∀D σ H,σ.length=X.N.length->tS nm W X.K (.asg (.tg (.name i)) e') D σ H->aus tt (aeg i) D σ H:=λD σ H G hh=>by obtain⟨ι,ρ,M,fl,qq,M',S,R,e,q⟩:=hh;rw[MW.O1] at e;obtain⟨x,M1,e1,e⟩:=dz e;obtain⟨qk,M2,U,e⟩:=dz e;cases e;rw[MW.R8] at U;obtain⟨e3,e4⟩:=rm U;subst e4;cases e3;exact h σ H _ G (one S R e1 λZ H1 v le S1 R1 r=>q Z H1 _ le S1 (R1.set r i))
def ag3{y:Str}(B:Eo X N scope)(R:X.calm=true)(hi:PI X tg iter (tI nm W X.K it))(hg:∀C G s H,PG (Jj X N scope C G s H) tg (tGt nm X.K t))(he:∀C G s H,PE (Jj X N scope C G s H) elt (tE nm W X.K e'))(hs:Gh iter=true)(hk:N.length-X.N.length=k)(ho:∀i∈zf t,X.N.length<=i)(hN:X.N.Nodup)(U:X.N[i]?=some y)(hl:X.env.scope.names.lookup y=some .local)(Z:swapsWith (.ListComp elt [⟨tg,iter,[],0⟩] scope pos) (some (.Name y py)) akv.line X.env=pure true):PS X (.Assign [.Name y py] (.ListComp elt [⟨tg,iter,[],0⟩] scope pos) akv) (tS nm W X.K (.asg (.tg (.name i)) (.comp v0 k t it e'))) :=
 PS.aae (aev B R hi hg (λ_ _ _ _=>.inl ⟨rfl,rfl⟩) he (Cy hs X.env) hN U hl Z) (aaf (V4 hk ho))
def aag{y:Str}(B:Eo X N scope)(R:X.calm=true)(hi:PI X tg iter (tI nm W X.K it))(hg:∀C Z s H,PG (Jj X N scope C Z s H) tg (tGt nm X.K t))(hc:∀C Z s H,PT (Jj X N scope C Z s H) c (tQ nm W X.K c'))(he:∀C Z s H,PE (Jj X N scope C Z s H) elt (tE nm W X.K e'))(hs:Gh iter=true)(hk:N.length-X.N.length=k)(ho:∀i∈zf t,X.N.length<=i)(hN:X.N.Nodup)(U:X.N[i]?=some y)(hl:X.env.scope.names.lookup y=some .local)(G:swapsWith (.ListComp elt [⟨tg,iter,[c],0⟩] scope pos) (some (.Name y py)) akv.line X.env=pure true):PS X (.Assign [.Name y py] (.ListComp elt [⟨tg,iter,[c],0⟩] scope pos) akv) (tS nm W X.K (.asg (.tg (.name i)) (.ym v0 k t it c' e'))) :=
 PS.aae (aev B R hi hg (λ_ _ _ _=>.inr ⟨c,rfl,hc _ _ _ _⟩) he (Cy hs X.env) hN U hl G) (aaf (Qu hk ho))
end
def spF(nm:Nm)(W:Kv)(K:Fg)(n f:Nat):Sp:=λvs H Q _=>∃R M U d M',j7 nm K R H M/\my K R H U vs/\U.length=n/\W.call f U M=.ok d M'/\∀Z G v,Le R H Z G->j7 nm K Z G M'->Rep K Z G d v->Q v G
def s_call(F:Ei X.prog X.w X.K X.mg X.base Yq k fa fd ps (spF nm W X.K n f))(hr:xu k X.A)(hg:Gl X x)(hm:X.mg x=some (.ref fa))(hk:PySem.W.keepIn X.K (.ref fa)=true)(hb:Binds X.K fd ps [])(G:De.len Z=n)(ha:PA X (a::es) (Yr nm W X.K Z))(Xo:(x==("__debug__" : Str))=false)(he:starEach (a::es) X.env=(false,eval a X.env)::starEach es X.env)(Kp:(backTo pos (starEach es X.env)).any (·.1)=false) :
 PE X (.Call (.Name x p) (a::es) [] pos) (tE nm W X.K (.call f Z)) :=
 PE.of (ao1 (E:=E0) F hr hg hm hk hb .nil aks ha Xo he Kp) fun σ H Q ι ρ M d M' S R e q=>by
  rw[MW.Yx] at e;obtain⟨ds,M1,e1,e⟩:=dz e;refine U7 S R e1 λqq H1 vs le S1 R1 r=>?_
  rw[yc];exact⟨qq,M1,ds,d,M',S1,r,(Hk e1).trans G,e,λU H' v V1 S' r'=>q U H' v (le.trans V1) S' r'⟩
def av3(qk:Mk X.K C fa)(F:Ei X.prog X.w X.K X.mg X.base Yq k fa fd ps (spF nm W X.K 1 f))(hr:xu (k+1) X.A)(hg:Gl X x)(hm:X.mg x=some (.ref C))(hb:Binds X.K fd ps [])(qv:W.cls[U]?=some cl)(q1:cl.init=f)(qq:nm.cls U=some C)(Xo:(x==("__debug__" : Str))=false) :
 PE X (.Call (.Name x p) [] [] pos) (tE nm W X.K (.make U)) :=
 PE.of (akj (E:=E0) qk F hr hg hm hb .nil aks Xo) fun σ H Q ι ρ M d M' S R e q=>by
  rw[MW.ah4,qv] at e;have e:((W.call cl.init [.ref M.length] (M++[.ins U []])).bind λr M2=>match r with|.non=>.ok (.ref M.length) M2|_=>.bad)=.ok d M':=e;obtain⟨r0,M2,e2,e⟩:=dz e;intro p Z hp q2 O6;have G:∀a u,H a=some u->upd (upd H Z (.own p)) p (.ins C Z []) a=some u:=λa u e=>by rw[j6 (m5 e hp),j6 (m5 e q2)];exact e
  obtain⟨S2,xj⟩:=S.new (o:=.ins U []) hp G λ_=>⟨C,Z,[],qq,qy,.nil⟩
  have rp:Rep X.K (ι.add p) (upd (upd H Z (.own p)) p (.ins C Z [])) (.ref M.length) (.ref p):=.ref (by show(ι.l++[p])[M.length]?=some p;rw[<- S.len];simp);refine⟨ι.add p,M++[.ins U []],[.ref M.length],r0,M2,S2,.cons rp .nil,rfl,by rw[<- q1];exact e2,λq0 H' v V1 S' r'=>?_⟩;cases r'<;>try cases e
  exact⟨rfl,q q0 H' _ (xj.trans V1) S' (rp.mono V1)⟩
theorem aah{G:Nm}{R:Io}{H:Hp}{m:Str}{K:Fg}(Z:∀i,G.fld i≠m):∀{fs:List (Nat×Dv)}{l:List (Str×V)},o5 K R H (λk U=>U=G.fld k) fs l->l.lookup m=none
 |_,_,.nil=>rfl
 |_,_,.cons (k:=kk) (k':=kk') hk h t=>by
  subst hk;rw[lz];have z:(m==G.fld kk)=false:=by
   cases z:m==G.fld kk with
   |false=>rfl|true=>exact absurd (eq_of_beq z).symm (Z kk)
  rw[z];exact aah Z t
def av4{nm:Nm}{W:Kv}{X:Cx}{a o:Expr}{o':Ex}{Z G:Pos}{es:Ya}{qq:De}{k n f:Nat}{fa C:Addr}{fd:FuncData}{ps:Yf}{m:Str}{mi ci:Nat}{cl:MW.Cl}{pl:Sem Bool}(ho:PE X o (tE nm W X.K o'))(c0:Cls X.K C)(q5:Meth X.K C m fa)(F:Ei X.prog X.w X.K X.mg X.base Yq k fa fd ps (spF nm W X.K (n+1) f))(hr:xu k X.A)(hb:Binds X.K fd ps [])
 (q4:∀c' U,W.cls[c']?=some U->∀g,U.meths.lookup mi=some g->nm.cls c'=some C/\g=f) (q3:∀i,nm.fld i≠m)
 (qk:De.len qq=n) (ha:PA X (a::es) (Yr nm W X.K qq)) (he:starEach (a::es) X.env=(false,eval a X.env)::starEach es X.env) (Kp:(backTo Z (starEach es X.env)).any (·.1)=false)
 (ht:eval (.Call (.Attribute o m G) (a::es) [] Z) X.env=(do
  let ov <- eval o X.env
  standAt G.atName
  let (f,first) <- holding [ov] (getMethod ov m pl)
  callWith Z f first (backTo Z (starEach (a::es) X.env)) (backToKw Z (keywordEach [] X.env)))) :
 PE X (.Call (.Attribute o m G) (a::es) [] Z) (tE nm W X.K (.meth o' mi qq)) :=
 PE.of (ao2 (E:=E0) ho c0 q5 F hr hb .nil aks ha he Kp ht) fun σ H Q ι ρ M d M' S R e q=>by
  rw[MW.ah5] at e;obtain⟨x,M1,e1,e⟩:=dz e;obtain⟨ds,M2,e2,e⟩:=dz e;refine one S R e1 λq2 H1 v le S1 R1 r=>?_
  obtain⟨j,hx⟩:∃j,x=.ref j:=by cases x<;>first|exact⟨_,rfl⟩|cases e
  subst hx;obtain⟨p,rfl,hp⟩:∃p,v=.ref p/\q2.l[j]?=some p:=by cases r with|ref z=>exact⟨_,rfl,z⟩
  have e:(match M1[j]? with
   | some (.ins c _)=>(match(W.cls[c]?).bind λC=>C.meths.lookup mi with
    | some f=>W.call f (.ref j::ds) M2|none=>.bad)
   | _=>.bad)=Res.ok d M':=e
  cases hM:M1[j]? with
  |none=>rw[hM] at e;cases e
  |some ob =>
   rw[hM] at e;cases ob with
   |ins ci fs =>
    have e:(match(W.cls[ci]?).bind λC=>C.meths.lookup mi with|some f=>W.call f (.ref j::ds) M2|none=>.bad)=Res.ok d M':=e;cases hL:(W.cls[ci]?).bind λC=>C.meths.lookup mi with
    |none=>rw[hL] at e;cases e
    |some g =>
     rw[hL] at e;have e:W.call g (.ref j::ds) M2=.ok d M':=e;obtain⟨U,h1,h2⟩:=iu.mp hL;obtain⟨h3,rfl⟩:=q4 ci U h1 g h2;obtain⟨C',dx,l,g1,g2,g3⟩:=S1.obj j _ p hM hp;rw[h3] at g1;cases g1;have qv:l.lookup m=none:=aah q3 g3;refine⟨p,dx,l,rfl,g2,qv,U7 S1 R1 e2 λq0 H2 vs xj S2 R2 r2=>?_⟩;rw[yc];exact⟨q0,M2,.ref j::ds,d,M',S2,.cons (r.mono xj) r2,by rw[d9,Hk e2,qk],e,λq1 H' v V1 S' r'=>q q1 H' v ((le.trans xj).trans V1) S' r'⟩
   |_=>cases e
def av5:PE X (.Dict [] [] pos) (tE nm W X.K .Yv):=PE.of akn fun σ H Q ι ρ M d M' S R e q=>by
 rw[MW.ah3] at e;cases e;intro p Z;obtain⟨G,U⟩:=S.new (o:=.dT []) (H':=upd H p (.dT [])) Z (λa u e=>by rw[j6 (m5 e Z)];exact e) λ_=>⟨[],qy,.nil⟩
 exact q _ _ _ U G (.ref (by show(ι.l++[p])[M.length]?=some p;rw[<- S.len];simp))
def a8g(R:Nm)(K:Fg):auo:=λo i v H Q=>∃Z M x y d U,j7 R K Z H M/\Rep K Z H x o/\Rep K Z H y i/\Rep K Z H d v/\MW.setOp x y d M=some U/\∀G,Le Z H Z G->j7 R K Z G U->Q G
def Oi(h:n<100000):n<sizeLine:=gm h Ud
set_option tactic.hygienic true in
def apo(hu:X.A.units+1<cLine):aup X (a8g nm X.K):=by
 intro Y s σ H o i v ov iv u Q I ro ri rv hh;obtain⟨ι,M,x,y,d,M',S,rx,ry,rd,e,q⟩:=hh;obtain⟨j,hx⟩:∃j,x=.ref j:=by cases x<;>first|exact⟨_,rfl⟩|cases e
 subst hx;obtain⟨p,rfl,U⟩:∃p,o=.ref p/\ι.l[j]?=some p:=by cases rx with|ref z=>exact⟨_,rfl,z⟩
 simp only[MW.setOp] at e;split at e
 .rename_i xs Z
  split at e
  .rename_i k
   obtain⟨J,C,e2⟩:=bu.mp e;subst e2;cases ry;obtain⟨vs,L,G⟩:=S.obj j _ p Z U;refine set_list Y s σ H _ _ v ov iv u Q I ro ri rv ⟨p,vs,k,J,rfl,rfl,L,by rw[<- G.length];exact C,?_⟩;obtain⟨S2,R⟩:=S.put (u:=.lst (vs.set J v)) (o:=.lst (xs.set J d)) Z U λle=>⟨_,qy,(G.mono le).set (rd.mono le) J⟩
   exact q _ R S2
  .cases e
 .rename_i ni Z
  obtain⟨k,C,e⟩:=iu.mp e;split at e<;>cases e;rename_i hl;obtain⟨l,L,G⟩:=S.obj j _ p Z U;obtain⟨b,rfl,hb⟩:=X6 ry C;cases ro;refine ags (H':=upd H p (.dT (putK l k v))) (y:=.ref b) (v:=v) hu I (ao3.t L hb (by rw[<- G.length];exact Oi hl)) ri rv λs' I'=>⟨_,I',?_⟩
  obtain⟨S2,R⟩:=S.put (u:=.dT (putK l k v)) (o:=.dT (MW.Ru ni k d)) Z U λle=>⟨_,qy,(G.mono le).put (rd.mono le)⟩
  exact q _ R S2
 .cases e
def Ui(h:Ph e=true)(t:Expr)(l:Nat)(Z:Env):swapsWithSole [t] e l Z=pure false:=by unfold swapsWithSole;exact Kd h _ _ _
def ak5(e o b:Expr)(p:Pos)(l:Nat)(Z:Env):swapsWithSole [.Subscript o b p] e l Z=pure false:=by cases e<;>rfl
def ak6(hu:X.A.units+1<cLine)(he:PE X a (tE nm W X.K a'))(ho:PE X o (tE nm W X.K o'))(hi:PE X b (tE nm W X.K b'))(ha:∀v,assign (.Subscript o b pos') X.env v=(do
 let U <- holding [v] (eval o X.env)
 let iv <- holding [v,U] (eval b X.env)
 standAt pos'
 holding [v,U,iv] (setItem U iv v)
 release [v,U,iv] [])):PS X (.Assign [.Subscript o b pos'] a pos) (tS nm W X.K (.asg (.sub o' b') a')) :=
 PS.of (aj6 he (aur ho hi (apo (nm:=nm) hu) ha) (ak5 _ _ _ _ _ _) (by rfl) (by rfl)) λD σ H ι ρ M fl qv M' S R e q=>by
  rw[MW.O1] at e;obtain⟨x,M1,e1,e⟩:=dz e;obtain⟨q0,M2,Z,e⟩:=dz e;cases e;rw[MW.anb] at Z;obtain⟨y,M3,e3,Z⟩:=dz Z;obtain⟨z,M4,e4,Z⟩:=dz Z;obtain⟨M5,M6,e5,e6⟩:=dz Z;obtain⟨e7,e8⟩:=rm e5;subst e8;cases e6;refine one S R e1 λqk H1 v le S1 R1 r=>?_
  refine one S1 R1 e3 λqq H2 v2 xj S2 R2 r2=>one S2 R2 e4 λG H3 v3 Ri S3 R3 r3=>?_
  exact⟨G,_,y,z,x,_,S3,r2.mono Ri,r3,(r.mono xj).mono Ri,e7,λH' V1 S'=>q G H' σ (((le.trans xj).trans Ri).trans V1) S' (R3.mono V1)⟩
set_option tactic.hygienic true in
def ak7(hn:n=nm.fld f)(J:∀c C,nm.cls c=some C->Cls X.K C/\Eh X.K C n)(he:PE X a (tE nm W X.K a'))(ho:PE X o (tE nm W X.K o'))(Kp:Ph a=true) :
 PS X (.Assign [.Attribute o n pos'] a pos) (tS nm W X.K (.asg (.fld o' f) a')) :=
 PS.of (au7 ho he (Kd Kp _ _ _)) λD σ H ι ρ M fl qk M' S R e q=>by
  rw[MW.O1] at e;obtain⟨x,M1,e1,e⟩:=dz e;obtain⟨qv,M2,G,e⟩:=dz e;cases e;rw[MW.anc] at G;obtain⟨y,M3,e3,G⟩:=dz G;obtain⟨M5,M6,e5,e6⟩:=dz G;obtain⟨Z,e8⟩:=rm e5;subst e8;cases e6;refine one S R e1 λqq H1 v le S1 R1 r=>one S1 R1 e3 λY H2 v2 xj S2 R2 r2=>?_
  obtain⟨j,hx⟩:∃j,y=.ref j:=by cases y<;>first|exact⟨_,rfl⟩|cases Z
  subst hx;obtain⟨p,rfl,hp⟩:∃p,v2=.ref p/\Y.l[j]?=some p:=by cases r2 with|ref z=>exact⟨_,rfl,z⟩
  simp only[MW.Ry] at Z;split at Z
  .rename_i c fs hM
   have hl:fs.length<1000:=by
    by_cases z:fs.length<1000
    .exact z
    .rw[bw z] at Z;cases Z
   rw[bx hl] at Z;cases Z;obtain⟨C,U,l,h1,h2,h3⟩:=S2.obj j _ p hM hp;subst hn;obtain⟨g1,g2⟩:=J c C h1;refine⟨p,C,U,l,rfl,h2,g1,g2,by rw[<- h3.length];exact hl,?_⟩;obtain⟨S3,L⟩:=S2.put (u:=.ins C U (Gg (nm.fld f) v l)) (o:=.ins c (MW.Rx f x fs)) hM hp λV1=>⟨C,U,_,h1,qy,(h3.mono V1).Gg ((r.mono xj).mono V1)⟩
   exact q Y _ σ ((le.trans xj).trans L) S3 (R2.mono L)
  .cases Z
def Ab.weak(h:Ab X f r)(w:∀Z H Q,r' Z H Q->r Z H Q):Ab X f r':=λG s U H Z R Q I rs q=>h G s U H Z R Q I rs (w Z H Q q)
def rB(nm:Nm)(K:Fg)(b:Blt):List V->Hp->VK->Prop:=λvs H Q=>∃U M ds d R,j7 nm K U H M/\my K U H ds vs/\MW.uq b ds M=.ok d R/\∀Z G v,Le U H Z G->j7 nm K Z G R->Rep K Z G d v->Q v G
def Ab.of(h:Ab X f r)(w:∀vs H Q G M R d U,j7 nm X.K G H M->my X.K G H R vs->MW.uq bb R M=.ok d U->(∀Z H' v,Le G H Z H'->j7 nm X.K Z H' U->Rep X.K Z H' d v->Q v H')->r vs H Q):Ab X f (rB nm X.K bb) :=
 Ab.weak h λvs H Q z_=>by obtain⟨G,M,R,d,U,S,r,e,q⟩:=z_;exact w vs H Q G M R d U S r e q
def aai{X:Cx}:∀σ H Q,tE nm W X.K (.blt t Z) σ H Q->tCB (rB nm X.K t) (Yr nm W X.K Z) σ H Q:=fun σ H Q hh=>by obtain⟨ι,ρ,M,d,M',S,R,e,q⟩:=hh;rw[MW.Wq] at e;obtain⟨ds,M1,e1,e⟩:=dz e;exact U7 S R e1 λU H1 vs le S1 R1 r=>⟨U,M1,ds,d,M',S1,r,e,λG H' v V1 S' r'=>q G H' v (le.trans V1) S' r'⟩
def ae1{id:String}(hc:Ab X (.builtin id) (rB nm X.K t))(R:Gl X x)(hm:X.mg x=none)(hv:bootBuiltins x=some (.builtin id))(U:PA X (a::es) (Yr nm W X.K Z))(hn:x≠"__name__")(G:(x==("__debug__" : Str))=false)(he:starEach (a::es) X.env=(false,eval a X.env)::starEach es X.env)(Kp:(backTo pos (starEach es X.env)).any (·.1)=false):PE X (.Call (.Name x p) (a::es) [] pos) (tE nm W X.K (.blt t Z)):=PE.weak (akl hc R hm hv U hn G he Kp) aai
def ak8(hc:Ab X (.type T) (rB nm X.K t))(R:Gl X x)(hm:X.mg x=none)(hv:bootBuiltins x=some (.type T))(U:PA X (a::es) (Yr nm W X.K Z))(hn:x≠"__name__")(G:(x==("__debug__" : Str))=false)(he:starEach (a::es) X.env=(false,eval a X.env)::starEach es X.env)(Kp:(backTo pos (starEach es X.env)).any (·.1)=false):PE X (.Call (.Name x p) (a::es) [] pos) (tE nm W X.K (.blt t Z)):=PE.weak (agp hc R hm hv U hn G he Kp) aai
def Oj(r:my K G H ds Z)(h:ds=[d]):∃v,Z=[v]/\Rep K G H d v:=by subst h;cases r with|cons h t=>cases t;exact⟨_,rfl,h⟩
def apq:Ab X (.type "tuple") (rB nm X.K .tuple):=Ab.of U5 λvs H Q R M ds d M' S r e q=>by
 cases r with
 |nil=>simp[MW.uq] at e
 |@cons x v _ _ h t =>
  cases t with
  |cons h2 t2=>simp[MW.uq] at e
  |nil =>
   have e:Res.qj ((MW.j9 M x).map MW.D.tup) M=.ok d M':=e;obtain⟨e1,e2⟩:=rm e;subst e2;obtain⟨xs,e3,rfl⟩:=bu.mp e1;obtain⟨p,G,rfl,Z,U⟩:=Fd S h e3;rcases Z with Z|Z
   .refine⟨p,G,rfl,.inl ⟨Ec.of Z,λl hl=>?_⟩⟩
    obtain⟨S2,xj,r2⟩:=Ik S hl U;exact q R _ _ xj S2 r2
   .exact⟨p,G,rfl,.inr ⟨Fb.of Z,q R H _ (Le.refl _ _) S (.tup Z U)⟩⟩
set_option tactic.hygienic true in
def a1k:Ab X (.builtin "len") (rB nm X.K .len):=Ab.of Xu λvs H Q C M Y d M' S r e q=>by
 cases r with
 |nil=>simp[MW.uq] at e
 |@cons x v _ _ h t =>
  cases t with
  |cons h2 t2=>simp[MW.uq] at e
  |nil =>
   have fin:∀U,(MW.j9 M x=some U)->d=.int U.length->M'=M->∃p J,[v]=[V.ref p]/\(Ec X.K H p J\/Fb X.K H p J)/\Q (.int J.length) H:=λU e3 Z e2=>by subst Z e2;obtain⟨p,L,rfl,R,ru⟩:=Fd S h e3;exact⟨p,L,rfl,R.imp Ec.of Fb.of,by rw[<- ru.length];exact q C H _ (Le.refl _ _) S (.int _)⟩
   cases h with
   |fz Z G =>
    cases e;exact⟨_,_,rfl,.inl Z.sq,by rw[<- G.length];exact q C H _ (Le.refl _ _) S (.int _)⟩
   |@ref n p Z =>
    have e:(match M[n]? with|some (.lst Y)=>Res.ok (MW.D.int Y.length) M|_=>.bad)=Res.ok d M':=e;split at e
    .rename_i Y u
     cases e;exact fin Y (by simp[MW.j9,MW.gj,u]) rfl rfl
    .cases e
   |tup Z G=>cases e;exact fin _ rfl rfl rfl|vl Z n1 G=>cases e;exact fin _ rfl rfl rfl|_=>cases e
noncomputable def Ep(f:Dv->Dv->Option Bool)(Z bs:List Dv)(j:Nat):Bool:=match Z[j]?,bs[j]? with
 |some a,some b=>(f a b).getD false|_,_=>false
set_option tactic.hygienic true in
theorem Gb{f:Dv->Dv->Option Bool}:∀{Z bs:List Dv}{r:Bool},MW.Vc f Z bs=some r->(∀(j:Nat) a b,Z[j]?=some a->bs[j]?=some b->∃c,f a b=some c) /\
 r=((List.range (min Z.length bs.length)).all (Ep f Z bs)&&Z.length==bs.length)
 |[],[],r,h=>by cases h;exact⟨λj a b e=>by simp at e,by simp⟩
 |[],b::bs,r,h=>by cases h;exact⟨λj a b e=>by simp at e,by simp⟩
 |a::Z,[],r,h=>by cases h;exact⟨λj a b _ e=>by simp at e,by simp⟩
 |a::Z,b::bs,r,h=>by
  simp only[MW.Vc] at h;split at h
  .rename_i x y J S
   cases h;obtain⟨u,R⟩:=Gb S;refine⟨λj U L Y G=>?_,?_⟩
   .cases j with
    |zero=>simp at Y G;subst Y G;exact⟨x,J⟩|succ j=>exact u j U L (by simpa using Y) (by simpa using G)
   .rw[d9,d9,Nat.succ_min_succ,List.range_succ_eq_map,List.all_cons,List.all_map]
    have z:Ep f (a::Z) (b::bs) 0=x:=by simp[Ep,J]
    have C:(Ep f (a::Z) (b::bs) ∘ Nat.succ)=Ep f Z bs:=by funext j;simp[Ep]
    rw[z,C,R];have z3:(Z.length+1==bs.length+1)=(Z.length==bs.length):=by
     by_cases q:Z.length=bs.length
     .simp[q]
     .have:¬(Z.length+1=bs.length+1):=by lia
      simp[q,this]
    rw[z3,Bool.and_assoc]
  .cases h
set_option tactic.hygienic true in
theorem Ke{Z:Io}{H:Hp}{K:Fg}{f:Dv->Dv->Option Bool}(J:∀x y v r,Rep K Z H x v->Rep K Z H y v->f x y=some r->r=true):∀{Y bs:List Dv}{G:List V}{r:Bool},my K Z H Y G->my K Z H bs G->MW.Vc f Y bs=some r->r=true
 |_,_,_,_,.nil,.nil,h=>by cases h;rfl
 |_,_,_,_,.cons h1 t1,.cons h2 t2,h=>by
  simp only[MW.Vc] at h;split at h
  .rename_i x y U C
   cases h;rw[J _ _ _ _ h1 h2 U,Ke J t1 t2 C];rfl
  .cases h
inductive EqI(M:dm)(f:Dv->Dv->Option Bool):Dv->Dv->Bool->Prop
 |bl (a b:Bool):EqI M f (.bl a) (.bl b) (a==b)
 |int (a b:Int):EqI M f (.int a) (.int b) (decide (a=b))
 |str (a b:Str):EqI M f (.str a) (.str b) (decide (a=b))
 |tup {as bs:List Dv} {r:Bool} (h:MW.Vc f as bs=some r):EqI M f (.tup as) (.tup bs) r
 |lst {x y:Dv} {as bs:List Dv} {r:Bool} (h1:MW.gj M x=some as) (h2:MW.gj M y=some bs) (h:(if as.length=bs.length then MW.Vc f as bs else some false)=some r):EqI M f x y r
set_option tactic.hygienic true in
def X8(h:MW.Mh M (k+1) x y=some r):EqI M (MW.Mh M k) x y r:=by
 unfold MW.Mh at h;split at h
 .cases h;exact .int _ _
 .cases h;exact .bl _ _
 .cases h;exact .str _ _
 .exact .tup h
 .split at h
  .rename_i Y Z;exact .lst Y Z h
  .cases h
def aaj{X:Cx}(S:j7 nm X.K Z H M)(rx:Rep X.K Z H x v)(R:Rep X.K Z H y v)(h1:MW.gj M x=some ds)(h2:MW.gj M y=some es):∃vs,my X.K Z H ds vs/\my X.K Z H es vs:=by obtain⟨p,vs,rfl,g1,g2⟩:=qw S rx h1;obtain⟨p',ws,hw,G,U⟩:=qw S R h2;cases hw;rw[g1] at G;cases G;exact⟨vs,g2,U⟩
theorem Yb{nm:Nm}{U:Io}{H:Hp}{M:dm}{X:Cx}(S:j7 nm X.K U H M):∀(k:Nat)(x y:Dv)(v:V)(r:Bool),Rep X.K U H x v->Rep X.K U H y v->MW.Mh M k x y=some r->r=true
 |0,_,_,_,_,_,_,h=>by cases h
 |k+1,x,y,v,r,rx,ry,h=>by
  have ih:=Yb S k;cases X8 h with
  |bl a b=>cases rx;cases ry;simp|int a b=>cases rx;cases ry;simp|str a b=>cases rx;cases ry;simp
  |tup h=>cases rx with
   |tup e1 Z=>cases ry with
    |tup e2 G=>rw[e1] at e2;cases e2;exact Ke ih Z G h
  |lst h1 h2 R =>
   obtain⟨vs,Z,G⟩:=aaj S rx ry h1 h2;rw[bx (Z.length.trans G.length.symm)] at R;exact Ke ih Z G R
def Vals.aci{j:Nat}(r:Vals xs G)(R:xs[j]?=some v)(U:G[j]?=some u):RelV v u:=by obtain⟨u',Z,e2⟩:=L2.Vals.get r R;rw[U] at Z;cases Z;exact e2
set_option tactic.hygienic true in
theorem Uj{nm:Nm}{X:Cx}{ι:Io}{H:Hp}{σ:St}{M:dm}{qv:Zp}{s:Shared}(I:Inv X qv σ H s)(S:j7 nm X.K ι H M):∀(k:Nat)(A:Around)(x y:Dv)(v u:V)(v' u':Value)(r:Bool),xu k A->Rep X.K ι H x v->Rep X.K ι H y u->RelV v v'->RelV u u'->MW.Mh M k x y=some r->SeqAt.EqAt A s v' u' r
 |0,_,_,_,_,_,_,_,_,_,_,_,_,_,h=>by cases h
 |k+1,A,x,y,v,u,v',u',r,hr,rx,ry,rv,ru,h=>by
  have ih:=Uj I S k A.in1;have q3:=hr.in1;have elems:∀(Z Y:List Dv)(vs ws:List V)(is J:Zl)(rr:Bool),my X.K ι H Z vs->my X.K ι H Y ws->Vals vs is->Vals ws J->MW.Vc (MW.Mh M k) Z Y=some rr ->
   ∀j (h1:j<is.toArray.size) (h2:j<J.toArray.size),SeqAt.EqAt A.in1 s is.toArray[j] J.toArray[j] (Ep (MW.Mh M k) Z Y j):=λZ Y vs ws is J rr rd re Ov qk he j h1 h2=>by
   have l1:j<Z.length:=by rw[rd.length,Ov.length];simpa using h1
   have l2:j<Y.length:=by rw[re.length,qk.length];simpa using h2
   have R:Z[j]?=some Z[j]:=by simp[l1]
   have G:Y[j]?=some Y[j]:=by simp[l2]
   obtain⟨c,hc⟩:=(Gb he).1 j _ _ R G;obtain⟨va,a1,a2⟩:=rd.get R;obtain⟨wa,b1,b2⟩:=re.get G;have q1:is[j]?=some is.toArray[j]:=by simp
   have q2:J[j]?=some J.toArray[j]:=by simp
   have:=ih _ _ va wa _ _ c q3 a2 b2 (Vals.aci Ov a1 q1) (Vals.aci qk b1 q2) hc;have z:Ep (MW.Mh M k) Z Y j=c:=by simp[Ep,R,G,hc]
   rw[z];exact this
  have qq:∀(p p2:Addr)(Z Y:List Dv),v=.ref p->u=.ref p2->MW.gj M x=some Z->MW.gj M y=some Y->(if Z.length=Y.length then MW.Vc (MW.Mh M k) Z Y else some false)=some r->SeqAt.EqAt A s v' u' r:=λp p2 Z Y hv hu h1 h2 h3=>by
   subst hv hu;cases rv;cases ru;obtain⟨_,vs,hv,R,G⟩:=qw S rx h1;cases hv;obtain⟨_,ws,hw,g3,g4⟩:=qw S ry h2;cases hw
   by_cases U:p=p2
   .subst U
    have:r=true:=by rw[R] at g3;cases g3;rw[bx (G.length.trans g4.length.symm)] at h3;exact Ke (λx y v r a b c=>Yb S k x y v r a b c) G g4 h3
    rw[this];exact SeqAt.EqAt.same _
   .refine SeqAt.EqAt.of_refs U ?_
    obtain⟨is,r1,L,_⟩:=I.list (Ec.of R);obtain⟨J,r2,C,_⟩:=I.list (Ec.of g3)
    by_cases hl:Z.length=Y.length
    .rw[bx hl] at h3
     have q0:is.toArray.size=J.toArray.size:=by simp[<- r1.length,<- r2.length,<- G.length,<- g4.length,hl]
     have:=SeqAt.RcAt.lists (e:=Ep (MW.Mh M k) Z Y) L.isList C.isList q0 hr.T4 (elems Z Y vs ws is J r G g4 r1 r2 h3);rw[(Gb h3).2];have e1:is.toArray.size=min Z.length Y.length:=by simp[<- r1.length,<- G.length,hl]
     rw[e1] at this;simpa[hl] using this
    .rw[bw hl] at h3
     cases h3;exact SeqAt.RcAt.lists_lengths L.isList C.isList (by simp[<- r1.length,<- r2.length,<- G.length,<- g4.length,hl]) hr.T4
  cases X8 h with
  |bl a b=>cases rx;cases ry;cases rv;cases ru;exact SeqAt.EqAt.bool_bool _ _
  |int a b =>
   cases rx;cases ry;obtain⟨t,rfl⟩:=rv;obtain⟨t2,rfl⟩:=ru;rw[<- Bool.beq_eq_decide_eq];exact SeqAt.EqAt.int_int _ _ _ _
  |str a b =>
   cases rx;cases ry;obtain⟨t,rfl⟩:=rv;obtain⟨t2,rfl⟩:=ru;rw[<- Bool.beq_eq_decide_eq];exact SeqAt.EqAt.str_str _ _ _ _
  |@tup Z Y _ h=>cases rx with
   |@tup p _ vs e1 r1=>cases ry with
    |@tup p2 _ ws e2 r2 =>
     cases rv;cases ru
     by_cases U:p=p2
     .subst U
      have:r=true:=by rw[e1] at e2;cases e2;exact Ke (λx y v r a b c=>Yb S k x y v r a b c) r1 r2 h
      rw[this];exact SeqAt.EqAt.same _
     .refine SeqAt.EqAt.of_refs U ?_
      obtain⟨is,R,L,_⟩:=I.tuple (Fb.of e1);obtain⟨J,G,C,_⟩:=I.tuple (Fb.of e2);have:=SeqAt.RcAt.tuples (e:=Ep (MW.Mh M k) Z Y) (show s.heap.IsTuple p is.toArray from L) (show s.heap.IsTuple p2 J.toArray from C) hr.T4 (elems Z Y vs ws is J r r1 r2 R G h);rw[(Gb h).2];have z1:is.toArray.size=Z.length:=by simp[<- R.length,<- r1.length]
      have z2:J.toArray.size=Y.length:=by simp[<- G.length,<- r2.length]
      rw[z1,z2] at this;exact this
  |lst h1 h2 h3 =>
   obtain⟨p,_,e1,_⟩:=qw S rx h1;obtain⟨p2,_,e2,_⟩:=qw S ry h2;exact qq p p2 _ _ e1 e2 h1 h2 h3
inductive Yc(A:Around)(s:Shared):Value->Value->Bool->Prop
 |Tw {p p2:Addr} {is js:Xt} (e:Nat->Bool) (h1:s.heap.IsTuple p is) (h2:s.heap.IsTuple p2 js) (he:∀j (h1:j<is.size) (h2:j<js.size),SeqAt.EqAt A.in1 s is[j] js[j] (e j)):Yc A s (.ref p) (.ref p2) ((List.range (min is.size js.size)).all e&&is.size==js.size)
 |a1m {p p2:Addr} {is js:Xt} (e:Nat->Bool) (h1:s.heap.IsList p is) (h2:s.heap.IsList p2 js) (hz:is.size=js.size) (he:∀j (h1:j<is.size) (h2:j<js.size),SeqAt.EqAt A.in1 s is[j] js[j] (e j)):Yc A s (.ref p) (.ref p2) ((List.range is.size).all e)
 |lens {p p2:Addr} {is js:Xt} (h1:s.heap.IsList p is) (h2:s.heap.IsList p2 js) (hz:(is.size != js.size)=true):Yc A s (.ref p) (.ref p2) false
def V5{A:Around}(I:Inv X pins σ H s)(S:j7 nm X.K ι H M)(hr:xu k A.in1)(rd:my X.K ι H ds vs)(re:my X.K ι H es ws)(Ov:Vals vs is)(Z:Vals ws G)(he:MW.Vc (MW.Mh M k) ds es=some rr) :
 ∀j (h1:j<is.toArray.size) (h2:j<G.toArray.size),SeqAt.EqAt A.in1 s is.toArray[j] G.toArray[j] (Ep (MW.Mh M k) ds es j):=λj h1 h2=>by
 have l1:j<ds.length:=by rw[rd.length,Ov.length];simpa using h1
 have l2:j<es.length:=by rw[re.length,Z.length];simpa using h2
 have R:ds[j]?=some ds[j]:=by simp[l1]
 have U:es[j]?=some es[j]:=by simp[l2]
 obtain⟨c,hc⟩:=(Gb he).1 j _ _ R U;obtain⟨va,a1,a2⟩:=rd.get R;obtain⟨wa,b1,b2⟩:=re.get U;have q1:is[j]?=some is.toArray[j]:=by simp
 have q2:G[j]?=some G.toArray[j]:=by simp
 have:=Uj I S k A.in1 _ _ va wa _ _ c hr a2 b2 (Vals.aci Ov a1 q1) (Vals.aci Z b1 q2) hc;have z:Ep (MW.Mh M k) ds es j=c:=by simp[Ep,R,U,hc]
 rw[z];exact this
def acj(I:Inv X pins σ H s)(S:j7 nm X.K ι H M)(hr:xu k A.in1)(rx:Rep X.K ι H x v)(ry:Rep X.K ι H y u)(rv:RelV v v')(ru:RelV u u')(h1:MW.gj M x=some ds)(h2:MW.gj M y=some es)(R:(if ds.length=es.length then MW.Vc (MW.Mh M k) ds es else some false)=some r):Yc A s v' u' r:=by
 obtain⟨p,vs,rfl,g1,g2⟩:=qw S rx h1;obtain⟨p2,ws,rfl,g3,g4⟩:=qw S ry h2;cases rv;cases ru;obtain⟨is,r1,U,_⟩:=I.list (Ec.of g1);obtain⟨js,r2,G,_⟩:=I.list (Ec.of g3)
 by_cases Z:ds.length=es.length
 .rw[bx Z] at R
  have qq:is.toArray.size=js.toArray.size:=by simp[<- r1.length,<- r2.length,<- g2.length,<- g4.length,Z]
  have z:=Yc.a1m (A:=A) (Ep (MW.Mh M k) ds es) U.isList G.isList qq (V5 I S hr g2 g4 r1 r2 R);rw[(Gb R).2];have e1:is.toArray.size=min ds.length es.length:=by simp[<- r1.length,<- g2.length,Z]
  rw[e1] at z;simpa[Z] using z
 .rw[bw Z] at R
  cases R;exact .lens U.isList G.isList (by simp[<- r1.length,<- r2.length,<- g2.length,<- g4.length,Z])
set_option tactic.hygienic true in
def aak(I:Inv X pins σ H s)(S:j7 nm X.K ι H M)(hr:xu k A.in1)(Y:Rep X.K ι H x v)(Z:Rep X.K ι H y u)(R:RelV v v')(ru:RelV u u')(h:MW.Mh M (k+1) x y=some r) :
 Yc A s v' u' r\/(au5 v u=true/\r=decide (v=u)):=by
 cases X8 h with
 |bl a b=>cases Y;cases Z;exact .inr ⟨rfl,by by_cases z:a=b<;>simp[z]⟩|int a b=>cases Y;cases Z;exact .inr ⟨rfl,by by_cases z:a=b<;>simp[z]⟩|str a b=>cases Y;cases Z;exact .inr ⟨rfl,by by_cases z:a=b<;>simp[z]⟩
 |@tup ds es _ h=>cases Y with
  |@tup p _ vs e1 r1=>cases Z with
   |@tup p2 _ ws e2 r2 =>
    cases R;cases ru;obtain⟨is,L,G,_⟩:=I.tuple (Fb.of e1);obtain⟨C,U,J,_⟩:=I.tuple (Fb.of e2);have z:=Yc.Tw (A:=A) (Ep (MW.Mh M k) ds es) (show s.heap.IsTuple p is.toArray from G) (show s.heap.IsTuple p2 C.toArray from J) (V5 I S hr r1 r2 L U h);rw[(Gb h).2];have z1:is.toArray.size=ds.length:=by simp[<- L.length,<- r1.length]
    have z2:C.toArray.size=es.length:=by simp[<- U.length,<- r2.length]
    rw[z1,z2] at z;exact .inl z
 |lst h1 h2 h3=>exact .inl (acj I S hr Y Z R ru h1 h2 h3)
def Yc.rc(h:Yc A s v u r)(U:A.units<cLine):SeqAt.RcAt A s v u r/\SeqAt.RcNeAt A s v u (!r):=by
 cases h with
 |Tw e Z G he=>exact⟨SeqAt.RcAt.tuples Z G U he,SeqAt.RcNeAt.tuples Z G U he⟩|a1m e Z G R he=>exact⟨SeqAt.RcAt.lists Z G R U he,SeqAt.RcNeAt.lists Z G R U he⟩|lens Z G R=>exact⟨SeqAt.RcAt.lists_lengths Z G R U,SeqAt.RcNeAt.lists_lengths Z G R U⟩
def a8h(U:xu 6 X.A):Az X (compareOp .Eq) (Uw nm X.K .eq):=λZ s σ H v u v' u' Q I G R hh=>by
 obtain⟨ι,M,x,y,b,S,rx,ry,e,q⟩:=hh;have e:MW.Mh M 6 x y=some b:=e;rcases aak (A:=X.A) I S U.in1 rx ry G R e with h|⟨h1,h2⟩
 .exact(h.rc U.T4).1 X.prog X.w X.xe _ ⟨.bl b,H,I,rfl,q⟩
 .subst h2
  exact azs Z s σ H v u v' u' Q I G R ⟨h1,q⟩
def a8i(U:xu 6 X.A):Az X (compareOp .NotEq) (Uw nm X.K .ne):=λZ s σ H v u v' u' Q I G R hh=>by
 obtain⟨ι,M,x,y,b,S,rx,ry,e,q⟩:=hh;obtain⟨b',e1,e2⟩:=bu.mp (show(MW.um M x y).map not=some b from e);subst e2;rcases aak (A:=X.A) I S U.in1 rx ry G R (show MW.Mh M 6 x y=_ from e1) with h|⟨h1,h2⟩
 .exact(h.rc U.T4).2 X.prog X.w X.xe _ ⟨.bl !b',H,I,rfl,q⟩
 .subst h2
  exact azt Z s σ H v u v' u' Q I G R ⟨h1,q⟩
section
variable{nm:Nm}{W:Kv}{X:Cx}{a b c o:Expr}{a' b' c' o':Ex}{pos pos' apos:Pos}{ι:Io}{H:Hp}{σ:St}{ρ:En}{M M1 M2:dm}{x y:Dv}{es:Ya}{es':De}
set_option tactic.hygienic true in
theorem Ks:∀{Z:List Dv}{bs:List Bool},MW.Mr M x Z=some bs->bs.length=Z.length/\∀(j:Nat) d,Z[j]?=some d->∃b,bs[j]?=some b/\MW.um M d x=some b
 |[],bs,h=>by cases h;exact⟨rfl,λj d e=>by simp at e⟩
 |y::ys,bs,h=>by
  simp only[MW.Mr] at h;split at h
  .rename_i a b J U
   cases h;obtain⟨G,Y⟩:=Ks U;refine⟨by simp[G],λj d e=>?_⟩;cases j with
   |zero=>simp at e;subst e;exact⟨a,rfl,J⟩|succ j=>simpa using Y j d (by simpa using e)
  .cases h
def Ey(I:Inv X pins σ H s)(e:Xw X.K H p G):(∃o,H p=some (.Hd o (.lst G)))\/(H p=none/\∃(o:Obj)(Z:Xt)(n:Nat),X.K.lookup p=some o/\o.data=.seq Z n/\Vals G Z.toList):=by
 rcases e with h|⟨o,Z,n,h1,_,_,h2,_,h3⟩
 .exact .inl h
 .exact .inr ⟨(I.bs p o (I.mod.kin p o h1)).2,o,Z,n,h1,h2,h3⟩
def av6(I:Inv X pins σ H s)(e:Xw X.K H p vs)(e2:Xw X.K H p ws):vs=ws:=by
 rcases Ey I e with⟨o,h⟩|⟨h,o,rn,n,h1,h2,h3⟩
 .rcases Ey I e2 with⟨o',Z⟩|⟨Z,_⟩
  .rw[h] at Z;cases Z;rfl
  .rw[h] at Z;cases Z
 .rcases Ey I e2 with⟨o',Z⟩|⟨_,o',qq,n',U,G,R⟩
  .rw[h] at Z;cases Z
  .rw[h1] at U;cases U
   rw[h2] at G;cases G;exact Vals.inj h3 R
mutual
theorem ae2{R:Zp}{s:Shared}(I:Inv X R σ H s)(S:j7 nm X.K ι H M):∀{d d':Dv}{v:V},Rep X.K ι H d v->Rep X.K ι H d' v->d=d'
 |_,_,_,.non,r=>by cases r;rfl|_,_,_,.bl b,r=>by cases r;rfl|_,_,_,.int i,r=>by cases r;rfl|_,_,_,.str z,r=>by cases r;rfl
 |_,_,_,.tup e1 r1,r=>by
  cases r with
  |tup Z G =>
   rw[e1] at Z;cases Z;rw[Ol I S r1 G]
  |vl Z n2 G=>rw[e1] at Z;cases Z
  |fz Z G =>
   rcases Ey I Z with⟨o,h⟩|⟨h,_⟩
   .rw[e1] at h;cases h
   .rw[e1] at h;cases h
  |ref Z =>
   obtain⟨u,q,U⟩:=S.mem (az Z);rw[e1] at U;exact U.elim
 |_,_,_,.vl e1 n1 r1,r=>by
  cases r with
  |tup Z G=>rw[e1] at Z;cases Z
  |vl Z n2 G =>
   rw[e1] at Z;cases Z;rw[Ol I S r1 G]
  |fz Z G =>
   rcases Ey I Z with⟨o,h⟩|⟨h,_⟩
   .rw[e1] at h;cases h
   .rw[e1] at h;cases h
  |ref Z=>exact absurd (az Z) n1.1
 |_,_,_,.fz e1 r1,r=>by
  cases r with
  |tup Z G =>
   rcases Ey I e1 with⟨o,h⟩|⟨h,_⟩
   .rw[Z] at h;cases h
   .rw[Z] at h;cases h
  |vl Z n2 G =>
   rcases Ey I e1 with⟨o,h⟩|⟨h,_⟩
   .rw[Z] at h;cases h
   .rw[Z] at h;cases h
  |fz Z G =>
   have:=av6 I e1 Z;subst this;rw[Ol I S r1 G]
  |ref Z =>
   obtain⟨u,q,U⟩:=S.mem (az Z);rcases Ey I e1 with⟨o,h⟩|⟨h,_⟩
   .rw[h] at U;exact U.elim
   .rw[h] at q;cases q
 |_,_,_,.ref e1,r=>by
  cases r with
  |tup Z G =>
   obtain⟨u,q,U⟩:=S.mem (az e1);rw[Z] at U;exact U.elim
  |vl Z n2 G=>exact absurd (az e1) n2.1
  |fz Z G =>
   obtain⟨u,q,U⟩:=S.mem (az e1);rcases Ey I Z with⟨o,h⟩|⟨h,_⟩
   .rw[h] at U;exact U.elim
   .rw[h] at q;cases q
  |ref Z =>
   obtain⟨l1,q1⟩:=ak.mp e1;obtain⟨l2,q2⟩:=ak.mp Z;rw[(wy S.nd).mp (q1.trans q2.symm)]
theorem Ol{G:Zp}{s:Shared}(I:Inv X G σ H s)(S:j7 nm X.K ι H M):∀{U Z:List Dv}{R:List V},my X.K ι H U R->my X.K ι H Z R->U=Z
 |_,_,_,.nil,r=>by cases r;rfl
 |_,_,_,.cons h t,r=>by
  cases r with
  |cons h2 t2=>rw[ae2 I S h h2,Ol I S t t2]
end
def Yd(I:Inv X pins σ H s)(S:j7 nm X.K ι H M)(hr:xu 6 A)(U:my X.K ι H ds vs)(R:Vals vs is)(rx:Rep X.K ι H x u)(ru:RelV u u')(h:MW.Mr M x ds=some bs):∃e:Value->Bool,(∀w,w∈is.toArray->SeqAt.EqAt A s w u' (e w))/\∀(j:Nat)(w:Value),is[j]?=some w->bs[j]?=some (e w):=by
 obtain⟨g1,g2⟩:=Ks h;have G:∀(j:Nat)(w:Value),is[j]?=some w->∃b,bs[j]?=some b/\SeqAt.EqAt A s w u' b:=λj w hw=>by
  have lj:j<ds.length:=by rw[U.length,R.length];exact(ak.mp hw).1
  have gd:ds[j]?=some ds[j]:=by simp[lj]
  obtain⟨b,e1,e2⟩:=g2 j _ gd;obtain⟨v,a1,a2⟩:=U.get gd;exact⟨b,e1,Uj I S 6 A _ _ v u w u' b hr a2 rx (Vals.aci R a1 hw) ru e2⟩
 classical
 refine⟨λw=>if hw:∃j:Nat,is[j]?=some w then(bs[hw.choose]?).getD false else false,λw hw=>?_,λj w hw=>?_⟩
 .obtain⟨j,hj,e⟩:=vd (by simpa using hw:w∈is)
  have Z:∃j:Nat,is[j]?=some w:=⟨j,by simp[hj,e]⟩;obtain⟨b,e1,e2⟩:=G Z.choose w Z.choose_spec;simp only[dif_pos Z,e1,Option.getD_some];exact e2
 .have Z:∃j:Nat,is[j]?=some w:=⟨j,hw⟩
  obtain⟨b,e1,e2⟩:=G j w hw;obtain⟨b',e3,e4⟩:=G Z.choose w Z.choose_spec;simp only[dif_pos Z,e3,Option.getD_some];rw[e1]
  congr 1
  have lj:j<ds.length:=by rw[U.length,R.length];exact(ak.mp hw).1
  have lk:Z.choose<ds.length:=by rw[U.length,R.length];exact(ak.mp Z.choose_spec).1
  have gd:ds[j]?=some ds[j]:=by simp[lj]
  have gk:ds[Z.choose]?=some ds[Z.choose]:=by simp[lk]
  obtain⟨c1,q1,q2⟩:=g2 j _ gd;obtain⟨c2,q3,q4⟩:=g2 Z.choose _ gk;obtain⟨v1,p1,p2⟩:=U.get gd;obtain⟨v2,p3,p4⟩:=U.get gk;have hv:v1=v2:=RelV.inj (Vals.aci R p1 hw) (Vals.aci R p3 Z.choose_spec);subst hv;rw[e1] at q1;rw[e3] at q3;cases q1;cases q3;have hd:=ae2 I S p2 p4;rw[hd,q4] at q2;exact(gq q2).symm
def apt{is:Zl}{bs:List Bool}(Z:bs.length=is.length)(h:∀(j:Nat) (w:Value),is[j]?=some w->bs[j]?=some (e w)):bs=is.map e:=by
 apply List.ext_getElem?;intro j;rw[gf];cases q:is[j]? with
 |none=>rw[v7 (by rw[Z];exact List.getElem?_eq_none_iff.mp q)];rfl|some w=>rw[h j w q];rfl
def ar8{b:Bool}(n:Bool)(hr:xu 8 X.A)(S:j7 nm X.K ι H M)(I:Inv X pins σ H s)(rv:RelV v v')(ru:RelV u u')(rx:Rep X.K ι H x v)(ry:Rep X.K ι H y u)(e:MW.Ux M x y=some b)(q:Q (.bl (cond n (!b) b)) H):wpAny (model X.prog X.w) X.A (compareOp (cond n .NotIn .In) v' u') (EP X pins σ Q) X.xe s:=by
 have qk:∀G,MW.j9 M y=some G->MW.memD M x G=some b->wpAny (model X.prog X.w) X.A (compareOp (cond n .NotIn .In) v' u') (EP X pins σ Q) X.xe s:=λG h1 h2=>by
  obtain⟨bs,e1,e2⟩:=bu.mp (show(MW.Mr M x G).map (·.any id)=some b from h2);obtain⟨p,vs,rfl,R,r⟩:=Fd S ry h1;cases ru;have fin:∀{is:Zl}{f:Value->Bool},Vals vs is->(∀(j:Nat)(w:Value),is[j]?=some w->bs[j]?=some (f w))->is.toArray.any f=b:=fun{is f} Z U=>by have:=apt (by rw[(Ks e1).1,r.length,Z.length]) U;rw[this] at e2;rw[<- e2];simp[List.any_map]
  rcases R with R|R
  .obtain⟨is,Z,pl,_⟩:=I.list (Ec.of R)
   obtain⟨f,g1,U⟩:=Yd (A:=X.A.in1) I S ((hr.mono (by decide:7<=8)).in1) r Z rx rv e1;have a:=fin Z U;subst a;cases n with
   |false=>exact SeqAt.in_listAt f pl.isList g1 ⟨.bl _,H,I,rfl,q⟩|true=>exact SeqAt.notIn_listAt f pl.isList g1 ⟨.bl _,H,I,rfl,q⟩
  .obtain⟨is,Z,pl,_⟩:=I.tuple (Fb.of R)
   obtain⟨f,g1,U⟩:=Yd (A:=X.A.in1) I S ((hr.mono (by decide:7<=8)).in1) r Z rx rv e1;have a:=fin Z U;subst a;cases n with
   |false=>exact SeqAt.in_tupleAt f (show s.heap.IsTuple p is.toArray from pl) g1 ⟨.bl _,H,I,rfl,q⟩
   |true=>exact SeqAt.notIn_tupleAt f (show s.heap.IsTuple p is.toArray from pl) g1 ⟨.bl _,H,I,rfl,q⟩
 have qq:(MW.j9 M y).bind (MW.memD M x)=some b->wpAny (model X.prog X.w) X.A (compareOp (cond n .NotIn .In) v' u') (EP X pins σ Q) X.xe s:=λe=>by obtain⟨G,h1,h2⟩:=iu.mp e;exact qk G h1 h2
 exact qq e
def a8j(hr:xu 8 X.A):Az X (compareOp .In) (Uw nm X.K .inn):=λZ s σ H v u v' u' Q I rv ru U=>by obtain⟨ι,M,x,y,b,S,R,G,e,q⟩:=U;exact ar8 false hr S I rv ru R G e q
def apu(hr:xu 8 X.A):Az X (compareOp .NotIn) (Uw nm X.K .Rt):=λZ s σ H v u v' u' Q I rv ru R=>by obtain⟨ι,M,x,y,c,S,rx,G,e,q⟩:=R;obtain⟨b,U,rfl⟩:=bu.mp (show(MW.Ux M x y).map not=some c from e);exact ar8 true hr S I rv ru rx G U q
end
def rM(nm:Nm)(K:Fg)(m:Bm):V->List V->Hp->VK->Prop:=λv vs H Q=>∃U M x ds d R,j7 nm K U H M/\Rep K U H x v/\my K U H ds vs/\MW.Dr m x ds M=.ok d R /\
 ∀Z G w,Le U H Z G->j7 nm K Z G R->Rep K Z G d w->Q w G
set_option tactic.hygienic true in
theorem ak9{id:String}(hT:∀ι H M x v,j7 nm X.K ι H M->Rep X.K ι H x v->MW.Jm m x M=true->tyV X.K T v H)(pa:PlainAttrs T)(Y:Slot T name id)(qq:typeOf (.builtin id)=pure (.type "method_descriptor"))(hm:MtR X id (rM nm X.K m))(ho:PE X o (tE nm W X.K o'))(ha:PA X (e::es) (Yr nm W X.K U))(Z3:attributeBase o name X.env (eval o X.env)=eval o X.env)(J:((backTo G (starEach (e::es) X.env)).all (λx=>!x.1)&&(backToKw G (keywordEach [] X.env)).all (λx=>x.1.isSome)
&&decide ((e::es).length+([]:List Keyword).length+(if([]:List Keyword).isEmpty then 0 else 1)<30))=true)(Z4:(apos.endLine==G.line)=true)(hs:starEach (e::es) X.env=(false,eval e X.env)::starEach es X.env)(C:(backTo G (starEach es X.env)).any (·.1)=false) :
 PE X (.Call (.Attribute o name apos) (e::es) [] G) (tE nm W X.K (.bm m o' U)) :=
 PE.of (a0g pa Y qq hm ho ha Z3 J Z4 hs C) fun σ H Q ι ρ M d M' S R e q=>by
  rw[MW.as3] at e;obtain⟨x,M1,e1,e⟩:=dz e;split at e
  .rename_i ht
   obtain⟨ds,M2,e2,e⟩:=dz e;exact one S R e1 λZ H1 v le S1 R1 r=>⟨hT Z H1 M1 x v S1 r ht,Z,ρ,M1,ds,M2,S1,R1,e2,λL H2 vs xj S2 rs=>⟨L,M2,x,ds,d,M',S2,r.mono xj,rs,e,λu H' w V1 S' r'=>q u H' w ((le.trans xj).trans V1) S' r'⟩⟩
  .cases e
def ae3(h:MW.onL o M f=.ok d M'):∃n Z,o=.ref n/\M[n]?=some (.lst Z)/\f n Z=.ok d M':=by
 cases o with
 |ref n =>
  simp only[MW.onL] at h;cases e:M[n]? with
  |none=>rw[e] at h;cases h
  |some o=>cases o with
   |lst Z=>rw[e] at h;exact⟨n,Z,rfl,e,h⟩|_=>rw[e] at h;cases h
 |_=>cases h
def Uk{Z:List Dv}(h:MW.Jl Z g=.ok d M'):∃x,Z=[x]/\g x=.ok d M':=by
 match Z,h with
 |[x],h=>exact⟨x,rfl,h⟩|[],h=>cases h|_::_::_,h=>cases h
def Ye{c:Prop}[Decidable c]{r:Res α}(h:(if c then r else .bad)=.ok d M'):c/\r=.ok d M':=by
 by_cases z:c
 .rw[bx z] at h;exact⟨z,h⟩
 .rw[bw z] at h;cases h
def ty_list{X:Cx}(S:j7 nm X.K R H M)(r:Rep X.K R H x v)(h:(MW.gj M x).isSome=true):tyV X.K "list" v H:=by obtain⟨ds,Z⟩:=j0.mp h;obtain⟨p,G,rfl,U,_⟩:=qw S r Z;exact .inl ⟨rfl,G,Ec.of U⟩
def ala:MtR X "list.append" (rM nm X.K .append):=λZ s σ H v vs u us Q I ru Ov hh=>by
 obtain⟨ι,M,x,ds,d,M',S,r,rs,e,q⟩:=hh;obtain⟨n,xs,rfl,R,e1⟩:=ae3 e;obtain⟨d0,rfl,e2⟩:=Uk e1;obtain⟨hl,e3⟩:=Ye e2;cases e3;cases r with
 |ref G =>
  obtain⟨U,h3,h4⟩:=S.obj n _ _ R G;cases rs with
  |cons hd ht =>
   cases ht;refine Vy Z s σ H _ _ u us Q I ru Ov ⟨_,U,_,rfl,rfl,h3,by rw[<- h4.length];exact Oi hl,?_⟩;obtain⟨S2,xj⟩:=S.put (u:=.lst (U++[_])) (o:=.lst (xs++[_])) R G λle=>⟨_,qy,(h4.mono le).append (.cons (hd.mono le) .nil)⟩
   exact q _ _ _ xj S2 .non
def alb:MtR X "list.extend" (rM nm X.K .extend):=λZ s σ H v vs u us Q I ru Ov hh=>by
 obtain⟨ι,M,x,ds,d,M',S,r,rs,e,q⟩:=hh;obtain⟨n,xs,rfl,hM,e1⟩:=ae3 e;obtain⟨y,rfl,U⟩:=Uk e1;cases hy:MW.gj M y with
 |none=>rw[hy] at U;cases U
 |some zs =>
  rw[hy] at U;obtain⟨⟨_,hl⟩,e3⟩:=Ye U;cases e3;cases r with
  |ref R =>
   obtain⟨ys,h3,h4⟩:=S.obj n _ _ hM R;cases rs with
   |cons hd ht =>
    cases ht;obtain⟨b,G,rfl,h5,h6⟩:=qw S hd hy;refine agu Z s σ H _ _ u _ Q I ru Ov ⟨_,b,ys,G,rfl,rfl,h3,h5,by rw[<- h4.length,<- h6.length];exact yo (Oi hl),?_⟩;obtain⟨S2,xj⟩:=S.put (u:=.lst (ys++G)) (o:=.lst (xs++zs)) hM R λle=>⟨_,qy,(h4.mono le).append (h6.mono le)⟩
    exact q _ _ _ xj S2 .non
set_option tactic.hygienic true in
theorem ints_rep{ι:Io}{H:Hp}{K:Fg}:∀{Y:List Dv}{G:List V}{is:Zl}{J:X9},my K ι H Y G->Vals G is->MW.Vd Y=some J->∃Z:Array (Int×Tok),is.toArray=intItems Z/\Z.toList.map (·.1)=J
 |_,_,_,_,.nil,.nil,h=>by cases h;exact⟨#[],by simp[intItems],rfl⟩
 |_,_,_,_,.cons r t,.cons rv tv,h=>by
  cases r<;>simp only[MW.Vd] at h<;>try cases h
  rename_i i;obtain⟨C,L,e2⟩:=bu.mp h;obtain⟨Z,u,S⟩:=ints_rep t tv L;obtain⟨R,rfl⟩:=rv;refine⟨#[(i,R)]++Z,?_,by simp[S,e2]⟩;have U:=nq Array.toList u;apply Array.toList_inj.mp;simp[intItems] at U ⊢;exact U
theorem aal:∀(l:X9)(z m:Int),(m=z\/m∈l)->z<=m->(∀a∈l,a<=m)->l.foldl (λm x=>if m<x then x else m) z=m
 |[],z,m,h,_,_=>by rcases h with h|h;exact h.symm;cases h
 |a::l,z,m,h,hz,Li=>by
  rw[List.foldl_cons];have U:=Li a cg;refine aal l _ m ?_ (by split<;>lia) (λb G=>Li b (bh _ G));rcases h with h|h
  .subst h;left;split<;>lia
  .rcases cj.mp h with h|h
   .subst h
    by_cases Z:z<m
    .left;rw[bx Z]
    .left;rw[bw Z];lia
   .exact .inr h
theorem aam:∀(l:X9)(z m:Int),(m=z\/m∈l)->m<=z->(∀a∈l,m<=a)->l.foldl (λm x=>if x<m then x else m) z=m
 |[],z,m,h,_,_=>by rcases h with h|h;exact h.symm;cases h
 |a::l,z,m,h,hz,Li=>by
  rw[List.foldl_cons];have U:=Li a cg;refine aam l _ m ?_ (by split<;>lia) (λb G=>Li b (bh _ G));rcases h with h|h
  .subst h;left;split<;>lia
  .rcases cj.mp h with h|h
   .subst h
    by_cases Z:m<z
    .left;rw[bx Z]
    .left;rw[bw Z];lia
   .exact .inr h
def apv(e:MW.two ds f g M=.ok d Z):Z=M/\((∃i j,ds=[.int i,.int j]/\d=.int (f i j))\/∃x m,ds=[x]/\g x=some m/\d=.int m):=by
 cases ds with
 |nil=>cases e
 |cons x r=>cases r with
  |nil =>
   obtain⟨G,e2⟩:=rm (show Res.qj ((g x).map MW.D.int) M=.ok d Z from e);obtain⟨m,R,U⟩:=bu.mp G;exact⟨e2,.inr ⟨x,m,rfl,R,U.symm⟩⟩
  |cons y r=>cases r with
   |nil =>
    cases x<;>try cases e
    cases y<;>cases e;exact⟨rfl,.inl ⟨_,_,rfl,rfl⟩⟩
   |cons _ _=>cases e
def aan{h:List Int->Option Int}(e:MW.two ds f (λd=>((MW.j9 M d).bind MW.Vd).bind h) M=.ok d R):R=M/\((∃i j,ds=[.int i,.int j]/\d=.int (f i j))\/∃x G n Z m,ds=[x]/\MW.j9 M x=some G/\MW.Vd G=some (n::Z)/\h (n::Z)=some m/\d=.int m\/h []=some m):=by
 obtain⟨a,b|⟨x,m,h3,h4,h5⟩⟩:=apv e
 .exact⟨a,.inl b⟩
 .obtain⟨Z,e5,U⟩:=iu.mp h4
  obtain⟨G,e7,e8⟩:=iu.mp e5;cases Z with
  |nil=>exact⟨a,.inr ⟨x,G,0,[],m,.inr U⟩⟩|cons n Z=>exact⟨a,.inr ⟨x,G,n,Z,m,.inl ⟨h3,e7,e8,U,h5⟩⟩⟩
def ack(h:Vals [v] Z):∃u,Z=[u]/\RelV v u:=L2.Vals.one h
def V6(h:i<Z.size):(Z.toList.map (·.1))[i]?=some (numAt Z i):=by simp[numAt,h]
def best{Z:Array (Int×Tok)}{R:Int->Int->Prop}(g2:Z.toList.map (·.1)=n::l)(h:b<Z.size)(b2:∀i,i<Z.size->R (numAt Z i) (numAt Z b)):(numAt Z b=n\/numAt Z b∈l)/\∀a∈n::l,R a (numAt Z b):=by
 constructor
 .have:=az (V6 h)
  rw[g2] at this;exact cj.mp this
 .intro a U
  rw[<- g2] at U;obtain⟨i,G⟩:=mq.mp U;have li:i<Z.size:=by have:=(ak.mp G).1;simpa using this
  rw[V6 li] at G;cases G;exact b2 i li
def ae4(r:my K ι H [.int i,.int j] Z):Z=[.int i,.int j]:=by
 cases r with
 |cons R G=>cases G with
  |cons h2 U=>cases U;cases R;cases h2;rfl
def ae5(I:Inv X pins σ H s)(S:j7 nm X.K ι H M)(r:my X.K ι H [x] vs)(Ov:Vals vs us)(e1:MW.j9 M x=some xs)(e2:MW.Vd xs=some (n::ns)):∃a Z,us=[.ref a]/\(s.heap.IsList a (intItems Z)\/s.heap.IsTuple a (intItems Z))/\Z.toList.map (·.1)=n::ns/\0<Z.size:=by
 obtain⟨v,rfl,rv⟩:=Oj r rfl;obtain⟨u,rfl,ru⟩:=ack Ov;obtain⟨p,ws,rfl,R,rl⟩:=Fd S rv e1;cases ru;have fin:∀{Z:Array (Int×Tok)},Z.toList.map (·.1)=n::ns->0<Z.size:=fun{Z} g=>by have:=nq List.length g;simp at this;lia
 rcases R with R|R
 .obtain⟨is,G,pl,_⟩:=I.list (Ec.of R)
  obtain⟨Z,g1,U⟩:=ints_rep rl G e2;exact⟨_,Z,rfl,.inl (by rw[<- g1];exact pl.isList),U,fin U⟩
 .obtain⟨is,G,pl,_⟩:=I.tuple (Fb.of R)
  obtain⟨Z,g1,U⟩:=ints_rep rl G e2;exact⟨_,Z,rfl,.inr (by rw[<- g1];exact pl),U,fin U⟩
def V7{s:Shared}{Z:Heap}{R:Obj}(U:∀b o,b∉[s.heap.objs.size]->(s.heap.push R).get? b=some o->Z.get? b=some o):∀b o,s.heap.get? b=some o->Z.get? b=some o:=λb o e =>
 U b o (λG=>absurd (j4.mp G▸au e) (nu _)) (aq _ e)
def alc{s:Shared}{G:Obj}(U:l<s.heap.objs.size):∀b∈[s.heap.objs.size,l],b<(s.heap.push G).objs.size:=λb Z=>by
 rw[jq];simp only[cj,wz,or_false] at Z;rcases Z with rfl|rfl
 .exact qu _
 .exact Nat.lt_succ_of_lt U
def apw{A:Around}{E:Y1}{Q:Y1}(hh:A.handled=none)(G:s.heap.IsList l (intItems Z)\/s.heap.IsTuple l (intItems Z))(O6:0<Z.size)
 (h:∀v U R,(intItems Z)[argBest (λi j=>decide (numAt Z i > numAt Z j)) (Z.size-1)]?=some v->(∀b o,s.heap.get? b=some o->U.get? b=some o)->Q v { s with heap:=U,toks:=R }) :
 wpAny (model prog w) A (call (.builtin "max") [.ref l]) Q E s:=by
 rcases G with G|G
 .exact max_intList hh G O6 h
 .have Kl:l<s.heap.objs.size:=by obtain⟨_,e,_⟩:=G;exact au e
  refine call_max_walk (m9 G ⟨_,_,_,_,_,_,_,rfl,Walks.tuple (A:=A.in1) hh _ l (fu Kl) (intItems Z),⟨⟨_,bf _ rfl,rfl,rfl⟩,G.at λo e=>aq _ e⟩,alc Kl,by simpa[intItems] using O6,CmpOf.ints_gt (numAt Z) (λ_ _=>intItems_at),λv U R hP hk=>?_⟩);exact h v U R (by simpa[intItems] using hP) (V7 hk)
def apx{A:Around}{E:Y1}{Q:Y1}(hh:A.handled=none)(G:s.heap.IsList l (intItems Z)\/s.heap.IsTuple l (intItems Z))(O6:0<Z.size)
 (h:∀v U R,(intItems Z)[argBest (λi j=>decide (numAt Z i<numAt Z j)) (Z.size-1)]?=some v->(∀b o,s.heap.get? b=some o->U.get? b=some o)->Q v { s with heap:=U,toks:=R }) :
 wpAny (model prog w) A (call (.builtin "min") [.ref l]) Q E s:=by
 rcases G with G|G
 .exact min_intList hh G O6 h
 .have Kl:l<s.heap.objs.size:=by obtain⟨_,e,_⟩:=G;exact au e
  refine call_min_walk (m9 G ⟨_,_,_,_,_,_,_,rfl,Walks.tuple (A:=A.in1) hh _ l (fu Kl) (intItems Z),⟨⟨_,bf _ rfl,rfl,rfl⟩,G.at λo e=>aq _ e⟩,alc Kl,by simpa[intItems] using O6,CmpOf.ints_lt (numAt Z) (λ_ _=>intItems_at),λv U R hP hk=>?_⟩);exact h v U R (by simpa[intItems] using hP) (V7 hk)
def a1n(hc:X.calm=true):Ab X (.builtin "max") (rB nm X.K .max):=λG s σ H vs us Q I Ov hh=>by
 obtain⟨ι,M,ds,d,M',S,r,e,q⟩:=hh;obtain⟨rfl,⟨i,j,rfl,rfl⟩|⟨x,xs,n,l,m,⟨rfl,e1,e2,U,rfl⟩|U⟩⟩:=aan (h:=MW.am2) e
 .cases ae4 r
  exact agk hc G s σ H _ us Q I Ov ⟨i,j,rfl,q ι H _ (Le.refl _ _) S (.int _)⟩
 .obtain⟨a,xa,rfl,pl,g2,O6⟩:=ae5 I S r Ov e1 e2
  refine apw (I.ok.hd hc) pl O6 λw h' tk hw Z=>?_
  obtain⟨t,rfl⟩:=intItems_at hw;obtain⟨b1,b2⟩:=argBest_gt (numAt xa) (xa.size-1);obtain⟨c1,c2⟩:=best (R:=(·<=·)) g2 (by omega) λi hi=>b2 i (by lia)
  cases U;rw[aal l n _ c1 (c2 n cg) λa h=>c2 a (bh _ h)] at q;exact⟨.int _,H,I.kept Z,⟨t,rfl⟩,q ι H _ (Le.refl _ _) S (.int _)⟩
 .cases U
def Om(n d:Nat)(o:Option Int):HT.Ed n d o=MW.clip n d o:=by
 cases o with
 |none=>rfl
 |some i =>
  show(if i<0 then(i+(n:Int)).toNat else min i.toNat n)=(if 0<=i then min i.toNat n else(i+(n:Int)).toNat)
  by_cases h:i<0
  .rw[bx h,bw (by lia)]
  .rw[bw h,bx (by lia)]
def tO(nm:Nm)(W:Kv)(K:Fg)(o:OEx):TO:=fun σ H Q=>∃U ρ M d R,j7 nm K U H M/\qe K U H ρ σ/\o.den W ρ M=.ok d R/\∀Z G,Le U H Z G->j7 nm K Z G R->Q d G
def PO.weak(h:PO X e t)(w:∀Z H Q,t' Z H Q->t Z H Q):PO X e t':=λG s Z H Q I q=>h G s Z H Q I (w Z H Q q)
def PO.of(h:PO X e t)(w:∀σ H Q G ρ M d U,j7 nm X.K G H M->qe X.K G H ρ σ->o'.den W ρ M=.ok d U->(∀Z H',Le G H Z H'->j7 nm X.K Z H' U->Q d H')->t σ H Q):PO X e (tO nm W X.K o'):=PO.weak h fun σ H Q z_=>by obtain⟨G,ρ,M,d,U,S,R,e,q⟩:=z_;exact w σ H Q G ρ M d U S R e q
def apy:PO X none (tO nm W X.K .none):=PO.of ao8 fun σ H Q Z U M d G S R e q=>by rw[MW.Ve] at e;cases e;exact q Z H (Le.refl _ _) S
set_option tactic.hygienic true in
def apz(G:PE X a (tE nm W X.K Y)):PO X (some a) (tO nm W X.K (.some Y)):=PO.of (ao9 G) fun σ H Q ι ρ M d L S R e q=>by rw[MW.Vf] at e;obtain⟨x,M1,U,e⟩:=dz e;split at e<;>cases e;rename_i i;exact one S R U λZ J v le C u r=>by cases r;exact⟨i,rfl,q Z J le C⟩
set_option tactic.hygienic true in
def a1o(ha:PE X a (tE nm W X.K a'))(hl:PO X lo (tO nm W X.K qq))(hh:PO X hi (tO nm W X.K q1)):PE X (.Subscript a (.Slice lo hi none p2) pos) (tE nm W X.K (.cut a' qq q1)) :=
 PE.of (akp (SlR.or apb avf) ha hl hh) fun σ H Q ι ρ M d M' S R e q=>by
  rw[MW.ac5] at e;obtain⟨x,M1,e1,e⟩:=dz e;obtain⟨l,M2,e2,e⟩:=dz e;obtain⟨h,M3,e3,e⟩:=dz e;obtain⟨C,e5⟩:=rm e;subst e5;refine one S R e1 λq0 H1 v le S1 R1 r=>⟨q0,ρ,M1,l,M2,S1,R1,e2,λqk H2 xj S2=>⟨qk,ρ,M2,h,_,S2,R1.mono xj,e3,λJ H3 Ri L=>?_⟩⟩
  have r3:=(r.mono xj).mono Ri;have fin:=λqv H' w V1 S' r'=>q qv H' w (((le.trans xj).trans Ri).trans V1) S' r'
  have lst:∀Z,MW.gj M' x=some Z->d=.vl (MW.Jg Z l h)->a0e X.K v l h H3 Q:=λZ hd ed=>by
   obtain⟨p,vs,rfl,u,U⟩:=qw L r3 hd;refine⟨p,vs,rfl,Ec.of u,λp' Y=>?_⟩;have:my X.K J H3 (MW.Jg Z l h) (Qz vs l h):=by unfold MW.Jg Qz;rw[Om,Om,<- U.length];exact(U.drop _).take _
   obtain⟨S4,G,r4⟩:=Xx (X:=X) L Y this;subst ed;exact fin _ _ _ G S4 r4
  cases x with
  |tup Z =>
   right
   simp only[MW.Ms] at C;cases C;cases r3 with
   |@tup p _ vs u U =>
    have:my X.K J H3 (MW.Jg Z l h) (Qz vs l h):=by unfold MW.Jg Qz;rw[Om,Om,<- U.length];exact(U.drop _).take _
    refine⟨p,vs,rfl,Fb.of u,λz1 z2=>?_,λp' Y=>?_⟩
    .have e:Qz vs l h=vs:=by
      unfold Qz;rw[z1,z2];simp
     rw[e] at this;exact fin _ _ _ (Le.refl _ _) L (.tup u this)
    .obtain⟨S4,G,r4⟩:=Ik (X:=X) L Y this
     exact fin _ _ _ G S4 r4
  |_ =>
   left
   simp only[MW.Ms] at C;obtain⟨Z,hd,ed⟩:=bu.mp C;exact lst Z hd ed.symm
def a1p(hc:X.calm=true):Ab X (.builtin "min") (rB nm X.K .min):=λG s σ H vs us Q I Ov hh=>by
 obtain⟨ι,M,ds,d,M',S,r,e,q⟩:=hh;obtain⟨rfl,⟨i,j,rfl,rfl⟩|⟨x,xs,n,l,m,⟨rfl,e1,e2,U,rfl⟩|U⟩⟩:=aan (h:=MW.asu) e
 .cases ae4 r
  exact agl hc G s σ H _ us Q I Ov ⟨i,j,rfl,q ι H _ (Le.refl _ _) S (.int _)⟩
 .obtain⟨a,xa,rfl,pl,g2,O6⟩:=ae5 I S r Ov e1 e2
  refine apx (I.ok.hd hc) pl O6 λw h' tk hw Z=>?_
  obtain⟨t,rfl⟩:=intItems_at hw;obtain⟨b1,b2⟩:=argBest_lt (numAt xa) (xa.size-1);obtain⟨c1,c2⟩:=best (R:=λa b=>b<=a) g2 (by omega) λi hi=>b2 i (by lia)
  cases U;rw[aam l n _ c1 (c2 n cg) λa h=>c2 a (bh _ h)] at q;exact⟨.int _,H,I.kept Z,⟨t,rfl⟩,q ι H _ (Le.refl _ _) S (.int _)⟩
 .cases U
def ald(K:Fg)(T:String):PySem.W.kitOne K (.type T) (.type T)=some true:=by unfold PySem.W.kitOne;rw[bx (by simp)]
def ale(hg:Gl X n)(hm:X.mg n=none)(hv:bootBuiltins n=some (.builtin "isinstance"))(hn:n≠"__name__")(Xo:(n==("__debug__" : Str))=false)(q0:Gl X G)(qk:X.mg G=none)(qv:bootBuiltins G=some (.type "bool"))(qq:G≠"__name__")(q2:(G==("__debug__" : Str))=false)(ha:PE X a (tE nm W X.K a'))(he:starEach [a,.Name G p'] X.env=(false,eval a X.env)::starEach [.Name G p'] X.env)(q1:starEach [.Name G p'] X.env=(false,eval (.Name G p') X.env)::starEach [] X.env)(Kp:(backTo pos (starEach [.Name G p'] X.env)).any (·.1)=false):PE X (.Call (.Name n p) [a,.Name G p'] [] pos) (tE nm W X.K (.blt .isBool (.cons a' .nil))):=by
 intro U s σ H Q I hh;obtain⟨ι,ρ,M,d,M',S,R,e,q⟩:=hh;rw[MW.Wq] at e;obtain⟨ds,M1,e1,e⟩:=dz e;rw[MW.Bl] at e1;obtain⟨x,M2,e2,e1⟩:=dz e1;rw[MW.Dt] at e1;cases e1;refine m8 (Ii I hg hm hv ?_ hn Xo);refine u5 (Q:=EP X U σ Q) ?_ he Kp;rw[he];show wpAny _ _ (spliced ((false,eval a X.env)::backTo pos (starEach [.Name G p'] X.env))) _ _ s;refine Calls.spliced_cons (zg (ha U s σ H (λv H1=>∃Z,Le ι H Z H1/\j7 nm X.K Z H1 M1/\Rep X.K Z H1 x v) I ⟨ι,ρ,M,x,M1,S,R,e2,λZ H1 v le S1 r=>⟨Z,le,S1,r⟩⟩) λu s1 z_=>?_);obtain⟨v,H1,I1,r1,Z,le,S1,r⟩:=z_;rw[q1];show wpAny _ _ (spliced ((false,eval (.Name G p') X.env)::backTo pos (starEach [] X.env))) _ _ s1;refine Calls.spliced_cons (Ii I1 q0 qk qv ?_ qq q2);refine Calls.spliced_nil ?_;cases r with
 |bl b =>
  cases e;cases(show u=Value.bool b from r1);exact PySem.W.kia_one PySem.W.kitx_bool I1.kIn True.intro (ald _ _) (λz=>nomatch z) λtk=>⟨.bl true,H1,I1.tok _,rfl,q Z H1 _ le S1 (.bl true)⟩
 |_=>cases e
end Sm
namespace EnT
open PySem PySem.Spec
open AutoSeq1 (wpAny_loadPart')
set_option tactic.hygienic true in
def alf(a:s.heap.IsTupleIter it t i)(b:s.heap.IsTuple t L)(e:L[i]?=some x)(q:∀G,G.IsTupleIter it t (i+1)->Heap.SameBut it s.heap G->Q x { s with heap:=G }):wpAny (model prog w) A (Builtin.SmallTypes.nextOf (.ref it)) Q E s:=by obtain⟨o,Y,U,Z⟩:=id a;obtain⟨S,J,u,R,C⟩:=b;unfold Builtin.SmallTypes.nextOf;refine aa (jd (name:=Str.ofString "__next__") a.typeIs qd (jm qd a.typeIs F.entry_tuple_iterator_next ?_ (F.args_tuple_iterator_next_1 _)));show wpAny _ _ (field (.ref it) 0 >>= _) _ _ s;refine aa (gh Y Z (x:=.ref t) rfl ?_);show wpAny _ _ (if(Value.ref t==Value.none)=true then _ else field (.ref it) 1 >>= _) _ _ s;rw[bw (show ¬((Value.ref t==Value.none)=true) by exact ie)];refine aa (gh Y Z (x:=.int i 0) rfl (aa (o4 J C ?_)));simp only[jt,e];refine aa (q9 Y Z (by simp) (aj ⟨x,rfl,aj (q _ ⟨_,km _ Y (Obj.isFreed_of_fields (ph Z _)),(Obj.cls_mapFields ..).trans U,?_⟩ (jb ..))⟩));rw[ph Z];simp[rawInt]
set_option tactic.hygienic true in
def ap0(U:A.handled=none)(a:s.heap.IsTupleIter it t i)(b:s.heap.IsTuple t L)(e:L[i]?=none)(q:∀Z x,Heap.ExtBut it s.heap Z->(∃o,Z.get? x=some o/\o.cls=.type "StopIteration")->E (.ref x) { s with heap:=Z }):wpAny (model prog w) A (Builtin.SmallTypes.nextOf (.ref it)) Q E s:=by obtain⟨o,Y,S,G⟩:=id a;obtain⟨u,J,l2,R,C⟩:=b;unfold Builtin.SmallTypes.nextOf;refine aa (jd (name:=Str.ofString "__next__") a.typeIs qd (jm qd a.typeIs F.entry_tuple_iterator_next ?_ (F.args_tuple_iterator_next_1 _)));show wpAny _ _ (field (.ref it) 0 >>= _) _ _ s;refine aa (gh Y G (x:=.ref t) rfl ?_);show wpAny _ _ (if(Value.ref t==Value.none)=true then _ else field (.ref it) 1 >>= _) _ _ s;rw[bw (show ¬((Value.ref t==Value.none)=true) by exact ie)];refine aa (gh Y G (x:=.int i 0) rfl (aa (o4 J C ?_)));simp only[jt,e];refine aa (wpAny_rule (aa (q9 Y G (by simp) ?_)));show wpAny _ _ (newExc (.type "StopIteration") [] >>= raiseNew) _ _ _;exact STb.We U λZ x k e=>q Z x (λb o n z=>k b o ((jb ..).extBut b o n z)) e
def Yg(b:Bool)(h:Heap)(it a:Addr)(i:Nat):Prop:=cond b (h.IsTupleIter it a i) (h.IsListIter it a i)
def Yh(b:Bool)(h:Heap)(a:Addr)(Z:Xt):Prop:=cond b (h.IsTuple a Z) (h.IsList a Z)
def Yg.at(x:Yg b h it a i)(k:∀o,h.get? it=some o->Z.get? it=some o):Yg b Z it a i:=by
 cases b with
 |true=>obtain⟨o,e,r⟩:=x;exact⟨o,k o e,r⟩
 |false=>obtain⟨o,e,r⟩:=x;exact⟨o,k o e,r⟩
def Yg.obj(x:Yg b h it a i):∃o,h.get? it=some o/\∀v,o.data≠.cell v:=by
 cases b with
 |true=>obtain⟨o,e,c,d⟩:=x;exact⟨o,e,λv z=>by rw[d] at z;cases z⟩
 |false=>obtain⟨o,e,c,d⟩:=x;exact⟨o,e,λv z=>by rw[d] at z;cases z⟩
def Ul(a:Yg b s.heap it t i)(c:Yh b s.heap t G)(e:G[i]?=some x)(q:∀Z,Yg b Z it t (i+1)->Heap.SameBut it s.heap Z->Q x { s with heap:=Z }):wpAny (model prog w) A (Builtin.SmallTypes.nextOf (.ref it)) Q E s:=by
 cases b with
 |true=>exact alf a c e q|false=>exact wpAny_nextOf_list_item a c e q
def ae6(G:A.handled=none)(a:Yg b s.heap it t i)(c:Yh b s.heap t U)(e:U[i]?=none)(q:∀Z x,Heap.ExtBut it s.heap Z->(∃o,Z.get? x=some o/\o.cls=.type "StopIteration")->E (.ref x) { s with heap:=Z }):wpAny (model prog w) A (Builtin.SmallTypes.nextOf (.ref it)) Q E s:=by
 cases b with
 |true=>exact ap0 G a c e q|false=>exact wpAny_nextOf_list_end G a c e q
def ap1{i:Nat}{Q:Y1}(he:IsEnum s.heap e it i old)(a:Yg b s.heap it t i)(c:Yh b s.heap t xs)(ex:xs[i]?=some x)(ne:e≠it)(q:∀U,IsEnumOut U e it ((i:Int)+1) x s.heap.objs.size->Yg b U it t (i+1)->U.get? s.heap.objs.size=some { cls:=.type "tuple",data:=.seq #[.int i s.toks,x] }->U.objs.size=s.heap.objs.size+1 ->
 (∀y o,y≠e->y≠it->s.heap.get? y=some o->U.get? y=some o)->Q (.ref s.heap.objs.size) { s with heap:=U,toks:=s.toks+1 }) :
 wpAny (model prog w) A (Builtin.«enumerate.__next__» ⟨[.ref e],[]⟩) (λfin s'=>∃v,fin=.done (.ret v)/\Q v s') E s:=by
 obtain⟨R,g,d,tk,os⟩:=s;show wpAny _ _ (field (.ref e) 2 >>= _) _ _ _;refine aa (gh he rfl (x:=.ref it) rfl (aa (Ul a c ex λh1 a1 s1=>?_)));have s1:Heap.SameBut it R h1:=s1;have e1:IsEnum h1 e it i old:=(s1.2 e ne).trans he;refine aa (gh e1 rfl (x:=rawInt i) rfl (aa (gh e1 rfl (x:=.none) rfl (aa (wpAny_mkInt ?_)))));show wpAny _ _ (setField (.ref e) 3 (rawInt ((i:Int)+1)) >>= _) _ _ ⟨h1,g,d,tk+1,os⟩;refine aa (jn e1 (by simp) λh2 e2 s2=>?_);have s2:Heap.SameBut e h1 h2:=s2;have e2:IsEnum h2 e it ((i:Int)+1) old:=e2;refine aa (jn e2 (by simp) λh3 e3 s3=>?_);have s3:Heap.SameBut e h2 h3:=s3;have e3:IsEnum h3 e it ((i:Int)+1) old:=e3;refine aa (wpAny_newTuple ?_);have n3:h3.objs.size=R.objs.size:=by rw[s3.1,s2.1,s1.1]
 obtain⟨Z,d4⟩:∃Z,Z=h3.push { cls:=.type "tuple",data:=.seq #[.int i tk,x] }:=⟨_,rfl⟩;have e4:IsEnum Z e it ((i:Int)+1) old:=by rw[d4];exact aq _ e3
 have t4:Z.get? R.objs.size=some { cls:=.type "tuple",data:=.seq #[.int i tk,x] }:=by rw[d4,<- n3];exact bf _ rfl
 have n4:Z.objs.size=R.objs.size+1:=by rw[d4,jq,n3]
 have k3:∀y o,y≠e->h1.get? y=some o->Z.get? y=some o:=λy o G z=>by rw[d4];exact aq _ (s3.extBut y o G (s2.extBut y o G z))
 have a4:Yg b Z it t (i+1):=a1.at λo z=>k3 it o (jr ne) z
 have lt:e<R.objs.size:=au he
 show wpAny _ _ (Builtin.SmallTypes.ownedTupleIsFree (.ref e) >>= _) _ _ ⟨h3.push _,g,d,tk+1,os⟩;rw[n3,<- d4];refine aa ?_;unfold Builtin.SmallTypes.ownedTupleIsFree;refine aa (gh e4 rfl (x:=.none) rfl (aj ?_));simp only[jz];refine aa (wpAny_rule (aa (gh e4 rfl (x:=old) rfl (aa (jn e4 (by simp) λh5 e5 s5=>?_)))));have s5:Heap.SameBut e Z h5:=s5;have e5:IsEnum h5 e it ((i:Int)+1) x:=e5;refine aa ?_;unfold Builtin.SmallTypes.ownedTupleHandOut;refine aa (jn e5 (by simp) λh6 e6 s6=>?_);have s6:Heap.SameBut e h5 h6:=s6;have e6:IsEnumOut h6 e it ((i:Int)+1) x R.objs.size:=e6;refine jn e6 (by simp) λh7 e7 s7=>?_
 have s7:Heap.SameBut e h6 h7:=s7;have k7:∀y o,y≠e->Z.get? y=some o->h7.get? y=some o:=λy o G z=>s7.extBut y o G (s6.extBut y o G (s5.extBut y o G z))
 exact aa (wpAny_letGo (aj ⟨_,rfl,q h7 e7 (a4.at λo z=>k7 it o (jr ne) z) (k7 _ _ (tu lt) t4) (by rw[s7.1,s6.1,s5.1,n4]) λy o y1 y2 z=>k7 y o y1 (k3 y o y1 (s1.extBut y o y2 z))⟩))
set_option tactic.hygienic true in
def ap2{i:Nat}(G:IsEnum s.heap e it i old)(a:Yg b s.heap it t i)(c:Yh b s.heap t xs)(J:xs[i]?=some x)(R:e≠it)(q:∀Z,IsEnumOut Z e it ((i:Int)+1) x s.heap.objs.size->Yg b Z it t (i+1)->Z.get? s.heap.objs.size=some { cls:=.type "tuple",data:=.seq #[.int i s.toks,x] }->Z.objs.size=s.heap.objs.size+1 ->
 (∀y o,y≠e->y≠it->s.heap.get? y=some o->Z.get? y=some o)->Q (some (.ref s.heap.objs.size)) { s with heap:=Z,toks:=s.toks+1 }):wpAny (model prog w) A (pyNext (.ref e)) Q E s:=by
 have Y:s.TypeIs (.ref e) "enumerate" := ⟨_,G,rfl⟩;unfold pyNext;refine aa (wpAny_attempt (jd (name:=Str.ofString "__next__") Y t7 (jm t7 Y F.entry_enumerate_next ?_ (F.args_enumerate_next_1 _))));exact ap1 G a c J R λZ U L S u C=>aj (q Z U L S u C)
set_option tactic.hygienic true in
def ap3{i:Nat}(C:A.handled=none)(G:IsEnum s.heap e it i old)(a:Yg b s.heap it t i)(c:Yh b s.heap t R)(J:R[i]?=none)(q:∀Z,Heap.ExtBut it s.heap Z->Q none { s with heap:=Z }):wpAny (model prog w) A (pyNext (.ref e)) Q E s:=by have Y:s.TypeIs (.ref e) "enumerate" := ⟨_,G,rfl⟩;unfold pyNext;refine aa (wpAny_attempt (jd (name:=Str.ofString "__next__") Y t7 (jm t7 Y F.entry_enumerate_next ?_ (F.args_enumerate_next_1 _))));show wpAny _ _ (field (.ref e) 2 >>= _) _ _ _;refine aa (gh G rfl (x:=.ref it) rfl (aa (ae6 C a c J λZ z k z_=>?_)));obtain⟨o,L,U⟩:=z_;exact aa (o7 (T := "StopIteration") (b:=true) ⟨o,L,U⟩ isSubtype_stop (aj (q _ k)))
set_option tactic.hygienic true in
def ap4(t:Addr)(xs:Xt)(n:Nat)(Y:Option Addr)(J:Array (Option Value)) :
 Meets (Builtin.«enumerate.__new__» ⟨[.type "enumerate",.ref t],[]⟩) (λ_ R s=>s.heap.get? t=some { cls:=.type "tuple",dict:=Y,data:=.seq xs n,slots:=J } /\
  R (.ok (.ret (.ref (s.heap.push { cls:=.type "tuple_iterator",data:=.fields #[.ref t,.int 0 0] }).objs.size)))
   { s with heap:=(s.heap.push { cls:=.type "tuple_iterator",data:=.fields #[.ref t,.int 0 0] }).push { cls:=.type "enumerate",data:=.fields #[.none,.bool false,.ref s.heap.objs.size,rawInt 0,.none,.none] } }) :=
 .of_wp λprog w A R s h=>by
  obtain⟨S,g,d,C,U⟩:=s;obtain⟨Z,h⟩:=h;have L:=sub_enumerate;have G:Heap.IsTuple (Shared.heap ⟨S,g,d,C,U⟩) t xs:=⟨_,Z,rfl,n,rfl⟩
  wp_walk using wpAny_loadPart' Z
  refine wpAny_stack_any λu=>aj ?_
  split
  .rename_i c _ _ _ _ _
   cases(c==Value.type "enumerate")<;>(wp_walk using wpAny_loadPart' Z,m9 G)<;>exact⟨_,rfl,h⟩
  .wp_walk using wpAny_loadPart' Z,m9 G
   exact⟨_,rfl,h⟩
def alg(c:s.heap.IsTuple t xs)(q:∀Z,IsEnum Z (s.heap.objs.size+1) s.heap.objs.size 0 .none->Z.IsTupleIter s.heap.objs.size t 0->Z.objs.size=s.heap.objs.size+2 ->
 (∀y o,s.heap.get? y=some o->Z.get? y=some o)->Q (.ref (s.heap.objs.size+1)) { s with heap:=Z }):wpAny (model prog w) A (call (.type "enumerate") [.ref t]) Q E s:=by
 obtain⟨⟨c0,G,dt,sl⟩,hl,R,n,U⟩:=c;have R:c0=.type "tuple" := R;have U:dt=.seq xs n:=U;subst R U;have n1:(s.heap.push { cls:=.type "tuple_iterator",data:=.fields #[.ref t,.int 0 0] }).objs.size=s.heap.objs.size+1:=jq ..;refine callType_new F.called_enumerate (by decide) (F.typeCall_enumerate_1 _) (F.newCall_enumerate_1 _) (λobj=>F.args_object_init_2 obj _) F.entry_enumerate_new (ap4 t xs n G sl) ⟨hl,?_⟩;show _/\_;rw[n1];have e1:IsEnum ((s.heap.push { cls:=.type "tuple_iterator",data:=.fields #[.ref t,.int 0 0] }).push { cls:=.type "enumerate",data:=.fields #[.none,.bool false,.ref s.heap.objs.size,rawInt 0,.none,.none] }) (s.heap.objs.size+1) s.heap.objs.size 0 .none:=by rw[<- n1];exact bf _ rfl
 exact⟨⟨_,e1,rfl⟩,q _ e1 ⟨_,aq _ (bf _ rfl),rfl,rfl⟩ (by rw[jq,n1]) λy o z=>aq _ (aq _ z)⟩
end EnT
namespace L2
open PySem PySem.Spec EnT
def Inv.V8{ch:X1}(I:Inv X pins σ H s)(G:∀b∈ch,Qy X pins H b)(k:∀b o,b∉ch->s.heap.get? b=some o->h'.get? b=some o)(hn:s.heap.objs.size<=n)(new:yw X.prog X.w (upd H n (.tup vs)) h' n (.tup vs)):Inv X pins σ (upd H n (.tup vs)) { s with heap:=h',toks:=t' }:=by
 have U:H n=none:=I.yp.fresh hn;have R:∀b u,H b=some u->b∉ch:=λb u e z=>by rw[(G b z).1] at e;cases e
 have qq:∀b o,s.heap.get? b=some o->b≠n:=λb o e=>fu (gm (au e) hn)
 refine I.step (g':=s.gens) (d':=s.drawn) (ch:=ch) (λb hb=>⟨(G b hb).2.2.2.1,(G b hb).2.1,(G b hb).2.2.2.2.1,(G b hb).2.2.2.2.2⟩) (λb o _ _ Z e _=>k b o Z e) (λb o _ _ Z e _=>⟨o.slots,k b o Z e⟩) (λb o _ e n0=>by rw[j6 (qq b o e)];exact n0)
  (λb o Z e=>⟨o,k b o Z e⟩) (λb xs e=>by rw[j6 (m5 e U)];exact e) (λb o u e=>by rw[j6 (m5 e U)];exact e) (λb ps e=>⟨#[],by rw[j6 (m5 e U),e];simp⟩) (λm hm=>?_) (λb u e=>?_) I.bare
 .obtain⟨o,es,ep,ho,r⟩:=hm
  exact⟨o,es,ep,k _ o (λz=>(G _ z).2.1 rfl) ho,r⟩
 .by_cases z:b=n
  .subst z;rw[qy] at e;cases e;exact new
  .rw[j6 z] at e
   refine(I.yp b u e).stay (λc v Z q=>k c v ?_ q) (λc q=>by rw[j6 (m5 q U)];exact q) λc xs q=>by rw[j6 (m5 q U)];exact q
   rcases Z with y|y
   .rw[y];exact R b u e
   .exact R c _ y
def Inv.ae7{ch:X1}(I:Inv X pins σ H s)(G:∀b∈ch,Qy X pins H b)(k:∀b o,b∉ch->s.heap.get? b=some o->h'.get? b=some o):Inv X pins σ H { s with heap:=h',toks:=t' }:=by
 have U:∀b u,H b=some u->b∉ch:=λb u e z=>by rw[(G b z).1] at e;cases e
 refine I.step (g':=s.gens) (d':=s.drawn) (ch:=ch) (λb R=>⟨(G b R).2.2.2.1,(G b R).2.1,(G b R).2.2.2.2.1,(G b R).2.2.2.2.2⟩) (λb o _ _ Z e _=>k b o Z e) (λb o _ _ Z e _=>⟨o.slots,k b o Z e⟩) (λb o _ e n0=>n0)
  (λb o Z e=>⟨o,k b o Z e⟩) (λb xs e=>e) (λb o u e=>e) (λb ps e=>⟨#[],by rw[e];simp⟩) (λm hm=>?_) (λb u e=>?_) I.bare
 .obtain⟨o,es,ep,ho,r⟩:=hm
  exact⟨o,es,ep,k _ o (λz=>(G _ z).2.1 rfl) ho,r⟩
 .refine(I.yp b u e).stay (λc v Z q=>k c v ?_ q) (λ_ q=>q) λ_ _ q=>q
  rcases Z with y|y
  .rw[y];exact U b u e
  .exact U c _ y
def SqX(b:Bool)(K:Fg)(H:Hp)(a:Addr)(Z:List V):Prop:=cond b (Fb K H a Z) (Ec K H a Z)
def Inv.acn(I:Inv X pins σ H s)(h:SqX b X.K H a U):∃Z,Vals U Z/\Yh b s.heap a Z.toArray:=by
 cases b with
 |true=>obtain⟨Z,G,p,R⟩:=I.tuple h;exact⟨Z,G,show s.heap.IsTuple a Z.toArray from p⟩
 |false=>obtain⟨Z,G,p,R⟩:=I.list h;exact⟨Z,G,p.isList⟩
def Inv.aao(I:Inv X pins σ H s)(h:SqX b X.K H a Z)(g:SqX b X.K H a ys):Z=ys:=by
 cases b with
 |true=>exact I.Vs h g|false=>exact I.Zw h g
def Ien(b:Bool)(K:Fg)(a:Addr):It :=
 ⟨λi H=>∃Z x,SqX b K H a Z/\Z[i]?=some x,λi H v G=>∃p x,v=.ref p/\H p=none/\G=upd H p (.tup [.int (i:Nat),x])/\∀Z,SqX b K H a Z->Z[i]?=some x,λi H=>∃Z,SqX b K H a Z/\Z.length<=i⟩
set_option tactic.hygienic true in
theorem ap5(a e it:Addr)(ne:e≠it):Turn P w K (.Tuple ts k0 pt) (Ien b K a) [e,it] e (λi h=>(∃Z,IsEnum h e it ((i:Nat):Int) Z)/\Yg b h it a i) where
 mem:=by simp
 obj:=λi h J c Y=>by
  obtain⟨⟨Z,G⟩,U⟩:=J;rcases cj.mp Y with z|z
  .subst z;exact⟨_,G,λv z=>by cases z⟩
  .have z:c=it:=by simpa using z
   subst z;exact U.obj
 keep:=λi h h' J k=>by obtain⟨⟨Z,G⟩,U⟩:=J;exact⟨⟨Z,k e (by simp) _ G⟩,U.at λo z=>k it (by simp) o z⟩
 item:=by
  intro X hP hw hK Y i L s σ H E I hf J hg;subst hP hw hK;obtain⟨xs,x,R,S⟩:=hg;obtain⟨rn,rv,p⟩:=I.acn R;obtain⟨u,hu,ru⟩:=rv.get S;obtain⟨⟨Z,G⟩,U⟩:=J;have lt:e<s.heap.objs.size:=au G
  refine ap2 G U p (x:=u) (by simpa using hu) ne λh1 o1 a1 t1 n1 k1=>⟨_,rfl,?_⟩
  refine wpAny_letOwnedTupleGo_enum o1 λh2 o2 C=>?_
  have C:Heap.SameBut e h1 h2:=C;have t2:h2.get? s.heap.objs.size=some { cls:=.type "tuple",data:=.seq #[.int i s.toks,u] }:=(C.2 _ (tu lt)).trans t1;refine⟨.ref s.heap.objs.size,upd H s.heap.objs.size (.tup [.int (i:Nat),x]),I.V8 (t':=s.toks+1) hf (λc o Y z=>?_) (bc _) ⟨by show 2<=sizeLine;decide,[.int i s.toks,u],.cons ⟨s.toks,rfl⟩ (.cons ru .nil),⟨_,t2,rfl,_,rfl,rfl⟩⟩,rfl,
   ⟨_,x,rfl,I.yp.fresh (bc _),rfl,λys hy=>by rw[I.aao hy R];exact S⟩,⟨⟨u,?_⟩,a1.at λo z=>C.extBut it o (jr ne) z⟩,λc Y=>?_⟩
  .have c1:c≠e:=λz=>Y (by simp[z])
   have c2:c≠it:=λz=>Y (by simp[z])
   exact C.extBut c o c1 (k1 c o c1 c2 z)
  .have q:((i+1:Nat):Int)=(i:Int)+1:=by push_cast;rfl
   rw[q];exact o2
  .have qq:c<s.heap.objs.size:=by
    rcases cj.mp Y with z|z
    .rw[z];exact lt
    .have z:c=it:=by simpa using z
     obtain⟨o,z2,_⟩:=U.obj;rw[z];exact au z2
   rw[j6 (fu qq)];exact(hf c Y).1
 done:=by intro X hP hw hK Y i L s σ H E I hf J hg;subst hP hw hK;obtain⟨xs,R,S⟩:=hg;obtain⟨rn,rv,p⟩:=I.acn R;obtain⟨⟨Z,G⟩,U⟩:=J;have hl:=rv.length;refine ap3 (I.ok.hd Y) G U p (by simp;exact a_ (g_ hl) S) λh' eb=>⟨rfl,I.ae7 (t':=s.toks) hf λc o Y z=>eb c o (λy=>Y (by simp[y])) z⟩
 self:=λ_ _ _ _ _ J h=>by obtain⟨⟨Z,G⟩,U⟩:=J;exact wpAny_pyIter_enum G h
def a1r(hg:Gl X "enumerate")(hm:X.mg "enumerate" = none)(ha:PA X [a] ta)(hs:starEach [a] X.env=[(false,eval a X.env)]) :
 PI X (.Tuple ts k0 pt) (.Call (.Name "enumerate" p) [a] [] pos) (fun σ H R=>ta σ H λvs H1=>∃b q,vs=[.ref q]/\(∃xs,SqX b X.K H1 q xs)/\R (Ien b X.K q) H1):=by
 intro U s σ H R I h;refine PyProof.Rows.Call_ (Ii I hg hm (show bootBuiltins "enumerate" = some (.type "enumerate") by decide+kernel) (p8 (zg (ha pos U s σ H _ I h) λus Z ⟨vs,H1,I1,r1,q1⟩=>?_) hs rfl));obtain⟨b,q,rfl,⟨xs,hq⟩,hR⟩:=q1;cases r1 with
 |cons r rr =>
  cases rr;cases r;obtain⟨rn,rv,p⟩:=I1.acn hq;have fin:∀G,IsEnum G (Z.heap.objs.size+1) Z.heap.objs.size 0 .none->Yg b G Z.heap.objs.size q 0->(∀y o,Z.heap.get? y=some o->G.get? y=some o) ->
   wpAny (model X.prog X.w) X.A (pyIter (.ref (Z.heap.objs.size+1))) (PIE X U σ (.Tuple ts k0 pt) R) X.xe { Z with heap:=G }:=λG e1 e2 kk=>by
   refine wpAny_pyIter_enum e1 ?_;refine⟨Z.heap.objs.size+1,[Z.heap.objs.size+1,Z.heap.objs.size],_,_,H1,rfl,I1.kept (t':=Z.toks) kk,ap5 (b:=b) q _ _ (Nat.succ_ne_self _),⟨⟨.none,e1⟩,e2⟩,λc hc=>?_,hR⟩;have qq:Z.heap.objs.size<=c:=by
    rcases cj.mp hc with z|z
    .rw[z];exact o8 _
    .have z:c=Z.heap.objs.size:=by simpa using z
     rw[z];exact bc _
   exact I1.agg qq (I1.yp.fresh qq)
  cases b with
  |true=>exact alg p λG e1 e2 _ kk=>fin G e1 e2 kk
  |false=>exact call_enumerate_list p λG e1 e2 _ kk=>fin G e1 e2 kk
end L2
namespace EnT
open PySem PySem.Spec
noncomputable def tpN(Z:Zl):Obj:={ cls:=.type "tuple",data:=.seq Z.toArray }
structure ZN(b:Nat->Bool)(h0:Heap)(n:Nat)(ls:Y3)(f0:Value)(ov:Zl)(k d:Nat)(g:Heap):Prop where
 z:IsZip g (n+ls.length+2) (n+ls.length) (n+ls.length+1) f0
 o:g.get? (n+ls.length+1)=some (tpN ov)
 a:∀(j:Nat) l,ls[j]?=some l->Yg (b l) g (n+j) l (if j<d then k+1 else k)
 low:∀c o,(c<n\/c=n+ls.length\/n+ls.length+2<c)->h0.get? c=some o->g.get? c=some o
def Yh.lt(x:Yh b h a Z):a<h.objs.size:=by
 cases b with
 |true=>obtain⟨o,c,_⟩:=x;exact au c
 |false=>obtain⟨o,c,_⟩:=x;exact au c
def Yh.at(x:Yh b h a xs)(e:∀o,h.get? a=some o->Z.get? a=some o):Yh b Z a xs:=by
 cases b with
 |true=>obtain⟨o,c,d⟩:=x;exact⟨o,e o c,d⟩
 |false=>obtain⟨o,c,d⟩:=x;exact⟨o,e o c,d⟩
def aaq{Z:Y3}{j:Nat}(h:Z[j]?=some l):j<Z.length:=(ak.mp h).1
def ZN.sz(H:ZN b h0 n Z f0 U k d g)(e:Heap.ExtBut (n+Z.length+2) g g')(z:IsZip g' (n+Z.length+2) (n+Z.length) (n+Z.length+1) f1):ZN b h0 n Z f1 U k d g' :=
 ⟨z,e _ _ (by lia) H.o,λj l h=>(H.a j l h).at λo=>e _ o (by have:=aaq h;lia),λc o G z=>e _ _ (by lia) (H.low c o G z)⟩
def ZN.so(H:ZN b h0 n Z f0 R k d g)(e:Heap.ExtBut (n+Z.length+1) g g')(z:g'.get? (n+Z.length+1)=some (tpN G)):ZN b h0 n Z f0 G k d g' :=
 ⟨e _ _ (by lia) H.z,z,λj l h=>(H.a j l h).at λo=>e _ o (by have:=aaq h;lia),λc o U z=>e _ _ (by lia) (H.low c o U z)⟩
def ZN.sa(H:ZN b h0 n Z f0 U k d g)(R:d<Z.length)(e:Heap.ExtBut (n+d) g g')(z:∀l,Z[d]?=some l->Yg (b l) g' (n+d) l (k+1)):ZN b h0 n Z f0 U k (d+1) g' :=
 ⟨e _ _ (by lia) H.z,e _ _ (by lia) H.o,λj l h=>by
  by_cases c:j=d
  .subst c;rw[bx (by lia)];exact z l h
  .have:=H.a j l h
   have i:(if j<d+1 then k+1 else k)=if j<d then k+1 else k:=by
    by_cases q:j<d
    .rw[bx q,bx (by lia)]
    .rw[bw q,bw (by lia)]
   rw[i];exact this.at λo=>e _ o (by lia),λc o G z=>e _ _ (by lia) (H.low c o G z)⟩
def ZN.up(H:ZN b h0 n G f0 U k d g)(e:∀c o,g.get? c=some o->g'.get? c=some o):ZN b h0 n G f0 U k d g' :=
 ⟨e _ _ H.z,e _ _ H.o,λj l h=>(H.a j l h).at (e _),λc o Z z=>e _ _ (H.low c o Z z)⟩
def ZN.nx(H:ZN b h0 n Z f0 G k Z.length g):ZN b h0 n Z f0 G (k+1) 0 g :=
 ⟨H.z,H.o,λj l h=>by have:=H.a j l h;rw[bx (aaq h)] at this;exact this,H.low⟩
def ae8{T:Addr}{Q:Unit->Shared->Prop}(G:ov.length<=3)(U:s.heap.get? T=some (tpN ov))(h:∀Z,Z.get? T=some (tpN (ov.set k x))->Heap.ExtBut T s.heap Z->Z.objs.size=s.heap.objs.size->Q () { s with heap:=Z }) :
 wpAny (model prog w) A (updateSeq T (·.setIfInBounds k x)) Q E s:=by
 have R:Heap.SameBut T s.heap (s.heap.update T (Obj.mapSeq (·.setIfInBounds k x))):=jb ..;refine wpAny_updateSeq U rfl (h _ ?_ R.extBut R.1) (hz:=bj (by simpa using G) (show 3<=sizeLine by decide)) (_hz':=bj (by simpa using G) (show 3<=sizeLine+1 by decide));rw[km _ U rfl];simp[Obj.mapSeq,tpN]
noncomputable def Dj(n m:Nat):List Value:=(List.range m).map λj=>.ref (n+j)
def ae9(n m:Nat):(Dj n m).zipIdx=(List.range' 0 m).map λj=>(Value.ref (n+j),j):=by
 apply List.ext_getElem?;intro i;rw[uy]
 by_cases h:i<m
 .simp[Dj,h]
 .simp[Dj,h]
def At(b:Nat->Bool)(h:Heap)(U:Y3)(k:Nat)(G:Zl):Prop:=G.length=U.length/\∀(j:Nat) l,U[j]?=some l->∃Z x,Yh (b l) h l Z/\Z[k]?=some x/\G[j]?=some x
def ap6{n k:Nat}{Q:Y1}(O6:Z≠[])(h3:Z.length<=3)(H:ZN b s.heap n Z .none G k 0 s.heap)(ho:G.length=Z.length)(hI:s.heap.get? (n+Z.length)=some (tpN (Dj n Z.length)))(hl:∀l∈Z,l<n)(ha:At b s.heap Z k vs)
 (hq:∀h',ZN b s.heap n Z (rawInt s.heap.objs.size) vs (k+1) 0 h'->h'.get? s.heap.objs.size=some (tpN vs)->Q (.ref s.heap.objs.size) { s with heap:=h' }) :
 wpAny (model prog w) A (Builtin.«zip.__next__» ⟨[.ref (n+Z.length+2)],[]⟩) (λfin s'=>∃v,fin=.done (.ret v)/\Q v s') E s:=by
 have hz:=H.z;have ne:(Dj n Z.length).toArray.isEmpty=false:=by cases Z with|nil=>exact absurd rfl O6|cons a l=>simp[Dj]
 show wpAny _ _ (field (.ref (n+Z.length+2)) 2 >>= _) _ _ _;refine aa (gh hz rfl (x:=.bool false) rfl (aa (gh hz rfl (x:=.ref (n+Z.length)) rfl (aa (o4 hI rfl ?_)))));simp only[ne,fc,jf];unfold Builtin.SmallTypes.ownedTupleIsFree;refine aa (aa (gh hz rfl (x:=.none) rfl (aj ?_)));simp only[jz];refine aa (wpAny_rule (aa (gh hz rfl (x:=.ref (n+Z.length+1)) rfl (aa (jn hz (by simp) λg1 z1 s1=>?_)))));have H1:=H.sz s1.extBut (f1:=.ellipsis) z1;refine aa (ud _ (λR bb s'=>bb=(none,())/\∃d G g,R=((List.range' d (Z.length-d)).map λj=>(Value.ref (n+j),j))/\d<=Z.length/\s'={ s with heap:=g }/\ZN b s.heap n Z .ellipsis G k d g/\G.length=Z.length/\(∀i,i<d->G[i]?=vs[i]?)/\g.objs.size=s.heap.objs.size) _ (λx R bb s' hI=>?_) (λbb s' hI=>?_) _ _ ⟨rfl,0,G,g1,?_,ig _,rfl,H1,ho,λi hi=>absurd hi (n6 _),s1.1⟩)
 .obtain⟨rfl,d,G,g,e,U,rfl,H2,o2,v2,n2⟩:=hI
  have U:d<Z.length:=by
   rcases jo d Z.length with h|h
   .exact h
   .rw[Nat.sub_eq_zero_of_le h] at e;cases e
  obtain⟨c,hc⟩:∃c,Z.length-d=c+1:=⟨Z.length-d-1,by lia⟩;rw[hc,w5,dg] at e;injection e with e1 e2
  subst e1 e2;obtain⟨l,el⟩:∃l,Z[d]?=some l:=⟨Z[d],by simp[U]⟩;obtain⟨xs,x,t1,t2,t3⟩:=ha.2 d l el;have i0:=H2.a d l el;rw[bw (nu _)] at i0;have ll:=hl l (az el);refine aa (wpAny_onRaise (aa (Ul (s:={ s with heap:=g }) i0 (t1.at λo=>H2.low _ o (by lia)) t2 λg2 i2 s2=>aj ?_)));have H3:=H2.sa U s2.extBut λl' h=>by rw[el] at h;cases h;exact i2
  refine aa (o4 H3.o rfl (aa (ae8 (by rw[o2];exact h3) H3.o λg3 o3 s3 n3=>?_)));have H4:=H3.so s3 o3;refine aa (wpAny_letGo (aj ⟨rfl,d+1,G.set d x,g3,by rw[show Z.length-(d+1)=c by lia],U,rfl,H4,by rw[yd,o2],λi hi=>?_,by rw[n3,show g2.objs.size=g.objs.size from s2.1,n2]⟩))
  by_cases z:i=d
  .subst z
   rw[uc (by lia),t3]
  .rw[q8 (jr z)];exact v2 i (by lia)
 .obtain⟨rfl,d,G,g,e,U,rfl,H2,o2,v2,n2⟩:=hI
  have U:d=Z.length:=by
   rcases jo d Z.length with h|h
   .obtain⟨c,hc⟩:∃c,Z.length-d=c+1:=⟨Z.length-d-1,by lia⟩
    rw[hc,w5] at e;cases e
   .exact Nat.le_antisymm U h
  subst U;obtain rfl:G=vs:=by
   apply List.ext_getElem?;intro i;rcases jo i Z.length with h|h
   .exact v2 i h
   .rw[v7 (by lia),v7 (by rw[ha.1];exact h)]
  refine aa (o4 H2.o rfl (aa (wpAny_newTuple ?_)));have H8:=H2.nx.up (g':=g.push (tpN G)) λc o e=>aq _ e
  refine aa ?_;unfold Builtin.SmallTypes.ownedTupleHandOut;refine aa (jn H8.z (by simp) λg9 z9 s9=>?_);have H9:=H8.sz s9.extBut (f1:=rawInt g.objs.size) z9;refine jn H9.z (by simp) λq0 q1 qq=>?_
  have qk:=H9.sz qq.extBut (f1:=rawInt g.objs.size) q1;have zl:n+Z.length+2<g.objs.size:=au H2.z
  have qv:q0.get? g.objs.size=some (tpN G):=qq.extBut _ _ (tu zl) (s9.extBut _ _ (tu zl) (bf _ rfl));refine aj ⟨_,rfl,?_⟩;show Q (.ref g.objs.size) _;rw[n2] at qk qv ⊢;exact hq q0 qk qv
 .show(Dj n Z.length).zipIdx=_
  rw[ae9];rfl
def av9{n k e:Nat}{Z:Y3}(hd:A.handled=none)(h0:Z[e]?=some l)(H:ZN b s.heap n Z .none G k 0 s.heap)(ho:G.length=Z.length)(h3:Z.length<=3)(hI:s.heap.get? (n+Z.length)=some (tpN (Dj n Z.length)))(hl:∀l∈Z,l<n)(c1:Yh (b l) s.heap l xs)(e1:xs[k]?=none)
 (ha:∀(j:Nat) a,j<e->Z[j]?=some a->∃xs x,Yh (b a) s.heap a xs/\xs[k]?=some x)
 (hE:∀h' e,(∀c o,(c<n\/n+Z.length+2<c)->s.heap.get? c=some o->h'.get? c=some o)->(∃o,h'.get? e=some o/\o.cls=.type "StopIteration")->E (.ref e) { s with heap:=h' }) :
 wpAny (model prog w) A (Builtin.«zip.__next__» ⟨[.ref (n+Z.length+2)],[]⟩) Q E s:=by
 have hz:=H.z;have qk:=aaq h0;obtain⟨c,hc⟩:∃c,Z.length=c+1:=⟨Z.length-1,by lia⟩;have ne:(Dj n Z.length).toArray.isEmpty=false:=by rw[hc];simp[Dj]
 show wpAny _ _ (field (.ref (n+Z.length+2)) 2 >>= _) _ _ _;refine aa (gh hz rfl (x:=.bool false) rfl (aa (gh hz rfl (x:=.ref (n+Z.length)) rfl (aa (o4 hI rfl ?_)))));simp only[ne,fc,jf];unfold Builtin.SmallTypes.ownedTupleIsFree;refine aa (aa (gh hz rfl (x:=.none) rfl (aj ?_)));simp only[jz];refine aa (wpAny_rule (aa (gh hz rfl (x:=.ref (n+Z.length+1)) rfl (aa (jn hz (by simp) λg1 z1 s1=>?_)))));have H1:=H.sz s1.extBut (f1:=.ellipsis) z1;refine aa (ud _ (λU bb s'=>bb=(none,())/\∃d G g,U=((List.range' d (Z.length-d)).map λj=>(Value.ref (n+j),j))/\d<=e/\s'={ s with heap:=g }/\ZN b s.heap n Z .ellipsis G k d g/\G.length=Z.length/\∀c o,(c<n\/n+Z.length+2<c)->s.heap.get? c=some o->g.get? c=some o) _ (λx U bb s' hI=>?_) (λbb s' hI=>?_) _ _ ⟨rfl,0,G,g1,?_,ig _,rfl,H1,ho,λc o y z=>s1.extBut _ _ (by lia) z⟩)
 .obtain⟨rfl,d,G,g,q,qq,rfl,H2,R,v2⟩:=hI
  obtain⟨c,hc⟩:∃c,Z.length-d=c+1:=⟨Z.length-d-1,by lia⟩;rw[hc,w5,dg] at q;injection q with q1 q2
  subst q1 q2;obtain⟨a,el⟩:∃a,Z[d]?=some a:=⟨Z[d],by simp[show d<Z.length by lia]⟩;have i0:=H2.a d a el;rw[bw (nu _)] at i0;have ll:=hl a (az el);rcases jo d e with hde|hde
  .obtain⟨ys,x,t1,t2⟩:=ha d a hde el
   refine aa (wpAny_onRaise (aa (Ul (s:={ s with heap:=g }) i0 (t1.at λo=>H2.low _ o (by lia)) t2 λg2 i2 s2=>aj ?_)));have H3:=H2.sa (show d<Z.length by lia) s2.extBut λl' h=>by rw[el] at h;cases h;exact i2
   refine aa (o4 H3.o rfl (aa (ae8 (by rw[R];exact h3) H3.o λg3 o3 s3 n3=>?_)));have H4:=H3.so s3 o3;exact aa (wpAny_letGo (aj ⟨rfl,d+1,G.set d x,g3,by rw[show Z.length-(d+1)=c by lia],hde,rfl,H4,by rw[yd,R],λc o y z=>s3 _ _ (by lia) (s2.extBut _ _ (by lia) (v2 c o y z))⟩))
  .obtain rfl:d=e:=by lia
   rw[el] at h0;cases h0;refine aa (wpAny_onRaise (aa (ae6 (s:={ s with heap:=g }) hd i0 (c1.at λo=>H2.low _ o (by lia)) e1 λg2 x s2 z_=>?_)));obtain⟨o,o1,R⟩:=z_;have z2:IsZip g2 (n+Z.length+2) (n+Z.length) (n+Z.length+1) .ellipsis:=s2 _ _ (by lia) H2.z;have ne:x≠n+Z.length+2:=λy=>by subst y;rw[z2] at o1;cases o1;simp at R
   exact jn z2 (by simp) λg3 _ s3=>hE g3 x (λc o y1 e=>s3.extBut _ _ (by lia) (s2 _ _ (by lia) (v2 c o y1 e))) ⟨o,s3.extBut _ _ ne o1,R⟩
 .obtain⟨rfl,d,G,g,q,qq,rfl,H2,R,v2⟩:=hI
  obtain⟨c,hc⟩:∃c,Z.length-d=c+1:=⟨Z.length-d-1,by lia⟩;rw[hc,w5] at q;cases q
 .show(Dj n Z.length).zipIdx=_
  rw[ae9];rfl
noncomputable def zI(b:Bool)(a:Addr):Obj:={ cls:=.type (cond b "tuple_iterator" "list_iterator"),data:=.fields #[.ref a,.int 0 0] }
def pI(b:Nat->Bool)(h:Heap)(Z:Y3):Heap:=Z.foldl (λh l=>h.push (zI (b l) l)) h
theorem Yi:∀(Z:Y3)(h:Heap),(pI b h Z).objs.size=h.objs.size+Z.length
 |[],h=>rfl
 |l::Z,h=>by
  have:=Yi (b:=b) Z (h.push (zI (b l) l));rw[jq] at this;rw[d9,<- Nat.add_assoc,Nat.add_right_comm];exact this
theorem afa:∀{ls:Y3}{h:Heap},h.get? c=some o->(pI b h ls).get? c=some o
 |[],_,e=>e|x::ls,h,e=>afa (ls:=ls) (h:=h.push (zI (b x) x)) (aq _ e)
theorem alh:∀{ls:Y3}{h:Heap}{j:Nat},ls[j]?=some l->(pI b h ls).get? (h.objs.size+j)=some (zI (b l) l)
 |x::ls,h,0,e=>by cases e;exact afa (ls:=ls) (h:=h.push (zI (b l) l)) (bf _ rfl)
 |x::ls,h,j+1,e=>by
  have:=alh (b:=b) (h:=h.push (zI (b x) x)) (ls:=ls) (j:=j) e;rw[jq] at this;rw[<- Nat.add_assoc,Nat.add_right_comm];exact this
def a1s(h:g.get? i=some (zI b l)):Yg b g i l 0:=by
 cases b with
 |true=>exact⟨_,h,rfl,rfl⟩|false=>exact⟨_,h,rfl,rfl⟩
def awa{Q:Y1}(h:Yh b s.heap a Z)(q:Q (.ref s.heap.objs.size) { s with heap:=s.heap.push (zI b a) }):wpAny (model prog w) A (pyIter (.ref a)) Q E s:=by
 cases b with
 |true=>exact m9 h q|false=>exact wpAny_pyIter_list h q
def ap7{Q:List Value->Shared->Prop}(ht:∀l∈Z,∃xs,Yh (b l) s.heap l xs)(q:Q (Dj s.heap.objs.size Z.length) { s with heap:=pI b s.heap Z }):wpAny (model prog w) A (Builtin.SmallTypes.iterAll (Z.map .ref)) Q E s:=by
 unfold Builtin.SmallTypes.iterAll;refine aa (ud _ (λU rn R=>∃d,d<=Z.length/\U=(Z.drop d).map .ref/\rn=(Dj s.heap.objs.size d).toArray/\R={ s with heap:=pI b s.heap (Z.take d) }) _ (λx U bb R hI=>?_) (λbb R hI=>?_) _ _ ⟨0,ig _,rfl,rfl,rfl⟩)
 .obtain⟨d,G,e,rfl,rfl⟩:=hI
  have G:d<Z.length:=by
   rcases jo d Z.length with h|h
   .exact h
   .rw[List.drop_of_length_le h] at e;cases e
  rw[ql G,dg] at e;injection e with e1 e2
  subst e1 e2;obtain⟨xs,hx⟩:=ht Z[d] (List.getElem_mem G);refine aa (jx (awa (hx.at λo e=>afa e) (aj ⟨d+1,G,rfl,?_,?_⟩)))
  .rw[Yi,List.length_take,Nat.min_eq_left (yo G)]
   simp[Dj,yf]
  .have:pI b s.heap (Z.take (d+1))=(pI b s.heap (Z.take d)).push (zI (b Z[d]) Z[d]):=by
    rw[kh,dw G,pI,List.foldl_append];rfl
   rw[this]
 .obtain⟨d,G,e,rfl,rfl⟩:=hI
  have G:d=Z.length:=by
   rcases jo d Z.length with h|h
   .rw[ql h] at e;cases e
   .exact Nat.le_antisymm G h
  subst G;rw[o6];exact aj (by simpa using q)
def zB(b:Nat->Bool)(h:Heap)(Z:Y3):Heap:=(pI b h Z).push (tpN (Dj h.objs.size Z.length))
def zC(b:Nat->Bool)(h:Heap)(Z:Y3):Heap:=(zB b h Z).push (tpN ((Dj h.objs.size Z.length).map λ_=>.none))
def zD(b:Nat->Bool)(h:Heap)(Z:Y3):Heap:=(zC b h Z).push { cls:=.type "zip",data:=.fields #[.none,.bool false,.bool false,.ref (pI b h Z).objs.size,.ref (zB b h Z).objs.size] }
def ali(h3:Z.length<=3) :
 Meets (Builtin.«zip.__new__» ⟨.type "zip"::Z.map .ref,[]⟩) (λ_ R s=>(∀l∈Z,∃xs,Yh (b l) s.heap l xs)/\R (.ok (.ret (.ref (zC b s.heap Z).objs.size))) { s with heap:=zD b s.heap Z }) :=
 .of_wp λprog w A R s h=>by
  obtain⟨G,g,d,tk,U⟩:=s;obtain⟨ht,h⟩:=h;have qq:=sub_zip;have f1:∀{Q:List Value->Shared->Prop}{A E},Q (Dj G.objs.size Z.length) ⟨pI b G Z,g,d,tk,U⟩->wpAny (model prog w) A (Builtin.SmallTypes.iterAll (Z.map .ref)) Q E ⟨G,g,d,tk,U⟩:=λq=>ap7 ht q
  have sz:∀(xs:Zl),xs.length<=3->xs.toArray.size<=sizeLine:=λxs h=>bj (by simpa using h) (show 3<=sizeLine by decide)
  have f2:∀{Q:Y1}{A E}{h:Heap},Q (.ref h.objs.size) ⟨h.push (tpN (Dj G.objs.size Z.length)),g,d,tk,U⟩->wpAny (model prog w) A (newTuple (Dj G.objs.size Z.length)) Q E ⟨h,g,d,tk,U⟩:=λq=>wpAny_newTuple q (sz _ (by simpa[Dj] using h3))
  have f3:∀{Q:Y1}{A E}{h:Heap},Q (.ref h.objs.size) ⟨h.push (tpN ((Dj G.objs.size Z.length).map λ_=>.none)),g,d,tk,U⟩->wpAny (model prog w) A (newTuple ((Dj G.objs.size Z.length).map λ_=>.none)) Q E ⟨h,g,d,tk,U⟩:=λq=>wpAny_newTuple q (sz _ (by simpa[Dj] using h3))
  wp_walk using f1,f2,f3
  exact⟨_,rfl,h⟩
def ap8{n:Nat}(h3:Z.length<=3)(U:s.heap.objs.size=n)(ct:checkTypeCall "zip" ⟨Z.map .ref,[]⟩=pure ())(cb:checkBuiltinCall "zip.__new__" ⟨.type "zip"::Z.map .ref,[]⟩=pure ())(ca:∀obj,argsOk "object.__init__" ⟨obj::Z.map .ref,[]⟩)(ht:∀l∈Z,∃xs,Yh (b l) s.heap l xs)
 (h:∀G,ZN b G n Z .none ((Dj n Z.length).map λ_=>.none) 0 0 G->G.get? (n+Z.length)=some (tpN (Dj n Z.length))->(∀c o,s.heap.get? c=some o->G.get? c=some o)->Q (.ref (n+Z.length+2)) { s with heap:=G }):wpAny (model prog w) A (call (.type "zip") (Z.map .ref)) Q E s:=by
 refine callType_new F.called_zip (by decide) ct cb ca F.entry_zip_new (ali h3) ⟨ht,?_⟩;have z3:(pI b s.heap Z).objs.size=n+Z.length:=by rw[Yi,U]
 have R:(zB b s.heap Z).objs.size=n+Z.length+1:=by unfold zB;rw[jq,z3]
 have z5:(zC b s.heap Z).objs.size=n+Z.length+2:=by unfold zC;rw[jq,R]
 have up:∀{h:Heap}{o':Obj}{c:Addr}{o:Obj},h.get? c=some o->(h.push o').get? c=some o:=λe=>aq _ e
 have g6:(zD b s.heap Z).get? (zC b s.heap Z).objs.size=some _:=bf _ rfl;have g5:(zD b s.heap Z).get? (zB b s.heap Z).objs.size=some _:=up (bf _ rfl);have g4:(zD b s.heap Z).get? (pI b s.heap Z).objs.size=some _:=up (up (bf _ rfl));rw[z3,R,z5] at g6;rw[R,U] at g5;rw[z3,U] at g4;show _/\_;rw[z5];exact⟨⟨_,g6,rfl⟩,h _ ⟨g6,g5,λj l e=>a1s (up (up (up (by rw[<- U];exact alh e)))),λ_ _ _ e=>e⟩ g4 λc o e=>up (up (up (afa e)))⟩
theorem ag4:∀Z:List Value,Z.length=2->checkTypeCall "zip" ⟨Z,[]⟩=pure ()/\checkBuiltinCall "zip.__new__" ⟨.type "zip"::Z,[]⟩=pure ()/\∀obj,argsOk "object.__init__" ⟨obj::Z,[]⟩
 |[a,b],_=>⟨F.typeCall_zip_2 _ _,F.newCall_zip_2 _ _,λobj=>F.args_object_init_3 obj _ _⟩
end EnT
namespace L2
open PySem PySem.Spec EnT
def IzN(b:Nat->Bool)(K:Fg)(G:X1):It :=
 ⟨λi H=>∃U:List V,U.length=G.length/\∀(j:Nat) a,G[j]?=some a->∃Z x,SqX (b a) K H a Z/\Z[i]?=some x/\U[j]?=some x,
  λi H v H'=>∃p U,v=.ref p/\H p=none/\H'=upd H p (.tup U)/\U.length=G.length/\∀(j:Nat) a Z,G[j]?=some a->SqX (b a) K H a Z->U[j]?=Z[i]?,
  λi H=>∃(e:Nat)(a:Addr)(Z:List V),G[e]?=some a/\SqX (b a) K H a Z/\Z.length<=i/\∀(j:Nat) a,j<e->G[j]?=some a->∃R,SqX (b a) K H a R/\i<R.length⟩
def TN(b:Nat->Bool)(n:Nat)(Z:X1)(i:Nat)(h:Heap):Prop:=(∃G,ZN b h n Z .none G i 0 h/\G.length=Z.length)/\h.get? (n+Z.length)=some (tpN (Dj n Z.length))
noncomputable def FN(n m:Nat):List Addr:=List.range' n (m+3)
def FN.mem{n m c:Nat}:c∈FN n m↔n<=c/\c<n+m+3:=List.mem_range'_1
theorem at_of(I:Inv X pins σ H s):∀{as:X1}{vs:List V},vs.length=as.length->(∀(j:Nat) a,as[j]?=some a->∃G x,SqX (b a) X.K H a G/\G[i]?=some x/\vs[j]?=some x)->∃Z,Vals vs Z/\At b s.heap as i Z
 |[],[],_,_=>⟨[],.nil,rfl,λj l h=>by simp at h⟩
 |a::as,v::vs,l,h=>by
  obtain⟨Z,r,e,q⟩:=at_of I (as:=as) (vs:=vs) (by simpa using l) (λj a e=>h (j+1) a e);obtain⟨G,x,q1,x1,hv⟩:=h 0 a rfl;cases hv;obtain⟨i1,r1,p1⟩:=I.acn q1;obtain⟨U,u1,w1⟩:=r1.get x1;refine⟨U::Z,.cons w1 r,by simp[e],λj l R=>?_⟩;cases j with
  |zero=>cases R;exact⟨i1.toArray,U,p1,by simpa using u1,rfl⟩|succ j=>exact q j l R
theorem ap9{n:Nat}(h3:G.length<=3)(O6:G≠[])(hl:∀a∈G,a<n):Turn P w K (.Tuple ts k0 pt) (IzN b K G) (FN n G.length) (n+G.length+2) (TN b n G) where
 mem:=FN.mem.mpr (by lia)
 obj:=λi h R e U=>by
  obtain⟨⟨ov,H,_⟩,hI⟩:=R;obtain⟨c1,c2⟩:=FN.mem.mp U
  by_cases z:e<n+G.length
  .have q:e-n<G.length:=by lia
   have z:=(H.a (e-n) G[e-n] (by simp[q])).obj;rw[show n+(e-n)=e by lia] at z;exact z
  .rcases(show e=n+G.length\/e=n+G.length+1\/e=n+G.length+2 by lia) with rfl|rfl|rfl
   .exact⟨_,hI,λv z=>by cases z⟩
   .exact⟨_,H.o,λv z=>by cases z⟩
   .exact⟨_,H.z,λv z=>by cases z⟩
 keep:=λi h h' R k=>by
  obtain⟨⟨ov,H,l⟩,hI⟩:=R;have kk:∀d o,n<=d->d<n+G.length+3->h.get? d=some o->h'.get? d=some o:=λd o h1 h2=>k d (FN.mem.mpr ⟨h1,h2⟩) o
  exact⟨⟨ov,⟨kk _ _ (by lia) (by lia) H.z,kk _ _ (by lia) (by lia) H.o,λj l h=>(H.a j l h).at λo=>kk _ o (by lia) (by have:=aaq h;lia),λ_ _ _ e=>e⟩,l⟩,kk _ _ (by lia) (by lia) hI⟩
 item:=by
  intro X hP hw hK U i qq s σ H E I hf R hg;subst hP hw hK;obtain⟨⟨ov,Z,lo⟩,hI⟩:=R;have lt:n+G.length+2<s.heap.objs.size:=au Z.z
  obtain⟨vs,lv,hg⟩:=hg;obtain⟨us,r,ha⟩:=at_of I lv hg;have ty:s.TypeIs (.ref (n+G.length+2)) "zip" := ⟨_,Z.z,rfl⟩;unfold pyNext;refine aa (wpAny_attempt (jd (name:=Str.ofString "__next__") ty F.slot_zip_next (jm F.slot_zip_next ty F.entry_zip_next ?_ (F.args_zip_next_1 _))));refine ap6 O6 h3 Z lo hI hl ha λh1 Z1 t1=>aj ⟨_,rfl,?_⟩
  refine wpAny_letOwnedTupleGo_zip Z1.z λh2 z2 s2=>?_
  have s2:Heap.SameBut (n+G.length+2) h1 h2:=s2;have Z2:=Z1.sz s2.extBut (f1:=.none) z2;have t2:h2.get? s.heap.objs.size=some (tpN us):=s2.extBut _ _ (tu lt) t1;refine⟨.ref s.heap.objs.size,upd H s.heap.objs.size (.tup vs),I.V8 (t':=s.toks) hf (λc o U zz=>Z2.low c o (by rw[FN.mem] at U;lia) zz) (bc _) ⟨by rw[lv];exact bj h3 (show 3<=sizeLine by decide),us,r,⟨_,t2,rfl,_,rfl,rfl⟩⟩,rfl,
   ⟨_,vs,rfl,I.yp.fresh (bc _),rfl,lv,λj a ys ja hy=>?_⟩,⟨⟨us,⟨Z2.z,Z2.o,Z2.a,λ_ _ _ e=>e⟩,ha.1⟩,Z2.low _ _ (by lia) hI⟩,λc U=>?_⟩
  .obtain⟨xs,x,q1,q2,q3⟩:=hg j a ja
   rw[I.aao hy q1,q2,q3]
  .rw[FN.mem] at U
   rw[j6 (by lia)];exact(hf c (FN.mem.mpr U)).1
 done:=by
  intro X hP hw hK U i qq s σ H E I hf R hg;subst hP hw hK;obtain⟨⟨ov,Z,lo⟩,hI⟩:=R;obtain⟨e,a,xs,a0,q1,x1,hj⟩:=hg;obtain⟨i1,r1,p1⟩:=I.acn q1;have q0:=r1.length;have ty:s.TypeIs (.ref (n+G.length+2)) "zip" := ⟨_,Z.z,rfl⟩;unfold pyNext;refine aa (wpAny_attempt (jd (name:=Str.ofString "__next__") ty F.slot_zip_next (jm F.slot_zip_next ty F.entry_zip_next ?_ (F.args_zip_next_1 _))));refine av9 (I.ok.hd U) a0 Z lo h3 hI hl (xs:=i1.toArray) p1 (by simp;lia) (λj a' qv qk=>?_) λh' e k z_=>?_
  .obtain⟨ys,y1,y2⟩:=hj j a' qv qk
   obtain⟨i2,r2,p2⟩:=I.acn y1;have q4:=r2.length;exact⟨i2.toArray,i2[i]'(by lia),p2,by simp⟩
  obtain⟨o,o1,o2⟩:=z_;exact aa (o7 (T := "StopIteration") (b:=true) ⟨o,o1,o2⟩ isSubtype_stop (aj ⟨rfl,I.ae7 (t':=s.toks) hf λc o U zz=>k c o (by rw[FN.mem] at U;lia) zz⟩))
 self:=λ_ _ _ _ _ R h=>by obtain⟨⟨ov,Z,_⟩,_⟩:=R;exact wpAny_pyIter_zip Z.z h
theorem V9:∀{G:X1}{Z:Zl},Vals (G.map V.ref) Z->Z=G.map Value.ref
 |[],_,h=>by cases h;rfl|_::_,_,h=>by cases h with|cons r t=>cases r;rw[V9 t];rfl
def a1t(hg:Gl X "zip")(hm:X.mg "zip" = none)(ha:PA X (a::es) ta)(hs:starEach (a::es) X.env=(false,eval a X.env)::starEach es X.env)(Kp:(backTo pos (starEach es X.env)).any (·.1)=false) :
 PI X (.Tuple ts k0 pt) (.Call (.Name "zip" p) (a::es) [] pos) (fun σ H R=>ta σ H λvs H1=>∃(b:Nat->Bool)(G:X1),vs=G.map V.ref/\G.length=2/\(∀q∈G,∃xs,SqX (b q) X.K H1 q xs)/\R (IzN b X.K G) H1):=by
 intro qq s σ H R I h;refine PyProof.Rows.Call_ (Ii I hg hm (show bootBuiltins "zip" = some (.type "zip") by decide+kernel) (p8 (zg (ha pos qq s σ H _ I h) λus s1 z=>?_) hs Kp));obtain⟨vs,H1,I1,r1,b,G,rfl,l,ht,hR⟩:=z;cases V9 r1;obtain⟨c1,c2,c3⟩:=ag4 (G.map Value.ref) (by simpa using l);have h3:G.length<=3:=by lia
 have tp:∀q∈G,∃xs,Yh (b q) s1.heap q xs:=λq hq=>by obtain⟨xs,hx⟩:=ht q hq;obtain⟨i1,_,p1⟩:=I1.acn hx;exact⟨_,p1⟩
 refine ap8 h3 rfl c1 c2 c3 tp λh' Z hI kk=>wpAny_pyIter_zip Z.z ?_
 refine⟨s1.heap.objs.size+G.length+2,_,_,_,H1,rfl,I1.kept (t':=s1.toks) kk,ap9 h3 (λz=>by subst z;simp at l) λq hq=>by obtain⟨xs,e⟩:=tp q hq;exact e.lt,⟨⟨_,Z,by simp[Dj]⟩,hI⟩,λc hc=>?_,hR⟩;have U:=(FN.mem.mp hc).1;exact I1.agg U (I1.yp.fresh U)
end L2
namespace Sm
open PySem L2
open MW (Ex De OEx Mg zx j8 Lv Tg Res dm MO Kv Cp Op2 Blt Bm Kx Src)
def ag5{i:Nat}(h:(MW.zy ds 0)[i]?=some d):∃z,ds[i]?=some z/\d=.tup [.int (i:Nat),z]:=by
 unfold MW.zy at h;rw[gf,uy] at h;cases e:ds[i]? with
 |none=>rw[e] at h;simp at h|some z=>rw[e] at h;simp at h;exact⟨z,rfl,h.symm⟩
def afb{X:Cx}(r:my X.K ι H ds U)(R:∀Z G,LeX ι H Z G->SqX bb X.K G q U):ag0 nm X.K ι H (.con (MW.zy ds 0)) (Ien bb X.K q):=λZ G M1 le S1=>by
 refine⟨λi d hi hd=>?_,λ_=>⟨U,R Z G le,?_⟩⟩
 .obtain⟨z,e1,rfl⟩:=ag5 (show(MW.zy ds 0)[i]?=some d from hd)
  obtain⟨v,g1,g2⟩:=(r.Gw le).get e1;refine⟨⟨U,v,R Z G le,g1⟩,λu H2 ⟨p,x,e2,e3,e4,e5⟩=>?_⟩;have ex:x=v:=by have:=e5 U (R Z G le);rw[g1] at this;cases this;rfl
  subst ex e2 e4;obtain⟨S2,xj,r2⟩:=Ik (X:=X) S1 e3 (.cons (.int _) (.cons g2 .nil));exact⟨xj,S2,r2⟩
 .show U.length<=(MW.zy ds 0).length
  rw[<- r.length];simp[MW.zy]
def aqa{X:Cx}{n k:Nat}(S:j7 nm X.K ι H M)(hM:M[n]?=some (.lst ds))(hn:ι.l[n]?=some q):ag0 nm X.K ι H (.el n k) (Ien false X.K q):=λqq H1 M1 le S1=>by
 refine⟨λi d hi Z=>?_,λG=>?_⟩
 .have Z:(match M1[n]? with|some (.lst ds)=>if ds.length=k then(ds[i]?).map λd=>.tup [.int i,d] else none|_=>none)=some d:=Z
  cases e:M1[n]? with
  |none=>rw[e] at Z;cases Z
  |some o=>cases o with
   |lst U =>
    rw[e] at Z;have Z:(if U.length=k then(U[i]?).map λd=>MW.D.tup [.int i,d] else none)=some d:=Z
    by_cases hz:U.length=k
    .rw[bx hz] at Z
     obtain⟨z,e1,rfl⟩:=bu.mp Z;obtain⟨us,R,k2⟩:=S1.obj n _ q e (le.get hn);obtain⟨v,g1,g2⟩:=k2.get e1;refine⟨⟨us,v,Ec.of R,g1⟩,λu H2 ⟨p,x,e2,e3,e4,e5⟩=>?_⟩;have ex:x=v:=by have:=e5 us (Ec.of R);rw[g1] at this;cases this;rfl
     subst ex e2 e4;obtain⟨S2,xj,r2⟩:=Ik (X:=X) S1 e3 (.cons (.int _) (.cons g2 .nil));exact⟨xj,S2,r2⟩
    .rw[bw hz] at Z;cases Z
   |_=>rw[e] at Z;cases Z
 .have G:(match M1[n]? with|some (.lst ds)=>ds.length==k|_=>false)=true:=G
  cases e:M1[n]? with
  |none=>rw[e] at G;cases G
  |some o=>cases o with
   |lst U =>
    rw[e] at G;obtain⟨us,R,k2⟩:=S1.obj n _ q e (le.get hn);exact⟨us,Ec.of R,by rw[<- k2.length];exact f_ (show U.length=k by simpa using G)⟩
   |_=>rw[e] at G;cases G
def a1u(hg:Gl X "enumerate")(hm:X.mg "enumerate" = none)(ha:PE X a (tE nm W X.K a'))(qk:noStar a=true):PI X (.Tuple ts k0 pt) (.Call (.Name "enumerate" pr) [a] [] pos) (tI nm W X.K (.enm a')):=by
 intro qq s0 σ H R' I hh;obtain⟨ι,ρ,M,s,M',S,R,e,q⟩:=hh;rw[MW.Wr] at e;obtain⟨x,U,e1,e⟩:=dz e;refine PI.weak (a1r (ts:=ts) (k0:=k0) (pt:=pt) (p:=pr) (pos:=pos) hg hm (X5 ha aez (qb qk _ _)) (qb qk _ _)) (wi':=λG H0 R0=>G=σ/\H0=H/\R0=R') (λG H0 R0 ⟨z1,z2,z3⟩=>?_) qq s0 σ H R' I ⟨rfl,rfl,rfl⟩;subst z1 z2 z3;refine U7 (es':=.cons a' .nil) (ds:=[x]) (M1:=U) S R (by rw[MW.Bl,e1];simp) λZ H1 vs le S1 R1 r=>?_
 cases r with
 |cons r1 r2 =>
  cases r2;cases r1 with
  |@tup p ds us h1 rr =>
   cases e;exact⟨true,p,rfl,⟨us,Fb.of h1⟩,q Z H1 _ le S1 (afb rr λqv H2 xj=>Fb.of (xj.tup _ _ h1))⟩
  |@vl p ds us h1 n1 rr =>
   cases e;exact⟨false,p,rfl,⟨us,Ec.of h1⟩,q Z H1 _ le S1 (afb rr λqv H2 xj=>Ec.of (xj.lst _ _ n1.1 h1))⟩
  |@ref n p h1 =>
   have e:(match U[n]? with|some (.lst ds)=>Res.ok (Src.el n ds.length) U|_=>.bad)=.ok s M':=e;cases hM:U[n]? with
   |none=>rw[hM] at e;cases e
   |some o=>cases o with
    |lst zs =>
     rw[hM] at e;cases e;obtain⟨us,k1,k2⟩:=S1.obj n _ p hM h1;exact⟨false,p,rfl,⟨us,Ec.of k1⟩,q Z H1 _ le S1 (aqa S1 hM h1)⟩
    |_=>rw[hM] at e;cases e
  |_=>cases e
def aqb:PS X st (tS nm W X.K .raise):=λZ s σ H D I U=>by obtain⟨ι,ρ,M,fl,G,M',S,R,e,q⟩:=U;rw[MW.ah6] at e;cases e
def ar9(h:PE X a t):PE X (.BoolOp op [a] pos) t:=λZ s G H Q I q=>PyProof.Rows.BoolOp_one (h Z s G H Q I q)
def alj{X:Cx}{p q:Addr}{us vs:List V}(r1:my X.K ι H R us)(r2:my X.K ι H U vs)(h1:H p=some (.tup us))(h2:H q=some (.tup vs)):ag0 nm X.K ι H (.con (MW.Qw R U)) (IzN (λ_=>true) X.K [p,q]):=λqq H1 M1 le S1=>by
 have k1:SqX true X.K H1 p us:=Fb.of (le.tup _ _ h1);have k2:SqX true X.K H1 q vs:=Fb.of (le.tup _ _ h2);have l1:=r1.length;have l2:=r2.length;refine⟨λi d hi hd=>?_,λ_=>?_⟩
 .have hd:((R.zip U).map λp=>MW.D.tup [p.1,p.2])[i]?=some d:=hd
  rw[gf] at hd;obtain⟨⟨x,y⟩,e,rfl⟩:=bu.mp hd;obtain⟨ex,ey⟩:=List.getElem?_zip_eq_some.mp e;obtain⟨u,g1,g2⟩:=(r1.Gw le).get ex;obtain⟨v,g3,g4⟩:=(r2.Gw le).get ey;refine⟨⟨[u,v],rfl,λj a Z=>?_⟩,λu' H2 z=>?_⟩
  .match j,Z with
   |0,Z=>cases Z;exact⟨us,u,k1,g1,rfl⟩|1,Z=>cases Z;exact⟨vs,v,k2,g3,rfl⟩
  .obtain⟨t,ws,rfl,e6,rfl,e8,e9⟩:=z
   have a1:=e9 0 p us rfl k1;have a2:=e9 1 q vs rfl k2
   match ws,e8,a1,a2 with
   |[w1,w2],_,a1,a2 =>
    rw[g1] at a1;rw[g3] at a2;cases a1;cases a2;obtain⟨S2,xj,r3⟩:=Ik (X:=X) S1 e6 (.cons g2 (.cons g4 .nil));exact⟨xj,S2,r3⟩
 .have G:(Src.con (MW.Qw R U)).len=min R.length U.length:=by simp[Src.len,MW.Qw]
  rw[G];rcases jo U.length R.length with h|h
  .exact⟨1,q,vs,rfl,k2,by lia,λj a Z ha=>by
    have:j=0:=by lia
    subst this;cases ha;exact⟨us,k1,by lia⟩⟩
  .exact⟨0,p,us,rfl,k1,by lia,λj a Z=>absurd Z (n6 _)⟩
def a1v(hg:Gl X "zip")(hm:X.mg "zip" = none)(ha:PA X (a::es) (Yr nm W X.K qq))(hs:starEach (a::es) X.env=(false,eval a X.env)::starEach es X.env)(Kp:(backTo pos (starEach es X.env)).any (·.1)=false) :
 PI X (.Tuple ts k0 pt) (.Call (.Name "zip" pr) (a::es) [] pos) (tI nm W X.K (.zip qq)):=by
 intro U s0 σ H R' I hh;obtain⟨ι,ρ,M,s,M',S,R,e,q⟩:=hh;rw[MW.ac6] at e;obtain⟨ds,N1,e1,e⟩:=dz e;obtain⟨xs,ys,rfl,rfl,rfl⟩:∃xs ys,ds=[.tup xs,.tup ys]/\s=.con (MW.Qw xs ys)/\M'=N1:=by
  unfold MW.asx at e;split at e
  .cases e;exact⟨_,_,rfl,rfl,rfl⟩
  .cases e
 refine PI.weak (a1t (ts:=ts) (k0:=k0) (pt:=pt) (p:=pr) (pos:=pos) hg hm ha hs Kp) (wi':=λZ H0 R0=>Z=σ/\H0=H/\R0=R') (λZ H0 R0 z=>?_) U s0 σ H R' I ⟨rfl,rfl,rfl⟩;obtain⟨rfl,rfl,rfl⟩:=z;refine U7 S R e1 λqk H1 vs le S1 R1 G=>?_
 cases G with
 |cons r1 G=>cases G with
  |cons r2 G =>
   cases G;cases r1 with
   |@tup p1 _ us1 h1 l1=>cases r2 with
    |@tup p2 _ us2 h2 l2 =>
     refine⟨λ_=>true,[p1,p2],rfl,rfl,λa ha=>?_,q qk H1 _ le S1 (alj l1 l2 h1 h2)⟩;simp only[cj,wz,or_false] at ha;rcases ha with rfl|rfl
     .exact⟨_,Fb.of h1⟩
     .exact⟨_,Fb.of h2⟩
theorem aar:∀{Z:List Dv}{b:Bool},MW.allB Z=some b->∃bs:List Bool,Z=bs.map MW.D.bl/\b=bs.all id
 |[],b,e=>by cases e;exact⟨[],rfl,rfl⟩
 |.bl k::r,b,e=>by
  obtain⟨c,G,rfl⟩:=bu.mp (show(MW.allB r).map (k&&·)=some b from e);obtain⟨bs,rfl,rfl⟩:=aar G;exact⟨k::bs,rfl,by simp⟩
theorem Wc{ι:Io}{H:Hp}{K:Fg}:∀{bs:List Bool}{Z:List V}{is:Zl},my K ι H (bs.map MW.D.bl) Z->Vals Z is->is=bs.map Value.bool
 |[],_,_,r,h=>by cases r;cases h;rfl
 |k::bs,_,_,r,h=>by
  cases r with
  |cons G r2 =>
   cases h with
   |cons U R =>
    cases G;cases U;rw[Wc r2 R];rfl
def a1w(hc:X.calm=true):Ab X (.builtin "all") (rB nm X.K .all):=λqk s σ H vs us Q I Ov hh=>by
 obtain⟨ι,M,ds,d,M',S,r,e,q⟩:=hh;obtain⟨x,rfl,e⟩:∃x,ds=[x]/\Res.qj (((MW.gj M x).bind MW.allB).map MW.D.bl) M=.ok d M':=by
  cases ds with
  |nil=>cases e
  |cons x l=>cases l with
   |nil=>exact⟨x,rfl,e⟩|cons _ _=>cases e
 obtain⟨e1,rfl⟩:=rm e;obtain⟨b,e2,rfl⟩:=bu.mp e1;obtain⟨xs,e3,e4⟩:=iu.mp e2;obtain⟨bs,rfl,rfl⟩:=aar e4;obtain⟨v,rfl,rv⟩:=Oj r rfl;obtain⟨u,rfl,ru⟩:=ack Ov;obtain⟨p,ws,rfl,hp,rl⟩:=qw S rv e3;cases ru;obtain⟨is,qq,pl,_⟩:=I.list (Ec.of hp);have Z:=Wc rl qq;have Kl:p<s.heap.objs.size:=by obtain⟨_,e,_⟩:=pl.isList;exact au e
 refine call_all_walk (wpAny_pyIter_list pl.isList ?_);refine⟨_,_,_,_,_,_,λi=>bs.getD i true,rfl,Walks.list (A:=X.A.in1) (I.ok.hd hc) s.heap.objs.size p (fu Kl) is.toArray,⟨⟨_,bf _ rfl,rfl,rfl⟩,pl.isList.push _⟩,λi v s Q E hP R=>?_,λh' tk U=>?_⟩
 .have hv:is[i]?=some v:=by simpa using hP
  rw[Z,gf] at hv;obtain⟨k,U,rfl⟩:=bu.mp hv;refine jw ?_;have R:Q (bs.getD i true) s:=R;rw[uf,U] at R;exact R
 .have ha:(List.range is.toArray.size).all (λi=>bs.getD i true)=bs.all id:=by
   rw[Z];simp only[dj,cz];rw[v5,iw,iw];constructor
   .intro h k U
    obtain⟨i,hi,rfl⟩:=vd U;have:=h i (jc.mpr hi);simpa[uf,hi] using this
   .intro h i hi
    have G:=jc.mp hi;have:=h bs[i] (List.getElem_mem G);simpa[uf,G] using this
  rw[ha];exact⟨.bl _,H,I.kept (t':=tk) (old_kept U),rfl,q ι H _ (Le.refl _ _) S (.bl _)⟩
def aqc{prog:Program}{w:World}{R:Type}[DecidableEq R]{Z:HeapKind prog w R}{A:Around}{E:Y1}{s:Shared}{d a:Addr}{xs:List (R×Addr×Value)}{k:R}{v:Value}{Q:Y1}(hu:Z.room A)(G:Z.is s.heap k a)(hm:s.heap.DictOfH Z d xs)(hz:xs.length<=sizeLine)
 (h1:∀p,atKey xs k=some p->Q p.2 { s with toks:=s.toks+Z.draws k })
 (h2:atKey xs k=none->∀h',h'.DictOfH Z d (xs++[(k,a,v)])->Heap.SameBut d s.heap h'->Q v { s with heap:=h',toks:=s.toks+Z.draws k }) :
 wpAny (model prog w) A (dictSetDefault d (.ref a) v) Q E s:=by
 obtain⟨o,es,ep,c1,c2,U,c4,c5,c6⟩:=hm;unfold dictSetDefault;refine jx (aa (Z.pyHash hu G (aa (wpAny_dictFind_heap (s:={ s with toks:=s.toks+Z.draws k }) hu G c1 U c4 c5 c6 (λno=>?_) λj p hj=>?_))))
 .have z:=h2 (atKey_none_of_get no)
  have nk:=not_mem_keys_of_get no;have hs:=size_of_entries c4;have sb:Heap.SameBut d s.heap (s.heap.update d (Obj.mapDictKeys (·.push ⟨Z.hash k,.ref a,v⟩))):=jb ..;have kp:∀{x:R}{b:Addr},Z.is s.heap x b->Z.is (s.heap.update d (Obj.mapDictKeys (·.push ⟨Z.hash k,.ref a,v⟩))) x b:=λq=>Z.keeps q c1 U sb
  refine aa (wpAny_rule (aa (wpAny_updateDictKeys (hz:=by lia) (s:={ s with toks:=s.toks+Z.draws k }) c1 U (aj (z _ ⟨_,_,ep+1,km _ c1 (Obj.isFreed_of_dict (Obj.data_mapDictKeys U _)),c2.mapDictKeys _,Obj.data_mapDictKeys U _,by simp[c4,entryOfKey],λx hx=>?_,?_⟩ sb)))))
  .rcases bz.mp hx with q|q
   .exact kp (c5 x q)
   .cases j4.mp q;exact kp G
  .rw[iz]
   exact mz.mpr ⟨c6,by simp,λx hx y hy e=>nk (by cases j4.mp hy;rw[show x=k from e] at hx;exact hx)⟩
 .have z:=h1 p (atKey_of_get c6 hj)
  refine aa (rz (s:={ s with toks:=s.toks+Z.draws k }) c1 U ?_);rw[entry_at c4 j,hj];exact aa (wpAny_rule (aj z))
def aco{prog:Program}{w:World}{κ:Type}[DecidableEq κ](Z:HeapKind prog w κ)(d a:Addr)(hd:(d==sysModules)=false)(v:Value) :
 MeetsIn prog w (Builtin.«dict.setdefault» ⟨[.ref d,.ref a,v],[]⟩) (λA R s=>Z.room A.in1/\∃k G,Z.is s.heap k a/\s.heap.DictOfH Z d G/\G.length<=sizeLine /\
  (∀p,atKey G k=some p->R (.ok (.ret p.2)) { s with toks:=s.toks+Z.draws k }) /\
  (atKey G k=none->∀U,U.DictOfH Z d (G++[(k,a,v)])->Heap.SameBut d s.heap U->R (.ok (.ret v)) { s with heap:=U,toks:=s.toks+Z.draws k })) :=
 .of_wp λA R s h=>by obtain⟨hu,k,G,hk,hm,hz,h1,h2⟩:=h;refine aa (aa (wpAny_notOrdered_dict hm.typeIs (?_:wpAny _ _ (pure (d,Value.ref a,some v)) _ _ s)));refine aj (?_:wpAny _ _ (if(d==sysModules)=true then _ else(dictSetDefault d (.ref a) v >>= _)) _ _ s);rw[hd];exact aa (aqc hu hk hm hz (λp q=>aj ⟨_,rfl,h1 p q⟩) λq U m sb=>aj ⟨_,rfl,h2 q U m sb⟩)
def afc(h:MW.onT o M f=.ok d M'):∃n Z,o=.ref n/\M[n]?=some (.dT Z)/\f n Z=.ok d M':=by
 cases o with
 |ref n =>
  simp only[MW.onT] at h;cases e:M[n]? with
  |none=>rw[e] at h;cases h
  |some o=>cases o with
   |dT Z=>rw[e] at h;exact⟨n,Z,rfl,e,h⟩|_=>rw[e] at h;cases h
 |_=>cases h
def alk(e:MW.Dr .setdefault x ds M=.ok d R):∃n k U G q,x=.ref n/\ds=[k,U]/\M[n]?=some (.dT G)/\MW.Mq k=some q/\((MW.Bq G q=some d/\R=M)\/(MW.Bq G q=none/\G.length<100000/\d=U/\R=M.set n (.dT (G++[(q,U)])))):=by
 obtain⟨n,G,rfl,hM,Z⟩:=afc e
 match ds,Z with
 |[k,U],Z =>
  cases hk:MW.Mq k with
  |none=>simp only[hk] at Z;cases Z
  |some q =>
   simp only[hk] at Z;refine⟨n,k,U,G,q,rfl,rfl,hM,hk,?_⟩;cases hl:MW.Bq G q with
   |some v=>simp only[hl] at Z;cases Z;exact .inl ⟨rfl,rfl⟩
   |none =>
    simp only[hl] at Z;obtain⟨h1,h2⟩:=Ye Z;cases h2;exact .inr ⟨rfl,h1,rfl,rfl⟩
 |[],Z=>cases Z|[_],Z=>cases Z|_::_::_::_,Z=>cases Z
set_option tactic.hygienic true in
def ty_dict{X:Cx}(S:j7 nm X.K G H M)(r:Rep X.K G H x v)(h:MW.Jm .setdefault x M=true):tyV X.K "dict" v H:=by
 cases r with
 |@ref n p hp =>
  have h:(match M[n]? with|some (.dT _)=>true|_=>false)=true:=h;split at h
  .rename_i Y
   obtain⟨l,Z,_⟩:=S.obj n _ p Y hp;exact .inr (.inr (.inl ⟨rfl,.inr ⟨_,Z⟩⟩))
  .cases h
 |_=>cases h
def awb(hu:X.A.units+1<cLine):MtR X "dict.setdefault" (rM nm X.K .setdefault):=λq1 s σ H v vs u us Q I ru Ov hh=>by
 obtain⟨ι,M,x,ds,d,M',S,r,rs,e,q⟩:=hh;obtain⟨n,k,d0,ni,U,rfl,rfl,hM,hk,hd⟩:=alk e;cases rs with
 |cons rk rt=>cases rt with
  |cons rd rt =>
   cases rt;cases Ov with
   |cons q0 R=>cases R with
    |cons qk R =>
     cases R;cases r with
     |@ref _ p ha =>
      cases ru;obtain⟨l,h1,h2⟩:=S.obj n _ _ hM ha;obtain⟨b,rfl,hb⟩:=X6 rk hk;cases q0;obtain⟨z,qq,xs,G,dd⟩:=arv I.yp h1;have q2:=Paired.length G;have Z:=G.val U;refine call_meetsIn PySem.F.slot_dict_setdefault dd.typeIs PySem.F.entry_dict_setdefault (PySem.F.args_dict_setdefault_3 _ _ _) (aco (tupleKind (yr X.prog X.w)) p b qq _) ⟨tupleKind_room_in1 hu,U,xs,T6 I.yp hb,dd,by lia,λpp hp=>?_,λhn h' qv sb=>?_⟩
      .rw[hp] at Z
       rcases hd with⟨g1,rfl⟩|⟨g1,_⟩
       .obtain⟨y,g2,g3⟩:=(h2.look (k:=U)).1 d g1
        rw[g2] at Z;exact⟨y,H,I.tok _,Z,q ι H _ (Le.refl _ _) S g3⟩
       .rw[(h2.look (k:=U)).2 g1] at Z
        exact(show False from Z).elim
      .rw[hn] at Z
       rcases hd with⟨g1,_⟩|⟨g1,g2,rfl,rfl⟩
       .obtain⟨y,g3,_⟩:=(h2.look (k:=U)).1 d g1
        rw[g3] at Z;exact(show False from Z).elim
       .obtain⟨S2,xj⟩:=S.put (u:=.dT (l++[(U,_)])) (o:=.dT (ni++[(U,_)])) hM ha λle=>⟨_,qy,(h2.mono le).snoc rfl (rd.mono le)⟩
        refine⟨_,_,?_,qk,q _ _ _ xj S2 (rd.mono xj)⟩;obtain⟨o,es,ep,f1,f2,f3,f4,_,f5⟩:=qv;have q3:=h2.length;refine Xp I (by rw[h1];trivial) sb ⟨o,f1⟩ ⟨by have:=Oi g2;simp;lia,qq,_,KT.keeps (Paired.snoc G ⟨rfl,hb,qk⟩) λc ys ec=>?_,o,es,ep,f1,f2,f3,f4,f5⟩;rw[j6 (Zu ec h1 (λz=>nomatch z))];exact ec
section
variable{prog:Program}{w:World}{A:Around}{E:Y1}{s:Shared}{it d:Addr}{i ep:Nat}{o:Obj}{es:Array DictEntry}{Q:Option Value->Shared->Prop}
def acp(Z:(d==sysModules)=false) :
 MeetsIn prog w (Builtin.«dict.values» ⟨[.ref d],[]⟩) (λ_ R s=>s.TypeIs (.ref d) "dict"/\R (.ok (.ret (.ref s.heap.objs.size))) { s with heap:=s.heap.push { cls:=.type "dict_values",data:=.fields #[.ref d] } }) :=
 .of_wp λA R s h=>by obtain⟨T,h⟩:=h;refine aa (aa (wpAny_notOrdered_dict T (?_:wpAny _ _ (pure d) _ _ s)));refine aj (?_:wpAny _ _ (Builtin.Dict.showsAll d >>= _) _ _ s);unfold Builtin.Dict.showsAll;rw[Z];exact aa (aj (aa (ju (aj ⟨_,rfl,h⟩))))
def ag6{v:Addr}{Q:Y1}(Z:s.heap.IsValuesView v d)(U:s.heap.get? d=some o)(G:o.data=.dict es ep)
 (h:Q (.ref s.heap.objs.size) { s with heap:=s.heap.push { cls:=.type "dict_valueiterator",data:=.fields #[.ref d,.int 0 0,.int es.size 0,.int ep 0] } }):wpAny (model prog w) A (pyIter (.ref v)) Q E s:=by
 obtain⟨ov,R,v2,v3⟩:=id Z;refine wpAny_pyIter_slot Z.typeIs PySem.F.slot_dict_values_iter (jm PySem.F.slot_dict_values_iter Z.typeIs PySem.F.entry_dict_values_iter ?_ (PySem.F.args_dict_values_iter_1 _));refine aa (aj (aa (aa (gh R v3 (x:=.ref d) rfl (aj (aa ?_))))));unfold Builtin.Dict_items.newIterator;refine aa (rz U G (aa (wpAny_dictEpoch U G ?_)));simp only[show Builtin.Dict_items.ownsTuple "dict_valueiterator" = false by decide,fc,jf];exact ju (aj ⟨_,rfl, "dict_valueiterator",_,⟨_,bf _ rfl,rfl⟩,qz.lookup,h⟩)
def aas(qq:s.heap.IsValIter it d i es.size ep)(ho:s.heap.get? d=some o)(hd:o.data=.dict es ep)
 (h1:∀U:i<es.size,∀Z,Z.IsValIter it d (i+1) es.size ep->Heap.SameBut it s.heap Z->Q (some es[i].val) { s with heap:=Z })
 (hh:A.handled=none) (h2:es.size<=i->∀Z,Heap.ExtBut it s.heap Z->Q none { s with heap:=Z }):wpAny (model prog w) A (pyNext (.ref it)) Q E s:=by
 have T:=qq.typeIs;obtain⟨oi,hi,hc,R⟩:=id qq;unfold pyNext;refine aa (wpAny_attempt (jd (name:=Str.ofString "__next__") T qz (jm qz T PySem.F.entry_dict_valueiterator_next ?_ (PySem.F.args_dict_valueiterator_next_1 _))));refine aa (aj (aa (aa (aa (su T (aj (aa (wpAny_fieldsOf hi R ?_))))))));rw[show Builtin.Dict_items.ownsTuple "dict_valueiterator" = false by decide];refine(?_:wpAny _ _ (if(Value.ref d==Value.none)=true then _ else _) _ _ s);rw[bw (nofun:¬((Value.ref d==Value.none)=true))];refine aa (aj (aa (rz ho hd ?_)));rw[bw (by simp)];refine aa (aj (aa (wpAny_dictEpoch ho hd ?_)));rw[bw (by simp)];refine aj ?_;rcases jo i es.size with U|U
 .have G:(s.heap.update it (Obj.mapFields (·.setIfInBounds 1 (rawInt ((i:Int)+1))))).IsValIter it d (i+1) es.size ep :=
   ⟨_,km _ hi (Obj.isFreed_of_fields (ph R _)),(Obj.cls_mapFields ..).trans hc,by rw[ph R];simp[rawInt]⟩
  simp only[show ¬((i:Int)<0) by lia,jf,jt,ur U];refine aa (aa (su T (aj (aa (wpAny_isOneOf_valiter T ?_)))));refine(?_:wpAny _ _ (setField (.ref it) 1 (rawInt ((i:Int)+1)) >>= _) _ _ s);refine aa (q9 hi R (by simp) (aa (jx (aa (wpAny_isOneOf_valiter (s:={ s with heap:=_ }) G.typeIs (aa (wpAny_isOneOf_valiter (s:={ s with heap:=_ }) G.typeIs ?_)))))));exact aj (aj ⟨_,rfl,aj (h1 U _ G (jb ..))⟩)
 .simp only[show ¬((i:Int)<0) by lia,jf,jt,Array.getElem?_eq_none U]
  refine aa (aa (su T (aj ?_)));refine(?_:wpAny _ _ (setField (.ref it) 0 .none >>= _) _ _ s);refine aa (q9 hi R (by simp) ?_);refine STb.We (show A.in1.handled=none from hh) λZ x k z_=>?_
  obtain⟨o,e1,e2⟩:=z_;exact aa (o7 (T := "StopIteration") (b:=true) ⟨o,e1,e2⟩ isSubtype_stop (aj (h2 U _ λb o n z=>k b o ((jb ..).extBut b o n z))))
end
theorem asa{R U:Type}{F:R->U->Prop}{b:U}:∀{Z:List R}{G:List U}{i:Nat},Paired F Z G->G[i]?=some b->∃a,Z[i]?=some a/\F a b
 |_,_,0,.cons h _,e=>by cases e;exact⟨_,rfl,h⟩|_,_,i+1,.cons _ t,e=>asa (i:=i) t e
noncomputable def Itv(a:Addr)(o:Obj)(l:List (List Key×V)):It :=
 ⟨λi H=>H a=some (.Hd o (.dT l))/\i<l.length,λi H x Z=>Z=H/\∃p,l[i]?=some p/\x=p.2,λi H=>H a=some (.Hd o (.dT l))/\l.length<=i⟩
theorem ag8{es:Array DictEntry}{ep:Nat}{l:List (List Key×V)}(a it:Addr)(hd:o.data=.dict es ep)(hz:es.size=l.length):Turn P w K tg (Itv a o l) [it] it (λi h=>h.IsValIter it a i es.size ep) where
 mem:=by simp
 obj:=λi h Z b R=>by cases j4.mp R;obtain⟨o,e,c,d⟩:=Z;exact⟨o,e,λv z=>by rw[d] at z;cases z⟩
 keep:=λi h h' Z k=>Z.at λo e=>k it (by simp) o e
 item:=by
  intro X hP hw hK hc i G s σ H E I hf Z hg;subst hP hw hK;obtain⟨e,hl⟩:=hg;obtain⟨ho,_,_,xs,U,o',qv,q0,g1,g2,g3,g4,g5⟩:=(show yw X.prog X.w H s.heap a (.Hd o (.dT l)) from I.yp a _ e);rw[ho] at g1;cases g1;rw[hd] at g3;cases g3;obtain⟨f0,f1,f2,f3,f4,f5⟩:=hf it (by simp);refine aas Z ho hd (λqk h' qq sb=>?_) (I.ok.hd hc) (λz=>absurd hl (by lia));have I1:Inv X G σ H { s with heap:=h' }:=I.turned (t':=s.toks) (λb o R e=>(sb.2 b R).trans e) f0 f1 f3 f4 f5;have hx:xs[i]?=some (xs[i]'(by rw[<- U.length];exact hl)):=dw _;have hk:es[i].val=(xs[i]'(by rw[<- U.length];exact hl)).2.2:=by have:=entry_at g4 i;rw[hx,ur qk] at this;exact nq DictEntry.val (gq this)
  obtain⟨p,hp,q1,q2,q3⟩:=asa U hx;obtain⟨oi,e1,e2,e3⟩:=id qq;refine⟨_,rfl,aeh (s:={ s with heap:=h' }) e1 e2 e3 (by decide) ⟨p.2,H,I1,by rw[hk];exact q3,⟨rfl,p,hp,rfl⟩,qq,λb R=>(hf b R).1⟩⟩
 done:=by intro X hP hw hK hc i G s σ H E I hf Z hg;subst hP hw hK;obtain⟨e,hl⟩:=hg;obtain⟨ho,_⟩:=(show yw X.prog X.w H s.heap a (.Hd o (.dT l)) from I.yp a _ e);obtain⟨f0,f1,f2,f3,f4,f5⟩:=hf it (by simp);exact aas Z ho hd (λz=>absurd hl (by lia)) (I.ok.hd hc) λ_ h' eb=>⟨rfl,I.turned (t':=s.toks) (λb o R e=>eb b o R e) f0 f1 f3 f4 f5⟩
 self:=λ_ _ _ _ _ Z h=>wpAny_pyIter_valiter Z h
def o5.vals{f:κ->U->Prop}(h:o5 K ι H f l l'):∀{i:Nat}{p Z},l[i]?=some p->l'[i]?=some Z->Rep K ι H p.2 Z.2:=by
 induction h with
 |nil=>intro i p Z e;simp at e
 |cons k r t R =>
  intro i p Z e G;cases i with
  |zero=>cases e;cases G;exact r|succ i=>exact R e G
def awd{U:Pos}(ha:PE X a (tE nm W X.K a'))(Z3:attributeBase a "values" X.env (eval a X.env)=eval a X.env)(Z4:(U.endLine==pos.line)=true):PI X tg (.Call (.Attribute a "values" U) [] [] pos) (tI nm W X.K (.vals a')):=by
 intro qq s σ H R I hh;obtain⟨ι,ρ,M,sc,M',S,Rv,e,q⟩:=hh;rw[MW.Yz] at e;obtain⟨x,M1,e1,e⟩:=dz e;refine wpAny_Call_method0_late Z3 Z4 (zg (ha qq s σ H (λv G=>∃Z,Le ι H Z G/\j7 nm X.K Z G M1/\Rep X.K Z G x v) I (one S Rv e1 λZ G v le S1 R1 r=>⟨Z,le,S1,r⟩)) λv s1 z_=>?_);obtain⟨x',G,I1,r1,Z,le,S1,r⟩:=z_;cases r with
 |@ref n p h1 =>
  have e:(match M1[n]? with|some (.dT ni)=>Res.ok (Src.con (ni.map Prod.snd)) (M1.set n (.dF ni))|_=>.bad)=.ok sc M':=e;cases hn:M1[n]? with
  |none=>rw[hn] at e;cases e
  |some ob=>cases ob with
   |dT ni =>
    rw[hn] at e;cases e;cases r1;obtain⟨l,g1,g2⟩:=S1.obj n _ p hn h1;obtain⟨z,qk,xs,qv,o,es,ep,k1,k2,k3,k4,k5⟩:=(show yw X.prog X.w G s1.heap p (.dT l) from I1.yp p _ g1);have T:s1.TypeIs (.ref p) "dict" := ⟨o,k1,k2.1⟩;have hz:es.size=l.length:=(size_of_entries k4).trans qv.length.symm;obtain⟨S2,xj⟩:=S1.put (u:=.Hd o (.dT l)) (o:=.dF ni) hn h1 λle=>⟨l,o,qy,g2.mono le⟩
    have I2:Inv X qq σ (upd G p (.Hd o (.dT l))) s1:=I1.write (x:=p) (e:=p) (t':=s1.toks) (by rw[g1];trivial) (.inl rfl) (λ_ _ _ z=>z) ⟨o,k1⟩ ⟨k1,z,qk,xs,KT.keeps qv λc ys ec=>by rw[j6 (Zu ec g1 (λz=>nomatch z))];exact ec,o,es,ep,k1,k2,k3,k4,k5⟩;refine⟨"dict", "dict.values",PySem.F.plainAttrs_dict,PySem.F.slot_dict_values,PySem.F.type_dict_values,T,λa ea=>by cases ea;exact⟨o,k1,k2.2.1⟩,Calls.callWith_builtin rfl (PySem.evalArgs_none (call_meetsIn PySem.F.slot_dict_values T PySem.F.entry_dict_values (PySem.F.args_dict_values_1 _) (acp qk) ⟨T,?_⟩))⟩;have kp:∀{h:Heap}{ob:Obj}{b:Addr}{c:Obj},h.get? b=some c->(h.push ob).get? b=some c:=λe=>aq _ e
    refine ag6 (s:={ s1 with heap:=s1.heap.push { cls:=.type "dict_values",data:=.fields #[.ref p] } }) ⟨_,bf _ rfl,rfl,rfl⟩ (kp k1) k3 ?_;have q0:(s1.heap.push { cls:=.type "dict_values",data:=.fields #[.ref p] }).objs.size=s1.heap.objs.size+1:=jq ..;refine⟨_,[_],_,Itv p o l,upd G p (.Hd o (.dT l)),rfl,I2.kept (t':=s1.toks) λb c e=>kp (kp e),ag8 p _ k3 hz,⟨_,bf _ rfl,rfl,rfl⟩,λb hb=>?_,q Z _ _ (le.trans xj) S2 λq3 H3 M3 Ri S3=>⟨λi d hi hd=>?_,λ_=>⟨Ri.Hd _ _ _ qy,?_⟩⟩⟩
    .cases j4.mp hb
     rw[q0];exact I2.agg (o8 _) (I2.yp.fresh (o8 _))
    .have hd:(ni.map (·.2))[i]?=some d:=hd
     rw[gf] at hd;obtain⟨y,y1,rfl⟩:=bu.mp hd;refine⟨⟨Ri.Hd _ _ _ qy,by rw[g2.length.symm];simpa[Src.len] using hi⟩,λv H4 ⟨hH,pp,q1,q2⟩=>?_⟩;subst hH q2;exact⟨Le.refl _ _,S3,((g2.vals y1 q1).mono xj).Gw Ri⟩
    .rw[<- g2.length];simp[Src.len]
   |_=>rw[hn] at e;cases e
 |_=>cases e
open PySem L2 PyProof.Rows
def afd{X:Cx}(S:j7 nm X.K ι H M)(r:Rep X.K ι H x v)(e:MW.j9 M x=some ds):aox X.K v H (!ds.isEmpty):=by
 obtain⟨p,G,rfl,Z,R⟩:=Fd S r e;have U:(!ds.isEmpty)=!G.isEmpty:=by cases R<;>rfl
 rcases Z with Z|Z
 .exact .inl ⟨G,Ec.of Z,U⟩
 .exact .inr (.inl ⟨G,Fb.of Z,U⟩)
def asb(ha:PE X a (tE nm W X.K a'))(he:∀Z,isTrue a X.env Z=(do let v <- Z;standAt a.pos;holding [v] (truthy v))):PT X a (tQ nm W X.K (.tru a')):=by intro G s σ H Q I hh;obtain⟨ι,ρ,M,b,M',S,R,e,q⟩:=hh;rw[MW.ac7] at e;obtain⟨x,M1,e1,e2⟩:=dz e;obtain⟨e3,rfl⟩:=rm e2;obtain⟨ds,e4,e5⟩:=bu.mp e3;cases e5;refine akd ha he G s σ H Q I ⟨ι,ρ,M,x,M',S,R,e1,λU H1 v le S1 r=>?_⟩;exact⟨!ds.isEmpty,afd S1 r e4,q U H1 le S1⟩
def awe(ha:PE X a (tE nm W X.K a')):PE X (.UnaryOp .Not a pos) (tE nm W X.K (.ntr a')):=by
 intro G s σ H Q I hh;obtain⟨ι,ρ,M,d,M',S,R,e,q⟩:=hh;rw[MW.Ws] at e;obtain⟨x,M1,e3,e4⟩:=dz e;obtain⟨e5,rfl⟩:=rm e4;obtain⟨ds,e6,rfl⟩:=bu.mp e5;refine UnaryOp_ (zg (ha G s σ H (λv Z=>∃k,aox X.K v Z k/\Q (.bl !k) Z) I ⟨ι,ρ,M,x,M',S,R,e3,λU Z v le S1 r=>⟨!ds.isEmpty,afd S1 r e6,by rw[Bool.not_not];exact q U Z _ le S1 (.bl _)⟩⟩) λv s1 z=>?_);obtain⟨y,Z,I1,r1,q1⟩:=z;exact not_of (zg (akc G s1 σ Z y v (λk Z=>Q (.bl !k) Z) I1 r1 q1) λk s2 z=>by
  obtain⟨H2,I2,q2⟩:=z;exact⟨.bl !k,H2,I2,rfl,q2⟩)
def awf(ha:PE X a (tE nm W X.K a'))(he:∀Z,isTrue a X.env Z=(do let v <- Z;standAt a.pos;holding [v] (truthy v))):PT X (.UnaryOp .Not a pos) (tQ nm W X.K (.ntr a')) :=
 PT.of (aj3 (asb ha he)) fun σ H Q ι ρ M b M' S R e q=>by rw[MW.Ws] at e;obtain⟨x,M1,e3,e4⟩:=dz e;obtain⟨e5,rfl⟩:=rm e4;obtain⟨U,e6,e7⟩:=bu.mp e5;cases e7;exact⟨ι,ρ,M,!U.isEmpty,M',S,R,by rw[MW.ac7,e3];simp[e6],λG H' le S'=>by show Q (!!U.isEmpty) H';rw[Bool.not_not];exact q G H' le S'⟩
theorem Um:∀(k:Int)(l:X9),k∈MW.yt l↔k∈l
 |k,[]=>Iff.rfl
 |k,x::l=>by
  unfold MW.yt;have Z:=Um k l
  by_cases h:x∈l
  .rw[bx h,Z]
   exact⟨bh _,λq=>by rcases cj.mp q with rfl|q;exact h;exact q⟩
  .rw[bw h,cj,cj,Z]
theorem Yj:∀l,(MW.yt l).Nodup
 |[]=>.nil
 |x::l=>by
  unfold MW.yt
  by_cases h:x∈l
  .rw[bx h];exact Yj l
  .rw[bw h];exact jy.mpr ⟨λq=>h ((Um x l).mp q),Yj l⟩
theorem aat{ι:Io}{H:Hp}{K:Fg}:∀{Z:List Dv}{G:List V}{is:Zl}{U:X9},my K ι H Z G->Vals G is->MW.Vd Z=some U->PyProof.Rows.IntsAre is U
 |_,_,_,_,.nil,.nil,h=>by cases h;exact .nil
 |_,_,_,_,.cons r t,.cons rv tv,h=>by
  cases r<;>simp only[MW.Vd] at h<;>try cases h
  obtain⟨R,e1,e2⟩:=bu.mp h;subst e2;obtain⟨tk,rfl⟩:=rv;exact .cons _ _ (aat t tv e1)
def acq(e:MW.uq .Gx ds M=.ok d R):∃G Z,ds=[.tup G]/\MW.Vd G=some Z/\Z.length<31/\d=.int (MW.yt Z).length/\R=M:=by
 obtain⟨x,rfl,e⟩:=Uk e;cases x with
 |tup G =>
  obtain⟨e1,e2⟩:=rm (show Res.qj ((MW.Vd G).bind λis=>if is.length<31 then some (MW.D.int (MW.yt is).length) else none) M=.ok d R from e);obtain⟨Z,e3,U⟩:=iu.mp e1
  by_cases h:Z.length<31
  .rw[bx h] at U
   exact⟨G,Z,rfl,e3,h,(gq U).symm,e2⟩
  .rw[bw h] at U;cases U
 |_=>cases e
def alm(hr:xu 8 X.A)(hg:Gl X n)(hm:X.mg n=none)(hv:bootBuiltins n=some (.builtin "len"))(hn:n≠"__name__")(Xo:(n==("__debug__" : Str))=false)(q5:Gl X G)(q3:X.mg G=none)(q4:bootBuiltins G=some (.type "set"))(qq:G≠"__name__")(zz:(G==("__debug__" : Str))=false)(ha:PA X [a] (Yr nm W X.K (.cons a' .nil)))(he:starEach [.Call (.Name G p') [a] [] q2] X.env=(false,eval (.Call (.Name G p') [a] [] q2) X.env)::starEach [] X.env)(Kp:(backTo q1 (starEach [] X.env)).any (·.1)=false)(q7:starEach [a] X.env=(false,eval a X.env)::starEach [] X.env)(q6:(backTo q2 (starEach [] X.env)).any (·.1)=false) :
 PE X (.Call (.Name n p) [.Call (.Name G p') [a] [] q2] [] q1) (tE nm W X.K (.blt .Gx (.cons a' .nil))):=by
 intro U s σ H Q I hh;obtain⟨ι,ρ,M,d,M',S,R,e,q⟩:=hh;rw[MW.Wq] at e;obtain⟨ds,M1,e1,e⟩:=dz e;obtain⟨xs,ns,rfl,e3,hl,rfl,rfl⟩:=acq e;refine m8 (Ii I hg hm hv ?_ hn Xo);refine u5 (Q:=EP X U σ Q) ?_ he Kp;rw[he];show wpAny _ _ (spliced ((false,eval (.Call (.Name G p') [a] [] q2) X.env)::backTo q1 (starEach [] X.env))) _ _ s;refine Calls.spliced_cons ?_;refine m8 (Ii I q5 q3 q4 ?_ qq zz);refine p8 (zg (ha q2 U s σ H (λvs H1=>∃Z v,vs=[v]/\Rep X.K Z H1 (.tup xs) v/\Le ι H Z H1/\j7 nm X.K Z H1 M') I ⟨ι,ρ,M,[.tup xs],M',S,R,e1,λZ H1 vs le S1 r=>?_⟩) λus s1 z=>?_) q7 q6
 .obtain⟨v,ev,rv⟩:=Oj r rfl
  exact⟨Z,v,ev,rv,le,S1⟩
 obtain⟨vs,H1,I1,r1,Z,v,rfl,rx,Z9,S1⟩:=z;obtain⟨u,rfl,ru⟩:=ack r1;cases rx with
 |@tup p _ ws hp rl =>
  cases ru;obtain⟨is,zk,pl,_⟩:=I1.tuple (Fb.of hp);have nl:=STb.Rr (Yj ns) (λk hk=>(Um k ns).mp hk);refine STb.af2 hr.hd (show s1.heap.IsTuple p is.toArray from pl) (by simpa using aat rl zk e3) (B:=ns) (λk hk=>hk) hl λh' tk n' qv hS Wl=>?_
  refine(?_:wpAny _ _ (spliced []) _ _ _);refine Calls.spliced_nil ?_;obtain⟨o,es,ep,t,g1,g2,g3,g4⟩:=hS.get;obtain⟨ys,o',qk,zv,t',SN,q0,qq,_⟩:=hS;have eo:o'=o:=gq (SN.get.symm.trans g1);subst eo;have ed:qk=es:=by have:=SN.dat.symm.trans g3;injection this
  subst ed;have sz:qk.size=(MW.yt ns).length:=by
   rw[SN.size];refine Nat.le_antisymm ?_ ?_
   .have:=STb.Rr SN.nod (b:=MW.yt ns) λk hk=>(Um k ns).mpr ((q0 k).mpr hk)
    rwa [cz] at this
   .have:=STb.Rr (Yj ns) (b:=ys.map (·.1)) λk hk=>(q0 k).mp ((Um k ns).mp hk)
    rwa [cz] at this
  refine call_len_set (s:={ s1 with heap:=h',toks:=tk }) g1 g2 g3 g4 (by lia) ?_;rw[sz];exact⟨.int _,H1,I1.kept qv,⟨_,rfl⟩,q Z H1 _ Z9 S1 (.int _)⟩
def aqd(e:MW.Dr .index x ds M=.ok d R):∃Z G j,ds=[Z]/\MW.gj M x=some G/\MW.ass M Z G=some j/\d=.int ((j:Nat):Int)/\R=M:=by obtain⟨Z,rfl,e0⟩:=Uk e;obtain⟨e1,e2⟩:=rm e0;obtain⟨j,e3,e4⟩:=bu.mp e1;obtain⟨G,U,e7⟩:=iu.mp e3;exact⟨Z,G,j,rfl,U,e7,e4.symm,e2⟩
def Yk:∀{bs:List Bool}{j:Nat},bs.findIdx? id=some j->bs[j]?=some true/\∀m,m<j->bs[m]?=some false:=fun{bs j} h=>by obtain⟨G,R,U⟩:=List.findIdx?_eq_some_iff_getElem.mp h;refine⟨by rw[dw G];simpa using R,λm Z=>?_⟩;have:=U m Z;rw[dw (d_ Z G)];simpa using this
def aqe(hr:xu 8 X.A):MtR X "list.index" (rM nm X.K .index):=λqv s σ H v vs u us Q I ru Ov hh=>by
 obtain⟨ι,M,x,ds,d,M',S,r,rs,e,q⟩:=hh;obtain⟨d0,xs,j,rfl,e1,e2,rfl,rfl⟩:=aqd e;cases rs with
 |cons hd ht =>
  cases ht;cases Ov with
  |cons hu qq =>
   cases qq;obtain⟨bs,e3,e4⟩:=iu.mp (show(MW.Mr M' d0 xs).bind (·.findIdx? id)=some j from e2);obtain⟨p,ys,rfl,hp,rl⟩:=qw S r e1;cases ru;obtain⟨z,is,n,rv,hl,hg⟩:=I.agt hp;obtain⟨f,g1,g2⟩:=Yd (A:=X.A.in1) I S ((hr.mono (by decide:7<=8)).in1) rl rv hd hu e3;obtain⟨f1,f2⟩:=Yk e4;have hb:=(Ks e3).1;have G:is.length=bs.length:=by rw[hb,rl.length,hl]
   have lj:j<is.length:=by rw[G];exact(ak.mp f1).1
   have fa:∀m (Z:m<is.length),bs[m]?=some (f is[m]):=λm Z=>g2 m _ (dw Z)
   have hT:s.TypeIs (.ref p) "list" := ⟨_,hg,rfl⟩;have qk:is.length<=sizeLine:=by rw[<- hl];exact z
   rw[sizeLine_eq] at qk;refine call_meetsIn F.slot_list_index hT F.entry_list_index (F.args_list_index_2 _ _) (λA R s h=>SeqAt.list_indexAt p is.toArray n none #[] _ f j (by simpa using lj) (by lia) ?_ ?_ _ _ A R s h) ⟨hg,g1,?_⟩
   .have:=fa j lj;rw[f1] at this;simpa using(gq this).symm
   .intro m Z U
    have Z:m<is.length:=by simpa using Z
    have:=fa m Z;rw[f2 m U] at this;simpa using(gq this).symm
   .exact⟨.int j,H,I.tok _,⟨_,rfl⟩,q ι H _ (Le.refl _ _) S (.int _)⟩
def aqf(e:MW.Dr .get x ds M=.ok d M'):∃n k G U R,x=.ref n/\ds=[k,G]/\M[n]?=some (.dT U)/\MW.Mq k=some R/\d=(MW.Bq U R).getD G/\M'=M:=by
 obtain⟨n,U,rfl,hM,Z⟩:=afc e
 match ds,Z with
 |[k,G],Z =>
  obtain⟨e2,e3⟩:=rm Z;obtain⟨R,e4,e5⟩:=bu.mp e2;exact⟨n,k,G,U,R,rfl,rfl,hM,e4,e5.symm,e3⟩
 |[],Z=>cases Z|[_],Z=>cases Z|_::_::_::_,Z=>cases Z
def a1x(hu:X.A.units+1<cLine):MtR X "dict.get" (rM nm X.K .get):=λqv s σ H v vs u us Q I ru Ov hh=>by
 obtain⟨ι,M,x,ds,d,M',S,r,rs,e,q⟩:=hh;obtain⟨n,k,d0,ni,R,rfl,rfl,hM,hk,rfl,rfl⟩:=aqf e;cases rs with
 |cons rk G =>
  cases G with
  |cons rd G =>
   cases G;cases Ov with
   |cons qq Z =>
    cases Z with
    |cons U Z =>
     cases Z;cases r with
     |ref ha =>
      cases ru;obtain⟨l,h1,h2⟩:=S.obj n _ _ hM ha;obtain⟨bb,rfl,hb⟩:=X6 rk hk;refine avd hu I (acb.t h1 hb) qq U λw' s' I' qk=>⟨_,H,I',qk,q ι H _ (Le.refl _ _) S ?_⟩
      cases hl:MW.Bq ni R with
      |none=>rw[(h2.look (k:=R)).2 hl];exact rd|some d=>obtain⟨z,h3,h4⟩:=(h2.look (k:=R)).1 d hl;rw[h3];exact h4
section
variable{prog:Program}{w:World}{A:Around}{E:Y1}{s:Shared}{it d:Addr}{i ep:Nat}{o:Obj}{es:Array DictEntry}{Q:Option Value->Shared->Prop}
def aln{Q:Y1}(Z:s.heap.get? d=some o)(R:o.ExactDict)(G:o.data=.dict es ep)(U:(d==sysModules)=false)
 (h:Q (.ref s.heap.objs.size) { s with heap:=s.heap.push { cls:=.type "dict_keyiterator",data:=.fields #[.ref d,.int 0 0,.int es.size 0,.int ep 0] } }):wpAny (model prog w) A (pyIter (.ref d)) Q E s:=by
 have T:s.TypeIs (.ref d) "dict" := ⟨o,Z,R.1⟩;refine wpAny_pyIter_slot T PySem.F.slot_dict_iter (jm PySem.F.slot_dict_iter T PySem.F.entry_dict_iter ?_ (PySem.F.args_dict_iter_1 _));unfold Builtin.«dict.__iter__» Builtin.Dict.dictSlotNone;refine aa (aa (wpAny_notOrdered_dict T ?_));refine aj (?_:wpAny _ _ (Builtin.Dict.showsAll d >>= _) _ _ s);unfold Builtin.Dict.showsAll;rw[U];refine aa (aj (aa (rz Z G (aa (wpAny_dictEpoch Z G ?_)))));exact aa (ju (aj ⟨_,rfl, "dict_keyiterator",_,⟨_,bf _ rfl,rfl⟩,t6.lookup,h⟩))
def aau(qq:s.heap.IsKeyIter it d i es.size ep)(ho:s.heap.get? d=some o)(hd:o.data=.dict es ep)
 (h1:∀G:i<es.size,∀Z,Z.IsKeyIter it d (i+1) es.size ep->Heap.SameBut it s.heap Z->Q (some es[i].key) { s with heap:=Z })
 (hh:A.handled=none) (h2:es.size<=i->∀Z,Heap.ExtBut it s.heap Z->Q none { s with heap:=Z }):wpAny (model prog w) A (pyNext (.ref it)) Q E s:=by
 have T:=qq.typeIs;obtain⟨oi,hi,hc,R⟩:=id qq;unfold pyNext;refine aa (wpAny_attempt (jd (name:=Str.ofString "__next__") T t6 (jm t6 T PySem.F.entry_dict_keyiterator_next ?_ (PySem.F.args_dict_keyiterator_next_1 _))));refine aa (aj (aa (aa (aa (sr T (aj (aa (wpAny_fieldsOf hi R ?_))))))));rw[show Builtin.Dict_items.ownsTuple "dict_keyiterator" = false by decide];show wpAny _ _ (if(Value.ref d==Value.none)=true then _ else _) _ _ s;rw[bw (show ¬((Value.ref d==Value.none)=true) from ie)];refine aa (aj (aa (rz ho hd ?_)));rw[bw (by simp)];refine aa (aj (aa (wpAny_dictEpoch ho hd ?_)));rw[bw (by simp)];refine aj ?_;rcases jo i es.size with G|G
 .have U:(s.heap.update it (Obj.mapFields (·.setIfInBounds 1 (rawInt ((i:Int)+1))))).IsKeyIter it d (i+1) es.size ep :=
   ⟨_,km _ hi (Obj.isFreed_of_fields (ph R _)),(Obj.cls_mapFields ..).trans hc,by rw[ph R];simp[rawInt]⟩
  simp only[show ¬((i:Int)<0) by lia,jf,jt,ur G];refine aa (aa (sr T (aj (aa (wpAny_isOneOf_keyiter T ?_)))));refine(?_:wpAny _ _ (setField (.ref it) 1 (rawInt ((i:Int)+1)) >>= _) _ _ s);refine aa (q9 hi R (by simp) (aa (jx (aa (wpAny_isOneOf_keyiter (s:={ s with heap:=_ }) U.typeIs ?_)))));exact aj (aj ⟨_,rfl,aj (h1 G _ U (jb ..))⟩)
 .simp only[show ¬((i:Int)<0) by lia,jf,jt,Array.getElem?_eq_none G]
  refine aa (aa (sr T (aj ?_)));refine(?_:wpAny _ _ (setField (.ref it) 0 .none >>= _) _ _ s);refine aa (q9 hi R (by simp) ?_);refine STb.We (show A.in1.handled=none from hh) λZ x k z_=>?_
  obtain⟨o,e1,e2⟩:=z_;exact aa (o7 (T := "StopIteration") (b:=true) ⟨o,e1,e2⟩ isSubtype_stop (aj (h2 G _ λb o n z=>k b o ((jb ..).extBut b o n z))))
theorem ag9{I:Addr}(hh:A.handled=none)(hd:o.data=.dict es ep)(O6:d≠I):Walks prog w A I [I,d] [I] es.size (λi v=>∃e,es[i]?=some e/\v=e.key) (λi h=>h.IsKeyIter I d i es.size ep/\h.get? d=some o) where
 sub:=λb G=>by simp at G;simp[G]
 frame:=λ_ _ _ Z hk=>⟨Z.1.at λo e=>hk _ (by simp) o e,hk d (by simp) o Z.2⟩
 item:=λi s1 Q E hi Z U=>aau Z.1 Z.2 hd (λhl R qq sb=>U _ R s1.toks ⟨_,ur hl,rfl⟩ ⟨qq,(sb.2 d O6).trans Z.2⟩ λb o G e=>(sb.2 b (λz=>G (by simp[z]))).trans e) hh λz=>absurd hi (by lia)
 done:=λs1 Q E Z U=>aau Z.1 Z.2 hd (λhl=>absurd hl (by lia)) hh λ_ R eb=>U R s1.toks λb o G e=>eb b o (λz=>G (by simp[z])) e
 self:=λ_ _ _ _ Z h=>wpAny_pyIter_keyiter Z.1 h
theorem alo(G:o.ExactDict)(U:o.data=.dict es ep)(hn:(d==sysModules)=false):PySem.W.KdlSrc prog w "dict" d d es.size (λi v=>∃e,es[i]?=some e/\v=e.key) (λh=>h.get? d=some o) where
 type:=λ_ h=>⟨o,h,G.1⟩
 there:=λ_ h=>⟨au h,au h⟩
 keep:=λ_ _ h hk=>hk d (.inl rfl) o h
 notList:=by decide
 notTuple:=by decide
 hint:=λ_ _ _ _ h Z=>PySem.W.kdl_hint_dict ⟨o,h,G.1⟩ Z
 iter:=λA s R h=>⟨_,_,(λ_ _ Z=>aln h G U hn Z),ag9 R U (fu (au h)),⟨_,bf _ rfl,rfl,rfl⟩,aq _ h⟩
end
theorem my.keys{K:Fg}{Z:Io}{H:Hp}:∀k:List Kx,my K Z H (k.map MW.ax4) (k.map kV)
 |[]=>.nil|.inl i::k=>.cons (.int i) (my.keys k)|.inr x::k=>.cons (.str x) (my.keys k)
theorem o5.keys{K:Fg}{U:Io}{H:Hp}:∀{l:List (List Kx×Dv)}{Z:List (List Key×V)},o5 K U H (λk G=>k=G) l Z->Z.map (·.1)=l.map (·.1)
 |_,_,.nil=>rfl|_,_,.cons k _ t=>by rw[dg,dg,o5.keys t,k]
theorem afe{U R:Type}{F:U->R->Prop}{a:U}:∀{Z:List U}{G:List R}{i:Nat},Paired F Z G->Z[i]?=some a->∃b,G[i]?=some b/\F a b
 |_,_,0,.cons h _,e=>by cases e;exact⟨_,rfl,h⟩|_,_,i+1,.cons _ t,e=>afe (i:=i) t e
theorem afg{K:Fg}{U:Io}{H:Hp}:∀{G:List Dv}{Z:List V},G.length=Z.length->(∀(i:Nat) d v,G[i]?=some d->Z[i]?=some v->Rep K U H d v)->my K U H G Z
 |[],[],_,_=>.nil|d::G,v::Z,hl,h=>.cons (h 0 d v rfl rfl) (afg (by simpa using hl) λi d v a b=>h (i+1) d v a b)
theorem afh:∀{Z:List V}{G:Zl},Z.length=G.length->(∀(i:Nat) v u,Z[i]?=some v->G[i]?=some u->RelV v u)->Vals Z G
 |[],[],_,_=>.nil|v::Z,u::G,hl,h=>.cons (h 0 v u rfl rfl) (afh (by simpa using hl) λi d v a b=>h (i+1) d v a b)
def alp(e:MW.uq .list ds M=.ok d U):∃x,ds=[x]/\((∃G,MW.j9 M x=some G/\MW.new (.lst G) M=.ok d U)\/∃n Z,x=.ref n/\M[n]?=some (.dT Z)/\Z.length<=1000/\d=.vl (Z.map λp=>MW.af4 p.1)/\U=M):=by
 obtain⟨x,rfl,-⟩:=Uk e;refine⟨x,rfl,?_⟩;simp only[MW.uq,MW.Jl] at e;cases e3:MW.j9 M x with
 |some G=>rw[e3] at e;exact .inl ⟨G,rfl,e⟩
 |none =>
  rw[e3] at e;cases x with
  |ref n =>
   simp only at e;cases hn:M[n]? with
   |none=>rw[hn] at e;cases e
   |some ob =>
    rw[hn] at e;cases ob with
    |dT Z =>
     obtain⟨R,e⟩:=Ye e;cases e;exact .inr ⟨n,Z,rfl,hn,R,rfl,rfl⟩
    |_=>cases e
  |_=>cases e
def awg(hc:X.calm=true):Ab X (.type "list") (rB nm X.K .list):=λqk s σ H vs us Q I Ov hh=>by
 obtain⟨ι,M,ds,d,M',S,r,e,q⟩:=hh;obtain⟨x,rfl,⟨xs,e3,e⟩|⟨n,ni,rfl,hn,hl,rfl,rfl⟩⟩:=alp e
 .cases e
  obtain⟨v,rfl,h⟩:=Oj r rfl;obtain⟨p,q4,rfl,hp,ru⟩:=Fd S h e3;refine Xv qk s σ H _ us Q I Ov ⟨p,q4,rfl,hp.imp Ec.of Fb.of,λl hl=>?_⟩;obtain⟨S2,xj,r2⟩:=aey S hl ru;exact q _ _ _ xj S2 r2
 .obtain⟨v,rfl,h⟩:=Oj r rfl
  cases h with
  |@ref _ p hp =>
   obtain⟨l,h1,h2⟩:=S.obj n _ p hn hp;obtain⟨z,qv,xs,U,o,es,ep,g1,g2,g3,g4,g5⟩:=(show yw X.prog X.w H s.heap p (.dT l) from I.yp p _ h1);obtain⟨u,rfl,rx⟩:=vals1 Ov;cases rx;have hz:es.size=l.length:=(size_of_entries g4).trans U.length.symm;refine PySem.W.kdl_call (alo g2 g3 qv) (I.ok.hd hc) g1 (by rw[hz];exact z) λh' tk Z c' kp hD U6=>?_
   have qq:Z.size=l.length:=U6.1.trans hz;have at_:∀(i:Nat)(y:List Key×V)(u:Value),l[i]?=some y->Z.toList[i]?=some u->∃b:Addr,xs[i]?.map (·.2.1)=some b/\u=.ref b/\H b=some (.tup (y.1.map kV)):=λi y u hy hu=>by obtain⟨e0,q1,q2⟩:=U6.2 i u (by rw[<- nj];exact hu);obtain⟨b,hb,f1,f2,f3⟩:=afe U hy;have:=entry_at g4 i;rw[hb,q1] at this;have ee:=gq this;exact⟨b.2.1,by rw[hb];rfl,by rw[q2,ee];rfl,f2⟩
   have ws:∃ks:List V,ks.length=l.length/\∀(i:Nat) k,ks[i]?=some k->∃b:Addr,xs[i]?.map (·.2.1)=some b/\k=.ref b:=⟨xs.map λx=>.ref x.2.1,by simpa using U.length.symm,λi k G=>by
    rw[gf] at G;obtain⟨x,hx,rfl⟩:=bu.mp G;exact⟨x.2.1,by rw[hx];rfl,rfl⟩⟩
   obtain⟨ks,k1,k2⟩:=ws;have vl:Vals ks Z.toList:=afh (k1.trans (qq.symm.trans qg.symm)) λi k u G hu=>by
    obtain⟨b,b1,rfl⟩:=k2 i k G;have R:i<l.length:=by rw[<- k1];exact(ak.mp G).1
    obtain⟨b',b2,rfl,_⟩:=at_ i _ u (dw R) hu;rw[b1] at b2;cases b2;rfl
   have rl:my X.K ι H (ni.map λp=>MW.af4 p.1) ks:=afg (by rw[k1,cz,h2.length]) λi d k hd G=>by
    rw[gf] at hd;obtain⟨y,hy,rfl⟩:=bu.mp hd;have R:i<l.length:=by rw[<- k1];exact(ak.mp G).1
    have ia:i<Z.toList.length:=by rw[qg,qq];exact R
    obtain⟨b',b2,_,b3⟩:=at_ i _ _ (dw R) (dw ia);obtain⟨b,b1,rfl⟩:=k2 i k G;rw[b1] at b2;cases b2;have q3:=h2.keys;have e1:(l.map (·.1))[i]?=some l[i].1:=by rw[gf,dw R];rfl
    rw[q3,gf,hy] at e1;have e1:y.1=l[i].1:=gq e1;rw[<- e1] at b3;exact .tup b3 (my.keys _)
   have q0:=I.yp.fresh (bc s.heap.objs.size);obtain⟨S2,xj,r2⟩:=Xx S q0 rl;exact⟨.ref s.heap.objs.size,_,I.laid (t':=tk) kp (bc _) (show yw X.prog X.w _ h' _ (.lst ks) from⟨by rw[k1];exact z,Z.toList,c',vl,by simpa using hD⟩),rfl,q _ _ _ xj S2 r2⟩
end Sm
namespace Ck
open PySem L2 Sm
open MW (Ex De OEx Mg zx j8 Lv Tg Res dm MO Kv Cp Op2 Blt Bm Kx Src)
structure Tab where
 fns:List (Option (Str×Nat))
 cls:List (Option (Str×Nat))
 mts:List (Str×Nat)
 Mf:List Str
 aqg:List (Str×Int)
noncomputable def Kf:List Str:=["len", "tuple", "list", "max", "min", "isinstance", "range", "enumerate", "set", "zip", "all", "bool"]
structure alq(T:Tab)(nm:Nm)(W:Kv)(k:Nat)(P:Program)(w:World)(K:Fg)(mg:Zs)(base:Heap):Prop where
 fn:∀f x n,T.fns[f]?=some (some (x,n))->∃fa fd ps,Ei P w K mg base Yq k fa fd ps (spF nm W K n f)/\mg x=some (.ref fa)/\PySem.W.keepIn K (.ref fa)=true/\Binds K fd ps []
 cl:∀c x n,T.cls[c]?=some (some (x,n))->∃C fa fd ps cl,Mk K C fa/\Ei P w K mg base Yq k fa fd ps (spF nm W K (n+1) cl.init)/\mg x=some (.ref C)/\Binds K fd ps []/\W.cls[c]?=some cl/\nm.cls c=some C
 mt:∀m x n,T.mts[m]?=some (x,n)->∃C fa fd ps f,Cls K C/\Meth K C x fa/\Ei P w K mg base Yq k fa fd ps (spF nm W K (n+1) f)/\Binds K fd ps [] /\
  (∀c' cl',W.cls[c']?=some cl'->∀g,cl'.meths.lookup m=some g->nm.cls c'=some C/\g=f)/\∀i,nm.fld i≠x
 fl:∀f x,T.Mf[f]?=some x->x=nm.fld f/\∀c C,nm.cls c=some C->Cls K C/\Eh K C x
 cs:∀x i,(x,i)∈T.aqg->∃t,mg x=some (.int i t)
 bt:∀x∈Kf,mg x=none
structure Ctx where
 N:List Str
 sc:List (Str×NameKind)
 fn:Bool
structure Df(T:Tab)(nm:Nm)(W:Kv)(k:Nat)(c:Ctx)(X:Cx):Prop where
 N:X.N=c.N
 nd:c.N.Nodup
 sc:X.env.scope.names=c.sc
 kd:X.env.scope.kind=.function
 calm:X.calm=true
 room:xu (k+16) X.A
 fnl:c.fn=true->(∀n,X.fn n=true)/\PassesOwn (model X.prog X.w) X.A X.env X.xe
 tab:alq T nm W k X.prog X.w X.K X.mg X.base
noncomputable def Uo(n:Str):Bool:=!(n==("__debug__" : Str))&&(!(n==("__classdict__" : Str))&&!(n==("__name__" : Str)))
noncomputable def aha(c:Ctx)(n:Str):Bool:=match c.sc.lookup n with|some .local=>true|some .cell=>true|some .free=>true|_=>false
noncomputable def awh(c:Ctx)(n:Str):Bool:=match c.sc.lookup n with|some .local=>true|some .cell=>c.fn|_=>false
def U8(c:Ctx)(n:Str):Bool:=Uo n&&(match c.sc.lookup n with|some .globalImplicit=>true|_=>false)
noncomputable def afj(c:Ctx)(i:Nat)(n:Str):Bool:=match c.N[i]? with|some m=>m==n|none=>false
def wj:List Expr->Bool
 |[]=>true|e::r=>noStar e&&wj r
noncomputable def Pj:Expr->Bool
 |.Name ..=>true|.Attribute ..=>true|.Subscript ..=>true|.Call (.Attribute ..) ..=>true|_=>false
def wk(h:Uo n=true):(n==("__debug__" : Str))=false/\(n==("__classdict__" : Str))=false/\n≠"__name__" := by simp only[Uo,ao,Bool.not_eq_true'] at h;exact⟨h.1,h.2.1,λz=>by have:=h.2.2;rw[z] at this;simp at this⟩
set_option tactic.hygienic true in
def awi(h:Df T nm W k c X)(Z:aha c n=true):Vis X.env.scope n:=by unfold Vis;rw[h.sc];unfold aha at Z;split at Z<;>rename_i e<;>first|exact .inl e|exact .inr (.inl e)|exact .inr (.inr e)|cases Z
set_option tactic.hygienic true in
def awj(h:Df T nm W k c X)(Z:awh c n=true):L2.Loc X.env.scope n/\(X.fn n=true\/X.env.scope.names.lookup n=some .local):=by
 unfold L2.Loc;rw[h.sc];unfold awh at Z;split at Z
 .rename_i e;exact⟨.inl e,.inr e⟩
 .rename_i e;exact⟨.inr e,.inl ((h.fnl Z).1 n)⟩
 .cases Z
set_option tactic.hygienic true in
def Kg(h:Df T nm W k c X)(Z:U8 c n=true):Gl X n/\Uo n=true:=by
 unfold U8 at Z;rw[ao] at Z;refine⟨?_,Z.1⟩;have Z:=Z.2;unfold Gl Env.kindOf;rw[h.sc];split at Z
 .rename_i e;exact e
 .cases Z
set_option tactic.hygienic true in
def slot_of(h:Df T nm W k c X)(Z:afj c i n=true):X.N[i]?=some n:=by
 rw[h.N];unfold afj at Z;split at Z
 .rename_i m e;rw[e,eq_of_beq Z]
 .cases Z
theorem Up{Z:Env}:∀{G:Ya},wj G=true->starEach G Z=G.map λe=>(false,eval e Z)
 |[],_=>rfl
 |e::r,h=>by
  simp only[wj,ao] at h;rw[qb h.1,Up h.2];rfl
def wu(h:wj es=true):(backTo pos (starEach es env)).any (·.1)=false:=by rw[Up h];simp[backTo]
def Uq(h:wj es=true):(backTo pos (starEach es env)).all (λx=>!x.1)=true:=by rw[Up h];simp[backTo]
set_option tactic.hygienic true in
def Cw(h:Pj o=true):attributeBase o n env (eval o env)=eval o env:=by
 cases o<;>try first|rfl|(cases h;done)
 rename_i f Y Z p;cases f<;>first|rfl|(cases h)
def aqh(h:Pj o=true)(G:wj es=true)(R:es.length<29)(U:(apos.endLine==pos.line)=true) :
 eval (.Call (.Attribute o m apos) es [] pos) env=(do
  let Z <- eval o env
  standAt apos.atName
  let (f,first) <- holding [Z] (getMethod Z m (do return (<- importBound o env).getD true))
  callWith pos f first (backTo pos (starEach es env)) (backToKw pos (keywordEach [] env))):=by
 have hf:methodCallForm (es.length+0) (backTo pos (starEach es env)) (backToKw pos (keywordEach [] env))=true:=by unfold methodCallForm;rw[Uq G];simp[keywordEach,backToKw];exact b_ R (by decide)
 show(do
  let Z <- attributeBase o m env (eval o env)
  standAt apos.atName
  methodCall o m apos pos env Z (es.length+0) (backTo pos (starEach es env)) (backToKw pos (keywordEach [] env)))=_
 rw[Cw h];unfold methodCall;rw[hf];have hq:methodCallPos true o env apos pos=pure pos:=by unfold methodCallPos;rw[U];rfl
 rw[hq];simp only[calleeOf,jz,pure_bind]
noncomputable def Bb{Z:Type}(o:Option Z)(f:Z->Bool):Bool:=match o with|some x=>f x|none=>false
def jl(h:Bb o f=true):∃x,o=some x/\f x=true:=by
 cases o with
 |none=>cases h|some x=>exact⟨x,rfl,h⟩
noncomputable def Ur{α:Type}(l:List α):Option α:=match l with|[x]=>some x|_=>none
def Af(h:Ur l=some x):l=[x]:=by
 cases l with
 |nil=>cases h
 |cons y r=>cases r with
  |nil=>cases h;rfl|cons _ _=>cases h
def Wd{Z:Type}{P:Z->Prop}{o:Option {x // P x}}{q:Z}(h:o.map Subtype.val=some q):P q:=by
 cases o with
 |none=>cases h|some x=>cases h;exact x.2
noncomputable def Ld(a:Expr):Option Str:=Option.map Subtype.val (α:={q:Str // ∃p,a=.Name q p}) (match a with|.Name n p=>some ⟨n,p,rfl⟩|_=>none)
noncomputable def alr(a:Expr):Option Const:=Option.map Subtype.val (α:={q:Const // ∃k p,a=.Constant q k p}) (match a with|.Constant n k p=>some ⟨n,k,p,rfl⟩|_=>none)
noncomputable def a1y(a:Expr):Option (Expr×Operator×Expr):=Option.map Subtype.val (α:={q:Expr×Operator×Expr // ∃p,a=.BinOp q.1 q.2.1 q.2.2 p}) (match a with|.BinOp l o r p=>some ⟨(l,o,r),p,rfl⟩|_=>none)
noncomputable def dUn(a:Expr):Option (UnaryOp×Expr):=Option.map Subtype.val (α:={q:UnaryOp×Expr // ∃p,a=.UnaryOp q.1 q.2 p}) (match a with|.UnaryOp o l p=>some ⟨(o,l),p,rfl⟩|_=>none)
noncomputable def awk(a:Expr):Option (Expr×List CmpOp×List Expr):=Option.map Subtype.val (α:={q:Expr×List CmpOp×List Expr // ∃p,a=.Compare q.1 q.2.1 q.2.2 p}) (match a with|.Compare l o r p=>some ⟨(l,o,r),p,rfl⟩|_=>none)
noncomputable def asd(a:Expr):Option (BoolOp×List Expr×Pos):=Option.map Subtype.val (α:={q:BoolOp×List Expr×Pos // a=.BoolOp q.1 q.2.1 q.2.2}) (match a with|.BoolOp o l p=>some ⟨(o,l,p),rfl⟩|_=>none)
noncomputable def ahb(a:Expr):Option (List Expr):=Option.map Subtype.val (α:={q:List Expr // ∃k p,a=.Tuple q k p}) (match a with|.Tuple l k p=>some ⟨l,k,p,rfl⟩|_=>none)
noncomputable def awl(a:Expr):Option (List Expr):=Option.map Subtype.val (α:={q:List Expr // ∃p,a=.List q p}) (match a with|.List l p=>some ⟨l,p,rfl⟩|_=>none)
noncomputable def a1z(a:Expr):Option (List (Option Expr)×List Expr):=Option.map Subtype.val (α:={q:List (Option Expr)×List Expr // ∃p,a=.Dict q.1 q.2 p}) (match a with|.Dict k v p=>some ⟨(k,v),p,rfl⟩|_=>none)
noncomputable def als(a:Expr):Option (Expr×Expr):=Option.map Subtype.val (α:={q:Expr×Expr // ∃p,a=.Subscript q.1 q.2 p}) (match a with|.Subscript l r p=>some ⟨(l,r),p,rfl⟩|_=>none)
noncomputable def dSl(a:Expr):Option (Option Expr×Option Expr×Option Expr):=Option.map Subtype.val (α:={q:Option Expr×Option Expr×Option Expr // ∃p,a=.Slice q.1 q.2.1 q.2.2 p}) (match a with|.Slice l r s p=>some ⟨(l,r,s),p,rfl⟩|_=>none)
noncomputable def alu(a:Expr):Option (Expr×List Expr×List Keyword×Pos):=Option.map Subtype.val (α:={q:Expr×List Expr×List Keyword×Pos // a=.Call q.1 q.2.1 q.2.2.1 q.2.2.2}) (match a with|.Call f l k p=>some ⟨(f,l,k,p),rfl⟩|_=>none)
noncomputable def alv(a:Expr):Option (Expr×Str×Pos):=Option.map Subtype.val (α:={q:Expr×Str×Pos // a=.Attribute q.1 q.2.1 q.2.2}) (match a with|.Attribute l n p=>some ⟨(l,n,p),rfl⟩|_=>none)
noncomputable def aav(a:Expr):Option (Expr×List Comprehension×Scope):=Option.map Subtype.val (α:={q:Expr×List Comprehension×Scope // ∃p,a=.ListComp q.1 q.2.1 q.2.2 p}) (match a with|.ListComp e g s p=>some ⟨(e,g,s),p,rfl⟩|_=>none)
def Eb(h:Ld a=some n):∃p,a=.Name n p:=(Wd h :)
def Rk(h:alr a=some n):∃k p,a=.Constant n k p:=(Wd h :)
def aqi(h:a1y a=some (l,o,r)):∃p,a=.BinOp l o r p:=(Wd h :)
def acr(h:dUn a=some (o,l)):∃p,a=.UnaryOp o l p:=(Wd h :)
def afk(h:awk a=some (l,o,r)):∃p,a=.Compare l o r p:=(Wd h :)
def alw(h:asd a=some (o,r,p)):a=.BoolOp o r p:=(Wd h :)
def Oo(h:ahb a=some l):∃k p,a=.Tuple l k p:=(Wd h :)
def afl(h:awl a=some l):∃p,a=.List l p:=(Wd h :)
def aqj(h:a1z a=some (k,l)):∃p,a=.Dict k l p:=(Wd h :)
def Yl(h:als a=some (l,r)):∃p,a=.Subscript l r p:=(Wd h :)
def awm(h:dSl a=some (l,r,s)):∃p,a=.Slice l r s p:=(Wd h :)
def aaw(h:alu a=some (f,l,k,p)):a=.Call f l k p:=(Wd h :)
def Ym(h:alv a=some (l,n,p)):a=.Attribute l n p:=(Wd h :)
def Us(h:aav a=some (e,g,s)):∃p,a=.ListComp e g s p:=(Wd h :)
def dCN(a:Expr):Option (Str×List Expr):=(alu a).bind λq=>if q.2.2.1.isEmpty then(Ld q.1).map λn=>(n,q.2.1) else none
set_option tactic.hygienic true in
def Ip(h:dCN a=some (n,l)):∃p p',a=.Call (.Name n p) l [] p':=by
 obtain⟨⟨f,L,k,p⟩,G,Z⟩:=iu.mp h;split at Z
 .rename_i Y
  obtain⟨C,J,U⟩:=bu.mp Z;obtain⟨p',e⟩:=Eb J;have e:f=_:=e;have Y:k=[]:=lg.mp Y;cases U;exact⟨p',p,by rw[aaw G,e,Y]⟩
 .cases Z
def dCA(a:Expr):Option (Expr×Str×Pos×List Expr×Pos):=(alu a).bind λq=>if q.2.2.1.isEmpty then(alv q.1).map λn=>(n.1,n.2.1,n.2.2,q.2.1,q.2.2.2) else none
set_option tactic.hygienic true in
def acs(h:dCA a=some (o,n,U,l,p)):a=.Call (.Attribute o n U) l [] p:=by
 obtain⟨⟨f,l',k,R⟩,G,Z⟩:=iu.mp h;split at Z
 .rename_i Y
  obtain⟨⟨u,S,L⟩,J,C⟩:=bu.mp Z;have e:f=_:=Ym J;have Y:k=[]:=lg.mp Y;cases C;rw[aaw G,e,Y]
 .cases Z
noncomputable def a2a(l:Ya):List Str:=l.filterMap Ld
noncomputable def Cz(e:Expr):List Str:=match ahb e with|some l=>a2a l|none=>a2a [e]
noncomputable def hid(i:Nat):Str:=⟨#[0,i]⟩
def ahc(Z:Yf)(p:Str×Nat):Str:=if Z.contains p.1=true then hid p.2 else p.1
noncomputable def Q4(N Z:Yf):List Str:=N.zipIdx.map (ahc Z)++Z
noncomputable def aqk(c:Ctx)(Z:X0):List (Str×NameKind):=Z.map λy=>if(y.2==NameKind.free&&c.sc.lookup y.1==some .cell) then(y.1,NameKind.cell) else(y.1,y.2)
def aax(c:Ctx)(G:Scope)(Z:Yf):Ctx:=⟨Q4 c.N Z,aqk c G.names,false⟩
def awn(c:Ctx)(Z:Scope)(G:Yf):Bool :=
 decide (Z.kind=.function)&&(Z.names.all (λy=>!(y.2==NameKind.cell))&&(Z.names.all (λy=>Z.names.lookup y.1==some y.2) &&
 (Z.names.all (λy=>!(y.2==NameKind.free)||(c.sc.lookup y.1==some .cell||c.sc.lookup y.1==some .free))&&(decide ((Q4 c.N G).Nodup) &&
 c.N.zipIdx.all (λp=>!(aha (aax c Z G) (ahc G p))||(ahc G p==p.1&&Z.names.lookup (ahc G p)==some .free))))))
noncomputable def a2b:Op2->Operator
 |.add=>.Add|.sub=>.Sub|.mul=>.Mult|.fdiv=>.FloorDiv|.mod=>.Mod|.pow=>.Pow
noncomputable def aql:Cp->Option CmpOp
 |.eq=>some .Eq|.ne=>some .NotEq|.lt=>some .Lt|.le=>some .LtE|.gt=>some .Gt|.ge=>some .GtE|.inn=>some .In|.Rt=>some .NotIn
noncomputable def awo:Blt->Option Str
 |.len=>some "len"|.tuple=>some "tuple"|.list=>some "list"|.max=>some "max"|.min=>some "min"
 |.all=>some "all"|_=>none
noncomputable def bmN:Bm->Option Str
 |.append=>some "append"|.extend=>some "extend"|.setdefault=>some "setdefault"|.get=>some "get"|.index=>some "index"
def awp(T:Tab)(c:Ctx)(d:MW.D)(a:Expr):Bool :=
 match d with
 |.int i=>Bb (alr a) (λk=>decide (k=.int i))||Bb (Ld a) λn=>U8 c n&&T.aqg.contains (n,i)
 |.bl i=>Bb (alr a) λk=>decide (k=.bool i)
 |.str i=>Bb (alr a) λk=>decide (k=.str i)
 |.non=>Bb (alr a) λk=>decide (k=.none)
 |_=>false
def tg1(c:Ctx)(Z i:Nat)(e:Expr):Bool:=Bb (Ld e) λn=>afj c i n&&(awh c n&&decide (Z<=i))
def ahd(c:Ctx)(Z:Nat):List Nat->List Expr->Bool
 |[],[]=>true|i::is,e::ts=>tg1 c Z i e&&ahd c Z is ts|_,_=>false
def tgB(c:Ctx)(Z:Nat)(t:Tg)(e:Expr):Bool :=
 match t with
 |.name i=>tg1 c Z i e|.names is=>Bb (ahb e) λG=>ahd c Z is G
noncomputable def Oq:Expr->Bool|.IfExp ..=>false|_=>true
noncomputable def fnB(l:List (Option (Str×Nat)))(f:Nat)(n:Str)(k:Nat):Bool:=decide (l[f]?=some (some (n,k)))
noncomputable def mtB(l:List (Str×Nat))(f:Nat)(n:Str)(k:Nat):Bool:=decide (l[f]?=some (n,k))
noncomputable def flB(l:Yf)(f:Nat)(n:Str):Bool:=decide (l[f]?=some n)
def afm(c:Ctx)(k:Nat)(t:Tg)(g:Comprehension)(Z:Scope):Bool :=
 awn c Z (Cz g.target)&&((k==(Cz g.target).length)&&(tgB (aax c Z (Cz g.target)) c.N.length t g.target&&(Gh g.iter&&decide (g.is_async=0))))
def aly(o:BoolOp)(a:Expr)(x y:Expr->Bool):Bool :=
 Bb (asd a) λq=>decide (q.1=o)&&(match q.2.1 with
  |l::r::rest=>(Oq l&&x l)&&(match rest with|[]=>Oq r&&y r|_::_=>y (.BoolOp o (r::rest) q.2.2))
  | _=>false)
def a2c(c:Ctx)(G:Str)(a:Expr)(f:Expr->Bool):Bool:=Bb (dCN a) λq=>match q.2 with
 |[l,t]=>Bb (Ld t) λZ=>(decide (q.1 = "isinstance")&&decide (Z=G))&&((U8 c q.1&&U8 c Z)&&(noStar l&&f l))
 |_=>false
def aqm(h:a2c c ty a f=true):∃l p p1 Z,a=.Call (.Name "isinstance" p) [l,.Name ty p1] [] Z/\U8 c "isinstance" = true/\U8 c ty=true/\noStar l=true/\f l=true:=by
 obtain⟨⟨n,ls⟩,U,h0⟩:=jl h;clear h;obtain⟨p,R,rfl⟩:=Ip U
 match ls,U,h0 with
 |[l,t],U,h =>
  replace h:=jl (f:=λG=>(decide (n = "isinstance")&&decide (G=ty))&&((U8 c n&&U8 c G)&&(noStar l&&f l))) h;obtain⟨G,h2,h⟩:=h;obtain⟨Z,rfl⟩:=Eb h2;simp only[ao,du] at h;obtain⟨⟨rfl,rfl⟩,⟨h3,h4⟩,h5,h6⟩:=h;exact⟨l,p,Z,R,rfl,h3,h4,h5,h6⟩
 |[],_,h=>cases h|[_],_,h=>cases h|_::_::_::_,_,h=>cases h
def awq(c:Ctx)(Z G:Str)(a:Expr)(f:Expr->Bool):Bool:=Bb (dCN a) λq=>Bb (Ur q.2) λr=>Bb (dCN r) λu=>Bb (Ur u.2) λl=>((decide (q.1=Z)&&decide (u.1=G))&&(U8 c q.1&&U8 c u.1))&&(noStar l&&f l)
def aqn(h:awq c ty G a f=true):∃l p p1 Z R,a=.Call (.Name ty p) [.Call (.Name G p1) [l] [] Z] [] R/\U8 c ty=true/\U8 c G=true/\noStar l=true/\f l=true:=by replace h:=jl h;obtain⟨⟨n,ls⟩,h1,h⟩:=h;obtain⟨p,U,rfl⟩:=Ip h1;replace h:=jl h;obtain⟨r,h2,h⟩:=h;cases Af h2;replace h:=jl h;obtain⟨⟨m,ms⟩,h3,h⟩:=h;obtain⟨Z,q2,rfl⟩:=Ip h3;replace h:=jl h;obtain⟨l,h4,h⟩:=h;cases Af h4;simp only[ao,du] at h;obtain⟨⟨⟨rfl,rfl⟩,h5,h6⟩,h7,h8⟩:=h;exact⟨l,p,Z,q2,U,rfl,h5,h6,h7,h8⟩
mutual
def yh(T:Tab):Ex->Ctx->Expr->Bool
 |.var i,c,a=>Bb (Ld a) λn=>afj c i n&&(aha c n&&Uo n)
 |.tru _,_,_=>false|.cst d,c,a=>awp T c d a|.bin op x y,c,a=>Bb (a1y a) λq=>decide (q.2.1=a2b op)&&(yh T x c q.1&&yh T y c q.2.2)
 |.neg x,c,a=>Bb (dUn a) λq=>decide (q.1=.USub)&&yh T x c q.2
 |.cmp op x y,c,a=>Bb (awk a) λq=>Bb (Ur q.2.1) λo=>Bb (Ur q.2.2) λr=>decide (aql op=some o)&&(Gh r&&(yh T x c q.1&&yh T y c r))
 |.chain o1 o2 x y z,c,a=>Bb (awk a) λq=>match q.2.1,q.2.2 with
  |[p1,p2],[r,s]=>(decide (aql o1=some p1)&&decide (aql o2=some p2))&&(Gh s&&(yh T x c q.1&&(yh T y c r&&yh T z c s)))|_,_=>false
 |.and x y,c,a=>aly .And a (yh T x c) (yh T y c)|.or x y,c,a=>aly .Or a (yh T x c) (yh T y c)|.ntr x,c,a=>Bb (dUn a) λq=>decide (q.1=.Not)&&((Ld q.2).isSome&&yh T x c q.2)
 |.not x,c,a=>Bb (dUn a) λq=>decide (q.1=.Not)&&(Oq q.2&&yh T x c q.2)
 |.tup es,c,a=>Bb (ahb a) λl=>decide (De.len es<=1000)&&Jf T es c l
 |.lst es,c,a=>Bb (awl a) λl=>decide (De.len es<=1000)&&Jf T es c l
 |.Ku es,c,a=>Bb (awl a) λl=>decide (De.len es<=1000)&&Jf T es c l
 |.Yv,_,a=>Bb (a1z a) λq=>q.1.isEmpty&&q.2.isEmpty
 |.ix x y,c,a=>Bb (als a) λq=>X7 q.2&&(yh T x c q.1&&yh T y c q.2)
 |.cut x lo hi,c,a=>Bb (als a) λq=>Bb (dSl q.2) λs=>s.2.2.isNone&&(yh T x c q.1&&(awr T lo c s.1&&awr T hi c s.2.1))
 |.call f es,c,a=>Bb (dCN a) λq=>(fnB T.fns f q.1 (De.len es)&&(U8 c q.1&&!q.2.isEmpty))&&Jf T es c q.2
 |.make f,c,a=>Bb (dCN a) λq=>fnB T.cls f q.1 0&&(U8 c q.1&&q.2.isEmpty)
 |.meth o m es,c,a=>Bb (dCA a) λq=>((mtB T.mts m q.2.1 (De.len es)&&Pj q.1)&&(decide (q.2.2.2.1.length<29)&&((q.2.2.1.endLine==q.2.2.2.2.line)&&!q.2.2.2.1.isEmpty)))&&(yh T o c q.1&&Jf T es c q.2.2.2.1)
 |.fld o f,c,a=>Bb (alv a) λq=>(flB T.Mf f q.2.1&&Pj q.1)&&yh T o c q.1
 |.blt .Gx (.cons x .nil),c,a=>awq c "len" "set" a (yh T x c)|.blt .isBool (.cons x .nil),c,a=>a2c c "bool" a (yh T x c)|.blt b es,c,a=>Bb (dCN a) λq=>(decide (awo b=some q.1)&&(U8 c q.1&&!q.2.isEmpty))&&Jf T es c q.2
 |.bm m o es,c,a=>Bb (dCA a) λq=>((decide (bmN m=some q.2.1)&&Pj q.1)&&(decide (q.2.2.2.1.length<29)&&((q.2.2.1.endLine==q.2.2.2.2.line)&&!q.2.2.2.1.isEmpty)))&&(yh T o c q.1&&Jf T es c q.2.2.2.1)
 |.comp v k t it e,c,a=>Bb (aav a) λq=>Bb (Ur q.2.1) λg=>(afm c k t g q.2.2&&g.ifs.isEmpty)&&(aqo T it c g.target g.iter&&yh T e (aax c q.2.2 (Cz g.target)) q.1)
 |.ym v k t it i e,c,a=>Bb (aav a) λq=>Bb (Ur q.2.1) λg=>Bb (Ur g.ifs) λd=>(afm c k t g q.2.2&&Oq d)&&(aqo T it c g.target g.iter&&(yh T i (aax c q.2.2 (Cz g.target)) d&&yh T e (aax c q.2.2 (Cz g.target)) q.1))
def Jf(T:Tab):De->Ctx->List Expr->Bool
 |.nil,_,a=>a.isEmpty|.cons e es,c,a=>match a with|l::ls=>noStar l&&(yh T e c l&&Jf T es c ls)|_=>false
def awr(T:Tab):OEx->Ctx->Option Expr->Bool
 |.none,_,a=>a.isNone|.some e,c,a=>Bb a (yh T e c)
def aqo(T:Tab):Mg->Ctx->Expr->Expr->Bool
 |.val e,c,_,a=>yh T e c a|.Mp e,c,_,a=>Bb (dCN a) λq=>Bb (Ur q.2) λl=>(decide (q.1 = "range")&&U8 c q.1)&&(noStar l&&yh T e c l)
 |.enm e,c,tg,a=>Bb (dCN a) λq=>Bb (Ur q.2) λl=>((ahb tg).isSome&&(decide (q.1 = "enumerate")&&U8 c q.1))&&(noStar l&&yh T e c l)
 |.zip es,c,tg,a=>Bb (dCN a) λq=>((ahb tg).isSome&&(decide (q.1 = "zip")&&(U8 c q.1&&!q.2.isEmpty)))&&Jf T es c q.2
 |.vals e,c,_,a=>Bb (dCA a) λq=>((decide (q.2.1 = "values")&&Pj q.1)&&((q.2.2.1.endLine==q.2.2.2.2.line)&&q.2.2.2.1.isEmpty))&&yh T e c q.1
end
def Lf(h:Df T nm W k c X)(G:Scope):(relabel G X.env).names=aqk c G.names:=by
 unfold relabel aqk;refine qi λy _=>?_
 obtain⟨n,Z⟩:=y;show(if(Z==NameKind.free&&X.env.scope.kind==.function&&X.env.kindOf n==some .cell)=true then _ else _)=_;have e:(Z==NameKind.free&&X.env.scope.kind==.function&&X.env.kindOf n==some .cell)=(Z==NameKind.free&&c.sc.lookup n==some .cell):=by unfold Env.kindOf;rw[h.kd,h.sc];simp
 rw[e]
def aws(h:Df T nm W k c X)(hb:awn c sc G=true):Eo X (Q4 c.N G) sc/\∀C fp s H,Df T nm W k (aax c sc G) (Jj X (Q4 c.N G) sc C fp s H):=by
 simp only[awn,ao,du,iw] at hb;obtain⟨h1,h2,h3,h4,h5,h6⟩:=hb;have Z:∀x kd,(x,kd)∈sc.names->sc.names.lookup x=some kd:=λx kd m=>by have:=h3 (x,kd) m;simpa using this
 refine⟨⟨h1,λy m=>by have:=h2 y m;simpa using this,λy m e=>by rw[Z y.1 y.2 m,e],λy m e=>?_,Z,?_,λi x R U hv=>?_⟩,λC fp s H=>⟨rfl,h5,Lf h sc,h1,h.calm,h.room,(λz=>by cases z),h.tab⟩⟩
 .have:=h4 y m
  rw[e] at this;unfold Env.kindOf;rw[h.sc];simpa using this
 .rw[h.N];simp[Q4]
 .rw[h.N] at R
  have hl:i<(c.N.zipIdx.map (ahc G)).length:=by simpa using R
  unfold Q4 at U;rw[gr hl,gf,uy] at U;obtain⟨n,hn⟩:∃n,c.N[i]?=some n:=⟨c.N[i],by simp[R]⟩;rw[hn] at U;have U:ahc G (n,i)=x:=by simpa using U
  have m:(n,i)∈c.N.zipIdx:=by rw[mq];exact⟨i,by rw[uy,hn];simp⟩
  have q:=h6 (n,i) m;rw[U] at q;have v:aha (aax c sc G) x=true:=by unfold Vis at hv;rw[Lf h] at hv;unfold aha;show(match(aqk c sc.names).lookup x with|some .local=>true|some .cell=>true|some .free=>true|_=>false)=true;rcases hv with e|e|e<;>rw[e]
  rw[v] at q;simp only[xn,Bool.false_or,ao] at q;rw[h.N,hn];have e1:x=n:=eq_of_beq q.1;exact⟨by rw[e1],by have:=q.2;simpa using this⟩
def a2d(h:o=a2b op):Az X (binaryOp o) (rOp nm X.K (MW.Ba op)):=by
 subst h;cases op with
 |add=>exact a0y|sub=>exact a0u|mul=>exact a0x|fdiv=>exact avp|mod=>exact a0v|pow=>exact a0w
def alz(Z:xu 8 X.A)(h:aql op=some o):Az X (compareOp o) (Uw nm X.K op):=by
 have G:xu 6 X.A:=Z.mono (by decide);cases op with
 |eq=>cases h;exact a8h G|ne=>cases h;exact a8i G|lt=>cases h;exact a75|le=>cases h;exact a76|gt=>cases h;exact a77|ge=>cases h;exact a78|inn=>cases h;exact a8j Z|Rt=>cases h;exact apu Z
def acu(h:Df T nm W k c X)(hb:tg1 c lo i e=true):∃n p,e=.Name n p/\X.N[i]?=some n/\L2.Loc X.env.scope n/\(X.fn n=true\/X.env.scope.names.lookup n=some .local)/\lo<=i:=by obtain⟨n,R,Z⟩:=jl hb;obtain⟨p,rfl⟩:=Eb R;simp only[ao,du] at Z;obtain⟨G,U⟩:=awj h Z.2.1;exact⟨n,p,rfl,slot_of h Z.1,G,U,Z.2.2⟩
theorem al0{T:Tab}{R:Nm}{W:Kv}{k:Nat}{c:Ctx}{X:Cx}(h:Df T R W k c X){G:Nat}:∀{is:Y3}{Z:Ya},ahd c G is Z=true->Im X Z is/\∀i∈is,G<=i
 |[],[],_=>⟨.nil,by simp⟩|[],_::_,e=>by cases e|_::_,[],e=>by cases e
 |i::is,a::Z,e=>by
  unfold ahd at e;rw[ao] at e;obtain⟨n,p,rfl,U,e2,e3,e4⟩:=acu h e.1;obtain⟨g1,g2⟩:=al0 h e.2;refine⟨.cons U e2 e3 g1,λj hj=>?_⟩;rcases cj.mp hj with z|z
  .rw[z];exact e4
  .exact g2 j z
def afn(h:Df T nm W k c X)(G:tgB c lo t e=true):PG X e (tGt nm X.K t)/\∀i∈zf t,lo<=i:=by
 have Z:X.N.Nodup:=by rw[h.N];exact h.nd
 cases t with
 |name i =>
  obtain⟨n,p,rfl,U,e2,e3,e4⟩:=acu h G;exact⟨avw Z U e2 e3,λi R=>by rw[j4.mp R];exact e4⟩
 |names is =>
  obtain⟨ts,h1,h2⟩:=jl G;obtain⟨k0,p,rfl⟩:=Oo h1;obtain⟨g1,g2⟩:=al0 h h2;exact⟨apm h.calm Z g1,g2⟩
structure Got(nm:Nm)(W:Kv)(X:Cx)(a:Expr)(e:Ex):Prop where
 v:PE X a (tE nm W X.K e)
 q:Oq a=true->PT X a (tQ nm W X.K e)
 w:∀op ls p,a=.BoolOp op ls p->PW X a (tQ nm W X.K e)
noncomputable def a2e:Expr->Bool
 |.BoolOp ..=>false|.UnaryOp .Not _ _=>false|.IfExp ..=>false|.Compare ..=>false|_=>true
set_option tactic.hygienic true in
def u0(h:PE X a (tE nm W X.K e))(Y:a2e a=true):Got nm W X a e:=by
 refine⟨h,λU=>a00 h λZ=>?_,λG J p z=>by subst z;cases Y⟩;cases a<;>first|rfl|(cases Y)|skip
 rename_i G x p;cases G<;>first|rfl|cases Y
def awt(h:Df T nm W k c X)(G:awp T c d a=true):PE X a (tE nm W X.K (.cst d))/\a2e a=true:=by
 cases d with
 |int i =>
  simp only[awp,Bool.or_eq_true] at G;rcases G with G|G
  .obtain⟨k,U,Z⟩:=jl G
   obtain⟨j,p,rfl⟩:=Rk U;rw[jj Z];exact⟨a0q,rfl⟩
  .obtain⟨n,U,Z⟩:=jl G
   obtain⟨p,rfl⟩:=Eb U;rw[ao] at Z;obtain⟨g1,R⟩:=Kg h Z.1;obtain⟨t,ht⟩:=h.tab.cs _ _ (List.contains_iff_mem.mp Z.2);exact⟨avo g1 ht (wk R).1,rfl⟩
 |bl i =>
  obtain⟨k,U,Z⟩:=jl G;obtain⟨j,p,rfl⟩:=Rk U;rw[jj Z];exact⟨a73,rfl⟩
 |str i =>
  obtain⟨k,U,Z⟩:=jl G;obtain⟨j,p,rfl⟩:=Rk U;rw[jj Z];exact⟨a0s,rfl⟩
 |non =>
  obtain⟨k,U,Z⟩:=jl G;obtain⟨j,p,rfl⟩:=Rk U;rw[jj Z];exact⟨a0r,rfl⟩
 |_=>cases G
section
variable{T:Tab}{nm:Nm}{W:Kv}{k:Nat}
def Df.r8(h:Df T nm W k c X):xu 8 X.A:=h.room.mono (by lia)
theorem Df.mg(h:Df T nm W k c X)(m:n∈Kf):X.mg n=none:=h.tab.bt n m
theorem Qv{c:Ctx}{Z:Nat}:∀{is:Y3}{G:Ya},ahd c Z is G=true->∀i∈is,Z<=i
 |[],_,_=>by simp|_::_,[],e=>by cases e
 |i::is,a::G,e=>by
  unfold ahd at e;rw[ao] at e;intro j R;rcases cj.mp R with z|z
  .obtain⟨n,h1,U⟩:=jl e.1
   simp only[ao,du] at U;rw[z];exact U.2.2
  .exact Qv e.2 j z
def acv(h:tgB c lo t e=true):∀i∈zf t,lo<=i:=by
 cases t with
 |name j =>
  obtain⟨n,U,Z⟩:=jl h;simp only[ao,du] at Z;intro i G;rw[j4.mp G];exact Z.2.2
 |names is =>
  obtain⟨R,U,Z⟩:=jl h;exact Qv Z
def al3:(Q4 N Z).length-N.length=Z.length:=by simp[Q4]
def Ot(G:Df T nm W k c X)(h:afm c j t g sc=true) :
 Gh g.iter=true/\g.is_async=0/\Eo X (Q4 c.N (Cz g.target)) sc/\(∀C Z s H,Df T nm W k (aax c sc (Cz g.target)) (Jj X (Q4 c.N (Cz g.target)) sc C Z s H)) /\
 (∀C Z s H,PG (Jj X (Q4 c.N (Cz g.target)) sc C Z s H) g.target (tGt nm X.K t))/\(Q4 c.N (Cz g.target)).length-X.N.length=j/\∀i∈zf t,X.N.length<=i:=by
 simp only[afm,ao,du] at h;obtain⟨h2,h3,R,h5,h6⟩:=h;obtain⟨B,U⟩:=aws G h2;exact⟨h5,h6,B,U,λC Z s H=>(afn (U C Z s H) R).1,by rw[G.N,al3];exact(eq_of_beq h3).symm,λi hi=>by rw[G.N];exact acv R i hi⟩
def afo(h:aly o a x y=true):(∃l r p,a=.BoolOp o [l,r] p/\Oq l=true/\x l=true/\Oq r=true/\y r=true) \/
 ∃l r s Z p,a=.BoolOp o (l::r::s::Z) p/\Oq l=true/\x l=true/\y (.BoolOp o (r::s::Z) p)=true:=by
 obtain⟨⟨o',U,p⟩,h1,G⟩:=jl h;cases alw h1;rw[ao] at G;obtain⟨R,G⟩:=G;cases jj R;cases U with
 |nil=>cases G
 |cons l U=>cases U with
  |nil=>cases G
  |cons r Z =>
   cases Z with
   |nil =>
    have G:((Oq l&&x l)&&(Oq r&&y r))=true:=G;simp only[ao] at G;exact .inl ⟨l,r,p,rfl,G.1.1,G.1.2,G.2.1,G.2.2⟩
   |cons s Z =>
    have G:((Oq l&&x l)&&y (.BoolOp o' (r::s::Z) p))=true:=G;simp only[ao] at G;exact .inr ⟨l,r,s,Z,p,rfl,G.1.1,G.1.2,G.2⟩
def awu(R:Df T nm W k c X)(Z:awo b=some n)(hg:U8 c n=true)(e1:PA X (l::ls) (Yr nm W X.K es))(e2:wj (l::ls)=true):PE X (.Call (.Name n p) (l::ls) [] p') (tE nm W X.K (.blt b es)):=by
 obtain⟨g1,g2⟩:=Kg R hg;obtain⟨d1,d2,d3⟩:=wk g2;simp only[wj,ao] at e2;have U:=qb e2.1 ls X.env;have G:=wu (env:=X.env) (pos:=p') e2.2;have mg:n∈Kf->X.mg n=none:=R.mg;cases b with
 |len=>cases Z;exact ae1 (id := "len") a1k g1 (mg (by decide+kernel)) (by decide+kernel) e1 d3 d1 U G|max=>cases Z;exact ae1 (id := "max") (a1n R.calm) g1 (mg (by decide+kernel)) (by decide+kernel) e1 d3 d1 U G|all=>cases Z;exact ae1 (id := "all") (a1w R.calm) g1 (mg (by decide+kernel)) (by decide+kernel) e1 d3 d1 U G|min=>cases Z;exact ae1 (id := "min") (a1p R.calm) g1 (mg (by decide+kernel)) (by decide+kernel) e1 d3 d1 U G|tuple=>cases Z;exact ak8 (T := "tuple") apq g1 (mg (by decide+kernel)) (by decide+kernel) e1 d3 d1 U G|list=>cases Z;exact ak8 (T := "list") (awg R.calm) g1 (mg (by decide+kernel)) (by decide+kernel) e1 d3 d1 U G|_=>cases Z
def Ut{Z:Type}{l:List Z}(h:(!l.isEmpty)=true):∃x r,l=x::r:=by
 cases l with
 |nil=>cases h|cons x r=>exact⟨x,r,rfl⟩
set_option tactic.hygienic true in
mutual
theorem jk:∀(e:Ex){c:Ctx}{X:Cx}{a:Expr},Df T nm W k c X->yh T e c a=true->Got nm W X a e
 |.var i,c,X,a,hc,h=>by
  replace h:=jl h;obtain⟨n,Z,h⟩:=h;obtain⟨p,rfl⟩:=Eb Z;simp only[ao] at h;exact u0 (a0p (slot_of hc h.1) (awi hc h.2.1) (wk h.2.2).1 (wk h.2.2).2.1) rfl
 |.tru e,c,X,a,hc,h=>by cases h
 |.cst d,c,X,a,hc,h=>by
  obtain⟨Z,U⟩:=awt hc h;exact u0 Z U
 |.bin op x y,c,X,a,hc,h=>by
  replace h:=jl h;obtain⟨⟨l,o,r⟩,Z,h⟩:=h;obtain⟨p,rfl⟩:=aqi Z;simp only[ao,du] at h;exact u0 (a0t (a2d h.1) (jk x hc h.2.1).v (jk y hc h.2.2).v) rfl
 |.neg x,c,X,a,hc,h=>by
  replace h:=jl h;obtain⟨⟨o,l⟩,Z,h⟩:=h;obtain⟨p,rfl⟩:=acr Z;simp only[ao,du] at h;obtain⟨rfl,h⟩:=h;exact u0 (a09 (jk x hc h).v) rfl
 |.cmp op x y,c,X,a,hc,h=>by
  replace h:=jl h;obtain⟨⟨l,o,r⟩,Z,h⟩:=h;obtain⟨p,rfl⟩:=afk Z;replace h:=jl h;obtain⟨o1,U,h⟩:=h;replace h:=jl h;obtain⟨r1,R,h⟩:=h;cases Af U;cases Af R;simp only[ao,du] at h;have g:=alz (nm:=nm) hc.r8 h.1;have m:=Qs h.2.1 o1;exact⟨a01 g (jk x hc h.2.2.1).v (jk y hc h.2.2.2).v m,λ_=>a02 g (jk x hc h.2.2.1).v (jk y hc h.2.2.2).v m,λ_ _ _ z=>by cases z⟩
 |.chain o1 o2 x y z,c,X,a,hc,h=>by
  replace h:=jl h;obtain⟨⟨l,o,r⟩,Z,h⟩:=h;obtain⟨p,rfl⟩:=afk Z;dsimp only at h;split at h
  .rename_i p1 p2 r s
   simp only[ao,du] at h;have g1:=alz (nm:=nm) hc.r8 h.1.1;have g2:=alz (nm:=nm) hc.r8 h.1.2;have m:lastMarks [p1,p2] [r,s]=false:=Qs h.2.1 p2;exact⟨apk g1 g2 (jk x hc h.2.2.1).v (jk y hc h.2.2.2.1).v (jk z hc h.2.2.2.2).v m,λ_=>apl g1 g2 (jk x hc h.2.2.1).v (jk y hc h.2.2.2.1).v (jk z hc h.2.2.2.2).v m,λ_ _ _ z=>by cases z⟩
  .cases h
 |.and x y,c,X,a,hc,h=>by
  rcases afo h with⟨l,r,p,rfl,Z,U,R,h4⟩|⟨l,r,s,qk,p,rfl,Z,U,R⟩
  .have g1:=jk x hc U
   have g2:=jk y hc h4;have w:=ar3 (pos:=p) (rest:=[]) (g1.q Z) (aoo (g2.q R));exact⟨ar0 g1.v (ar9 g2.v),λ_=>w.pt,λ_ _ _ _=>w⟩
  .have g1:=jk x hc U
   have g2:=jk y hc R;have w:=ar3 (g1.q Z) (g2.w _ _ _ rfl);exact⟨ar0 g1.v g2.v,λ_=>w.pt,λ_ _ _ _=>w⟩
 |.or x y,c,X,a,hc,h=>by
  rcases afo h with⟨l,r,p,rfl,Z,U,R,h4⟩|⟨l,r,s,qk,p,rfl,Z,U,R⟩
  .have g1:=jk x hc U
   have g2:=jk y hc h4;have w:=a05 (pos:=p) (rest:=[]) (g1.q Z) (auj (g2.q R));exact⟨a03 g1.v (ar9 g2.v),λ_=>w.pt,λ_ _ _ _=>w⟩
  .have g1:=jk x hc U
   have g2:=jk y hc R;have w:=a05 (g1.q Z) (g2.w _ _ _ rfl);exact⟨a03 g1.v g2.v,λ_=>w.pt,λ_ _ _ _=>w⟩
 |.not x,c,X,a,hc,h=>by
  replace h:=jl h;obtain⟨⟨o,l⟩,Z,h⟩:=h;obtain⟨p,rfl⟩:=acr Z;simp only[ao,du] at h;obtain⟨rfl,h⟩:=h;have g:=jk x hc h.2;exact⟨a04 g.v,λ_=>a06 (g.q h.1),λ_ _ _ z=>by cases z⟩
 |.ntr x,c,X,a,hc,h=>by
  replace h:=jl h;obtain⟨⟨o,l⟩,Z,h⟩:=h;obtain⟨p,rfl⟩:=acr Z;simp only[ao,du] at h;obtain⟨rfl,U,R⟩:=h;obtain⟨z,U⟩:=j0.mp U;obtain⟨p',e⟩:=Eb U;have e:l=_:=e;subst e;have g:=(jk x hc R).v;exact⟨awe g,λ_=>awf g λ_=>rfl,λ_ _ _ z=>by cases z⟩
 |.tup es,c,X,a,hc,h=>by
  replace h:=jl h;obtain⟨l,Z,h⟩:=h;obtain⟨k0,p,rfl⟩:=Oo Z;simp only[ao,du] at h;exact u0 (a07 (Dc es hc h.2).1 h.1) rfl
 |.lst es,c,X,a,hc,h=>by
  replace h:=jl h;obtain⟨l,Z,h⟩:=h;obtain⟨p,rfl⟩:=afl Z;simp only[ao,du] at h;exact u0 (a08 (Dc es hc h.2).1 h.1) rfl
 |.Ku es,c,X,a,hc,h=>by
  replace h:=jl h;obtain⟨l,Z,h⟩:=h;obtain⟨p,rfl⟩:=afl Z;simp only[ao,du] at h;exact u0 (avs (Dc es hc h.2).1 h.1) rfl
 |.Yv,c,X,a,hc,h=>by
  replace h:=jl h;obtain⟨⟨q,l⟩,Z,h⟩:=h;obtain⟨p,rfl⟩:=aqj Z;simp only[ao,lg] at h;obtain⟨rfl,rfl⟩:=h;exact u0 av5 rfl
 |.ix x y,c,X,a,hc,h=>by
  replace h:=jl h;obtain⟨⟨l,r⟩,Z,h⟩:=h;obtain⟨p,rfl⟩:=Yl Z;simp only[ao] at h;exact u0 (a8a (aet hc.room) (jk x hc h.2.1).v (jk y hc h.2.2).v (ak0 h.1)) rfl
 |.cut x lo hi,c,X,a,hc,h=>by
  replace h:=jl h;obtain⟨⟨l,r⟩,Z,h⟩:=h;obtain⟨p,rfl⟩:=Yl Z;replace h:=jl h;obtain⟨⟨u,v,st⟩,U,h⟩:=h;obtain⟨p2,e⟩:=awm U;have e:r=_:=e;subst e;simp only[ao,Option.isNone_iff_eq_none] at h;obtain⟨rfl,h⟩:=h;exact u0 (a1o (jk x hc h.1).v (afp lo hc h.2.1) (afp hi hc h.2.2)) rfl
 |.call f es,c,X,a,hc,h=>by
  replace h:=jl h;obtain⟨⟨n,ls⟩,Z,h⟩:=h;obtain⟨p,p',rfl⟩:=Ip Z;simp only[ao] at h;obtain⟨⟨U,R,h4⟩,h5⟩:=h;obtain⟨l,ls,rfl⟩:=Ut h4;obtain⟨fa,fd,ps,F,m,kp,b⟩:=hc.tab.fn _ _ _ (jj U);obtain⟨g1,g2⟩:=Kg hc R;obtain⟨e1,e2⟩:=Dc es hc h5;simp only[wj,ao] at e2;exact u0 (s_call F (hc.room.mono x_) g1 m kp b rfl e1 (wk g2).1 (qb e2.1 _ _) (wu e2.2)) rfl
 |.make f,c,X,a,hc,h=>by
  replace h:=jl h;obtain⟨⟨n,ls⟩,Z,h⟩:=h;obtain⟨p,p',rfl⟩:=Ip Z;simp only[ao,lg] at h;obtain⟨U,R,rfl⟩:=h;obtain⟨C,fa,fd,ps,cl,M0,F,m,b,d1,d2⟩:=hc.tab.cl _ _ _ (jj U);obtain⟨g1,g2⟩:=Kg hc R;exact u0 (av3 M0 F (hc.room.mono (w_ (by decide))) g1 m b d1 rfl d2 (wk g2).1) rfl
 |.meth o m es,c,X,a,hc,h=>by
  replace h:=jl h;obtain⟨⟨lo,n,ap,ls,p⟩,h0,h⟩:=h;cases acs h0;simp only[ao,du] at h;obtain⟨⟨⟨Z,U⟩,R,h4,h7⟩,h5,h6⟩:=h;obtain⟨l,ls,rfl⟩:=Ut h7;obtain⟨C,fa,fd,ps,f,C0,Me,F,b,u,nf⟩:=hc.tab.mt _ _ _ (jj Z);obtain⟨e1,e2⟩:=Dc es hc h6;have g:=jk o hc h5;have e3:=e2;simp only[wj,ao] at e3;exact u0 (av4 (ci:=0) (cl:=⟨0,[]⟩) g.v C0 Me F (hc.room.mono x_) b u nf rfl e1 (qb e3.1 _ _) (wu e3.2) (aqh U e2 R h4)) rfl
 |.fld o f,c,X,a,hc,h=>by
  replace h:=jl h;obtain⟨⟨l,n,p⟩,Z,h⟩:=h;cases Ym Z;simp only[ao] at h;obtain⟨t1,t2⟩:=hc.tab.fl _ _ (jj h.1.1);exact u0 (a1a t1 t2 (jk o hc h.2).v (Cw h.1.2)) rfl
 |.blt b es,c,X,a,hc,h=>by
  have G:(Bb (dCN a) λq=>(decide (awo b=some q.1)&&(U8 c q.1&&!q.2.isEmpty))&&Jf T es c q.2)=true->Got nm W X a (.blt b es):=λhh=>by clear h;replace hh:=jl hh;obtain⟨⟨n,ls⟩,Z,h⟩:=hh;obtain⟨p,p',rfl⟩:=Ip Z;simp only[ao] at h;obtain⟨⟨U,R,h4⟩,h5⟩:=h;obtain⟨l,ls,rfl⟩:=Ut h4;obtain⟨e1,e2⟩:=Dc es hc h5;exact u0 (awu hc (jj U) R e1 e2) rfl
  match b,es,h,G with
  |.isBool,.cons x .nil,h,_ =>
   obtain⟨l,p,p1,p2,rfl,R,h4,h5,h6⟩:=aqm h;obtain⟨g1,g2⟩:=Kg hc R;obtain⟨g3,g4⟩:=Kg hc h4;exact u0 (ale g1 (hc.mg (by decide+kernel)) (by decide+kernel) (wk g2).2.2 (wk g2).1 g3 (hc.mg (by decide+kernel)) (by decide+kernel) (wk g4).2.2 (wk g4).1 (jk x hc h6).v (qb h5 _ _) (qb rfl _ _) (wu rfl)) rfl
  |.isBool,.nil,h,G=>exact G h|.isBool,.cons _ (.cons _ _),h,G=>exact G h|.len,_,h,G=>exact G h|.tuple,_,h,G=>exact G h|.list,_,h,G=>exact G h|.max,_,h,G=>exact G h|.min,_,h,G=>exact G h|.all,_,h,G=>exact G h|.Gx,.nil,h,G=>exact G h|.Gx,.cons _ (.cons _ _),h,G=>exact G h
  |.Gx,.cons x .nil,h,_ =>
   obtain⟨l,p,p1,p2,p3,rfl,h5,h6,h7,h8⟩:=aqn (show awq c "len" "set" a (yh T x c)=true from h);obtain⟨g1,g2⟩:=Kg hc h5;obtain⟨g3,g4⟩:=Kg hc h6;exact u0 (alm hc.r8 g1 (hc.mg (by decide+kernel)) (by decide+kernel) (wk g2).2.2 (wk g2).1 g3 (hc.mg (by decide+kernel)) (by decide+kernel) (wk g4).2.2 (wk g4).1
    (X5 (jk x hc h8).v aez (qb h7 _ _)) (qb rfl _ _) (wu rfl) (qb h7 _ _) (wu rfl)) rfl
 |.bm m o es,c,X,a,hc,h=>by
  replace h:=jl h;obtain⟨⟨lo,n,ap,ls,p⟩,h0,h⟩:=h;cases acs h0;simp only[ao,du] at h;obtain⟨⟨⟨Z,U⟩,R,h4,q0⟩,h5,h6⟩:=h;obtain⟨l,ls,rfl⟩:=Ut q0;obtain⟨e1,e2⟩:=Dc es hc h6;have e3:=e2;simp only[wj,ao] at e3;have qq:((backTo p (starEach (l::ls) X.env)).all (λx=>!x.1)&&(backToKw p (keywordEach [] X.env)).all (λx=>x.1.isSome)&&decide ((l::ls).length+([]:List Keyword).length+(if([]:List Keyword).isEmpty then 0 else 1)<30))=true:=by rw[Uq e2];simp[keywordEach,backToKw];simp at R;exact b_ R (by decide)
  have g:=jk o hc h5;cases m with
  |append=>cases Z;exact u0 (ak9 (T := "list") (id := "list.append") (fun ι H M x v S r t=>ty_list S r t) PySem.F.plainAttrs_list PySem.F.slot_list_append PySem.F.type_list_append ala g.v e1 (Cw U) qq h4 (qb e3.1 _ _) (wu e3.2)) rfl
  |extend=>cases Z;exact u0 (ak9 (T := "list") (id := "list.extend") (fun ι H M x v S r t=>ty_list S r t) PySem.F.plainAttrs_list PySem.F.slot_list_extend PySem.F.type_list_extend alb g.v e1 (Cw U) qq h4 (qb e3.1 _ _) (wu e3.2)) rfl
  |setdefault=>cases Z;exact u0 (ak9 (T := "dict") (id := "dict.setdefault") (fun ι H M x v S r t=>ty_dict S r t) PySem.F.plainAttrs_dict PySem.F.slot_dict_setdefault PySem.F.type_dict_setdefault (awb (aet hc.room)) g.v e1 (Cw U) qq h4 (qb e3.1 _ _) (wu e3.2)) rfl
  |index=>cases Z;exact u0 (ak9 (T := "list") (id := "list.index") (fun ι H M x v S r t=>ty_list S r t) PySem.F.plainAttrs_list PySem.F.slot_list_index PySem.F.type_list_index (aqe hc.r8) g.v e1 (Cw U) qq h4 (qb e3.1 _ _) (wu e3.2)) rfl
  |get=>cases Z;exact u0 (ak9 (T := "dict") (id := "dict.get") (fun ι H M x v S r t=>ty_dict S r t) PySem.F.plainAttrs_dict PySem.F.slot_dict_get PySem.F.type_dict_get (a1x (aet hc.room)) g.v e1 (Cw U) qq h4 (qb e3.1 _ _) (wu e3.2)) rfl
 |.comp v j t it e,c,X,a,hc,h=>by
  replace h:=jl h;obtain⟨⟨q5,gs,sc⟩,Z,h⟩:=h;obtain⟨p,rfl⟩:=Us Z;replace h:=jl h;obtain⟨⟨tg,qv,q6,as⟩,U,h⟩:=h;cases Af U;simp only[ao,lg] at h;obtain⟨⟨R,rfl⟩,h4,h5⟩:=h;obtain⟨q1,q2,B,hB,hg,q3,q4⟩:=Ot hc R;cases q2;exact u0 (av2 B hc.calm (Ou it hc h4) hg (λC fp s H=>(jk e (hB C fp s H) h5).v) q1 q3 q4) rfl
 |.ym v j t it i e,c,X,a,hc,h=>by
  replace h:=jl h;obtain⟨⟨q5,gs,sc⟩,Z,h⟩:=h;obtain⟨p,rfl⟩:=Us Z;replace h:=jl h;obtain⟨⟨tg,qv,q6,as⟩,U,h⟩:=h;cases Af U;replace h:=jl h;obtain⟨d,h6,h⟩:=h;cases Af h6;simp only[ao] at h;obtain⟨⟨R,h7⟩,h4,h8,h5⟩:=h;obtain⟨q1,q2,B,hB,hg,q3,q4⟩:=Ot hc R;cases q2;exact u0 (ak4 B hc.calm (Ou it hc h4) hg (λC fp s H=>(jk i (hB C fp s H) h8).q h7) (λC fp s H=>(jk e (hB C fp s H) h5).v) q1 q3 q4) rfl
theorem Dc:∀(Z:De){c:Ctx}{X:Cx}{a:Ya},Df T nm W k c X->Jf T Z c a=true->PA X a (Yr nm W X.K Z)/\wj a=true
 |.nil,c,X,a,hc,h=>by
  cases lg.mp h;exact⟨aez,rfl⟩
 |.cons e Z,c,X,a,hc,h=>by
  cases a with
  |nil=>cases h
  |cons l U =>
   replace h:(noStar l&&(yh T e c l&&Jf T Z c U))=true:=h;simp only[ao] at h;obtain⟨G,R⟩:=Dc Z hc h.2.2;exact⟨X5 (jk e hc h.2.1).v G (qb h.1 _ _),by simp only[wj,ao];exact⟨h.1,R⟩⟩
theorem afp:∀(e:OEx){c:Ctx}{X:Cx}{a:Option Expr},Df T nm W k c X->awr T e c a=true->PO X a (tO nm W X.K e)
 |.none,c,X,a,hc,h=>by
  cases Option.isNone_iff_eq_none.mp h;exact apy
 |.some e,c,X,a,hc,h=>by
  replace h:=jl h;obtain⟨l,rfl,h⟩:=h;exact apz (jk e hc h).v
theorem Ou:∀(it:Mg){c:Ctx}{X:Cx}{G a:Expr},Df T nm W k c X->aqo T it c G a=true->PI X G a (tI nm W X.K it)
 |.val e,c,X,G,a,hc,h=>a1g (jk e hc h).v
 |.Mp e,c,X,G,a,hc,h=>by
  replace h:=jl h;obtain⟨⟨n,ls⟩,U,h⟩:=h;obtain⟨p,p',rfl⟩:=Ip U;replace h:=jl h;obtain⟨l,h2,h⟩:=h;cases Af h2;simp only[ao,du] at h;obtain⟨⟨rfl,h3⟩,Z,R⟩:=h;exact a1h (Kg hc h3).1 (hc.mg (by decide+kernel)) (jk e hc R).v Z
 |.enm e,c,X,G,a,hc,h=>by
  replace h:=jl h;obtain⟨⟨n,ls⟩,U,h⟩:=h;obtain⟨p,p',rfl⟩:=Ip U;replace h:=jl h;obtain⟨l,h2,h⟩:=h;cases Af h2;simp only[ao,du] at h;obtain⟨⟨h6,rfl,h3⟩,Z,R⟩:=h;obtain⟨ts,h7⟩:=j0.mp h6;obtain⟨k0,pt,rfl⟩:=Oo h7;exact a1u (Kg hc h3).1 (hc.mg (by decide+kernel)) (jk e hc R).v Z
 |.zip es,c,X,G,a,hc,h=>by
  replace h:=jl h;obtain⟨⟨n,ls⟩,U,h⟩:=h;obtain⟨p,p',rfl⟩:=Ip U;simp only[ao,du] at h;obtain⟨⟨h6,rfl,h3,Z⟩,h7⟩:=h;obtain⟨l,ls,rfl⟩:=Ut Z;obtain⟨e1,e2⟩:=Dc es hc h7;obtain⟨ts,h9⟩:=j0.mp h6;obtain⟨k0,pt,rfl⟩:=Oo h9;simp only[wj,ao] at e2;obtain⟨f1,f2⟩:=e2;exact a1v (Kg hc h3).1 (hc.mg (by decide+kernel)) e1 (qb f1 _ _) (wu f2)
 |.vals e,c,X,G,a,hc,h=>by
  replace h:=jl h;obtain⟨⟨lo,n,ap,ls,p⟩,h0,h⟩:=h;cases acs h0;simp only[ao,du,lg] at h;obtain⟨⟨⟨rfl,h2⟩,Z,rfl⟩,R⟩:=h;exact awd (jk e hc R).v (Cw h2) Z
end
end
noncomputable def a2f(e:Ex):Option {b:Bool // (∃v j t it x,e=.comp v j t it x)\/∃v j t it i x,e=.ym v j t it i x}:=match e with|.comp ..=>some ⟨true,.inl ⟨_,_,_,_,_,rfl⟩⟩|.ym ..=>some ⟨true,.inr ⟨_,_,_,_,_,_,rfl⟩⟩|_=>none
def awv(T:Tab)(c:Ctx)(l:Lv)(e:Ex)(Z v:Expr):Bool :=
 match l with
 |.tg t=>(tgB c 0 t Z&&((Ph v&&((Ld Z).isSome||ar4 v))||(match t with|.name _=>(aav v).isSome&&(a2f e).isSome|_=>false)))&&yh T e c v
 |.sub o i=>Bb (als Z) λq=>X7 q.2&&(yh T e c v&&(yh T o c q.1&&yh T i c q.2))
 |.fld o f=>Bb (alv Z) λq=>(Ph v&&flB T.Mf f q.2.1)&&(yh T e c v&&yh T o c q.1)
noncomputable def a2g(a:Stmt):Option (List Expr×Expr):=Option.map Subtype.val (α:={q:List Expr×Expr // ∃p,a=.Assign q.1 q.2 p}) (match a with|.Assign t v p=>some ⟨(t,v),p,rfl⟩|_=>none)
noncomputable def a2h(a:Stmt):Option Expr:=Option.map Subtype.val (α:={q:Expr // ∃p,a=.Expr q p}) (match a with|.Expr v p=>some ⟨v,p,rfl⟩|_=>none)
noncomputable def a2i(a:Stmt):Option (Expr×List Stmt×List Stmt):=Option.map Subtype.val (α:={q:Expr×List Stmt×List Stmt // ∃p,a=.If q.1 q.2.1 q.2.2 p}) (match a with|.If t l r p=>some ⟨(t,l,r),p,rfl⟩|_=>none)
noncomputable def al4(a:Stmt):Option (Expr×List Stmt×List Stmt):=Option.map Subtype.val (α:={q:Expr×List Stmt×List Stmt // ∃p,a=.While q.1 q.2.1 q.2.2 p}) (match a with|.While t l r p=>some ⟨(t,l,r),p,rfl⟩|_=>none)
noncomputable def a2j(a:Stmt):Option (Expr×Expr×List Stmt×List Stmt):=Option.map Subtype.val (α:={q:Expr×Expr×List Stmt×List Stmt // ∃p,a=.For q.1 q.2.1 q.2.2.1 q.2.2.2 p}) (match a with|.For t i l r p=>some ⟨(t,i,l,r),p,rfl⟩|_=>none)
noncomputable def a2k(a:Stmt):Option (Option Expr):=Option.map Subtype.val (α:={q:Option Expr // ∃p,a=.Return q p}) (match a with|.Return v p=>some ⟨v,p,rfl⟩|_=>none)
def aqp(h:a2g a=some (t,v)):∃p,a=.Assign t v p:=(Wd h :)
def aqq(h:a2h a=some v):∃p,a=.Expr v p:=(Wd h :)
def aqr(h:a2i a=some (t,l,r)):∃p,a=.If t l r p:=(Wd h :)
def afq(h:al4 a=some (t,l,r)):∃p,a=.While t l r p:=(Wd h :)
def aqs(h:a2j a=some (t,i,l,r)):∃p,a=.For t i l r p:=(Wd h :)
def aqt(h:a2k a=some v):∃p,a=.Return v p:=(Wd h :)
mutual
def aww(T:Tab):zx->Ctx->Stmt->Bool
 |.asg l e,c,a=>Bb (a2g a) λq=>Bb (Ur q.1) λt=>awv T c l e t q.2
 |.expr e,c,a=>Bb (a2h a) λv=>Ph v&&yh T e c v
 |.iff t x y,c,a=>Bb (a2i a) λq=>Oq q.1&&(yh T t c q.1&&(Lg T x c q.2.1&&Lg T y c q.2.2))
 |.whl (.tru y) x,c,a=>Bb (al4 a) λq=>((Ld q.1).isSome&&q.2.2.isEmpty)&&(yh T y c q.1&&Lg T x c q.2.1)
 |.whl t x,c,a=>Bb (al4 a) λq=>(Oq q.1&&q.2.2.isEmpty)&&(yh T t c q.1&&Lg T x c q.2.1)
 |.for_ t it x,c,a=>Bb (a2j a) λq=>(tgB c 0 t q.1&&(Gh q.2.1&&q.2.2.2.isEmpty))&&(aqo T it c q.1 q.2.1&&Lg T x c q.2.2.1)
 |.ret e,c,a=>Bb (a2k a) λv=>Bb v (yh T e c)
 |.raise,_,_=>true
def Lg(T:Tab):j8->Ctx->List Stmt->Bool
 |.nil,_,a=>a.isEmpty|.cons s r,c,a=>match a with|st::rest=>aww T s c st&&Lg T r c rest|_=>false
end
noncomputable def swB(c:Ctx)(t:Str)(pt G:Pos)(Z:Scope):Bool:=(c.sc.lookup t==some NameKind.local&&pt.line==G.line)&&!(Z.names.any λy=>y.1==t&&(y.2==.local||y.2==.cell))
def acw(Z:Df T nm W k c X):swapsWith (.ListComp elt gs sc vp) (some (.Name t pt)) l X.env=pure (swB c t pt vp sc):=by
 have b:X.env.blockKind=.function:=by unfold Env.blockKind;rw[Z.kd];rfl
 show(pure (X.env.blockKind==.function&&X.env.kindOf t==some .local&&pt.line==vp.line&&!(sc.names.any λ(n,k)=>n==t&&(k==.local||k==.cell))):Sem Bool)=_;rw[b];unfold Env.kindOf;rw[Z.sc];simp[swB]
def al5(Z:Df T nm W k c X)(ht:tgB c 0 (.name i) tg=true)(hv:(aav v).isSome=true)(hw:(a2f e).isSome=true)(h:yh T e c v=true):PS X (.Assign [tg] v p) (tS nm W X.K (.asg (.tg (.name i)) e)):=by
 have nd:X.N.Nodup:=by rw[Z.N];exact Z.nd
 obtain⟨⟨U,gs,sc⟩,hq⟩:=j0.mp hv;obtain⟨y,py,rfl,hy,_⟩:=acu (nm:=nm) (W:=W) (k:=k) (T:=T) Z ht;obtain⟨⟨_,co⟩,_⟩:=j0.mp hw;obtain⟨vp,rfl⟩:=Us hq;have G:=λl=>acw (T:=T) (nm:=nm) (W:=W) (k:=k) Z (elt:=U) (gs:=gs) (sc:=sc) (vp:=vp) (pt:=py) (t:=y) (l:=l)
 cases hs:swB c y py vp sc with
 |false =>
  rw[hs] at G;exact ak1 (jk e Z h).v (afn Z ht).1 (G p.line) rfl rfl
 |true =>
  rw[hs] at G;simp only[swB,ao] at hs;have hl:X.env.scope.names.lookup y=some .local:=by rw[Z.sc];have:=hs.1.1;simpa using this
  rcases co with⟨v,j,t,it,x,rfl⟩|⟨v,j,t,it,i',x,rfl⟩
  .replace h:=jl h
   obtain⟨⟨qk,qv,q0⟩,h1,h⟩:=h;cases h1;replace h:=jl h;obtain⟨⟨tg,qq,q5,as⟩,h2,h⟩:=h;cases Af h2;simp only[ao,lg] at h;obtain⟨⟨h3,rfl⟩,h4,h5⟩:=h;obtain⟨q1,q2,B,hB,hg,q3,q4⟩:=Ot Z h3;cases q2;exact ag3 B Z.calm (Ou it Z h4) hg (λC R s H=>(jk x (hB C R s H) h5).v) q1 q3 q4 nd hy hl (G p.line)
  .replace h:=jl h
   obtain⟨⟨qk,qv,q0⟩,h1,h⟩:=h;cases h1;replace h:=jl h;obtain⟨⟨tg,qq,q5,as⟩,h2,h⟩:=h;cases Af h2;replace h:=jl h;obtain⟨d,h6,h⟩:=h;cases Af h6;simp only[ao] at h;obtain⟨⟨h3,h7⟩,h4,h8,h5⟩:=h;obtain⟨q1,q2,B,hB,hg,q3,q4⟩:=Ot Z h3;cases q2;exact aag B Z.calm (Ou it Z h4) hg (λC R s H=>(jk i' (hB C R s H) h8).q h7) (λC R s H=>(jk x (hB C R s H) h5).v) q1 q3 q4 nd hy hl (G p.line)
section
variable{T:Tab}{nm:Nm}{W:Kv}{k:Nat}
def aqu(G:Df T nm W k c X)(h:awv T c l e tg v=true):PS X (.Assign [tg] v p) (tS nm W X.K (.asg l e)):=by
 cases l with
 |tg t =>
  simp only[awv,ao,Bool.or_eq_true] at h;obtain⟨⟨h1,h2⟩,U⟩:=h;rcases h2 with⟨Z,R⟩|Z
  .have g:=afn (nm:=nm) G h1
   have sh:(∃n q,tg=.Name n q)\/∃ts k0 q,tg=.Tuple ts k0 q:=by
    cases t with
    |name i =>
     obtain⟨n,z1,_⟩:=jl h1;exact .inl ⟨n,Eb z1⟩
    |names is =>
     obtain⟨ts,z1,_⟩:=jl h1;exact .inr ⟨ts,Oo z1⟩
   rcases sh with⟨n,q,rfl⟩|⟨ts,k0,q,rfl⟩
   .exact ak1 (jk e G U).v g.1 (Ui Z _ _ _) rfl rfl
   .have w:ar4 v=true:=by
     rcases R with R|R
     .cases R
     .exact R
    have w2:swappedStores [.Tuple ts k0 q] v X.env=pure none:=by cases v<;>first|rfl|(cases w;done)
    exact ak1 (jk e G U).v g.1 (Ui Z _ _ _) w2 rfl
  .cases t with
   |name i=>rw[ao] at Z;exact al5 G h1 Z.1 Z.2 U|names _=>cases Z
 |sub o i =>
  replace h:=jl (show Bb (als tg) _=true from h);obtain⟨⟨lo,li⟩,h0,h⟩:=h;obtain⟨p',rfl⟩:=Yl h0;simp only[ao] at h;obtain⟨h2,U,Z,R⟩:=h;refine ak6 (aet G.room) (jk e G U).v (jk o G Z).v (jk i G R).v λv=>?_
  cases li<;>first|rfl|(cases h2;done)
 |fld o f =>
  replace h:=jl (show Bb (alv tg) _=true from h);obtain⟨⟨lo,n,p'⟩,h0,h⟩:=h;cases Ym h0;simp only[ao] at h;obtain⟨⟨h1,h2⟩,U,Z⟩:=h;obtain⟨t1,t2⟩:=G.tab.fl _ _ (jj h2);exact ak7 t1 t2 (jk e G U).v (jk o G Z).v h1
mutual
theorem aqv:∀(s:zx){c:Ctx}{X:Cx}{a:Stmt},Df T nm W k c X->c.fn=true->aww T s c a=true->PS X a (tS nm W X.K s)
 |.asg l e,c,X,a,hc,hf,h=>by
  replace h:=jl h;obtain⟨⟨ts,v⟩,Z,h⟩:=h;obtain⟨p,rfl⟩:=aqp Z;replace h:=jl h;obtain⟨t,G,h⟩:=h;cases Af G;exact aqu hc h
 |.expr e,c,X,a,hc,hf,h=>by
  replace h:=jl h;obtain⟨v,Z,h⟩:=h;obtain⟨p,rfl⟩:=aqq Z;simp only[ao] at h;exact avx (jk e hc h.2).v (Kd h.1 _ _ _)
 |.iff t x y,c,X,a,hc,hf,h=>by
  replace h:=jl h;obtain⟨⟨q,l,r⟩,Z,h⟩:=h;obtain⟨p,rfl⟩:=aqr Z;simp only[ao] at h;exact a1d ((jk t hc h.2.1).q h.1) (Ge x hc hf h.2.2.1) (Ge y hc hf h.2.2.2)
 |.whl t x,c,X,a,hc,hf,h=>by
  by_cases ht:∃y,t=.tru y
  .obtain⟨y,rfl⟩:=ht
   replace h:=jl (show Bb (al4 a) _=true from h);obtain⟨⟨q,l,r⟩,Z,h⟩:=h;obtain⟨p,rfl⟩:=afq Z;simp only[ao,lg] at h;obtain⟨⟨G,rfl⟩,U,R⟩:=h;obtain⟨z,G⟩:=j0.mp G;obtain⟨p',rfl⟩:=Eb G;exact ar5 (hc.fnl hf).2 (asb (jk y hc U).v λ_=>rfl) (Ge x hc hf R)
  replace h:Bb (al4 a) (λq=>(Oq q.1&&q.2.2.isEmpty)&&(yh T t c q.1&&Lg T x c q.2.1))=true:=by cases t<;>first|exact h|exact absurd ⟨_,rfl⟩ ht
  replace h:=jl h;obtain⟨⟨q,l,r⟩,Z,h⟩:=h;obtain⟨p,rfl⟩:=afq Z;simp only[ao,lg] at h;obtain⟨⟨G,rfl⟩,U,R⟩:=h;exact ar5 (hc.fnl hf).2 ((jk t hc U).q G) (Ge x hc hf R)
 |.for_ t it x,c,X,a,hc,hf,h=>by
  replace h:=jl h;obtain⟨⟨tg,qq,l,r⟩,Z,h⟩:=h;obtain⟨p,rfl⟩:=aqs Z;simp only[ao,lg] at h;obtain⟨⟨G,U,rfl⟩,R,h5⟩:=h;exact a1f (hc.fnl hf).2 hc.calm (Ou it hc R) (afn hc G).1 (Ge x hc hf h5) U
 |.ret e,c,X,a,hc,hf,h=>by
  replace h:=jl h;obtain⟨v,Z,h⟩:=h;obtain⟨p,rfl⟩:=aqt Z;replace h:=jl h;obtain⟨w,rfl,h⟩:=h;exact a1c (jk e hc h).v
 |.raise,c,X,a,hc,hf,h=>aqb
theorem Ge:∀(s:j8){c:Ctx}{X:Cx}{a:List Stmt},Df T nm W k c X->c.fn=true->Lg T s c a=true->Oc X a (tSs nm W X.K s)
 |.nil,c,X,a,hc,hf,h=>by
  cases lg.mp h;exact avy
 |.cons s r,c,X,a,hc,hf,h=>by
  cases a with
  |nil=>cases h
  |cons G Z =>
   replace h:(aww T s c G&&Lg T r c Z)=true:=h;simp only[ao] at h;exact apn (aqv s hc hf h.1) (Ge r hc hf h.2)
end
end
structure Def where
 x:Str
 qual:Str
 N:List Str
 ps:List Str
def scB(N ps:Yf)(Z:Scope):Bool :=
 (decide (Z.kind=.function)&&(!Z.isCoroutine&&!Z.isGenerator))&&((decide N.Nodup&&decide (N.take ps.length=ps)) &&
 (ps.all (λx=>Z.names.lookup x==some .local||Z.names.lookup x==some .cell)&&Z.names.all (λy=>!(y.2==NameKind.free))))
def awx(h:scB N ps sc=true):Rh N ps sc:=by simp only[scB,ao,du,Bool.not_eq_true',iw] at h;obtain⟨⟨U,h2,G⟩,⟨R,h5⟩,Z,h7⟩:=h;exact⟨U,h2,G,R,h5,λx m=>by have:=Z x m;simpa using this,λy m=>by have:=h7 y m;simpa using this⟩
def ahe(T:Tab)(d:Def)(F:MW.Fn)(Z:Stmt):Bool :=
 (scB d.N d.ps (yg Z)&&(decide (F.np=d.ps.length)&&decide (F.ns=d.N.length)))&&Lg T F.body ⟨d.N,(yg Z).names,true⟩ (Dq Z)
set_option tactic.hygienic true in
def aqw{F:MW.Fn}(h:F.run W ds M=.ok d J):ds.length=F.np/\∃Y Z,F.body.den W (ds.map some++List.replicate (F.ns-F.np) none) M=.ok (Y,Z) J/\(Y=.ret d\/(Y=.next/\d=.non)):=by
 unfold MW.Fn.run at h;split at h
 .rename_i U
  obtain⟨⟨Y,Z⟩,C,G,e⟩:=dz h;refine⟨U,Y,Z,?_⟩;cases Y with
  |ret z=>cases e;exact⟨G,.inl rfl⟩|next=>cases e;exact⟨G,.inr ⟨rfl,rfl⟩⟩|brk=>cases e|cont=>cases e
 .cases h
def awy{Z:MW.Prog}(U:Fun K d.x d.qual st f fd)(hF:Z.fns[i]?=some F)(h:ahe T d F st=true)(hT:alq T nm ⟨Z.call n,Z.cls⟩ k P w K mg base):Ei P w K mg base Yq (k+17) f fd d.ps (spF nm ⟨Z.call (n+1),Z.cls⟩ K F.np i):=by
 simp only[ahe,ao,du] at h;obtain⟨⟨h1,h2,h3⟩,h4⟩:=h;have S:=awx h1;have go:∀R M d' M',MW.Kv.call ⟨Z.call (n+1),Z.cls⟩ i R M=.ok d' M'->F.run ⟨Z.call n,Z.cls⟩ R M=.ok d' M':=λR M d' M' e=>by have e:Z.call (n+1) i R M=.ok d' M':=e;unfold MW.Prog.call at e;rw[hF] at e;exact e
 refine U.ok (k:=k+16) S (λvs H Q E ⟨ι,M,R,d',M',_,r,l,e,_⟩=>by rw[<- r.length,l,h2]) (λqv A G s H vs Q E hr z_=>?_);obtain⟨ι,M,R,d',M',SM,r,l,e,q⟩:=z_;have hc:Df T nm ⟨Z.call n,Z.cls⟩ k ⟨d.N,(yg st).names,true⟩ (ab9 Yq P w K mg base d.N d.qual (yg st) f qv A G s H E).nox :=
  ⟨rfl,S.nd,rfl,S.kind,rfl,hr,λ_=>⟨λ_=>rfl,PassesOwn.never⟩,hT⟩
 refine⟨_,Ge F.body hc rfl h4,?_⟩;obtain⟨hl,fl,qk,e1,e2⟩:=aqw (go _ _ _ _ e);refine⟨ι,_,M,fl,qk,M',SM,?_,e1,λqq H' q0 le S' R'=>?_⟩
 .unfold L2.start
  exact(qe.aky r).append (qe.akx _ (by rw[List.length_replicate,h3,<- r.length,l]))
 .rcases e2 with rfl|⟨rfl,rfl⟩
  .exact λv rv=>q qq H' v le S' rv
  .exact q qq H' _ le S' .non
theorem afr{nm:Nm}{P:Program}{w:World}{K:Fg}{mg:Zs}{base:Heap}{IR:MW.Prog}{T:Tab}{D:Nat->Def}{st:Nat->Stmt}{fa:Nat->Addr}{fd:Nat->FuncData}
 (U:∀i,i<IR.fns.length->Fun K (D i).x (D i).qual (st i) (fa i) (fd i)) (h:∀i F,IR.fns[i]?=some F->ahe T (D i) F (st i)=true)
 (R:∀n,(∀i F,IR.fns[i]?=some F->Ei P w K mg base Yq (17*n) (fa i) (fd i) (D i).ps (spF nm ⟨IR.call n,IR.cls⟩ K F.np i))->alq T nm ⟨IR.call n,IR.cls⟩ (17*n) P w K mg base) :
 ∀n i F,IR.fns[i]?=some F->Ei P w K mg base Yq (17*n) (fa i) (fd i) (D i).ps (spF nm ⟨IR.call n,IR.cls⟩ K F.np i)
 |0,i,F,hF=>⟨(λvs H Q E ⟨ι,M,ds,d',M',_,r,l,e,_⟩=>by cases e),λA Z s H G us vs Q E hr he hb hv ⟨ι,M,ds,d',M',_,r,l,e,_⟩=>by cases e⟩
 |n+1,i,F,hF=>awy (U i (ak.mp hF).1) hF (h i F hF) (R n (afr U h R n))
noncomputable def awz(s:Str):Bool:=s.cps[0]?==some 0
def al6(Z:Yf):Bool:=decide Z.Nodup&&Z.all λs=>!awz s
noncomputable def aay(Z:Yf)(i:Nat):Str:=match Z[i]? with|some s=>s|none=>⟨#[0,0,i]⟩
def al7(h:al6 Mf=true)(i j:Nat)(e:aay Mf i=aay Mf j):i=j:=by
 simp only[al6,ao,du,iw] at h;have Z:∀k,awz ⟨#[0,0,k]⟩=true:=λk=>rfl
 unfold aay at e;cases hi:Mf[i]? with
 |some a =>
  rw[hi] at e;cases hj:Mf[j]? with
  |some b =>
   rw[hj] at e;have e:a=b:=e;subst e;obtain⟨R,G⟩:=ak.mp hi;obtain⟨l2,U⟩:=ak.mp hj;exact(wy h.1).mp (G.trans U.symm)
  |none =>
   rw[hj] at e;have e:a=⟨#[0,0,j]⟩:=e;have:=h.2 a (az hi);rw[e,Z] at this;cases this
 |none =>
  rw[hi] at e;cases hj:Mf[j]? with
  |some b =>
   rw[hj] at e;have e:(⟨#[0,0,i]⟩:Str)=b:=e;have:=h.2 b (az hj);rw[<- e,Z] at this;cases this
  |none =>
   rw[hj] at e;have e:(⟨#[0,0,i]⟩:Str)=⟨#[0,0,j]⟩:=e;simpa using e
def aw0(Z:List (Option Addr))(G:Yf)(h:al6 G=true):Nm:=⟨λc=>(Z[c]?).join,aay G,al7 h⟩
def al8(Z:Yf)(x:Str):Bool:=!(Z.contains x)&&!awz x
def al9(h:al8 Mf x=true)(i:Nat):aay Mf i≠x:=λe=>by
 simp only[al8,ao,Bool.not_eq_true'] at h;unfold aay at e;cases hi:Mf[i]? with
 |some a =>
  rw[hi] at e;have e:a=x:=e;rw[<- e] at h;have:=List.contains_iff_mem.mpr (az hi);rw[this] at h;cases h.1
 |none =>
  rw[hi] at e;have e:(⟨#[0,0,i]⟩:Str)=x:=e;rw[<- e] at h;cases h.2
section
variable(K:Fg)(mg:Zs)
def Yn:List Def->List Stmt->List Addr->List FuncData->Prop
 |d::ds,s::ss,a::as,f::fs=>(Fun K d.x d.qual s a f/\Binds K f d.ps [])/\Yn ds ss as fs|[],[],[],[]=>True|_,_,_,_=>False
def Pk:List (Option (Str×Nat))->List Addr->Prop
 |some p::r,a::as=>mg p.1=some (.ref a)/\Pk r as|none::r,_::as=>Pk r as|_,_=>True
def aaz(C:Addr)(Z:List (Str×Nat))(G:X1):List (Nat×Nat)->Prop
 |q::r=>(∃p a,Z[q.1]?=some p/\G[q.2]?=some a/\Meth K C p.1 a)/\aaz C Z G r|[]=>True
def Yo(C:Addr):List Str->Prop
 |x::r=>Eh K C x/\Yo C r|[]=>True
structure ClF(T:Tab)(Ji:X1)(x:Str)(C:Addr)(cl:MW.Cl):Prop where
 mg:mg x=some (.ref C)
 cs:Cls K C
 ini:∃f,Ji[cl.init]?=some f/\Mk K C f
 me:aaz K C T.mts Ji cl.meths
 na:Yo K C T.Mf
def Kh(T:Tab)(Z:X1):List (Option (Str×Nat))->List (Option Addr)->List MW.Cl->Prop
 |some p::r,some C::cs,cl::cls=>ClF K mg T Z p.1 C cl/\Kh T Z r cs cls|none::r,none::cs,_::cls=>Kh T Z r cs cls|[],[],[]=>True|_,_,_=>False
def Yp:List (Str×Int)->Prop
 |p::r=>(∃t,mg p.1=some (.int p.2 t))/\Yp r|[]=>True
def AllB:List Str->Prop
 |x::r=>mg x=none/\AllB r|[]=>True
end
theorem Yn.get{K:Fg}:∀{Z:List Def}{G:List Stmt}{as:X1}{fs:List FuncData}{i:Nat}{d:Def},Yn K Z G as fs->Z[i]?=some d->∃s a f,G[i]?=some s/\as[i]?=some a/\fs[i]?=some f/\Fun K d.x d.qual s a f/\Binds K f d.ps []
 |d::Z,s::G,a::as,f::fs,0,d',h,e=>by cases e;exact⟨s,a,f,rfl,rfl,rfl,h.1⟩
 |d::Z,s::G,a::as,f::fs,i+1,d',h,e=>by
  obtain⟨R,U,f',h1,h2,h3,h4⟩:=Yn.get (i:=i) h.2 (by simpa using e);exact⟨R,U,f',by simpa using h1,by simpa using h2,by simpa using h3,h4⟩
theorem Pk.get{mg:Zs}:∀{l:List (Option (Str×Nat))}{as:X1}{i:Nat}{p:Str×Nat}{a:Addr},Pk mg l as->l[i]?=some (some p)->as[i]?=some a->mg p.1=some (.ref a)
 |some q::l,b::as,0,p,a,h,e,e2=>by cases e;cases e2;exact h.1|none::l,b::as,0,p,a,h,e,e2=>by cases e|some q::l,b::as,i+1,p,a,h,e,e2=>Pk.get (i:=i) h.2 (by simpa using e) (by simpa using e2)|none::l,b::as,i+1,p,a,h,e,e2=>Pk.get (i:=i) (l:=l) (as:=as) h (by simpa using e) (by simpa using e2)
theorem aaz.get{K:Fg}{C:Addr}{Z:List (Str×Nat)}{G:X1}:∀{l:List (Nat×Nat)}{q:Nat×Nat},aaz K C Z G l->q∈l->∃p a,Z[q.1]?=some p/\G[q.2]?=some a/\Meth K C p.1 a
 |q'::l,q,h,m=>by
  rcases cj.mp m with z|z
  .rw[z];exact h.1
  .exact aaz.get h.2 z
theorem Yo.get{K:Fg}{C:Addr}:∀{l:Yf}{x:Str},Yo K C l->x∈l->Eh K C x
 |y::l,x,h,m=>by
  rcases cj.mp m with z|z
  .rw[z];exact h.1
  .exact Yo.get h.2 z
theorem Kh.get{K:Fg}{mg:Zs}{T:Tab}{Ji:X1}:∀{l:List (Option (Str×Nat))}{cs:List (Option Addr)}{cls:List MW.Cl}{c:Nat}{p:Str×Nat},Kh K mg T Ji l cs cls->l[c]?=some (some p)->∃C G,cs[c]?=some (some C)/\cls[c]?=some G/\ClF K mg T Ji p.1 C G
 |some q::l,some C::cs,G::cls,0,p,h,e=>by cases e;exact⟨C,G,rfl,rfl,h.1⟩
 |some q::l,some C::cs,G::cls,c+1,p,h,e=>by
  obtain⟨U,Z,R,h2,h3⟩:=Kh.get (c:=c) h.2 (by simpa using e);exact⟨U,Z,by simpa using R,by simpa using h2,h3⟩
 |none::l,none::cs,G::cls,0,p,h,e=>by cases e
 |none::l,none::cs,G::cls,c+1,p,h,e=>by
  obtain⟨U,Z,R,h2,h3⟩:=Kh.get (l:=l) (cs:=cs) (cls:=cls) (c:=c) h (by simpa using e);exact⟨U,Z,by simpa using R,by simpa using h2,h3⟩
theorem Kh.at{K:Fg}{mg:Zs}{T:Tab}{Z:X1}:∀{l:List (Option (Str×Nat))}{cs:List (Option Addr)}{cls:List MW.Cl}{c:Nat}{C:Addr},Kh K mg T Z l cs cls->cs[c]?=some (some C)->Cls K C/\Yo K C T.Mf
 |some q::l,some C::cs,cl::cls,0,p,h,e=>by cases e;exact⟨h.1.cs,h.1.na⟩|some q::l,some C::cs,cl::cls,c+1,p,h,e=>Kh.at (c:=c) h.2 (by simpa using e)|none::l,none::cs,cl::cls,0,p,h,e=>by cases e|[],[],_,_,_,_,e=>by simp at e|[],_::_,[],_,_,h,_=>h.elim|[],_::_,_::_,_,_,h,_=>h.elim|none::l,none::cs,cl::cls,c+1,p,h,e=>Kh.at (l:=l) (cs:=cs) (cls:=cls) (c:=c) h (by simpa using e)
theorem Yp.get{mg:Zs}:∀{l:List (Str×Int)}{x:Str}{i:Int},Yp mg l->(x,i)∈l->∃t,mg x=some (.int i t)
 |q::l,x,i,h,m=>by
  rcases cj.mp m with z|z
  .rw[<- z] at h;exact h.1
  .exact Yp.get h.2 z
theorem AllB.get{mg:Zs}:∀{l:Yf}{x:Str},AllB mg l->x∈l->mg x=none
 |q::l,x,h,m=>by
  rcases cj.mp m with z|z
  .rw[z];exact h.1
  .exact AllB.get h.2 z
def aqx(T:Tab):List MW.Fn->List Def->List Stmt->Bool
 |F::Fs,d::ds,s::ss=>ahe T d F s&&aqx T Fs ds ss|[],[],[]=>true|_,_,_=>false
noncomputable def npB(Z:List MW.Fn)(f n:Nat):Bool:=match Z[f]? with|some F=>F.np==n|none=>false
def tfB(Z:List MW.Fn)(l:List (Option (Str×Nat))):Bool:=l.zipIdx.all λq=>match q.1 with|some p=>npB Z q.2 p.2|none=>true
def tcB(Z:MW.Prog)(l:List (Option (Str×Nat))):Bool:=l.zipIdx.all λq=>match q.1 with|some p=>(match Z.cls[q.2]? with|some G=>npB Z.fns G.init (p.2+1)|none=>false)|none=>true
noncomputable def a8x(Z:List MW.Cl)(m c f:Nat):Bool:=Z.zipIdx.all λq=>match q.1.meths.lookup m with|none=>true|some g=>q.2==c&&g==f
def tmB(G:MW.Prog)(T:Tab)(mcs:List (Nat×Nat)):Bool:=T.mts.zipIdx.all λq=>match mcs[q.2]? with
 |some Z=>(a8x G.cls q.2 Z.1 Z.2&&(npB G.fns Z.2 (q.1.2+1)&&al8 T.Mf q.1.1))&&((match T.cls[Z.1]? with|some (some _)=>true|_=>false)&&(match G.cls[Z.1]? with|some U=>U.meths.lookup q.2==some Z.2|none=>false))
 |none=>false
def Ir{Z:Type}{l:List Z}{g:Z×Nat->Bool}(h:l.zipIdx.all g=true){x:Z}(e:l[i]?=some x):g (x,i)=true:=by rw[iw] at h;exact h (x,i) (by rw[mq];exact⟨i,by rw[uy,e];simp⟩)
set_option tactic.hygienic true in
def acx(h:npB fns f n=true):∃F,fns[f]?=some F/\F.np=n:=by
 unfold npB at h;split at h
 .rename_i F e;exact⟨F,e,eq_of_beq h⟩
 .cases h
theorem Uu{T:Tab}:∀{G:List MW.Fn}{Z:List Def}{U:List Stmt}{i:Nat}{F:MW.Fn},aqx T G Z U=true->G[i]?=some F->∃d s,Z[i]?=some d/\U[i]?=some s/\ahe T d F s=true
 |F::G,d::Z,s::U,0,F',h,e=>by
  replace h:=Bool.and_eq_true_iff.mp h;cases e;exact⟨d,s,rfl,rfl,h.1⟩
 |F::G,d::Z,s::U,i+1,F',h,e=>by
  replace h:=Bool.and_eq_true_iff.mp h;obtain⟨R,s',h1,h2,h3⟩:=Uu (i:=i) h.2 (by simpa using e);exact⟨R,s',by simpa using h1,by simpa using h2,h3⟩
 |[],_,_,_,_,_,e=>by simp at e|_::_,[],_,_,_,h,_=>by cases h|_::_,_::_,[],_,_,h,_=>by cases h
set_option tactic.hygienic true in
def abw(qq:al6 T.Mf=true)(hP:aqx T IR.fns Ds ss=true)(h1:tfB IR.fns T.fns=true)(h2:tcB IR T.cls=true)(h3:tmB IR T mcs=true)(aF:Yn K Ds ss U fds)(aG:Pk mg T.fns U)(aC:Kh K mg T U T.cls cas IR.cls)(aV:Yp mg T.aqg)(aB:AllB mg Kf)(hF:IR.fns[i]?=some F) :
 ∃d a f,Ds[i]?=some d/\U[i]?=some a/\fds[i]?=some f/\Binds K f d.ps []/\Ei P w K mg base Yq (17*n) a f d.ps (spF (aw0 cas T.Mf qq) ⟨IR.call n,IR.cls⟩ K F.np i):=by
 let dd:Def:=⟨Str.empty,Str.empty,[],[]⟩
 let sd:Stmt:=.Pass ⟨0,0,0,0⟩
 obtain⟨d,s,g1,g2,g3⟩:=Uu hP hF;have all:∀(i:Nat)(F:MW.Fn),IR.fns[i]?=some F->∃d s a f,Ds[i]?=some d/\ss[i]?=some s/\U[i]?=some a/\fds[i]?=some f/\Fun K d.x d.qual s a f/\Binds K f d.ps []/\ahe T d F s=true:=λi F e=>by
  refine hG λ_ _k=>?_
  obtain⟨d,s,g1,g2,g3⟩:=Uu hP e;obtain⟨s',a,f,Z,S,Y,R,k5⟩:=aF.get g1;rw[g2] at Z;cases Z;apply _k;exact⟨d,s,a,f,g1,g2,S,Y,R,k5,g3⟩
 have df:∀{j:Nat}{a:Addr}{f:FuncData}{d:Def},U[j]?=some a->fds[j]?=some f->Ds[j]?=some d->(U[j]?).getD 0=a/\Ds[j]?.getD dd=d:=λJ L e3=>⟨by rw[J];rfl,by rw[e3];rfl⟩
 obtain⟨qk,q6⟩:∃qk:FuncData,True:=by obtain⟨s',a,f,_⟩:=aF.get g1;exact⟨f,trivial⟩
 have qv:=afr (nm:=aw0 cas T.Mf qq) (P:=P) (w:=w) (K:=K) (mg:=mg) (base:=base) (IR:=IR) (T:=T) (D:=λi=>Ds[i]?.getD dd) (st:=λi=>ss[i]?.getD sd) (fa:=λi=>(U[i]?).getD 0) (fd:=λi=>(fds[i]?).getD qk)
  (λi hi=>by
   refine hG λ_ _k=>?_
   obtain⟨d,s,a,f,Z,S,Y,R,k5,k6,k7⟩:=all i IR.fns[i] (by simp[hi]);apply _k;rw[Z,S,Y,R];exact k5)
  (λi F e=>by
   refine hG λ_ _k=>?_
   obtain⟨d,s,a,f,Z,S,Y,R,k5,k6,k7⟩:=all i F e;apply _k;rw[Z,S];exact k7)
  (λn G=>?_) n i F hF
 .refine hG λ_ _k=>?_
  obtain⟨d',s',a,f,Z,S,Y,R,k5,k6,k7⟩:=all i F hF;apply _k;refine⟨d',a,f,Z,Y,R,k6,?_⟩;have:=qv;rw[Z,Y,R] at this;exact this
 ·
  have at_:∀{j:Nat}{F:MW.Fn}{a:Addr},IR.fns[j]?=some F->U[j]?=some a->∃(f:FuncData)(d:Def),Binds K f d.ps []/\Ei P w K mg base Yq (17*n) a f d.ps (spF (aw0 cas T.Mf qq) ⟨IR.call n,IR.cls⟩ K F.np j)/\PySem.W.keepIn K (.ref a)=true:=fun{j F a} J L=>by
   refine hG λ_ _k=>?_
   obtain⟨d,s,a',f,Z,S,Y,R,k5,k6,k7⟩:=all j F J;rw[L] at Y;cases Y;have g:=G j F J;rw[Z,L,R] at g;apply _k;exact⟨f,d,k6,g,k5.kp⟩
  have addr:∀{j:Nat}{F:MW.Fn},IR.fns[j]?=some F->∃a,U[j]?=some a:=fun{j F} e=>by
   refine hG λ_ _k=>?_
   obtain⟨d,s,a',f,Z,S,Y,_⟩:=all j F e;apply _k;exact⟨a',Y⟩
  refine⟨λf x m e=>?_,λc x m e=>?_,λm x j e=>?_,λf x e=>?_,λx i m=>aV.get m,λx m=>aB.get m⟩
  .refine hG λ_ _k=>?_
   obtain⟨F,J,L⟩:=acx (Ir h1 e);obtain⟨a,e3⟩:=addr J;obtain⟨fd,d,b,g,kp⟩:=at_ J e3;rw[L] at g;apply _k;exact⟨a,fd,d.ps,g,aG.get e e3,kp,b⟩
  .refine hG λ_ _k=>?_
   obtain⟨C,cl,q1,q2,q3⟩:=aC.get e;have z:=Ir h2 e;simp only[q2] at z;obtain⟨F,J,L⟩:=acx z;obtain⟨f,f1,f2⟩:=q3.ini;obtain⟨fd,d,b,g,kp⟩:=at_ J f1;rw[L] at g;apply _k;exact⟨C,f,fd,d.ps,cl,f2,g,q3.mg,b,q2,by show(cas[c]?).join=some C;rw[q1];rfl⟩
  .have z:=Ir h3 e
   simp only at z;split at z
   .rename_i cf q7
    simp only[ao] at z;refine hG λ_ _k=>?_
    obtain⟨⟨z1,z2,z3⟩,z4,z5⟩:=z;obtain⟨F,J,L⟩:=acx z2;apply _k;split at z4
    .rename_i p hp
     refine hG λ_ _k=>?_
     obtain⟨C,cl,q1,q2,q3⟩:=aC.get hp;rw[q2] at z5;simp only at z5;have mem:(m,cf.2)∈cl.meths:=mem_of_lookup (eq_of_beq z5);obtain⟨p',a,r1,r2,r3⟩:=q3.me.get mem;rw[e] at r1;cases r1;obtain⟨fd,d,b,g,kp⟩:=at_ J r2;rw[L] at g;apply _k;refine⟨C,a,fd,d.ps,cf.2,q3.cs,r3,g,b,λc' zz q0 g' q5=>?_,al9 z3⟩;have y:=Ir z1 q0;simp only[q5,ao] at y;have y1:c'=cf.1:=eq_of_beq y.1;exact⟨by show(cas[c']?).join=some C;rw[y1,q1];rfl,eq_of_beq y.2⟩
    .cases z4
   .cases z
  .refine⟨by show x=aay T.Mf f;unfold aay;rw[e],λc C u=>?_⟩
   have u:(cas[c]?).join=some C:=u;have q4:cas[c]?=some (some C):=by
    cases q:cas[c]? with
    |none=>rw[q] at u;cases u
    |some o=>rw[q] at u;cases o with
     |none=>cases u|some C'=>cases u;rfl
   obtain⟨y1,y2⟩:=aC.at q4;exact⟨y1,y2.get (az e)⟩
def fN:Yn K [] [] [] []:=trivial
def gN:Pk mg [] as:=trivial
def gS(h:mg p.1=some (.ref a))(t:Pk mg r Z):Pk mg (some p::r) (a::Z):=⟨h,t⟩
def gO(t:Pk mg r Z):Pk mg (none::r) (a::Z):=t
def mN:aaz K C mts Z []:=trivial
def mC(G:mts[q.1]?=some p)(U:Z[q.2]?=some a)(m:Meth K C p.1 a)(t:aaz K C mts Z r):aaz K C mts Z (q::r):=⟨⟨p,a,G,U,m⟩,t⟩
def nN:Yo K C []:=trivial
def nC(h:Eh K C x)(t:Yo K C r):Yo K C (x::r):=⟨h,t⟩
def cN:Kh K mg T Z [] [] []:=trivial
def cO(t:Kh K mg T Z r cs cls):Kh K mg T Z (none::r) (none::cs) (cl::cls):=t
def cS(h:ClF K mg T Z p.1 C cl)(t:Kh K mg T Z r cs cls):Kh K mg T Z (some p::r) (some C::cs) (cl::cls):=⟨h,t⟩
def vN:Yp mg []:=trivial
def vC(h:mg p.1=some (.int p.2 t))(q:Yp mg r):Yp mg (p::r):=⟨⟨t,h⟩,q⟩
def bN:AllB mg []:=trivial
def bC(h:mg x=none)(q:AllB mg r):AllB mg (x::r):=⟨h,q⟩
abbrev Lk(K:Fg)(f:Addr)(x q:Str)(st:Stmt)(oc:Value)(od:Option Addr)(kV dc pm:Value)(an:Option Addr)(cd ct:Value)(sl:Array (Option Value)):Prop :=
 K.lookup f=some ⟨oc,od,.func (PySem.W.fnOf x q (Gu st) (Dq st) (yg st) .none kV dc pm an cd ct),sl⟩/\PySem.W.codeIn K cd q=true/\PySem.W.keepIn K (.ref f)=true
noncomputable def aw1:Nat->(List Value->Prop)->Prop|0,P=>P []|n+1,P=>∀a,aw1 n λZ=>P (a::Z)
theorem afs:∀{us:Zl}{P:List Value->Prop},aw1 us.length P->P us|[],_,h=>h|a::us,_,h=>afs (us:=us) (h a)
def fE{kV:Value}(l:Lk K a d.x d.qual s oc od kV dc U Z cd G sl)(r:Yn K ds ss as fs)
 (b:∀(kV R U:Value)(Z:Option Addr)(qq G:Value),aw1 d.ps.length λus=>bindArgs (PySem.W.fnOf d.x d.qual (Gu s) (Dq s) (yg s) .none kV R U Z qq G) ⟨us,[]⟩=pure (d.ps.zip us):=by(repeat intro _);rfl) :
 Yn K (d::ds) (s::ss) (a::as) (PySem.W.fnOf d.x d.qual (Gu s) (Dq s) (yg s) .none kV dc U Z cd G::fs):=⟨⟨akt l.1 l.2.1 l.2.2,(akt l.1 l.2.1 l.2.2).binds λ_ _ _ _ _ _ _ e=>afs (e▸b _ _ _ _ _ _)⟩,r⟩
noncomputable def aft(K:Fg):Sp:=λG H Q _=>∃(a:Addr)(Z:X9),G=[.ref a]/\Only H/\Ec K H a (Z.map V.int)/\Z.length<=63/\∀U,Q (.bl true) U
def aqy(o:Only H)(h:Ec K H a vs):Xw K H a vs:=by
 rcases h with(h|h)|h
 .rcases o a with z|⟨ob,xs,z⟩<;>rw[z] at h<;>cases h
 .exact .inl h
 .exact .inr h
def aqz(run:∀(Z:X9),Z.length<=63->∃G,W.call i [.fz (Z.map MW.D.int)] []=.ok (.bl true) G)(h:aft K R H Q E):spF nm W K 1 i R H Q E:=by obtain⟨a,Z,rfl,o,hS,hl,k⟩:=h;obtain⟨G,e⟩:=run Z hl;refine⟨⟨[],[]⟩,[],_,_,G,⟨rfl,List.nodup_nil,by simp,λn o a h=>by simp at h⟩,.cons (.fz (aqy o hS) (my.ints Z)) .nil,rfl,e,λU H' v le S' r=>?_⟩;cases r;exact k H'
def walk{l:PySem.W.OpenLaw}{K:Params->Fg}(hn:l.most=some 63)(G:d.params.defaults=[])(hY:∀(w:World) (h:Heap),YP w h->(K w.params).In h)(F:∀(w:World) (mg:Zs) (U:Addr) (h:Heap),(K w.params).In h->h.Ns mainGlobals mg->mg d.name=some (.ref U) ->
 ∃R:FuncData,(∀(s:Shared) (u:Value),BindsTo s R ⟨[u],[]⟩ [("script",u)])/\∀Z:Heap,(K w.params).In Z->Z.Ns mainGlobals mg->Ei l.prog w (K w.params) mg Z Yq 170 U R ["script"] (aft (K w.params))) :
 PySem.W.WalkO q loose XP YP l.row.toRowW d [] (λf vs=>PySem.call f vs) :=
 L2.apf (n:=63) (k:=170) (x := "script") (CX:=λ_=>Yq) (sp:=λw=>aft (K w.params)) hn (by decide) G ⟨rfl,by decide,by decide⟩ hY F (λ_ _ a ns hl ho hS=>⟨a,ns,rfl,ho,hS,hl,λ_=>rfl⟩) λ_ _ _ _ _ z=>z
end Ck
namespace K76
open PySem L2
noncomputable def top(i:Nat):Stmt:=PySem.Challenge.pw_mapwright_k76_whole_it_is_so_in_plain_se.main.body.getD i (.Pass ⟨0,0,0,0⟩)
def sts:List Stmt:=[top 36,top 37,top 38,top 9,top 10,top 11,top 12,top 13,top 14,top 15,top 16,top 17,top 18,top 19,top 20,inClass (top 22) 0,inClass (top 22) 1,inClass (top 22) 2,inClass (top 22) 3,inClass (top 22) 4,top 23,top 24,top 25,top 27,top 28,top 29,top 30,top 31,top 32,top 33,top 34,top 39,top 40,top 41,top 42,top 43,top 44,top 45]
noncomputable def Ds:List Ck.Def:=[⟨"_law_cell_at", "_law_cell_at",["script", "k"],["script", "k"]⟩,⟨"_law_state", "_law_state",["script", "k", "cell"],["script", "k"]⟩,⟨"_law_take", "_law_take",["state", "many", "found", "mixed"],["state", "many"]⟩,⟨"check_saying", "check_saying",["saying", "ends"],["saying"]⟩,⟨"check_ends", "check_ends",["ends", "start", "goal"],["ends"]⟩,⟨"comes_back", "comes_back",["ends", "left", "many", "goals"],["ends"]⟩,⟨"check_given", "check_given",["ends", "given", "told"],["ends", "given"]⟩,⟨"can_be_given", "can_be_given",["ends", "told"],["ends", "told"]⟩,⟨"is_arrow", "is_arrow",["ends", "number"],["ends", "number"]⟩,⟨"is_way", "is_way",["ends", "way"],["ends", "way"]⟩,⟨"way_start", "way_start",["ends", "way"],["ends", "way"]⟩,⟨"way_goal", "way_goal",["ends", "way"],["ends", "way"]⟩,⟨"are_beside", "are_beside",["ends", "one", "other"],["ends", "one", "other"]⟩,⟨"all_ways", "all_ways",["ends", "told", "fresh", "longer", "way", "goal"],["ends"]⟩,⟨"apart_arrows", "apart_arrows",["given"],["given"]⟩,⟨"__init__", "Ties.__init__",["self"],["self"]⟩,⟨"mark", "Ties.mark",["self", "way"],["self", "way"]⟩,⟨"are_tied", "Ties.are_tied",["self", "one", "other"],["self", "one", "other"]⟩,⟨"take", "Ties.take",["self", "step", "kept", "gone", "way"],["self", "step"]⟩,⟨"offer", "Ties.offer",["self", "one", "other", "why"],["self", "one", "other", "why"]⟩,⟨"all_ties", "all_ties",["saying", "ties", "place", "told", "many"],["saying"]⟩,⟨"put_around", "put_around",["ties", "ends", "one", "other", "why", "arrow", "some"],["ties", "ends"]⟩,⟨"take_off", "take_off",["ties", "ends", "arrows", "arrow", "firsts", "way", "first"],["ties", "ends", "arrows"]⟩,⟨"judged", "judged",["saying", "ties"],["saying"]⟩,⟨"breaking_sets", "breaking_sets",["ends", "ties", "start", "rows", "way", "row", "maps", "arrow", "some", "goals"],["ends", "ties", "start"]⟩,⟨"set_count", "set_count",["ends"],["ends"]⟩,⟨"breaks", "breaks",["saying", "sizes", "maps", "things"],["saying", "sizes", "maps"]⟩,⟨"are_sets", "are_sets",["ends", "sizes", "maps", "row", "some"],["ends", "sizes", "maps"]⟩,⟨"is_so", "is_so",["ends", "sizes", "maps", "told", "row"],["ends", "sizes", "maps", "told"]⟩,⟨"same_for", "same_for",["maps", "things", "one", "other"],["maps", "things", "one", "other"]⟩,⟨"led_along", "led_along",["maps", "way", "thing", "here", "arrow"],["maps", "way", "thing"]⟩,⟨"_law_all_ways", "_law_all_ways",["ends", "found", "at", "last"],["ends"]⟩,⟨"_law_alike_ends", "_law_alike_ends",["ends", "rows", "way", "pairs", "row", "one"],["ends"]⟩,⟨"_law_saying", "_law_saying",["state", "ends", "k", "one", "known", "pairs", "given", "turn", "unlike"],["state"]⟩,⟨"_law_gone", "_law_gone",["acts", "way", "thing", "arrow"],["acts", "way", "thing"]⟩,⟨"_law_sets_break", "_law_sets_break",["saying", "sizes", "acts", "ends", "given", "aim", "k", "row", "same", "one", "other", "agree", "number", "apart"],["saying", "sizes", "acts"]⟩,⟨"_law_sets", "_law_sets",["state", "ends", "most", "sizes", "turn", "one", "other", "acts"],["state", "ends", "most"]⟩,⟨"law", "law",["script", "state", "turn", "saying", "found", "k", "sizes", "acts", "broken"],["script"]⟩]
noncomputable def tab:Ck.Tab:=⟨[(some ("_law_cell_at",2):Y2),(some ("_law_state",2):Y2),(some ("_law_take",2):Y2),(some ("check_saying",1):Y2),(some ("check_ends",1):Y2),(some ("comes_back",1):Y2),(some ("check_given",2):Y2),(some ("can_be_given",2):Y2),(some ("is_arrow",2):Y2),(some ("is_way",2):Y2),(some ("way_start",2):Y2),(some ("way_goal",2):Y2),(some ("are_beside",3):Y2),(some ("all_ways",1):Y2),(some ("apart_arrows",1):Y2),none,none,none,none,none,(some ("all_ties",1):Y2),(some ("put_around",2):Y2),(some ("take_off",3):Y2),(some ("judged",1):Y2),(some ("breaking_sets",3):Y2),(some ("set_count",1):Y2),(some ("breaks",3):Y2),(some ("are_sets",3):Y2),(some ("is_so",4):Y2),(some ("same_for",4):Y2),(some ("led_along",3):Y2),(some ("_law_all_ways",1):Y2),(some ("_law_alike_ends",1):Y2),(some ("_law_saying",1):Y2),(some ("_law_gone",3):Y2),(some ("_law_sets_break",3):Y2),(some ("_law_sets",3):Y2),(some ("law",1):Y2)],[none,none,none,some ("Ties",0)],[("mark",1),("are_tied",2),("take",1),("offer",3)],["marks", "steps"],[("MOST_ARROWS",10),("LAST_SET",7),("MOST_GIVEN",8),("MOST_WAYS",60)]⟩
noncomputable def mcs:List (Nat×Nat):=[(3,16),(3,17),(3,18),(3,19)]
def chk:Ck.aqx tab prog.fns Ds sts=true:=by decide+kernel
def a8z:Ck.al6 tab.Mf=true:=by decide+kernel
def a80:Ck.tfB prog.fns tab.fns=true:=by decide+kernel
def a81:Ck.tcB prog tab.cls=true:=by decide+kernel
def a82:Ck.tmB prog tab mcs=true:=by decide+kernel
open PySem.W
set_option maxHeartbeats 0 in
def all_mk{l:OpenLaw}{K:Frag}{h:Heap}(X:K.In h)(G:h.Ns mainGlobals mg)(q1:mg "law" = some (.ref fa))
 (y0:nsIn K mainGlobals "Ties" = some (some (.ref U)))
 (a0:nsIn K mainGlobals "_law_cell_at" = some (some (.ref f0)))
 (l0:Ck.Lk K f0 "_law_cell_at" "_law_cell_at" (top 36) oc0 od0 kV0 dc0 pm0 an0 cd0 ct0 sl0)
 (a1:nsIn K mainGlobals "_law_state" = some (some (.ref f1)))
 (l1:Ck.Lk K f1 "_law_state" "_law_state" (top 37) oc1 od1 kV1 dc1 pm1 an1 cd1 ct1 sl1)
 (a2:nsIn K mainGlobals "_law_take" = some (some (.ref f2)))
 (l2:Ck.Lk K f2 "_law_take" "_law_take" (top 38) oc2 od2 kV2 dc2 pm2 an2 cd2 ct2 sl2)
 (a3:nsIn K mainGlobals "check_saying" = some (some (.ref f3)))
 (l3:Ck.Lk K f3 "check_saying" "check_saying" (top 9) oc3 od3 kV3 dc3 pm3 an3 cd3 ct3 sl3)
 (a4:nsIn K mainGlobals "check_ends" = some (some (.ref f4)))
 (l4:Ck.Lk K f4 "check_ends" "check_ends" (top 10) oc4 od4 kV4 dc4 pm4 an4 cd4 ct4 sl4)
 (a5:nsIn K mainGlobals "comes_back" = some (some (.ref f5)))
 (l5:Ck.Lk K f5 "comes_back" "comes_back" (top 11) oc5 od5 kV5 dc5 pm5 an5 cd5 ct5 sl5)
 (a6:nsIn K mainGlobals "check_given" = some (some (.ref f6)))
 (l6:Ck.Lk K f6 "check_given" "check_given" (top 12) oc6 od6 kV6 dc6 pm6 an6 cd6 ct6 sl6)
 (a7:nsIn K mainGlobals "can_be_given" = some (some (.ref f7)))
 (l7:Ck.Lk K f7 "can_be_given" "can_be_given" (top 13) oc7 od7 kV7 dc7 pm7 an7 cd7 ct7 sl7)
 (a8:nsIn K mainGlobals "is_arrow" = some (some (.ref f8)))
 (l8:Ck.Lk K f8 "is_arrow" "is_arrow" (top 14) oc8 od8 kV8 dc8 pm8 an8 cd8 ct8 sl8)
 (a9:nsIn K mainGlobals "is_way" = some (some (.ref f9)))
 (l9:Ck.Lk K f9 "is_way" "is_way" (top 15) oc9 od9 kV9 dc9 pm9 an9 cd9 ct9 sl9)
 (yk:nsIn K mainGlobals "way_start" = some (some (.ref f10)))
 (l10:Ck.Lk K f10 "way_start" "way_start" (top 16) bd1 bd2 bd3 bd4 bd5 bd6 bd7 bd8 bd9)
 (a11:nsIn K mainGlobals "way_goal" = some (some (.ref f11)))
 (yv:Ck.Lk K f11 "way_goal" "way_goal" (top 17) beb bec bed bee bef beh bei bej bek)
 (xj:nsIn K mainGlobals "are_beside" = some (some (.ref f12)))
 (l12:Ck.Lk K f12 "are_beside" "are_beside" (top 18) bem ben beo bep ber bet beu bev bew)
 (q6:nsIn K mainGlobals "all_ways" = some (some (.ref f13)))
 (x7:Ck.Lk K f13 "all_ways" "all_ways" (top 19) bey bez be0 be1 be2 be3 be4 be5 be6)
 (a14:nsIn K mainGlobals "apart_arrows" = some (some (.ref f14)))
 (y2:Ck.Lk K f14 "apart_arrows" "apart_arrows" (top 20) be8 be9 bfa bfb bfc bfd bfe bff bfg)
 (q5:findIn K (.ref U) "__init__" = some (some (.ref f15)))
 (zv:isFn K (.ref f15)=true)
 (l15:Ck.Lk K f15 "__init__" "Ties.__init__" (inClass (top 22) 0) bfj bfk bfl bfm bfn bfo bfp bfq bfr)
 (a16:findIn K (.ref U) "mark" = some (some (.ref f16)))
 (q2:isFn K (.ref f16)=true)
 (R:Ck.Lk K f16 "mark" "Ties.mark" (inClass (top 22) 1) bft bfu bfv bfw bfx bfy bfz bf0 bf1)
 (a17:findIn K (.ref U) "are_tied" = some (some (.ref f17)))
 (i17:isFn K (.ref f17)=true)
 (qk:Ck.Lk K f17 "are_tied" "Ties.are_tied" (inClass (top 22) 2) bf3 bf4 bf5 bf6 bf7 bf8 bf9 bga bgb)
 (a18:findIn K (.ref U) "take" = some (some (.ref f18)))
 (u2:isFn K (.ref f18)=true)
 (q0:Ck.Lk K f18 "take" "Ties.take" (inClass (top 22) 3) bgd bge bgf bgg bgh bgi bgj bgk bgl)
 (x2:findIn K (.ref U) "offer" = some (some (.ref f19)))
 (x9:isFn K (.ref f19)=true)
 (qq:Ck.Lk K f19 "offer" "Ties.offer" (inClass (top 22) 4) bgn bgo bgp bgq bgr bgs bgt bgu bgv)
 (y1:nsIn K mainGlobals "all_ties" = some (some (.ref f20)))
 (j1:Ck.Lk K f20 "all_ties" "all_ties" (top 23) bgx bgy bgz bg0 bg1 bg2 bg3 bg4 bg5)
 (a21:nsIn K mainGlobals "put_around" = some (some (.ref f21)))
 (xw:Ck.Lk K f21 "put_around" "put_around" (top 24) bg7 bg8 bg9 bha bhb bhc bhd bhe bhf)
 (j2:nsIn K mainGlobals "take_off" = some (some (.ref f22)))
 (l22:Ck.Lk K f22 "take_off" "take_off" (top 25) bhh bhi bhj bhk bhl bhm bhn bho bhp)
 (a23:nsIn K mainGlobals "judged" = some (some (.ref f23)))
 (x3:Ck.Lk K f23 "judged" "judged" (top 27) bhr bhs bht bhu bhv bhw bhx bhy bhz)
 (uj:nsIn K mainGlobals "breaking_sets" = some (some (.ref f24)))
 (xk:Ck.Lk K f24 "breaking_sets" "breaking_sets" (top 28) bh1 bh2 bh3 bh4 bh5 bh6 bh7 bh8 bh9)
 (a25:nsIn K mainGlobals "set_count" = some (some (.ref f25)))
 (x8:Ck.Lk K f25 "set_count" "set_count" (top 29) bib bic bid bie bih bii bij bik bil)
 (q3:nsIn K mainGlobals "breaks" = some (some (.ref f26)))
 (u1:Ck.Lk K f26 "breaks" "breaks" (top 30) bio bip biq bir bis biu biv biw bix)
 (zk:nsIn K mainGlobals "are_sets" = some (some (.ref f27)))
 (y4:Ck.Lk K f27 "are_sets" "are_sets" (top 31) biz bi0 bi1 bi2 bi3 bi4 bi5 bi6 bi7)
 (x1:nsIn K mainGlobals "is_so" = some (some (.ref f28)))
 (y6:Ck.Lk K f28 "is_so" "is_so" (top 32) bi9 bja bjb bjc bjd bje bjf bjg bjh)
 (jv:nsIn K mainGlobals "same_for" = some (some (.ref f29)))
 (j3:Ck.Lk K f29 "same_for" "same_for" (top 33) bjj bjk bjl bjm bjn bjo bjp bjq bjr)
 (y9:nsIn K mainGlobals "led_along" = some (some (.ref f30)))
 (x6:Ck.Lk K f30 "led_along" "led_along" (top 34) bjt bju bjv bjw bjx bjy bjz bj0 bj1)
 (a31:nsIn K mainGlobals "_law_all_ways" = some (some (.ref f31)))
 (l31:Ck.Lk K f31 "_law_all_ways" "_law_all_ways" (top 39) bj3 bj4 bj5 bj6 bj7 bj8 bj9 bka bkb)
 (a32:nsIn K mainGlobals "_law_alike_ends" = some (some (.ref f32)))
 (uu:Ck.Lk K f32 "_law_alike_ends" "_law_alike_ends" (top 40) bkd bke bkf bkg bkh bki bkj bkk bkl)
 (uk:nsIn K mainGlobals "_law_saying" = some (some (.ref f33)))
 (q4:Ck.Lk K f33 "_law_saying" "_law_saying" (top 41) bkn bko bkp bkq bkr bks bkt bku bkv)
 (y8:nsIn K mainGlobals "_law_gone" = some (some (.ref f34)))
 (zw:Ck.Lk K f34 "_law_gone" "_law_gone" (top 42) bkx bky bkz bk0 bk1 bk2 bk3 bk4 bk5)
 (yy:nsIn K mainGlobals "_law_sets_break" = some (some (.ref f35)))
 (y3:Ck.Lk K f35 "_law_sets_break" "_law_sets_break" (top 43) bk7 bk8 bk9 bla blb blc bld blf blg)
 (u7:nsIn K mainGlobals "_law_sets" = some (some (.ref f36)))
 (l36:Ck.Lk K f36 "_law_sets" "_law_sets" (top 44) bli blj bll blm bln blo blp blq blr)
 (qv:nsIn K mainGlobals "law" = some (some (.ref f37)))
 (y5:Ck.Lk K f37 "law" "law" (top 45) blv blw a83 a84 a85 a86 a87 a88 blx)
 (u3:plainGet K U Str.empty=true)
 (xv:hasDictIn K U=true)
 (xy:plainOver K U=true)
 (x5:findIn K (.ref U) "__setattr__" = some (some (.builtin "object.__setattr__")))
 (zz:makesIn K U=true)
 (q7:keepIn K (.ref U)=true)
 (u4:findIn K (.ref U) "marks" = some none)
 (a9a:findIn K (.ref U) "steps" = some none)
 (v0:nsIn K mainGlobals "MOST_ARROWS" = some (some (.int (10) tk0)))
 (v1:nsIn K mainGlobals "LAST_SET" = some (some (.int (7) tk1)))
 (v2:nsIn K mainGlobals "MOST_GIVEN" = some (some (.int (8) tk2)))
 (v3:nsIn K mainGlobals "MOST_WAYS" = some (some (.int (60) tk3)))
 (z0:nsIn K mainGlobals "len" = some none)
 (z1:nsIn K mainGlobals "tuple" = some none)
 (z2:nsIn K mainGlobals "list" = some none)
 (z3:nsIn K mainGlobals "max" = some none)
 (z4:nsIn K mainGlobals "min" = some none)
 (z5:nsIn K mainGlobals "isinstance" = some none)
 (z6:nsIn K mainGlobals "range" = some none)
 (z7:nsIn K mainGlobals "enumerate" = some none)
 (z8:nsIn K mainGlobals "set" = some none)
 (z9:nsIn K mainGlobals "zip" = some none)
 (x4:nsIn K mainGlobals "all" = some none)
 (y7:nsIn K mainGlobals "bool" = some none)
 : ∃fd:FuncData,(∀(s:Shared)(v:Value),BindsTo s fd ⟨[v],[]⟩ [("script",v)])/\∀Z:Heap,K.In Z->Z.Ns mainGlobals mg->Ei l.prog w K mg Z Yq 170 fa fd ["script"] (Ck.aft K):=by
 have e:=(dh X G qv).symm.trans q1;cases e;have aF:Ck.Yn K Ds sts [f0,f1,f2,f3,f4,f5,f6,f7,f8,f9,f10,f11,f12,f13,f14,f15,f16,f17,f18,f19,f20,f21,f22,f23,f24,f25,f26,f27,f28,f29,f30,f31,f32,f33,f34,f35,f36,fa] [_,_,_,_,_,_,_,_,_,_,_,_,_,_,_,_,_,_,_,_,_,_,_,_,_,_,_,_,_,_,_,_,_,_,_,_,_,_]:=(Ck.fE l0 (Ck.fE l1 (Ck.fE l2 (Ck.fE l3 (Ck.fE l4 (Ck.fE l5 (Ck.fE l6 (Ck.fE l7 (Ck.fE l8 (Ck.fE l9 (Ck.fE l10 (Ck.fE yv (Ck.fE l12 (Ck.fE x7 (Ck.fE y2 (Ck.fE l15 (Ck.fE R (Ck.fE qk (Ck.fE q0 (Ck.fE qq (Ck.fE j1 (Ck.fE xw (Ck.fE l22 (Ck.fE x3 (Ck.fE xk (Ck.fE x8 (Ck.fE u1 (Ck.fE y4 (Ck.fE y6 (Ck.fE j3 (Ck.fE x6 (Ck.fE l31 (Ck.fE uu (Ck.fE q4 (Ck.fE zw (Ck.fE y3 (Ck.fE l36 (Ck.fE y5 Ck.fN))))))))))))))))))))))))))))))))))))));have aG:Ck.Pk mg tab.fns [f0,f1,f2,f3,f4,f5,f6,f7,f8,f9,f10,f11,f12,f13,f14,f15,f16,f17,f18,f19,f20,f21,f22,f23,f24,f25,f26,f27,f28,f29,f30,f31,f32,f33,f34,f35,f36,fa]:=(Ck.gS (dh X G a0) (Ck.gS (dh X G a1) (Ck.gS (dh X G a2) (Ck.gS (dh X G a3) (Ck.gS (dh X G a4) (Ck.gS (dh X G a5) (Ck.gS (dh X G a6) (Ck.gS (dh X G a7) (Ck.gS (dh X G a8) (Ck.gS (dh X G a9) (Ck.gS (dh X G yk) (Ck.gS (dh X G a11) (Ck.gS (dh X G xj) (Ck.gS (dh X G q6) (Ck.gS (dh X G a14) (Ck.gO (Ck.gO (Ck.gO (Ck.gO (Ck.gO (Ck.gS (dh X G y1) (Ck.gS (dh X G a21) (Ck.gS (dh X G j2) (Ck.gS (dh X G a23) (Ck.gS (dh X G uj) (Ck.gS (dh X G a25) (Ck.gS (dh X G q3) (Ck.gS (dh X G zk) (Ck.gS (dh X G x1) (Ck.gS (dh X G jv) (Ck.gS (dh X G y9) (Ck.gS (dh X G a31) (Ck.gS (dh X G a32) (Ck.gS (dh X G uk) (Ck.gS (dh X G y8) (Ck.gS (dh X G yy) (Ck.gS (dh X G u7) (Ck.gS (dh X G qv) Ck.gN))))))))))))))))))))))))))))))))))))));have aC:Ck.Kh K mg tab [f0,f1,f2,f3,f4,f5,f6,f7,f8,f9,f10,f11,f12,f13,f14,f15,f16,f17,f18,f19,f20,f21,f22,f23,f24,f25,f26,f27,f28,f29,f30,f31,f32,f33,f34,f35,f36,fa] tab.cls [none,none,none,some U] prog.cls:=(Ck.cO (Ck.cO (Ck.cO (Ck.cS ⟨dh X G y0,⟨u3,xv,xy,x5⟩,⟨_,rfl,⟨zz,q5,zv,q7⟩⟩,(Ck.mC rfl rfl ⟨a16,q2,R.2.2⟩ (Ck.mC rfl rfl ⟨a17,i17,qk.2.2⟩ (Ck.mC rfl rfl ⟨a18,u2,q0.2.2⟩ (Ck.mC rfl rfl ⟨x2,x9,qq.2.2⟩ Ck.mN)))),(Ck.nC u4 (Ck.nC a9a Ck.nN))⟩ Ck.cN))));have aV:Ck.Yp mg tab.aqg:=(Ck.vC (dh X G v0) (Ck.vC (dh X G v1) (Ck.vC (dh X G v2) (Ck.vC (dh X G v3) Ck.vN))));have aB:Ck.AllB mg Ck.Kf:=(Ck.bC (j5 X G z0) (Ck.bC (j5 X G z1) (Ck.bC (j5 X G z2) (Ck.bC (j5 X G z3) (Ck.bC (j5 X G z4) (Ck.bC (j5 X G z5) (Ck.bC (j5 X G z6) (Ck.bC (j5 X G z7) (Ck.bC (j5 X G z8) (Ck.bC (j5 X G z9) (Ck.bC (j5 X G x4) (Ck.bC (j5 X G y7) Ck.bN))))))))))));refine⟨fnOf "law" "law" (Gu (top 45)) (Dq (top 45)) (yg (top 45)) .none a83 a84 a85 a86 a87 a88,λs v=>.of_eq rfl,λZ _ _=>?_⟩;obtain⟨d,a,f,g1,g2,g3,g4,g5⟩:=Ck.abw (P:=l.prog) (w:=w) (base:=Z) (n:=10) (i:=37) (F:=aif) a8z chk a80 a81 a82 aF aG aC aV aB rfl;cases g1;cases g2;cases g3;exact g5.imp λvs H Q E hh=>Ck.aqz (λns hl=>at3 (by decide)) hh
end K76
open PySem PySem.W PyProof.Rows
namespace PySem.W.Fast
def tw4428991994803538277:=Nat
def tw16618275876720377837:=Nat
def tw13810267689663759392:=Nat
def tw2650022878640483111:=Nat
def tw6714128164616731616:=Nat
def tw809105023908689393:=Nat
def tw8897968416709481692:=Nat
def tw8959828932722117254:=Nat
def tw13939782349344498618:=Nat
def tw13149896872726407274:=Nat
def tw10679798425702072868:=Nat
def tw12988116771185484349:=Nat
def tw2932555292692189366:=Nat
def tw4409973924240064689:=Nat
def tw16826012633155496677:=Nat
def tw14251507241630576098:=Nat
def tw10441344395877562555:=Nat
def tw3164644481762762805:=Nat
def tw11948440978094074247:=Nat
def tw8496292147923740612:=Nat
def tw5488648211136404592:=Nat
def tw7037460636657400835:=Nat
def tw12576454800103415721:=Nat
def tw18220685203612888318:=Nat
def tw18063404802899839115:=Nat
def tw13422684862817221066:=Nat
def tw12992020181400986401:=Nat
def tw1535274169658970302:=Nat
def tw11967990789947644896:=Nat
def tw9462751299986426192:=Nat
def tw16160785956214365903:=Nat
def tw2711643157439626124:=Nat
def tw3906579903015134037:=Nat
def tw5437892823117560281:=Nat
def tw4069795950225368291:=Nat
def tw1080136871894548350:=Nat
def tw18421133402670915122:=Nat
def tw15758693624216222570:=Nat
def tw17928517353989439153:=Nat
def tw9847077386166017360:=Nat
def tw15796376130729455441:=Nat
def tw13900186443517892414:=Nat
def tw2939155296281715749:=Nat
def tw9866064150866029090:=Nat
def tw3778606028315938436:=Nat
def tw4875083787649738558:=Nat
def tw741650022572246321:=Nat
def tw14667959911599176664:=Nat
def tw12422659990739548086:=Nat
def tw1321566553823642265:=Nat
def tw14415152149794386518:=Nat
def tw12458318412825315454:=Nat
def tw15253609101424049927:=Nat
def tw9035573093892662097:=Nat
def tw5080078721576377054:=Nat
def tw2252746477375143483:=Nat
def tw12416411413140518219:=Nat
def tw7525802769698448553:=Nat
def tw5657134601330895216:=Nat
def tw5578703534819186712:=Nat
def tw7513306162362917860:=Nat
def tw17380530980838979035:=Nat
def tw11878556541597831201:=Nat
def tw7910558098068998635:=Nat
def tw4940033280819296688:=Nat
def tw13741472156309006692:=Nat
def tw17695841449878497672:=Nat
def tw12314349458869953047:=Nat
def tw10554243886659066983:=Nat
def tw16852781472101559270:=Nat
def tw18193233187877574590:=Nat
def tw53651547577366846:=Nat
def tw6436816692465157442:=Nat
def tw2841044144098303209:=Nat
def tw11864377163489964371:=Nat
def tw14977166750814771190:=Nat
def tw5345545033371111484:=Nat
def tw495570492351668507:=Nat
def tw15303761493790181652:=Nat
def tw14225281032586127144:=Nat
def tw5901434235008799438:=Nat
def tw12501171704732794626:=Nat
def tw7293409754128433699:=Nat
def tw4345081455357135716:=Nat
def tw468612270574791365:=Nat
def tw14128223716210925519:=Nat
def tw1429053105914794450:=Nat
def tw5519867981119296261:=Nat
def tw14405741128436633837:=Nat
def tw17151352275438495669:=Nat
def tw17231867179665239779:=Nat
def tw5320042309363830202:=Nat
def tw2560558212896866916:=Nat
def tw11738796917261638563:=Nat
def tw2489855183757764983:=Nat
def tw2326367560266365225:=Nat
def tw7216257275597367750:=Nat
def tw12277126743355604701:=Nat
def tw14217512326272690744:=Nat
def tw13266818542776647117:=Nat
def tw7079638010380444299:=Nat
def tw11465897421346442363:=Nat
def tw17885469768754370617:=Nat
def tw12246652469538502577:=Nat
def tw8067251097739782113:=Nat
def tw11933553640053028414:=Nat
def tw15969300118754460465:=Nat
def tw11539639326153618027:=Nat
def tw11770401105761720609:=Nat
def tw4451182813301939644:=Nat
def tw17783175619682779773:=Nat
def tw17189109470227679188:=Nat
def tw6937345689529390720:=Nat
def tw4456337510251506062:=Nat
def tw18445371649980855349:=Nat
def tw1990591725382131492:=Nat
def tw8876666353912875183:=Nat
def tw15571088038222898980:=Nat
def tw568232196518440015:=Nat
def tw4504025966236943745:=Nat
def tw7241952628222596910:=Nat
def tw17074017287074744226:=Nat
def tw14688632785078562948:=Nat
def tw3480302628821172534:=Nat
def tw10994345817803358211:=Nat
def tw4361326773421774069:=Nat
def tw4903353098711771725:=Nat
def tw1737081819812611733:=Nat
def tw14138302084486994616:=Nat
def tw3718156381335187081:=Nat
def tw4910535853236175232:=Nat
def tw17027314147555556190:=Nat
def tw10759090969954530004:=Nat
def tw5216195457842937671:=Nat
def tw13782940936091360171:=Nat
def tw3475784548508731128:=Nat
def tw1739189774997664947:=Nat
def tw10280394330541371492:=Nat
def tw17009633735805346854:=Nat
def tw11891220644019889197:=Nat
def tw2723406530393316611:=Nat
def tw1684390451482487981:=Nat
def tw10886460438284030087:=Nat
def tw749510316167043640:=Nat
def tw16996606647814335432:=Nat
def tw13409821896155746265:=Nat
def tw17010835764351053566:=Nat
def tw12164376812221554481:=Nat
def tw16173159219655834770:=Nat
def tw4102180342549914755:=Nat
def tw1209495504647651312:=Nat
def tw8501461741675479002:=Nat
def tw9331796667235315152:=Nat
def tw8405501620370234209:=Nat
def tw13611543487378387935:=Nat
def tw14743882357964843397:=Nat
def tw12239180551964582347:=Nat
def tw17521017241682128034:=Nat
def tw7125587468570445739:=Nat
def tw10139516268751683863:=Nat
def tw909638989449050117:=Nat
def tw1900185685581566578:=Nat
def tw12959329644555072072:=Nat
def tw11815588294234050162:=Nat
def tw17174032428310303490:=Nat
def tw14756394323214336452:=Nat
def tw12819734975424830688:=Nat
def tw8016932466787820597:=Nat
def tw11836000851895862950:=Nat
def tw4903984602364753725:=Nat
def tw5561468359285216650:=Nat
def tw14073897262305136588:=Nat
def tw8158357101161205757:=Nat
def tw6112060129849423477:=Nat
def tw15298546708115359182:=Nat
def tw1884979846684415464:=Nat
def tw15593889952210983799:=Nat
def tw14818161926536107024:=Nat
def tw8255929058508364615:=Nat
def tw7935760367746345168:=Nat
def tw16901598755711098498:=Nat
def tw13070589320907811916:=Nat
def tw12568854790474638671:=Nat
def tw8713387380439921957:=Nat
def tw5825884428646681746:=Nat
def tw5738512057317991976:=Nat
def tw294430461462756784:=Nat
def tw13871704899506955696:=Nat
def tw13415585669428345594:=Nat
def tw13045701993154076426:=Nat
def tw840142268081828852:=Nat
def tw10019131497615628133:=Nat
def tw8198234423838361071:=Nat
def tw12889201353569512820:=Nat
def tw8701117521620801803:=Nat
def tw8152583536136275443:=Nat
def tw6466164246184461406:=Nat
def tw16759995144597003264:=Nat
def tw10321056797247725867:=Nat
end PySem.W.Fast
set_option maxRecDepth 100000 in
set_option maxHeartbeats 0 in
theorem PySem.Challenge.cw_mapwright_k76_whole_it_is_so_in_plain_se_holds : PySem.Challenge.rw_mapwright_k76_whole_it_is_so_in_plain_se.Holds := by
 w_on;o_law;k_head;(case hw=>w_witness2)
 k_fill
 refine Ck.walk (l:=PySem.Challenge.rw_mapwright_k76_whole_it_is_so_in_plain_se) rfl rfl (λw h Y=>PySem.W.kIn_of Y) ?F
 case F =>
  intro w mg fa h KX G hmg;apply K76.all_mk KX G hmg<;>(try refine⟨?_,?_,?_⟩)<;>k_is
