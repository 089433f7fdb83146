import PyProof.Rows.All
import Wide.All
import OpenK.AllK
import Wide.FinOn
import Lean
import PyProof.EqAt
import PyProof.EqKinds
import PyProof.TupleCall
import PyProof.NeKinds
import PyProof.Rows.MinMaxN
import PyProof.EnumMake
import PyProof.ZipIter
import PyProof.Rows.ZipGen
import PyProof.DictWalks
import PyProof.SetScanFacts
import PyProof.TupleKey
import PyProof.SetKind
import PyProof.IsRules
import PyProof.Rules
import PyProof.Rows.SetFrom
import PySem.Challenge.RW_mapwright_k73_plain_sets
set_option Elab.async false
set_option linter.all false
set_option tactic.hygienic false
set_option genSizeOf false
set_option genInjectivity false
set_option maxRecDepth 100000
abbrev Zl:=List PySem.Value
abbrev Zp:=List (PySem.Addr×PySem.Obj)
abbrev Zs:=PySem.Str->Option PySem.Value
abbrev Y1:=PySem.Value->PySem.Shared->Prop
abbrev Y2:=Option (PySem.Str×Nat)
abbrev Y3:=List Nat
abbrev Ya:=List PySem.Expr
abbrev Yf:=List PySem.Str
abbrev X0:=List (PySem.Str×PySem.NameKind)
abbrev X1:=List PySem.Addr
abbrev X2:=List Int
abbrev X9:=List (PySem.Str×PySem.Addr)
abbrev Xs:=Array PySem.Value
def ir:=@Array.getElem?_eq_some_iff
def n6:=@Array.getElem?_toList
def uf:=@Array.length_toList
def ao:=@Bool.and_eq_true
def sr:=@Bool.eq_iff_iff
def du:=@Bool.false_eq_true
def g8:=@Bool.false_ne_true
def vo:=@Bool.not_true
def gf:=@Function.comp_def
def ux:=@Int.emod_lt_of_pos
def vy:=@Int.emod_nonneg
def gj:=@Int.natCast_nonneg
def j7:=@Int.toNat_natCast
def nj:=@List.all_eq_true
def mq:=@List.append_assoc
def qj:=@List.dropLast_concat_getLast
def rn:=@List.drop_eq_getElem_cons
def u9:=@List.exists_cons_of_ne_nil
def qm:=@List.find?_cons
def q9:=@List.getD_eq_getElem?_getD
def d9:=@List.getElem?_append_left
def m9:=@List.getElem?_append_right
def dz:=@List.getElem?_eq_getElem
def u0:=@List.getElem?_eq_none
def ak:=@List.getElem?_eq_some_iff
def gw:=@List.getElem?_map
def qg:=@List.getElem?_set_ne
def qy:=@List.getElem?_set_self
def tu:=@List.getElem?_zipIdx
def ug:=@List.getElem_of_mem
def km:=@List.isEmpty_iff
def jj:=@List.length_append
def gm:=@List.length_cons
def jm:=@List.length_filter_le
def bx:=@List.length_map
def jn:=@List.length_pos_iff
def uw:=@List.length_pos_of_mem
def vz:=@List.length_set
def o7:=@List.lookup_cons
def jh:=@List.map_append
def d8:=@List.map_cons
def ik:=@List.map_map
def vg:=@List.map_nil
def bh:=@List.mem_append
def ie:=@List.mem_append_left
def gb:=@List.mem_append_right
def cg:=@List.mem_cons
def bu:=@List.mem_cons_of_mem
def bz:=@List.mem_cons_self
def vf:=@List.mem_erase_of_ne
def n8:=@List.mem_filter
def j5:=@List.mem_iff_getElem?
def dh:=@List.mem_map
def aq:=@List.mem_of_getElem?
def iy:=@List.mem_range
def j9:=@List.mem_singleton
def jt:=@List.ne_nil_of_length_pos
def uz:=@List.nil_append
def my:=@List.nodup_append
def kh:=@List.nodup_cons
def qb:=@List.not_mem_nil
def v5:=@List.of_mem_zip
def vh:=@List.range'_succ
def v7:=@List.range_succ
def cz:=@List.size_toArray
def u5:=@List.take_append_drop
def q8:=@List.take_length
def pq:=@List.take_of_length_le
def rm:=@List.take_succ
def wy:=@Nat.le_of_lt
def vd:=@Nat.le_of_lt_succ
def bc:=@Nat.le_refl
def o8:=@Nat.le_succ
def bf:=@Nat.le_trans
def m5:=@Nat.lt_irrefl
def fu:=@Nat.lt_of_lt_of_le
def iw:=@Nat.lt_or_ge
def ur:=@Nat.lt_succ_self
def v9:=@Nat.min_eq_left
def rz:=@Nat.ne_of_gt
def gh:=@Nat.ne_of_lt
def m7:=@Nat.not_lt_zero
def p8:=@Nat.zero_add
def gn:=@Nat.zero_le
def oh:=@Ne.symm
def j8:=@Option.bind_eq_some_iff
def ji:=@Option.isSome_iff_exists
def bw:=@Option.map_eq_some_iff
def ou:=@Option.map_some
def jb:=@Option.some.inj
def uc:=@PyProof.Rows.callWith_builtin1
def o9:=@PyProof.Rows.callWith_type1
def su:=@PyProof.Rows.slot_tuple_getitem
def o6:=@PySem.F.called_set
def qe:=@PySem.F.slot_dict_valueiterator_next
def qx:=@PySem.F.slot_enumerate_next
def pg:=@PySem.F.slot_tuple_iterator_next
def jg:=@PySem.Heap.SameBut.update
def au:=@PySem.Heap.get?_push_of_some
def bj:=@PySem.Heap.get?_push_size
def m6:=@PySem.Heap.get?_update_self
def az:=@PySem.Heap.lt_size
def jy:=@PySem.Heap.size_push
def jk:=@PySem.W.mg_none_of
def cj:=@PySem.W.mg_of
def uh:=@PySem.mem_of_lookup
def o5:=@PySem.wpAny_Call_Name_kw
def aa:=@PySem.wpAny_bind
def jc:=@PySem.wpAny_callSpecial?_slot
def jz:=@PySem.wpAny_call_entry
def fc:=@PySem.wpAny_field
def qz:=@PySem.wpAny_forIn_list
def jo:=@PySem.wpAny_holding
def p6:=@PySem.wpAny_isInstance
def j4:=@PySem.wpAny_mono
def jq:=@PySem.wpAny_newObj_type
def o4:=@PySem.wpAny_passesOwn
def aj:=@PySem.wpAny_pure
def lg:=@PySem.wpAny_pyIter_tuple
def ni:=@PySem.wpAny_seqItems
def iz:=@PySem.wpAny_setField_rec
def je:=@PySem.wpAny_truthy_bool
def qp:=@PySem.wpAny_typeNameOfWhole_valiter
def mz:=@congrArg
def sy:=@decide_eq_false
def dq:=@decide_eq_true_eq
def ig:=@if_false
def fj:=@if_neg
def di:=@if_pos
def iu:=@if_true
def ju:=@of_decide_eq_true
abbrev Fg:=PySem.W.Frag
def a_{a b c:Nat}(h:a<=b)(k:b<=c):a<=c:=bf h k
def b_{a b c:Nat}(h:a<b)(k:b<=c):a<c:=fu h k
def c_{a b c:Nat}(h:a<=b)(k:b<c):a<c:=Nat.lt_of_le_of_lt h k
def e_{a b:Nat}(h:a<b):a<=b:=wy h
def f_{a b:Nat}(h:a=b):a<=b:=Nat.le_of_eq h
def g_{a b:Nat}(h:a=b):b<=a:=Nat.le_of_eq h.symm
def i_{a b:Nat}(h:b<a):a≠b:=rz h
def j_{a b:Nat}(h:b<=a):¬a<b:=Nat.not_lt_of_le h
def l_{p:Prop}{a b:Nat}(h:a<b)(k:b<=a):p:=absurd h (Nat.not_lt_of_le k)
def m_{a b:Nat}(h:a<b):(a:Int)<(b:Int):=Int.ofNat_lt.mpr h
def q_{a:Nat}:(0:Int)<=(a:Int):=gj a
def r_{a b c:Nat}(h:a+c<=b):a<=b-c:=Nat.le_sub_of_add_le h
def s_{a b:Nat}(h:¬a<b):b<=a:=Nat.le_of_not_lt h
def t_{a b:Nat}(h:¬a<=b):b<a:=Nat.lt_of_not_le h
def u_{a b:Nat}(h:a<=b)(k:b<=a):a=b:=Nat.le_antisymm h k
def v_{a b c:Nat}(h:a<=b):a+c<=b+c:=Nat.add_le_add_right h c
def w_{a b c:Nat}(h:a<=b):c+a<=c+b:=Nat.add_le_add_left h c
def x_{a b:Nat}:a<=a+b:=Nat.le_add_right a b
def z_{a b:Nat}(h:a<b+1):a<=b:=vd h
def A_{a b:Nat}(h:a<=b):a<b+1:=Nat.lt_succ_of_le h
def C_{a b:Nat}:a-b<=a:=Nat.sub_le a b
def hG{P:Prop}(h:∀G:Prop,(P->G)->G):P:=h P id
noncomputable section
namespace STb
open PySem
def aaf{prog:Program}{w:World}{A:Around}{G:Type}{Q:G->Shared->Prop}{E:Y1}{s:Shared}(U:A.handled=none)(q:∀Z x,(∀b o,s.heap.get? b=some o->Z.get? b=some o)->(∃o,Z.get? x=some o/\o.cls=.type "StopIteration")->E (.ref x) { s with heap:=Z }):wpAny (model prog w) A (newExc (.type "StopIteration") [] >>= raiseNew) Q E s:=by simp only[newExc,newTuple];refine aa (aa (jq (aa (m:=firstArgMember _ _) (wpAny_of_eq (a:=Value.none) (by first|rfl|(simp only[firstArgMember];rfl)) (jq ?_ (by size_fits)))) (by size_fits)));simp only[raiseNew];refine aa (wpAny_handled ?_);rw[U];exact aa (aj (wpAny_throw (q _ _ (λb o e=>au _ (au _ e)) ⟨_,bj _ rfl,rfl⟩)))
open PySem SetTable
def Srt(Z:Array Nat):Prop:=∀(i j a b:Nat),Z[i]?=some a->Z[j]?=some b->i<j->a<b
def aix(hs:Srt U):∀(Z G hi:Nat),G<=hi->hi<=U.size->hi-G<=Z ->
 (∀(i a:Nat),U[i]?=some a->i<G->a<j)->(∀(i a:Nat),U[i]?=some a->hi<=i->j<=a) ->
 below.go U j Z G hi<=U.size/\(∀(i a:Nat),U[i]?=some a->i<below.go U j Z G hi->a<j)/\(∀(i a:Nat),U[i]?=some a->below.go U j Z G hi<=i->j<=a):=by
 intro Z
 induction Z with
 |zero =>
  intro G hi h1 h2 h3 h4 h5;unfold below.go;have:G=hi:=by lia
  subst this;exact⟨h2,h4,h5⟩
 |succ Z ih =>
  intro G hi h1 h2 h3 h4 h5;unfold below.go
  by_cases Hc:G<hi
  .simp only[di Hc]
   have hm:(G+hi) / 2<U.size:=by lia
   have hg:U[(G+hi) / 2]?=some U[(G+hi) / 2]:=by simp[hm]
   have qq:U.getD ((G+hi) / 2) j=U[(G+hi) / 2]:=by simp[Array.getD,hm]
   rw[qq]
   by_cases hc:U[(G+hi) / 2]<j
   .rw[di hc]
    refine ih _ _ (by lia) h2 (by omega) (λi a e l=>?_) h5
    by_cases R:i=(G+hi) / 2
    .subst R;rw[hg] at e;cases e;exact hc
    .exact Nat.lt_trans (hs _ _ _ _ e hg (by lia)) hc
   .rw[fj hc]
    refine ih _ _ (by lia) (e_ hm) (by omega) h4 (λi a e l=>?_)
    by_cases R:i=(G+hi) / 2
    .subst R;rw[hg] at e;cases e;exact s_ hc
    .have:=hs _ _ _ _ hg e (by lia);exact e_ (c_ (s_ hc) this)
  .rw[fj Hc]
   have:G=hi:=u_ h1 (s_ Hc);subst this;exact⟨h2,h4,h5⟩
def Hn(G:Srt Z):below Z j<=Z.size/\(∀(i a:Nat),Z[i]?=some a->i<below Z j->a<j)/\(∀(i a:Nat),Z[i]?=some a->below Z j<=i->j<=a) :=
 aix G _ _ _ (gn _) (bc _) C_ (λi a _ h=>absurd h (m7 _)) (λi a e h=>by
  have:=(ir.mp e).1;lia)
def below_at(G:Srt Z)(h:Z[i]?=some j):below Z j=i:=by
 obtain⟨h1,h2,R⟩:=Hn (j:=j) G;rcases Nat.lt_trichotomy (below Z j) i with l|l|l
 .have li:=(ir.mp h).1
  have U:Z[below Z j]?=some Z[below Z j]:=by simp
  have a:=R _ _ U (bc _);have b:=G _ _ _ _ U h l
  lia
 .exact l
 .have:=h2 _ _ h l;lia
def Tc(j:Nat):has #[] j=false:=by simp[has]
set_option tactic.hygienic true in
def My{t:SetTable}(Z:Srt t.place):t.slot j=.live i↔t.place[i]?=some j:=by
 unfold slot;constructor
 .intro h
  dsimp only at h;split at h
  .rename_i e;cases h;simpa using e
  .split at h<;>cases h
 .intro h
  dsimp only;rw[below_at Z h,h];simp
def Yt{t:SetTable}(Z:Srt t.place)(G:t.dummies=#[]):t.slot j=.empty↔∀i:Nat,t.place[i]?≠some j:=by
 constructor
 .intro h i e
  rw[(My Z).mpr e] at h;cases h
 .intro h
  unfold slot;dsimp only;rw[G,Tc,fj (by simpa using h _)];rfl
def aag(G:Array α)(p:Nat)(x:α)(hp:p<=G.size)(i:Nat):(insertAt G p x)[i]?=if i<p then G[i]? else if i=p then some x else G[i-1]?:=by
 rw[<- n6,toList_insertAt];have U:(G.toList.take p).length=p:=by simp;lia
 by_cases Z:i<p
 .rw[di Z,d9 (b_ Z (g_ U)),List.getElem?_take,di Z,n6]
 .rw[fj Z,m9 (a_ (f_ U) (s_ Z)),U]
  by_cases R:i=p
  .subst R;simp
  .rw[fj R]
   obtain⟨q,hq⟩:∃q,i=p+q+1:=⟨i-p-1,by lia⟩;subst hq;rw[show p+q+1-p=q+1 by lia,List.getElem?_cons_succ,List.getElem?_drop,show p+q+1-1=p+q by lia,n6]
def Lh(Z:Array α)(p:Nat)(x:α):(insertAt Z p x).size=Z.size+1:=by have:=(insertAt_perm Z p x).length_eq;simpa using this
noncomputable def up(p i:Nat):Nat:=if i<p then i else i+1
def K4(Z:Array α)(p:Nat)(x:α)(G:p<=Z.size)(i:Nat):(insertAt Z p x)[up p i]?=Z[i]?:=by
 rw[aag Z p x G];unfold up
 by_cases h:i<p
 .simp[h]
 .rw[fj h,fj (j_ (a_ (s_ h) x_)),fj (i_ (A_ (s_ h)))];rfl
def Hf(Z:Array α)(p:Nat)(x:α)(G:p<=Z.size):(insertAt Z p x)[p]?=some x:=by rw[aag Z p x G];simp
def Ka(p i:Nat):i=p\/∃k,i=up p k:=by
 unfold up;rcases Nat.lt_trichotomy i p with h|h|h
 .exact .inr ⟨i,by simp[h]⟩
 .exact .inl h
 .exact .inr ⟨i-1,by rw[fj (by omega)];lia⟩
def aiy(hs:Srt U)(hn:∀i:Nat,U[i]?≠some j):Srt (insertAt U (below U j) j):=by
 obtain⟨R,h2,h3⟩:=Hn (j:=j) hs;intro a b x y G Z l;rcases Ka (below U j) a with rfl|⟨a',rfl⟩<;>rcases Ka (below U j) b with hb|⟨b',rfl⟩
 .subst hb;lia
 .rw[Hf _ _ _ R] at G
  rw[K4 _ _ _ R] at Z;cases G;have:below U j<=b':=by unfold up at l;split at l<;>omega
  have g:=h3 _ _ Z this;rcases Nat.lt_or_eq_of_le g with g|g
  .exact g
  .subst g;exact absurd Z (hn _)
 .subst hb
  rw[Hf _ _ _ R] at Z;rw[K4 _ _ _ R] at G;cases Z;exact h2 _ _ G (by unfold up at l;split at l<;>omega)
 .rw[K4 _ _ _ R] at G Z
  exact hs _ _ _ _ G Z (by unfold up at l;split at l<;>split at l<;>omega)
noncomputable def adv(m:Nat)(p:Probe):Probe:=({ SetTable.fresh 0 0 true with mask:=m }:SetTable).advance p
def anr(t:SetTable)(p:Probe):t.advance p=adv t.mask p:=rfl
def Uq(h:p.more > 0):adv m p={ p with j:=p.j+1,more:=p.more-1 }:=di h
def Pn(h:¬p.more > 0):adv m p={ p with j:=(leap m p.i p.perturb).1,more:=runEnd m (leap m p.i p.perturb).1-(leap m p.i p.perturb).1,i:=(leap m p.i p.perturb).1,perturb:=(leap m p.i p.perturb).2 }:=fj h
noncomputable def beg(m i pt:Nat):Probe:={ j:=i,more:=runEnd m i-i,i:=i,perturb:=pt,dummy:=none }
def P(m:Nat)(h:Int):Nat->Probe
 |0=>beg m (bits h%(m+1)) (bits h)|n+1=>adv m (P m h n)
def Wi(t:SetTable)(h:Int):t.probeStart h=P t.mask h 0:=rfl
theorem Ur(m:Nat)(h:Int):∀n,(P m h n).dummy=none
 |0=>rfl
 |n+1=>by
  show(adv m (P m h n)).dummy=none
  by_cases q:(P m h n).more > 0
  .rw[Uq q];exact Ur m h n
  .rw[Pn q];exact Ur m h n
noncomputable def I(m:Nat)(h:Int):Nat->Nat
 |0=>bits h%(m+1)|T+1=>(I m h T*5+1+bits h / 32 ^ (T+1))%(m+1)
def aiz(m i:Nat):runEnd m i-i<=9:=by unfold runEnd;split<;>lia
theorem Wj{m:Nat}{h:Int}{n i pt:Nat}(e:P m h n=beg m i pt):∀c,c<=runEnd m i-i->P m h (n+c)={ j:=i+c,more:=runEnd m i-i-c,i:=i,perturb:=pt,dummy:=none }
 |0,_=>by rw[Nat.add_zero,e];rfl
 |c+1,hc=>by
  have:=Wj e c (by lia);show adv m (P m h (n+c))=_;rw[this,Uq (by show 0<runEnd m i-i-c;lia)];simp only
  congr 1
def aeq(e:P m h n=beg m i pt):P m h (n+(runEnd m i-i)+1)=beg m ((i*5+1+pt / 32)%(m+1)) (pt / 32):=by show adv m (P m h (n+(runEnd m i-i)))=_;rw[Wj e _ (bc _),Pn (by simp)];rfl
theorem aer(m:Nat)(h:Int):∀T,∃n,n<=10*T/\P m h n=beg m (I m h T) (bits h / 32 ^ T)
 |0=>⟨0,gn _,by simp[P,I]⟩
 |T+1=>by
  obtain⟨n,G,Z⟩:=aer m h T;have:=aiz m (I m h T);refine⟨_,?_,(aeq Z).trans ?_⟩
  .lia
  .rw[Nat.div_div_eq_div_mul,<- Nat.pow_succ];rfl
noncomputable def f5(m x:Nat):Nat:=(x*5+1)%(m+1)
def it(m:Nat):Nat->Nat->Nat
 |0,x=>x|k+1,x=>f5 m (it m k x)
theorem Pq(m a x:Nat):∀k,it m (a+k) x=it m k (it m a x)
 |0=>rfl|k+1=>by show f5 m (it m (a+k) x)=_;rw[Pq m a x k];rfl
def Cov(m:Nat):Prop:=∀i j,i<=m->j<=m->∃k,k<=m/\it m k i=j
def ant(h0:it m (m+1) 0=0)(h:∀j,j<=m->∃k,k<=m/\it m k 0=j):Cov m:=λi j hi R=>by
 obtain⟨a,la,G⟩:=h i hi;obtain⟨b,lb,Z⟩:=h j R
 by_cases U:a<=b
 .refine⟨b-a,a_ C_ lb,?_⟩
  rw[<- G,<- Pq,show a+(b-a)=b by lia,Z]
 .refine⟨m+1+b-a,by omega,?_⟩
  rw[<- G,<- Pq,show a+(m+1+b-a)=(m+1)+b by lia,Pq,h0,Z]
def orb(m:Nat):Nat->Nat->List Nat
 |0,_=>[]|k+1,x=>x::orb m k (f5 m x)
theorem aah{m:Nat}:∀{k x j:Nat},j∈orb m k x->∃q,q<k/\it m q x=j
 |0,_,_,h=>by simp[orb] at h
 |k+1,x,j,h=>by
  simp only[orb,cg] at h;rcases h with rfl|h
  .exact⟨0,A_ (gn _),rfl⟩
  .obtain⟨q,l,e⟩:=aah h
   refine⟨1+q,by lia,?_⟩;rw[Pq];exact e
def Li(Z:it m (m+1) 0=0)(h:((List.range (m+1)).all λj=>(orb m (m+1) 0).contains j)=true):Cov m :=
 ant Z λj G=>by have:=nj.mp h j (by simp;exact A_ G);obtain⟨q,l,e⟩:=aah (by simpa using this);exact⟨q,z_ l,e⟩
def Yu(m:Nat):Prop:=m=7\/m=15\/m=31\/m=63\/m=127
def ayo:Cov 7:=Li (by decide+kernel) (by decide+kernel)
def as8:Cov 15:=Li (by decide+kernel) (by decide+kernel)
def as9:Cov 31:=Li (by decide+kernel) (by decide+kernel)
def ata:Cov 63:=Li (by decide+kernel) (by decide+kernel)
def anu:Cov 127:=Li (by decide+kernel) (by decide+kernel)
def Yu.cov(h:Yu m):Cov m:=by
 rcases h with rfl|rfl|rfl|rfl|rfl
 .exact ayo
 .exact as8
 .exact as9
 .exact ata
 .exact anu
def ai0(h:Int):bits h<2 ^ 64:=by
 unfold bits;have Z:=vy h (b:=2 ^ 64) (by decide);have G:=ux h (b:=2 ^ 64) (by decide)
 lia
theorem atb(m:Nat)(h:Int):∀T,I m h T<=m
 |0=>vd (Nat.mod_lt (bits h) (Nat.succ_pos m))|T+1=>vd (Nat.mod_lt (I m h T*5+1+bits h / 32 ^ (T+1)) (Nat.succ_pos m))
theorem aes(m:Nat)(h:Int):∀k,I m h (13+k)=it m k (I m h 13)
 |0=>rfl
 |k+1=>by
  show(I m h (13+k)*5+1+bits h / 32 ^ (13+k+1))%(m+1)=f5 m (it m k (I m h 13));have:bits h / 32 ^ (13+k+1)=0:=by
   apply Nat.div_eq_of_lt;refine fu (ai0 h) ?_
   calc 2 ^ 64<=32 ^ 13:=by decide
    _<=32 ^ (13+k+1):=Nat.pow_le_pow_right (by decide) (a_ x_ x_)
  rw[this,aes m h k];rfl
def cover(Z:Yu m)(h:Int)(j:Nat)(U:j<=m):∃T,T<=13+m/\I m h T=j:=by obtain⟨k,G,e⟩:=Z.cov (I m h 13) j (atb m h 13) U;exact⟨13+k,w_ G,(aes m h k).trans e⟩
def ai1(U:Yu m)(h:Int)(j:Nat)(Z:j<=m):∃n,n<10*turns m/\(P m h n).j=j:=by obtain⟨T,lT,e⟩:=cover U h j Z;obtain⟨n,R,G⟩:=aer m h T;exact⟨n,by unfold turns;lia,by rw[G];exact e⟩
def mod_le(a m:Nat):a%(m+1)<=m:=vd (Nat.mod_lt a (Nat.succ_pos m))
def Mz(h:i<=m):i<=runEnd m i/\runEnd m i<=m:=by unfold runEnd;split<;>omega
theorem atc(m:Nat)(h:Int):∀n,(P m h n).j+(P m h n).more<=m
 |0=>by
  have:=Mz (mod_le (bits h) m);show bits h%(m+1)+(runEnd m (bits h%(m+1))-bits h%(m+1))<=m
  omega
 |n+1=>by
  have Z:=atc m h n;show(adv m (P m h n)).j+(adv m (P m h n)).more<=m
  by_cases q:(P m h n).more > 0
  .rw[Uq q];simp only;lia
  .rw[Pn q]
   have:=Mz (mod_le ((P m h n).i*5+1+(P m h n).perturb / 32) m);show(leap m (P m h n).i (P m h n).perturb).1+(runEnd m (leap m (P m h n).i (P m h n).perturb).1-(leap m (P m h n).i (P m h n).perturb).1)<=m
   have e:(leap m (P m h n).i (P m h n).perturb).1=((P m h n).i*5+1+(P m h n).perturb / 32)%(m+1):=rfl;rw[e];omega
def ayp(m:Nat)(h:Int)(n:Nat):(P m h n).j<=m:=by have:=atc m h n;lia
def Occ(t:SetTable)(j:Nat):Prop:=∃i:Nat,t.place[i]?=some j
structure Us(t:SetTable)(es:Array (Int×Value)):Prop where
 msk:Yu t.mask
 dum:t.dummies=#[]
 Yp:t.place.size=es.size
 srt:Srt t.place
 bnd:∀(i j:Nat),t.place[i]?=some j->j<=t.mask
 ful:t.place.size<=t.mask
 rch:∀(i j:Nat) e,t.place[i]?=some j->es[i]?=some e->∃n,(P t.mask e.1 n).j=j/\∀m,m<n->Occ t (P t.mask e.1 m).j
theorem Us.fits(k:Us t es):t.fits es.size=true:=by unfold SetTable.fits fill;rw[k.dum];simp[k.Yp];have:=k.ful;have:=k.Yp;lia
def Yu.odd(h:Yu m):m%2=1:=by rcases h with rfl|rfl|rfl|rfl|rfl<;>rfl
def Us.way(k:Us t es):t.gaveWay=false:=by unfold gaveWay;rw[k.msk.odd];rfl
def aet(hs:Srt G)(h:G.size<=m):∃j,j<=m/\∀i:Nat,G[i]?≠some j:=by
 apply Classical.byContradiction;intro hn;have all:∀j,j<=m->∃i:Nat,G[i]?=some j:=λj U=>by apply Classical.byContradiction;intro hc;exact hn ⟨j,U,λi e=>hc ⟨i,e⟩⟩
 have:∀j,j<=m->∀i:Nat,G[i]?=some j->j<=i:=by
  intro j
  induction j with
  |zero=>intro _ i _;exact gn _
  |succ j ih =>
   intro U i e;obtain⟨R,Z⟩:=all j (by lia);have:=ih (by lia) R Z;rcases Nat.lt_trichotomy i R with l|l|l
   .have:=hs _ _ _ _ e Z l;lia
   .subst l;rw[e] at Z;injection Z with Z;exact a_ (f_ Z) this
   .exact a_ (v_ this) l
 obtain⟨i,e⟩:=all m (bc _);have h1:=this m (bc _) i e;have h2:=(ir.mp e).1;exact l_ h2 (a_ h h1)
structure Fst(t:SetTable)(h:Int)(N:Nat):Prop where
 lt:N<10*turns t.mask
 emp:¬Occ t (P t.mask h N).j
 occ:∀m,m<N->Occ t (P t.mask h m).j
def least{p:Nat->Prop}:∀{n:Nat},p n->∃k,k<=n/\p k/\∀m,m<k->¬p m:=by
 intro n
 induction n using Nat.strongRecOn with
 |ind n R =>
  intro h
  by_cases G:∃m,m<n/\p m
  .obtain⟨m,l,Z⟩:=G
   obtain⟨k,U,a,b⟩:=R m l Z;exact⟨k,e_ (c_ U l),a,b⟩
  .exact⟨n,bc _,h,λm l Z=>G ⟨m,l,Z⟩⟩
def Us.fst(k:Us t es)(h:Int):∃N,Fst t h N:=by obtain⟨j,R,e⟩:=aet k.srt k.ful;obtain⟨n,U,Z⟩:=ai1 k.msk h j R;obtain⟨N,l,a,b⟩:=least (p:=λn=>¬Occ t (P t.mask h n).j) (n:=n) (λ⟨i,c⟩=>e i (by rw[Z] at c;exact c));exact⟨N,c_ l U,a,λm G=>Classical.not_not.mp (b m G)⟩
theorem aeu(k:Us t es)(F:Fst t h N)(G:Nat->Int):∀(Z n:Nat),n<=N->N-n<Z ->
 (probe.go t G h Z (P t.mask h n)=some (.empty (P t.mask h N).j none)/\∀m,n<=m->m<N->∀i:Nat,t.place[i]?=some (P t.mask h m).j->G i≠h)
\/∃m i:Nat,n<=m/\m<N/\t.place[i]?=some (P t.mask h m).j/\G i=h/\(∀q,n<=q->q<m->∀i:Nat,t.place[i]?=some (P t.mask h q).j->G i≠h)
 /\probe.go t G h Z (P t.mask h n)=some (.candidate (P t.mask h m).j i (P t.mask h (m+1))):=by
 intro Z
 induction Z with
 |zero=>intro n _ l;omega
 |succ Z ih =>
  intro n hn l;unfold probe.go
  by_cases e:n=N
  .subst e
   left
   rw[(Yt k.srt k.dum).mpr (λi c=>F.emp ⟨i,c⟩)];simp only;rw[Ur];exact⟨rfl,λm a b=>by lia⟩
  .obtain⟨i,hi⟩:=F.occ n (by lia)
   rw[(My k.srt).mpr hi];simp only[anr];have qq:adv t.mask (P t.mask h n)=P t.mask h (n+1):=rfl;rw[qq]
   by_cases R:G i=h
   .right
    refine⟨n,i,bc _,by lia,hi,R,λq a b=>by lia,?_⟩;rw[di (by simp[R])]
   .rw[fj (by simp[R])]
    have un:∀U:Nat,t.place[U]?=some (P t.mask h n).j->G U≠h:=λU e'=>by have a:=below_at k.srt e';have b:=below_at k.srt hi;rw[<- a,b];exact R
    rcases ih (n+1) (by lia) (by lia) with⟨a,b⟩|⟨m,U,a,b,c,d,e1,e2⟩
    .left
     refine⟨a,λm x y=>?_⟩
     by_cases q:m=n
     .subst q;exact un
     .exact b m (by lia) y
    .right
     refine⟨m,U,by lia,b,c,d,λq x y=>?_,e2⟩
     by_cases z:q=n
     .subst z;exact un
     .exact e1 q (by lia) y
def Us.ahead(k:Us t es)(F:Fst t h N){i:Nat}(G:es[i]?=some e)(R:e.1=h):∃m,m<N/\t.place[i]?=some (P t.mask h m).j:=by
 have U:i<t.place.size:=by rw[k.Yp];exact(ir.mp G).1
 have Z:t.place[i]?=some t.place[i]:=by simp[U]
 obtain⟨n,a,b⟩:=k.rch i _ e Z G;subst R;refine⟨n,?_,by rw[a];exact Z⟩;rcases Nat.lt_trichotomy n N with l|l|l
 .exact l
 .subst l;exact absurd ⟨i,by rw[a];exact Z⟩ F.emp
 .exact absurd (b N l) F.emp
def Ut(G:Srt t.place)(q:Nat):Occ (t.put j).1 q↔q=j\/Occ t q:=by
 obtain⟨Z,R,U⟩:=Hn (j:=j) G;constructor
 .rintro⟨i,e⟩
  have e:(insertAt t.place (below t.place j) j)[i]?=some q:=e;rcases Ka (below t.place j) i with rfl|⟨i',rfl⟩
  .rw[Hf _ _ _ Z] at e;cases e;exact .inl rfl
  .rw[K4 _ _ _ Z] at e;exact .inr ⟨i',e⟩
 .rintro(rfl|⟨i,e⟩)
  .exact⟨_,Hf _ _ _ Z⟩
  .exact⟨up (below t.place j) i,(K4 _ _ _ Z i).trans e⟩
theorem Us.put(k:Us t es)(F:Fst t h N)(room:t.place.size+1<=t.mask) :
 Us (t.put (P t.mask h N).j).1 (insertAt es (t.put (P t.mask h N).j).2 (h,x)):=by
 obtain⟨R,h2,h3⟩:=Hn (j:=(P t.mask h N).j) k.srt;have U:below t.place (P t.mask h N).j<=es.size:=by rw[<- k.Yp];exact R
 refine⟨k.msk,?_,?_,?_,?_,?_,?_⟩
 .show(if has t.dummies _ then _ else t.dummies)=#[]
  rw[k.dum,Tc];rfl
 .show(insertAt t.place _ _).size=(insertAt es _ _).size
  rw[Lh,Lh,k.Yp]
 .exact aiy k.srt (λi e=>F.emp ⟨i,e⟩)
 .intro i j e
  rcases(Ut k.srt j).mp ⟨i,e⟩ with rfl|⟨i',e'⟩
  .exact ayp _ _ _
  .exact k.bnd i' j e'
 .show(insertAt t.place _ _).size<=t.mask
  rw[Lh];exact room
 .intro i j e G Z
  have G:(insertAt t.place (below t.place (P t.mask h N).j) (P t.mask h N).j)[i]?=some j:=G;have Z:(insertAt es (below t.place (P t.mask h N).j) (h,x))[i]?=some e:=Z;show ∃n,(P t.mask e.1 n).j=j/\∀m,m<n->Occ (t.put (P t.mask h N).j).1 (P t.mask e.1 m).j
  rcases Ka (below t.place (P t.mask h N).j) i with rfl|⟨i',rfl⟩
  .rw[Hf _ _ _ R] at G
   rw[Hf _ _ _ U] at Z;cases G;cases Z;exact⟨N,rfl,λm l=>(Ut k.srt _).mpr (.inr (F.occ m l))⟩
  .rw[K4 _ _ _ R] at G
   rw[K4 _ _ _ U] at Z;obtain⟨n,a,b⟩:=k.rch i' j e G Z;exact⟨n,a,λm l=>(Ut k.srt _).mpr (.inr (b m l))⟩
abbrev OcO(ow:Array (Option Nat))(j:Nat):Prop:=∃i,ow[j]?=some (some i)
structure Own(m:Nat)(ow:Array (Option Nat))(hs:X2):Prop where
 Yp:ow.size=m+1
 cnt:ow.toList.countP Option.isSome=hs.length
 lt:∀(j i:Nat),ow[j]?=some (some i)->i<hs.length
 inj:∀(j j' i:Nat),ow[j]?=some (some i)->ow[j']?=some (some i)->j=j'
 at':∀(i:Nat) h,hs[i]?=some h->∃j n,ow[j]?=some (some i)/\(P m h n).j=j/\∀q,q<n->OcO ow (P m h q).j
def getD_none{Z:Array (Option Nat)}(G:Z.size=m+1)(h:(Z.getD j (some 0)).isNone=true):Z[j]?=some none:=by
 by_cases l:j<Z.size
 .simp[Array.getD,l] at h;simp[l,h]
 .simp[Array.getD,l] at h
def getD_some(G:Z.size=m+1)(U:j<=m)(h:¬(Z.getD j (some 0)).isNone=true):OcO Z j:=by
 have l:j<Z.size:=by lia
 simp[Array.getD,l] at h;unfold OcO;rw[show Z[j]?=some Z[j] by simp[l]];cases e:Z[j] with
 |none=>exact absurd e h|some i=>exact⟨i,rfl⟩
def ac0(hz:G.size=m+1)(h:Int):∀(Z T n:Nat),P m h n=beg m (I m h T) (bits h / 32 ^ T)->(∀q,q<n->OcO G (P m h q).j) ->
 (∃k,k<Z/\G[I m h (T+k)]?=some none)->∃j R,layClean.free m G Z (I m h T) (bits h / 32 ^ T)=some j/\(P m h R).j=j/\G[j]?=some none/\∀q,q<R->OcO G (P m h q).j:=by
 intro Z
 induction Z with
 |zero=>rintro T n _ _ ⟨k,l,_⟩;lia
 |succ Z ih =>
  rintro T n e hq ⟨k,lk,ek⟩;have hI:=atb m h T;obtain⟨r1,r2⟩:=Mz hI;unfold layClean.free;cases hf:(List.range (runEnd m (I m h T)+1-I m h T)).find? λk=>(G.getD (I m h T+k) (some 0)).isNone with
  |some c =>
   obtain⟨a,b,d⟩:=List.find?_range_eq_some.mp hf;have b:=iy.mp b;refine⟨_,n+c,rfl,by rw[Wj e c (by omega)],getD_none hz a,λq l=>?_⟩
   by_cases hn:q<n
   .exact hq q hn
   .obtain⟨c',rfl⟩:∃c',q=n+c':=⟨q-n,by lia⟩
    rw[Wj e c' (by lia)];show OcO G (I m h T+c');exact getD_some hz (by lia) (λhh=>by
     have:=d c' (by lia);simp only[hh] at this;cases this)
  |none =>
   have Jf:=List.find?_eq_none.mp hf;have U:∀c,c<=runEnd m (I m h T)-I m h T->OcO G (I m h T+c):=λc hc=>getD_some hz (by lia) (Jf c (iy.mpr (by lia)))
   cases k with
   |zero =>
    obtain⟨i,ei⟩:=U 0 (gn _);rw[Nat.add_zero] at ek ei;rw[ek] at ei;cases ei
   |succ k =>
    have pe:bits h / 32 ^ T / 32=bits h / 32 ^ (T+1):=by rw[Nat.div_div_eq_div_mul,<- Nat.pow_succ]
    have:=ih (T+1) (n+(runEnd m (I m h T)-I m h T)+1) (by rw[aeq e,pe];rfl) (λq l=>?_) ⟨k,by lia,by rw[show T+1+k=T+(k+1) by lia];exact ek⟩
    .obtain⟨j,R,e1,e2⟩:=this
     refine⟨j,R,?_,e2⟩;rw[<- e1];show layClean.free m G Z ((I m h T*5+1+bits h / 32 ^ T / 32)%(m+1)) (bits h / 32 ^ T / 32)=_;rw[pe];rfl
    .by_cases hn:q<n
     .exact hq q hn
     .obtain⟨c',rfl⟩:∃c',q=n+c':=⟨q-n,by lia⟩
      rw[Wj e c' (by lia)];show OcO G (I m h T+c');exact U c' (by lia)
def Own.room(k:Own m Z R)(h:R.length<=m):∃j,j<=m/\Z[j]?=some none:=by
 apply Classical.byContradiction;intro hn;have:Z.toList.countP Option.isSome=Z.toList.length:=List.countP_eq_length.mpr λa ha=>by
  obtain⟨j,U,e⟩:=ug ha;cases a with
  |some i=>rfl
  |none =>
   have G:j<Z.size:=by simpa using U
   refine absurd ⟨j,by have:=k.Yp;exact z_ (b_ G (f_ this)),?_⟩ hn;rw[<- n6,dz U,e]
 rw[k.cnt] at this;have:=k.Yp;simp at *
 lia
theorem Own.free(hm:Yu m)(k:Own m Z U)(hl:U.length<=m)(h:Int):∃j G,layClean.free m Z (turns m) (bits h%(m+1)) (bits h)=some j/\(P m h G).j=j/\Z[j]?=some none/\∀q,q<G->OcO Z (P m h q).j:=by obtain⟨j,R,e⟩:=k.room hl;obtain⟨T,lT,eT⟩:=cover hm h j R;have:=ac0 k.Yp h (turns m) 0 0 (by simp[P,I]) (λq l=>by lia) ⟨T,by unfold turns;lia,by rw[p8,eT];exact e⟩;simpa[I] using this
def Own.lay(k:Own m Z G)(e1:(P m h n').j=j)(e2:Z[j]?=some none)(e3:∀q,q<n'->OcO Z (P m h q).j) :
 Own m (Z.setIfInBounds j (some G.length)) (G++[h]):=by
 have lj:j<Z.size:=(ir.mp e2).1
 have get:∀q:Nat,(Z.setIfInBounds j (some G.length))[q]?=if j=q then some (some G.length) else Z[q]?:=λq=>by rw[Array.getElem?_setIfInBounds];split<;>simp_all
 have U:∀q,OcO Z q->OcO (Z.setIfInBounds j (some G.length)) q:=λq ⟨i,e⟩=>by refine⟨i,?_⟩;rw[get,fj (λh=>by subst h;rw[e2] at e;cases e)];exact e
 refine⟨by simp[k.Yp],?_,λq i e=>?_,λq q' i e R=>?_,λi h' e=>?_⟩
 .rw[Array.toList_setIfInBounds,List.countP_set (by simpa using lj),k.cnt]
  have:Z.toList[j]'(by simpa using lj)=none:=by have:=(ir.mp e2).2;simpa using this
  rw[this];simp
 .rw[get] at e
  split at e
  .cases e;simp
  .have:=k.lt q i e;simp;exact A_ (e_ this)
 .rw[get] at e R
  split at e<;>split at R
  .lia
  .cases e;have:=k.lt _ _ R;lia
  .cases R;have:=k.lt _ _ e;lia
  .exact k.inj q q' i e R
 .by_cases l:i<G.length
  .rw[d9 l] at e
   obtain⟨j',n,a,b,c⟩:=k.at' i h' e;refine⟨j',n,?_,b,λq l=>U _ (c q l)⟩;rw[get,fj (λh=>by subst h;rw[e2] at a;cases a)];exact a
  .have hi:i=G.length:=by
    have:=(ak.mp e).1;simp at this;exact u_ (z_ this) (s_ l)
   subst hi;simp at e;subst e;exact⟨j,n',by rw[get,di rfl],e1,λq l=>U _ (e3 q l)⟩
theorem aai{m:Nat}(hm:Yu m):∀(Z G:X2)(R:Array (Option Nat)),Own m R G->G.length+Z.length<=m+1 ->
 ∃U,Z.foldl (λqq h=>do
  let (owner,k) <- qq
  let j <- layClean.free m owner (turns m) (bits h%(m+1)) (bits h)
  pure (owner.setIfInBounds j (some k),k+1)) (some (R,G.length))=some (U,G.length+Z.length)/\Own m U (G++Z)
 |[],G,R,k,_=>⟨R,rfl,by simpa using k⟩
 |h::Z,G,R,k,l=>by
  obtain⟨j,n',e0,e1,e2,e3⟩:=k.free hm (by simp at l;lia) h;have k':=k.lay e1 e2 e3;obtain⟨U,a,b⟩:=aai hm Z (G++[h]) _ k' (by simp at l ⊢;lia);refine⟨U,?_,by simpa using b⟩;rw[List.foldl_cons];have:(do
   let (owner,k) <- some (R,G.length)
   let j <- layClean.free m owner (turns m) (bits h%(m+1)) (bits h)
   pure (owner.setIfInBounds j (some k),k+1))=some (R.setIfInBounds j (some G.length),(G++[h]).length):=by
   show(layClean.free m R (turns m) (bits h%(m+1)) (bits h) >>= _)=_;rw[e0];simp
  rw[this,a]
  simp;lia
def aev(R:Yu m)(Z:Array Int)(l:Z.size<=m+1):∃G,layClean m Z=some G/\Own m G Z.toList:=by have U:Own m (Array.replicate (m+1) none) []:=⟨by simp,by simp,λj i e=>by simp[Array.getElem?_replicate] at e,λj j' i e=>by simp[Array.getElem?_replicate] at e,λi h e=>by simp at e⟩;obtain⟨G,a,b⟩:=aai R Z.toList [] _ U (by simpa using l);refine⟨G,?_,by simpa using b⟩;unfold layClean;rw[<- Array.foldl_toList];exact(mz (Option.map (·.1)) a).trans rfl
noncomputable def lv(m:Nat)(Z:Array (Option Nat)):List (Nat×Nat):=(List.range (m+1)).filterMap λj=>(Z.getD j none).map (j,·)
def K5(k:Own m Z R):(j,i)∈lv m Z↔Z[j]?=some (some i):=by
 unfold lv;rw[List.mem_filterMap];constructor
 .rintro⟨q,a,b⟩
  obtain⟨i',G,U⟩:=bw.mp b;cases U;have:j<Z.size:=by rw[k.Yp];exact iy.mp a
  simp[Array.getD,this] at G;simp[this,G]
 .intro e
  have l:=(ir.mp e).1;refine⟨j,iy.mpr (by rw[<- k.Yp];exact l),?_⟩;have:Z.getD j none=some i:=by simp[Array.getD,l,(ir.mp e).2]
  rw[this];rfl
def aew(m:Nat)(G:Array (Option Nat)):(lv m G).Pairwise λa b=>a.1<b.1:=by unfold lv;refine List.Pairwise.filterMap _ (λa a' U b R b' Z=>?_) List.pairwise_lt_range;obtain⟨_,_,rfl⟩:=bw.mp R;obtain⟨_,_,rfl⟩:=bw.mp Z;exact U
def ai2(k:Own m G U):((lv m G).map (·.2)).Perm (List.range U.length):=by
 refine(List.perm_ext_iff_of_nodup ?_ List.nodup_range).mpr λi=>?_
 .rw[List.nodup_iff_pairwise_ne,List.pairwise_map]
  refine(aew m G).imp_of_mem fun{a b} Z hb Hc e=>?_
  have:=k.inj a.1 b.1 a.2 ((K5 k).mp Z) (by rw[e];exact(K5 k).mp hb);exact l_ Hc (g_ this)
 .rw[dh,iy]
  constructor
  .rintro⟨a,Z,rfl⟩;exact k.lt _ _ ((K5 k).mp Z)
  .intro l
   obtain⟨j,n,a,_⟩:=k.at' i _ (dz l);exact⟨(j,i),(K5 k).mpr a,rfl⟩
theorem aex{G U:Type}{g:G->Option U}:∀{l:List G},(∀x∈l,(g x).isSome=true)->∀q:Nat,(l.filterMap g)[q]?=l[q]?.bind g
 |[],_,q=>by simp
 |x::l,h,q=>by
  have Z:=h x (bz ..);obtain⟨y,e⟩:=ji.mp Z;rw[List.filterMap_cons_some e];cases q with
  |zero=>simp[e]|succ q=>simpa using aex (λx Z=>h x (bu _ Z)) q
def ai3(hm:Yu m)(fg mv:Nat)(ld pl:Bool)(G:Array (Int×Value))(l:G.size<=m) :
 ∃t Z,laid m fg mv ld pl (G.map (·.1))=some (t,Z)/\t.mask=m/\Us t (Z.filterMap (G[·]?))/\(Z.filterMap (G[·]?)).toList.Perm G.toList/\(Z.filterMap (G[·]?)).size=G.size
 /\t.led=ld/\t.plain=pl/\t.finger=fg/\Z.toList.Perm (List.range G.size):=by
 obtain⟨U,e,k⟩:=aev hm (G.map (·.1)) (by simp;exact a_ l x_);have Td:=ai2 k;simp at Td;have qq:(lv m U).length=G.size:=by have:=Td.length_eq;simpa using this
 have R8:((((lv m U).map (·.2)).toArray).filterMap (G[·]?)).size=G.size:=by have:=(Td.filterMap (G[·]?)).length_eq;rw[filterMap_getElem?_range] at this;rw[<- uf,Array.toList_filterMap,this];simp
 refine⟨{ mask:=m,place:=((lv m U).map (·.1)).toArray,dummies:=#[],finger:=fg,led:=ld,moves:=mv,plain:=pl },((lv m U).map (·.2)).toArray,?_,rfl,?_,?_,?_,rfl,rfl,rfl,Td⟩
 .unfold laid;rw[e];rfl
 .have qk:∀x∈(lv m U).map (·.2),(G[x]?).isSome=true:=λx hx=>by
   have:=iy.mp (Td.mem_iff.mp hx)
   simp;exact this
  have get:∀q:Nat,((((lv m U).map (·.2)).toArray).filterMap (G[·]?))[q]?=((lv m U)[q]?).bind λa=>G[a.2]?:=λq=>by rw[<- n6,Array.toList_filterMap,aex qk,gw];cases(lv m U)[q]?<;>rfl
  have R:∀q j:Nat,(((lv m U).map (·.1)).toArray)[q]?=some j↔∃i,(lv m U)[q]?=some (j,i):=λq j=>by
   simp only[List.getElem?_toArray,gw,bw];constructor
   .rintro⟨a,h,rfl⟩;exact⟨a.2,h⟩
   .rintro⟨i,h⟩;exact⟨_,h,rfl⟩
  refine⟨hm,rfl,?_,?_,?_,?_,?_⟩
  .show(((lv m U).map (·.1)).toArray).size=_
   rw[R8];simp[qq]
  .intro i j a b ea eb lt
   obtain⟨i1,e1⟩:=(R i a).mp ea;obtain⟨i2,e2⟩:=(R j b).mp eb;obtain⟨l1,g1⟩:=ak.mp e1;obtain⟨l2,g2⟩:=ak.mp e2;have:=List.pairwise_iff_getElem.mp (aew m U) i j l1 l2 lt;rw[g1,g2] at this;exact this
  .intro i j e
   obtain⟨i1,e1⟩:=(R i j).mp e;have:=(K5 k).mp (aq e1);have:=(ir.mp this).1;rw[k.Yp] at this;show j<=m
   exact z_ this
  .show(((lv m U).map (·.1)).toArray).size<=m
   simp[qq];exact l
  .intro q j e' hp he
   obtain⟨i,e1⟩:=(R q j).mp hp;rw[get,e1] at he;have he:G[i]?=some e':=he;obtain⟨j',n,a,b,c⟩:=k.at' i e'.1 (by simp[he]);have hj:=k.inj j j' i ((K5 k).mp (aq e1)) a;subst hj;refine⟨n,b,λw lw=>?_⟩;obtain⟨i',qv⟩:=c w lw;obtain⟨z,hz⟩:=j5.mp ((K5 k).mpr qv);exact⟨z,(R z _).mpr ⟨i',hz⟩⟩
 .rw[Array.toList_filterMap]
  have:=Td.filterMap (G[·]?);rw[filterMap_getElem?_range] at this;exact this
 .exact R8
def ac2:∀n,n<32->Yu (sizeAbove (grown n)-1)/\n<=sizeAbove (grown n)-1/\n+1<=sizeAbove (grown n)-1/\¬(n*5 >= (sizeAbove (grown n)-1)*3)/\sizeAbove (grown n)<=128:=by unfold Yu;decide+kernel
section
variable{prog:Program}{w:World}{K:Type}[DecidableEq K]{knd:KeyKind prog w K}{A:Around}{E:Y1}{s:Shared}
def Yv(n:Nat)(h:carriedByValue v=true):ofAClassStatement n v=pure false:=by cases v<;>first|(simp[carriedByValue] at h;done)|(unfold ofAClassStatement;rfl)
def Pu(hk:IsTupleKey knd s.heap ks a)(h:Q false s):wpAny (model prog w) A (ofAClassStatement 8 (.ref a)) Q E s:=by
 have hT:=hk.typeIs;obtain⟨o,G,n,ho,_,hd,hi⟩:=hk;unfold ofAClassStatement;refine aa (wpAny_typeOf hT ?_);show wpAny _ _ (if("tuple"=="tuple")=true then _ else _) _ _ s;rw[di (by decide)];refine aa (aj ?_);simp only[vo,du,ig];refine aa (ni ho hd ?_);refine aa ?_;show wpAny _ _ (forIn G _ _) _ _ s;rw[<- Array.forIn_toList];refine qz _ (λZ r U=>r.1=none/\U=s/\∀v∈Z,carriedByValue v=true) _ ?_ ?_ _ _ ⟨rfl,rfl,hi.byValue⟩
 .rintro v Z r U ⟨R,rfl,Jf⟩
  rw[Yv _ (Jf v bz)];refine aa (aj ?_);simp only[du,ig];exact aj ⟨rfl,rfl,λu qq=>Jf u (bu _ qq)⟩
 .rintro⟨r1,r2⟩ U ⟨R,rfl,_⟩
  simp only at R;subst R;exact aj h
def aey(hk:IsTupleKey knd s.heap G a)(hs:∀v∈st,∃G b,v=.ref b/\IsTupleKey knd s.heap G b)(h:Q false s) :
 wpAny (model prog w) A (searchCouldBeSeen (.ref a) st) Q E s:=by
 unfold searchCouldBeSeen;refine aa ?_;refine qz _ (λZ r R=>r.1=none/\R=s/\∀v∈Z,∃G b,v=.ref b/\IsTupleKey knd s.heap G b) _ ?_ ?_ _ _ ⟨rfl,rfl,hs⟩
 .rintro v Z r R ⟨hr,rfl,Jf⟩
  obtain⟨qq,b,rfl,hb⟩:=Jf v bz;have U:∀v∈Z,∃G b,v=.ref b/\IsTupleKey knd R.heap G b:=λv hv=>Jf v (bu _ hv)
  dsimp only;split
  .exact aj ⟨rfl,rfl,U⟩
  .refine aa (wpAny_eqIsQuiet_tuple hk ?_)
   simp only[vo,du,ig];refine aa (wpAny_eqIsQuiet_tuple hb ?_);simp only[vo,du,ig];refine aa (Pu hk ?_);simp only[du,ig];refine aa (Pu hb ?_);simp only[du,ig];exact aj ⟨rfl,rfl,U⟩
 .rintro⟨r1,r2⟩ R ⟨hr,rfl,_⟩
  simp only at hr;subst hr;exact aj h
def ent(knd:KeyKind prog w K)(x:List K×Addr):Int×Value:=(tupleKeyHash knd x.1,.ref x.2)
def Yw{G:Array (Int×Value)}{Z:List (List K×Addr)}(U:G.toList=Z.map (ent knd))(j:Nat):G[j]?=(Z[j]?).map (ent knd):=by rw[<- n6,U,gw]
def ac3{xs:List (List K×Addr)}(hu:A.units<cLine)(hk:IsTupleKey knd s.heap k p)(ho:s.heap.get? a=some o)(hd:o.data=.set es ep t)(T:Us t es)(he:es.toList=xs.map (ent knd))(hx:∀x∈xs,IsTupleKey knd s.heap x.1 x.2)(hn:(xs.map (·.1)).Nodup)(F:Fst t (tupleKeyHash knd k) N)(q6:∀(i:Nat) x,xs[i]?=some x->x.1=k->Q (.there (if adding then none else some i)) s)(z3:(∀x∈xs,x.1≠k)->Q (.free (P t.mask (tupleKeyHash knd k) N).j false) s) :
 ∀(Z n:Nat)(st:Option Probe),n<=N->N-n<Z->st.getD (t.probeStart (tupleKeyHash knd k))=P t.mask (tupleKeyHash knd k) n ->
  (∀m,m<n->∀(i:Nat) x,t.place[i]?=some (P t.mask (tupleKeyHash knd k) m).j->xs[i]?=some x->x.1≠k) ->
  wpAny (model prog w) A (setSearchFrom a (.ref p) (tupleKeyHash knd k) adding Z st) Q E s:=by
 intro Z
 induction Z with
 |zero=>intro n st _ l;omega
 |succ Z ih =>
  intro n st zw l zk q2;unfold setSearchFrom;refine aa (wpAny_setState_of ho hd T.fits ?_);dsimp only;rw[T.way,zk];simp only[du,ig];have zz:=aeu T F (λi=>(es[i]?.map (·.1)).getD 0) (10*turns t.mask) n zw (by have:=F.lt;exact c_ C_ this);generalize qq:t.probe _ (tupleKeyHash knd k) (P t.mask (tupleKeyHash knd k) n)=pr;have qq:t.probe (λi=>(es[i]?.map (·.1)).getD 0) (tupleKeyHash knd k) (P t.mask (tupleKeyHash knd k) n)=pr:=qq;have Du:∀(i j:Nat),t.place[i]?=some j->∃x,xs[i]?=some x/\es[i]?=some (ent knd x):=λi j e=>by
   have li:i<es.size:=by rw[<- T.Yp];exact(ir.mp e).1
   have lx:i<xs.length:=by have:=mz List.length he;simp at this;exact b_ li (f_ this)
   refine⟨xs[i],by simp[lx],?_⟩;rw[Yw he];simp[lx]
  rcases zz with⟨e,z0⟩|⟨m,i,h1,h2,h3,h4,h5,e⟩
  .have e:pr=_:=qq.symm.trans e
   subst e;dsimp only;refine aj (z3 λx z2 G=>?_);obtain⟨i,hi⟩:=j5.mp z2;have U:es[i]?=some (ent knd x):=by rw[Yw he,hi];rfl
   obtain⟨m,lm,hp⟩:=T.ahead F U (by unfold ent;rw[G])
   by_cases q5:m<n
   .exact q2 m q5 i x hp hi G
   .refine z0 m (s_ q5) lm i hp ?_
    rw[U];show tupleKeyHash knd x.1=_;rw[G]
  .have e:pr=_:=qq.symm.trans e
   subst e;dsimp only;obtain⟨x,qv,U⟩:=Du i _ h3;have zv:=hx x (aq qv);have q3:∀{R:Bool->Shared->Prop},R false s->wpAny (model prog w) A (searchCouldBeSeen (.ref p) ((es.filter (·.1==tupleKeyHash knd k)).toList.map (·.2))) R E s:=λhR=>aey hk (λv hv=>by
    obtain⟨y,hy,rfl⟩:=dh.mp hv;have q4:y∈es.toList:=by simp at hy;simpa using hy.1
    rw[he] at q4;obtain⟨z,hz,rfl⟩:=dh.mp q4;exact⟨z.1,z.2,rfl,hx z hz⟩) hR
   rcases Bool.eq_false_or_eq_true t.led with atj|atj
   all_goals
    simp only[atj,vo,Bool.not_false,du,ig,iu]
    first
    |(rw[U];show wpAny _ _ (holding [.ref x.2] (eqBool (.ref x.2) (.ref p)) >>= _) _ _ _)
    |(refine aa (q3 ?_);simp only[du,ig];rw[U];show wpAny _ _ (holding [.ref x.2] (eqBool (.ref x.2) (.ref p)) >>= _) _ _ _)
    refine aa (jo (wpAny_eqBool_tuple hu zv hk ?_));refine aa (wpAny_setState_of ho hd T.fits ?_);dsimp only;have q7:t.sameMemory t.moves t.mask=some true:=by unfold sameMemory;simp
    rw[q7];dsimp only;rw[di rfl,(My T.srt).mpr h3];dsimp only;rw[U]
    by_cases G:x.1=k
    .have q0:decide (x.1=k)=true:=by simp[G]
     rw[q0];have hq:=q6 i x qv G;cases adding
     .simp only[Bool.false_and,du,ig]
      refine aa (wpAny_isSame_ref_self ?_);refine aa (aj ?_);simpa using aj hq
     .simp only[Bool.and_self,iu]
      exact aj hq
    .have q0:decide (x.1=k)=false:=by simp[G]
     rw[q0];simp only[Bool.and_false,du,ig];refine aa (wpAny_isSame_ref_self ?_);refine aa (aj ?_);simp only[iu];refine ih (m+1) _ h2 (by lia) rfl λm' z4 i' x' q1 qk=>?_
     by_cases hc:m'<n
     .exact q2 m' hc i' x' q1 qk
     .by_cases hm:m'=m
      .subst hm
       have ei:i'=i:=by rw[<- below_at T.srt q1,<- below_at T.srt h3]
       subst ei;rw[qv] at qk;cases qk;exact G
      .intro zg
       have z1:es[i']?=some (ent knd x'):=by rw[Yw he,qk];rfl
       refine h5 m' (s_ hc) (by lia) i' q1 ?_;rw[z1];show tupleKeyHash knd x'.1=_;rw[zg]
end
section
variable{prog:Program}{w:World}{K:Type}[DecidableEq K]{knd:KeyKind prog w K}{pk:List K×Addr->Prop}{A:Around}{E:Y1}{s:Shared}
noncomputable abbrev bt(w:World):Bool:=w.params.followText "set-order"
def axu(h:Q (bt w) s):wpAny (model prog w) A setsByText Q E s:=by unfold setsByText;exact aa (wpAny_askSetting (aj h))
structure ai5(knd:KeyKind prog w K)(pk:List K×Addr->Prop)(h:Heap)(a:Addr)(xs:List (List K×Addr))(o:Obj)(es:Array (Int×Value))(ep:Nat)(t:SetTable):Prop where
 get:h.get? a=some o
 exa:o.ExactSet
 dat:o.data=.set es ep t
 tab:Us t es
 ent:es.toList=xs.map (ent knd)
 keys:∀x∈xs,IsTupleKey knd h x.1 x.2/\pk x
 nod:(xs.map (·.1)).Nodup
 led:t.led=!bt w
 pla:t.plain=true
def Px(knd:KeyKind prog w K)(pk:List K×Addr->Prop)(h:Heap)(a:Addr)(S:List K->Prop)(n:Nat):Prop:=∃Z o U G t,ai5 knd pk h a Z o U G t/\(∀k,S k↔k∈Z.map (·.1))/\Z.length=n/\t.place.size*5<t.mask*3
theorem ai5.size(X:ai5 knd pk h a Z o es G t):es.size=Z.length:=by have:=mz List.length X.ent;simpa using this
def aob(p:Addr)(Z:Array (Int×Value)):byScan (.ref p) Z=false:=by unfold byScan;simp[Value.scannable]
def ae0(h:Yu m):10*turns m<100000:=by rcases h with rfl|rfl|rfl|rfl|rfl<;>decide
def Yx(hu:A.units<cLine)(hk:IsTupleKey knd s.heap k p)(X:ai5 knd pk s.heap a U o es ep t)(F:Fst t (tupleKeyHash knd k) N)(Z:∀(i:Nat) x,U[i]?=some x->x.1=k->Q (.there (if adding then none else some i)) s)(G:(∀x∈U,x.1≠k)->Q (.free (P t.mask (tupleKeyHash knd k) N).j false) s) :
 wpAny (model prog w) A (setSearch a (.ref p) (tupleKeyHash knd k) adding) Q E s:=by
 unfold setSearch;exact ac3 hu hk X.get X.dat X.tab X.ent (λx R=>(X.keys x R).1) X.nod F Z G 100000 0 none (gn _) (by have:=F.lt;have:=ae0 X.tab.msk;lia) (Wi _ _) (λm l=>by lia)
def axw(hu:A.units<cLine)(hk:IsTupleKey knd s.heap k p)(hS:Px knd pk s.heap a S n)(h:∀r:Option Nat,(r.isSome=true↔S k)->Q r s):wpAny (model prog w) A (setFind a (.ref p) (tupleKeyHash knd k)) Q E s:=by
 obtain⟨xs,o,es,ep,t,X,U,_,_⟩:=hS;obtain⟨N,F⟩:=X.tab.fst (tupleKeyHash knd k);unfold setFind setFindIn;refine aa (wpAny_setState_of X.get X.dat X.tab.fits ?_);dsimp only;rw[aob];simp only[du,ig];refine aa (Yx hu hk X F (λi x hi Z=>?_) (λG=>?_))
 .simp only[du,ig]
  exact aj (h _ (by simp;exact(U k).mpr (dh.mpr ⟨x,aq hi,Z⟩)))
 .dsimp only
  refine aj (h _ ?_);simp only[Option.isSome_none,du,false_iff];intro R;obtain⟨x,Z,e⟩:=dh.mp ((U k).mp R);exact G x Z e
end
def Lj{α β:Type}{f:α->β}:∀{l R:List β},l.Perm R->∀{xs:List α},R=xs.map f->∃Z:List α,l=Z.map f/\Z.Perm xs:=by
 intro l R p
 induction p with
 |nil=>intro xs e;cases xs with
  |nil=>exact⟨[],rfl,.nil⟩|cons _ _=>cases e
 |cons a p ih =>
  intro xs e;cases xs with
  |nil=>cases e
  |cons x xs =>
   simp only[d8,List.cons.injEq] at e;obtain⟨Z,U,G⟩:=ih e.2;exact⟨x::Z,by simp[U,e.1],G.cons x⟩
 |swap a b l =>
  intro xs e
  match xs,e with
  |x::y::xs,e =>
   simp only[d8,List.cons.injEq] at e;obtain⟨rfl,rfl,rfl⟩:=e;exact⟨y::x::xs,rfl,.swap x y xs⟩
 |trans p q qk qq =>
  intro xs e;obtain⟨ys,U,G⟩:=qq e;obtain⟨zs,e2,p2⟩:=qk U;exact⟨zs,e2,p2.trans G⟩
section
variable{prog:Program}{w:World}{K:Type}[DecidableEq K]{knd:KeyKind prog w K}{pk:List K×Addr->Prop}{A:Around}{E:Y1}{s:Shared}
def Te(h:n<=128):n<=sizeLine:=by rw[sizeLine_eq];exact a_ h (by decide)
end
section
variable{prog:Program}{w:World}{K:Type}[DecidableEq K]{knd:KeyKind prog w K}{pk:List K×Addr->Prop}{A:Around}{E:Y1}{s:Shared}
def Fl(Z:s.TypeIs v T)(G:isSubtype (.type T) (.type "set")=pure false)(U:isSubtype (.type T) (.type "frozenset")=pure false)(h:Q false s) :
 wpAny (model prog w) A (Builtin.Frozenset.isAnySet v) Q E s:=by
 unfold Builtin.Frozenset.isAnySet;refine aa (p6 Z G ?_);exact p6 Z U h
def a5m(Z:s.TypeIs v "set")(h:Q true s):wpAny (model prog w) A (Builtin.Frozenset.isAnySet v) Q E s:=by unfold Builtin.Frozenset.isAnySet;refine aa (p6 Z sub_set_self ?_);exact aj h
def yw(w:World):Obj:={ cls:=.type "set",dict:=none,data:=.set #[] 0 (.fresh 0 0 (!bt w)) }
theorem Px.get(U:Px knd pk h a S n):∃o Z G t,h.get? a=some o/\o.ExactSet/\o.data=.set Z G t/\t.fits Z.size=true :=
 let ⟨_,o,Z,G,t,X,_⟩:=U;⟨o,Z,G,t,X.get,X.exa,X.dat,X.tab.fits⟩
def Px.typeIs(Z:Px knd pk s.heap a S n):s.TypeIs (.ref a) "set" :=
 let ⟨o,_,_,_,ho,hc,_⟩:=Z.get;⟨o,ho,hc.1⟩
def Px.congr(Z:Px knd pk h a S n)(e:∀k,S k↔G k):Px knd pk h a G n :=
 let ⟨xs,o,es,ep,t,X,hm,r⟩:=Z;⟨xs,o,es,ep,t,X,λk=>(e k).symm.trans (hm k),r⟩
end
section
variable{prog:Program}{w:World}{K:Type}[DecidableEq K]{knd:KeyKind prog w K}{pk:List K×Addr->Prop}{A:Around}{E:Y1}{s:Shared}
def ai6(Z:R (.ref s.heap.objs.size) { s with heap:=s.heap.push (yw w) }) :
 codeAny (model prog w) A (.call (.builtin "set.__new__") ⟨[.type "set",v],[]⟩) (wants R E) s:=by
 refine codeAny_call_builtin F.plain_set_new F.entry_set_new (wpAny_of_eq (F.newCall_set_1 v) ?_);have G:=sub_set_self;unfold Builtin.«set.__new__» Builtin.Frozenset.newClass
 wp_walk
 exact wpAny_askSetting (aj (aa (wpAny_alloc (aj (aj Z)))))
set_option maxHeartbeats 3200000 in
def Nq{R:Shared->Prop}(qq:wpAny (model prog w) A.in1.in1 (Builtin.Frozenset.updateFrom "set.__init__" s.heap.objs.size x) (λ_ s'=>R s') E { s with heap:=s.heap.push (yw w) })(h:∀s',R s'->Q (.ref s.heap.objs.size) s') :
 wpAny (model prog w) A (call (.type "set") [x]) Q E s:=by
 obtain⟨c,tl,q1⟩:=o6.mro;have q5:=o6.made;have q3:=o6.sub;refine wpAny_call (codeAny_of_tree ?_);show wpAny _ _ (callAny (.type "set") _) _ _ _;refine aj ⟨Code.quiet_builtin _ (by decide+kernel),codeAny_builtin F.entry_type_call ?_⟩;rw[Around.under_plain (weight_type_call_type "set" [x] []) rfl];have h1:=o6.notType;have h2:=o6.canCreate;have q2:=F.typeCall_set_1 x
 repeat (any_goals (first|assumption|wp_step))
 refine codeAny_mono (ai6 (v:=x) (E:=E) (R:=λobj G=>obj=.ref s.heap.objs.size/\G={ s with heap:=s.heap.push (yw w) }) ⟨rfl,rfl⟩) λr G hr=>?_
 cases r with
 |error e=>exact hr
 |ok fl =>
  cases fl with
  |ret obj =>
   obtain⟨rfl,rfl⟩:=hr;have hS:(s.heap.push (yw w)).get? s.heap.objs.size=some (yw w):=bj _ rfl;have hT:Shared.TypeIs { s with heap:=s.heap.push (yw w) } (.ref s.heap.objs.size) "set" := ⟨_,hS,rfl⟩;have q4:=o6.init.lookup;have q0:=o6.init.bind (.ref s.heap.objs.size)
   repeat (any_goals (first|assumption|wp_step))
   refine codeAny_mono (codeAny_call_builtin (R:=wants (λr U=>r=.none/\R U) E) o6.init.plain F.entry_set_init (check_set_init_1 hT ?_)) λqv U Z=>?_
   .unfold Builtin.«set.__init__» noKeywords
    generalize hUF:Builtin.Frozenset.updateFrom=UF at qq ⊢;unfold yw at hS hT qq ⊢
    wp_walk
    exact j4 qq (λ_ s' hr=>aj ⟨rfl,hr⟩) (λe s' he=>he)
   .cases qv with
    |error e=>exact Z
    |ok qk =>
     cases qk with
     |ret r =>
      obtain⟨rfl,hq⟩:=Z
      repeat (any_goals (first|assumption|wp_step))
      exact h _ hq
     |_=>exact Z.elim
  |_=>exact hr.elim
end
open PyProof.Rows (F.entry_set_update_loop F.plain_set_update_loop)
section
variable{prog:Program}{w:World}{K:Type}[DecidableEq K]{knd:KeyKind prog w K}{pk:List K×Addr->Prop}{A:Around}{E:Y1}{s:Shared}
def ac4{Z:X1}(hk:IsTupleKey knd h U p)(R:p∉Z)(hm:∀b o,b∉Z->h.get? b=some o->G.get? b=some o):IsTupleKey knd G U p :=
 let ⟨o,items,n,ho,r⟩:=hk;⟨o,items,n,hm p o R ho,r⟩
def Px.moved{G:X1}(R:Px knd pk h a S n)(ha:a∉G)(hw:∀(b:Addr) (ks:List K),b∈G->¬IsTupleKey knd h ks b)(U:∀b o,b∉G->h.get? b=some o->h'.get? b=some o):Px knd pk h' a S n :=
 let ⟨xs,o,es,ep,t,X,r⟩:=R
 ⟨xs,o,es,ep,t,⟨U a o ha X.get,X.exa,X.dat,X.tab,X.ent,λx Z=>⟨ac4 (X.keys x Z).1 (λhc=>hw _ _ hc (X.keys x Z).1) U,(X.keys x Z).2⟩,X.nod,X.led,X.pla⟩,r⟩
end
def ai7(k:Us t es)(F:Fst t h N)(room:t.place.size+1<=t.mask) :
 layNew t es h x=(insertAt es (t.put (P t.mask h N).j).2 (h,x),(t.put (P t.mask h N).j).1,false,false):=by
 have e:t.freeSlot h=some ((P t.mask h N).j,false):=by
  unfold freeSlot probe;rw[Wi];rcases aeu k F (λ_=>h+1) (10*turns t.mask) 0 (gn _) (by have:=F.lt;exact c_ C_ this) with⟨a,_⟩|⟨m,i,_,_,_,c,_⟩
  .rw[a];rfl
  .lia
 have f:=(k.put (x:=x) F room).fits;unfold layNew;rw[e];show(insertAt es (t.put (P t.mask h N).j).2 (h,x),(t.put (P t.mask h N).j).1.orStandIn (insertAt es (t.put (P t.mask h N).j).2 (h,x)).size,false,!(t.put (P t.mask h N).j).1.fits (insertAt es (t.put (P t.mask h N).j).2 (h,x)).size)=_;unfold orStandIn;rw[di f,f];rfl
def ac5(hm:Yu (sizeAbove wanted-1))(hz:es.size<=sizeAbove wanted-1) :
 ∃G t',relayAll t es wanted=(G,t',false)/\t'.mask=sizeAbove wanted-1/\Us t' G/\G.toList.Perm es.toList/\t'.led=t.led/\t'.plain=t.plain:=by
 obtain⟨t',Z,e,e1,R,p,sz,hl,hp,_,U⟩:=ai3 hm t.finger (t.movedTo (sizeAbove wanted-1)) t.led t.plain es hz;have er:t.relaid (es.map (·.1)) wanted=some (t',Z):=e;refine⟨Z.filterMap (es[·]?),t',?_,e1,R,p,hl,hp⟩;unfold relayAll;rw[er];dsimp only;rw[di];rw[ao];exact⟨by unfold coversAll;exact List.isPerm_iff.mpr U,R.fits⟩
noncomputable def enI(x:Int×Tok):Int×Value:=(hashInt x.1,.int x.1 x.2)
structure Yy(w:World)(h:Heap)(a:Addr)(xs:List (Int×Tok))(o:Obj)(es:Array (Int×Value))(ep:Nat)(t:SetTable):Prop where
 get:h.get? a=some o
 exa:o.ExactSet
 dat:o.data=.set es ep t
 tab:Us t es
 ent:es.toList=xs.map enI
 nod:(xs.map (·.1)).Nodup
 led:t.led=!bt w
 pla:t.plain=true
def yg(w:World)(h:Heap)(a:Addr)(S:Int->Prop)(n:Nat):Prop:=∃Z o U G t,Yy w h a Z o U G t/\(∀k,S k↔k∈Z.map (·.1))/\Z.length=n/\t.place.size*5<t.mask*3
theorem Yy.size(X:Yy w h a Z o es G t):es.size=Z.length:=by have:=mz List.length X.ent;simpa using this
def Yy.elems(X:Yy w h a U o es G t):ElemsOf (intKind prog w) es.toList:=λe Z=>by rw[X.ent] at Z;obtain⟨x,_,rfl⟩:=dh.mp Z;exact⟨⟨x.1,by simp[enI,intKind,Value.isInt],rfl⟩,rfl⟩
def atk(X:Yy w h a xs o es U t)(R:Us t' Z)(he:Z.toList=G.map enI)(hn:(G.map (·.1)).Nodup)(hl:t'.led=!bt w)(hp:t'.plain=true) :
 Yy w (h.update a (Obj.putSet Z t')) a G { o with data:=.set Z (U+1) t' } Z (U+1) t':=by
 have hg:(h.update a (Obj.putSet Z t')).get? a=some { o with data:=.set Z (U+1) t' }:=by have:=m6 (Obj.putSet Z t') X.get (by rw[putSet_of Z t' X.dat];rfl);rw[putSet_of Z t' X.dat] at this;exact this
 exact⟨hg,X.exa,rfl,R,he,hn,hl,hp⟩
theorem yg.get(U:yg w h a S n):∃o Z G t,h.get? a=some o/\o.ExactSet/\o.data=.set Z G t/\t.fits Z.size=true :=
 let ⟨_,o,Z,G,t,X,_⟩:=U;⟨o,Z,G,t,X.get,X.exa,X.dat,X.tab.fits⟩
theorem Py:∀{a b:X2},a.Nodup->(∀x∈a,x∈b)->a.length<=b.length
 |[],_,_,_=>gn _
 |x::a,b,h,s=>by
  obtain⟨G,U⟩:=kh.mp h;have:=Py (b:=b.erase x) U λy Z=>(vf (λe:y=x=>G (e▸Z))).mpr (s y (.tail _ Z))
  rw[List.length_erase_of_mem (s x (.head _))] at this;have:=uw (s x (.head _));rw[gm];lia
def yg.le(Z:yg w h a S n){B:X2}(G:∀k,S k->k∈B):n<=B.length:=by obtain⟨xs,o,es,ep,t,X,U,rfl,_⟩:=Z;rw[<- bx (f:=(·.1))];exact Py X.nod λk R=>G k ((U k).mpr R)
def yg.congr(Z:yg w h a S n)(e:∀k,S k↔G k):yg w h a G n :=
 let ⟨xs,o,es,ep,t,X,hm,r⟩:=Z;⟨xs,o,es,ep,t,X,λk=>(e k).symm.trans (hm k),r⟩
def yg.moved(G:yg w h a S n)(Z:∀o,h.get? a=some o->U.get? a=some o):yg w U a S n :=
 let ⟨xs,o,es,ep,t,X,r⟩:=G
 ⟨xs,o,es,ep,t,⟨Z o X.get,X.exa,X.dat,X.tab,X.ent,X.nod,X.led,X.pla⟩,r⟩
def Wl(Z:h.get? a=some (yw w)):yg w h a (λ_=>False) 0 :=
 ⟨[],yw w,#[],0,_,⟨Z,⟨rfl,rfl,rfl⟩,rfl,⟨.inl rfl,rfl,rfl,λi j a b e=>by simp[SetTable.fresh] at e,λi j e=>by simp[SetTable.fresh] at e,by simp[SetTable.fresh],λi j e a=>by simp[SetTable.fresh] at a⟩,
  rfl,List.nodup_nil,rfl,rfl⟩,λk=>by simp,rfl,by simp[SetTable.fresh]⟩
def ai8(hS:yg w s.heap a S n)(hn:n+1<32)(h:∀h' n' b,Heap.SameBut a s.heap h'->yg w h' a (λU=>S U\/U=k) n'->n'<=n+1->Q b { s with heap:=h' }) :
 wpAny (model prog w) A (setAddHashed a (.int k tk) (hashInt k)) Q E s:=by
 obtain⟨xs,o,G,ep,t,X,hm,hl,nf⟩:=hS;obtain⟨N,F⟩:=X.tab.fst (hashInt k);have R8:=X.size;have q5:=X.elems (prog:=prog);have z1:(intKind prog w).is k (.int k tk)=true:=by simp[intKind,Value.isInt]
 unfold setAddHashed setAddHashedIn;refine jo (aa (wpAny_setState_of X.get X.dat X.tab.fits ?_));dsimp only;rw[byScan_of (knd:=intKind prog w) (x:=.int k tk) rfl (by unfold scanBound;lia) q5];simp only[↓reduceIte];unfold setAddByScan;refine aa ?_;refine aa (wpAny_rule ?_);refine aa (wpAny_setScan_of (knd:=intKind prog w) (k:=k) z1 X.get X.dat X.tab.fits q5 ?_);cases hr:List.findIdx? (λe=>(intKind prog w).is k e.2) G.toList with
 |some j =>
  dsimp only;obtain⟨hj,z0,_⟩:=List.findIdx?_eq_some_iff_getElem.mp hr;have q7:S k:=by
   obtain⟨x,hx,ex⟩:∃x∈xs,enI x=G.toList[j]:=by have Uu:=List.getElem_mem hj;generalize G.toList[j]=e at Uu;rw[X.ent] at Uu;exact dh.mp Uu
   have zg:(intKind prog w).is k (enI x).2=true:=by rw[ex];exact z0
   refine(hm k).mpr (dh.mpr ⟨x,hx,?_⟩);have:(intKind prog w).is x.1 (enI x).2=true:=by simp[enI,intKind,Value.isInt]
   exact(intKind prog w).inj _ _ _ this zg
  refine aj (aj ?_);have:=h s.heap n false (Heap.SameBut.refl a s.heap) ⟨xs,o,G,ep,t,X,λU=>by
   rw[<- hm U];exact⟨λh=>h.elim id (λe=>e▸q7),.inl⟩,hl,nf⟩ x_
  exact this
 |none =>
  dsimp only;have zz:∀x∈xs,x.1≠k:=λx hx e=>by have:=List.findIdx?_eq_none_iff.mp hr (enI x) (by rw[X.ent];exact dh.mpr ⟨x,hx,rfl⟩);subst e;simp[enI,intKind,Value.isInt] at this
  have room:t.place.size+1<=t.mask:=by have:=X.tab.msk;rcases this with e|e|e|e|e<;>lia
  have T':=X.tab.put (x:=.int k tk) F room;rw[ai7 X.tab F room];have M9:(t.put (P t.mask (hashInt k) N).j).1.plain=true:=X.pla;have q4:(t.put (P t.mask (hashInt k) N).j).1.led=!bt w:=X.led;obtain⟨qq,ex,px⟩:=Lj (f:=enI) (insertAt_perm G (t.put (P t.mask (hashInt k) N).j).2 (hashInt k,.int k tk)) (xs:=xs++[(k,tk)]) (by rw[Array.toList_push,X.ent,jh];rfl);have pm:=px.map (·.1);have q6:(qq.map (·.1)).Nodup:=pm.nodup_iff.mpr (by
   rw[jh,my];refine⟨X.nod,by simp,λa ha b hb=>?_⟩;simp at hb;subst hb;rintro rfl;obtain⟨x,hx,e⟩:=dh.mp ha;exact zz x hx e)
  have hX:=atk X T' ex q6 q4 M9;have Uu:∀U,(S U\/U=k)↔U∈qq.map (·.1):=λU=>by rw[pm.mem_iff,jh,bh,hm U];simp
  have qk:qq.length=n+1:=by rw[px.length_eq];simp[hl]
  have R:(insertAt G (t.put (P t.mask (hashInt k) N).j).2 (hashInt k,Value.int k tk)).size=G.size+1:=Lh _ _ _;have q1:(t.put (P t.mask (hashInt k) N).j).1.place.size=G.size+1:=by rw[T'.Yp,R]
  have hf:(t.put (P t.mask (hashInt k) N).j).1.fill=G.size+1:=by unfold fill;rw[q1,T'.dum];rfl
  generalize insertAt G (t.put (P t.mask (hashInt k) N).j).2 (hashInt k,Value.int k tk)=es1 at *;generalize(t.put (P t.mask (hashInt k) N).j).1=t1 at *;dsimp only;refine aa (aj ?_);rw[M9];simp only[iu];refine aa ?_;rw[hashByValue_scannable 8 (x:=.int k tk) rfl];refine aj ?_;have zk:plainKind (.int k tk)=true:=rfl;simp only[zk,iu];refine aa (wpAny_storeSet_of X.get X.dat ?_ (Te (by lia)))
  by_cases Z:t1.tooFull=true
  .rw[Z]
   simp only[Bool.not_false,Bool.and_self,iu];obtain⟨g1,g2,g3,g4,g5⟩:=ac2 (G.size+1) (c_ (v_ (f_ R8)) (c_ (v_ (f_ hl)) hn));obtain⟨q0,t2,e2,m2,T2,p2,l2,q2⟩:=ac5 (t:=t1) (es:=es1) (wanted:=grown (G.size+1)) g1 (a_ (f_ R) g2);rw[R,e2];dsimp only;refine aa (aj ?_);obtain⟨z2,zv,qv⟩:=Lj p2 ex;have zw:=atk hX T2 zv ((qv.map _).nodup_iff.mpr q6) (l2.trans q4) (q2.trans M9);have q3:q0.size=G.size+1:=by have:=p2.length_eq;simp at this;exact this.trans R
   refine aa (wpAny_storeSet_of hX.get rfl ?_ (Te (a_ (f_ q3) (a_ g2 (a_ C_ g5)))));refine aj (aj (h _ (n+1) true ((jg s.heap a _).trans (jg _ a _)) ⟨z2,_,q0,_,t2,zw,λU=>?_,by rw[qv.length_eq,qk],?_⟩ (bc _)))
   .exact(Uu U).trans (qv.map (·.1)).mem_iff.symm
   .rw[T2.Yp,m2,q3];exact t_ g4
  .rw[Bool.not_eq_true] at Z
   rw[Z];simp only[Bool.and_false,du,ig];refine aj (aj (h _ (n+1) true (jg s.heap a _) ⟨qq,_,_,_,_,hX,Uu,qk,?_⟩ (bc _)));unfold tooFull at Z;rw[hf] at Z;rw[q1];simp at Z;exact Z
def ae3{I:Addr}{P:Nat->Value->Prop}(W:WalksS prog w A.in1 I fp wr G n P St)(a:Addr)(q2:a∉fp)(U:X2)(q0:U.length=n)(zz:∀i v x,P i v->U[i]?=some x->∃tk,v=.int x tk){B:X2}(hB:∀k∈U,k∈B)(hb:B.length<31) :
 ∀(k i n':Nat)(s:Shared),n-i=k->i<=n->St i s ->
  yg w s.heap a (λk'=>k'∈U.take i) n'->n'<=B.length ->
  (∀Z q5,Moved (a::wr) G s Z->yg w Z.heap a (λk'=>k'∈U) q5->q5<=B.length->R (.ok (.ret .none)) Z) ->
  codeAny (model prog w) A (.builtin "set.update.loop" ⟨[.ref a,.ref I],[]⟩) R s:=by
 have q4:a∉wr:=λh=>q2 (W.sub _ h)
 have q3:∀b∈wr,b∈a::wr:=λb hb=>bu _ hb
 intro k
 induction k with
 |zero =>
  intro i n' s hk hi qq hS Uv hR;have q6:i=n:=by lia
  subst q6;refine codeAny_builtin F.entry_set_update_loop ?_;rw[Around.under_plainId F.plain_set_update_loop _];show wpAny _ A.in1 (pyNext (.ref I) >>= _) _ _ s;refine aa (W.done s _ _ qq λZ hm=>?_);show wpAny _ A.in1 (ret Value.none) _ _ Z;refine aj (hR Z n' (hm.mono q3) ((hS.moved λo=>hm.heap a o q4).congr λk=>?_) Uv);rw[pq (f_ q0)]
 |succ k ih =>
  intro i n' s hk hi qq hS Uv hR;have Hc:i<n:=by lia
  refine codeAny_builtin F.entry_set_update_loop ?_;rw[Around.under_plainId F.plain_set_update_loop _];show wpAny _ A.in1 (pyNext (.ref I) >>= _) _ _ s;refine aa (W.item i s _ _ Hc qq λv Z hP z1 hm=>?_);have lx:i<U.length:=b_ Hc (g_ q0)
  have qk:U[i]?=some U[i]:=by simp[lx]
  obtain⟨tk,rfl⟩:=zz i v _ hP qk;have zw:=hS.moved λo=>hm.heap a o q4
  show wpAny _ A.in1 (holding [Value.int U[i] tk] (setAdd a (.int U[i] tk)) >>= _) _ _ Z;refine aa (jo ?_);unfold setAdd;refine jo ?_;refine aa (wpAny_pyHash_int ?_);refine ai8 (s:={ Z with toks:=Z.toks+1 }) zw (by lia) λh' n2 b qv q7 z2=>?_
  have q1:yg w h' a (λk=>k∈U.take (i+1)) n2:=q7.congr λk=>by rw[List.take_add_one,bh,qk];simp
  refine aj ⟨plainId_quiet F.plain_set_update_loop _,ih (i+1) n2 _ (by lia) Hc (W.frame _ Z _ _ z1 (Nat.le_add_right _ _) λb hb o e=>?_) q1 (q1.le λk hk=>hB k (List.mem_of_mem_take hk)) λzg n3 zk z0 zv=>?_⟩
  .rw[qv.2 b (λh:b=a=>q2 (by rw[<- h];exact hb))];exact e
  .refine hR zg n3 (Moved.trans W.gtrans ((hm.mono q3).then_heap (Nat.le_add_right _ _) λb o hb e=>?_) zk) z0 zv
   rw[qv.2 b (λh:b=a=>hb (by rw[h];exact bz))];exact e
def aak{id T:String}{io lo:Obj}{Z:Xs}{St:Nat->Heap->Prop}(hS:yg w s.heap a (λ_=>False) 0)(U:s.heap.get? l=some lo)(hc:lo.cls=.type T)(q1:∀es ep t,lo.data≠.set es ep t)(n1:isSubtype (.type T) (.type "set")=pure false)(n2:isSubtype (.type T) (.type "frozenset")=pure false)(nd:(Value.type T==.type "dict")=false)
 (hi:∀{Q:Y1},Q (.ref s.heap.objs.size) { s with heap:=s.heap.push io }->wpAny (model prog w) A (pyIter (.ref l)) Q E s) (W:l≠s.heap.objs.size->Walks prog w A.in1 s.heap.objs.size [s.heap.objs.size,l] [s.heap.objs.size] Z.size (λi v=>Z[i]?=some v) St) (h0:St 0 (s.heap.push io))
 (qk:PyProof.Rows.IntsAre Z.toList ks) {B:X2} (hB:∀k∈ks,k∈B) (qq:B.length<31) (h:∀R tk n',(∀b o,b≠a->s.heap.get? b=some o->R.get? b=some o)->yg w R a (λk=>k∈ks) n'->n'<=B.length->Q () { s with heap:=R,toks:=tk }) :
 wpAny (model prog w) A (Builtin.Frozenset.updateFrom id a (.ref l)) Q E s:=by
 have hT:s.TypeIs (.ref l) T:=⟨lo,U,hc⟩;have R8:Z.size=ks.length:=by rw[<- uf];exact PyProof.Rows.IntsAre.length qk
 obtain⟨oa,zv,zw,ta,G,zg,q0,zk⟩:=hS.get;unfold Builtin.Frozenset.updateFrom;refine aa (Fl hT n1 n2 ?_);simp only[du,ig];refine aa (wpAny_typeOf hT ?_);rw[fj (by rw[nd];simp)];refine aa (hi ?_);refine aa (wpAny_runValue ?_);have Hc:l<s.heap.objs.size:=az U
 have q7:a<s.heap.objs.size:=az G
 have q2:l≠a:=by rintro rfl;rw[U] at G;cases G;exact q1 _ _ _ q0
 have q5:a∉[s.heap.objs.size,l]:=by simp only[cg,qb,or_false,not_or];exact⟨gh q7,λe=>q2 e.symm⟩
 have keep:∀b o,s.heap.get? b=some o->(s.heap.push io).get? b=some o:=λb o e=>au _ e
 refine ae3 ((W (gh Hc)).toS) a q5 ks R8.symm (λi v x hv hx=>?_) hB qq Z.size 0 0 _ rfl (gn _)
  h0 ?_ (gn _) ?_
 .obtain⟨tk,e⟩:=PyProof.Rows.IntsAre.int_at qk i v (by rw[n6];exact hv)
  rw[q9,hx] at e;exact⟨tk,e⟩
 .refine(hS.moved λo e=>keep a o e).congr λk=>by simp
 .intro s' zz hm q4 q3
  obtain⟨R,g',d',q6,qv⟩:=s';have eg:g'=s.gens:=hm.gens;have ed:d'=s.drawn:=hm.drawn;have eo:qv=s.os:=hm.os;subst eg;subst ed;subst eo;show wpAny _ _ _ _ _ _;refine aj (h R q6 zz (λb o hb e=>?_) q4 q3);refine hm.heap b o ?_ (keep b o e);simp only[cg,qb,or_false,not_or];exact⟨hb,gh (az e)⟩
def ac6{id:String}(hh:A.handled=none)(hS:yg w s.heap a (λ_=>False) 0)(U:s.heap.IsList l items)(G:PyProof.Rows.IntsAre items.toList ks){B:X2}(hB:∀k∈ks,k∈B)(Z:B.length<31)(h:∀R tk n',(∀b o,b≠a->s.heap.get? b=some o->R.get? b=some o)->yg w R a (λk=>k∈ks) n'->n'<=B.length->Q () { s with heap:=R,toks:=tk }) :
 wpAny (model prog w) A (Builtin.Frozenset.updateFrom id a (.ref l)) Q E s:=by
 have qq:=U;obtain⟨o,ho,hc,n,hd⟩:=qq;exact aak hS ho hc (λ_ _ _ z=>by rw[hd] at z;cases z) F.sub_list_set F.sub_list_frozenset (by decide) (wpAny_pyIter_list U) (λne=>Walks.list (by simp[hh]) _ l ne items) ⟨⟨_,bj _ rfl,rfl,rfl⟩,U.push _⟩ G hB Z h
def ae6{id:String}(hh:A.handled=none)(hS:yg w s.heap a (λ_=>False) 0)(hl:s.heap.IsTuple l items)(G:PyProof.Rows.IntsAre items.toList ks){B:X2}(hB:∀k∈ks,k∈B)(Z:B.length<31)(h:∀U tk n',(∀b o,b≠a->s.heap.get? b=some o->U.get? b=some o)->yg w U a (λk=>k∈ks) n'->n'<=B.length->Q () { s with heap:=U,toks:=tk }) :
 wpAny (model prog w) A (Builtin.Frozenset.updateFrom id a (.ref l)) Q E s:=by
 have R:=hl;obtain⟨o,ho,hc,n,hd⟩:=R;exact aak hS ho hc (λ_ _ _ z=>by rw[hd] at z;cases z) (by rw[isSubtype_type];kernel_rfl) (by rw[isSubtype_type];kernel_rfl) (by decide) (lg hl) (λne=>Walks.tuple (by simp[hh]) _ l ne items) ⟨⟨_,bj _ rfl,rfl,rfl⟩,o,au _ ho,hc,n,hd⟩ G hB Z h
def ase(hh:A.handled=none)(hl:s.heap.IsList l items)(qv:PyProof.Rows.IntsAre items.toList ks){B:X2}(hB:∀k∈ks,k∈B)(qk:B.length<31)(h:∀Z U G,(∀b o,s.heap.get? b=some o->Z.get? b=some o)->yg w Z s.heap.objs.size (λk=>k∈ks) G->G<=B.length->Q (.ref s.heap.objs.size) { s with heap:=Z,toks:=U }) :
 wpAny (model prog w) A (call (.type "set") [.ref l]) Q E s:=by
 refine Nq (R:=λs'=>∃Z U G,s'={ s with heap:=Z,toks:=U }/\(∀b o,s.heap.get? b=some o->Z.get? b=some o)/\yg w Z s.heap.objs.size (λk=>k∈ks) G/\G<=B.length)
  (ac6 (s:={ s with heap:=s.heap.push (yw w) }) (by simp[hh]) (Wl (bj _ rfl)) (hl.push _) qv hB qk λZ U G hk qq Uv=>⟨Z,U,G,rfl,λb o e=>hk b o (gh (az e)) (au _ e),qq,Uv⟩)
  λs' ⟨Z,U,G,e,hk,qq,Uv⟩=>by subst e;exact h Z U G hk qq Uv
def ac7(hh:A.handled=none)(hl:s.heap.IsTuple l items)(qv:PyProof.Rows.IntsAre items.toList ks){B:X2}(hB:∀k∈ks,k∈B)(qk:B.length<31)(h:∀Z U G,(∀b o,s.heap.get? b=some o->Z.get? b=some o)->yg w Z s.heap.objs.size (λk=>k∈ks) G->G<=B.length->Q (.ref s.heap.objs.size) { s with heap:=Z,toks:=U }) :
 wpAny (model prog w) A (call (.type "set") [.ref l]) Q E s:=by
 refine Nq (R:=λs'=>∃Z U G,s'={ s with heap:=Z,toks:=U }/\(∀b o,s.heap.get? b=some o->Z.get? b=some o)/\yg w Z s.heap.objs.size (λk=>k∈ks) G/\G<=B.length)
  (ae6 (s:={ s with heap:=s.heap.push (yw w) }) (by simp[hh]) (Wl (bj _ rfl)) (let ⟨o,ho,r⟩:=hl;⟨o,au _ ho,r⟩) qv hB qk λZ U G hk qq Uv=>⟨Z,U,G,rfl,λb o e=>hk b o (gh (az e)) (au _ e),qq,Uv⟩)
  λs' ⟨Z,U,G,e,hk,qq,Uv⟩=>by subst e;exact h Z U G hk qq Uv
end STb
namespace MW
open PySem (Str)
set_option genInjectivity true in
inductive D where
 |non|bl (b:Bool)|int (i:Int)|str (s:Str)|tup (ds:List D)|vl (ds:List D)|fz (ds:List D)|ref (n:Nat)
noncomputable abbrev Kx:=Sum Int Str
set_option genInjectivity true in
inductive MO where
 |lst (ds:List D)|dT (xu:List (List Kx×D))|dF (xu:List (List Kx×D))
noncomputable abbrev dg:=List MO
noncomputable abbrev Env:=List (Option D)
set_option genInjectivity true in
inductive Res(α:Type) where
 |ok (a:α) (M:dg)|bad
namespace Res
noncomputable def bind{Z β:Type}(r:Res Z)(f:Z->dg->Res β):Res β :=
 match r with|ok a M=>f a M|bad=>bad
@[simp] def nu(a:α)(M:dg)(f:α->dg->Res β):(ok a M).bind f=f a M:=rfl
@[simp] def atn(f:α->dg->Res β):(bad:Res α).bind f=bad:=rfl
noncomputable def qi{α:Type}(o:Option α)(M:dg):Res α:=match o with|some a=>ok a M|none=>bad
@[simp] def m8(a:α)(M:dg):qi (some a) M=ok a M:=rfl
@[simp] def aod(M:dg):qi (none:Option α) M=bad:=rfl
end Res
inductive Op2 where|add|sub|mul|fdiv|mod|pow
inductive Cp where|eq|ne|lt|le|gt|ge|inn|Pz
inductive Blt where
 |len|tuple|list|max|min|all|isBool|Gj
inductive Bm where|append|extend|setdefault
inductive Tg where
 |name (i:Nat)|names (is:Y3)
mutual
inductive Ex where
 |var (i:Nat)|cst (d:D)
 |bin (op:Op2) (a b:Ex)|neg (a:Ex)
 |cmp (op:Cp) (a b:Ex)|chain (o1 o2:Cp) (a b c:Ex)
 |and (a b:Ex)|or (a b:Ex)|not (a:Ex)
 |tup (es:Dl)|lst (es:Dl)|Df (es:Dl)|ac8
 |ix (a b:Ex)|cut (a:Ex) (lo hi:OEx)
 |call (f:Nat) (es:Dl)
 |blt (b:Blt) (es:Dl)|bm (m:Bm) (o:Ex) (es:Dl)
 |comp (v:Bool) (k:Nat) (t:Tg) (it:Ld) (e:Ex)|ud (v:Bool) (k:Nat) (t:Tg) (it:Ld) (c:Ex) (e:Ex)
 |tru (e:Ex)|ntr (e:Ex)
inductive Dl where
 |nil|cons (e:Ex) (es:Dl)
inductive OEx where
 |none|some (e:Ex)
inductive Ld where
 |val (e:Ex)|Kh (e:Ex)|enm (e:Ex)|zip (es:Dl)|vals (e:Ex)
end
noncomputable abbrev Ex.v:=Ex.var
noncomputable abbrev Ex.i(n:Int):Ex:=.cst (.int n)
noncomputable abbrev Ex.l(e:Ex):Ex:=.blt .len (.cons e .nil)
noncomputable abbrev Dl.z:=Dl.nil
noncomputable abbrev Dl.c:=Dl.cons
noncomputable abbrev Dl.o(a:Ex):Dl:=.cons a .nil
noncomputable abbrev Dl.p(a b:Ex):Dl:=.cons a (.cons b .nil)
noncomputable abbrev Dl.q(a b c:Ex):Dl:=.cons a (.cons b (.cons c .nil))
inductive Lv where
 |tg (t:Tg)|sub (o i:Ex)
mutual
inductive yt where
 |asg (l:Lv) (e:Ex)|expr (e:Ex)|iff (c:Ex) (a b:jw)|whl (c:Ex) (b:jw)|for_ (t:Tg) (it:Ld) (b:jw)
 |ret (e:Ex)|raise
inductive jw where
 |nil|cons (s:yt) (r:jw)
end
noncomputable abbrev yt.a(i:Nat)(e:Ex):yt:=.asg (.tg (.name i)) e
noncomputable abbrev yt.f(c:Ex)(b:jw):yt:=.iff c b .nil
noncomputable abbrev jw.z:=jw.nil
noncomputable abbrev jw.c:=jw.cons
noncomputable abbrev jw.o(a:yt):jw:=.cons a .nil
noncomputable abbrev jw.p(a b:yt):jw:=.cons a (.cons b .nil)
noncomputable abbrev jw.q(a b c:yt):jw:=.cons a (.cons b (.cons c .nil))
structure Fn where
 np:Nat
 ns:Nat
 body:jw
noncomputable def dw(M:dg):D->Option (List D)
 |.vl ds=>some ds|.ref n=>match M[n]? with|some (.lst ds)=>some ds|_=>none
 |_=>none
def jl(M:dg):D->Option (List D)
 |.tup ds=>some ds|d=>dw M d
noncomputable def aoe:D->Option Kx
 |.int i=>some (.inl i)|.str s=>some (.inr s)|_=>none
def ae7:List D->Option (List Kx)
 |[]=>some []
 |d::ds=>match aoe d,ae7 ds with
  |some k,some ks=>some (k::ks)|_,_=>none
def Yz:D->Option (List Kx)
 |.tup ds=>ae7 ds|_=>none
noncomputable def Tf(f:D->D->Option Bool):List D->List D->Option Bool
 |[],[]=>some true
 |a::as,b::bs=>match f a b,Tf f as bs with
  |some x,some y=>some (x&&y)|_,_=>none
 |_,_=>some false
instance:DecidableEq Kx:=inferInstanceAs (DecidableEq (Sum Int Str))
noncomputable def Jb{Z:Type}[DecidableEq Z](G:List (Z×D))(k:Z):Option D:=(G.find? λp=>decide (p.1=k)).map (·.2)
def Nr(M:dg):Nat->D->D->Option Bool
 |0,_,_=>none
 |n+1,a,b=>match a,b with
  |.int i,.int j=>some (decide (i=j))|.bl i,.bl j=>some (i==j)|.str i,.str j=>some (decide (i=j))|.tup as,.tup bs=>Tf (Nr M n) as bs
  |a,b=>match dw M a,dw M b with
   |some as,some bs=>if as.length=bs.length then Tf (Nr M n) as bs else some false
   |_,_=>none
def Bb(M:dg)(a b:D):Option Bool:=Nr M 6 a b
def Ot(M:dg)(x:D):List D->Option (List Bool)
 |[]=>some []
 |y::ys=>match Bb M y x,Ot M x ys with
  |some a,some b=>some (a::b)|_,_=>none
def memD(M:dg)(x:D)(Z:List D):Option Bool:=(Ot M x Z).map (·.any id)
noncomputable def Th:List D->Option (List Int)
 |[]=>some []|.int i::r=>(Th r).map (i::·)|_::_=>none
noncomputable def Ln(n:Nat)(i:Int):Option Nat:=if 0<=i then(if i<n then some i.toNat else none) else if -(n:Int)<=i then some (i+n).toNat else none
noncomputable def clip(n:Nat)(d:Nat):Option Int->Nat
 |none=>d|some i=>if 0<=i then min i.toNat n else(i+n).toNat
def Dg(Z:List D)(G U:Option Int):List D:=(Z.drop (clip Z.length 0 G)).take (clip Z.length Z.length U-clip Z.length 0 G)
noncomputable def ajb:List Int->Option Int
 |[]=>none|a::r=>some (r.foldl (λm x=>if m<x then x else m) a)
noncomputable def aof:List Int->Option Int
 |[]=>none|a::r=>some (r.foldl (λm x=>if x<m then x else m) a)
noncomputable def Bc:List Int->List Int
 |[]=>[]|x::xs=>if x∈xs then Bc xs else x::Bc xs
noncomputable def new(o:MO)(M:dg):Res D:=.ok (.ref M.length) (M++[o])
def ae8(a b:D)(M:dg):Res D :=
 match a,b with
 |.int i,.int j=>.ok (.int (i+j)) M|.tup xs,.tup ys=>if xs.length+ys.length<=100000 then .ok (.tup (xs++ys)) M else .bad
 |x,y=>match dw M x,dw M y with
  |some xs,some ys=>if xs.length+ys.length<=100000 then .ok (.vl (xs++ys)) M else .bad
  |_,_=>.bad
noncomputable def ii{α:Type}(x y:D)(f:Int->Int->α)(z:α):α:=match x with|.int i=>(match y with|.int j=>f i j|_=>z)|_=>z
def Y0(h:ii x y f z=r)(Z:z≠r):∃i j,x=.int i/\y=.int j/\f i j=r:=by
 cases x with
 |int i=>cases y with
  |int j=>exact⟨i,j,rfl,rfl,h⟩|_=>exact absurd h Z
 |_=>exact absurd h Z
@[simp] def ay4(i j:Int)(f:Int->Int->α)(z:α):ii (.int i) (.int j) f z=f i j:=rfl
def ato(a b:D)(M:dg):Res D:=ii a b (λi j=>.ok (.int (i-j)) M) .bad
def atp(a b:D)(M:dg):Res D:=ii a b (λi j=>if(-(2 ^ 64)<i/\i<2 ^ 64)\/(-(2 ^ 64)<j/\j<2 ^ 64) then .ok (.int (i*j)) M else .bad) .bad
def aog(a b:D)(M:dg):Res D:=ii a b (λi j=>if 0<j/\j<1073741824 then .ok (.int (i / j)) M else .bad) .bad
def atq(a b:D)(M:dg):Res D:=ii a b (λi j=>if 0<j then .ok (.int (i%j)) M else .bad) .bad
def amw(a b:D)(M:dg):Res D:=ii a b (λi j=>if 0<=j/\j<=64/\i.natAbs<2 ^ 64 then .ok (.int (i ^ j.toNat)) M else .bad) .bad
def yu(Z:Op2):D->D->dg->Res D :=
 match Z with
 |.add=>ae8|.sub=>ato|.mul=>atp|.fdiv=>aog|.mod=>atq|.pow=>amw
def R9(M:dg)(a b:D):Option Bool:=(jl M b).bind (memD M a)
def Wm(f:Int->Int->Bool)(a b:D):Option Bool:=ii a b (λi j=>some (f i j)) none
def Jg(Z:Cp)(a b:D)(M:dg):Option Bool :=
 match Z with
 |.lt=>Wm (λi j=>decide (i<j)) a b
 |.le=>Wm (λi j=>decide (i<=j)) a b
 |.gt=>Wm (λi j=>decide (j<i)) a b
 |.ge=>Wm (λi j=>decide (j<=i)) a b
 |.eq=>Bb M a b|.ne=>(Bb M a b).map not|.inn=>R9 M a b|.Pz=>(R9 M a b).map not
def t6(a b:D)(M:dg):Option D :=
 match a with
 |.fz ds=>match b with
  |.int i=>(Ln ds.length i).bind λj=>ds[j]?
  |_=>none
 |_=>match jl M a,b with
  |some ds,.int i=>(Ln ds.length i).bind λj=>ds[j]?
  |_,_=>none
def Ai(a:D)(U G:Option Int)(M:dg):Option D:=match a with
 |.tup Z=>some (.tup (Dg Z U G))|_=>(dw M a).map λZ=>.vl (Dg Z U G)
noncomputable def allB:List D->Option Bool
 |[]=>some true|.bl b::r=>(allB r).map (b&&·)|_::_=>none
noncomputable def Uw(M:dg):D->Res D
 |.ref n=>match M[n]? with
  |some (.lst ds)=>.ok (.int ds.length) M|_=>.bad
 |.fz ds=>.ok (.int ds.length) M|.tup ds=>.ok (.int ds.length) M|.vl ds=>.ok (.int ds.length) M|_=>.bad
def two(Z:List D)(f:Int->Int->Int)(g:D->Option Int)(M:dg):Res D :=
 match Z with
 |[a,b]=>(match a,b with|.int i,.int j=>.ok (.int (f i j)) M|_,_=>.bad)
 |[d]=>Res.qi ((g d).map D.int) M|_=>.bad
noncomputable def Ou(Z:List D)(g:D->Res D):Res D :=
 match Z with
 |[d]=>g d|_=>.bad
def qw(b:Blt)(Z:List D)(M:dg):Res D :=
 match b with
 |.len=>Ou Z (Uw M)|.tuple=>Ou Z λd=>Res.qi ((jl M d).map D.tup) M
 |.max=>two Z (λi j=>if i<j then j else i) (λd=>((jl M d).bind Th).bind ajb) M
 |.min=>two Z (λi j=>if j<i then j else i) (λd=>((jl M d).bind Th).bind aof) M
 |.all=>Ou Z λd=>Res.qi (((dw M d).bind allB).map D.bl) M
 |.isBool=>Ou Z λd=>match d with|.bl _=>.ok (.bl true) M|_=>.bad
 |.Gj=>Ou Z λd=>match d with
  |.tup Z=>Res.qi ((Th Z).bind λis=>if is.length<31 then some (D.int (Bc is).length) else none) M
  |_=>.bad
 |.list=>Ou Z λd=>match jl M d with
  |some G=>new (.lst G) M|none=>.bad
def P0(m:Bm)(x:D)(M:dg):Bool :=
 match m with
 |.setdefault=>(match x with|.ref n=>(match M[n]? with|some (.dT _)=>true|_=>false)|_=>false)
 |_=>(dw M x).isSome
noncomputable def Nb(n:Nat):D->Bool
 |.ref k=>k != n|_=>true
noncomputable def onL(o:D)(M:dg)(f:Nat->List D->Res D):Res D:=match o with
 |.ref n=>match M[n]? with|some (.lst xs)=>f n xs|_=>.bad
 |_=>.bad
noncomputable def onT(o:D)(M:dg)(f:Nat->List (List Kx×D)->Res D):Res D:=match o with
 |.ref n=>match M[n]? with|some (.dT xu)=>f n xu|_=>.bad
 |_=>.bad
def Jc(m:Bm)(o:D)(U:List D)(M:dg):Res D :=
 match m with
 |.append=>onL o M λn Z=>Ou U λd=>if Z.length<100000 then .ok .non (M.set n (.lst (Z++[d]))) else .bad
 |.extend=>onL o M λn Z=>Ou U λy=>match dw M y with
  |some R=>if Nb n y=true/\Z.length+R.length<100000 then .ok .non (M.set n (.lst (Z++R))) else .bad
  |none=>.bad
 |.setdefault=>onT o M λn G=>match U with
  |[k,d]=>match Yz k with
   |some q=>match Jb G q with
    |some v=>.ok v M|none=>if G.length<100000 then .ok d (M.set n (.dT (G++[(q,d)]))) else .bad
   |none=>.bad
  |_=>.bad
def setOp(o i v:D)(M:dg):Option dg :=
 match o with
 |.ref n=>match M[n]? with
  |some (.lst xs)=>match i with
   |.int j=>(Ln xs.length j).map λq=>M.set n (.lst (xs.set q v))
   |_=>none
  |_=>none
 |_=>none
inductive Src where
 |con (ds:List D)|live (n:Nat) (len:Nat)|el (n:Nat) (len:Nat)
noncomputable def Src.len:Src->Nat
 |.con ds=>ds.length|.live _ k=>k|.el _ k=>k
noncomputable def Src.item(s:Src)(i:Nat)(M:dg):Option D :=
 match s with
 |.con ds=>ds[i]?
 |.live n k=>match M[n]? with
  |some (.lst ds)=>if ds.length=k then ds[i]? else none
  |_=>none
 |.el n k=>match M[n]? with
  |some (.lst ds)=>if ds.length=k then(ds[i]?).map λd=>.tup [.int i,d] else none
  |_=>none
noncomputable def Src.fin(s:Src)(M:dg):Bool :=
 match s with
 |.con _=>true
 |.live n k=>match M[n]? with
  |some (.lst ds)=>ds.length==k|_=>false
 |.el n k=>match M[n]? with
  |some (.lst ds)=>ds.length==k|_=>false
noncomputable def srcOf(M:dg)(d:D):Option Src :=
 match d with
 |.tup ds=>some (.con ds)|.vl ds=>some (.con ds)
 |.ref n=>match M[n]? with
  |some (.lst ds)=>some (.live n ds.length)|_=>none
 |_=>none
inductive Flow where
 |next|brk|cont|ret (d:D)
noncomputable def Gk:List Nat->List D->Env->Env
 |i::is,d::ds,ρ=>Gk is ds (ρ.set i (some d))|_,_,ρ=>ρ
def Tg.put(t:Tg)(d:D)(Z:Env):Option Env :=
 match t with
 |.name i=>some (Z.set i (some d))
 |.names is=>match d with
  |.tup ds=>if ds.length=is.length then some (Gk is ds Z) else none
  |_=>none
structure Kl where
 call:Nat->List D->dg->Res D
def Aj(fin:dg->Bool)(item:Nat->dg->Option D)(Z:D->Env->dg->Res (Flow×Env)):Nat->Nat->Env->dg->Res (Flow×Env)
 |0,_,ρ,M=>if fin M then .ok (.next,ρ) M else .bad
 |k+1,i,ρ,M=>match item i M with
  |none=>.bad
  |some d=>(Z d ρ M).bind λr G=>match r.1 with
   |.next=>Aj fin item Z k (i+1) r.2 G|.cont=>Aj fin item Z k (i+1) r.2 G|.brk=>.ok (.next,r.2) G|.ret v=>.ok (.ret v,r.2) G
def zm(fin:dg->Bool)(item:Nat->dg->Option D)(Z:D->dg->Res (Option D)):Nat->Nat->dg->Res (List D)
 |0,_,M=>if fin M then .ok [] M else .bad
 |k+1,i,M=>match item i M with
  |none=>.bad|some d=>(Z d M).bind λo R=>(zm fin item Z k (i+1) R).bind λG U=>.ok (match o with|some x=>x::G|none=>G) U
def wk(s:Src)(Z:D->dg->Res (Option D))(M:dg):Res (List D):=if s.len<=100000 then zm s.fin s.item Z s.len 0 M else .bad
def Ak(c:Env->dg->Res D)(Z:Env->dg->Res (Flow×Env)):Nat->Env->dg->Res (Flow×Env)
 |0,_,_=>.bad
 |k+1,ρ,M=>(c ρ M).bind λb U=>match b with
  |.bl false=>.ok (.next,ρ) U
  |.bl true=>(Z ρ U).bind λr G=>match r.1 with
   |.next=>Ak c Z k r.2 G|.cont=>Ak c Z k r.2 G|.brk=>.ok (.next,r.2) G|.ret v=>.ok (.ret v,r.2) G
  |_=>.bad
noncomputable def Sd:Nat:=1000000
noncomputable def Ov(Z G:List D):List D:=(Z.zip G).map λp=>.tup [p.1,p.2]
noncomputable def Bd(Z:List D):Nat->List D:=λn=>(Z.zipIdx n).map λp=>D.tup [.int p.2,p.1]
noncomputable def aal(d:D)(M:dg):Res Src :=
 match d with
 |.ref n=>match M[n]? with
  |some (.dT xu)=>.ok (.con (xu.map (·.2))) (M.set n (.dF xu))|_=>.bad
 |_=>.bad
def ada(d:D)(M:dg):Res Src :=
 match d with
 |.tup ds=>.ok (.con (Bd ds 0)) M|.vl ds=>.ok (.con (Bd ds 0)) M
 |.ref n=>match M[n]? with
  |some (.lst ds)=>.ok (.el n ds.length) M|_=>.bad
 |_=>.bad
def aoi(Z:List D)(M:dg):Res Src:=match Z with
 |[.tup xs,.tup ys]=>.ok (.con (Ov xs ys)) M|_=>.bad
mutual
def Ex.den(W:Kl):Ex->Env->dg->Res D
 |.var i,ρ,M=>match ρ[i]? with
  |some (some d)=>.ok d M|_=>.bad
 |.cst d,_,M=>.ok d M|.bin op a b,ρ,M=>(a.den W ρ M).bind λx Z=>(b.den W ρ Z).bind λy G=>yu op x y G
 |.neg a,ρ,M=>(a.den W ρ M).bind λx Z=>match x with|.int i=>.ok (.int (-i)) Z|_=>.bad
 |.cmp op a b,ρ,M=>(a.den W ρ M).bind λx Z=>(b.den W ρ Z).bind λy G=>Res.qi ((Jg op x y G).map D.bl) G
 |.chain o1 o2 a b c,ρ,M=>(a.den W ρ M).bind λx Z=>(b.den W ρ Z).bind λy G=>(Res.qi (Jg o1 x y G) G).bind λq G=>if q then(c.den W ρ G).bind λz M3=>Res.qi ((Jg o2 y z M3).map D.bl) M3 else .ok (.bl false) G
 |.and a b,ρ,M=>(a.den W ρ M).bind λx Z=>match x with|.bl true=>b.den W ρ Z|.bl false=>.ok (.bl false) Z|_=>.bad
 |.or a b,ρ,M=>(a.den W ρ M).bind λx Z=>match x with|.bl true=>.ok (.bl true) Z|.bl false=>b.den W ρ Z|_=>.bad
 |.not a,ρ,M=>(a.den W ρ M).bind λx Z=>match x with|.bl b=>.ok (.bl !b) Z|_=>.bad
 |.tup es,ρ,M=>(es.den W ρ M).bind λU Z=>.ok (.tup U) Z
 |.lst es,ρ,M=>(es.den W ρ M).bind λU Z=>new (.lst U) Z
 |.Df es,ρ,M=>(es.den W ρ M).bind λU Z=>.ok (.vl U) Z
 |.ac8,_,M=>new (.dT []) M|.ix a b,ρ,M=>(a.den W ρ M).bind λx Z=>(b.den W ρ Z).bind λy G=>Res.qi (t6 x y G) G
 |.cut a lo hi,ρ,M=>(a.den W ρ M).bind λx Z=>(lo.den W ρ Z).bind λl G=>(hi.den W ρ G).bind λh M3=>Res.qi (Ai x l h M3) M3
 |.call f es,ρ,M=>(es.den W ρ M).bind λU Z=>W.call f U Z
 |.blt b es,ρ,M=>(es.den W ρ M).bind λU Z=>qw b U Z
 |.bm m o es,ρ,M=>(o.den W ρ M).bind λx Z=>if P0 m x Z then(es.den W ρ Z).bind λU G=>Jc m x U G else .bad
 |.comp v k t it e,ρ,M=>(it.den W ρ M).bind λs Z =>
  (wk s (λd M=>match t.put d (ρ++List.replicate k none) with
   |some R=>(e.den W R M).bind λx M'=>.ok (some x) M'
   | none=>.bad) Z).bind λU G=>if v then .ok (.vl U) G else new (.lst U) G
 |.ud v k t it c e,ρ,M=>(it.den W ρ M).bind λs Z =>
  (wk s (λd M=>match t.put d (ρ++List.replicate k none) with
   |some R=>(c.den W R M).bind λb M'=>match b with
    |.bl true=>(e.den W R M').bind λx qq=>.ok (some x) qq
    |.bl false=>.ok none M'|_=>.bad
   | none=>.bad) Z).bind λU G=>if v then .ok (.vl U) G else new (.lst U) G
 |.ntr e,ρ,M=>(e.den W ρ M).bind λx Z=>Res.qi ((jl Z x).map λU=>D.bl U.isEmpty) Z
 |.tru e,ρ,M=>(e.den W ρ M).bind λx Z=>Res.qi ((jl Z x).map λU=>D.bl !U.isEmpty) Z
def Dl.den(W:Kl):Dl->Env->dg->Res (List D)
 |.nil,_,M=>.ok [] M|.cons e es,ρ,M=>(e.den W ρ M).bind λx G=>(es.den W ρ G).bind λZ U=>.ok (x::Z) U
def OEx.den(W:Kl):OEx->Env->dg->Res (Option Int)
 |.none,_,M=>.ok none M|.some e,ρ,M=>(e.den W ρ M).bind λx Z=>match x with|.int i=>.ok (some i) Z|_=>.bad
def Ld.den(W:Kl):Ld->Env->dg->Res Src
 |.val e,ρ,M=>(e.den W ρ M).bind λx Z=>Res.qi (srcOf Z x) Z
 |.Kh e,ρ,M=>(e.den W ρ M).bind λx Z=>match x with
  |.int i=>if i.natAbs<=100000 then .ok (.con ((List.range i.toNat).map λ(k:Nat)=>D.int (k:Int))) Z else .bad
  |_=>.bad
 |.enm e,ρ,M=>(e.den W ρ M).bind ada|.zip es,ρ,M=>(es.den W ρ M).bind aoi|.vals e,ρ,M=>(e.den W ρ M).bind aal
end
def Lv.put(W:Kl)(l:Lv)(d:D)(Z:Env)(M:dg):Res Env :=
 match l with
 |.tg t=>Res.qi (t.put d Z) M|.sub o i=>(o.den W Z M).bind λx R=>(i.den W Z R).bind λy G=>(Res.qi (setOp x y d G) G).bind λU _=>.ok Z U
mutual
def yt.den(W:Kl):yt->Env->dg->Res (Flow×Env)
 |.asg l e,Z,M=>(e.den W Z M).bind λx G=>(l.put W x Z G).bind λU R=>.ok (.next,U) R
 |.expr e,Z,M=>(e.den W Z M).bind λ_ G=>.ok (.next,Z) G
 |.iff c a b,Z,M=>(c.den W Z M).bind λx G=>match x with|.bl true=>a.den W Z G|.bl false=>b.den W Z G|_=>.bad
 |.whl c b,Z,M=>Ak (c.den W) (b.den W) Sd Z M
 | .for_ t it b,Z,M=>(it.den W Z M).bind λs G=>Aj s.fin s.item (λd Z M=>match t.put d Z with
  | some U=>b.den W U M|none=>.bad) s.len 0 Z G
 |.ret e,Z,M=>(e.den W Z M).bind λx G=>.ok (.ret x,Z) G
 |.raise,_,_=>.bad
def jw.den(W:Kl):jw->Env->dg->Res (Flow×Env)
 |.nil,ρ,M=>.ok (.next,ρ) M
 |.cons s r,ρ,M=>(s.den W ρ M).bind λp Z=>match p.1 with
  |.next=>r.den W p.2 Z|.brk=>.ok (.brk,p.2) Z|.cont=>.ok (.cont,p.2) Z|.ret d=>.ok (.ret d,p.2) Z
end
structure Prog where
 fns:List Fn
def Fn.run(W:Kl)(f:Fn)(G:List D)(M:dg):Res D :=
 if G.length=f.np then
  (f.body.den W (G.map some++List.replicate (f.ns-f.np) none) M).bind λp Z=>match p.1 with
   |.ret d=>.ok d Z|.next=>.ok .non Z|_=>.bad
 else .bad
def Prog.call(P:Prog):Nat->Nat->List D->dg->Res D
 |0,_,_,_=>.bad
 |n+1,f,ds,M=>match P.fns[f]? with
  |some F=>F.run ⟨P.call n⟩ ds M|none=>.bad
@[simp] def ajc(i:Nat):(Ex.var i).den W Z M=match Z[i]? with|some (some d)=>.ok d M|_=>.bad:=rfl
@[simp high] theorem aoj(d:D)(r:Env):(Ex.var 0).den W (some d::r) M=.ok d M:=rfl
@[simp high] theorem ae9(Z:Option D)(d:D)(r:Env):(Ex.var 1).den W (Z::some d::r) M=.ok d M:=rfl
@[simp high] theorem ay5(Z G:Option D)(d:D)(r:Env):(Ex.var 2).den W (Z::G::some d::r) M=.ok d M:=rfl
@[simp high] theorem ay6(G U Z:Option D)(d:D)(r:Env):(Ex.var 3).den W (G::U::Z::some d::r) M=.ok d M:=rfl
@[simp high] theorem aok(U G R Z:Option D)(d:D)(r:Env):(Ex.var 4).den W (U::G::R::Z::some d::r) M=.ok d M:=rfl
@[simp high] theorem aol(G a1 U R Z:Option D)(d:D)(r:Env):(Ex.var 5).den W (G::a1::U::R::Z::some d::r) M=.ok d M:=rfl
@[simp high] theorem aom(G a1 U R Z a5:Option D)(d:D)(r:Env):(Ex.var 6).den W (G::a1::U::R::Z::a5::some d::r) M=.ok d M:=rfl
@[simp high] theorem aon(G a1 U R Z a5 a6:Option D)(d:D)(r:Env):(Ex.var 7).den W (G::a1::U::R::Z::a5::a6::some d::r) M=.ok d M:=rfl
@[simp high] theorem afa(G a1 U R Z a5 a6 a7:Option D)(d:D)(r:Env):(Ex.var 8).den W (G::a1::U::R::Z::a5::a6::a7::some d::r) M=.ok d M:=rfl
@[simp high] theorem ay7(U a1 R a3 Z a5 a6 a7 G:Option D)(d:D)(r:Env):(Ex.var 9).den W (U::a1::R::a3::Z::a5::a6::a7::G::some d::r) M=.ok d M:=rfl
@[simp high] theorem ax1(U a1 R a3 G a5 a6 a7 Z a9:Option D)(d:D)(r:Env):(Ex.var 10).den W (U::a1::R::a3::G::a5::a6::a7::Z::a9::some d::r) M=.ok d M:=rfl
@[simp high] theorem ax2(R a1 a2 a3 U a5 a6 a7 G a9 Z:Option D)(d:D)(r:Env):(Ex.var 11).den W (R::a1::a2::a3::U::a5::a6::a7::G::a9::Z::some d::r) M=.ok d M:=rfl
@[simp high] theorem ax3(a0 a1 a2 a3 a4 a5 U a7 R a9 G Z:Option D)(d:D)(r:Env):(Ex.var 12).den W (a0::a1::a2::a3::a4::a5::U::a7::R::a9::G::Z::some d::r) M=.ok d M:=rfl
@[simp] def Fo(d:D):(Ex.cst d).den W Z M=.ok d M:=rfl
@[simp] def Ux(G:Op2)(a b:Ex):(Ex.bin G a b).den W Z M=(a.den W Z M).bind λx U=>(b.den W Z U).bind λy M2=>yu G x y M2:=rfl
@[simp] def ajd(a:Ex):(Ex.neg a).den W Z M=(a.den W Z M).bind λx G=>match x with|.int i=>.ok (.int (-i)) G|_=>.bad:=rfl
@[simp] def O4(G:Cp)(a b:Ex):(Ex.cmp G a b).den W Z M=(a.den W Z M).bind λx U=>(b.den W Z U).bind λy M2=>Res.qi ((Jg G x y M2).map D.bl) M2:=rfl
@[simp] def adb(G R:Cp)(a b c:Ex):(Ex.chain G R a b c).den W Z M=(a.den W Z M).bind λx M1=>(b.den W Z M1).bind λy M2=>(Res.qi (Jg G x y M2) M2).bind λq M2=>if q then(c.den W Z M2).bind λz U=>Res.qi ((Jg R y z U).map D.bl) U else .ok (.bl false) M2:=rfl
def aam(a b:Ex):(Ex.and a b).den W Z M=(a.den W Z M).bind λx G=>match x with|.bl true=>b.den W Z G|.bl false=>.ok (.bl false) G|_=>.bad:=rfl
def afb(a b:Ex):(Ex.or a b).den W Z M=(a.den W Z M).bind λx G=>match x with|.bl true=>.ok (.bl true) G|.bl false=>b.den W Z G|_=>.bad:=rfl
@[simp] def aan(a:Ex):(Ex.not a).den W Z M=(a.den W Z M).bind λx G=>match x with|.bl b=>.ok (.bl !b) G|_=>.bad:=rfl
@[simp] def aje(Z:Dl):(Ex.tup Z).den W G M=(Z.den W G M).bind λU M1=>.ok (.tup U) M1:=rfl
@[simp] def ajf(Z:Dl):(Ex.lst Z).den W G M=(Z.den W G M).bind λU M1=>new (.lst U) M1:=rfl
@[simp] def Jh(Z:Dl):(Ex.Df Z).den W G M=(Z.den W G M).bind λU M1=>.ok (.vl U) M1:=rfl
@[simp] def afc:Ex.ac8.den W Z M=new (.dT []) M:=rfl
@[simp] def aoo(a b:Ex):(Ex.ix a b).den W Z M=(a.den W Z M).bind λx G=>(b.den W Z G).bind λy M2=>Res.qi (t6 x y M2) M2:=rfl
@[simp] def aao(a:Ex)(G U:OEx):(Ex.cut a G U).den W Z M=(a.den W Z M).bind λx R=>(G.den W Z R).bind λl M2=>(U.den W Z M2).bind λh M3=>Res.qi (Ai x l h M3) M3:=rfl
@[simp] def Wn(f:Nat)(Z:Dl):(Ex.call f Z).den W G M=(Z.den W G M).bind λU M1=>W.call f U M1:=rfl
@[simp] def Uy(b:Blt)(Z:Dl):(Ex.blt b Z).den W G M=(Z.den W G M).bind λU M1=>qw b U M1:=rfl
@[simp] def aop(m:Bm)(o:Ex)(G:Dl):(Ex.bm m o G).den W U M=(o.den W U M).bind λx Z=>if P0 m x Z then(G.den W U Z).bind λR M2=>Jc m x R M2 else .bad:=rfl
def Wo(v:Bool)(k:Nat)(t:Tg)(it:Ld)(e:Ex):(Ex.comp v k t it e).den W U M=(it.den W U M).bind λs R =>
 (wk s (λd M=>match t.put d (U++List.replicate k none) with
  |some Z=>(e.den W Z M).bind λx M'=>.ok (some x) M'
  | none=>.bad) R).bind λG M2=>if v then .ok (.vl G) M2 else new (.lst G) M2:=rfl
def Qa(v:Bool)(k:Nat)(t:Tg)(it:Ld)(c e:Ex):(Ex.ud v k t it c e).den W ρ M=(it.den W ρ M).bind λs M1 =>
 (wk s (λd M=>match t.put d (ρ++List.replicate k none) with
  |some Z=>(c.den W Z M).bind λb R=>match b with
   |.bl true=>(e.den W Z R).bind λx G=>.ok (some x) G
   |.bl false=>.ok none R|_=>.bad
  | none=>.bad) M1).bind λU M2=>if v then .ok (.vl U) M2 else new (.lst U) M2:=rfl
@[simp] def Be:Dl.nil.den W Z M=.ok [] M:=rfl
@[simp] def zb(e:Ex)(G:Dl):(Dl.cons e G).den W Z M=(e.den W Z M).bind λx R=>(G.den W Z R).bind λU M2=>.ok (x::U) M2:=rfl
@[simp] def Ti:OEx.none.den W Z M=.ok none M:=rfl
@[simp] def Tj(e:Ex):(OEx.some e).den W Z M=(e.den W Z M).bind λx G=>match x with|.int i=>.ok (some i) G|_=>.bad:=rfl
@[simp] def Fp(e:Ex):(Ld.val e).den W Z M=(e.den W Z M).bind λx M1=>Res.qi (srcOf M1 x) M1:=rfl
@[simp] theorem Lp{W:Kl}{Z:Env}{M:dg}(e:Ex):(Ld.Kh e).den W Z M=(e.den W Z M).bind λx G=>match x with
 |.int i=>if i.natAbs<=100000 then .ok (.con ((List.range i.toNat).map λ(k:Nat)=>D.int (k:Int))) G else .bad
 |_=>.bad:=rfl
@[simp] def Uz(e:Ex):(Ld.enm e).den W Z M=(e.den W Z M).bind ada:=rfl
@[simp] def Wq(e:Ex):(Ld.vals e).den W Z M=(e.den W Z M).bind aal:=rfl
@[simp] def aap(Z:Dl):(Ld.zip Z).den W G M=(Z.den W G M).bind aoi:=rfl
@[simp] def U0(e:Ex):(Ex.ntr e).den W Z M=(e.den W Z M).bind λx M1=>Res.qi ((jl M1 x).map λG=>D.bl G.isEmpty) M1:=rfl
@[simp] def aaq(e:Ex):(Ex.tru e).den W Z M=(e.den W Z M).bind λx M1=>Res.qi ((jl M1 x).map λG=>D.bl !G.isEmpty) M1:=rfl
@[simp] def Qc(l:Lv)(e:Ex):(yt.asg l e).den W G M=(e.den W G M).bind λx U=>(l.put W x G U).bind λZ M2=>.ok (.next,Z) M2:=rfl
@[simp] def aar(e:Ex):(yt.expr e).den W Z M=(e.den W Z M).bind λ_ M1=>.ok (.next,Z) M1:=rfl
def aoq(c:Ex)(a b:jw):(yt.iff c a b).den W Z M=(c.den W Z M).bind λx G=>match x with|.bl true=>a.den W Z G|.bl false=>b.den W Z G|_=>.bad:=rfl
@[simp] def aor(e:Ex):(yt.ret e).den W Z M=(e.den W Z M).bind λx M1=>.ok (.ret x,Z) M1:=rfl
@[simp] def afd:yt.raise.den W Z M=.bad:=rfl
def Nf(c:Ex)(b:jw):(yt.whl c b).den W Z M=Ak (c.den W) (b.den W) Sd Z M:=rfl
def afe(t:Tg)(it:Ld)(b:jw):(yt.for_ t it b).den W Z M=(it.den W Z M).bind λs M1=>Aj s.fin s.item (λd Z M=>match t.put d Z with
 | some G=>b.den W G M|none=>.bad) s.len 0 Z M1:=rfl
@[simp] def aas:jw.nil.den W Z M=.ok (.next,Z) M:=rfl
theorem afg{W:Kl}{Z:Env}{M:dg}(s:yt)(r:jw):(jw.cons s r).den W Z M=(s.den W Z M).bind λp M1=>match p.1 with
 |.next=>r.den W p.2 M1|.brk=>.ok (.brk,p.2) M1|.cont=>.ok (.cont,p.2) M1|.ret d=>.ok (.ret d,p.2) M1:=rfl
def afh(W:Kl)(r:jw)(x:Res (Flow×Env)):Res (Flow×Env):=x.bind λp Z=>match p.1 with
 |.next=>r.den W p.2 Z|.brk=>.ok (.brk,p.2) Z|.cont=>.ok (.cont,p.2) Z|.ret d=>.ok (.ret d,p.2) Z
@[simp] def Bf(s:yt)(r:jw):(jw.cons s r).den W Z M=afh W r (s.den W Z M):=rfl
@[simp] def Bg(r:jw):afh W r (.ok (.next,Z) M)=r.den W Z M:=rfl
@[simp] def ax4(r:jw):afh W r (.ok (.brk,Z) M)=.ok (.brk,Z) M:=rfl
@[simp] def atu(r:jw):afh W r (.ok (.cont,Z) M)=.ok (.cont,Z) M:=rfl
@[simp] def ax5(r:jw)(d:D):afh W r (.ok (.ret d,Z) M)=.ok (.ret d,Z) M:=rfl
def ifK{α:Type}(a b:dg->Res α)(x:Res D):Res α:=x.bind λx Z=>match x with|.bl true=>a Z|.bl false=>b Z|_=>.bad
@[simp] def Wr(c:Ex)(a b:jw):(yt.iff c a b).den W Z M=ifK (a.den W Z) (b.den W Z) (c.den W Z M):=rfl
@[simp] def ay8(a b:Ex):(Ex.and a b).den W Z M=ifK (b.den W Z) (.ok (.bl false)) (a.den W Z M):=rfl
@[simp] def amx(a b:Ex):(Ex.or a b).den W Z M=ifK (.ok (.bl true)) (b.den W Z) (a.den W Z M):=rfl
@[simp] def atv(a b:dg->Res α):ifK a b (.ok (.bl true) M)=a M:=rfl
@[simp] def amy(a b:dg->Res α):ifK a b (.ok (.bl false) M)=b M:=rfl
@[simp] def Qd(t:Tg)(d:D):(Lv.tg t).put W d Z M=Res.qi (t.put d Z) M:=rfl
@[simp] def ajg(o i:Ex)(d:D):(Lv.sub o i).put W d Z M=(o.den W Z M).bind λx U=>(i.den W Z U).bind λy G=>(Res.qi (setOp x y d G) G).bind λM3 _=>.ok Z M3:=rfl
@[simp] def K6(i:Nat)(d:D):(Tg.name i).put d Z=some (Z.set i (some d)):=rfl
@[simp] def amz(is:Y3)(Z:List D)(h:Z.length=is.length):(Tg.names is).put (.tup Z) G=some (Gk is Z G):=by simp[Tg.put,h]
@[simp] def Ws(i:Nat)(is:Y3)(d:D)(Z:List D):Gk (i::is) (d::Z) G=Gk is Z (G.set i (some d)):=rfl
@[simp] def Y4(Z:List D):Gk [] Z ρ=ρ:=by cases Z<;>rfl
@[simp] def atw(i j:Int):yu .add (.int i) (.int j) M=.ok (.int (i+j)) M:=rfl
@[simp] def atx(i j:Int):yu .sub (.int i) (.int j) M=.ok (.int (i-j)) M:=rfl
def Ji(i j:Int)(h:(-(2 ^ 64)<i/\i<2 ^ 64)\/(-(2 ^ 64)<j/\j<2 ^ 64)):yu .mul (.int i) (.int j) M=.ok (.int (i*j)) M:=di h
def Tn(i j:Int)(h:0<j)(Z:j<1073741824):yu .fdiv (.int i) (.int j) M=.ok (.int (i / j)) M:=di ⟨h,Z⟩
@[simp] def aty(i j:Int)(h:0<j):yu .mod (.int i) (.int j) M=.ok (.int (i%j)) M:=di h
@[simp] def aos:yu .pow (.int 10) (.int 18) M=.ok (.int (10 ^ 18)) M:=by simp[yu,amw]
@[simp] def ajh(ds:List D):ada (.tup ds) M=.ok (.con (Bd ds 0)) M:=rfl
@[simp] def ay9(Z:List D):ada (.vl Z) M=.ok (.con (Bd Z 0)) M:=rfl
@[simp] def eq_str(i j:PySem.Str):Bb M (.str i) (.str j)=some (decide (i=j)):=rfl
def Hg(Z G:List D)(h:Z.length+G.length<=100000):yu .add (.tup Z) (.tup G) M=.ok (.tup (Z++G)) M:=di h
def Eg(Z G:List D)(h:Z.length+G.length<=100000):yu .add (.vl Z) (.vl G) M=.ok (.vl (Z++G)) M:=di h
@[simp] def aza(i j:Int):Jg .lt (.int i) (.int j) M=some (decide (i<j)):=rfl
@[simp] def azb(i j:Int):Jg .le (.int i) (.int j) M=some (decide (i<=j)):=rfl
@[simp] def cmp_gt(i j:Int):Jg .gt (.int i) (.int j) M=some (decide (j<i)):=rfl
@[simp] def azc(i j:Int):Jg .ge (.int i) (.int j) M=some (decide (j<=i)):=rfl
@[simp] def afi(a b:D):Jg .eq a b M=Bb M a b:=rfl
@[simp] def azd(a b:D):Jg .ne a b M=(Bb M a b).map not:=rfl
@[simp] def aze(a b:D):Jg .inn a b M=R9 M a b:=rfl
@[simp] def ash(a b:D):Jg .Pz a b M=(R9 M a b).map not:=rfl
def aji(n:Nat)(i j:Int):Nr M (n+1) (.int i) (.int j)=some (decide (i=j)):=rfl
def afj(G:f a b=some x)(U:Tf f Z bs=some y):Tf f (a::Z) (b::bs)=some (x&&y):=by simp[Tf,G,U]
@[simp] def eq_int(i j:Int):Bb M (.int i) (.int j)=some (decide (i=j)):=rfl
@[simp] def atz(i j:Bool):Bb M (.bl i) (.bl j)=some (i==j):=rfl
@[simp] def asi(ds:List D):dw M (.vl ds)=some ds:=rfl
@[simp] def at3(ds:List D):jl M (.vl ds)=some ds:=rfl
@[simp] def asj(ds:List D):jl M (.tup ds)=some ds:=rfl
def gq(h:M[n]?=some (.lst ds)):dw M (.ref n)=some ds:=by simp[dw,h]
def Bh(h:dw M d=some ds):jl M d=some ds:=by cases d<;>first|exact h|(simp[dw] at h)
set_option tactic.hygienic true in
def len_list(h:dw M d=some ds):qw .len [d] M=.ok (.int ds.length) M:=by
 show Uw M d=_;cases d with
 |vl Z=>simp[dw] at h;subst h;rfl
 |ref n =>
  simp only[dw] at h;split at h<;>simp at h;rename_i Z Y;subst h;simp[Uw,Y]
 |_=>simp[dw] at h
@[simp] def at4(d:D)(g:D->Res D):Ou [d] g=g d:=rfl
@[simp] def at5(g:D->Res D):Ou [] g=.bad:=rfl
@[simp] def asl(a b:D)(l:List D)(g:D->Res D):Ou (a::b::l) g=.bad:=rfl
@[simp] def azf(i j:Int)(f:Int->Int->Int)(g:D->Option Int):two [.int i,.int j] f g M=.ok (.int (f i j)) M:=rfl
@[simp] def ax6(d:D)(f:Int->Int->Int)(g:D->Option Int):two [d] f g M=Res.qi ((g d).map D.int) M:=rfl
@[simp] def aot(Z:List D):Uw M (.tup Z)=.ok (.int Z.length) M:=rfl
def um:qw .len [.tup ds] M=.ok (.int ds.length) M:=rfl
def w5(h:dw M d=some ds)(R:0<=i)(hx:ds[i.toNat]?=some x):t6 d (.int i) M=some x:=by
 obtain⟨G,Z⟩:=ak.mp hx;have U:i<ds.length:=by lia
 cases d with
 |vl xs=>simp[dw] at h;subst h;simp[t6,jl,Ln,R,U,G,Z]
 |ref n =>
  simp only[dw] at h;cases e:M[n]? with
  |none=>rw[e] at h;simp at h|some o=>rw[e] at h;cases o<;>simp at h<;>subst h<;>simp[t6,jl,dw,e,Ln,R,U,G,Z]
 |_=>simp[dw] at h
def Ho(h0:0<=i)(G:ds[i.toNat]?=some x):t6 (.tup ds) (.int i) M=some x:=by
 obtain⟨U,Z⟩:=ak.mp G;have R:i<ds.length:=by lia
 simp[t6,jl,Ln,h0,R,U,Z]
def at6(h0:0<=i)(G:ds[i.toNat]?=some x):t6 (.fz ds) (.int i) M=some x:=by
 obtain⟨U,Z⟩:=ak.mp G;have R:i<ds.length:=by lia
 simp[t6,Ln,h0,R,U,Z]
def afk:qw .len [.fz ds] M=.ok (.int ds.length) M:=rfl
@[simp] def Fq(x:D)(r:List D):t6 (.tup (x::r)) (.int 0) M=some x:=Ho (by decide) rfl
@[simp] def O5(x y:D)(r:List D):t6 (.tup (x::y::r)) (.int 1) M=some y:=Ho (by decide) rfl
@[simp] def aat(x y z:D)(r:List D):t6 (.tup (x::y::z::r)) (.int 2) M=some z:=Ho (by decide) rfl
@[simp] def a3n(i j:Int):Yz (.tup [.int i,.int j])=some [.inl i,.inl j]:=rfl
def Dp(h:M[n]?=some (.lst Z)):P0 .append (.ref n) M=true:=by simp[P0,dw,h]
def Al(h:M[n]?=some (.lst Z))(G:Z.length<100000):Jc .append (.ref n) [d] M=.ok .non (M.set n (.lst (Z++[d]))):=by simp[Jc,onL,h,G]
def U3(h:M[n]?=some (.lst Z))(U:0<=i)(G:i<Z.length):setOp (.ref n) (.int i) d M=some (M.set n (.lst (Z.set i.toNat d))):=by simp[setOp,h,Ln,U,G]
def qd{M:dg}(h:M[a]?=some o):a<M.length:=(ak.mp h).1
def nq{M:dg}(h:M[a]?=some p):(M.set a o)[a]?=some o:=by rw[qy (qd h)]
def jx{M:dg}(h:b≠a):(M.set b o)[a]?=M[a]?:=qg h
def u6{M:dg}{a:Nat}(h:M[a]?=some o):(M++X)[a]?=some o:=by rw[d9 (qd h)];exact h
@[simp] def wu{M:dg}:(M++[o])[M.length]?=some o:=by simp
theorem U4{fin:dg->Bool}{item:Nat->dg->Option D}{U:D->Env->dg->Res (Flow×Env)}(I:Nat->Env->dg->Prop){n:Nat}
 (step:∀i Z M,i<n->I i Z M->∃d fl G R,item i M=some d/\U d Z M=.ok (fl,G) R/\(fl=.next\/fl=.cont)/\I (i+1) G R) (Qe:∀Z M,I n Z M->fin M=true) :
 ∀(k i:Nat)(Z:Env)(M:dg),i+k=n->I i Z M->∃G R,Aj fin item U k i Z M=.ok (.next,G) R/\I n G R
 |0,i,Z,M,e,h=>by
  have q:i=n:=by lia
  rw[q] at h;exact⟨Z,M,by simp[Aj,Qe Z M h],h⟩
 |k+1,i,Z,M,e,h=>by
  obtain⟨d,fl,qq,M1,h1,h2,h3,h4⟩:=step i Z M (by lia) h;obtain⟨qk,M2,g1,g2⟩:=U4 I step Qe k (i+1) qq M1 (by lia) h4;refine⟨qk,M2,?_,g2⟩;rcases h3 with rfl|rfl<;>simp[Aj,h1,h2,g1]
def U5(I:Nat->Env->dg->Prop)(h0:I 0 G M)(step:∀i d G M,ds[i]?=some d->I i G M->∃U Z M',body d G M=.ok (U,Z) M'/\(U=.next\/U=.cont)/\I (i+1) Z M') :
 ∃Z M',Aj (Src.con ds).fin (Src.con ds).item body (Src.con ds).len 0 G M=.ok (.next,Z) M'/\I ds.length Z M':=by
 refine U4 I (λi G M R h=>?_) (λ_ _ _=>rfl) ds.length 0 G M (p8 _) h0;obtain⟨U,Z,M',a,b,c⟩:=step i ds[i] G M (by simp[R]) h;exact⟨ds[i],U,Z,M',by simp[Src.item,R],a,b,c⟩
def ajj(I:Nat->Env->dg->Prop)(h0:I 0 G M)(step:∀i G M,i<n->I i G M->∃R Z M',body (.int i) G M=.ok (R,Z) M'/\(R=.next\/R=.cont)/\I (i+1) Z M') :
 ∃Z M',Aj (Src.con ((List.range n).map λ(k:Nat)=>D.int (k:Int))).fin (Src.con ((List.range n).map λ(k:Nat)=>D.int (k:Int))).item body (Src.con ((List.range n).map λ(k:Nat)=>D.int (k:Int))).len 0 G M=.ok (.next,Z) M'/\I n Z M':=by
 have:=U5 (ds:=(List.range n).map λ(k:Nat)=>D.int (k:Int)) (body:=body) I h0 (λi d G M U h=>by
  have hi:i<n:=by have:=(ak.mp U).1;simpa using this
  rw[gw,List.getElem?_range hi] at U;have U:D.int (i:Int)=d:=by simpa using U
  subst U;exact step i G M hi h)
 simpa using this
def afl(I:Nat->Env->dg->Prop)(h0:I 0 G M)(stay:∀i G M,I i G M->M[p]?=some (.lst ds))(step:∀i d G M,ds[i]?=some d->I i G M->∃U Z M',body d G M=.ok (U,Z) M'/\(U=.next\/U=.cont)/\I (i+1) Z M') :
 ∃Z M',Aj (Src.live p ds.length).fin (Src.live p ds.length).item body (Src.live p ds.length).len 0 G M=.ok (.next,Z) M'/\I ds.length Z M':=by
 refine U4 I (λi G M R h=>?_) (λG M h=>by simp[Src.fin,stay _ G M h]) ds.length 0 G M (p8 _) h0;obtain⟨U,Z,M',a,b,c⟩:=step i ds[i] G M (by simp[R]) h;exact⟨ds[i],U,Z,M',by simp[Src.item,stay i G M h,R],a,b,c⟩
theorem Dh{fin:dg->Bool}{item:Nat->dg->Option D}{body:D->dg->Res (Option D)}(I:Nat->List D->dg->Prop){n:Nat}
 (step:∀i Z M,i<n->I i Z M->∃d o G,item i M=some d/\body d M=.ok o G/\I (i+1) (Z++o.toList) G) (R:∀Z M,I n Z M->fin M=true) :
 ∀(k i:Nat)(Z:List D)(M:dg),i+k=n->I i Z M->∃U G,zm fin item body k i M=.ok U G/\I n (Z++U) G
 |0,i,Z,M,e,h=>by
  have q:i=n:=by lia
  rw[q] at h;exact⟨[],M,by simp[zm,R Z M h],by simpa using h⟩
 |k+1,i,Z,M,e,h=>by
  obtain⟨d,o,M1,h1,h2,h3⟩:=step i Z M (by lia) h;obtain⟨U,M2,g1,g2⟩:=Dh I step R k (i+1) (Z++o.toList) M1 (by lia) h3;refine⟨o.toList++U,M2,?_,by rw[<- mq];exact g2⟩;cases o<;>simp[zm,h1,h2,g1]
def Tp{s:Src}{ds:List D}(Qe:s.fin M=true)(hl:s.len=ds.length)(hi:∀i,i<ds.length->s.item i M=ds[i]?)(h:∀d∈ds,body d M=.ok (g d) M) :
 zm s.fin s.item body s.len 0 M=.ok (ds.filterMap g) M:=by
 obtain⟨ys,Z,e,h1,R⟩:=Dh (fin:=s.fin) (item:=s.item) (body:=body) (λi U Z=>Z=M/\U=(ds.take i).filterMap g) (n:=ds.length) (λi U Z G hI=>by
  obtain⟨rfl,rfl⟩:=hI;refine⟨ds[i],g ds[i],Z,by rw[hi i G];simp[G],h _ (List.getElem_mem G),rfl,?_⟩;rw[rm,List.filterMap_append];simp[G];cases e:g ds[i]<;>simp[e]) (λU Z h=>by rw[h.1];exact Qe) ds.length 0 [] M (p8 _) ⟨rfl,rfl⟩
 rw[hl,e,h1];simp at R;rw[R]
def afm(h:∀d∈ds,body d M=.ok (some (g d)) M) :
 zm (Src.con ds).fin (Src.con ds).item body (Src.con ds).len 0 M=.ok (ds.map g) M:=by
 rw[Tp (s:=.con ds) (ds:=ds) (g:=λd=>some (g d)) rfl rfl (λi _=>rfl) h,List.filterMap_eq_map']
end MW
namespace MW
theorem Eh{c:Env->dg->Res D}{body:Env->dg->Res (Flow×Env)}(I:Nat->Env->dg->Prop)(R:Env->dg->Prop)
 (step:∀m G M,I m G M->(∃U,c G M=.ok (.bl false) U/\R G U) \/
  ∃U fl Z M2 m',c G M=.ok (.bl true) U/\body G U=.ok (fl,Z) M2/\(fl=.next\/fl=.cont)/\m'<m/\I m' Z M2) :
 ∀(k m:Nat)(G:Env)(M:dg),m<k->I m G M->∃Z M',Ak c body k G M=.ok (.next,Z) M'/\R Z M'
 |0,m,_,_,h,_=>absurd h (m7 _)
 |k+1,m,G,M,h,hI=>by
  rcases step m G M hI with⟨U,h1,h2⟩|⟨U,fl,qk,M2,m',h1,h2,h3,h4,h5⟩
  .exact⟨G,U,by simp[Ak,h1],h2⟩
  .obtain⟨qq,M3,g1,g2⟩:=Eh I R step k m' qk M2 (b_ h4 (z_ h)) h5
   refine⟨qq,M3,?_,g2⟩;rcases h3 with rfl|rfl<;>simp[Ak,h1,h2,g1]
end MW
namespace MW
def lq(M Z:dg):Prop:=∀(a:Nat)(o:MO),M[a]?=some o->Z[a]?=some o
def lq.refl(M:dg):lq M M:=λ_ _ h=>h
def lq.trans(a:lq M Z)(b:lq Z M2):lq M M2:=λx o h=>b x o (a x o h)
def lq.app(M X:dg):lq M (M++X):=λ_ _ h=>u6 h
def lq.len(k:lq M Z):M.length<=Z.length:=by
 rcases Nat.eq_zero_or_pos M.length with h|h
 .exact a_ (f_ h) (gn _)
 .have:=qd (k (M.length-1) M[M.length-1] (by simp))
  lia
theorem lq.dw(k:lq M Z)(h:dw M d=some ds):MW.dw Z d=some ds:=by
 cases d with
 |vl G=>exact h
 |ref n =>
  simp only[MW.dw] at h ⊢;cases e:M[n]? with
  |none=>rw[e] at h;simp at h|some o=>rw[e] at h;rw[k n o e];exact h
 |_=>simp[MW.dw] at h
def Y5(I:Nat->Env->dg->Prop)(U:dw M d=some ds)(h0:I 0 G M)(stay:∀i G M,I i G M->dw M d=some ds)(step:∀i x G M,ds[i]?=some x->I i G M->∃R Z M',body x G M=.ok (R,Z) M'/\(R=.next\/R=.cont)/\I (i+1) Z M') :
 ∃s,srcOf M d=some s/\∃Z M',Aj s.fin s.item body s.len 0 G M=.ok (.next,Z) M'/\I ds.length Z M':=by
 cases d with
 |vl xs=>simp[dw] at U;subst U;exact⟨_,rfl,U5 I h0 step⟩
 |ref n =>
  cases e:M[n]? with
  |none=>simp[dw,e] at U
  |some o =>
   cases o with
   |lst xs =>
    simp[dw,e] at U;subst U;refine⟨.live n xs.length,by simp[srcOf,e],afl I h0 (λi G M h=>?_) step⟩;have:=stay i G M h;simp only[dw] at this;split at this<;>simp_all
   |_=>simp[dw,e] at U
 |_=>simp[dw] at U
def ajk(Z:ds.length<=100000)(h:∀d∈ds,body d M=.ok (some (g d)) M):wk (.con ds) body M=.ok (ds.map g) M:=by rw[wk,di (show(Src.con ds).len<=100000 from Z)];exact afm h
def Wt(Z:ds.length<=100000)(h:∀d∈ds,body d M=.ok (g d) M):wk (.con ds) body M=.ok (ds.filterMap g) M:=by rw[wk,di (show(Src.con ds).len<=100000 from Z)];exact Tp (s:=.con ds) rfl rfl (λ_ _=>rfl) h
def Kc(v:Bool)(k:Nat)(t:Tg)(it:Ld)(e:Ex):(Ex.comp v k t it e).den W G M=(it.den W G M).bind λs U =>
 (wk s (λd M=>(Res.qi (t.put d (G++List.replicate k none)) M).bind λZ M=>(e.den W Z M).bind λx M'=>.ok (some x) M') U).bind λR M2=>if v then .ok (.vl R) M2 else new (.lst R) M2:=by
 rw[Wo]
 congr 1;funext s U;congr 2;funext d M
 cases t.put d (G++List.replicate k none)<;>rfl
def Di(v:Bool)(k:Nat)(t:Tg)(it:Ld)(c e:Ex):(Ex.ud v k t it c e).den W U M=(it.den W U M).bind λs R =>
 (wk s (λd M=>(Res.qi (t.put d (U++List.replicate k none)) M).bind λZ M=>(c.den W Z M).bind λb M' =>
  match b with
   |.bl true=>(e.den W Z M').bind λx G=>.ok (some x) G
   | .bl false=>.ok none M'|_=>.bad) R).bind λds M2=>if v then .ok (.vl ds) M2 else new (.lst ds) M2:=by
 rw[Qa]
 congr 1;funext s R;congr 2;funext d M
 cases t.put d (U++List.replicate k none)<;>rfl
def Lq(t:Tg)(it:Ld)(b:jw):(yt.for_ t it b).den W Z M=(it.den W Z M).bind λs M1=>Aj s.fin s.item (λd Z M=>(Res.qi (t.put d Z) M).bind λG M=>b.den W G M) s.len 0 Z M1:=by
 rw[afe]
 congr 1;funext s M1;congr 1;funext d Z M
 cases t.put d Z<;>rfl
def yx(R:it.den W ρ M=.ok (.int (n:Int)) M1)(hn:n<=100000)(I:Nat->Env->dg->Prop)(h0:I 0 ρ M1)(step:∀i ρ M,i<n->I i ρ M->∃G U Z M',t.put (.int i) ρ=some G/\b.den W G M=.ok (U,Z) M'/\(U=.next\/U=.cont)/\I (i+1) Z M') :
 ∃Z M',(yt.for_ t (.Kh it) b).den W ρ M=.ok (.next,Z) M'/\I n Z M':=by
 rw[Lq,Lp,R];have Uv:((n:Int)).natAbs<=100000:=by lia
 simp only[Res.nu,Uv,iu,j7];exact ajj I h0 (λi ρ M hi h=>by
  obtain⟨G,U,Z,M',a,b,c,d⟩:=step i ρ M hi h;exact⟨U,Z,M',by rw[a];exact b,c,d⟩)
def uo(R:it.den W ρ M=.ok d M1)(hd:dw M1 d=some ds)(I:Nat->Env->dg->Prop)(h0:I 0 ρ M1)(stay:∀i ρ M,I i ρ M->dw M d=some ds)(step:∀i x ρ M,ds[i]?=some x->I i ρ M->∃G U Z M',t.put x ρ=some G/\b.den W G M=.ok (U,Z) M'/\(U=.next\/U=.cont)/\I (i+1) Z M') :
 ∃Z M',(yt.for_ t (.val it) b).den W ρ M=.ok (.next,Z) M'/\I ds.length Z M':=by
 rw[Lq,Fp,R];obtain⟨s,h1,h2⟩:=Y5 (body:=λd ρ M=>(Res.qi (t.put d ρ) M).bind λZ M=>b.den W Z M) I hd h0 stay (λi x ρ M hx h=>by
  obtain⟨G,U,Z,M',a,b,c,d⟩:=step i x ρ M hx h;exact⟨U,Z,M',by rw[a];exact b,c,d⟩)
 simp only[Res.nu,h1,Res.m8];exact h2
def Ay(R:it.den W ρ M=.ok (.tup ds) M1)(I:Nat->Env->dg->Prop)(h0:I 0 ρ M1)(step:∀i x ρ M,ds[i]?=some x->I i ρ M->∃G U Z M',t.put x ρ=some G/\b.den W G M=.ok (U,Z) M'/\(U=.next\/U=.cont)/\I (i+1) Z M') :
 ∃Z M',(yt.for_ t (.val it) b).den W ρ M=.ok (.next,Z) M'/\I ds.length Z M':=by
 rw[Lq,Fp,R];exact U5 I h0 (λi x ρ M hx h=>by
  obtain⟨G,U,Z,M',a,b,c,d⟩:=step i x ρ M hx h;exact⟨U,Z,M',by rw[a];exact b,c,d⟩)
def Ek(G:it.den W U M=.ok (.int (n:Int)) M1)(hl:n<=100000)(h:∀i,i<n->∃Z,t.put (.int i) (U++List.replicate k none)=some Z/\c.den W Z M1=.ok (.bl (q i)) M1/\(q i=true->e.den W Z M1=.ok (g i) M1)) :
 (Ex.ud v k t (.Kh it) c e).den W U M=if v then .ok (.vl (((List.range n).filter q).map g)) M1 else new (.lst (((List.range n).filter q).map g)) M1:=by
 rw[Di,Lp,G];have Uv:((n:Int)).natAbs<=100000:=by lia
 simp only[Res.nu,Uv,iu,j7];rw[Wt (ds:=(List.range n).map λ(k:Nat)=>D.int (k:Int)) (g:=λd=>match d with|.int i=>if q i.toNat then some (g i.toNat) else none|_=>none) (by simpa using hl) (λx R=>by
  obtain⟨i,hi,rfl⟩:=dh.mp R;obtain⟨Z,a,b,c⟩:=h i (iy.mp hi);rw[a,Res.m8,Res.nu,b,Res.nu];cases e:q i with
  | true=>simp[e,c e]|false=>simp[e])]
 have:(((List.range n).map λ(k:Nat)=>D.int (k:Int)).filterMap λd=>match d with|.int i=>if q i.toNat then some (g i.toNat) else none|_=>none)=((List.range n).filter q).map g:=by
  rw[List.filterMap_map]
  induction List.range n with
  |nil=>rfl|cons a l ih=>by_cases e:q a=true<;>simp[e,ih]
 rw[this];rfl
def Jj(G:it.den W ρ M=.ok (.tup ds) M1)(hl:ds.length<=100000)(h:∀(i:Nat) (x:D),ds[i]?=some x->∃Z,t.put (.tup [.int i,x]) (ρ++List.replicate k none)=some Z/\c.den W Z M1=.ok (.bl (q i)) M1/\(q i=true->e.den W Z M1=.ok (g i) M1)) :
 (Ex.ud v k t (.enm it) c e).den W ρ M=if v then .ok (.vl (((List.range ds.length).filter q).map g)) M1 else new (.lst (((List.range ds.length).filter q).map g)) M1:=by
 rw[Di,Uz,G];simp only[Res.nu,ajh];rw[Wt (ds:=Bd ds 0) (g:=λd=>match d with|.tup [.int i,_]=>if q i.toNat then some (g i.toNat) else none|_=>none) (by simpa[Bd] using hl) (λx hx=>by
  obtain⟨i,hi,ei⟩:=ug hx;have R:i<ds.length:=by simpa[Bd] using hi
  have U:x=.tup [.int i,ds[i]]:=by rw[<- ei];simp[Bd]
  subst U;obtain⟨Z,a,b,c⟩:=h i ds[i] (by simp[R]);rw[a,Res.m8,Res.nu,b,Res.nu];cases e:q i with
  | true=>simp[e,c e]|false=>simp[e])]
 have:((Bd ds 0).filterMap λd=>match d with|.tup [.int i,_]=>if q i.toNat then some (g i.toNat) else none|_=>none)=((List.range ds.length).filter q).map g:=by
  have qq:∀(l:List D)(s:Nat),((Bd l s).filterMap λd=>match d with|.tup [.int i,_]=>if q i.toNat then some (g i.toNat) else none|_=>none)=((List.range' s l.length).filter q).map g:=by
   intro l
   induction l with
   |nil=>intro s;rfl
   |cons a l ih =>
    intro s;have e1:Bd (a::l) s=.tup [.int s,a]::Bd l (s+1):=by simp[Bd]
    rw[e1,gm,vh]
    by_cases e:q s=true<;>simp[e,ih]
  rw[qq,List.range_eq_range']
 rw[this];rfl
def Bj(R:it.den W ρ M=.ok (.int (n:Int)) M1)(hn:n<=100000)(I:Nat->List D->dg->Prop)(h0:I 0 [] M1)(step:∀i U M,i<n->I i U M->∃Z x M',t.put (.int i) (ρ++List.replicate k none)=some Z/\e.den W Z M=.ok x M'/\I (i+1) (U++[x]) M') :
 ∃G M',(Ex.comp v k t (.Kh it) e).den W ρ M=(if v then .ok (.vl G) M' else new (.lst G) M')/\I n G M':=by
 rw[Kc,Lp,R];have Uv:((n:Int)).natAbs<=100000:=by lia
 simp only[Res.nu,Uv,iu,j7];obtain⟨G,M',g,h⟩:=Dh (fin:=(Src.con ((List.range n).map λ(k:Nat)=>D.int (k:Int))).fin) (item:=(Src.con ((List.range n).map λ(k:Nat)=>D.int (k:Int))).item) (body:=λd M=>(Res.qi (t.put d (ρ++List.replicate k none)) M).bind λqq M=>(e.den W qq M).bind λx M'=>.ok (some x) M') I (n:=n) (λi U M hi h=>by
  obtain⟨Z,x,M',a,b,c⟩:=step i U M hi h;exact⟨.int i,some x,M',by simp[Src.item,hi],by rw[a];simp[b],by simpa using c⟩) (λ_ _ _=>rfl) n 0 [] M1 (p8 _) h0
 have hl:(Src.con ((List.range n).map λ(k:Nat)=>D.int (k:Int))).len=n:=by simp[Src.len]
 refine⟨G,M',?_,by simpa using h⟩;rw[wk,hl,di hn,g];rfl
set_option tactic.hygienic true in
def Sg(J:it.den W ρ M=.ok d M1)(C:dw M1 d=some ds)(hn:ds.length<=100000)(I:Nat->List D->dg->Prop)(h0:I 0 [] M1)(stay:∀i Z M,I i Z M->dw M d=some ds)(step:∀i y Z M,ds[i]?=some y->I i Z M->∃Y x M',t.put y (ρ++List.replicate k none)=some Y/\e.den W Y M=.ok x M'/\I (i+1) (Z++[x]) M') :
 ∃G M',(Ex.comp v k t (.val it) e).den W ρ M=(if v then .ok (.vl G) M' else new (.lst G) M')/\I ds.length G M':=by
 rw[Kc,Fp,J];obtain⟨s,R,u,hi,S⟩:∃s,srcOf M1 d=some s/\s.len=ds.length/\(∀M i,dw M d=some ds->s.item i M=ds[i]?)/\∀M,dw M d=some ds->s.fin M=true:=by
  cases d with
  |vl zs=>cases C;exact⟨.con ds,rfl,rfl,λ_ _ _=>rfl,λ_ _=>rfl⟩
  |ref p =>
   have get:∀{M:dg},dw M (.ref p)=some ds->M[p]?=some (.lst ds):=fun{M} h=>by
    simp only[dw] at h;split at h
    .rename_i z;cases h;exact z
    .cases h
   refine⟨.live p ds.length,by simp[srcOf,get C],rfl,λM i h=>by simp[Src.item,get h],λM h=>by simp[Src.fin,get h]⟩
  |_=>cases C
 simp only[Res.nu,R,Res.m8];obtain⟨G,M',g,h⟩:=Dh (fin:=s.fin) (item:=s.item) (body:=λd M=>(Res.qi (t.put d (ρ++List.replicate k none)) M).bind λU M=>(e.den W U M).bind λx M'=>.ok (some x) M') I (n:=ds.length) (λi Z M L h=>by
  obtain⟨Y,x,M',a,b,c⟩:=step i ds[i] Z M (by simp[L]) h;exact⟨ds[i],some x,M',by rw[hi M i (stay i Z M h)];simp[L],by rw[a];simp[b],by simpa using c⟩) (λZ M h=>S M (stay _ Z M h)) ds.length 0 [] M1 (p8 _) h0
 refine⟨G,M',?_,by simpa using h⟩;rw[wk,u,di hn,g];rfl
abbrev Goes(I:Nat->Env->dg->Prop)(R:D->dg->Prop)(i:Nat)(r:Res (Flow×Env)):Prop:=∃fl ρ' M',r=.ok (fl,ρ') M'/\((fl=.next/\I i ρ' M')\/∃v,fl=.ret v/\R v M')
theorem aau{fin:dg->Bool}{item:Nat->dg->Option D}{G:D->Env->dg->Res (Flow×Env)}(I:Nat->Env->dg->Prop)(R:D->dg->Prop){n:Nat}
 (step:∀i Z M,i<n->I i Z M->∃d,item i M=some d/\Goes I R (i+1) (G d Z M)) (hf:∀Z M,I n Z M->fin M=true) :
 ∀k i Z M,i+k=n->I i Z M->Goes I R n (Aj fin item G k i Z M)
 |0,i,Z,M,e,h=>by
  obtain rfl:i=n:=by lia
  exact⟨_,Z,M,by simp[Aj,hf Z M h],.inl ⟨rfl,h⟩⟩
 |k+1,i,Z,M,e,h=>by
  obtain⟨d,h1,fl,U,M',h2,⟨rfl,h4⟩|⟨v,rfl,h4⟩⟩:=step i Z M (by lia) h
  .have:=aau I R step hf k (i+1) U M' (by lia) h4
   simpa[Aj,h1,h2] using this
  .exact⟨.ret v,U,M',by simp[Aj,h1,h2],.inr ⟨v,rfl,h4⟩⟩
section
variable{W:Kl}{ρ:Env}{M M1:dg}{t:Tg}{b:jw}
def U6{it:Ld}{s:Src}{n:Nat}(G:it.den W ρ M=.ok s M1)(hn:s.len=n)(I:Nat->Env->dg->Prop)(R:D->dg->Prop)(h0:I 0 ρ M1)(U:∀ρ M,I n ρ M->s.fin M=true)
 (step:∀i ρ M,i<n->I i ρ M->∃d Z,s.item i M=some d/\t.put d ρ=some Z/\Goes I R (i+1) (b.den W Z M)):Goes I R n ((yt.for_ t it b).den W ρ M):=by
 rw[Lq,G,Res.nu,hn];exact aau I R (λi ρ M hi h=>by
  obtain⟨d,Z,a,b,c⟩:=step i ρ M hi h;exact⟨d,a,by rw[b];exact c⟩) U n 0 ρ M1 (p8 n) h0
def aov{it:Ld}{s:Src}{n:Nat}(U:it.den W ρ M=.ok s M1)(hn:s.len=n)(I:Nat->Env->dg->Prop)(h0:I 0 ρ M1)(R:∀ρ M,I n ρ M->s.fin M=true)
 (step:∀i ρ M,i<n->I i ρ M->∃d G,s.item i M=some d/\t.put d ρ=some G/\∃Z M',b.den W G M=.ok (.next,Z) M'/\I (i+1) Z M'):∃Z M',(yt.for_ t it b).den W ρ M=.ok (.next,Z) M'/\I n Z M':=by
 obtain⟨fl,Z,M',e,⟨rfl,h⟩|⟨v,rfl,h⟩⟩:=U6 U hn I (λ_ _=>False) h0 R λi ρ M hi h=>by obtain⟨d,G,a,b,Z,M',c,e⟩:=step i ρ M hi h;exact⟨d,G,a,b,.next,Z,M',c,.inl ⟨rfl,e⟩⟩
 .exact⟨Z,M',e,h⟩
 .exact h.elim
def Wv{it:Ex}{n:Nat}(G:it.den W ρ M=.ok (.int (n:Int)) M1)(hn:n<=100000)(I:Nat->Env->dg->Prop)(R:D->dg->Prop)(h0:I 0 ρ M1)
 (step:∀i ρ M,i<n->I i ρ M->∃Z,t.put (.int i) ρ=some Z/\Goes I R (i+1) (b.den W Z M)):Goes I R n ((yt.for_ t (.Kh it) b).den W ρ M):=by
 exact U6 (s:=.con ((List.range n).map λ(k:Nat)=>D.int (k:Int))) (by rw[Lp,G];simp[hn]) (by simp[Src.len]) I R h0 (λ_ _ _=>rfl) (λi ρ M U h=>by
  obtain⟨Z,a⟩:=step i ρ M U h;exact⟨.int i,Z,by simp[Src.item,U],a⟩)
end
end MW
namespace K73
open MW
noncomputable section
def El:jw:=.p (.f (.cmp .lt (.v 1) (.l (.v 0))) (.o (.ret (.ix (.v 0) (.v 1))))) (.ret (.i 0))
def Em:Fn:=⟨2,2,El⟩
def Hq:jw:=.q (.a 2 (.call 0 (.p (.v 0) (.v 1)))) (.f (.cmp .ge (.v 2) (.bin .pow (.i 10) (.i 18))) (.o (.ret (.lst (.p (.bin .sub (.v 2) (.bin .pow (.i 10) (.i 18))) (.cst (.bl true))))))) (.ret (.lst (.p (.bin .mod (.v 2) (.i 2147483647)) (.cst (.bl false)))))
def Hr:Fn:=⟨2,3,Hq⟩
def Jk:jw:=.c (.f (.ix (.v 0) (.i 1)) (.q (.a 2 (.bin .mod (.ix (.v 0) (.i 0)) (.v 1))) (.asg (.sub (.v 0) (.i 0)) (.bin .fdiv (.ix (.v 0) (.i 0)) (.v 1))) (.ret (.v 2)))) (.c (.asg (.sub (.v 0) (.i 0)) (.bin .mod (.bin .add (.bin .mul (.ix (.v 0) (.i 0)) (.i 48271)) (.i 29)) (.i 2147483647))) (.q (.a 3 (.bin .mod (.bin .add (.bin .add (.bin .mul (.ix (.v 0) (.i 0)) (.ix (.v 0) (.i 0))) (.bin .mul (.i 39373) (.ix (.v 0) (.i 0)))) (.i 7)) (.i 2147483629))) (.a 3 (.bin .mod (.bin .add (.bin .mul (.v 3) (.v 3)) (.bin .mul (.i 16807) (.v 3))) (.i 2147483587))) (.ret (.bin .mod (.bin .fdiv (.v 3) (.i 8)) (.v 1)))))
def Jl:Fn:=⟨2,4,Jk⟩
def Jm:jw:=.c (.a 1 (.ix (.v 0) (.i 0))) (.c (.expr (.call 4 (.o (.v 1)))) (.q (.expr (.call 6 (.p (.v 1) (.ix (.v 0) (.i 1))))) (.f (.not (.call 12 (.q (.v 1) (.ix (.ix (.v 0) (.i 2)) (.i 0)) (.ix (.ix (.v 0) (.i 2)) (.i 1))))) (.o .raise)) (.f (.cmp .gt (.l (.call 13 (.o (.v 1)))) (.i 60)) (.o .raise))))
def Jo:Fn:=⟨1,2,Jm⟩
def Eo:jw:=.o (.f (.not (.and (.chain .le .le (.i 0) (.v 1) (.i 7)) (.chain .le .le (.i 0) (.v 2) (.i 7)))) (.o .raise))
def Ep:yt:=.for_ (.names [1,2]) (.val (.v 0)) Eo
def Lr:jw:=.q (.f (.not (.chain .le .le (.i 1) (.l (.v 0)) (.i 10))) (.o .raise)) Ep (.f (.call 5 (.o (.v 0))) (.o .raise))
def Ls:Fn:=⟨1,3,Lr⟩
def Er:Ex:=.ud true 1 (.name 4) (.val (.v 1)) (.cmp .inn (.ix (.v 4) (.i 0)) (.v 3)) (.v 4)
def Es:Ex:=.comp true 2 (.names [4,5]) (.val (.v 1)) (.v 5)
def Et:jw:=.q (.a 2 (.l (.v 1))) (.a 3 Es) (.a 1 Er)
def Jp:yt:=.whl (.cmp .ne (.v 2) (.l (.v 1))) Et
def Lw:jw:=.c (.a 1 (.blt .list (.o (.v 0)))) (.q (.a 2 (.neg (.i 1))) Jp (.ret (.cmp .gt (.v 2) (.i 0))))
def Lx:Fn:=⟨1,4,Lw⟩
def Dq:jw:=.o (.f (.not (.call 7 (.p (.v 0) (.v 2)))) (.o .raise))
def Dr:yt:=.for_ (.name 2) (.val (.v 1)) Dq
def Km:jw:=.p (.f (.cmp .gt (.l (.v 1)) (.i 8)) (.o .raise)) Dr
def Ko:Fn:=⟨2,3,Km⟩
def Eu:jw:=.p (.f (.cmp .eq (.ix (.v 1) (.i 0)) (.cst (.str (PySem.Str.ofString "same")))) (.o (.ret (.call 12 (.q (.v 0) (.ix (.v 1) (.i 1)) (.ix (.v 1) (.i 2))))))) (.ret (.and (.cmp .eq (.ix (.v 1) (.i 0)) (.cst (.str (PySem.Str.ofString "apart")))) (.call 8 (.p (.v 0) (.ix (.v 1) (.i 1))))))
def Ew:Fn:=⟨2,2,Eu⟩
def Qf:jw:=.o (.ret (.chain .le .lt (.i 0) (.v 1) (.l (.v 0))))
def Qg:Fn:=⟨2,2,Qf⟩
def K7:Ex:=.comp true 2 (.names [2,3]) (.zip (.p (.v 1) (.cut (.v 1) (.some (.i 1)) .none))) (.cmp .eq (.ix (.ix (.v 0) (.v 2)) (.i 1)) (.ix (.ix (.v 0) (.v 3)) (.i 0)))
def K8:Ex:=.comp true 1 (.name 2) (.val (.v 1)) (.call 8 (.p (.v 0) (.v 2)))
def Wx:jw:=.p (.f (.or (.ntr (.v 1)) (.not (.blt .all (.o K8)))) (.o (.ret (.cst (.bl false))))) (.ret (.blt .all (.o K7)))
def Wy:Fn:=⟨2,2,Wx⟩
def Nt:jw:=.o (.ret (.ix (.ix (.v 0) (.ix (.v 1) (.i 0))) (.i 0)))
def Nu:Fn:=⟨2,2,Nt⟩
def Qh:jw:=.o (.ret (.ix (.ix (.v 0) (.ix (.v 1) (.neg (.i 1)))) (.i 1)))
def Qi:Fn:=⟨2,2,Qh⟩
def Ly:jw:=.p (.f (.not (.and (.call 9 (.p (.v 0) (.v 1))) (.call 9 (.p (.v 0) (.v 2))))) (.o (.ret (.cst (.bl false))))) (.ret (.and (.cmp .eq (.call 10 (.p (.v 0) (.v 1))) (.call 10 (.p (.v 0) (.v 2)))) (.cmp .eq (.call 11 (.p (.v 0) (.v 1))) (.call 11 (.p (.v 0) (.v 2))))))
def Lz:Fn:=⟨3,3,Ly⟩
def Hs:Ex:=.ud true 2 (.names [6,7]) (.enm (.v 0)) (.cmp .eq (.ix (.v 7) (.i 0)) (.v 5)) (.bin .add (.v 4) (.tup (.o (.v 6))))
def Ht:jw:=.p (.a 5 (.call 11 (.p (.v 0) (.v 4)))) (.expr (.bm .extend (.v 3) (.o Hs)))
def Hu:yt:=.for_ (.name 4) (.val (.v 2)) Ht
def Hv:jw:=.c (.expr (.bm .extend (.v 1) (.o (.v 2)))) (.q (.a 3 (.lst .z)) Hu (.a 2 (.v 3)))
def Ma:yt:=.whl (.tru (.v 2)) Hv
def Hw:Ex:=.comp true 1 (.name 6) (.Kh (.l (.v 0))) (.tup (.o (.v 6)))
def Qj:jw:=.c (.a 1 (.lst .z)) (.q (.a 2 Hw) Ma (.ret (.v 1)))
def Qk:Fn:=⟨1,6,Qj⟩
def Kp:Ex:=.comp true 1 (.name 1) (.val (.v 0)) (.blt .max (.o (.v 1)))
def Nv:jw:=.o (.ret (.bin .add (.blt .max (.o Kp)) (.i 1)))
def Nx:Fn:=⟨1,1,Nv⟩
def K9:Ex:=.comp true 1 (.name 4) (.val (.ix (.v 0) (.i 1))) (.call 17 (.c (.ix (.v 0) (.i 0)) (.q (.v 1) (.v 2) (.v 4))))
def Wz:jw:=.c (.expr (.call 3 (.o (.v 0)))) (.c (.f (.not (.call 16 (.q (.ix (.v 0) (.i 0)) (.v 1) (.v 2)))) (.o (.ret (.cst (.bl false))))) (.q (.a 3 (.ix (.v 1) (.call 10 (.p (.ix (.v 0) (.i 0)) (.ix (.ix (.v 0) (.i 2)) (.i 0)))))) (.f (.call 18 (.c (.v 2) (.q (.v 3) (.ix (.ix (.v 0) (.i 2)) (.i 0)) (.ix (.ix (.v 0) (.i 2)) (.i 1))))) (.o (.ret (.cst (.bl false))))) (.ret (.blt .all (.o K9)))))
def W0:Fn:=⟨3,4,Wz⟩
def Hx:Ex:=.comp true 1 (.name 5) (.val (.v 3)) (.chain .le .lt (.i 0) (.v 5) (.ix (.v 1) (.ix (.v 4) (.i 1))))
def Mf:jw:=.p (.f (.cmp .ne (.l (.v 3)) (.ix (.v 1) (.ix (.v 4) (.i 0)))) (.o (.ret (.cst (.bl false))))) (.f (.not (.blt .all (.o Hx))) (.o (.ret (.cst (.bl false)))))
def Hy:yt:=.for_ (.names [3,4]) (.zip (.p (.v 2) (.v 0))) Mf
def Hz:Ex:=.comp true 1 (.name 5) (.val (.v 1)) (.cmp .ge (.v 5) (.i 0))
def Ql:jw:=.c (.f (.or (.cmp .ne (.l (.v 1)) (.call 14 (.o (.v 0)))) (.cmp .ne (.l (.v 2)) (.l (.v 0)))) (.o (.ret (.cst (.bl false))))) (.q (.f (.not (.blt .all (.o Hz))) (.o (.ret (.cst (.bl false))))) Hy (.ret (.cst (.bl true))))
def Qm:Fn:=⟨3,5,Ql⟩
def aav:jw:=.p (.f (.cmp .eq (.ix (.v 3) (.i 0)) (.cst (.str (PySem.Str.ofString "apart")))) (.p (.a 4 (.ix (.v 2) (.ix (.v 3) (.i 1)))) (.ret (.cmp .eq (.blt .Gj (.o (.v 4))) (.l (.v 4)))))) (.ret (.call 18 (.c (.v 2) (.q (.ix (.v 1) (.call 10 (.p (.v 0) (.ix (.v 3) (.i 1))))) (.ix (.v 3) (.i 1)) (.ix (.v 3) (.i 2))))))
def aaw:Fn:=⟨4,5,aav⟩
def Ia:Ex:=.comp true 1 (.name 4) (.Kh (.v 1)) (.cmp .eq (.call 19 (.q (.v 0) (.v 2) (.v 4))) (.call 19 (.q (.v 0) (.v 3) (.v 4))))
def Qn:jw:=.o (.ret (.blt .all (.o Ia)))
def Qo:Fn:=⟨4,4,Qn⟩
def Gm:jw:=.o (.a 3 (.ix (.ix (.v 0) (.v 4)) (.v 3)))
def Kq:yt:=.for_ (.name 4) (.val (.v 1)) Gm
def Ny:jw:=.q (.a 3 (.v 2)) Kq (.ret (.v 3))
def Nz:Fn:=⟨3,5,Ny⟩
def Bk:Ex:=.ud true 1 (.name 4) (.Kh (.l (.v 0))) (.cmp .eq (.ix (.ix (.v 0) (.v 4)) (.i 0)) (.v 3)) (.bin .add (.ix (.v 1) (.v 2)) (.tup (.o (.v 4))))
def Bl:jw:=.q (.a 3 (.ix (.ix (.v 0) (.ix (.ix (.v 1) (.v 2)) (.neg (.i 1)))) (.i 1))) (.expr (.bm .extend (.v 1) (.o Bk))) (.a 2 (.bin .add (.v 2) (.i 1)))
def Ft:yt:=.whl (.cmp .lt (.v 2) (.l (.v 1))) Bl
def Bo:Ex:=.comp false 1 (.name 4) (.Kh (.l (.v 0))) (.tup (.o (.v 4)))
def Ip:jw:=.c (.a 1 Bo) (.q (.a 2 (.i 0)) Ft (.ret (.v 1)))
def Ir:Fn:=⟨1,4,Ip⟩
def zq:Ex:=.comp true 1 (.name 6) (.val (.v 4)) (.tup (.p (.v 5) (.v 6)))
def yc:jw:=.o (.expr (.bm .extend (.v 3) (.o zq)))
def zr:yt:=.for_ (.name 5) (.val (.v 4)) yc
def zu:jw:=.o zr
def zx:yt:=.for_ (.name 4) (.vals (.v 1)) zu
def Dw:jw:=.o (.expr (.bm .append (.bm .setdefault (.v 1) (.p (.tup (.p (.ix (.ix (.v 0) (.ix (.v 2) (.i 0))) (.i 0)) (.ix (.ix (.v 0) (.ix (.v 2) (.neg (.i 1)))) (.i 1)))) (.lst .z))) (.o (.v 2))))
def zy:yt:=.for_ (.name 2) (.val (.call 20 (.o (.v 0)))) Dw
def Fv:jw:=.c (.a 1 .ac8) (.c zy (.q (.a 3 (.lst .z)) zx (.ret (.v 3))))
def Fw:Fn:=⟨1,6,Fv⟩
def yl:Ex:=.ud true 1 (.name 9) (.val (.v 5)) (.cmp .ne (.ix (.v 9) (.i 0)) (.ix (.v 9) (.i 1))) (.v 9)
def Am:jw:=.o (.expr (.bm .append (.v 6) (.o (.bin .add (.tup (.o (.cst (.str (PySem.Str.ofString "same"))))) (.ix (.v 5) (.call 2 (.p (.v 0) (.l (.v 5)))))))))
def An:yt:=.for_ (.name 2) (.Kh (.call 2 (.p (.v 0) (.i 4)))) Am
def Ao:Ex:=.comp false 1 (.name 9) (.Kh (.call 2 (.p (.v 0) (.i 4)))) (.tup (.p (.cst (.str (PySem.Str.ofString "apart"))) (.call 2 (.p (.v 0) (.l (.v 1))))))
def Aq:jw:=.p (.a 3 (.call 2 (.p (.v 0) (.i 4)))) (.expr (.bm .append (.v 1) (.o (.tup (.p (.v 3) (.bin .add (.bin .add (.v 3) (.i 1)) (.call 2 (.p (.v 0) (.ix (.Df (.c (.i 1) (.q (.i 1) (.i 2) (.i 3)))) (.call 2 (.p (.v 0) (.i 4))))))))))))
def Av:yt:=.for_ (.name 2) (.Kh (.bin .add (.i 1) (.call 2 (.p (.v 0) (.i 6))))) Aq
def Kr:jw:=.c (.a 1 (.lst .z)) (.c Av (.c (.a 4 (.Df (.q (.tup (.q (.tup (.p (.i 0) (.i 1))) (.tup (.p (.i 0) (.i 1))) (.tup (.p (.i 1) (.i 2))))) (.tup (.c (.tup (.p (.i 0) (.i 1))) (.q (.tup (.p (.i 1) (.i 2))) (.tup (.p (.i 0) (.i 2))) (.tup (.p (.i 2) (.i 3)))))) (.tup (.c (.tup (.p (.i 0) (.i 1))) (.c (.tup (.p (.i 0) (.i 2))) (.q (.tup (.p (.i 1) (.i 3))) (.tup (.p (.i 2) (.i 3))) (.tup (.p (.i 3) (.i 4)))))))))) (.c (.a 4 (.bin .add (.v 4) (.Df (.p (.tup (.c (.tup (.p (.i 0) (.i 1))) (.c (.tup (.p (.i 1) (.i 2))) (.c (.tup (.p (.i 0) (.i 3))) (.c (.tup (.p (.i 3) (.i 4))) (.q (.tup (.p (.i 1) (.i 4))) (.tup (.p (.i 2) (.i 5))) (.tup (.p (.i 4) (.i 5))))))))) (.tup (.c (.tup (.p (.i 3) (.i 1))) (.c (.tup (.p (.i 3) (.i 1))) (.q (.tup (.p (.i 1) (.i 0))) (.tup (.p (.i 1) (.i 0))) (.tup (.p (.i 0) (.i 2))))))))))) (.c (.f (.cmp .gt (.call 2 (.p (.v 0) (.i 3))) (.i 0)) (.o (.a 1 (.ix (.v 4) (.call 2 (.p (.v 0) (.i 5))))))) (.c (.a 5 (.call 21 (.o (.v 1)))) (.c (.a 6 Ao) (.c An (.c (.a 7 (.call 2 (.p (.v 0) (.bin .add (.i 1) (.l (.v 6)))))) (.q (.a 8 yl) (.f (.or (.cmp .eq (.v 8) (.Df .z)) (.cmp .eq (.call 2 (.p (.v 0) (.i 8))) (.i 0))) (.o (.a 8 (.v 5)))) (.ret (.tup (.q (.blt .tuple (.o (.v 1))) (.blt .tuple (.o (.bin .add (.cut (.v 6) (.some (.v 7)) .none) (.cut (.v 6) .none (.some (.v 7)))))) (.ix (.v 8) (.call 2 (.p (.v 0) (.l (.v 8)))))))))))))))))
def Ks:Fn:=⟨1,9,Kr⟩
def Ca:jw:=.o (.f (.cmp .ne (.ix (.ix (.v 0) (.ix (.v 1) (.v 2))) (.i 1)) (.ix (.ix (.v 0) (.ix (.v 1) (.bin .add (.v 2) (.i 1)))) (.i 0))) (.o (.ret (.cst .non))))
def Cd:yt:=.for_ (.name 2) (.Kh (.bin .sub (.l (.v 1)) (.i 1))) Ca
def Jq:jw:=.q (.f (.or (.cmp .eq (.l (.v 1)) (.i 0)) (.or (.cmp .lt (.blt .min (.o (.v 1))) (.i 0)) (.cmp .ge (.blt .max (.o (.v 1))) (.l (.v 0))))) (.o (.ret (.cst .non)))) Cd (.ret (.tup (.p (.ix (.ix (.v 0) (.ix (.v 1) (.i 0))) (.i 0)) (.ix (.ix (.v 0) (.ix (.v 1) (.neg (.i 1)))) (.i 1)))))
def Jr:Fn:=⟨2,3,Jq⟩
def w6:jw:=.o (.f (.and (.cmp .eq (.v 6) (.ix (.v 3) (.v 4))) (.cmp .Pz (.v 7) (.v 3))) (.o (.expr (.bm .append (.v 3) (.o (.v 7))))))
def Fy:yt:=.for_ (.names [6,7]) (.val (.Df (.p (.tup (.p (.ix (.v 5) (.i 0)) (.ix (.v 5) (.i 1)))) (.tup (.p (.ix (.v 5) (.i 1)) (.ix (.v 5) (.i 0))))))) w6
def Bp:jw:=.o Fy
def Bq:yt:=.for_ (.name 5) (.val (.v 0)) Bp
def Br:jw:=.p Bq (.a 4 (.bin .add (.v 4) (.i 1)))
def Fz:yt:=.whl (.cmp .lt (.v 4) (.l (.v 3))) Br
def Iu:jw:=.c (.a 3 (.lst (.o (.v 1)))) (.q (.a 4 (.i 0)) Fz (.ret (.cmp .inn (.v 2) (.v 3))))
def Iv:Fn:=⟨3,8,Iu⟩
def Gp:Ex:=.comp true 1 (.name 14) (.val (.v 13)) (.tup (.q (.cut (.v 6) .none (.some (.neg (.i 1)))) (.cut (.v 14) .none (.some (.neg (.i 1)))) (.tup (.p (.cst (.str (PySem.Str.ofString "off"))) (.ix (.v 11) (.i 1))))))
def Ku:Ex:=.ud true 1 (.name 14) (.val (.v 12)) (.and (.cmp .ne (.v 14) (.v 6)) (.call 24 (.q (.v 1) (.v 6) (.v 14)))) (.v 14)
def Cz:jw:=.p (.a 13 Ku) (.expr (.bm .extend (.v 5) (.o Gp)))
def Gq:yt:=.for_ (.name 6) (.val (.v 12)) Cz
def Gr:Ex:=.ud true 1 (.name 14) (.val (.call 20 (.o (.v 2)))) (.and (.cmp .gt (.l (.v 14)) (.i 1)) (.cmp .eq (.ix (.v 14) (.neg (.i 1))) (.ix (.v 11) (.i 1)))) (.v 14)
def yp:jw:=.o (.f (.cmp .eq (.ix (.v 11) (.i 0)) (.cst (.str (PySem.Str.ofString "apart")))) (.p (.a 12 Gr) Gq))
def Gs:yt:=.for_ (.name 11) (.val (.v 3)) yp
def Gu:Ex:=.ud true 1 (.name 14) (.Kh (.l (.v 2))) (.cmp .eq (.ix (.ix (.v 2) (.v 14)) (.i 1)) (.v 9)) (.tup (.q (.bin .add (.tup (.o (.v 14))) (.v 6)) (.bin .add (.tup (.o (.v 14))) (.v 7)) (.tup (.q (.cst (.str (PySem.Str.ofString "put"))) (.tup (.o (.v 14))) (.tup .z)))))
def Gv:Ex:=.ud true 1 (.name 14) (.Kh (.l (.v 2))) (.cmp .eq (.ix (.ix (.v 2) (.v 14)) (.i 0)) (.v 10)) (.tup (.q (.bin .add (.v 6) (.tup (.o (.v 14)))) (.bin .add (.v 7) (.tup (.o (.v 14)))) (.tup (.q (.cst (.str (PySem.Str.ofString "put"))) (.tup .z) (.tup (.o (.v 14)))))))
def Dc:jw:=.q (.asg (.tg (.names [9,10])) (.call 23 (.p (.v 2) (.v 6)))) (.expr (.bm .extend (.v 5) (.o Gv))) (.expr (.bm .extend (.v 5) (.o Gu)))
def Gw:yt:=.for_ (.names [6,7,8]) (.val (.v 1)) Dc
def Gx:Ex:=.ud false 2 (.names [14,15]) (.enm (.v 3)) (.cmp .eq (.ix (.v 15) (.i 0)) (.cst (.str (PySem.Str.ofString "same")))) (.tup (.q (.ix (.v 15) (.i 1)) (.ix (.v 15) (.i 2)) (.tup (.p (.cst (.str (PySem.Str.ofString "given"))) (.v 14)))))
def N5:jw:=.c (.asg (.tg (.names [2,3,4])) (.v 0)) (.c (.a 5 Gx) (.q Gw Gs (.ret (.v 5))))
def N6:Fn:=⟨2,14,N5⟩
def Bs:jw:=.o (.f (.not (.call 24 (.q (.v 1) (.ix (.v 3) (.i 0)) (.ix (.v 3) (.i 1))))) (.p (.expr (.bm .append (.v 1) (.o (.v 3)))) (.a 2 (.cst (.bl true)))))
def Ey:yt:=.for_ (.name 3) (.val (.call 25 (.p (.v 0) (.v 1)))) Bs
def Ez:jw:=.p (.a 2 (.cst (.bl false))) Ey
def Js:yt:=.whl (.v 2) Ez
def Mg:jw:=.c (.a 1 (.lst .z)) (.q (.a 2 (.cst (.bl true))) Js (.ret (.v 1)))
def Mh:Fn:=⟨1,4,Mg⟩
def Gy:jw:=.o (.a 2 (.ix (.ix (.v 0) (.v 3)) (.v 2)))
def Kv:yt:=.for_ (.name 3) (.val (.v 1)) Gy
def N7:jw:=.p Kv (.ret (.v 2))
def N8:Fn:=⟨3,4,N7⟩
def Aa:Ex:=.ud true 1 (.name 14) (.val (.v 4)) (.cmp .eq (.ix (.v 14) (.i 0)) (.cst (.str (PySem.Str.ofString "apart")))) (.cmp .eq (.blt .Gj (.o (.ix (.v 2) (.ix (.v 14) (.i 1))))) (.l (.ix (.v 2) (.ix (.v 14) (.i 1)))))
def Ab:jw:=.o (.a 11 (.and (.v 11) (.cmp .eq (.call 27 (.q (.v 2) (.v 9) (.v 12))) (.call 27 (.q (.v 2) (.v 10) (.v 12))))))
def Ac:yt:=.for_ (.name 12) (.Kh (.ix (.v 1) (.ix (.ix (.v 3) (.ix (.v 9) (.i 0))) (.i 0)))) Ab
def Ad:jw:=.q (.a 11 (.cst (.bl true))) Ac (.expr (.bm .append (.v 8) (.o (.v 11))))
def yd:Ex:=.ud true 1 (.name 14) (.val (.v 4)) (.cmp .eq (.ix (.v 14) (.i 0)) (.cst (.str (PySem.Str.ofString "same")))) (.cut (.v 14) (.some (.i 1)) .none)
def Ae:yt:=.for_ (.names [9,10]) (.val (.bin .add yd (.Df (.o (.v 5))))) Ad
def Af:Ex:=.ud true 1 (.name 14) (.val (.v 7)) (.not (.chain .le .lt (.i 0) (.v 14) (.ix (.v 1) (.ix (.ix (.v 3) (.v 6)) (.i 1))))) (.v 14)
def Dy:jw:=.p (.a 7 (.ix (.v 2) (.v 6))) (.f (.or (.cmp .ne (.l (.v 7)) (.ix (.v 1) (.ix (.ix (.v 3) (.v 6)) (.i 0)))) (.cmp .ne Af (.Df .z))) (.o (.ret (.cst (.bl false)))))
def Ag:yt:=.for_ (.name 6) (.Kh (.l (.v 3))) Dy
def ye:Ex:=.comp true 1 (.name 14) (.val (.v 3)) (.blt .max (.o (.v 14)))
def Ga:jw:=.c (.asg (.tg (.names [3,4,5])) (.v 0)) (.c (.f (.or (.cmp .ne (.l (.v 1)) (.bin .add (.i 1) (.blt .max (.o ye)))) (.or (.cmp .ne (.l (.v 2)) (.l (.v 3))) (.cmp .lt (.blt .min (.o (.v 1))) (.i 0)))) (.o (.ret (.cst (.bl false))))) (.c Ag (.c (.a 8 (.lst .z)) (.q Ae (.a 13 Aa) (.ret (.and (.cmp .Pz (.cst (.bl false)) (.bin .add (.v 13) (.cut (.v 8) .none (.some (.neg (.i 1)))))) (.not (.ix (.v 8) (.neg (.i 1))))))))))
def Gb:Fn:=⟨3,14,Ga⟩
def Kw:Ex:=.comp true 1 (.name 8) (.Kh (.ix (.v 3) (.v 5))) (.call 2 (.p (.v 0) (.blt .max (.p (.i 1) (.ix (.v 3) (.v 6))))))
def Dd:jw:=.o (.expr (.bm .append (.v 7) (.o (.blt .tuple (.o Kw)))))
def Gz:yt:=.for_ (.names [5,6]) (.val (.v 1)) Dd
def yq:jw:=.o (.f (.cmp .eq (.ix (.v 3) (.v 6)) (.i 0)) (.o (.asg (.sub (.v 3) (.v 5)) (.i 0))))
def G6:yt:=.for_ (.names [5,6]) (.val (.v 1)) yq
def G7:jw:=.o G6
def G8:yt:=.for_ (.name 4) (.Kh (.l (.v 1))) G7
def G9:Ex:=.comp true 1 (.name 8) (.val (.v 1)) (.blt .max (.o (.v 8)))
def Ha:Ex:=.comp false 1 (.name 8) (.Kh (.bin .add (.i 1) (.blt .max (.o G9)))) (.call 2 (.p (.v 0) (.bin .add (.v 2) (.i 1))))
def Oa:jw:=.c (.a 3 Ha) (.c G8 (.q (.a 7 (.lst .z)) Gz (.ret (.tup (.p (.blt .tuple (.o (.v 3))) (.blt .tuple (.o (.v 7))))))))
def Ob:Fn:=⟨3,8,Oa⟩
def Ce:Ex:=.comp true 1 (.name 12) (.val (.v 4)) (.l (.v 12))
def Cg:Ex:=.ud true 2 (.names [12,13]) (.enm (.ix (.v 4) (.ix (.ix (.v 2) (.v 9)) (.i 1)))) (.cmp .inn (.bin .add (.ix (.v 11) (.i 0)) (.tup (.o (.v 9)))) (.v 13)) (.v 12)
def zc:jw:=.o (.expr (.bm .extend (.v 10) (.o Cg)))
def Ci:yt:=.for_ (.name 11) (.val (.ix (.v 4) (.ix (.ix (.v 2) (.v 9)) (.i 0)))) zc
def zf:jw:=.q (.a 10 (.lst .z)) Ci (.expr (.bm .append (.v 8) (.o (.blt .tuple (.o (.v 10))))))
def Cj:yt:=.for_ (.name 9) (.Kh (.l (.v 2))) zf
def Hh:Ex:=.ud true 1 (.name 12) (.val (.v 6)) (.call 24 (.q (.v 1) (.ix (.v 12) (.i 0)) (.v 5))) (.v 12)
def t7:jw:=.o (.f (.cmp .eq (.ix (.ix (.v 2) (.ix (.v 5) (.i 0))) (.i 0)) (.v 3)) (.q (.a 6 (.ix (.v 4) (.ix (.ix (.v 2) (.ix (.v 5) (.neg (.i 1)))) (.i 1)))) (.a 7 Hh) (.iff (.cmp .eq (.v 7) (.Df .z)) (.o (.expr (.bm .append (.v 6) (.o (.lst (.o (.v 5))))))) (.o (.expr (.bm .append (.ix (.v 7) (.i 0)) (.o (.v 5))))))))
def Cm:yt:=.for_ (.name 5) (.val (.call 20 (.o (.v 2)))) t7
def Cq:Ex:=.comp true 1 (.name 12) (.val (.v 2)) (.blt .max (.o (.v 12)))
def Cr:Ex:=.comp true 1 (.name 12) (.Kh (.bin .add (.i 1) (.blt .max (.o Cq)))) (.lst .z)
def Jt:jw:=.c (.a 2 (.ix (.v 0) (.i 0))) (.c (.a 3 (.ix (.ix (.v 2) (.ix (.ix (.ix (.v 0) (.i 2)) (.i 0)) (.i 0))) (.i 0))) (.c (.a 4 Cr) (.c (.expr (.bm .append (.ix (.v 4) (.v 3)) (.o (.lst (.o (.tup .z)))))) (.c Cm (.q (.a 8 (.lst .z)) Cj (.ret (.tup (.p (.blt .tuple (.o Ce)) (.blt .tuple (.o (.v 8)))))))))))
def Ju:Fn:=⟨2,12,Jt⟩
def Iw:jw:=.c (.a 2 (.call 2 (.p (.v 0) (.i 4)))) (.q (.a 3 (.call 2 (.p (.v 0) (.bin .add (.i 1) (.l (.v 1)))))) (.a 4 (.Df (.q (.bin .add (.cut (.v 1) .none (.some (.v 3))) (.cut (.v 1) (.some (.bin .add (.v 3) (.i 1))) .none)) (.bin .add (.bin .add (.cut (.v 1) .none (.some (.v 3))) (.tup (.o (.v 2)))) (.cut (.v 1) (.some (.v 3)) .none)) (.bin .add (.bin .add (.cut (.v 1) .none (.some (.v 3))) (.tup (.o (.bin .sub (.neg (.i 1)) (.v 2))))) (.cut (.v 1) (.some (.bin .add (.v 3) (.i 1))) .none))))) (.ret (.ix (.bin .add (.v 4) (.Df (.p (.bin .add (.bin .add (.cut (.v 1) .none (.some (.v 3))) (.tup (.o (.v 2)))) (.cut (.v 1) (.some (.bin .add (.v 3) (.i 1))) .none)) (.bin .add (.bin .add (.cut (.v 1) .none (.some (.v 3))) (.tup (.o (.bin .add (.i 2) (.v 2))))) (.cut (.v 1) (.some (.bin .add (.v 3) (.i 1))) .none))))) (.call 2 (.p (.v 0) (.i 5))))))
def Iz:Fn:=⟨2,5,Iw⟩
def Oc:jw:=.c (.a 3 (.call 2 (.p (.v 0) (.i 8)))) (.c (.f (.cmp .eq (.v 3) (.i 0)) (.o (.ret (.tup (.p (.cut (.v 1) .none (.some (.neg (.i 1)))) (.v 2)))))) (.c (.f (.cmp .eq (.v 3) (.i 1)) (.o (.ret (.tup (.p (.bin .add (.v 1) (.tup (.o (.call 2 (.p (.v 0) (.i 2)))))) (.v 2)))))) (.c (.f (.cmp .eq (.v 3) (.i 2)) (.o (.ret (.tup (.p (.v 1) (.cut (.v 2) .none (.some (.neg (.i 1))))))))) (.c (.f (.cmp .eq (.v 3) (.i 3)) (.o (.ret (.tup (.p (.v 1) (.bin .add (.v 2) (.tup (.o (.tup .z))))))))) (.q (.f (.cmp .eq (.v 3) (.i 4)) (.p (.a 4 (.call 2 (.p (.v 0) (.l (.v 1))))) (.ret (.tup (.p (.bin .add (.bin .add (.cut (.v 1) .none (.some (.v 4))) (.tup (.o (.bin .add (.ix (.v 1) (.v 4)) (.ix (.Df (.q (.i 1) (.neg (.i 1)) (.bin .sub (.neg (.i 2)) (.ix (.v 1) (.v 4))))) (.call 2 (.p (.v 0) (.i 3)))))))) (.cut (.v 1) (.some (.bin .add (.v 4) (.i 1))) .none)) (.v 2)))))) (.a 4 (.call 2 (.p (.v 0) (.l (.v 2))))) (.ret (.tup (.p (.v 1) (.bin .add (.bin .add (.cut (.v 2) .none (.some (.v 4))) (.tup (.o (.call 31 (.p (.v 0) (.ix (.v 2) (.v 4))))))) (.cut (.v 2) (.some (.bin .add (.v 4) (.i 1))) .none))))))))))
def Od:Fn:=⟨3,5,Oc⟩
def O6:jw:=.p (.a 10 (.call 15 (.q (.v 3) (.v 8) (.v 9)))) (.f (.or (.not (.blt .isBool (.o (.v 10)))) (.cmp .ne (.v 10) (.call 28 (.q (.v 3) (.v 8) (.v 9))))) (.o (.ret (.cst (.bl false)))))
def aax:yt:=.for_ (.names [8,9]) (.val (.bin .add (.Df (.q (.v 4) (.v 5) (.v 6))) (.v 7))) O6
def aay:Ex:=.comp true 1 (.name 11) (.val (.Df (.c (.v 4) (.q (.v 5) (.v 4) (.v 6))))) (.call 32 (.q (.v 1) (.ix (.v 11) (.i 0)) (.ix (.v 11) (.i 1))))
def O7:jw:=.c (.a 3 (.call 22 (.o (.v 1)))) (.c (.a 4 (.call 30 (.p (.v 3) (.call 26 (.o (.v 3)))))) (.c (.a 5 (.call 29 (.q (.v 1) (.ix (.v 3) (.i 0)) (.i 3)))) (.q (.a 6 (.call 29 (.q (.v 1) (.ix (.v 3) (.i 0)) (.i 1)))) (.a 7 aay) aax)))
def aaz:yt:=.for_ (.name 2) (.Kh (.i 5)) O7
def am1:jw:=.q (.a 1 (.call 1 (.p (.v 0) (.i 0)))) aaz (.ret (.cst (.bl true)))
def afn:Fn:=⟨1,11,am1⟩
def prog:Prog:=⟨[Em,Hr,Jl,Jo,Ls,Lx,Ko,Ew,Qg,Wy,Nu,Qi,Lz,Qk,Nx,W0,Qm,aaw,Qo,Nz,Ir,Fw,Ks,Jr,Iv,N6,Mh,N8,Gb,Ob,Ju,Iz,Od,afn]⟩
end
abbrev PW(m:Nat):Kl:=⟨prog.call m⟩
noncomputable abbrev sR(n:Nat):Option D:=some (.ref n)
noncomputable abbrev sI(i:Int):Option D:=some (.int i)
noncomputable def nD(x:Nat):D:=.int (x:Int)
def dm(r:Y3):D:=.tup (r.map nD)
def Kd(x y:Nat):decide ((x:Int)=(y:Int))=decide (x=y):=by
 by_cases h:x=y
 .simp[h]
 .have:¬((x:Int)=(y:Int)):=by lia
  simp[h,this]
def aa0(M:dg)(n x y:Nat):Nr M (n+1) (.int x) (.int y)=some (decide (x=y)):=by rw[aji,Kd]
theorem aa1(M:dg)(n:Nat):∀r s:List Nat,Tf (Nr M (n+1)) (r.map nD) (s.map nD)=some (decide (r=s))
 |[],[]=>by simp[Tf]|[],_::_=>by simp[Tf]|_::_,[]=>by simp[Tf]
 |x::r,y::s=>by
  rw[d8,d8,afj (a:=nD x) (b:=nD y) (aa0 M n x y) (aa1 M n r s)]
  by_cases h:x=y<;>simp[h]
def La(M:dg)(r s:Y3):Bb M (dm r) (dm s)=some (decide (r=s)):=aa1 M 4 r s
theorem aa2(M:dg)(g:Y3):∀fs:List (List Nat),Ot M (dm g) (fs.map dm)=some (fs.map λf=>decide (f=g))
 |[]=>rfl|f::fs=>by simp[Ot,La,aa2 M g fs]
def U7(M:dg)(g:Y3)(fs:List (List Nat)):memD M (dm g) (fs.map dm)=some (decide (g∈fs)):=by
 rw[memD,aa2,ou]
 congr 1
 rw[sr,List.any_eq_true,dq];constructor
 .rintro⟨b,G,U⟩
  obtain⟨f,Z,rfl⟩:=dh.mp G;simpa using(show f=g by simpa using U)▸Z
 .intro h
  exact⟨true,dh.mpr ⟨g,h,by simp⟩,rfl⟩
noncomputable abbrev Ar:=Nat×Nat
noncomputable def aD(e:Ar):D:=.tup [.int e.1,.int e.2]
noncomputable def at_(Z:List Ar)(i:Nat):Ar:=Z.getD i (0,0)
noncomputable def hw(w:Y3):Nat:=w.headD 0
noncomputable def lw(w:Y3):Nat:=w.getLastD 0
def yz(Z:List Ar)(w:Y3):Nat:=(at_ Z (hw w)).1
def xg(Z:List Ar)(w:Y3):Nat:=(at_ Z (lw w)).2
def U8(Z:List Ar):List Nat->Prop
 |a::b::r=>(at_ Z a).2=(at_ Z b).1/\U8 Z (b::r)|_=>True
structure Way(es:List Ar)(w:Y3):Prop where
 ne:w≠[]
 lt:∀i∈w,i<es.length
 ch:U8 es w
def nxt(Z:List Ar)(v:Nat):List Nat:=(List.range Z.length).filter λk=>decide ((at_ Z k).1=v)
def ext(Z:List Ar)(w:Y3):List (List Nat):=(nxt Z (xg Z w)).map λk=>w++[k]
structure Ends(es:List Ar)(V:Nat->Nat):Prop where
 pos:1<=es.length
 few:es.length<=10
 sm:∀e∈es,e.1<=7/\e.2<=7
 pot:∀v,((nxt es v).map λk=>1+V (at_ es k).2).sum<=V v
 tot:((List.range es.length).map λk=>1+V (at_ es k).2).sum<=60
def Y6(G:List Ar)(V:Nat->Nat)(Z:List (List Nat)):Nat:=(Z.map λw=>1+V (xg G w)).sum
theorem Ge(G:List Ar)(V:Nat->Nat):∀Z:List (List Nat),Z.length+(Z.map λw=>V (xg G w)).sum=Y6 G V Z
 |[]=>rfl|w::Z=>by have:=Ge G V Z;simp[Y6] at this ⊢;lia
def ajl(Z:List Ar)(V:Nat->Nat)(a b:List (List Nat)):Y6 Z V (a++b)=Y6 Z V a+Y6 Z V b:=by simp[Y6]
def U9(E:Ends es V)(w:Y3):Y6 es V (ext es w)<=V (xg es w):=by
 have h:=E.pot (xg es w);have e:(ext es w).map (λw=>1+V (xg es w))=(nxt es (xg es w)).map λk=>1+V (at_ es k).2:=by simp[ext,xg,lw,ik,gf]
 rw[Y6,e];exact h
def Qp(h:i<es.length):es[i]?=some (at_ es i):=by simp[at_,List.getD,h]
theorem aa3:∀{w:Y3},U8 es w->w≠[]->(at_ es k).1=xg es w->U8 es (w++[k])
 |[],_,h,_=>absurd rfl h|[a],_,_,e=>⟨by simpa[xg,lw] using e.symm,trivial⟩|a::b::r,h,_,e=>⟨h.1,aa3 (w:=b::r) h.2 (by simp) (by simpa[xg,lw] using e)⟩
def Way.app(W:Way es w)(G:k<es.length)(e:(at_ es k).1=xg es w):Way es (w++[k]) :=
 ⟨by simp,λi Z=>by rcases bh.mp Z with h|h;exact W.lt i h;simp at h;exact h▸G,aa3 W.ch W.ne e⟩
def Way.one(G:k<es.length):Way es [k]:=⟨by simp,λi Z=>by simp at Z;exact Z▸G,trivial⟩
def Ib:k∈nxt es v↔k<es.length/\(at_ es k).1=v:=by simp[nxt]
def aa4(W:Way es w)(h:u∈ext es w):Way es u:=by obtain⟨k,G,rfl⟩:=dh.mp h;obtain⟨U,Z⟩:=Ib.mp G;exact W.app U Z
def call_of(U:1<=m)(Z:prog.fns[f]?=some G):prog.call m f ds M=G.run (PW (m-1)) ds M:=by obtain⟨n,rfl⟩:∃n,m=n+1:=⟨m-1,by lia⟩;simp[Prog.call,Z]
def aow(n:Int)(f:Bool):Prop:=0<=n/\(f=false->n<2147483647)
def W2(t:Nat)(f:Bool)(M:dg):Prop:=∃n,M[t]?=some (.lst [.int n,.bl f])/\aow n f
structure St(t:Nat)(f:Bool)(M M':dg):Prop where
 len:M.length<=M'.length
 has:W2 t f M'
 keep:∀(a:Nat)(o:MO),a≠t->M[a]?=some o->M'[a]?=some o
def St.trans(a:St t f M Z)(b:St t f Z M2):St t f M M2 :=
 ⟨bf a.len b.len,b.has,λx o n h=>b.keep x o n (a.keep x o n h)⟩
def St.of(h:W2 t f M)(k:lq M M'):St t f M M' :=
 ⟨k.len,let ⟨n,a,b⟩:=h;⟨n,k _ _ a,b⟩,λa o _ e=>k a o e⟩
def uq(hm:1<=m)(hs:W2 t f M)(Z:0<many)(hq:many<1073741824) :
 ∃(v:Nat)(M':dg),prog.call m 2 [.ref t,.int many] M=.ok (.int v) M'/\(v:Int)<many/\St t f M M'/\M'.length=M.length:=by
 obtain⟨n,h,R⟩:=hs;rw[call_of hm rfl];have hl:=gq h;have g0:=w5 hl (i:=0) (by decide) rfl;have g1:=w5 hl (i:=1) (by decide) rfl;have fin:∀n':Int,aow n' f->St t f M (M.set t (.lst [.int n',.bl f])):=λn' o=>⟨by simp,⟨n',nq h,o⟩,λa u e q=>by rw[jx (oh e)];exact q⟩
 have U:many≠0:=by lia
 have c1:∀y:Int,∃v:Nat,y%many=(v:Int)/\(v:Int)<many:=λy=>by have a:=vy y U;have b:=ux y Z;exact⟨(y%many).toNat,by lia,by lia⟩
 cases f with
 |true =>
  obtain⟨v,e,l⟩:=c1 n;refine⟨v,_,?_,l,fin (n / many) ⟨Int.ediv_nonneg R.1 (by lia),by simp⟩,by simp⟩;simp[Fn.run,Jl,Jk,g0,g1,Z,Tn _ _ Z hq,U3 h,e]
 |false =>
  have h1:=R.1;have h2:=R.2 rfl;obtain⟨n',G⟩:∃n',(n*48271+29)%2147483647=n':=⟨_,rfl⟩;have e1:0<=n':=G▸vy _ (by decide)
  have e2:n'<2147483647:=G▸ux _ (by decide)
  obtain⟨x,ex⟩:∃x,(n'*n'+39373*n'+7)%2147483629=x:=⟨_,rfl⟩;have x1:0<=x:=ex▸vy _ (by decide)
  have x2:x<2147483629:=ex▸ux _ (by decide)
  obtain⟨y,ey⟩:∃y,(x*x+16807*x)%2147483587=y:=⟨_,rfl⟩;obtain⟨v,e,l⟩:=c1 (y / 8);refine⟨v,_,?_,l,fin n' ⟨e1,λ_=>e2⟩,by simp⟩;have k:=nq (o:=.lst [.int n',.bl false]) h;have k0:=w5 (gq k) (i:=0) (by decide) rfl;simp[Fn.run,Jl,Jk,g0,g1,Z,U3 h,Ji n 48271 (.inr (by decide)),G,k0,Ji n' n' (.inl (by lia)),Ji 39373 n' (.inl (by decide)),ex,Ji x x (.inl (by lia)),Ji 16807 x (.inl (by decide)),ey,Tn _ 8 (by decide) (by decide),e]
def aa5{k:Nat}{Z:X2}(U:1<=m):prog.call m 0 [.fz (Z.map D.int),.int k] M=.ok (.int (Z.getD k 0)) M:=by
 rw[call_of U rfl]
 by_cases G:k<Z.length
 .simp[Fn.run,Em,El,afk,G,at6 (ds:=Z.map D.int) (i:=k) (x:=.int (Z.getD k 0)) q_ (by simp[G])]
 .simp[Fn.run,Em,El,afk,G]
def afo{k:Nat}{ns:X2}(Z:2<=m):∃n f,prog.call m 1 [.fz (ns.map D.int),.int k] M=.ok (.ref M.length) (M++[.lst [.int n,.bl f]])/\aow n f:=by
 rw[call_of (a_ (by decide) Z) rfl]
 by_cases h:(10:Int) ^ 18<=ns.getD k 0
 .refine⟨ns.getD k 0-10 ^ 18,true,?_,by lia,by simp⟩
  have G:(1000000000000000000:Int)<=ns[k]?.getD 0:=by simpa using h
  simp[Fn.run,Hr,Hq,aa5 (show 1<=m-1 by exact r_ Z),G,MW.new]
 .refine⟨ns.getD k 0%2147483647,false,?_,vy _ (by decide),λ_=>ux _ (by decide)⟩
  have G:¬(1000000000000000000:Int)<=ns[k]?.getD 0:=by simpa using h
  simp[Fn.run,Hr,Hq,aa5 (show 1<=m-1 by exact r_ Z),G,MW.new]
def aox(h:jl M d=some ds)(G:0<=i)(Z:ds[i.toNat]?=some x):t6 d (.int i) M=some x:=by
 cases d with
 |tup l=>cases h;exact Ho G Z|_=>exact w5 h G Z
def ajm{Z:List D}(h:Z.getLast?=some x):t6 (.tup Z) (.int (-1)) M=some x:=by
 rw[List.getLast?_eq_getElem?] at h;have R:=(ak.mp h).1;have e:Ln Z.length (-1)=some (Z.length-1):=by
  have G:-(Z.length:Int)<=-1:=by lia
  have U:(-1+(Z.length:Int)).toNat=Z.length-1:=by lia
  rw[Ln,fj (by decide),di G,U]
 show(Ln Z.length (-1)).bind (λj=>Z[j]?)=_;rw[e];exact h
def Az{i:Nat}(G:jl M d=some (es.map aD))(Z:i<es.length):t6 d (.int i) M=some (aD (at_ es i)) :=
 aox G (gj _) (by simp[Qp Z])
def afp{i:Nat}(h:w[i]?=some k):t6 (dm w) (.int i) M=some (.int (k:Nat)) :=
 Ho (gj _) (by simp[h,nD])
def Tq{w:Y3}(h:w≠[]):w.getLast?=some (lw w)/\lw w∈w:=by
 cases e:w.getLast? with
 |none=>exact absurd (List.getLast?_eq_none_iff.mp e) h
 |some x =>
  have:lw w=x:=by rw[lw,List.getLastD_eq_getLast?,e];rfl
  rw[this];exact⟨rfl,List.mem_of_getLast? e⟩
def Hi(W:Way es w):t6 (dm w) (.int (-1)) M=some (.int (lw w:Nat)) :=
 ajm (by rw[List.getLast?_map,(Tq W.ne).1];rfl)
def Way.Ke(W:Way es w):lw w<es.length:=W.lt _ (Tq W.ne).2
def Hj(W:Way es w):t6 (dm w) (.int 0) M=some (.int (hw w:Nat)):=by
 cases w with
 |nil=>exact absurd rfl W.ne|cons a r=>exact Fq _ _
def Way.Aw(W:Way es w):hw w<es.length:=by
 cases w with
 |nil=>exact absurd rfl W.ne|cons a r=>exact W.lt a bz
def Y7(Z:1<=m)(G:jl M d=some (es.map aD))(W:Way es w):prog.call m 11 [d,dm w] M=.ok (.int (xg es w)) M:=by rw[call_of Z rfl];simp[Fn.run,Qi,Qh,Hi W,Az G W.Ke,aD,xg]
def Va(Z:1<=m)(G:jl M d=some (es.map aD))(W:Way es w):prog.call m 10 [d,dm w] M=.ok (.int (yz es w)) M:=by rw[call_of Z rfl];simp[Fn.run,Nu,Nt,Hj W,Az G W.Aw,aD,yz]
def Jv(h:M[n]?=some (.lst Z)):P0 .extend (.ref n) M=true:=by simp[P0,dw,h]
def Qq(h:M[n]?=some (.lst Z))(G:Z.length+ys.length<100000):Jc .extend (.ref n) [.vl ys] M=.ok .non (M.set n (.lst (Z++ys))):=by simp[Jc,onL,h,G,Nb]
theorem lq.jl(k:lq M Z)(h:jl M d=some ds):MW.jl Z d=some ds:=by
 cases d with
 |tup l=>exact h|_=>simp only[MW.jl] at h ⊢;exact k.dw h
theorem lq.set(k:lq Z M)(h:Z.length<=p):lq Z (M.set p o):=λa u e=>by rw[jx (rz (fu (qd e) h))];exact k a u e
def Jw(w:Y3)(k:Nat)(Z:w.length<1000):yu .add (dm w) (.tup [.int k]) M=.ok (dm (w++[k])) M:=by rw[dm,Hg _ _ (by simp;lia)];simp[dm,nD]
def aa6(Z:List Ar)(w:Y3):(((List.range Z.length).filter λk=>decide ((at_ Z k).1=xg Z w)).map λk=>dm (w++[k]))=(ext Z w).map dm:=by simp[ext,nxt,ik,gf]
def W3(G:List Ar)(V:Nat->Nat){Z:List (List Nat)}(h:Z[i]?=some w):((Z.drop i).map λw=>V (xg G w)).sum=V (xg G w)+((Z.drop (i+1)).map λw=>V (xg G w)).sum:=by obtain⟨U,e⟩:=ak.mp h;rw[rn U,e];simp
structure Wys(es:List Ar)(ws:List (List Nat)):Prop where
 way:∀w∈ws,Way es w
 one:∀k,k<es.length->[k]∈ws
 ext:∀w∈ws,∀u∈ext es w,u∈ws
 few:ws.length<=60
 nd:ws.Nodup
structure Wk(es:List Ar)(V:Nat->Nat)(ws:List (List Nat))(i:Nat):Prop where
 way:∀w∈ws,Way es w
 one:∀k,k<es.length->[k]∈ws
 ext:∀j w,j<i->ws[j]?=some w->∀u∈ext es w,u∈ws
 le:i<=ws.length
 few:ws.length+((ws.drop i).map λw=>V (xg es w)).sum<=60
 nd:ws.Nodup
 par:∀u∈ws,u.dropLast=[]\/∃j,j<i/\ws[j]?=some u.dropLast
def Hk{Z:Type}{l:List Z}(h:l.Nodup){i j:Nat}{x:Z}(R:l[i]?=some x)(h2:l[j]?=some x):i=j:=by obtain⟨a1,G⟩:=ak.mp R;obtain⟨b1,U⟩:=ak.mp h2;exact(List.getElem_inj h).mp (G.trans U.symm)
theorem Kf{G U:Type}{f:G->U}(Z:∀a b,f a=f b->a=b):∀{l:List G},l.Nodup->(l.map f).Nodup
 |[],_=>by simp
 |a::l,h=>by
  have h:=kh.mp h;rw[d8];refine kh.mpr ⟨λq=>?_,Kf Z h.2⟩;obtain⟨x,R,h2⟩:=dh.mp q;exact h.1 (Z _ _ h2▸R)
def aoy(Z:List Ar)(w:Y3):(K73.ext Z w).Nodup:=Kf (λa b h=>by simpa using h) (List.Pairwise.filter _ List.nodup_range)
def Wk.step(E:Ends es V)(h:Wk es V G i)(hw:G[i]?=some w):Wk es V (G++K73.ext es w) (i+1):=by
 have W:=h.way w (aq hw);have hl:=(ak.mp hw).1;have R:∀u∈K73.ext es w,u.dropLast=w:=λu Z=>by obtain⟨k,_,rfl⟩:=dh.mp Z;simp
 refine⟨λu Z=>?_,λk hk=>ie _ (h.one k hk),λj u hj Z v hv=>?_,by simp;lia,?_,my.mpr ⟨h.nd,aoy es w,λa ha b hb e=>?_⟩,λu Z=>?_⟩
 .rcases bh.mp Z with a|a
  .exact h.way u a
  .exact aa4 W a
 .have U:j<G.length:=by lia
  rw[d9 U] at Z;rcases iw j i with a|a
  .exact ie _ (h.ext j u a Z v hv)
  .have:j=i:=by lia
   subst this;rw[hw] at Z;cases Z;exact gb _ hv
 .have a:=h.few
  rw[W3 es V hw] at a;have b:=U9 E w;rw[<- Ge] at b;rw[List.drop_append_of_le_length (by lia),jj,jh,List.sum_append]
  lia
 .subst e
  have e:=R a hb;rcases h.par a ha with q|⟨j,q1,q2⟩
  .exact W.ne (e▸q)
  .rw[e] at q2
   have:=Hk h.nd hw q2
   lia
 .rcases bh.mp Z with a|a
  .rcases h.par u a with q|⟨j,q1,q2⟩
   .exact .inl q
   .exact .inr ⟨j,by lia,by rw[d9 (by lia)];exact q2⟩
  .exact .inr ⟨i,by lia,by rw[R u a,d9 hl];exact hw⟩
def Wk.start(E:Ends es V):Wk es V ((List.range es.length).map λk=>[k]) 0:=by
 refine⟨λw h=>?_,λk U=>dh.mpr ⟨k,iy.mpr U,rfl⟩,λj w R=>absurd R (m7 _),gn _,?_,Kf (λa b h=>by simpa using h) List.nodup_range,λu Z=>?_⟩
 .obtain⟨k,G,rfl⟩:=dh.mp h
  exact Way.one (iy.mp G)
 .have a:=E.tot
  have b:=Ge es V ((List.range es.length).map λk=>[k]);have c:Y6 es V ((List.range es.length).map λk=>[k])=((List.range es.length).map λk=>1+V (at_ es k).2).sum:=by simp[Y6,xg,lw,ik,gf]
  rw[List.drop_zero];lia
 .obtain⟨k,_,rfl⟩:=dh.mp Z
  exact .inl rfl
def V_lt(E:Ends es V)(G:k<es.length):V (at_ es k).2<V (at_ es k).1:=by
 have h:=E.pot (at_ es k).1;have m:k∈nxt es (at_ es k).1:=Ib.mpr ⟨G,rfl⟩;have:1+V (at_ es k).2<=((nxt es (at_ es k).1).map λk=>1+V (at_ es k).2).sum:=by
  generalize nxt es (at_ es k).1=l at m
  induction l with
  |nil=>cases m
  |cons a l Z =>
   simp only[d8,List.sum_cons];rcases cg.mp m with rfl|m
   .lia
   .have:=Z m;lia
 lia
def azg(E:Ends es V)(G:k<es.length):V (at_ es k).2<=59:=by
 have h:=E.tot;have m:k∈List.range es.length:=iy.mpr G;have:1+V (at_ es k).2<=((List.range es.length).map λk=>1+V (at_ es k).2).sum:=by
  generalize List.range es.length=l at m
  induction l with
  |nil=>cases m
  |cons a l Z =>
   simp only[d8,List.sum_cons];rcases cg.mp m with rfl|m
   .lia
   .have:=Z m;lia
 lia
theorem afq(E:Ends es V):∀{w:Y3},Way es w->w.length+V (xg es w)<=V (at_ es (hw w)).2+1
 |[],W=>absurd rfl W.ne|[a],_=>by simp[xg,lw,hw];lia
 |a::b::r,W=>by
  have Z:Way es (b::r):=⟨by simp,λi U=>W.lt i (bu _ U),W.ch.2⟩;have G:=afq E Z;have hb:=V_lt E (W.lt b (by simp));have e:=W.ch.1;have R:xg es (a::b::r)=xg es (b::r):=by simp[xg,lw]
  rw[R];simp only[gm,hw,List.headD_cons] at G ⊢;rw[e]
  lia
def Ie(E:Ends es V)(W:Way es w):w.length<=60:=by
 have a:=afq E W;have b:=azg E W.Aw
 lia
def Wk.end_(h:Wk es V ws ws.length):Wys es ws:=by
 refine⟨h.way,h.one,λw hw u G=>?_,?_,h.nd⟩
 .obtain⟨j,Z⟩:=j5.mp hw
  exact h.ext j w (ak.mp Z).1 Z u G
 .have:=h.few;lia
theorem U8.init:∀{w:Y3},U8 es (w++[k])->U8 es w
 |[],_=>trivial|[_],_=>trivial|a::b::r,h=>⟨h.1,U8.init (w:=b::r) h.2⟩
theorem U8.last:∀{w:Y3},w≠[]->U8 es (w++[k])->(at_ es k).1=xg es w
 |[],h,_=>absurd rfl h|[a],_,h=>by simpa[xg,lw] using h.1.symm|a::b::r,_,h=>by have:=U8.last (w:=b::r) (by simp) h.2;simpa[xg,lw] using this
theorem Wys.all(L:Wys es U):∀(n:Nat){w:Y3},w.length=n->Way es w->w∈U
 |0,w,h,W=>absurd (List.eq_nil_of_length_eq_zero h) W.ne
 |n+1,w,h,W=>by
  obtain⟨u,k,rfl⟩:∃u k,w=u++[k]:=⟨w.dropLast,w.getLast W.ne,(qj W.ne).symm⟩;have G:k<es.length:=W.lt k (by simp)
  by_cases Z:u=[]
  .subst Z;exact L.one k G
  .have Wu:Way es u:=⟨Z,λi R=>W.lt i (ie _ R),W.ch.init⟩
   have m:=L.all n (by simpa using h) Wu;exact L.ext u m _ (dh.mpr ⟨k,Ib.mpr ⟨G,U8.last Z W.ch⟩,rfl⟩)
def Ig{g:Nat->D}(G:it.den W U M=.ok (.int (n:Int)) M1)(hn:n<=100000)(h:∀i,i<n->∃Z,t.put (.int i) (U++List.replicate k none)=some Z/\e.den W Z M1=.ok (g i) M1) :
 (Ex.comp v k t (.Kh it) e).den W U M=if v then .ok (.vl ((List.range n).map g)) M1 else new (.lst ((List.range n).map g)) M1:=by
 obtain⟨ys,M',a,rfl,rfl⟩:=Bj (v:=v) (k:=k) (t:=t) (e:=e) G hn (λi R M=>R=(List.range i).map g/\M=M1) ⟨rfl,rfl⟩ (λi R M hi hI=>by
  obtain⟨rfl,rfl⟩:=hI;obtain⟨Z,b,c⟩:=h i hi;exact⟨Z,_,_,b,c,by simp[v7],rfl⟩)
 exact a
def Kg(h:jl M d=some ds):qw .len [d] M=.ok (.int ds.length) M:=by
 cases d with
 |tup l=>cases h;rfl|_=>simp only[MW.jl] at h;exact len_list h
def O8(hm:1<=m)(E:Ends es V)(hd:jl M d=some (es.map aD)) :
 ∃Z M',prog.call m 20 [d] M=.ok (.ref M.length) M'/\M'[M.length]?=some (.lst (Z.map dm))/\Wys es Z/\lq M M':=by
 rw[call_of hm rfl];have hn:es.length<=100000:=bf E.few (by decide)
 have c2:Bo.den (PW (m-1)) [some d,none,none,none] M=.ok (.ref M.length) (M++[.lst (((List.range es.length).map λk=>[k]).map dm)]):=by unfold Bo;rw[Ig (n:=es.length) (M1:=M) (g:=λk=>dm [k]) (by simp[Kg hd]) hn (λi hi=>⟨_,rfl,by simp[dm,nD]⟩)];simp[MW.new,ik,gf]
 obtain⟨qk,M',a,Z,b3,rfl,G,g2,U⟩:=Eh (c:=(Ex.cmp .lt (.v 2) (.l (.v 1))).den (PW (m-1))) (body:=Bl.den (PW (m-1)))
  (λn ρ M1=>∃(Z:List (List Nat))(i:Nat)(b3:Option D),ρ=[some d,sR M.length,sI i,b3]/\M1[M.length]?=some (.lst (Z.map dm))/\lq M M1/\Wk es V Z i/\n=60-i)
  (fun ρ M1=>∃(Z:List (List Nat))(b3:Option D),ρ=[some d,sR M.length,sI Z.length,b3]/\M1[M.length]?=some (.lst (Z.map dm))/\lq M M1/\Wys es Z)
  (λn ρ M1 hI=>by
   obtain⟨Z,i,b3,rfl,G,g2,U,rfl⟩:=hI;have hl:=len_list (gq G);rcases iw i Z.length with hi|hi
   .right
    obtain⟨w,hw⟩:∃w,Z[i]?=some w:=⟨_,dz hi⟩;have W:=U.way w (aq hw);have R:=lq.jl g2 hd;have x0:t6 (.ref M.length) (.int i) M1=some (dm w):=w5 (gq G) (gj _) (by simp[hw]);have wl:=Ie E W;have c1:Bk.den (PW (m-1)) [some d,sR M.length,sI i,sI (xg es w)] M1=.ok (.vl ((ext es w).map dm)) M1:=by unfold Bk;rw[Ek (n:=es.length) (M1:=M1) (q:=λk=>decide ((at_ es k).1=xg es w)) (g:=λk=>dm (w++[k])) (by simp[Kg R]) hn (λj hj=>⟨_,rfl,by simp[Az R hj,aD,Kd],λ_=>by simp[x0,Jw w j (by lia)]⟩)];rw[<- aa6];rfl
    have qq:=U.few;have el:Z.length+(ext es w).length<=60:=by
     rw[W3 es V hw] at qq;have b:=U9 E w;rw[<- Ge] at b
     lia
    refine⟨M1,.next,_,_,60-(i+1),?_,?_,.inl rfl,by have:=U.le;lia,Z++ext es w,i+1,sI (xg es w),rfl,nq G,lq.set g2 (bc _),?_,rfl⟩
    .simp[hl,hi]
    .have lst:=Hi (M:=M1) W
     have e1:=Az R W.Ke;simp only[Bl];simp[x0,lst,e1,aD,Jv G];rw[show(at_ es (lw w)).2=xg es w from rfl];simp[c1,Qq G (ys:=(ext es w).map dm) (by simp;lia)]
    .exact U.step E hw
   .left
    have:i=Z.length:=by have:=U.le;lia
    subst this;exact⟨M1,by simp[hl],Z,b3,rfl,G,g2,U.end_⟩)
  Sd 60 [some d,sR M.length,sI 0,none] (M++[.lst (((List.range es.length).map λk=>[k]).map dm)]) (by decide)
  ⟨_,0,none,rfl,wu,lq.app _ _,Wk.start E,rfl⟩
 refine⟨Z,M',?_,G,U,g2⟩;simp only[Fn.run,Ir,Ip];simp[-List.map_map,c2,Ft,Nf,a]
def ajn(h:M[n]?=some (.lst G))(hy:dw M y=some Z)(R:Nb n y=true)(U:G.length+Z.length<100000):Jc .extend (.ref n) [y] M=.ok .non (M.set n (.lst (G++Z))):=by simp[Jc,onL,h,hy,R,U]
theorem Qs(E:Ends es V):∀Z:List (List Nat),Y6 es V (Z.flatMap (ext es))<=(Z.map λw=>V (xg es w)).sum
 |[]=>by simp[Y6]
 |w::Z=>by
  have a:=U9 E w;have b:=Qs E Z;rw[List.flatMap_cons,ajl,d8,List.sum_cons]
  lia
def Fb(r:Nat)(M Z:dg):Prop:=∀(a:Nat)(o:MO),a≠r->M[a]?=some o->Z[a]?=some o
def Fb.refl(r:Nat)(M:dg):Fb r M M:=λ_ _ _ h=>h
def Fb.trans(a:Fb r M Z)(b:Fb r Z M2):Fb r M M2:=λx o n h=>b x o n (a x o n h)
theorem Fb.set(r:Nat)(M:dg)(o:MO):Fb r M (M.set r o):=λa u n h=>by rw[jx (oh n)];exact h
theorem Fb.dw(k:Fb r M U)(Z:Nb r f=true)(h:dw M f=some ds):MW.dw U f=some ds:=by
 cases f with
 |ref n =>
  have G:n≠r:=by simpa[Nb] using Z
  cases e:M[n]? with
  |none=>simp[MW.dw,e] at h|some o=>cases o<;>simp[MW.dw,e] at h<;>subst h<;>simp[MW.dw,k n _ G e]
 |_=>exact h
def at7(hm:1<=m)(E:Ends es V)(hf:dw M f=some (ws.map dm))(hw:∀w∈ws,Way es w)(hp:Y6 es V ws<=60)(hr:M[r]?=some (.lst []))(hk:Nb r f=true) :
 ∃G Z M',Hu.den (PW m) [some (.tup (es.map aD)),a1,some f,sR r,a4,a5] M=.ok (.next,[some (.tup (es.map aD)),a1,some f,sR r,G,Z]) M'/\M'[r]?=some (.lst ((ws.flatMap (ext es)).map dm))/\Fb r M M':=by
 unfold Hu;obtain⟨qq,M',a,G,Z,rfl,U,g2⟩:=uo (W:=PW m) (it:=.v 2) (t:=.name 4) (b:=Ht) (ρ:=[D.tup (es.map aD),a1,some f,sR r,a4,a5]) (M:=M) (M1:=M) rfl hf
  (λi ρ M1=>∃G Z:Option D,ρ=[some (.tup (es.map aD)),a1,some f,sR r,G,Z]/\M1[r]?=some (.lst (((ws.take i).flatMap (ext es)).map dm))/\Fb r M M1)
  ⟨a4,a5,rfl,by simpa using hr,Fb.refl r M⟩ (λi ρ M1 h=>by obtain⟨_,_,_,_,k⟩:=h;exact k.dw hk hf)
  (λi x ρ M1 hx hI=>by
   obtain⟨G,Z,rfl,U,g2⟩:=hI;obtain⟨w,R,rfl⟩:∃w,ws[i]?=some w/\dm w=x:=by simpa using hx
   have W:=hw w (aq R);have qk:=(ak.mp R).1;have wl:=Ie E W;have c1:Hs.den (PW m) [some (.tup (es.map aD)),a1,some f,sR r,some (dm w),sI (xg es w)] M1=.ok (.vl ((ext es w).map dm)) M1:=by
    unfold Hs;rw[Jj (ds:=es.map aD) (M1:=M1) (q:=λk=>decide ((at_ es k).1=xg es w)) (g:=λk=>dm (w++[k])) rfl (by simpa using bf E.few (by decide)) (λj x hx=>by
     have hj:j<es.length:=by simpa using(ak.mp hx).1
     have ex:x=aD (at_ es j):=by simpa[Qp hj] using hx.symm
     subst ex;exact⟨_,rfl,by simp[aD,Kd],λ_=>by simp[Jw w j (by lia)]⟩)]
    simp only[bx,aa6,iu]
   have el:(((ws.take i).flatMap (ext es)).map dm).length+((ext es w).map dm).length<100000:=by
    have e1:(ws.take (i+1)).flatMap (ext es)=(ws.take i).flatMap (ext es)++ext es w:=by rw[rm,R];simp
    have e2:=Qs E (ws.take (i+1));rw[e1,<- Ge] at e2;have e3:((ws.take (i+1)).map λw=>V (xg es w)).sum<=Y6 es V ws:=by
     rw[<- Ge,<- u5 (i+1) ws,jh,List.sum_append]
     simp;lia
    rw[jj] at e2;rw[bx,bx]
    lia
   refine⟨_,.next,_,_,rfl,?_,.inl rfl,some (dm w),sI (xg es w),rfl,nq (o:=.lst (((ws.take (i+1)).flatMap (ext es)).map dm)) U,g2.trans (Fb.set r M1 _)⟩;simp only[Ht];simp[Y7 hm (M:=M1) (d:=.tup (es.map aD)) rfl W,Jv U,c1,Qq U el];rw[rm,R];simp)
 refine⟨G,Z,M',a,?_,g2⟩;simpa using U
def W4(hm:2<=m)(E:Ends es V) :
 ∃(l:List D)(M':dg),prog.call m 13 [.tup (es.map aD)] M=.ok (.ref M.length) M'/\M'[M.length]?=some (.lst l)/\l.length<=60/\lq M M':=by
 rw[call_of (bf (by decide) hm) rfl];have hn:es.length<=100000:=bf E.few (by decide)
 have c2:Hw.den (PW (m-1)) [some (.tup (es.map aD)),sR M.length,none,none,none,none] (M++[.lst []])=.ok (.vl (((List.range es.length).map λk=>[k]).map dm)) (M++[.lst []]):=by unfold Hw;rw[Ig (n:=es.length) (M1:=M++[.lst []]) (g:=λk=>dm [k]) (by simp[um]) hn (λi hi=>⟨_,rfl,by simp[dm,nD]⟩)];simp[ik,gf]
 obtain⟨qk,M',a,l,b2,b3,R,U,rfl,g1,g2,g3⟩:=Eh (c:=(Ex.tru (.v 2)).den (PW (m-1))) (body:=Hv.den (PW (m-1)))
  (λn ρ G=>∃(Z:List (List Nat))(l:List D)(f:D)(b3 R U:Option D),ρ=[some (.tup (es.map aD)),sR M.length,some f,b3,R,U]/\G[M.length]?=some (.lst l)/\lq M G/\dw G f=some (Z.map dm)/\Nb M.length f=true/\(∀w∈Z,Way es w)/\l.length+Y6 es V Z<=60/\n=60-l.length)
  (fun ρ G=>∃(l:List D)(b2 b3 R U:Option D),ρ=[some (.tup (es.map aD)),sR M.length,b2,b3,R,U]/\G[M.length]?=some (.lst l)/\lq M G/\l.length<=60)
  (λn ρ G hI=>by
   obtain⟨Z,l,f,b3,R,U,rfl,g1,g2,g3,g4,g5,g6,rfl⟩:=hI;have hs:=Bh g3
   by_cases hw:Z=[]
   .left
    subst hw;exact⟨G,by simp[hs],l,some f,b3,R,U,rfl,g1,g2,by lia⟩
   .right
    have M9:=Ge es V Z;have qq:0<Z.length:=jn.mpr hw
    have x1:=ajn g1 g3 g4 (by simp;lia);have k1:Fb M.length G (G.set M.length (.lst (l++Z.map dm))):=Fb.set _ _ _;have f1:=k1.dw g4 g3;generalize hM2:G.set M.length (.lst (l++Z.map dm))=M2 at x1 k1 f1;have t1:M2[M.length]?=some (.lst (l++Z.map dm)):=by rw[<- hM2];exact nq g1
    have f2:dw (M2++[.lst []]) f=some (Z.map dm):=(lq.app _ _).dw f1;have hr:Nb M2.length f=true:=by
     cases f with
     |ref n =>
      have:n<M2.length:=by
       cases e:M2[n]? with
       |none=>simp[MW.dw,e] at f1|some o=>exact qd e
      simpa[Nb] using gh this
     |_=>rfl
    obtain⟨c4,c5,M3,e3,h3,k3⟩:=at7 (m:=m-1) (a1:=sR M.length) (a4:=R) (a5:=U) (by lia) E f2 g5 (by lia) wu hr;have tl:M.length<M2.length:=qd t1
    refine⟨G,.next,[some (.tup (es.map aD)),sR M.length,sR M2.length,sR M2.length,c4,c5],M3,60-(l++Z.map dm).length,?_,?_,.inl rfl,by simp;lia,Z.flatMap (ext es),l++Z.map dm,.ref M2.length,_,_,_,rfl,k3 _ _ (gh tl) (u6 t1),?_,gq h3,?_,?_,?_,rfl⟩
    .simp[hs,hw]
    .simp only[Hv]
     simp[Jv g1,x1,MW.new,e3]
    .intro a o h
     have ha:=qd h;have:=g2 a o h;refine k3 a o (by lia) (u6 ?_);rw[<- hM2,jx (by lia)];exact this
    .simpa[Nb] using rz tl
    .intro u hu
     obtain⟨w,h1,h2⟩:=List.mem_flatMap.mp hu;exact aa4 (g5 w h1) h2
    .have:=Qs E Z
     rw[jj,bx]
     lia)
  Sd 60 [some (.tup (es.map aD)),sR M.length,some (.vl (((List.range es.length).map λk=>[k]).map dm)),none,none,none] (M++[.lst []]) (by decide)
  ⟨_,[],_,none,none,none,rfl,wu,lq.app _ _,rfl,rfl,(Wk.start E).way,by
   have:=(Wk.start E).few;rw[List.drop_zero,Ge] at this;simpa using this,rfl⟩
 refine⟨l,M',?_,g1,g3,g2⟩;simp only[Fn.run,Qk,Qj];simp[-List.map_map,MW.new,c2,Ma,Nf,a]
def Y8(Z:jl U d=some ds):∃s,srcOf U d=some s/\s.len=ds.length/\(∀M i,jl M d=some ds->s.item i M=ds[i]?)/\∀M,jl M d=some ds->s.fin M=true:=by
 cases d with
 |vl G=>cases Z;exact⟨.con ds,rfl,rfl,λ_ _ _=>rfl,λ_ _=>rfl⟩
 |tup G=>cases Z;exact⟨.con ds,rfl,rfl,λ_ _ _=>rfl,λ_ _=>rfl⟩
 |ref p =>
  have get:∀{M:dg},jl M (.ref p)=some ds->M[p]?=some (.lst ds):=fun{M} h=>by
   cases e:M[p]? with
   |none=>simp[MW.jl,MW.dw,e] at h|some o=>cases o<;>simp[MW.jl,MW.dw,e] at h;subst h;rfl
  exact⟨.live p ds.length,by simp[srcOf,get Z],rfl,λM i h=>by simp[Src.item,get h],λM h=>by simp[Src.fin,get h]⟩
 |_=>cases Z
def Cu{U:Type}{f:U->D}{xs:List U}{q:U->Bool}{g:U->D}(qq:it.den W R M=.ok d M1)(hd:jl M1 d=some (xs.map f))(hn:xs.length<=100000)
 (h:∀x∈xs,∃Z,t.put (f x) (R++List.replicate k none)=some Z/\c.den W Z M1=.ok (.bl (q x)) M1/\(q x=true->e.den W Z M1=.ok (g x) M1)) :
 (Ex.ud v k t (.val it) c e).den W R M=if v then .ok (.vl ((xs.filter q).map g)) M1 else new (.lst ((xs.filter q).map g)) M1:=by
 rw[Di,Fp,qq];obtain⟨s,hs,hl,hi,hf⟩:=Y8 hd;simp only[Res.nu,hs,Res.m8];obtain⟨ys,M',g1,g2,rfl⟩:=Dh (fin:=s.fin) (item:=s.item) (body:=λd M=>(Res.qi (t.put d (R++List.replicate k none)) M).bind λG M=>(c.den W G M).bind λb M' =>
  match b with
   |.bl true=>(e.den W G M').bind λx qk=>.ok (some x) qk
   |.bl false=>.ok none M'|_=>.bad) (λi zs M=>zs=((xs.take i).filter q).map g/\M=M1) (n:=xs.length) (λi zs M Hc hI=>by
  obtain⟨rfl,rfl⟩:=hI;obtain⟨Z,a,b,c⟩:=h xs[i] (by simp);refine⟨f xs[i],if q xs[i] then some (g xs[i]) else none,M,by rw[hi M i hd];simp[Hc],?_,?_,rfl⟩
  .cases e:q xs[i] with
   |true=>simp only[a,Res.m8,Res.nu,b,e,c e,iu]|false=>simp only[a,Res.m8,Res.nu,b,e];rfl
  .rw[List.take_succ_eq_append_getElem Hc,List.filter_append,jh]
   cases e:q xs[i]<;>simp[e]) (λzs M h=>h.2▸hf M1 hd) xs.length 0 [] M1 (p8 _) ⟨by simp,rfl⟩
 rw[uz,q8] at g2;subst g2;rw[wk,hl,bx,di hn];exact mz (λr=>r.bind λds M2=>if v=true then Res.ok (.vl ds) M2 else new (.lst ds) M2) g1
def Bt{α:Type}{f:α->D}{xs:List α}{g:α->D}(qq:it.den W U M=.ok d M1)(hd:jl M1 d=some (xs.map f))(hn:xs.length<=100000)
 (h:∀x∈xs,∃Z,t.put (f x) (U++List.replicate k none)=some Z/\e.den W Z M1=.ok (g x) M1) :
 (Ex.comp v k t (.val it) e).den W U M=if v then .ok (.vl (xs.map g)) M1 else new (.lst (xs.map g)) M1:=by
 rw[Kc,Fp,qq];obtain⟨s,hs,hl,hi,hf⟩:=Y8 hd;simp only[Res.nu,hs,Res.m8];obtain⟨ys,M',g1,g2,rfl⟩:=Dh (fin:=s.fin) (item:=s.item) (body:=λd M=>(Res.qi (t.put d (U++List.replicate k none)) M).bind λG M=>(e.den W G M).bind λx M'=>.ok (some x) M') (λi R M=>R=(xs.take i).map g/\M=M1) (n:=xs.length) (λi R M Hc hI=>by
  obtain⟨rfl,rfl⟩:=hI;obtain⟨Z,a,b⟩:=h xs[i] (by simp);exact⟨f xs[i],some (g xs[i]),M,by rw[hi M i hd];simp[Hc],by simp only[a,Res.m8,Res.nu,b],by rw[List.take_succ_eq_append_getElem Hc,jh];rfl,rfl⟩)
  (λR M h=>h.2▸hf M1 hd) xs.length 0 [] M1 (p8 _) ⟨by simp,rfl⟩
 rw[uz,q8] at g2;subst g2;rw[wk,hl,bx,di hn];exact mz (λr=>r.bind λds M2=>if v=true then Res.ok (.vl ds) M2 else new (.lst ds) M2) g1
theorem aa7(M:dg)(g:Nat):∀fs:List Nat,Ot M (.int g) (fs.map nD)=some (fs.map λf=>decide (f=g))
 |[]=>rfl
 |f::fs=>by
  have:Bb M (nD f) (.int g)=some (decide (f=g)):=aa0 M 5 f g;simp only[d8,Ot,this,aa7 M g fs]
def ajo(M:dg)(g:Nat)(fs:Y3):memD M (.int g) (fs.map nD)=some (decide (g∈fs)):=by
 rw[memD,aa7,ou]
 congr 1
 induction fs with
 |nil=>simp
 |cons f fs Z =>
  by_cases h:f=g
  .simp[h]
  .simp only[d8,List.any_cons,Z,cg,id]
   simp[h,oh h]
def aoz(h:e∈es):∃k,k<es.length/\at_ es k=e:=by obtain⟨k,G⟩:=j5.mp h;have Z:=(ak.mp G).1;refine⟨k,Z,?_⟩;have:=Qp Z;rw[G] at this;exact(jb this).symm
def Lb(h:k<es.length):at_ es k∈es:=aq (Qp h)
theorem afr(V:Nat->Nat):∀G:List Ar,G≠[]->∃e∈G,∀u∈G,V u.1<=V e.1
 |[],h=>absurd rfl h|[a],_=>⟨a,by simp,by simp⟩
 |a::b::r,_=>by
  obtain⟨e,R,U⟩:=afr V (b::r) (by simp)
  by_cases h:V a.1<=V e.1
  .exact⟨e,bu _ R,λu Z=>by rcases cg.mp Z with rfl|Z;exact h;exact U u Z⟩
  .exact⟨a,bz,λu Z=>by rcases cg.mp Z with rfl|Z;exact bc _;have:=U u Z;lia⟩
noncomputable def lft(Z:List Ar):List Ar:=Z.filter λe=>decide (e.1∈Z.map (·.2))
def afs(E:Ends es V)(U:∀e∈Z,e∈es)(R:Z≠[]):(lft Z).length<Z.length:=by
 obtain⟨e,h1,h2⟩:=afr V Z R;refine List.length_filter_lt_length_iff_exists.mpr ⟨e,h1,?_⟩;intro h;obtain⟨u,G,h4⟩:=dh.mp (ju h);obtain⟨k,hk,rfl⟩:=aoz (U u G);have a:=V_lt E hk;have b:=h2 _ G;rw[h4] at a
 lia
def ajp(hm:1<=m)(E:Ends es V):∃M',prog.call m 5 [.tup (es.map aD)] M=.ok (.bl false) M'/\lq M M':=by
 rw[call_of hm rfl];obtain⟨qk,M',a,b1,G,rfl,g2⟩:=Eh (c:=(Ex.cmp .ne (.v 2) (.l (.v 1))).den (PW (m-1))) (body:=Et.den (PW (m-1)))
  (λn ρ M1=>∃(Z:List Ar)(f:D)(R:Int)(G:Option D),ρ=[some (.tup (es.map aD)),some f,sI R,G]/\lq M M1/\jl M1 f=some (Z.map aD)/\(∀e∈Z,e∈es)/\Z.length<=10/\(R=Z.length->Z=[])/\n=2*Z.length+if R=Z.length then 0 else 1)
  (fun ρ M1=>∃(b1 G:Option D),ρ=[some (.tup (es.map aD)),b1,sI 0,G]/\lq M M1)
  (λn ρ M1 hI=>by
   obtain⟨Z,f,R,G,rfl,g2,g3,g4,g5,g6,rfl⟩:=hI;have hl:=Kg g3;rw[bx] at hl
   by_cases e:R=Z.length
   .left
    have qq:=g6 e;subst qq;exact⟨M1,by simp[hl,e],some f,G,by simp[e],g2⟩
   .right
    have c2:Es.den (PW (m-1)) [some (.tup (es.map aD)),some f,sI Z.length,G] M1=.ok (.vl ((Z.map (·.2)).map nD)) M1:=by unfold Es;rw[Bt (d:=f) (M1:=M1) (xs:=Z) (f:=aD) (g:=λe=>nD e.2) rfl g3 (by lia) (λx hx=>⟨_,rfl,by simp[aD,nD,Gk]⟩)];simp[ik,gf]
    have c1:Er.den (PW (m-1)) [some (.tup (es.map aD)),some f,sI Z.length,some (.vl ((Z.map (·.2)).map nD))] M1=.ok (.vl ((lft Z).map aD)) M1:=by
     unfold Er;rw[Cu (d:=f) (M1:=M1) (xs:=Z) (f:=aD) (q:=λe=>decide (e.1∈Z.map (·.2))) (g:=aD) rfl g3 (by lia) (λx hx=>⟨_,rfl,by
      have:=ajo M1 x.1 (Z.map (·.2));simp[-List.map_map,aD,R9,this],λ_=>by simp⟩)]
     rfl
    refine⟨M1,.next,[some (.tup (es.map aD)),some (.vl ((lft Z).map aD)),sI Z.length,some (.vl ((Z.map (·.2)).map nD))],M1,_,by simp[hl,e],?_,.inl rfl,?_,lft Z,_,Z.length,_,rfl,g2,rfl,λu hu=>g4 u ((n8.mp hu).1),?_,?_,rfl⟩
    .simp only[Et]
     simp[-List.map_map,hl,c2,c1]
    .by_cases U:Z=[]
     .subst U;simp[lft] at e ⊢;simp[e]
     .have:=afs E g4 U
      simp only[e,ig];split<;>lia
    .exact bf (jm _ _) g5
    .intro h
     by_cases U:Z=[]
     .subst U;rfl
     .have:=afs E g4 U;lia)
  Sd _ [some (.tup (es.map aD)),sR M.length,sI (-1),none] (M++[.lst (es.map aD)]) (by have:=E.few;show _<1000000;split<;>lia)
  ⟨es,.ref M.length,-1,none,rfl,lq.app _ _,Bh (gq wu),λ_ h=>h,E.few,λh=>by lia,rfl⟩
 refine⟨M',?_,g2⟩;simp only[Fn.run,Lx,Lw];simp[qw,MW.new,Jp,Nf,a]
def W5{Z:List Ar}{k:Nat}(G:1<=m)(U:jl M d=some (Z.map aD)):prog.call m 8 [d,.int k] M=.ok (.bl (decide (k<Z.length))) M:=by rw[call_of G rfl];simp[Fn.run,Qg,Qf,Kg U]
theorem Tt{G:Type}:∀Z:List G,allB (Z.map λ_=>D.bl true)=some true
 |[]=>rfl|_::Z=>by simp[allB,Tt Z]
theorem U8.zip:∀{w:Y3},U8 es w->∀p∈w.zip (w.drop 1),(at_ es p.1).2=(at_ es p.2).1
 |[],_,p,h=>by simp at h|[_],_,p,h=>by simp at h
 |a::b::r,c,p,h=>by
  simp only[List.drop_succ_cons,List.drop_zero,List.zip_cons_cons,cg] at h;rcases h with rfl|h
  .exact c.1
  .exact U8.zip (w:=b::r) c.2 p (by simpa using h)
def aft(hm:2<=m)(G:jl M d=some (es.map aD))(qq:es.length<=10)(E:w.length<=60)(W:Way es w):prog.call m 9 [d,dm w] M=.ok (.bl true) M:=by
 rw[call_of (bf (by decide) hm) rfl];have c2:K8.den (PW (m-1)) [some d,some (dm w)] M=.ok (.vl (w.map λ_=>.bl true)) M:=by
  unfold K8;rw[Bt (d:=dm w) (M1:=M) (xs:=w) (f:=nD) (g:=λ_=>.bl true) rfl rfl (by lia) (λx Z=>⟨_,rfl,by
   have:=W5 (m:=m-1) (k:=x) (by lia) G;simp[nD,this,W.lt x Z]⟩)]
  rfl
 have hl:1<=w.length:=jn.mpr W.ne
 have cu:Ai (dm w) (some 1) none M=some (dm (w.drop 1)):=by
  have:Dg (w.map nD) (some 1) none=(w.drop 1).map nD:=by
   have e:min 1 w.length=1:=by lia
   simp only[Dg,clip,bx];rw[di (by decide),show(1:Int).toNat=1 from rfl,e,List.map_drop];exact pq (by simp)
  show some (D.tup (Dg (w.map nD) (some 1) none))=_;rw[this];rfl
 have zi:(Ld.zip (.p (.v 1) (.cut (.v 1) (.some (.i 1)) .none))).den (PW (m-1)) [some d,some (dm w)] M=.ok (.con (Ov (w.map nD) ((w.drop 1).map nD))) M:=by rw[aap];simp only[zb,Be,ae9,aao,Tj,Ti,Fo,Res.nu,cu,Res.m8];rfl
 have c1:K7.den (PW (m-1)) [some d,some (dm w)] M=.ok (.vl ((w.zip (w.drop 1)).map λ_=>.bl true)) M:=by
  unfold K7;rw[Kc,zi];have ez:Ov (w.map nD) ((w.drop 1).map nD)=(w.zip (w.drop 1)).map λp=>.tup [nD p.1,nD p.2]:=by rw[Ov,List.zip_map,ik];rfl
  rw[ez,Res.nu,ajk (g:=λ_=>.bl true) (by simp;lia) (λx Z=>by
   obtain⟨p,U,rfl⟩:=dh.mp Z;have z:=W.ch.zip p U;have R:=W.lt p.1 (v5 U).1;have p2:=W.lt p.2 (List.mem_of_mem_drop (v5 U).2);simp[nD,Gk,Az G R,Az G p2,aD,z])]
  simp
 have Ow:w.isEmpty=false:=by cases w<;>first|exact absurd rfl W.ne|rfl
 simp only[Fn.run,Wy,Wx];have t0:(Ex.ntr (.v 1)).den (PW (m-1)) [some d,some (dm w)] M=.ok (.bl false) M:=by show Res.qi (some (D.bl (w.map nD).isEmpty)) M=_;rw[List.isEmpty_map,Ow];rfl
 simp[t0,-U0,c2,c1,qw,Tt]
structure Lf(es:List Ar)(a b:Y3):Prop where
 one:Way es a
 two:Way es b
 st:yz es a=yz es b
 go:xg es a=xg es b
def afu(hm:3<=m)(Z:jl M d=some (es.map aD))(E:Ends es V)(B:Lf es a b):prog.call m 12 [d,dm a,dm b] M=.ok (.bl true) M:=by rw[call_of (bf (by decide) hm) rfl];have R:=aft (m:=m-1) (by lia) Z E.few (Ie E B.one) B.one;have h2:=aft (m:=m-1) (by lia) Z E.few (Ie E B.two) B.two;have G:=Va (m:=m-1) (by lia) Z B.one;have h4:=Va (m:=m-1) (by lia) Z B.two;have U:=Y7 (m:=m-1) (by lia) Z B.one;have h6:=Y7 (m:=m-1) (by lia) Z B.two;simp[Fn.run,Lz,Ly,R,h2,G,h4,U,h6,B.st,B.go]
inductive Gn where
 |same (a b:Y3)|apart (k:Nat)
def Gn.toD:Gn->D
 |.same a b=>.tup [.str (PySem.Str.ofString "same"),dm a,dm b]|.apart k=>.tup [.str (PySem.Str.ofString "apart"),.int (k:Nat)]
def Gd(Z:List Ar):Gn->Prop
 |.same a b=>Lf Z a b|.apart k=>k<Z.length
def afv(G:4<=m)(Z:jl M d=some (es.map aD))(E:Ends es V)(g:Gn)(h:Gd es g):prog.call m 7 [d,g.toD] M=.ok (.bl true) M:=by
 rw[call_of (bf (by decide) G) rfl];cases g with
 |same a b =>
  have:=afu (m:=m-1) (by lia) Z E h;simp[Fn.run,Ew,Eu,Gn.toD,this]
 |apart k =>
  have:=W5 (m:=m-1) (k:=k) (by lia) Z;have U:PySem.Str.ofString "apart"≠PySem.Str.ofString "same" := by decide
  simp[Fn.run,Ew,Eu,Gn.toD,this,U,show k<es.length from h]
def afw(hm:2<=m)(E:Ends es V):∃M',prog.call m 4 [.tup (es.map aD)] M=.ok .non M'/\lq M M':=by
 rw[call_of (bf (by decide) hm) rfl];obtain⟨M',a,k⟩:=ajp (m:=m-1) (M:=M) (by lia) E;have lp:∃G Z:Option D,Ep.den (PW (m-1)) [some (.tup (es.map aD)),none,none] M=.ok (.next,[some (.tup (es.map aD)),G,Z]) M:=by
  unfold Ep;obtain⟨qq,U,e,G,Z,rfl,rfl⟩:=Ay (W:=PW (m-1)) (it:=.v 0) (t:=.names [1,2]) (b:=Eo) (ρ:=[D.tup (es.map aD),none,none]) (M:=M) (M1:=M) rfl
   (λ_ R U=>∃G Z:Option D,R=[some (.tup (es.map aD)),G,Z]/\U=M) ⟨none,none,rfl,rfl⟩ (λi x R U hx hI=>by
    obtain⟨G,Z,rfl,rfl⟩:=hI;obtain⟨e,h1,rfl⟩:∃e,es[i]?=some e/\aD e=x:=by simpa using hx
    have hs:=E.sm e (aq h1);have s1:(e.1:Int)<=7:=by lia
    have s2:(e.2:Int)<=7:=by lia
    exact⟨_,.next,[some (.tup (es.map aD)),sI e.1,sI e.2],U,rfl,by simp[Eo,Gk,s1,s2],.inl rfl,_,_,rfl,rfl⟩)
  exact⟨G,Z,e⟩
 obtain⟨G,Z,e⟩:=lp;have p1:(1:Int)<=es.length:=by have:=E.pos;lia
 have p2:(es.length:Int)<=10:=by have:=E.few;lia
 refine⟨M',?_,k⟩;simp only[Fn.run,Ls,Lr];simp[um,p1,p2,e,a]
def ajq{Z:List Gn}(hm:5<=m)(E:Ends es V)(hg:∀g∈Z,Gd es g)(hl:Z.length<=8):prog.call m 6 [.tup (es.map aD),.tup (Z.map Gn.toD)] M=.ok .non M:=by
 rw[call_of (bf (by decide) hm) rfl];have lp:∃G:Option D,Dr.den (PW (m-1)) [some (.tup (es.map aD)),some (.tup (Z.map Gn.toD)),none] M=.ok (.next,[some (.tup (es.map aD)),some (.tup (Z.map Gn.toD)),G]) M:=by
  unfold Dr;obtain⟨qq,U,e,G,rfl,rfl⟩:=Ay (W:=PW (m-1)) (it:=.v 1) (t:=.name 2) (b:=Dq) (ρ:=[D.tup (es.map aD),D.tup (Z.map Gn.toD),none]) (M:=M) (M1:=M) rfl
   (λ_ R U=>∃G:Option D,R=[some (.tup (es.map aD)),some (.tup (Z.map Gn.toD)),G]/\U=M) ⟨none,rfl,rfl⟩ (λi x R U hx hI=>by
    obtain⟨G,rfl,rfl⟩:=hI;obtain⟨g,h1,rfl⟩:∃g,Z[i]?=some g/\g.toD=x:=by simpa using hx
    have:=afv (m:=m-1) (M:=U) (d:=.tup (es.map aD)) (by lia) rfl E g (hg g (aq h1));exact⟨_,.next,[some (.tup (es.map aD)),some (.tup (Z.map Gn.toD)),some g.toD],U,rfl,by simp[Dq,this],.inl rfl,_,rfl,rfl⟩)
  exact⟨G,e⟩
 obtain⟨G,e⟩:=lp;have p:¬(8:Int)<Z.length:=by lia
 simp only[Fn.run,Ko,Km];simp[um,p,e]
structure Yq where
 es:List Ar
 gs:List Gn
 a:List Nat
 b:List Nat
def Yq.toD(s:Yq):D:=.tup [.tup (s.es.map aD),.tup (s.gs.map Gn.toD),.tup [dm s.a,dm s.b]]
structure Fe(s:Yq)(V:Nat->Nat):Prop where
 E:Ends s.es V
 gs:∀g∈s.gs,Gd s.es g
 few:s.gs.length<=8
 aim:Lf s.es s.a s.b
def afx(hm:6<=m)(h:Fe s V):∃M',prog.call m 3 [s.toD] M=.ok .non M'/\lq M M':=by
 rw[call_of (bf (by decide) hm) rfl];obtain⟨Z,G,R⟩:=afw (m:=m-1) (M:=M) (by lia) h.E;have e2:=ajq (m:=m-1) (M:=Z) (by lia) h.E h.gs h.few;have e3:=afu (m:=m-1) (M:=Z) (d:=.tup (s.es.map aD)) (by lia) rfl h.E h.aim;obtain⟨l,M2,e4,g4,l4,k4⟩:=W4 (m:=m-1) (M:=Z) (by lia) h.E;have U:=len_list (gq g4);have p:¬(60:Int)<l.length:=by lia
 refine⟨M2,?_,R.trans k4⟩;simp only[Fn.run,Jo,Jm,Yq.toD];simp[G,e2,e3,e4,U,p]
noncomputable def j0(r:X2):D:=.tup (r.map D.int)
def Bx(Z:List (List Int)):D:=.tup (Z.map j0)
noncomputable def uy(Z:List (List Int))(k:Nat):List Int:=Z.getD k []
noncomputable def Du(r:X2)(x:Int):Int:=r.getD x.toNat 0
def stp(Z:List (List Int))(x:Int)(k:Nat):Int:=Du (uy Z k) x
def gone(Z:List (List Int))(w:Y3)(x:Int):Int:=w.foldl (stp Z) x
def Led(Z:List (List Int)):List Nat->Int->Prop
 |[],_=>True|k::r,x=>k<Z.length/\0<=x/\x<(uy Z k).length/\Led Z r (stp Z x k)
def Jx{k:Nat}(Z:k<acts.length):t6 (Bx acts) (.int k) M=some (j0 (uy acts k)) :=
 Ho (gj _) (by simp[uy,Z,List.getD])
def Gf{x:Int}{r:X2}(G:0<=x)(U:x<r.length):t6 (j0 r) (.int x) M=some (.int (Du r x)):=by
 have Z:x.toNat<r.length:=by lia
 exact Ho G (by simp[Du,List.getD,Z])
def afy{W:Kl}{E:Int->Option D->Env}{x:Int}{b:jw}(hb:∀(x:Int) (k:Nat) (M:dg),k<acts.length->0<=x->x<(uy acts k).length->b.den W (E x (some (.int k))) M=.ok (.next,E (stp acts x k) (some (.int k))) M)
 (hp:∀x (b4:Option D) (d:D),(Tg.name j).put d (E x b4)=some (E x (some d))) (qq:it.den W (E x b4) M=.ok (dm w) M) (h:Led acts w x) :
 ∃Z,(yt.for_ (.name j) (.val it) b).den W (E x b4) M=.ok (.next,E (gone acts w x) Z) M:=by
 obtain⟨qk,G,e,Z,y,r,rfl,rfl,U,R,h3⟩:=Ay (W:=W) (it:=it) (t:=.name j) (b:=b) (ρ:=E x b4) (M:=M) (M1:=M) (ds:=w.map nD) qq
  (λi ρ G=>∃(Z:Option D)(y:Int)(r:Y3),ρ=E y Z/\G=M/\w.drop i=r/\Led acts r y/\gone acts r y=gone acts w x) ⟨b4,x,w,rfl,rfl,rfl,h,rfl⟩ (λi d ρ G hx hI=>by
   obtain⟨Z,y,r,rfl,rfl,U,R,h3⟩:=hI;obtain⟨k,hk,rfl⟩:∃k,w[i]?=some k/\nD k=d:=by simpa using hx
   obtain⟨hl,ek⟩:=ak.mp hk;rw[rn hl,ek] at U;subst U;exact⟨_,.next,_,G,hp y Z _,hb y k G R.1 R.2.1 R.2.2.1,.inl rfl,_,_,_,rfl,rfl,rfl,R.2.2.2,h3⟩)
 rw[bx,List.drop_length] at U;subst U;exact⟨Z,by rw[e,<- h3];rfl⟩
def afz(U:1<=m)(h:Led acts w x):prog.call m 19 [Bx acts,dm w,.int x] M=.ok (.int (gone acts w x)) M:=by
 rw[call_of U rfl];obtain⟨c4,e⟩:=afy (W:=PW (m-1)) (j:=4) (it:=.v 1) (b:=Gm) (M:=M) (b4:=none) (E:=λy Z=>[some (Bx acts),some (dm w),some (.int x),some (.int y),Z])
  (λy k M hk R G=>by simp[Gm,Jx hk,Gf R G,stp]) (λ_ _ _=>rfl) rfl h
 simp only[Fn.run,Nz,Ny,Kq];simp[e]
def aa8(U:1<=m)(h:Led acts w x):prog.call m 27 [Bx acts,dm w,.int x] M=.ok (.int (gone acts w x)) M:=by
 rw[call_of U rfl];obtain⟨c4,e⟩:=afy (W:=PW (m-1)) (j:=3) (it:=.v 1) (b:=Gy) (M:=M) (b4:=none) (E:=λy Z=>[some (Bx acts),some (dm w),some (.int y),Z])
  (λy k M hk R G=>by simp[Gy,Jx hk,Gf R G,stp]) (λ_ _ _=>rfl) rfl h
 simp only[Fn.run,N8,N7,Kv];simp[e]
noncomputable def mx(e:Ar):Nat:=if e.1<e.2 then e.2 else e.1
noncomputable def Sh(l:Y3)(a:Nat):Nat:=l.foldl (λm x=>if m<x then x else m) a
def xj(Z:List Ar):Nat:=match Z.map mx with|[]=>0|a::l=>Sh l a
theorem Tu:∀(l:Y3)(a:Nat),(l.map λ(x:Nat)=>(x:Int)).foldl (λm x=>if m<x then x else m) (a:Int)=(Sh l a:Nat)
 |[],a=>rfl
 |x::l,a=>by
  have e:(if(a:Int)<(x:Int) then(x:Int) else(a:Int))=((if a<x then x else a:Nat):Int):=by split<;>split<;>lia
  show(l.map λ(x:Nat)=>(x:Int)).foldl (λm x=>if m<x then x else m) (if(a:Int)<(x:Int) then(x:Int) else(a:Int))=_;rw[e,Tu l];rfl
theorem aa9:∀(l:Y3)(a:Nat),a<=Sh l a/\∀x∈l,x<=Sh l a
 |[],a=>⟨bc _,by simp⟩
 |x::l,a=>by
  obtain⟨G,U⟩:=aa9 l (if a<x then x else a);refine⟨?_,λy Z=>?_⟩
  .show a<=Sh l _;split at G<;>lia
  .show y<=Sh l _
   rcases cg.mp Z with rfl|Z
   .split at G<;>lia
   .exact U y Z
def Ng(h:e∈es):e.1<=xj es/\e.2<=xj es:=by
 have m:mx e∈es.map mx:=dh.mpr ⟨e,h,rfl⟩;have k:mx e<=xj es:=by
  unfold xj;cases q:es.map mx with
  |nil=>rw[q] at m;cases m
  |cons a l =>
   rw[q] at m;obtain⟨Z,G⟩:=aa9 l a;rcases cg.mp m with rfl|m
   .exact Z
   .exact G _ m
 unfold mx at k;split at k<;>exact⟨by lia,by lia⟩
theorem aba:∀l:List Nat,Th (l.map nD)=some (l.map λ(x:Nat)=>(x:Int))
 |[]=>rfl|x::l=>by simp[Th,nD,aba l]
def Qt(M:dg)(Z:jl M d=some ((a::l).map nD)):qw .max [d] M=.ok (.int (Sh l a:Nat)) M:=by show Res.qi ((((jl M d).bind Th).bind ajb).map D.int) M=_;rw[Z,Option.bind_some,aba,Option.bind_some,d8,ajb,Tu];rfl
def Vb{Z:List Ar}{y v:Nat}(R:ρ[v]?=some (some d))(G:ρ.length=y)(U:jl M d=some (Z.map aD))(hl:Z.length<=10) :
 (Ex.comp true 1 (.name y) (.val (.v v)) (.blt .max (.o (.v y)))).den W ρ M=.ok (.vl ((Z.map mx).map nD)) M:=by
 subst G;rw[Bt (d:=d) (M1:=M) (xs:=Z) (f:=aD) (g:=λe=>nD (mx e)) (by simp[R]) U (by lia) (λx hx=>⟨_,rfl,by
  have g:((ρ++List.replicate 1 none).set ρ.length (some (aD x)))[ρ.length]?=some (some (aD x)):=qy (by simp);have e:qw .max [aD x] M=.ok (nD (mx x)) M:=by rw[Qt (a:=x.1) (l:=[x.2]) M rfl];rfl
  simp[g,e]⟩)]
 simp[ik,gf]
def Vc(Z:es≠[]):qw .max [.vl ((es.map mx).map nD)] M=.ok (.int (xj es:Nat)) M:=by
 unfold xj;cases q:es.map mx with
 |nil=>exact absurd (List.map_eq_nil_iff.mp q) Z|cons a l=>exact Qt M rfl
def ao1(Z:1<=m)(E:Ends es V)(U:jl M d=some (es.map aD)):prog.call m 14 [d] M=.ok (.int ((xj es+1:Nat):Int)) M:=by rw[call_of Z rfl];have G:es≠[]:=jt E.pos;have c:=Vb (W:=PW (m-1)) (ρ:=[some d]) (v:=0) rfl rfl U E.few;simp only[Fn.run,Nx,Nv];simp[-List.map_map,show Kp.den (PW (m-1)) [some d] M=_ from c,Vc G]
def W6(U:List Ar)(G:X2)(Z:List (List Int))(k:Nat):Prop :=
 ((uy Z k).length:Int)=Du G (at_ U k).1/\∀x∈uy Z k,0<=x/\x<Du G (at_ U k).2
structure Sets(es:List Ar)(zs:X2)(acts:List (List Int)):Prop where
 n:zs.length=xj es+1
 a:acts.length=es.length
 z:∀z∈zs,0<=z
 r:∀k,k<es.length->W6 es zs acts k
def Dz(e:Ar):t6 (aD e) (.int 0) M=some (.int (e.1:Nat)):=Fq _ _
def Mi(e:Ar):t6 (aD e) (.int 1) M=some (.int (e.2:Nat)):=O5 _ _ _
theorem W7{G:Type}(q:G->Bool):∀Z:List G,allB (Z.map λx=>D.bl (q x))=some (Z.all q)
 |[]=>rfl|x::Z=>by simp[allB,W7 q Z]
def Qu{G:Type}(q:G->Bool)(Z:List G):qw .all [.vl (Z.map λx=>D.bl (q x))] M=.ok (.bl (Z.all q)) M:=by show Res.qi ((allB (Z.map λx=>D.bl (q x))).map D.bl) M=_;rw[W7];rfl
def af0{Z:X2}(E:Ends es V)(U:Z.length=xj es+1)(G:k<es.length):(at_ es k).1<Z.length/\(at_ es k).2<Z.length:=by
 have:=Ng (Lb G)
 lia
def ajr(hm:2<=m)(E:Ends es V)(hl:zs.length<=1000)(hr:∀r∈acts,(r:X2).length<=1000) :
 ∃b,prog.call m 16 [.tup (es.map aD),j0 zs,Bx acts] M=.ok (.bl b) M/\(b=true↔Sets es zs acts):=by
 rw[call_of (bf (by decide) hm) rfl];have e0:=ao1 (m:=m-1) (M:=M) (d:=.tup (es.map aD)) (by lia) E rfl;have l1:qw .len [j0 zs] M=.ok (.int zs.length) M:=by simp[j0,um]
 have l2:qw .len [Bx acts] M=.ok (.int acts.length) M:=by simp[Bx,um]
 have l3:qw .len [.tup (es.map aD)] M=.ok (.int es.length) M:=by simp[um]
 have q1:((zs.length:Int)=(xj es:Int)+1)↔zs.length=xj es+1:=by lia
 have q2:((acts.length:Int)=(es.length:Int))↔acts.length=es.length:=by lia
 simp only[Fn.run,Qm,Ql]
 by_cases Z:zs.length=xj es+1
 case neg=>exact⟨false,by simp[e0,l1,q1,Z],by simp;exact λh=>Z h.n⟩
 by_cases U:acts.length=es.length
 case neg=>exact⟨false,by simp[e0,l1,q1,Z,l2,l3,q2,U],by simp;exact λh=>U h.a⟩
 have c2:Hz.den (PW (m-1)) [some (.tup (es.map aD)),some (j0 zs),some (Bx acts),none,none] M=.ok (.vl (zs.map λz=>.bl (decide (0<=z)))) M:=by unfold Hz;rw[Bt (d:=j0 zs) (M1:=M) (xs:=zs) (f:=D.int) (g:=λz=>.bl (decide (0<=z))) rfl rfl (by lia) (λx R=>⟨_,rfl,by simp⟩)];rfl
 by_cases h3:(zs.all λz=>decide (0<=z))=true
 case neg =>
  have a:=Qu (M:=M) (λz:Int=>decide (0<=z)) zs;rw[Bool.eq_false_iff.mpr h3] at a;exact⟨false,by simp[e0,l1,q1,Z,l2,l3,q2,U,c2,a],by simp;exact λh=>h3 (nj.mpr λz hz=>decide_eq_true (h.z z hz))⟩
 have a3:=Qu (M:=M) (λz:Int=>decide (0<=z)) zs;rw[h3] at a3;have hz:∀z∈zs,0<=z:=λz hz=>ju (nj.mp h3 z hz)
 have lp:Goes (λi ρ M1=>∃b3 b4:Option D,ρ=[some (.tup (es.map aD)),some (j0 zs),some (Bx acts),b3,b4]/\M1=M/\∀k,k<i->W6 es zs acts k) (λv M1=>v=.bl false/\M1=M/\∃k,k<es.length/\¬W6 es zs acts k) es.length (Hy.den (PW (m-1)) [some (.tup (es.map aD)),some (j0 zs),some (Bx acts),none,none] M):=by
  unfold Hy;refine U6 (s:=.con (Ov (acts.map j0) (es.map aD))) (M1:=M) rfl (by simp[Src.len,Ov,U]) _ _ ⟨none,none,rfl,rfl,λk G=>absurd G (m7 _)⟩ (λ_ _ _=>rfl) (λi ρ M1 hi hI=>?_);obtain⟨b3,b4,rfl,rfl,G⟩:=hI;obtain⟨s1,s2⟩:=af0 E Z hi;have z1:t6 (j0 zs) (.int ((at_ es i).1:Nat)) M1=some (.int (Du zs (at_ es i).1)):=Gf (gj _) (by lia);have z2:t6 (j0 zs) (.int ((at_ es i).2:Nat)) M1=some (.int (Du zs (at_ es i).2)):=Gf (gj _) (by lia);have lr:qw .len [j0 (uy acts i)] M1=.ok (.int (uy acts i).length) M1:=by simp[j0,um]
  have rl:(uy acts i).length<=1000:=hr _ (by
   have:i<acts.length:=by lia
   have e:acts[i]?=some (uy acts i):=by simp[uy,List.getD,this]
   exact aq e)
  refine⟨.tup [j0 (uy acts i),aD (at_ es i)],[some (.tup (es.map aD)),some (j0 zs),some (Bx acts),some (j0 (uy acts i)),some (aD (at_ es i))],?_,rfl,?_⟩
  .have qq:i<acts.length:=by lia
   have e1:acts[i]?=some (uy acts i):=by simp[uy,List.getD,qq]
   show(Ov (acts.map j0) (es.map aD))[i]?=_;rw[Ov,gw,List.getElem?_zip_eq_some (z:=(j0 (uy acts i),aD (at_ es i))).mpr ⟨by rw[gw,e1];rfl,by rw[gw,Qp hi];rfl⟩];rfl
  .have c1:Hx.den (PW (m-1)) [some (.tup (es.map aD)),some (j0 zs),some (Bx acts),some (j0 (uy acts i)),some (aD (at_ es i))] M1=.ok (.vl ((uy acts i).map λx=>.bl (decide (0<=x)&&decide (x<Du zs (at_ es i).2)))) M1:=by
    unfold Hx;rw[Bt (d:=j0 (uy acts i)) (M1:=M1) (xs:=uy acts i) (f:=D.int) (g:=λx=>.bl (decide (0<=x)&&decide (x<Du zs (at_ es i).2))) rfl rfl (by lia) (λx R=>⟨_,rfl,by
     by_cases h:0<=x<;>simp[h,Mi,z2]⟩)]
    rfl
   simp only[Mf]
   by_cases r1:((uy acts i).length:Int)=Du zs (at_ es i).1
   case neg=>exact⟨.ret (.bl false),[some (.tup (es.map aD)),some (j0 zs),some (Bx acts),some (j0 (uy acts i)),some (aD (at_ es i))],M1,by simp[lr,Dz,z1,r1],.inr ⟨_,rfl,rfl,rfl,i,hi,λh=>r1 h.1⟩⟩
   have a1:=Qu (M:=M1) (λx:Int=>decide (0<=x)&&decide (x<Du zs (at_ es i).2)) (uy acts i)
   by_cases r2:((uy acts i).all λx=>decide (0<=x)&&decide (x<Du zs (at_ es i).2))=true
   .rw[r2] at a1
    refine⟨.next,[some (.tup (es.map aD)),some (j0 zs),some (Bx acts),some (j0 (uy acts i)),some (aD (at_ es i))],M1,by simp[lr,Dz,z1,r1,c1,a1],.inl ⟨rfl,_,_,rfl,rfl,λk qv=>?_⟩⟩;rcases iw k i with g|g
    .exact G k g
    .have:k=i:=by lia
     subst this;refine⟨r1,λx R=>?_⟩;have:=nj.mp r2 x R;simpa using this
   .rw[Bool.eq_false_iff.mpr r2] at a1
    exact⟨.ret (.bl false),[some (.tup (es.map aD)),some (j0 zs),some (Bx acts),some (j0 (uy acts i)),some (aD (at_ es i))],M1,by simp[lr,Dz,z1,r1,c1,a1],.inr ⟨_,rfl,rfl,rfl,i,hi,λh=>r2 (nj.mpr λx R=>by simpa using h.2 x R)⟩⟩
 obtain⟨fl,qk,M',e,⟨rfl,b3,b4,rfl,rfl,G⟩|⟨v,rfl,rfl,rfl,k,G,hn⟩⟩:=lp
 .exact⟨true,by simp[e0,l1,q1,Z,l2,l3,q2,U,c2,a3,e],by simp;exact⟨Z,U,hz,G⟩⟩
 .exact⟨false,by simp[e0,l1,q1,Z,l2,l3,q2,U,c2,a3,e],by simp;exact λh=>hn (h.r k G)⟩
def ajs{x:Int}{r:X2}(G:0<=x)(h:x<r.length):Du r x∈r:=by
 have Z:x.toNat<r.length:=by lia
 have:r[x.toNat]?=some (Du r x):=by simp[Du,List.getD,Z]
 exact aq this
theorem Sets.led(S:Sets es zs acts):∀{w:Y3}{x:Int},Way es w->0<=x->x<Du zs (yz es w)->Led acts w x
 |[],_,W,_,_=>absurd rfl W.ne
 |[k],x,W,h0,h=>by
  have G:=W.lt k (by simp);have r:=S.r k G;have Z:x<Du zs (at_ es k).1:=h
  exact⟨by have:=S.a;lia,h0,by rw[r.1];exact Z,trivial⟩
 |a::b::r,x,W,h0,h=>by
  have G:=W.lt a (by simp);have q:=S.r a G;have Z:x<Du zs (at_ es a).1:=h
  have U:x<(uy acts a).length:=by rw[q.1];exact Z
  have m:=q.2 _ (ajs h0 U);have R:Way es (b::r):=⟨by simp,λi hi=>W.lt i (bu _ hi),W.ch.2⟩;exact⟨by have:=S.a;lia,h0,U,S.led R m.1 (by
   have e:yz es (b::r)=(at_ es a).2:=W.ch.1.symm;rw[e];exact m.2)⟩
def Sets.size(S:Sets es zs acts)(W:Way es w):Du zs (yz es w)=((uy acts (hw w)).length:Int):=(S.r _ W.Aw).1.symm
def Hl(Z:List (List Int))(n:Nat)(a b:Y3):Bool:=(List.range n).all λx=>decide (gone Z a x=gone Z b x)
def abb{n:Nat}(hm:2<=m)(S:Sets es zs acts)(B:Lf es a b)(Z:Du zs (yz es a)=(n:Int))(hl:n<=1000):prog.call m 18 [Bx acts,.int n,dm a,dm b] M=.ok (.bl (Hl acts n a b)) M:=by
 rw[call_of (bf (by decide) hm) rfl];have c:Ia.den (PW (m-1)) [some (Bx acts),some (.int n),some (dm a),some (dm b)] M=.ok (.vl ((List.range n).map λ(x:Nat)=>.bl (decide (gone acts a x=gone acts b x)))) M:=by
  unfold Ia;rw[Ig (n:=n) (M1:=M) (g:=λ(x:Nat)=>.bl (decide (gone acts a x=gone acts b x))) rfl (by lia) (λi hi=>⟨_,rfl,by
   have G:=afz (m:=m-1) (M:=M) (by lia) (S.led (x:=(i:Int)) B.one (by lia) (by rw[Z];lia));have U:=afz (m:=m-1) (M:=M) (by lia) (S.led (x:=(i:Int)) B.two (by lia) (by rw[<- B.st,Z];lia));simp[G,U]⟩)]
  rfl
 have R:=Qu (M:=M) (λx:Nat=>decide (gone acts a x=gone acts b x)) (List.range n);simp only[Fn.run,Qo,Qn];simp[c,R,Hl]
theorem Vd:∀l:List Int,Th (l.map D.int)=some l
 |[]=>rfl|x::l=>by simp[Th,Vd l]
def Tv{r:X2}(h:r.length<31):qw .Gj [j0 r] M=.ok (.int ((Bc r).length:Nat)) M:=by show Res.qi ((Th (r.map D.int)).bind λis=>if is.length<31 then some (D.int (Bc is).length) else none) M=_;rw[Vd,Option.bind_some,di h];rfl
def W8(U:List Ar)(G:X2)(Z:List (List Int)):Gn->Bool
 |.same a b=>Hl Z (Du G (yz U a)).toNat a b|.apart k=>decide ((Bc (uy Z k)).length=(uy Z k).length)
def Ve(S:Sets es zs acts)(G:k<es.length):uy acts k∈acts:=by
 have Z:k<acts.length:=by rw[S.a];exact G
 have e:acts[k]?=some (uy acts k):=by simp[uy,List.getD,Z]
 exact aq e
def Qv(S:Sets es zs acts)(Z:∀r∈acts,(r:X2).length<31)(W:Way es w):Du zs (yz es w)=((Du zs (yz es w)).toNat:Int)/\(Du zs (yz es w)).toNat<=1000:=by have h:=S.size W;have q:=Z _ (Ve S W.Aw);rw[h];exact⟨by simp,by simp;lia⟩
def af1(E:Ends es V)(S:Sets es zs acts)(W:Way es w):t6 (j0 zs) (.int (yz es w:Nat)) M=some (.int (Du zs (yz es w))):=by have:=(af0 E S.n W.Aw).1;exact Gf (gj _) (by unfold yz;lia)
def at9(hm:3<=m)(E:Ends es V)(S:Sets es zs acts)(U:∀r∈acts,(r:X2).length<31)(g:Gn)(G:Gd es g) :
 prog.call m 17 [.tup (es.map aD),j0 zs,Bx acts,g.toD] M=.ok (.bl (W8 es zs acts g)) M:=by
 rw[call_of (bf (by decide) hm) rfl];simp only[Fn.run,aaw,aav];cases g with
 |same a b =>
  have B:Lf es a b:=G;obtain⟨Z,e2⟩:=Qv S U B.one;have s:=abb (m:=m-1) (M:=M) (by lia) S B Z e2;rw[<- Z] at s;have w:=Va (m:=m-1) (M:=M) (d:=.tup (es.map aD)) (by lia) rfl B.one;have ne:PySem.Str.ofString "same"≠PySem.Str.ofString "apart" := by decide
  simp[Gn.toD,ne,w,af1 E S B.one,s,W8]
 |apart k =>
  have R:k<es.length:=G
  have hl:k<acts.length:=by rw[S.a];exact R
  have lr:qw .len [j0 (uy acts k)] M=.ok (.int (uy acts k).length) M:=by simp[j0,um]
  simp[Gn.toD,Jx hl,Tv (U _ (Ve S R)),lr,W8]
  lia
def Brk(s:Yq)(G:X2)(Z:List (List Int)):Prop :=
 Sets s.es G Z/\Hl Z (Du G (yz s.es s.a)).toNat s.a s.b=false/\(s.gs.all (W8 s.es G Z))=true
def ade(hm:7<=m)(h:Fe s V)(hl:zs.length<=1000)(R:∀r∈acts,(r:X2).length<31) :
 ∃b M',prog.call m 15 [s.toD,j0 zs,Bx acts] M=.ok (.bl b) M'/\lq M M'/\(b=true↔Brk s zs acts):=by
 rw[call_of (bf (by decide) hm) rfl];obtain⟨M1,U,k1⟩:=afx (m:=m-1) (M:=M) (by lia) h;obtain⟨b,e2,hb⟩:=ajr (m:=m-1) (M:=M1) (acts:=acts) (by lia) h.E hl (λr h=>by have:=R r h;lia);simp only[Fn.run,W0,Wz];have G:∀M,t6 s.toD (.int 0) M=some (.tup (s.es.map aD)):=λM=>Fq _ _
 have t1:∀M,t6 s.toD (.int 1) M=some (.tup (s.gs.map Gn.toD)):=λM=>O5 _ _ _
 have t2:∀M,t6 s.toD (.int 2) M=some (.tup [dm s.a,dm s.b]):=λM=>aat _ _ _ _
 cases b with
 |false=>exact⟨false,M1,by simp[U,G,e2],k1,by simp;intro x;exact absurd (hb.mpr x.1) (by simp)⟩
 |true =>
  have S:=hb.mp rfl;obtain⟨n1,n2⟩:=Qv S R h.aim.one;have w:=Va (m:=m-1) (M:=M1) (d:=.tup (s.es.map aD)) (by lia) rfl h.aim.one;have z:=af1 (M:=M1) h.E S h.aim.one;have Z:=abb (m:=m-1) (M:=M1) (by lia) S h.aim n1 n2;rw[<- n1] at Z;cases q:Hl acts (Du zs (yz s.es s.a)).toNat s.a s.b with
  |true =>
   rw[q] at Z;exact⟨false,M1,by simp[U,G,t2,e2,w,z,Z],k1,by simp;intro x;exact absurd x.2.1 (by simp[q])⟩
  |false =>
   rw[q] at Z;have c:K9.den (PW (m-1)) [some s.toD,some (j0 zs),some (Bx acts),some (.int (Du zs (yz s.es s.a)))] M1=.ok (.vl (s.gs.map λg=>.bl (W8 s.es zs acts g))) M1:=by
    unfold K9;rw[Bt (d:=.tup (s.gs.map Gn.toD)) (M1:=M1) (xs:=s.gs) (f:=Gn.toD) (g:=λg=>.bl (W8 s.es zs acts g)) (by simp[t1]) rfl (by have:=h.few;lia) (λg hg=>⟨_,rfl,by
     have:=at9 (m:=m-1) (M:=M1) (by lia) h.E S R g (h.gs g hg);simp[G,this]⟩)]
    rfl
   have al:=Qu (M:=M1) (W8 s.es zs acts) s.gs;refine⟨s.gs.all (W8 s.es zs acts),M1,by simp[-List.all_eq_true,U,G,t2,e2,w,z,Z,c,al],k1,?_⟩;exact⟨λa=>⟨S,q,a⟩,λx=>x.2.2⟩
def eq_nil(Z:List D):Bb M (.vl Z) (.vl [])=some Z.isEmpty:=by
 cases Z with
 |nil=>rfl|cons a l=>rfl
abbrev EB(s:Yq)(zs:X2)(acts:List (List Int))(b6 b7 b8 b9 b10 O9 b12 Wh:Option D):Env :=
 [some s.toD,some (j0 zs),some (Bx acts),some (.tup (s.es.map aD)),some (.tup (s.gs.map Gn.toD)),some (.tup [dm s.a,dm s.b]),b6,b7,b8,b9,b10,O9,b12,Wh]
def inB(Z:X2)(e:Ar)(x:Int):Bool:=decide (0<=x)&&decide (x<Du Z e.2)
def ajt(E:Ends s.es V)(h1:zs.length=xj s.es+1)(h2:acts.length=s.es.length)(hr:∀r∈acts,(r:X2).length<31) :
 Goes (λi ρ M1=>∃b6 b7:Option D,ρ=EB s zs acts b6 b7 none none none none none none/\M1=M/\∀k,k<i->W6 s.es zs acts k) (λv M1=>v=.bl false/\M1=M/\∃k,k<s.es.length/\¬W6 s.es zs acts k) s.es.length (Ag.den W (EB s zs acts none none none none none none none none) M):=by
 unfold Ag;refine Wv (n:=s.es.length) (M1:=M) (by simp[um]) (by have:=E.few;lia) _ _ ⟨none,none,rfl,rfl,λk hk=>absurd hk (m7 _)⟩ (λi ρ M1 U hI=>?_);obtain⟨b6,b7,rfl,rfl,hk⟩:=hI;obtain⟨s1,s2⟩:=af0 E h1 U;have Z:i<acts.length:=by lia
 have z1:t6 (j0 zs) (.int ((at_ s.es i).1:Nat)) M1=some (.int (Du zs (at_ s.es i).1)):=Gf (gj _) (by lia);have z2:t6 (j0 zs) (.int ((at_ s.es i).2:Nat)) M1=some (.int (Du zs (at_ s.es i).2)):=Gf (gj _) (by lia);have lr:qw .len [j0 (uy acts i)] M1=.ok (.int (uy acts i).length) M1:=by simp[j0,um]
 have rl:(uy acts i).length<31:=hr _ (aq (i:=i) (by simp[uy,List.getD,Z]))
 have xe:=Az (M:=M1) (d:=.tup (s.es.map aD)) (es:=s.es) rfl U;have c3:Af.den W (EB s zs acts (sI i) (some (j0 (uy acts i))) none none none none none none) M1=.ok (.vl (((uy acts i).filter λx=>!inB zs (at_ s.es i) x).map D.int)) M1:=by
  unfold Af;rw[Cu (d:=j0 (uy acts i)) (M1:=M1) (xs:=uy acts i) (f:=D.int) (q:=λx=>!inB zs (at_ s.es i) x) (g:=D.int) rfl rfl (by lia) (λx R=>⟨_,rfl,by
   by_cases h:0<=x<;>simp[h,inB,xe,Mi,z2],λ_=>by simp⟩)]
  rfl
 refine⟨_,rfl,?_⟩;simp only[Dy]
 by_cases G:((uy acts i).length:Int)=Du zs (at_ s.es i).1
 case neg=>exact⟨.ret (.bl false),EB s zs acts (sI i) (some (j0 (uy acts i))) none none none none none none,M1,by simp[Jx Z,lr,xe,Dz,z1,G],.inr ⟨_,rfl,rfl,rfl,i,U,λh=>G h.1⟩⟩
 by_cases r2:((uy acts i).filter λx=>!inB zs (at_ s.es i) x)=[]
 .refine⟨.next,EB s zs acts (sI i) (some (j0 (uy acts i))) none none none none none none,M1,by simp[Jx Z,lr,xe,Dz,z1,G,c3,r2,eq_nil],.inl ⟨rfl,_,_,rfl,rfl,λk qq=>?_⟩⟩
  rcases iw k i with g|g
  .exact hk k g
  .have:k=i:=by lia
   subst this;refine⟨G,λx R=>?_⟩;have:=List.filter_eq_nil_iff.mp r2 x R;simpa[inB] using this
 .have e:(((uy acts i).filter λx=>!inB zs (at_ s.es i) x).map D.int).isEmpty=false:=by
   cases q:((uy acts i).filter λx=>!inB zs (at_ s.es i) x) with
   |nil=>exact absurd q r2|cons a l=>rfl
  refine⟨.ret (.bl false),EB s zs acts (sI i) (some (j0 (uy acts i))) none none none none none none,M1,by simp only[Wr,Bf];simp[-List.isEmpty_map,Jx Z,lr,xe,Dz,z1,G,c3,eq_nil,e],.inr ⟨_,rfl,rfl,rfl,i,U,λh=>r2 (List.filter_eq_nil_iff.mpr λx R=>by simpa[inB] using h.2 x R)⟩⟩
theorem abd:∀(l:X2)(a:Int),l.foldl (λm x=>if x<m then x else m) a<0↔a<0\/∃x∈l,x<0
 |[],a=>by simp
 |x::l,a=>by
  rw[List.foldl_cons,abd l];constructor
  .rintro(h|⟨y,Z,G⟩)
   .split at h
    .exact .inr ⟨x,bz,h⟩
    .exact .inl h
   .exact .inr ⟨y,bu _ Z,G⟩
  .rintro(h|⟨y,Z,G⟩)
   .left;split<;>lia
   .rcases cg.mp Z with rfl|Z
    .left;split<;>lia
    .exact .inr ⟨y,Z,G⟩
def af3(Z:(zs:X2)≠[]):∃v:Int,qw .min [j0 zs] M=.ok (.int v) M/\(v<0↔∃z∈zs,z<0):=by
 cases zs with
 |nil=>exact absurd rfl Z
 |cons a l =>
  refine⟨l.foldl (λm x=>if x<m then x else m) a,?_,?_⟩
  .show Res.qi (((Th ((a::l).map D.int)).bind aof).map D.int) M=_
   rw[Vd];rfl
  .rw[abd];simp
def af4(hm:1<=m){n:Nat}(S:Sets s.es zs acts)(B:Lf s.es a b)(E:Ends s.es V)(U:Du zs (yz s.es a)=(n:Int))(hl:n<=1000) :
 ∃Z,Ac.den (PW m) (EB s zs acts b6 b7 b8 (some (dm a)) (some (dm b)) (some (.bl true)) b12 Wh) M=.ok (.next,EB s zs acts b6 b7 b8 (some (dm a)) (some (dm b)) (some (.bl (Hl acts n a b))) Z Wh) M:=by
 unfold Ac;have xe:=Az (M:=M) (d:=.tup (s.es.map aD)) (es:=s.es) rfl B.one.Aw;have z:=af1 (M:=M) E S B.one;obtain⟨qq,G,e,Z,rfl,rfl⟩:=yx (W:=PW m) (n:=n) (M1:=M) (t:=.name 12) (b:=Ab) (ρ:=EB s zs acts b6 b7 b8 (some (dm a)) (some (dm b)) (some (.bl true)) b12 Wh) (M:=M)
  (it:=.ix (.v 1) (.ix (.ix (.v 3) (.ix (.v 9) (.i 0))) (.i 0))) (by
   have r0:=Hj (M:=M) B.one;have z':t6 (j0 zs) (.int ((at_ s.es (hw a)).1:Nat)) M=some (.int n):=by rw[<- U];exact z
   simp[r0,xe,Dz,z']) (by lia)
  (λi R G=>∃Z:Option D,R=EB s zs acts b6 b7 b8 (some (dm a)) (some (dm b)) (some (.bl (Hl acts i a b))) Z Wh/\G=M) ⟨b12,rfl,rfl⟩ (λi R G hi hI=>by
   obtain⟨Z,rfl,rfl⟩:=hI;have l1:=aa8 (m:=m) (M:=G) hm (S.led (x:=(i:Int)) B.one (by lia) (by rw[U];lia));have l2:=aa8 (m:=m) (M:=G) hm (S.led (x:=(i:Int)) B.two (by lia) (by rw[<- B.st,U];lia));refine⟨_,.next,EB s zs acts b6 b7 b8 (some (dm a)) (some (dm b)) (some (.bl (Hl acts (i+1) a b))) (sI i) Wh,G,rfl,?_,.inl rfl,_,rfl,rfl⟩;have e:Hl acts (i+1) a b=(Hl acts i a b&&decide (gone acts a i=gone acts b i)):=by simp[Hl,v7]
   rw[e];simp only[Ab];cases q:Hl acts i a b<;>simp[l1,l2])
 exact⟨Z,e⟩
noncomputable def Ry:Gn->Bool
 |.same _ _=>true|.apart _=>false
noncomputable def pr:Gn->List Nat×List Nat
 |.same a b=>(a,b)|.apart _=>([],[])
def pD(p:List Nat×List Nat):D:=.tup [dm p.1,dm p.2]
def Yq.ps(s:Yq):List (List Nat×List Nat):=(s.gs.filter Ry).map pr++[(s.a,s.b)]
def smB(U:List Ar)(G:X2)(Z:List (List Int))(p:List Nat×List Nat):Bool:=Hl Z (Du G (yz U p.1)).toNat p.1 p.2
def Vf:PySem.Str.ofString "apart"≠PySem.Str.ofString "same" := by decide
def aua(Z:s.gs.length<=8)(U:Wh=none):yd.den W (EB s zs acts b6 b7 b8 b9 b10 O9 b12 Wh) M=.ok (.vl (((s.gs.filter Ry).map pr).map pD)) M:=by
 unfold yd;rw[Cu (d:=.tup (s.gs.map Gn.toD)) (M1:=M) (xs:=s.gs) (f:=Gn.toD) (q:=Ry) (g:=λg=>pD (pr g)) rfl rfl (by lia) (λg G=>⟨_,rfl,by
  cases g<;>simp[Gn.toD,Ry,Vf],λh=>by
  cases g with
  | same a b=>simp[Gn.toD,pr,pD,Ai,Dg,clip]|apart k=>cases h⟩)]
 simp[ik,gf]
def aub(Z:s.gs.length<=8)(S:Sets s.es zs acts)(hr:∀r∈acts,(r:X2).length<31)(R:∀g∈s.gs,Gd s.es g):Aa.den W (EB s zs acts b6 b7 b8 b9 b10 O9 b12 Wh) M=.ok (.vl ((s.gs.filter λg=>!Ry g).map λg=>.bl (W8 s.es zs acts g))) M:=by
 unfold Aa;rw[Cu (d:=.tup (s.gs.map Gn.toD)) (M1:=M) (xs:=s.gs) (f:=Gn.toD) (q:=λg=>!Ry g) (g:=λg=>.bl (W8 s.es zs acts g)) rfl rfl (by lia) (λg U=>⟨_,rfl,by
  cases g<;>simp[Gn.toD,Ry,Vf.symm],λh=>by
  cases g with
  |same a b=>cases h
  |apart k =>
   have G:k<s.es.length:=R _ U
   have Z:k<acts.length:=by rw[S.a];exact G
   have lr:qw .len [j0 (uy acts k)] M=.ok (.int (uy acts k).length) M:=by simp[j0,um]
   simp[Gn.toD,Jx Z,Tv (hr _ (Ve S G)),lr,W8]
   lia⟩)]
 rfl
def ao2(h:Fe s V):∀p∈s.ps,Lf s.es p.1 p.2:=by
 intro p R;rcases bh.mp R with h1|h1
 .obtain⟨g,G,rfl⟩:=dh.mp h1
  obtain⟨Z,U⟩:=n8.mp G;have:=h.gs g Z;cases g with
  |same a b=>exact this|apart k=>cases U
 .simp at h1;subst h1;exact h.aim
def aju(hm:1<=m)(h:Fe s V)(S:Sets s.es zs acts)(hr:∀r∈acts,(r:X2).length<31)(hq:M[q]?=some (.lst [])) :
 ∃R U G Z M',Ae.den (PW m) (EB s zs acts b6 b7 (sR q) none none none none none) M=.ok (.next,EB s zs acts b6 b7 (sR q) R U G Z none) M'/\M'[q]?=some (.lst (s.ps.map λp=>.bl (smB s.es zs acts p)))/\Fb q M M':=by
 unfold Ae;have pl:s.ps.length<=9:=by have a:=jm Ry s.gs;have b:=h.few;simp[Yq.ps];lia
 have it:(Ex.bin .add yd (.Df (.o (.v 5)))).den (PW m) (EB s zs acts b6 b7 (sR q) none none none none none) M=.ok (.vl (s.ps.map pD)) M:=by have a:=jm Ry s.gs;have b:=h.few;have c:=aua (W:=PW m) (zs:=zs) (acts:=acts) (b6:=b6) (b7:=b7) (b8:=sR q) (b9:=none) (b10:=none) (O9:=none) (b12:=none) (Wh:=none) (M:=M) h.few rfl;simp only[Ux,c,Res.nu,Jh,zb,Be];rw[show(Ex.v 5).den (PW m) (EB s zs acts b6 b7 (sR q) none none none none none) M=.ok (.tup [dm s.a,dm s.b]) M from rfl];simp only[Res.nu];rw[Eg _ _ (by simp;lia)];simp[Yq.ps,pD]
 obtain⟨qk,M',e,R,U,G,Z,rfl,g1,g2⟩:=uo (W:=PW m) (t:=.names [9,10]) (b:=Ad) it (ds:=s.ps.map pD) rfl
  (λi ρ M1=>∃R U G Z:Option D,ρ=EB s zs acts b6 b7 (sR q) R U G Z none/\M1[q]?=some (.lst ((s.ps.take i).map λp=>.bl (smB s.es zs acts p)))/\Fb q M M1)
  ⟨none,none,none,none,rfl,by simpa using hq,Fb.refl q M⟩ (λ_ _ _ _=>rfl) (λi x ρ M1 hx hI=>by
   obtain⟨R,U,G,Z,rfl,g1,g2⟩:=hI;obtain⟨p,hp,rfl⟩:∃p,s.ps[i]?=some p/\pD p=x:=by simpa using hx
   have B:=ao2 h p (aq hp);obtain⟨n1,n2⟩:=Qv S hr B.one;obtain⟨qq,e1⟩:=af4 (m:=m) (M:=M1) (b6:=b6) (b7:=b7) (b8:=sR q) (b12:=Z) (Wh:=none) hm S B h.E n1 n2;have qv:=(ak.mp hp).1;have tl:((s.ps.take i).map λp=>D.bl (smB s.es zs acts p)).length<100000:=by simp;lia
   refine⟨_,.next,EB s zs acts b6 b7 (sR q) (some (dm p.1)) (some (dm p.2)) (some (.bl (smB s.es zs acts p))) qq none,M1.set q (.lst ((s.ps.take i).map (λp=>D.bl (smB s.es zs acts p))++[.bl (smB s.es zs acts p)])),rfl,?_,.inl rfl,_,_,_,_,rfl,?_,g2.trans (Fb.set q M1 _)⟩
   .simp only[Ad]
    simp only[Bf,Qc,Fo,Res.nu,Qd,K6,Res.m8,Bg,Ws,Y4];rw[show((EB s zs acts b6 b7 (sR q) R U G Z none).set 9 (some (dm p.1))).set 10 (some (dm p.2))=EB s zs acts b6 b7 (sR q) (some (dm p.1)) (some (dm p.2)) G Z none from rfl];rw[show(EB s zs acts b6 b7 (sR q) (some (dm p.1)) (some (dm p.2)) G Z none).set 11 (some (.bl true))=EB s zs acts b6 b7 (sR q) (some (dm p.1)) (some (dm p.2)) (some (.bl true)) Z none from rfl,e1];simp[Dp g1,Al g1 tl,smB]
   .rw[nq g1,rm,hp];simp)
 refine⟨R,U,G,Z,M',e,?_,g2⟩;simpa using g1
theorem af5(M:dg)(g:Bool):∀bs:List Bool,Ot M (.bl g) (bs.map D.bl)=some (bs.map (·==g))
 |[]=>rfl|b::bs=>by simp only[d8,Ot,atz,af5 M g bs]
def auc(M:dg)(bs:List Bool):R9 M (.bl false) (.vl (bs.map D.bl))=some (!bs.all id):=by
 show memD M (.bl false) (bs.map D.bl)=_;rw[memD,af5,ou]
 congr 1
 induction bs with
 |nil=>rfl|cons b bs Z=>cases b<;>simp_all
def Qw(xs:List D)(y:D):Dg (xs++[y]) none (some (-1))=xs:=by
 have h:(-1+((xs.length:Int)+1)).toNat=xs.length:=by lia
 simp only[Dg,clip,jj,gm,List.length_nil];rw[fj (by decide)];simp[h]
def af6(h:M[q]?=some (.lst (Z++[y]))):t6 (.ref q) (.int (-1)) M=some y:=by
 have e:Ln (Z++[y]).length (-1)=some Z.length:=by
  have G:-((Z++[y]).length:Int)<=-1:=by simp;lia
  have U:(-1+((Z++[y]).length:Int)).toNat=Z.length:=by simp;lia
  rw[Ln,fj (by decide),di G,U]
 have a:jl M (.ref q)=some (Z++[y]):=Bh (gq h);simp only[t6,a,e,Option.bind_some];simp
def ao3(hm:2<=m)(h:Fe s V)(hl:zs.length<=1000)(hr:∀r∈acts,(r:X2).length<31) :
 ∃b M',prog.call m 28 [s.toD,j0 zs,Bx acts] M=.ok (.bl b) M'/\lq M M'/\(b=true↔Brk s zs acts):=by
 rw[call_of (bf (by decide) hm) rfl];have hn:s.es≠[]:=jt h.E.pos;have c4:ye.den (PW (m-1)) (EB s zs acts none none none none none none none none) M=.ok (.vl ((s.es.map mx).map nD)) M:=Vb (v:=3) rfl rfl rfl h.E.few;have tp:=Vc (M:=M) hn;have l1:qw .len [j0 zs] M=.ok (.int zs.length) M:=by simp[j0,um]
 have l2:qw .len [Bx acts] M=.ok (.int acts.length) M:=by simp[Bx,um]
 have l3:qw .len [.tup (s.es.map aD)] M=.ok (.int s.es.length) M:=by simp[um]
 have q1:((zs.length:Int)=1+(xj s.es:Int))↔zs.length=xj s.es+1:=by lia
 have q2:((acts.length:Int)=(s.es.length:Int))↔acts.length=s.es.length:=by lia
 have as:(yt.asg (.tg (.names [3,4,5])) (.v 0)).den (PW (m-1)) (some s.toD::some (j0 zs)::some (Bx acts)::List.replicate 11 none) M=.ok (.next,EB s zs acts none none none none none none none none) M:=rfl;simp only[Fn.run,Gb,Ga];simp only[gm,List.length_nil,iu,d8,vg,List.cons_append,uz,Bf];rw[show(14-3:Nat)=11 from rfl,as];simp only[Bg,Bf]
 by_cases h1:zs.length=xj s.es+1
 case neg=>exact⟨false,M,by simp[-List.map_map,l1,c4,tp,q1,h1],lq.refl M,by simp;exact λx=>h1 x.1.n⟩
 have qq:=q1.mpr h1
 by_cases h2:acts.length=s.es.length
 case neg=>exact⟨false,M,by simp[-List.map_map,l1,c4,tp,qq,l2,l3,q2,h2],lq.refl M,by simp;exact λx=>h2 x.1.a⟩
 obtain⟨v,mn,hv⟩:=af3 (M:=M) (zs:=zs) (jt (by lia))
 by_cases h3:v<0
 case pos =>
  obtain⟨z,z1,z2⟩:=hv.mp h3;exact⟨false,M,by simp[-List.map_map,l1,c4,tp,qq,l2,l3,q2,h2,mn,h3],lq.refl M,by simp;exact λx=>by have:=x.1.z z z1;lia⟩
 have hz:∀z∈zs,0<=z:=λz hz=>Int.not_lt.mp λg=>h3 (hv.mpr ⟨z,hz,g⟩)
 have qv:(Ex.or (.cmp .ne (.l (.v 1)) (.bin .add (.i 1) (.blt .max (.o ye)))) (.or (.cmp .ne (.l (.v 2)) (.l (.v 3))) (.cmp .lt (.blt .min (.o (.v 1))) (.i 0)))).den (PW (m-1)) (EB s zs acts none none none none none none none none) M=.ok (.bl false) M:=by simp[-List.map_map,l1,c4,tp,qq,l2,l3,q2,h2,mn,h3]
 rw[show(yt.f (Ex.or (.cmp .ne (.l (.v 1)) (.bin .add (.i 1) (.blt .max (.o ye)))) (.or (.cmp .ne (.l (.v 2)) (.l (.v 3))) (.cmp .lt (.blt .min (.o (.v 1))) (.i 0)))) (.o (.ret (.cst (.bl false))))).den (PW (m-1)) (EB s zs acts none none none none none none none none) M=.ok (.next,EB s zs acts none none none none none none none none) M by rw[Wr,qv];rfl];simp only[Bg,Bf];obtain⟨fl,q4,Z,e,⟨rfl,b6,b7,rfl,rfl,hk⟩|⟨v,rfl,rfl,rfl,k,hk,hn⟩⟩:=ajt (M:=M) (W:=PW (m-1)) (s:=s) h.E h1 h2 hr
 case inr=>exact⟨false,Z,by rw[e];simp,lq.refl Z,by simp;exact λx=>hn (x.1.r k hk)⟩
 have S:Sets s.es zs acts:=⟨h1,h2,hz,hk⟩;obtain⟨c9,Vg,q3,q0,M2,e2,g1,g2⟩:=aju (m:=m-1) (M:=Z++[.lst []]) (q:=Z.length) (b6:=b6) (b7:=b7) (by lia) h S hr wu;have c1:=aub (W:=PW (m-1)) (b6:=b6) (b7:=b7) (b8:=sR Z.length) (b9:=c9) (b10:=Vg) (O9:=q3) (b12:=q0) (Wh:=none) (M:=M2) h.few S hr h.gs;have al:(yt.a 8 (.lst .z)).den (PW (m-1)) (EB s zs acts b6 b7 none none none none none none) Z=.ok (.next,EB s zs acts b6 b7 (sR Z.length) none none none none none) (Z++[.lst []]):=rfl;rw[e];simp only[Bg,Bf];rw[al];simp only[Bg,Bf];rw[e2];simp only[Bg,Bf,Qc,c1,Res.nu,Qd,K6,Res.m8];obtain⟨G,hx⟩:∃G:List Bool,G=((s.gs.filter Ry).map pr).map (smB s.es zs acts):=⟨_,rfl⟩;obtain⟨R,hy⟩:∃R:List Bool,R=(s.gs.filter λg=>!Ry g).map (W8 s.es zs acts):=⟨_,rfl⟩;obtain⟨y,qk⟩:∃y:Bool,y=smB s.es zs acts (s.a,s.b):=⟨_,rfl⟩;have e3:(s.ps.map λp=>D.bl (smB s.es zs acts p))=G.map D.bl++[D.bl y]:=by simp[Yq.ps,hx,qk,ik,gf]
 have e4:((s.gs.filter λg=>!Ry g).map λg=>D.bl (W8 s.es zs acts g))=R.map D.bl:=by simp[hy,ik,gf]
 rw[e3] at g1;rw[e4];have lx:G.length<=8:=by have:=jm Ry s.gs;have:=h.few;simp[hx];lia
 have ly:R.length<=8:=by have:=jm (λg=>!Ry g) s.gs;have:=h.few;simp[hy];lia
 have cu:Ai (.ref Z.length) none (some (-1)) M2=some (.vl (G.map D.bl)):=by show(dw M2 (.ref Z.length)).map _=_;rw[gq g1,ou,Qw]
 have il:=af6 g1;have ad:=Eg (M:=M2) (R.map D.bl) (G.map D.bl) (by simp;lia);rw[<- jh] at ad;have U:=auc M2 (R++G);refine⟨(R++G).all id&&!y,M2,?_,?_,?_⟩
 .cases q:(R++G).all id with
  |true=>rw[q] at U;simp[-List.map_append,cu,il,ad,U]|false=>rw[q] at U;simp[-List.map_append,cu,il,ad,U]
 .intro a o ha
  exact g2 a o (gh (qd ha)) (u6 ha)
 .rw[ao,List.all_append,ao]
  have sp:∀gs:List Gn,(gs.all (W8 s.es zs acts)=true)↔(((gs.filter λg=>!Ry g).map (W8 s.es zs acts)).all id=true/\(((gs.filter Ry).map pr).map (smB s.es zs acts)).all id=true):=by
   intro gs
   induction gs with
   |nil=>simp
   |cons g gs ih =>
    rw[List.all_cons,ao,ih];cases g with
    |same a b =>
     simp only[List.filter_cons,Ry,vo,du,ig,iu,d8,List.all_cons,pr,smB,W8,id,ao];constructor
     .rintro⟨a,b,c⟩;exact⟨b,a,c⟩
     .rintro⟨a,b,c⟩;exact⟨b,a,c⟩
    |apart k =>
     simp only[List.filter_cons,Ry,Bool.not_false,du,ig,iu,d8,List.all_cons,W8,id,ao];constructor
     .rintro⟨a,b,c⟩;exact⟨⟨a,b⟩,c⟩
     .rintro⟨⟨a,b⟩,c⟩;exact⟨a,b,c⟩
  have:=sp s.gs;rw[<- hy,<- hx] at this;rw[<- this];constructor
  .rintro⟨a,b⟩
   exact⟨S,by rw[qk] at b;simpa[smB] using b,a⟩
  .rintro⟨_,b,a⟩
   exact⟨a,by rw[qk];simpa[smB] using b⟩
theorem Vh:∀(l:Y3)(a:Nat),a<n->(∀x∈l,x<n)->Sh l a<n
 |[],a,h,_=>h
 |x::l,a,h,hl=>by
  show Sh l (if a<x then x else a)<n
  exact Vh l _ (by have:=hl x bz;split<;>lia) (λy Z=>hl y (bu _ Z))
def aud(w:Y3):dm w=j0 (w.map λ(x:Nat)=>(x:Int)):=by simp[dm,j0,nD,ik,gf]
theorem U8.get:∀{w:Y3}{i:Nat},U8 es w->w[i]?=some a->w[i+1]?=some b->(at_ es a).2=(at_ es b).1
 |[],_,_,h,_=>by simp at h|[_],i,_,_,h=>by simp at h|x::y::r,0,c,h1,h2=>by simp at h1 h2;subst h1 h2;exact c.1|x::y::r,i+1,c,h1,h2=>U8.get (w:=y::r) (i:=i) c.2 (by simpa using h1) (by simpa using h2)
def af7(hm:1<=m)(U:jl M d=some (es.map aD))(W:Way es w)(wl:w.length<=60):prog.call m 23 [d,dm w] M=.ok (aD (yz es w,xg es w)) M:=by
 rw[call_of hm rfl];have Ow:1<=w.length:=jn.mpr W.ne
 have l1:qw .len [dm w] M=.ok (.int w.length) M:=by simp[dm,um]
 obtain⟨v,mn,hv⟩:=af3 (M:=M) (zs:=w.map λ(x:Nat)=>(x:Int)) (by simpa using W.ne);rw[<- aud] at mn;have v0:¬v<0:=λh=>by
  obtain⟨z,h1,h2⟩:=hv.mp h;obtain⟨x,_,rfl⟩:=dh.mp h1
  lia
 obtain⟨t,R,ht⟩:∃t:Nat,qw .max [dm w] M=.ok (.int t) M/\t<es.length:=by
  cases w with
  |nil=>exact absurd rfl W.ne|cons a l=>exact⟨Sh l a,Qt M rfl,Vh l a (W.lt a (by simp)) λx hx=>W.lt x (bu _ hx)⟩
 have le:=Kg U;rw[bx] at le;have t1:¬(es.length:Int)<=t:=by lia
 have n0:¬(w.length:Int)=0:=by lia
 have lp:∃Z:Option D,Cd.den (PW (m-1)) [some d,some (dm w),none] M=.ok (.next,[some d,some (dm w),Z]) M:=by
  unfold Cd;obtain⟨qq,G,e,Z,rfl,rfl⟩:=yx (W:=PW (m-1)) (n:=w.length-1) (M1:=M) (t:=.name 2) (b:=Ca) (ρ:=[some d,dm w,none]) (M:=M) (it:=.bin .sub (.l (.v 1)) (.i 1)) (by
   have:(w.length:Int)-1=((w.length-1:Nat):Int):=by lia
   simp[l1,this]) (by lia) (λ_ ρ G=>∃Z:Option D,ρ=[some d,some (dm w),Z]/\G=M) ⟨none,rfl,rfl⟩ (λi ρ G hi hI=>by
   obtain⟨Z,rfl,rfl⟩:=hI;obtain⟨a,ha⟩:∃a,w[i]?=some a:=⟨_,dz (by lia)⟩;obtain⟨b,hb⟩:∃b,w[i+1]?=some b:=⟨_,dz (by lia)⟩;have x1:=afp (M:=G) ha;have ei:((i:Int)+1)=((i+1:Nat):Int):=by lia
   have x2:t6 (dm w) (.int ((i:Int)+1)) G=some (.int (b:Nat)):=by rw[ei];exact afp hb
   have y1:=Az U (W.lt a (aq ha));have y2:=Az U (W.lt b (aq hb));have c:=W.ch.get ha hb;refine⟨_,.next,[some d,some (dm w),sI i],G,rfl,?_,.inl rfl,_,rfl,rfl⟩;simp only[Ca];simp[x1,x2,y1,y2,Dz,Mi,c])
  exact⟨Z,e⟩
 obtain⟨Z,e⟩:=lp;simp only[Fn.run,Jr,Jq];simp[l1,mn,v0,R,le,t1,n0,e,Hj W,Hi W,Az U W.Aw,Az U W.Ke,Dz,Mi,W.ne];simp[aD,yz,xg]
def af8(r:X2)(n:Nat):Ai (j0 r) none (some (n:Int)) M=some (j0 (r.take n)):=by
 have:Dg (r.map D.int) none (some (n:Int))=(r.take n).map D.int:=by
  simp only[Dg,clip,bx,List.drop_zero,Nat.sub_zero];rw[di (by lia),j7,<- List.map_take]
  congr 1
  rcases Nat.le_total n r.length with h|h
  .rw[v9 h]
  .rw[Nat.min_eq_right h,q8,pq h]
 show some (D.tup (Dg (r.map D.int) none (some (n:Int))))=_;rw[this];rfl
def Qx(r:X2)(n:Nat):Ai (j0 r) (some (n:Int)) none M=some (j0 (r.drop n)):=by
 have:Dg (r.map D.int) (some (n:Int)) none=(r.drop n).map D.int:=by
  simp only[Dg,clip,bx];rw[di (by lia),j7,<- List.map_drop,<- List.map_take]
  congr 1
  rw[pq (by simp)];rcases Nat.le_total n r.length with h|h
  .rw[v9 h]
  .rw[Nat.min_eq_right h,List.drop_length,List.drop_of_length_le h]
 show some (D.tup (Dg (r.map D.int) (some (n:Int)) none))=_;rw[this];rfl
def Pa(a b:X2)(h:a.length+b.length<=100000):yu .add (j0 a) (j0 b) M=.ok (j0 (a++b)) M:=by rw[j0,j0,Hg _ _ (by simpa using h)];simp[j0]
def add_one(a:X2)(x:Int)(h:a.length<=1000):yu .add (j0 a) (.tup [.int x]) M=.ok (j0 (a++[x])) M :=
 Pa a [x] (by simp;lia)
def ajv(hm:2<=m)(hs:W2 t f M)(hr:r.length<=100):∃(r':X2)(M':dg),prog.call m 31 [.ref t,j0 r] M=.ok (j0 r') M'/\r'.length<=r.length+1/\St t f M M':=by
 rw[call_of (bf (by decide) hm) rfl];obtain⟨Z,M1,e1,_,s1,_⟩:=uq (m:=m-1) (many:=4) (by lia) hs (by decide) (by decide);obtain⟨n,M2,e2,hn,s2,_⟩:=uq (m:=m-1) (many:=1+r.length) (by lia) s1.has (by lia) (by lia);obtain⟨v,M3,e3,hv,s3,_⟩:=uq (m:=m-1) (many:=5) (by lia) s2.has (by decide) (by decide);have lr:qw .len [j0 r] M1=.ok (.int r.length) M1:=by simp[j0,um]
 have tl:(r.take n).length<=r.length:=by simp;lia
 have d0:(r.drop n).length<=r.length-n:=by simp
 have dl:(r.drop (n+1)).length<=r.length-(n+1):=by simp
 have ei:((n:Int)+1)=((n+1:Nat):Int):=by lia
 have f1:∀M,Ai (j0 r) (some ((n:Int)+1)) none M=some (j0 (r.drop (n+1))):=λM=>by rw[ei];exact Qx r (n+1)
 have ad:∀(x:Int)(b:X2),b.length<=r.length->yu .add (j0 (r.take n++[x])) (j0 b) M2=.ok (j0 (r.take n++[x]++b)) M2:=λx b hb=>Pa _ _ (by simp;lia)
 have a0:=Pa (M:=M2) (r.take n) (r.drop (n+1)) (by lia);have a1:∀x:Int,yu .add (j0 (r.take n)) (.tup [.int x]) M2=.ok (j0 (r.take n++[x])) M2:=λx=>add_one _ x (by lia)
 obtain⟨L,R⟩:∃L:List (List Int),L=[r.take n++r.drop (n+1),r.take n++[(Z:Int)]++r.drop n,r.take n++[-1-(Z:Int)]++r.drop (n+1),r.take n++[(Z:Int)]++r.drop (n+1),r.take n++[2+(Z:Int)]++r.drop (n+1)]:=⟨_,rfl⟩;have h5:L.length=5:=by rw[R];rfl
 obtain⟨r',G⟩:∃r',L[v]?=some r':=⟨_,dz (by lia)⟩;have ll:∀x∈L,x.length<=r.length+1:=by
  rw[R];intro x hx;have qq:n<=r.length:=by lia
  simp only[cg,qb,or_false] at hx;rcases hx with rfl|rfl|rfl|rfl|rfl<;>simp<;>lia
 have U:t6 (.vl (L.map j0)) (.int v) M3=some (j0 r'):=w5 rfl (by lia) (by simp[G]);rw[R] at U;refine⟨r',M3,?_,ll r' (aq G),(s1.trans s2).trans s3⟩;simp only[Fn.run,Iz,Iw];simp[-List.append_assoc,e1,lr,e2,af8,Qx,f1,a0,a1,ad _ _ (show(r.drop (n+1)).length<=r.length by lia),ad _ _ (show(r.drop n).length<=r.length by lia),Eg];rw[e3];simp only[d8,vg] at U;simp only[Res.nu,U,Res.m8];rfl
structure Sp where
 a:List Nat
 b:List Nat
 y:D
def Sp.toD(s:Sp):D:=.tup [dm s.a,dm s.b,s.y]
def Sp.of(s:Sp)(h t:Y3):Prop:=s.a=h/\s.b=t\/s.b=h/\s.a=t
inductive Qy(ss:List Sp)(a:Y3):List Nat->Prop
 |refl:Qy ss a a
 |step:Qy ss a b->s∈ss->s.of b c->Qy ss a c
theorem Vi{U:Type}[DecidableEq U]:∀{f S:List U},f.Nodup->(∀p∈f,p∈S)->f.length<=S.length
 |[],S,_,_=>gn _
 |a::f,S,nd,h=>by
  have Z:=kh.mp nd;have G:=h a bz;have:=Vi (f:=f) (S:=S.erase a) Z.2 (λp R=>(vf (λ(e:p=a)=>Z.1 (e▸R))).mpr (h p (bu _ R)));rw[List.length_erase_of_mem G] at this;have:=uw G;simp only[gm];lia
structure Rch(ss:List Sp)(a:Y3)(ws r:List (List Nat)):Prop where
 hd:a∈r
 nd:r.Nodup
 sub:∀x∈r,x∈a::ws
 tog:∀x∈r,Qy ss a x
noncomputable def gr(x h t:Y3)(r:List (List Nat)):List (List Nat):=if h=x/\t∉r then r++[t] else r
def af9(x h t:Y3)(r:List (List Nat)):∃l,gr x h t r=r++l:=by
 unfold gr;split
 .exact⟨_,rfl⟩
 .exact⟨[],by simp⟩
def aga(r:List (List Nat)):x∈r->(h=x->t∈gr x h t r):=λ_ e=>by
 unfold gr
 by_cases q:t∈r
 .simp[q]
 .simp[q,e]
theorem Rch.gr(R:Rch ss a G r)(hx:x∈r)(hs:s∈ss)(ho:s.of h t)(hw:t∈G):Rch ss a G (gr x h t r):=by
 unfold K73.gr;split
 .next q =>
  obtain⟨rfl,q⟩:=q;refine⟨ie _ R.hd,my.mpr ⟨R.nd,by simp,λu Z v U=>?_⟩,λu Z=>?_,λu Z=>?_⟩
  .simp at U;subst U;exact λe=>q (e▸Z)
  .rcases bh.mp Z with h|h
   .exact R.sub u h
   .simp at h;subst h;exact bu _ hw
  .rcases bh.mp Z with h|h
   .exact R.tog u h
   .simp at h;subst h;exact .step (R.tog _ hx) hs ho
 .exact R
def Rch.len(R:Rch ss a Z r)(hw:Z.length<=60):r.length<=61:=by have:=Vi R.nd R.sub;simp at this;lia
def Y9(h:M[p]?=some (.lst xs)):R9 M a (.ref p)=memD M a xs:=by simp[R9,h,jl,dw]
def Fb.get(k:Fb r M Z)(G:a≠r)(h:M[a]?=some o):Z[a]?=some o:=k a o G h
abbrev ET(d:D)(a b:Y3)(p i:Nat)(b5 b6 b7:Option D):Env:=[some d,some (dm a),some (dm b),sR p,sI i,b5,b6,b7]
def tg2{r:List (List Nat)}(Z:M[p]?=some (.lst (r.map dm)))(hx:r[i]?=some x)(hl:r.length<=61) :
 ∃M',w6.den (PW m) (ET d a b p i b5 (some (dm h)) (some (dm t))) M=.ok (.next,ET d a b p i b5 (some (dm h)) (some (dm t))) M'/\M'[p]?=some (.lst ((gr x h t r).map dm))/\Fb p M M':=by
 have R:t6 (.ref p) (.int i) M=some (dm x):=w5 (gq Z) (gj _) (by simp[hx]);have x1:=Y9 (a:=dm t) Z;rw[U7] at x1
 by_cases G:h=x
 .by_cases U:t∈r
  .exact⟨M,by simp[w6,R,La,G,x1,U],by simp[gr,U,Z],Fb.refl _ _⟩
  .refine⟨M.set p (.lst ((r++[t]).map dm)),?_,by simp only[gr,G,U,true_and,not_false_eq_true,iu];exact nq Z,Fb.set _ _ _⟩
   simp[w6,R,La,G,x1,U,Dp Z,Al Z (d:=dm t) (by simp;lia)]
 .exact⟨M,by simp[w6,R,La,G],by simp[gr,G,Z],Fb.refl _ _⟩
def Cls(Z:List Sp)(x:Y3)(r:List (List Nat)):Prop:=∀s∈Z,∀t,s.of x t->t∈r
def tg1{r:List (List Nat)}(hd:dw M d=some (ss.map Sp.toD))(hq:Nb p d=true)(hs:∀s∈ss,s.a∈ws/\s.b∈ws)(hw:ws.length<=60)(hp:M[p]?=some (.lst (r.map dm)))(hx:r[i]?=some x)(R:Rch ss a ws r) :
 ∃Ja U Z l M',Bq.den (PW m) (ET d a b p i b5 b6 b7) M=.ok (.next,ET d a b p i Ja U Z) M'/\M'[p]?=some (.lst ((r++l).map dm))/\Fb p M M'/\Rch ss a ws (r++l)/\Cls ss x (r++l):=by
 unfold Bq;obtain⟨qq,M',e,Ja,U,Z,l,rfl,g1,g2,g3,g4⟩:=uo (W:=PW m) (it:=.v 0) (t:=.name 5) (b:=Bp) (ρ:=ET d a b p i b5 b6 b7) (M:=M) (M1:=M) rfl hd
  (λj ρ M1=>∃(Ja U Z:Option D)(l:List (List Nat)),ρ=ET d a b p i Ja U Z/\M1[p]?=some (.lst ((r++l).map dm))/\Fb p M M1/\Rch ss a ws (r++l)/\∀s∈ss.take j,∀t,s.of x t->t∈r++l)
  ⟨b5,b6,b7,[],rfl,by simpa using hp,Fb.refl _ _,by simpa using R,by simp⟩ (λj ρ M1 h=>by obtain⟨_,_,_,_,_,_,k,_⟩:=h;exact k.dw hq hd)
  (λj z ρ M1 hz hI=>by
   obtain⟨Ja,U,Z,l,rfl,g1,g2,g3,g4⟩:=hI;obtain⟨s,hj,rfl⟩:∃s,ss[j]?=some s/\s.toD=z:=by simpa using hz
   have G:=aq hj;have xr:∀l',(r++l')[i]?=some x:=λl'=>by rw[d9 (ak.mp hx).1];exact hx
   have xm:∀l',x∈r++l':=λl'=>aq (xr l')
   obtain⟨M2,e2,h2,k2⟩:=tg2 (m:=m) (d:=d) (a:=a) (b:=b) (b5:=some s.toD) (h:=s.a) (t:=s.b) g1 (xr l) (g3.len hw);obtain⟨l1,p1⟩:=af9 x s.a s.b (r++l);have R2:=g3.gr (xm l) G (.inl ⟨rfl,rfl⟩) (hs s G).2;have c1:s.a=x->s.b∈gr x s.a s.b (r++l):=aga _ (xm l);rw[p1,mq] at h2 R2 c1;obtain⟨M3,e3,h3,k3⟩:=tg2 (m:=m) (d:=d) (a:=a) (b:=b) (b5:=some s.toD) (h:=s.b) (t:=s.a) h2 (xr _) (R2.len hw);obtain⟨l2,p2⟩:=af9 x s.b s.a (r++(l++l1));have R3:=R2.gr (xm _) G (.inr ⟨rfl,rfl⟩) (hs s G).1;have c2:s.b=x->s.a∈gr x s.b s.a (r++(l++l1)):=aga _ (xm _);rw[p2,mq] at h3 R3 c2;refine⟨_,.next,ET d a b p i (some s.toD) (some (dm s.b)) (some (dm s.a)),M3,rfl,?_,.inl rfl,_,_,_,l++l1++l2,rfl,h3,(g2.trans k2).trans k3,R3,?_⟩
   .simp only[Bp,Fy]
    have it:(Ex.Df (.p (.tup (.p (.ix (.v 5) (.i 0)) (.ix (.v 5) (.i 1)))) (.tup (.p (.ix (.v 5) (.i 1)) (.ix (.v 5) (.i 0)))))).den (PW m) (ET d a b p i (some s.toD) U Z) M1=.ok (.vl [.tup [dm s.a,dm s.b],.tup [dm s.b,dm s.a]]) M1:=by simp[Sp.toD]
    show(jw.o _).den (PW m) (ET d a b p i (some s.toD) U Z) M1=_;rw[Bf,Lq,Fp,it];have t1:(Tg.names [6,7]).put (.tup [dm s.a,dm s.b]) (ET d a b p i (some s.toD) U Z)=some (ET d a b p i (some s.toD) (some (dm s.a)) (some (dm s.b))):=rfl;have t2:(Tg.names [6,7]).put (.tup [dm s.b,dm s.a]) (ET d a b p i (some s.toD) (some (dm s.a)) (some (dm s.b)))=some (ET d a b p i (some s.toD) (some (dm s.b)) (some (dm s.a))):=rfl;simp only[Res.nu,srcOf,Res.m8,Src.len,gm,List.length_nil,Aj,Src.item,List.getElem?_cons_zero,List.getElem?_cons_succ,t1,e2,t2,e3,Src.fin,iu,Bg,aas]
   .rw[rm,hj]
    intro u hu t ho;simp only[mq] at *;rcases bh.mp hu with q|q
    .have:=g4 u q t ho
     rcases bh.mp this with q|q
     .exact ie _ q
     .exact gb _ (ie _ q)
    .simp at q;subst q
     rcases ho with⟨h1,rfl⟩|⟨h1,rfl⟩
     .have:=c1 h1
      rcases bh.mp this with q|q
      .exact ie _ q
      .exact gb _ (by rw[<- mq];exact ie _ q)
     .exact c2 h1)
 refine⟨Ja,U,Z,l,M',e,g1,g2,g3,λs hs t ho=>g4 s ?_ t ho⟩;simpa using hs
def Za{ws:List (List Nat)}(hm:1<=m)(hd:dw M d=some (ss.map Sp.toD))(hs:∀s∈ss,s.a∈ws/\s.b∈ws)(hw:ws.length<=60) :
 ∃(q:Bool)(M':dg),prog.call m 24 [d,dm a,dm b] M=.ok (.bl q) M'/\(q=true↔Qy ss a b)/\lq M M':=by
 rw[call_of hm rfl];have hq:Nb M.length d=true:=by
  cases d with
  |ref n =>
   have:n<M.length:=by
    cases e:M[n]? with
    |none=>simp[MW.dw,e] at hd|some o=>exact qd e
   simpa[Nb] using gh this
  |_=>rfl
 obtain⟨qq,M',e,r,U,G,Z,rfl,g1,g2,g3,g4⟩:=Eh (c:=(Ex.cmp .lt (.v 4) (.l (.v 3))).den (PW (m-1))) (body:=Br.den (PW (m-1)))
  (λn ρ R=>∃(r:List (List Nat))(i:Nat)(U G Z:Option D),ρ=ET d a b M.length i U G Z/\R[M.length]?=some (.lst (r.map dm))/\lq M R/\Rch ss a ws r/\i<=r.length/\(∀j x,j<i->r[j]?=some x->Cls ss x r)/\n=61-i)
  (fun ρ R=>∃(r:List (List Nat))(U G Z:Option D),ρ=ET d a b M.length r.length U G Z/\R[M.length]?=some (.lst (r.map dm))/\lq M R/\Rch ss a ws r/\∀x∈r,Cls ss x r)
  (λn ρ R hI=>by
   obtain⟨r,i,U,G,Z,rfl,g1,g2,g3,g4,g5,rfl⟩:=hI;have hl:=len_list (gq g1);rcases iw i r.length with hi|hi
   .right
    obtain⟨x,hx⟩:∃x,r[i]?=some x:=⟨_,dz hi⟩;obtain⟨c5,c6,c7,l,M2,e2,h2,k2,R2,C2⟩:=tg1 (m:=m-1) (b:=b) (b5:=U) (b6:=G) (b7:=Z) (g2.dw hd) hq hs hw g1 hx g3;have:=g3.len hw;refine⟨R,.next,ET d a b M.length (i+1:Nat) c5 c6 c7,M2,61-(i+1),by simp[hl,hi],?_,.inl rfl,by lia,r++l,i+1,c5,c6,c7,rfl,h2,λu o h=>k2 u o (by have:=qd h;lia) (g2 u o h),R2,by simp;lia,λj y hj hy=>?_,rfl⟩
    .simp only[Br]
     simp[e2]
    .rw[d9 (by lia)] at hy
     rcases iw j i with q|q
     .intro s h t ho;exact ie _ (g5 j y q hy s h t ho)
     .have:j=i:=by lia
      subst this;rw[hx] at hy;cases hy;exact C2
   .left
    have:i=r.length:=by lia
    subst this;refine⟨R,by simp[hl],r,U,G,Z,rfl,g1,g2,g3,λx hx=>?_⟩;obtain⟨j,hj⟩:=j5.mp hx;exact g5 j x (ak.mp hj).1 hj)
  Sd 61 (ET d a b M.length (0:Nat) none none none) (M++[.lst ([a].map dm)]) (by decide)
  ⟨[a],0,none,none,none,rfl,wu,lq.app _ _,⟨by simp,by simp,by simp,by simp;exact .refl⟩,gn _,λj x hj=>absurd hj (m7 _),rfl⟩
 have x1:=Y9 (a:=dm b) g1;rw[U7] at x1;refine⟨decide (b∈r),M',?_,?_,g2⟩
 .simp only[Fn.run,Iv,Iu,Fz]
  have e':Ak _ _ Sd [some d,some (dm a),some (dm b),sR M.length,sI 0,none,none,none] (M++[.lst [dm a]])=_:=e;simp[MW.new,Nf];simp[e',x1]
 .rw[dq]
  refine⟨g3.tog b,λh=>?_⟩;clear x1 e hs
  induction h with
  |refl=>exact g3.hd|step _ h1 h2 ih=>exact g4 _ ih _ h1 _ h2
def Qz{α:Type}{f g:α->D}{xs:List α}(qk:it.den W ρ M=.ok d M1)(hd:jl M1 d=some (xs.map f))(hn:xs.length<=100000)(I:dg->Prop)(P:α->Prop)(h0:I M1)(stay:∀M,I M->jl M d=some (xs.map f))
 (step:∀x∈xs,∀M,I M->∃U b G,t.put (f x) (ρ++List.replicate k none)=some U/\c.den W U M=.ok (.bl b) G/\I G/\(b=true->P x/\e.den W U G=.ok (g x) G)) :
 ∃(Z:List α)(R:dg),(Ex.ud true k t (.val it) c e).den W ρ M=.ok (.vl (Z.map g)) R/\I R/\(∀y∈Z,y∈xs/\P y)/\Z.length<=xs.length:=by
 rw[Di,Fp,qk];obtain⟨s,hs,hl,hi,hf⟩:=Y8 hd;simp only[Res.nu,hs,Res.m8];obtain⟨zs,R,g1,Z,g2,g3,g4,g5⟩:=Dh (fin:=s.fin) (item:=s.item) (body:=λd M=>(Res.qi (t.put d (ρ++List.replicate k none)) M).bind λqq M=>(c.den W qq M).bind λb R =>
  match b with
   |.bl true=>(e.den W qq R).bind λx qv=>.ok (some x) qv
   |.bl false=>.ok none R|_=>.bad) (λi zs M=>∃Z:List α,zs=Z.map g/\I M/\(∀y∈Z,y∈xs/\P y)/\Z.length<=i) (n:=xs.length) (λi zs M Hc hI=>by
  obtain⟨Z,rfl,h1,h2,h3⟩:=hI;obtain⟨U,b,G,a1,a2,a3,a4⟩:=step xs[i] (by simp) M h1;refine⟨f xs[i],if b then some (g xs[i]) else none,G,by rw[hi M i (stay M h1)];simp[Hc],?_,?_⟩
  .cases b with
   |true=>simp only[a1,Res.m8,Res.nu,a2,(a4 rfl).2,iu]|false=>simp only[a1,Res.m8,Res.nu,a2];rfl
  .cases b with
   |true=>exact⟨Z++[xs[i]],by simp,a3,λy hy=>by rcases bh.mp hy with q|q;exact h2 y q;simp at q;exact q▸⟨by simp,(a4 rfl).1⟩,by simp;lia⟩
   | false=>exact⟨Z,by simp,a3,h2,by lia⟩)
  (λzs M h=>by obtain⟨_,_,h,_⟩:=h;exact hf M (stay M h)) xs.length 0 [] M1 (p8 _) ⟨[],rfl,h0,by simp,bc _⟩
 refine⟨Z,R,?_,g3,g4,g5⟩;rw[uz] at g2;subst g2;rw[wk,hl,bx,di hn];exact mz (λr=>r.bind λds G=>if true=true then Res.ok (.vl ds) G else new (.lst ds) G) g1
theorem Way.cons(W:Way es w)(G:k<es.length)(e:(at_ es k).2=yz es w):Way es (k::w):=by
 refine⟨by simp,λi Z=>?_,?_⟩
 .rcases cg.mp Z with rfl|h
  .exact G
  .exact W.lt i h
 .cases w with
  |nil=>exact absurd rfl W.ne|cons b r=>exact⟨e,W.ch⟩
def ao4(h:w≠[]):hw (w++x)=hw w:=by
 cases w with
 |nil=>exact absurd rfl h|cons a l=>rfl
def Vj(h:w≠[]):yz es (w++x)=yz es w:=by rw[yz,ao4 h,yz]
def Vl(w:Y3)(k:Nat):xg es (w++[k])=(at_ es k).2:=by simp[xg,lw]
def W9(h:w≠[]):xg es (k::w)=xg es w:=by
 cases w with
 |nil=>exact absurd rfl h|cons a l=>simp[xg,lw]
theorem Lf.app(B:Lf es a b)(Z:k<es.length)(e:(at_ es k).1=xg es a):Lf es (a++[k]) (b++[k]) :=
 ⟨B.one.app Z e,B.two.app Z (e.trans B.go),by rw[Vj B.one.ne,Vj B.two.ne,B.st],by rw[Vl,Vl]⟩
theorem Lf.cons(B:Lf es a b)(Z:k<es.length)(e:(at_ es k).2=yz es a):Lf es (k::a) (k::b) :=
 ⟨B.one.cons Z e,B.two.cons Z (e.trans B.st),rfl,by rw[W9 B.one.ne,W9 B.two.ne,B.go]⟩
def Qy.bes(h:Qy ss a b)(G:∀s∈ss,Lf es s.a s.b)(W:Way es a):Lf es a b:=by
 induction h with
 |refl=>exact⟨W,W,rfl,rfl⟩
 |step _ U R Z =>
  have B:=G _ U;rcases R with⟨rfl,rfl⟩|⟨rfl,rfl⟩
  .exact⟨W,B.two,Z.st.trans B.st,Z.go.trans B.go⟩
  .exact⟨W,B.one,Z.st.trans B.st.symm,Z.go.trans B.go.symm⟩
def ao5(w:Y3)(k:Nat):lw (w++[k])=k:=by simp[lw]
def Way.off(W:Way es w)(G:1<w.length):Way es w.dropLast/\xg es w.dropLast=(at_ es (lw w)).1/\yz es w.dropLast=yz es w:=by
 obtain⟨u,k,rfl⟩:∃u k,w=u++[k]:=⟨w.dropLast,w.getLast W.ne,(qj W.ne).symm⟩;have Z:u≠[]:=by rintro rfl;simp at G
 rw[List.dropLast_concat,ao5,Vj Z];exact⟨⟨Z,λi U=>W.lt i (ie _ U),W.ch.init⟩,(U8.last Z W.ch).symm,rfl⟩
def abg(h:w≠[]):Ai (dm w) none (some (-1)) M=some (dm w.dropLast):=by obtain⟨u,k,rfl⟩:∃u k,w=u++[k]:=⟨w.dropLast,w.getLast h,(qj h).symm⟩;have:=Qw (u.map nD) (nD k);show some (D.tup (Dg ((u++[k]).map nD) none (some (-1))))=_;rw[jh,d8,vg,this,List.dropLast_concat];rfl
def Tw(w:Y3)(k:Nat)(Z:w.length<1000):yu .add (.tup [.int k]) (dm w) M=.ok (dm (k::w)) M:=by rw[dm,Hg _ _ (by simp;lia)];simp[dm,nD]
abbrev EN(s:Yq)(d:D)(p:Nat)(b6 b7 b8 b9 b10 O9 b12 Wh:Option D):Env :=
 [some s.toD,some d,some (.tup (s.es.map aD)),some (.tup (s.gs.map Gn.toD)),some (.tup [dm s.a,dm s.b]),sR p,b6,b7,b8,b9,b10,O9,b12,Wh]
structure Fd(s:Yq)(p:Nat)(M:dg)(n:Nat)(M1:dg)(L:List Sp):Prop where
 g:M1[p]?=some (.lst (L.map Sp.toD))
 b:∀x∈L,Lf s.es x.a x.b
 l:L.length<=n
 k:lq M M1
def Fd.ext(F:Fd s p M n G L)(U:M.length<=p)(R:∀x∈X,Lf s.es x.a x.b)(hl:X.length<=c):Fd s p M (n+c) (G.set p (.lst ((L++X).map Sp.toD))) (L++X) :=
 ⟨nq F.g,λx Z=>by rcases bh.mp Z with q|q;exact F.b x q;exact R x q,by have:=F.l;simp;lia,lq.set F.k U⟩
def Zb(F:Fd s p M n Z L)(U:n<=40000)(G:(X:List Sp).length<=3600):Jc .extend (.ref p) [.vl (X.map Sp.toD)] Z=.ok .non (Z.set p (.lst ((L++X).map Sp.toD))):=by rw[Qq F.g (by have:=F.l;simp;lia),jh]
def nx6(h:Fe s V):∃L,Gx.den W ([some s.toD,some d,some (.tup (s.es.map aD)),some (.tup (s.gs.map Gn.toD)),some (.tup [dm s.a,dm s.b]),none,none,none,none,none,none,none,none,none]) M=.ok (.ref M.length) (M++[.lst (L.map Sp.toD)])/\Fd s M.length M 8 (M++[.lst (L.map Sp.toD)]) L:=by
 have gd:∀i x,s.gs[i]?=some x->s.gs.getD i (.apart 0)=x:=λi x h=>by simp[List.getD,h]
 refine⟨((List.range s.gs.length).filter λi=>Ry (s.gs.getD i (.apart 0))).map λi=>⟨(pr (s.gs.getD i (.apart 0))).1,(pr (s.gs.getD i (.apart 0))).2,.tup [.str (PySem.Str.ofString "given"),.int i]⟩,?_,wu,?_,?_,lq.app _ _⟩
 .unfold Gx
  rw[Jj (M1:=M) (ds:=s.gs.map Gn.toD) (q:=λi=>Ry (s.gs.getD i (.apart 0))) (g:=λi=>Sp.toD ⟨(pr (s.gs.getD i (.apart 0))).1,(pr (s.gs.getD i (.apart 0))).2,.tup [.str (PySem.Str.ofString "given"),.int i]⟩) rfl (by have:=h.few;simp;lia) (λi x G=>by
   obtain⟨g,Z,rfl⟩:∃g,s.gs[i]?=some g/\g.toD=x:=by simpa using G
   rw[gd i g Z];cases g with
   |same a b=>exact⟨_,rfl,by simp[Gn.toD,Ry],λ_=>by simp[Gn.toD,pr,Sp.toD]⟩
   | apart k=>exact⟨_,rfl,by simp[Gn.toD,Ry,Vf],λh=>by cases h⟩)]
  simp[MW.new,ik,gf]
 .intro x G
  obtain⟨i,hi,rfl⟩:=dh.mp G;obtain⟨U,R⟩:=n8.mp hi;have U:=iy.mp U;obtain⟨g,Z⟩:∃g,s.gs[i]?=some g:=⟨_,dz U⟩;simp only[gd i g Z] at R ⊢;have:=h.gs g (aq Z);cases g with
  |same a b=>exact this|apart k=>cases R
 .rw[bx]
  exact bf (jm _ _) (by rw[List.length_range];exact h.few)
noncomputable def spA(x:Sp)(k:Nat):Sp:=⟨x.a++[k],x.b++[k],.tup [.str (PySem.Str.ofString "put"),.tup [],.tup [.int (k:Int)]]⟩
noncomputable def spB(x:Sp)(k:Nat):Sp:=⟨k::x.a,k::x.b,.tup [.str (PySem.Str.ofString "put"),.tup [.int (k:Int)],.tup []]⟩
noncomputable def spO(w:Y3)(k:Nat)(u:Y3):Sp:=⟨w.dropLast,u.dropLast,.tup [.str (PySem.Str.ofString "off"),.int (k:Int)]⟩
def nx2{ss:List Sp}(hm:1<=m)(E:Ends s.es V)(hd:dw M d=some (ss.map Sp.toD))(hs:∀x∈ss,Lf s.es x.a x.b)(hn:ss.length<=60)(hp:M.length<=p)(F:Fd s p M 8 M1 L) :
 ∃L' b6 R b8 U Z M',Gw.den (PW m) (EN s d p none none none none none none none none) M1=.ok (.next,EN s d p b6 R b8 U Z none none none) M'/\Fd s p M 1208 M' L':=by
 unfold Gw;have ef:=E.few;obtain⟨qq,M',e,L',b6,R,b8,U,Z,rfl,G⟩:=uo (W:=PW m) (it:=.v 1) (t:=.names [6,7,8]) (b:=Dc) (ρ:=EN s d p none none none none none none none none) (M:=M1) (M1:=M1) rfl (F.k.dw hd)
  (λj ρ M2=>∃(L':List Sp)(b6 R b8 U Z:Option D),ρ=EN s d p b6 R b8 U Z none none none/\Fd s p M (8+20*j) M2 L')
  ⟨L,none,none,none,none,none,rfl,F⟩ (λj ρ M2 h=>by obtain⟨_,_,_,_,_,_,_,G⟩:=h;exact lq.dw G.k hd)
  (λj z ρ M2 hz hI=>by
   obtain⟨L',b6,R,b8,U,Z,rfl,G⟩:=hI;obtain⟨x,hj,rfl⟩:∃x,ss[j]?=some x/\x.toD=z:=by simpa using hz
   have qk:=(ak.mp hj).1;have B:=hs x (aq hj);have la:=Ie E B.one;have lb:=Ie E B.two;have e1:=af7 (m:=m) (M:=M2) (d:=.tup (s.es.map aD)) (by lia) rfl B.one la;have c5:∀M3,Gv.den (PW m) (EN s d p (some (dm x.a)) (some (dm x.b)) (some x.y) (sI (yz s.es x.a)) (sI (xg s.es x.a)) none none none) M3=.ok (.vl (((nxt s.es (xg s.es x.a)).map (spA x)).map Sp.toD)) M3:=λM3=>by
    unfold Gv;rw[Ek (n:=s.es.length) (M1:=M3) (q:=λk=>decide ((at_ s.es k).1=xg s.es x.a)) (g:=λk=>(spA x k).toD) (by simp[um]) (by lia) (λi hi=>⟨_,rfl,by
     simp[Az (M:=M3) (d:=.tup (s.es.map aD)) rfl hi,Dz,Kd],λ_=>by simp[Jw x.a i (by lia),Jw x.b i (by lia),Sp.toD,spA]⟩)]
    simp[nxt,ik,gf]
   have c4:∀M3,Gu.den (PW m) (EN s d p (some (dm x.a)) (some (dm x.b)) (some x.y) (sI (yz s.es x.a)) (sI (xg s.es x.a)) none none none) M3=.ok (.vl ((((List.range s.es.length).filter λk=>decide ((at_ s.es k).2=yz s.es x.a)).map (spB x)).map Sp.toD)) M3:=λM3=>by
    unfold Gu;rw[Ek (n:=s.es.length) (M1:=M3) (q:=λk=>decide ((at_ s.es k).2=yz s.es x.a)) (g:=λk=>(spB x k).toD) (by simp[um]) (by lia) (λi hi=>⟨_,rfl,by
     simp[Az (M:=M3) (d:=.tup (s.es.map aD)) rfl hi,Mi,Kd],λ_=>by simp[Tw x.a i (by lia),Tw x.b i (by lia),Sp.toD,spB]⟩)]
    simp[ik,gf]
   have l5:((nxt s.es (xg s.es x.a)).map (spA x)).length<=10:=by rw[bx];exact bf (jm _ _) (by simpa using ef)
   have l4:(((List.range s.es.length).filter λk=>decide ((at_ s.es k).2=yz s.es x.a)).map (spB x)).length<=10:=by rw[bx];exact bf (jm _ _) (by simpa using ef)
   have b5:∀y∈(nxt s.es (xg s.es x.a)).map (spA x),Lf s.es y.a y.b:=λy hy=>by obtain⟨k,hk,rfl⟩:=dh.mp hy;obtain⟨q1,q2⟩:=Ib.mp hk;exact B.app q1 q2
   have b4:∀y∈((List.range s.es.length).filter λk=>decide ((at_ s.es k).2=yz s.es x.a)).map (spB x),Lf s.es y.a y.b:=λy hy=>by obtain⟨k,hk,rfl⟩:=dh.mp hy;obtain⟨q1,q2⟩:=n8.mp hk;exact B.cons (iy.mp q1) (ju q2)
   generalize(nxt s.es (xg s.es x.a)).map (spA x)=X5 at c5 l5 b5;generalize((List.range s.es.length).filter λk=>decide ((at_ s.es k).2=yz s.es x.a)).map (spB x)=X4 at c4 l4 b4;have x5:=Zb G (by lia) (X:=X5) (by lia);have G5:=G.ext hp b5 l5;have x4:=Zb G5 (by lia) (X:=X4) (by lia);have G4:=G5.ext hp b4 l4;refine⟨_,.next,EN s d p (some (dm x.a)) (some (dm x.b)) (some x.y) (sI (yz s.es x.a)) (sI (xg s.es x.a)) none none none,_,rfl,?_,.inl rfl,_,_,_,_,_,_,rfl,G4⟩;have y0:(Tg.names [9,10]).put (aD (yz s.es x.a,xg s.es x.a)) (EN s d p (some (dm x.a)) (some (dm x.b)) (some x.y) U Z none none none)=some (EN s d p (some (dm x.a)) (some (dm x.b)) (some x.y) (sI (yz s.es x.a)) (sI (xg s.es x.a)) none none none):=rfl;show Dc.den (PW m) (EN s d p (some (dm x.a)) (some (dm x.b)) (some x.y) U Z none none none) M2=_;simp only[Dc];simp[-List.map_append,e1,y0,Jv G.g,Jv G5.g,c5,c4,x5,x4])
 rw[bx] at G;exact⟨L',b6,R,b8,U,Z,M',e,G.g,G.b,by have:=G.l;lia,G.k⟩
def nx1{ss:List Sp}{ls:List (List Nat)}(hm:1<=m)(E:Ends s.es V)(hd:dw M d=some (ss.map Sp.toD))(hs:∀x∈ss,Lf s.es x.a x.b)(L0:Wys s.es ws)(hp:M.length<=p)(hk:k<s.es.length)(ln:ls.length<=60)(hl:∀w∈ls,Way s.es w/\1<w.length/\lw w=k)(hc:n<=30000)(F:Fd s p M n M1 L) :
 ∃L' Ea U M',Gq.den (PW m) (EN s d p b6 b7 b8 b9 b10 (some (Gn.toD (.apart k))) (some (.vl (ls.map dm))) Wh) M1=.ok (.next,EN s d p Ea b7 b8 b9 b10 (some (Gn.toD (.apart k))) (some (.vl (ls.map dm))) U) M'/\Fd s p M (n+3600) M' L':=by
 unfold Gq;have qk:∀x∈ss,x.a∈ws/\x.b∈ws:=λx hx=>⟨L0.all _ rfl (hs x hx).one,L0.all _ rfl (hs x hx).two⟩
 obtain⟨qv,M',e,L',Ea,U,rfl,G⟩:=uo (W:=PW m) (it:=.v 12) (t:=.name 6) (b:=Cz) (ρ:=EN s d p b6 b7 b8 b9 b10 (some (Gn.toD (.apart k))) (some (.vl (ls.map dm))) Wh) (M:=M1) (M1:=M1) (d:=.vl (ls.map dm)) rfl rfl
  (λj ρ M2=>∃(L':List Sp)(Ea U:Option D),ρ=EN s d p Ea b7 b8 b9 b10 (some (Gn.toD (.apart k))) (some (.vl (ls.map dm))) U/\Fd s p M (n+60*j) M2 L')
  ⟨L,b6,Wh,rfl,F⟩ (λ_ _ _ _=>rfl)
  (λj z ρ M2 hz hI=>by
   obtain⟨L',Ea,U,rfl,G⟩:=hI;obtain⟨w,hj,rfl⟩:∃w,ls[j]?=some w/\dm w=z:=by simpa using hz
   have q0:=(ak.mp hj).1;obtain⟨Ww,w1,w2⟩:=hl w (aq hj);obtain⟨R,M3,e3,⟨Z,-⟩,h3,l3⟩:=Qz (W:=PW m) (ρ:=EN s d p (some (dm w)) b7 b8 b9 b10 (some (Gn.toD (.apart k))) (some (.vl (ls.map dm))) U) (M:=M2) (M1:=M2) (it:=.v 12) (t:=.name 14) (k:=1) (d:=.vl (ls.map dm)) (xs:=ls) (f:=dm) (g:=dm) (c:=.and (.cmp .ne (.v 14) (.v 6)) (.call 24 (.q (.v 1) (.v 6) (.v 14)))) (e:=.v 14) rfl rfl (by lia)
    (λM3=>Fd s p M (n+60*j) M3 L'/\True) (λu=>Qy ss w u) ⟨G,trivial⟩ (λ_ _=>rfl) (λu hu M3 hI=>by
     obtain⟨Z,-⟩:=hI
     by_cases e:u=w
     .exact⟨_,false,M3,rfl,by simp[La,e],⟨Z,trivial⟩,λh=>by cases h⟩
     .obtain⟨q,M4,e4,h4,k4⟩:=Za (m:=m) (a:=w) (b:=u) hm (lq.dw Z.k hd) qk L0.few
      exact⟨_,q,M4,rfl,by simp[La,e,e4],⟨⟨k4 _ _ Z.g,Z.b,Z.l,lq.trans Z.k k4⟩,trivial⟩,λh=>⟨h4.mp h,by simp⟩⟩)
   have c1:Gp.den (PW m) (EN s d p (some (dm w)) b7 b8 b9 b10 (some (Gn.toD (.apart k))) (some (.vl (ls.map dm))) (some (.vl (R.map dm)))) M3=.ok (.vl ((R.map (spO w k)).map Sp.toD)) M3:=by
    unfold Gp;rw[Bt (d:=.vl (R.map dm)) (M1:=M3) (xs:=R) (f:=dm) (g:=λu=>(spO w k u).toD) rfl rfl (by lia) (λu hu=>⟨_,rfl,by
     have hu:=hl u (h3 u hu).1;simp[abg Ww.ne,abg hu.1.ne,Gn.toD,Sp.toD,spO]⟩)]
    simp[ik,gf]
   have bb:∀y∈R.map (spO w k),Lf s.es y.a y.b:=λy hy=>by obtain⟨u,hu,rfl⟩:=dh.mp hy;obtain⟨h5,h6⟩:=h3 u hu;obtain⟨Wu,u1,u2⟩:=hl u h5;have B:=h6.bes hs Ww;obtain⟨a1,a2,a3⟩:=Ww.off w1;obtain⟨c1,c2,c3⟩:=Wu.off u1;exact⟨a1,c1,a3.trans (B.st.trans c3.symm),a2.trans ((by rw[w2,u2]:(at_ s.es (lw w)).1=(at_ s.es (lw u)).1).trans c2.symm)⟩
   have xx:=Zb Z (by lia) (X:=R.map (spO w k)) (by simp;lia);have G4:=Z.ext hp bb (show _<=60 by simp;lia);refine⟨_,.next,EN s d p (some (dm w)) b7 b8 b9 b10 (some (Gn.toD (.apart k))) (some (.vl (ls.map dm))) (some (.vl (R.map dm))),_,rfl,?_,.inl rfl,_,_,_,rfl,G4⟩;show Cz.den (PW m) (EN s d p (some (dm w)) b7 b8 b9 b10 (some (Gn.toD (.apart k))) (some (.vl (ls.map dm))) U) M2=_;simp only[Cz];have qq:Ku.den (PW m) (EN s d p (some (dm w)) b7 b8 b9 b10 (some (Gn.toD (.apart k))) (some (.vl (ls.map dm))) U) M2=_:=e3;simp[-List.map_map,qq,Jv Z.g,c1,xx])
 rw[bx] at G;exact⟨L',Ea,U,M',e,G.g,G.b,by have:=G.l;lia,G.k⟩
def nx0{ss:List Sp}(hm:1<=m)(h:Fe s V)(hd:dw M d=some (ss.map Sp.toD))(hs:∀x∈ss,Lf s.es x.a x.b)(hp:M.length<=p)(F:Fd s p M 1208 M1 L) :
 ∃L' Z Nh R U M',Gs.den (PW m) (EN s d p b6 b7 b8 b9 b10 none none none) M1=.ok (.next,EN s d p Z b7 b8 b9 b10 Nh R U) M'/\Fd s p M 30008 M' L':=by
 unfold Gs;have hf:=h.few;obtain⟨qk,M',e,L',Z,Nh,R,U,rfl,G⟩:=Ay (W:=PW m) (it:=.v 3) (t:=.name 11) (b:=yp) (ρ:=EN s d p b6 b7 b8 b9 b10 none none none) (M:=M1) (M1:=M1) (ds:=s.gs.map Gn.toD) rfl
  (λj ρ M2=>∃(L':List Sp)(Z Nh R U:Option D),ρ=EN s d p Z b7 b8 b9 b10 Nh R U/\Fd s p M (1208+3600*j) M2 L')
  ⟨L,b6,none,none,none,rfl,F⟩
  (λj z ρ M2 hz hI=>by
   obtain⟨L',Z,Nh,R,U,rfl,G⟩:=hI;obtain⟨g,hj,rfl⟩:∃g,s.gs[j]?=some g/\g.toD=z:=by simpa using hz
   have qv:=(ak.mp hj).1;have hg:=h.gs g (aq hj);cases g with
   |same a b =>
    refine⟨_,.next,EN s d p Z b7 b8 b9 b10 (some (Gn.toD (.same a b))) R U,M2,rfl,?_,.inl rfl,L',_,_,_,_,rfl,G.g,G.b,by have:=G.l;lia,G.k⟩;show yp.den (PW m) (EN s d p Z b7 b8 b9 b10 (some (Gn.toD (.same a b))) R U) M2=_;simp[yp,Gn.toD,Vf.symm]
   |apart k =>
    obtain⟨ws,M3,e3,g3,L0,k3⟩:=O8 (m:=m) (M:=M2) (d:=.tup (s.es.map aD)) hm h.E rfl;have c3:Gr.den (PW m) (EN s d p Z b7 b8 b9 b10 (some (Gn.toD (.apart k))) R U) M2=.ok (.vl ((ws.filter λw=>decide (1<w.length)&&decide (lw w=k)).map dm)) M3:=by
     unfold Gr;rw[Cu (d:=.ref M2.length) (M1:=M3) (xs:=ws) (f:=dm) (q:=λw=>decide (1<w.length)&&decide (lw w=k)) (g:=dm) (by simp[e3]) (Bh (gq g3)) (by have:=L0.few;lia) (λw hw=>⟨_,rfl,by
      have ll:qw .len [dm w] M3=.ok (.int w.length) M3:=by simp[dm,um]
      by_cases q:1<w.length
      .have q':(1:Int)<w.length:=by lia
       simp[ll,q,q',Hi (L0.way w hw),Gn.toD,Kd]
      .have q':¬(1:Int)<w.length:=by lia
       simp[ll,q,q'],λ_=>by simp⟩)]
     rfl
    have G3:Fd s p M (1208+3600*j) M3 L':=⟨k3 _ _ G.g,G.b,G.l,lq.trans G.k k3⟩;obtain⟨L4,c6,qq,M4,e4,G4⟩:=nx1 (m:=m) (b6:=Z) (b7:=b7) (b8:=b8) (b9:=b9) (b10:=b10) (Wh:=U) (ls:=ws.filter λw=>decide (1<w.length)&&decide (lw w=k)) hm h.E hd hs L0 hp hg (bf (jm _ _) L0.few) (λw hw=>by
     obtain⟨q1,q2⟩:=n8.mp hw;simp at q2;exact⟨L0.way w q1,q2.1,q2.2⟩) (by lia) G3
    refine⟨_,.next,EN s d p c6 b7 b8 b9 b10 (some (Gn.toD (.apart k))) (some (.vl ((ws.filter λw=>decide (1<w.length)&&decide (lw w=k)).map dm))) qq,M4,rfl,?_,.inl rfl,L4,_,_,_,_,rfl,G4.g,G4.b,by have:=G4.l;lia,G4.k⟩;show yp.den (PW m) (EN s d p Z b7 b8 b9 b10 (some (Gn.toD (.apart k))) R U) M2=_;have q0:t6 (Gn.toD (.apart k)) (.int 0) M2=some (.str (PySem.Str.ofString "apart")):=Fq _ _;simp only[yp];simp[q0,c3,e4])
 rw[bx] at G;exact⟨L',Z,Nh,R,U,M',e,G.g,G.b,by have:=G.l;lia,G.k⟩
def ajy{G:List Sp}(hm:2<=m)(h:Fe s V)(hd:dw M d=some (G.map Sp.toD))(R:∀x∈G,Lf s.es x.a x.b)(hn:G.length<=60) :
 ∃L M',prog.call m 25 [s.toD,d] M=.ok (.ref M.length) M'/\Fd s M.length M 30008 M' L:=by
 rw[call_of (bf (by decide) hm) rfl];obtain⟨L1,e1,F1⟩:=nx6 (W:=PW (m-1)) (d:=d) (M:=M) h;obtain⟨L2,b6,U,b8,b9,Z,M2,e2,F2⟩:=nx2 (m:=m-1) (by lia) h.E hd R hn (bc _) F1;obtain⟨L3,c6,qv,qq,qk,M3,e3,F3⟩:=nx0 (m:=m-1) (b6:=b6) (b7:=U) (b8:=b8) (b9:=b9) (b10:=Z) (by lia) h hd R (bc _) F2;refine⟨L3,M3,?_,F3⟩;simp only[Fn.run,N6,N5];have y0:(Tg.names [2,3,4]).put s.toD [some s.toD,some d,none,none,none,none,none,none,none,none,none,none,none,none]=some [some s.toD,some d,some (.tup (s.es.map aD)),some (.tup (s.gs.map Gn.toD)),some (.tup [dm s.a,dm s.b]),none,none,none,none,none,none,none,none,none]:=rfl;simp[-List.map_map,y0,e1,e2,e3]
def Qy.trans(Z:Qy ss a b)(U:Qy ss b c):Qy ss a c:=by
 induction U with
 |refl=>exact Z|step _ q1 R G=>exact .step G q1 R
def Qy.symm(h:Qy ss a b):Qy ss b a:=by
 induction h with
 |refl=>exact .refl
 |step _ q1 R U =>
  refine Qy.trans (.step .refl q1 ?_) U;rcases R with⟨Z,G⟩|⟨Z,G⟩
  .exact .inr ⟨G,Z⟩
  .exact .inl ⟨G,Z⟩
def Qy.more(h:Qy ss a b):Qy (ss++X) a b:=by
 induction h with
 |refl=>exact .refl|step _ U Z G=>exact .step G (ie _ U) Z
def Cv(G:List (List Nat))(Z:List Sp):Prop:=∃R:List (List Nat),(∀w∈G,∃r∈R,Qy Z w r)/\R.length+Z.length<=60
theorem Cv.step(C:Cv G ss)(ha:x.a∈G)(hb:x.b∈G)(hn:¬Qy ss x.a x.b):Cv G (ss++[x]):=by
 obtain⟨R,Z,h2⟩:=C;obtain⟨ra,a1,U⟩:=Z _ ha;obtain⟨rb,b1,b2⟩:=Z _ hb;have ne:ra≠rb:=by rintro rfl;exact hn (U.trans b2.symm)
 refine⟨R.erase rb,λw hw=>?_,?_⟩
 .obtain⟨r,r1,r2⟩:=Z w hw
  by_cases e:r=rb
  .subst e
   refine⟨ra,(vf ne).mpr a1,?_⟩;have s1:Qy (ss++[x]) x.b x.a:=.step .refl (gb _ bz) (.inr ⟨rfl,rfl⟩);exact(r2.more.trans b2.symm.more).trans (s1.trans U.more)
  .exact⟨r,(vf e).mpr r1,r2.more⟩
 .rw[List.length_erase_of_mem b1,jj]
  have:=uw b1
  simp;lia
def Cv.len(C:Cv Z ss):ss.length<=60:=by obtain⟨R,_,h⟩:=C;lia
structure Sts(s:Yq)(ws:List (List Nat))(p:Nat)(M M1:dg)(ss:List Sp):Prop where
 g:M1[p]?=some (.lst (ss.map Sp.toD))
 b:∀x∈ss,Lf s.es x.a x.b
 c:Cv ws ss
 k:lq M M1
def azl(hm:3<=m)(h:Fe s V)(L0:Wys s.es ws)(hp:M.length<=p)(S:Sts s ws p M M1 ss) :
 ∃Z g U M',Ey.den (PW m) [some s.toD,sR p,some (.bl false),b3] M1=.ok (.next,[some s.toD,sR p,some (.bl g),U]) M'/\Sts s ws p M M' Z/\ss.length<=Z.length/\(g=true->ss.length<Z.length):=by
 unfold Ey;obtain⟨L,M2,e2,F⟩:=ajy (m:=m) (by lia) h (gq S.g) S.b S.c.len;have hq:p<M1.length:=qd S.g
 obtain⟨qq,M',e,Z,g,U,rfl,G,l1,l2,-⟩:=uo (W:=PW m) (it:=.call 25 (.p (.v 0) (.v 1))) (t:=.name 3) (b:=Bs) (ρ:=[some s.toD,sR p,D.bl false,b3]) (M:=M1) (M1:=M2) (d:=.ref M1.length) (by simp[e2]) (gq F.g)
  (λj ρ R=>∃(Z:List Sp)(g:Bool)(U:Option D),ρ=[some s.toD,sR p,some (.bl g),U]/\Sts s ws p M R Z/\ss.length<=Z.length/\(g=true->ss.length<Z.length)/\R[M1.length]?=some (.lst (L.map Sp.toD)))
  ⟨ss,false,b3,rfl,⟨lq.dw F.k (gq S.g) |> λ_=>F.k _ _ S.g,S.b,S.c,lq.trans S.k F.k⟩,bc _,λh=>by(cases h),F.g⟩
  (λj ρ R h=>by obtain⟨_,_,_,_,_,_,_,k⟩:=h;exact gq k)
  (λj z ρ R hz hI=>by
   obtain⟨Z,g,U,rfl,G,l1,l2,l3⟩:=hI;obtain⟨x,hj,rfl⟩:∃x,L[j]?=some x/\x.toD=z:=by simpa using hz
   have B:=F.b x (aq hj);have wa:=L0.all _ rfl B.one;have wb:=L0.all _ rfl B.two;obtain⟨q,M4,e4,h4,k4⟩:=Za (m:=m) (M:=R) (d:=.ref p) (ss:=Z) (a:=x.a) (b:=x.b) (by lia) (gq G.g) (λy hy=>⟨L0.all _ rfl (G.b y hy).one,L0.all _ rfl (G.b y hy).two⟩) L0.few;have x0:t6 x.toD (.int 0) R=some (dm x.a):=Fq _ _;have x1:t6 x.toD (.int 1) R=some (dm x.b):=O5 _ _ _;cases q with
   |true =>
    refine⟨_,.next,[some s.toD,sR p,some (.bl g),some x.toD],M4,rfl,?_,.inl rfl,Z,g,_,rfl,⟨k4 _ _ G.g,G.b,G.c,lq.trans G.k k4⟩,l1,l2,k4 _ _ l3⟩;simp[Bs,x0,x1,e4]
   |false =>
    have g4:=k4 _ _ G.g;have hn:¬Qy Z x.a x.b:=λq=>by have:=h4.mpr q;cases this
    have C:=G.c.step wa wb hn;refine⟨_,.next,[some s.toD,sR p,some (.bl true),some x.toD],M4.set p (.lst ((Z++[x]).map Sp.toD)),rfl,?_,.inl rfl,Z++[x],true,_,rfl,⟨nq g4,λy hy=>?_,C,lq.set (lq.trans G.k k4) hp⟩,by simp;lia,λ_=>by simp;lia,?_⟩
    .simp[Bs,x0,x1,e4,Dp g4,Al g4 (d:=x.toD) (by have:=G.c.len;simp;lia)]
    .rcases bh.mp hy with q|q
     .exact G.b y q
     .simp at q;exact q▸B
    .rw[jx (by lia)];exact k4 _ _ l3)
 exact⟨Z,g,U,M',e,G,l1,l2⟩
def agb(hm:4<=m)(h:Fe s V)(L0:Wys s.es U):∃ss M',prog.call m 26 [s.toD] M=.ok (.ref M.length) M'/\Sts s U M.length M M' ss:=by
 rw[call_of (bf (by decide) hm) rfl];obtain⟨qv,M',e,ss,Z,rfl,S⟩:=Eh (c:=(Ex.v 2).den (PW (m-1))) (body:=Ez.den (PW (m-1)))
  (λn R G=>∃(ss:List Sp)(g:Bool)(Z:Option D),R=[some s.toD,sR M.length,some (.bl g),Z]/\Sts s U M.length M G ss/\n=2*(60-ss.length)+if g then 1 else 0)
  (λR G=>∃(ss:List Sp)(Z:Option D),R=[some s.toD,sR M.length,some (.bl false),Z]/\Sts s U M.length M G ss)
  (λn R G hI=>by
   obtain⟨ss,g,Z,rfl,S,rfl⟩:=hI;cases g with
   |false=>exact .inl ⟨G,by simp,ss,Z,rfl,S⟩
   |true =>
    right
    obtain⟨qk,g,qq,M2,e2,S2,l1,l2⟩:=azl (m:=m-1) (b3:=Z) (by lia) h L0 (bc _) S;have c1:=S.c.len;have c2:=S2.c.len;refine⟨G,.next,_,M2,_,by simp,?_,.inl rfl,?_,qk,g,qq,rfl,S2,rfl⟩
    .simp[Ez,e2]
    .cases g with
     |true=>have:=l2 rfl;simp;lia
     | false=>simp;lia)
  Sd 121 [some s.toD,sR M.length,some (.bl true),none] (M++[.lst []]) (by decide)
  ⟨[],true,none,rfl,⟨wu,by simp,⟨U,λw hw=>⟨w,hw,.refl⟩,by simpa using L0.few⟩,lq.app _ _⟩,rfl⟩
 refine⟨ss,M',?_,S⟩;simp only[Fn.run,Mh,Mg,Js];simp[MW.new,Nf];have e':Ak _ _ Sd [some s.toD,sR M.length,some (.bl true),none] (M++[.lst []])=_:=e;simp[e']
abbrev Cs:=List (Ar×Nat)
noncomputable def kv(Z:Cs):List (List Kx×D):=Z.map λc=>([.inl (c.1.1:Int),.inl (c.1.2:Int)],.ref c.2)
noncomputable def up(Z:Nat->List (List Nat))(a:Nat)(w:Y3)(b:Nat):List (List Nat):=if b=a then Z a++[w] else Z b
noncomputable def Lg(G:Cs)(Z:Nat->List (List Nat)):Nat:=(G.map λc=>(Z c.2).length).sum
def agc{Z:Cs}(h:∀c∈Z,c.2≠a):Lg Z (up ct a w)=Lg Z ct:=by
 unfold Lg
 congr 1
 refine List.map_congr_left λc G=>?_
 simp[up,h c G]
theorem agd:∀{Z:Cs},(Z.map (·.2)).Nodup->Lg Z (up ct a w)<=Lg Z ct+1
 |[],_=>gn _
 |c::Z,nd=>by
  rw[d8] at nd;have G:=kh.mp nd
  by_cases e:c.2=a
  .have:Lg Z (up ct a w)=Lg Z ct:=agc λx U q=>G.1 (by rw[e,<- q];exact dh.mpr ⟨x,U,rfl⟩)
   show(up ct a w c.2).length+Lg Z (up ct a w)<=(ct c.2).length+Lg Z ct+1
   rw[this,e];simp[up];lia
  .have:=agd (ct:=ct) (a:=a) (w:=w) G.2
   show(up ct a w c.2).length+Lg Z (up ct a w)<=(ct c.2).length+Lg Z ct+1
   rw[show up ct a w c.2=ct c.2 by simp[up,e]];lia
def age{Z:Cs}:∀{c},c∈Z->(ct c.2).length<=Lg Z ct:=by
 induction Z with
 |nil=>intro c h;cases h
 |cons x l G =>
  intro c h;show _<=(ct x.2).length+Lg l ct
  rcases cg.mp h with rfl|h
  .lia
  .have:=G h;lia
def aui(Z:Cs)(k:Ar):(∃c∈Z,c.1=k/\Jb (kv Z) [.inl (k.1:Int),.inl (k.2:Int)]=some (.ref c.2))\/Jb (kv Z) [.inl (k.1:Int),.inl (k.2:Int)]=none:=by
 induction Z with
 |nil=>exact .inr rfl
 |cons c Z ih =>
  by_cases e:c.1=k
  .subst e
   exact .inl ⟨c,bz,rfl,by simp[Jb,kv]⟩
  .have U:¬((c.1.1:Int)=k.1/\(c.1.2:Int)=k.2):=λq=>e (Prod.ext (by have:=q.1;lia) (by have:=q.2;lia))
   have hk:Jb (kv (c::Z)) [.inl (k.1:Int),.inl (k.2:Int)]=Jb (kv Z) [.inl (k.1:Int),.inl (k.2:Int)]:=by
    have:¬((Sum.inl (c.1.1:Int):Kx)=.inl k.1/\(Sum.inl (c.1.2:Int):Kx)=.inl k.2):=λq=>U ⟨Sum.inl.inj q.1,Sum.inl.inj q.2⟩
    have d0:decide (([.inl (c.1.1:Int),.inl (c.1.2:Int)]:List Kx)=[.inl (k.1:Int),.inl (k.2:Int)])=false:=sy λq=>this ⟨(List.cons.inj q).1,(List.cons.inj (List.cons.inj q).2).1⟩
    simp only[Jb,kv,d8,qm,d0]
   rw[hk];rcases ih with⟨x,R,h2,G⟩|h
   .exact .inl ⟨x,bu _ R,h2,G⟩
   .exact .inr h
structure Rws(es:List Ar)(r q:Nat)(M M1:dg)(cs:Cs)(ct:Nat->List (List Nat))(n:Nat):Prop where
 g:M1[r]?=some (.dT (kv cs))
 c:∀c∈cs,q<c.2/\M1[c.2]?=some (.lst ((ct c.2).map dm))/\ct c.2≠[]/\∀w∈ct c.2,Way es w/\(yz es w,xg es w)=c.1
 nd:(cs.map (·.2)).Nodup
 z:Lg cs ct<=n
 l:cs.length<=n
 ne:0<n->cs≠[]
 k:lq M M1
noncomputable def xK:Ex:=.bm .append (.bm .setdefault (.v 1) (.p (.tup (.p (.ix (.ix (.v 0) (.ix (.v 2) (.i 0))) (.i 0)) (.ix (.ix (.v 0) (.ix (.v 2) (.neg (.i 1)))) (.i 1)))) (.lst .z))) (.o (.v 2))
def Rws.step{G:Cs}{ct:Nat->List (List Nat)}(hd:jl Z d=some (es.map aD))(R:Rws es r q M Z G ct n)(hr:M.length<=r)(hq:r<q)(qv:q<Z.length)(W:Way es w)(hn:n<=60) :
 ∃(q2:Cs)(q0:Nat->List (List Nat))(M':dg),xK.den (PW m) [some d,sR r,some (dm w),b3,b4,b5] Z=.ok .non M'/\Rws es r q M M' q2 q0 (n+1)/\∀a o,a<=q->a≠r->Z[a]?=some o->M'[a]?=some o:=by
 have kt:Yz (.tup [.int (yz es w),.int (xg es w)])=some [.inl (yz es w:Int),.inl (xg es w:Int)]:=rfl;have e1:=Hj (M:=Z) W;have e2:=Hi (M:=Z) W;have e3:=Az hd W.Aw;have e4:=Az hd W.Ke;have rl:=qd R.g;have r2:(Z++[.lst []])[r]?=some (.dT (kv G)):=u6 R.g;have q1:P0 .setdefault (.ref r) Z=true:=by simp[P0,R.g]
 have qk:∀{v:D}{M2:dg},Jc .setdefault (.ref r) [.tup [.int (yz es w),.int (xg es w)],.ref Z.length] (Z++[.lst []])=.ok v M2->P0 .append v M2=true->xK.den (PW m) [some d,sR r,some (dm w),b3,b4,b5] Z=Jc .append v [dm w] M2:=fun{v M2} h1 h2=>by simp[xK,q1,e1,e2,e3,e4,Dz,Mi,MW.new];rw[show(at_ es (hw w)).1=yz es w from rfl,show(at_ es (lw w)).2=xg es w from rfl,h1];simp[h2]
 rcases aui G (yz es w,xg es w) with⟨c,h1,h2,h3⟩|h3
 .obtain⟨c1,c2,c3,c4⟩:=R.c c h1
  have cl:=qd c2;have g2:(Z++[.lst []])[c.2]?=some (.lst ((ct c.2).map dm)):=u6 c2;have s1:Jc .setdefault (.ref r) [.tup [.int (yz es w),.int (xg es w)],.ref Z.length] (Z++[.lst []])=.ok (.ref c.2) (Z++[.lst []]):=by simp only[Jc,onT,r2,kt];simp only at h3;simp only[h3]
  have zl:=age (ct:=ct) h1;have zn:=R.z;refine⟨G,up ct c.2 w,(Z++[MO.lst []]).set c.2 (.lst ((ct c.2++[w]).map dm)),?_,⟨?_,λx hx=>?_,R.nd,bf (agd R.nd) (by lia),by have:=R.l;lia,λ_ q=>by rw[q] at h1;(cases h1),lq.set (lq.trans R.k (lq.app _ _)) (by lia)⟩,λa o h1 h2 h=>?_⟩
  .rw[qk s1 (Dp g2),Al g2 (by simp;lia)]
   simp
  .rw[jx (by lia)];exact r2
  .obtain⟨x1,x2,x3,x4⟩:=R.c x hx
   by_cases e:x.2=c.2
   .have ek:x.1=c.1:=by
     rw[e] at x3 x4;obtain⟨u,U⟩:=List.exists_mem_of_ne_nil _ x3;rw[<- (x4 u U).2,(c4 u U).2]
    rw[e];refine⟨c1,by rw[nq g2];simp[up],by simp[up],λu U=>?_⟩;have U:u∈ct c.2++[w]:=by simpa[up] using U
    rcases bh.mp U with q|q
    .rw[ek];exact c4 u q
    .simp at q;subst q;exact⟨W,by rw[ek,h2]⟩
   .have:up ct c.2 w x.2=ct x.2:=by simp[up,e]
    rw[this];exact⟨x1,by rw[jx (oh e)];exact u6 x2,x3,x4⟩
  .rw[jx (by lia)];exact u6 h
 .have fr:∀c∈G,c.2≠Z.length:=λc hc=>by have:=qd (R.c c hc).2.1;lia
  have s1:Jc .setdefault (.ref r) [.tup [.int (yz es w),.int (xg es w)],.ref Z.length] (Z++[.lst []])=.ok (.ref Z.length) ((Z++[MO.lst []]).set r (.dT (kv (G++[((yz es w,xg es w),Z.length)])))):=by
   have hl:(kv G).length<100000:=by have:=R.l;simp[kv];lia
   simp only[Jc,onT,r2,kt];simp only at h3;simp only[h3,hl,iu];simp[kv]
  have g3:((Z++[MO.lst []]).set r (.dT (kv (G++[((yz es w,xg es w),Z.length)]))))[Z.length]?=some (.lst []):=by rw[jx (by lia)];exact wu
  have qq:Lg G (λb=>if b=Z.length then[w] else ct b)=Lg G ct:=by
   unfold Lg
   congr 1
   exact List.map_congr_left λc hc=>by simp[fr c hc]
  have zn:=R.z;refine⟨G++[((yz es w,xg es w),Z.length)],λb=>if b=Z.length then[w] else ct b,((Z++[MO.lst []]).set r (.dT (kv (G++[((yz es w,xg es w),Z.length)])))).set Z.length (.lst [dm w]),?_,⟨?_,λx hx=>?_,?_,?_,by have:=R.l;simp;lia,λ_=>by simp,lq.set (lq.set (lq.trans R.k (lq.app _ _)) hr) (by lia)⟩,λa o h1 h2 h=>?_⟩
  .rw[qk s1 (Dp g3),Al g3 (by simp)]
   simp
  .rw[jx (by lia)];exact nq r2
  .rcases bh.mp hx with q|q
   .obtain⟨x1,x2,x3,x4⟩:=R.c x q
    simp only[fr x q,ig];exact⟨x1,by rw[jx (oh (fr x q)),jx (by lia)];exact u6 x2,x3,x4⟩
   .simp at q;subst q
    simp only[iu];exact⟨qv,by rw[nq g3];rfl,by simp,λu U=>by simp at U;subst U;exact⟨W,rfl⟩⟩
  .rw[jh,my]
   refine⟨R.nd,by simp,λa ha b hb=>?_⟩;simp at hb;subst hb;obtain⟨x,hx,rfl⟩:=dh.mp ha;exact fr x hx
  .have:Lg (G++[((yz es w,xg es w),Z.length)]) (λb=>if b=Z.length then[w] else ct b)=Lg G (λb=>if b=Z.length then[w] else ct b)+1:=by simp[Lg]
   rw[this,qq];lia
  .rw[jx (by lia),jx (oh h2)];exact u6 h
def al2(hm:1<=m)(E:Ends es V)(hd:jl M d=some (es.map aD))(hr:M[r]?=some (.dT []))(hM:lq M0 M)(h0:M0.length<=r)(q0:jl M0 d=some (es.map aD)) :
 ∃U G ct M',zy.den (PW m) [some d,sR r,none,none,none,none] M=.ok (.next,[some d,sR r,U,none,none,none]) M'/\Rws es r M.length M0 M' G ct 60:=by
 unfold zy;obtain⟨ws,M1,e1,g1,L,k1⟩:=O8 (m:=m) (M:=M) (d:=d) hm E hd;have rl:=qd hr;have fw:=L.few;obtain⟨q1,M',e,U,G,ct,rfl,R,-,-⟩:=uo (W:=PW m) (it:=.call 20 (.o (.v 0))) (t:=.name 2) (b:=Dw) (ρ:=[some d,sR r,none,none,none,none]) (M:=M) (M1:=M1) (d:=.ref M.length) (by simp[e1]) (gq g1)
  (λi ρ Z=>∃(U:Option D)(G:Cs)(ct:Nat->List (List Nat)),ρ=[some d,sR r,U,none,none,none]/\Rws es r M.length M0 Z G ct i/\Z[M.length]?=some (.lst (ws.map dm))/\jl Z d=some (es.map aD))
  ⟨none,[],λ_=>[],rfl,⟨k1 _ _ hr,by simp,by simp,gn _,gn _,λh=>absurd h (m7 _),hM.trans k1⟩,g1,lq.jl k1 hd⟩
  (λi ρ Z h=>by obtain⟨_,_,_,_,_,g,_⟩:=h;exact gq g)
  (λi z ρ Z hz hI=>by
   obtain⟨U,G,ct,rfl,R,g,qv⟩:=hI;obtain⟨w,hi,rfl⟩:∃w,ws[i]?=some w/\dm w=z:=by simpa using hz
   have il:=(ak.mp hi).1;obtain⟨qk,qq,M3,e3,R3,k3⟩:=R.step (m:=m) (b3:=none) (b4:=none) (b5:=none) qv h0 rl (qd g) (L.way w (aq hi)) (by lia);refine⟨_,.next,[some d,sR r,some (dm w),none,none,none],M3,rfl,?_,.inl rfl,_,qk,qq,rfl,R3,k3 _ _ (bc _) (by lia) g,lq.jl R3.k q0⟩;have e4:(yt.expr xK).den (PW m) [some d,sR r,some (dm w),none,none,none] Z=.ok (.next,[some d,sR r,some (dm w),none,none,none]) M3:=by rw[aar,e3];rfl
   show(jw.o (.expr xK)).den (PW m) [some d,sR r,some (dm w),none,none,none] Z=_;rw[Bf,e4];rfl)
 rw[bx] at R;refine⟨U,G,ct,M',e,R.g,R.c,R.nd,bf R.z fw,bf R.l fw,λ_=>R.ne ?_,R.k⟩;have:=L.one 0 (by have:=E.pos;lia);exact uw this
structure Prs(es:List Ar)(p:Nat)(M M1:dg)(L:List (List Nat×List Nat))(n:Nat):Prop where
 g:M1[p]?=some (.lst (L.map pD))
 b:∀x∈L,Lf es x.1 x.2
 l:L.length<=n
 k:lq M M1
abbrev EA(d:D)(r p:Nat)(b2 b4 b5:Option D):Env:=[some d,sR r,b2,sR p,b4,b5]
def al1{l:List (List Nat)}(hl:l.length<=60)(qq:l≠[])(hb:∀w∈l,Way es w/\(yz es w,xg es w)=c)(ha:U[a]?=some (.lst (l.map dm)))(qk:a≠p)(hp:M.length<=p)(P:Prs es p M U L n)(hn:n<=3600) :
 ∃R Z M',zr.den (PW m) (EA d r p b2 (sR a) b5) U=.ok (.next,EA d r p b2 (sR a) R) M'/\Prs es p M M' Z (n+60*l.length)/\Z≠[]/\Fb p U M':=by
 unfold zr;obtain⟨qv,M',e,R,Z,rfl,G,k',h'⟩:=uo (W:=PW m) (it:=.v 4) (t:=.name 5) (b:=yc) (ρ:=EA d r p b2 (sR a) b5) (M:=U) (M1:=U) (d:=.ref a) rfl (gq ha)
  (λi ρ M2=>∃(R:Option D)(Z:List (List Nat×List Nat)),ρ=EA d r p b2 (sR a) R/\Prs es p M M2 Z (n+60*i)/\Fb p U M2/\(0<i->Z≠[]))
  ⟨b5,L,rfl,P,Fb.refl _ _,λh=>absurd h (m7 _)⟩
  (λi ρ M2 h=>by obtain⟨_,_,_,_,k,_⟩:=h;exact gq (k _ _ qk ha))
  (λi z ρ M2 hz hI=>by
   obtain⟨R,Z,rfl,G,k',h'⟩:=hI;obtain⟨w,hi,rfl⟩:∃w,l[i]?=some w/\dm w=z:=by simpa using hz
   have il:=(ak.mp hi).1;have a2:=k' _ _ qk ha;obtain⟨Ww,cw⟩:=hb w (aq hi);have c1:zq.den (PW m) (EA d r p b2 (sR a) (some (dm w))) M2=.ok (.vl ((l.map λu=>(w,u)).map pD)) M2:=by unfold zq;rw[Bt (d:=.ref a) (M1:=M2) (xs:=l) (f:=dm) (g:=λu=>pD (w,u)) rfl (Bh (gq a2)) (by lia) (λu hu=>⟨_,rfl,by simp[pD]⟩)];simp[ik,gf]
   have lp:=G.l;refine⟨_,.next,EA d r p b2 (sR a) (some (dm w)),M2.set p (.lst ((Z++l.map λu=>(w,u)).map pD)),rfl,?_,.inl rfl,_,Z++l.map λu=>(w,u),rfl,⟨nq G.g,λx hx=>?_,by simp;lia,lq.set G.k hp⟩,k'.trans (Fb.set _ _ _),λ_=>by simp[qq]⟩
   .show yc.den (PW m) (EA d r p b2 (sR a) (some (dm w))) M2=_
    simp only[yc];simp[-List.map_map,Jv G.g,c1,Qq G.g (ys:=(l.map λu=>(w,u)).map pD) (by simp;lia)]
   .rcases bh.mp hx with q|q
    .exact G.b x q
    .obtain⟨u,hu,rfl⟩:=dh.mp q
     obtain⟨Wu,cu⟩:=hb u hu;have:=cw.trans cu.symm;exact⟨Ww,Wu,(Prod.ext_iff.mp this).1,(Prod.ext_iff.mp this).2⟩)
 rw[bx] at G h';exact⟨R,Z,M',e,G,h' (jn.mpr qq),k'⟩
def agf(hm:2<=m)(E:Ends es V)(hd:jl M d=some (es.map aD)) :
 ∃p L M',prog.call m 21 [d] M=.ok (.ref p) M'/\M.length<=p/\Prs es p M M' L 3600/\L≠[]:=by
 rw[call_of (bf (by decide) hm) rfl];obtain⟨b2,Z,ct,G,e1,R⟩:=al2 (m:=m-1) (M:=M++[.dT []]) (r:=M.length) (M0:=M) (by lia) E (lq.jl (lq.app _ _) hd) wu (lq.app _ _) (bc _) hd;have rl:=qd R.g;have q1:=R.z;have lp:∃b4 U L M',zx.den (PW (m-1)) (EA d M.length G.length b2 none none) (G++[.lst []])=.ok (.next,EA d M.length G.length b2 b4 U) M'/\Prs es G.length M M' L 3600/\L≠[]:=by
  unfold zx;have qv:(G++[.lst []])[M.length]?=some (.dT (kv Z)):=u6 R.g;obtain⟨q0,M',e,b4,U,L,rfl,P,Ow,-⟩:=aov (W:=PW (m-1)) (it:=.vals (.v 1)) (t:=.name 4) (b:=zu) (ρ:=EA d M.length G.length b2 none none) (M:=G++[.lst []]) (M1:=(G++[MO.lst []]).set M.length (.dF (kv Z))) (s:=.con (Z.map λc=>.ref c.2)) (n:=Z.length)
   (by
    have:aal (.ref M.length) (G++[.lst []])=.ok (.con (Z.map λc=>.ref c.2)) ((G++[MO.lst []]).set M.length (.dF (kv Z))):=by simp only[aal,qv];simp[kv,ik,gf]
    rw[Wq,ae9];exact this) (by simp[Src.len])
   (λi ρ M2=>∃(b4 U:Option D)(L:List (List Nat×List Nat)),ρ=EA d M.length G.length b2 b4 U/\Prs es G.length M M2 L (60*Lg (Z.take i) ct)/\(0<i->L≠[])/\∀c∈Z,M2[c.2]?=some (.lst ((ct c.2).map dm)))
   ⟨none,none,[],rfl,⟨by rw[jx (by lia)];exact wu,by simp,gn _,lq.set (lq.trans R.k (lq.app _ _)) (bc _)⟩,λh=>absurd h (m7 _),λc hc=>by
    have:=(R.c c hc).1;rw[jx (by simp at this;lia)];exact u6 (R.c c hc).2.1⟩ (λ_ _ _=>rfl)
   (λi ρ M2 hi hI=>by
    obtain⟨b4,U,L,rfl,P,Ow,hc⟩:=hI;obtain⟨c,qk⟩:∃c,Z[i]?=some c:=⟨_,dz hi⟩;have qq:=aq qk;obtain⟨c1,c2,c3,c4⟩:=R.c c qq;have cl:=age (ct:=ct) qq;have tk:Lg (Z.take (i+1)) ct=Lg (Z.take i) ct+(ct c.2).length:=by rw[rm,qk];simp[Lg]
    have tl:Lg (Z.take (i+1)) ct<=Lg Z ct:=by
     have:Lg Z ct=Lg (Z.take (i+1)) ct+Lg (Z.drop (i+1)) ct:=by
      conv=>lhs;rw[<- u5 (i+1) Z]
      unfold Lg;rw[jh,List.sum_append]
     lia
    have cne:∀x∈Z,x.2≠G.length:=λx hx=>by have:=qd (R.c x hx).2.1;lia
    obtain⟨Ja,L',M3,e3,P3,n3,k3⟩:=al1 (m:=m-1) (d:=d) (r:=M.length) (b2:=b2) (b5:=U) (l:=ct c.2) (by lia) c3 c4 (hc c qq) (cne c qq) (qd R.g |> λh=>by lia) P (by lia);refine⟨.ref c.2,EA d M.length G.length b2 (sR c.2) U,by simp[Src.item,qk],rfl,EA d M.length G.length b2 (sR c.2) Ja,M3,?_,_,Ja,L',rfl,⟨P3.g,P3.b,by have:=P3.l;rw[tk];lia,P3.k⟩,λ_=>n3,λx hx=>k3 _ _ (cne x hx) (hc x hx)⟩;simp only[zu];simp[e3])
  exact⟨b4,U,L,M',e,⟨P.g,P.b,by have:=P.l;rw[q8] at this;lia,P.k⟩,Ow (jn.mpr (R.ne (by decide)))⟩
 obtain⟨b4,U,L,M',e,P,Ow⟩:=lp;refine⟨G.length,L,M',?_,by lia,P,Ow⟩;simp only[Fn.run,Fw,Fv];simp[MW.new,e1,e]
def Mj(U:1<=es.length)(R:es.length<=10)(Z:∀e∈es,(e:Ar).1<=7/\e.2<=7)(h4:∀v,v<8->((nxt es v).map λk=>1+V (at_ es k).2).sum<=V v)(G:((List.range es.length).map λk=>1+V (at_ es k).2).sum<=60):Ends es V :=
 ⟨U,R,Z,λv=>by
  rcases iw v 8 with h|h
  .exact h4 v h
  .have:nxt es v=[]:=List.eq_nil_iff_forall_not_mem.mpr λk hk=>by
    obtain⟨q1,q2⟩:=Ib.mp hk;have:=(Z _ (Lb q1)).1
    lia
   rw[this];exact gn _,G⟩
noncomputable def Vk(l:Y3)(v:Nat):Nat:=l.getD v 0
noncomputable def kn:List (List Ar):=[[(0,1),(0,1),(1,2)],[(0,1),(1,2),(0,2),(2,3)],[(0,1),(0,2),(1,3),(2,3),(3,4)],[(0,1),(1,2),(0,3),(3,4),(1,4),(2,5),(4,5)],[(3,1),(3,1),(1,0),(1,0),(0,2)]]
def ajz(h:es∈kn):∃V,Ends es V:=by
 simp only[kn,cg,qb,or_false] at h;rcases h with rfl|rfl|rfl|rfl|rfl
 .exact⟨Vk [4,1],Mj (by decide) (by decide) (by decide) (by decide+kernel) (by decide+kernel)⟩
 .exact⟨Vk [5,2,1],Mj (by decide) (by decide) (by decide) (by decide+kernel) (by decide+kernel)⟩
 .exact⟨Vk [6,2,2,1],Mj (by decide) (by decide) (by decide) (by decide+kernel) (by decide+kernel)⟩
 .exact⟨Vk [8,4,1,2,1],Mj (by decide) (by decide) (by decide) (by decide+kernel) (by decide+kernel)⟩
 .exact⟨Vk [1,4,0,10],Mj (by decide) (by decide) (by decide) (by decide+kernel) (by decide+kernel)⟩
structure Rnd(es:List Ar):Prop where
 r:∀e∈es,e.1<=3/\e.1<e.2/\e.2<=6
noncomputable def cn(Z:List Ar)(v:Nat):Nat:=(Z.filter λe=>decide (e.1=v)).length
def Pr(Z:List Ar):Nat->Nat
 |0=>(1+cn Z 0)*((1+cn Z 1)*((1+cn Z 2)*(1+cn Z 3)))|1=>(1+cn Z 1)*((1+cn Z 2)*(1+cn Z 3))|2=>(1+cn Z 2)*(1+cn Z 3)|3=>1+cn Z 3|_=>1
def agg(es:List Ar):(List.range es.length).map (at_ es)=es:=by
 refine List.ext_getElem? λi=>?_
 rcases iw i es.length with h|h
 .simp[h,Qp]
  have:=Qp h;rw[dz h] at this;exact(jb this).symm
 .simp[h]
def ao6(Z:List Ar)(v:Nat):(nxt Z v).length=cn Z v:=by
 have:(Z.filter λe=>decide (e.1=v))=(nxt Z v).map (at_ Z):=by
  conv=>lhs;rw[<- agg Z]
  rw[List.filter_map];rfl
 rw[cn,this,bx]
theorem agh{f:Nat->Nat}:∀{l:Y3},(∀k∈l,f k<=b)->(l.map f).sum<=l.length*b
 |[],_=>by simp
 |a::l,h=>by
  have:=agh (l:=l) λk Z=>h k (bu _ Z)
  have:=h a bz;simp[Nat.add_mul];lia
def Bu{a b c:Nat}(h:c<=b):c<=(1+a)*b:=by
 have:b<=(1+a)*b:=by rw[Nat.add_mul];lia
 lia
theorem agi(Z:List Ar):∀v,1<=Pr Z v
 |0=>Bu (Bu (Bu (by lia)))|1=>Bu (Bu (by lia))|2=>Bu (by lia)|3=>by show 1<=1+cn Z 3;lia
 |_+4=>bc _
theorem aj0(Z:List Ar):∀v,Pr Z (v+1)<=Pr Z v
 |0=>Bu (bc _)|1=>Bu (bc _)|2=>Bu (bc _)|3=>agi Z 3|_+4=>bc _
theorem Vm(Z:List Ar):∀{u v:Nat},v<=u->Pr Z u<=Pr Z v
 |0,v,h=>by rw[Nat.le_zero.mp h];exact bc _
 |u+1,v,h=>by
  rcases iw v (u+1) with q|q
  .exact bf (aj0 Z u) (Vm Z (by lia))
  .have:v=u+1:=by lia
   rw[this];exact bc _
theorem ao7(Z:List Ar):∀{v:Nat},v<=3->Pr Z v=(1+cn Z v)*Pr Z (v+1)
 |0,_=>rfl|1,_=>rfl|2,_=>rfl|3,_=>(Nat.mul_one _).symm
theorem Zc:∀{es:List Ar},Rnd es->∀f:Nat->Nat,(es.map λe=>f e.1).sum=cn es 0*f 0+cn es 1*f 1+cn es 2*f 2+cn es 3*f 3
 |[],_,f=>by simp[cn]
 |e::es,R,f=>by
  have G:=Zc (es:=es) ⟨λx Z=>R.r x (bu _ Z)⟩ f;have h:=(R.r e bz).1;have c:∀v,cn (e::es) v=cn es v+if e.1=v then 1 else 0:=λv=>by
   unfold cn
   by_cases q:e.1=v<;>simp[q]
  rw[d8,List.sum_cons,G,c,c,c,c];have:e.1=0\/e.1=1\/e.1=2\/e.1=3:=by lia
  rcases this with q|q|q|q<;>simp[q,Nat.add_mul]<;>lia
theorem abh:∀l:List Ar,(l.map λ_=>1).sum=l.length
 |[]=>rfl|_::l=>by rw[d8,List.sum_cons,abh l,gm];lia
def four:∀a,a<7->∀b,b<7->∀c,c<7->∀d,d<7->a+b+c+d<=6->a*((1+b)*((1+c)*(1+d)))+b*((1+c)*(1+d))+c*(1+d)+d<=60:=by decide+kernel
def agj(R:Rnd es)(h1:1<=es.length)(h2:es.length<=6):Ends es λv=>Pr es v-1:=by
 have pp:=agi es;have pe:∀v,1+(Pr es v-1)=Pr es v:=λv=>by have:=pp v;lia
 refine⟨h1,by lia,λe Z=>by have:=R.r e Z;lia,λv=>?_,?_⟩
 .simp only[pe]
  rcases iw 3 v with h|h
  .have:nxt es v=[]:=List.eq_nil_iff_forall_not_mem.mpr λk U=>by
    obtain⟨G,q2⟩:=Ib.mp U;have:=(R.r _ (Lb G)).1
    lia
   rw[this];exact gn _
  .have:=agh (f:=λk=>Pr es (at_ es k).2) (b:=Pr es (v+1)) (l:=nxt es v) λk U=>by
    obtain⟨G,q2⟩:=Ib.mp U;have:=(R.r _ (Lb G)).2.1;exact Vm es (by lia)
   rw[ao6] at this;have e:=ao7 es h;rw[Nat.add_mul,Nat.one_mul] at e;have:=pp (v+1)
   lia
 .simp only[pe]
  have a:((List.range es.length).map λk=>Pr es (at_ es k).2).sum=(es.map λe=>Pr es e.2).sum:=by have:=mz (List.map λe=>Pr es e.2) (agg es);rw[ik] at this;exact mz List.sum this
  have b:∀l:List Ar,(∀e∈l,e∈es)->(l.map λe=>Pr es e.2).sum<=(l.map λe=>Pr es (e.1+1)).sum:=by
   intro l
   induction l with
   |nil=>intro _;simp
   |cons x l ih =>
    intro h;have:=ih λe Z=>h e (bu _ Z)
    have:=Vm es (show x.1+1<=x.2 from(R.r x (h x bz)).2.1)
    simp;lia
  have c:(es.map λe=>Pr es (e.1+1)).sum=cn es 0*Pr es 1+cn es 1*Pr es 2+cn es 2*Pr es 3+cn es 3*Pr es 4:=Zc R λv=>Pr es (v+1)
  have d:=Zc R λ_=>1
  rw[abh] at d;simp only[Nat.mul_one] at d;have:=b es λ_ h=>h
  rw[a];have g:=four (cn es 0) (by lia) (cn es 1) (by lia) (cn es 2) (by lia) (cn es 3) (by lia) (by lia);rw[c,show Pr es 1=(1+cn es 1)*((1+cn es 2)*(1+cn es 3)) from rfl,show Pr es 2=(1+cn es 2)*(1+cn es 3) from rfl,show Pr es 3=1+cn es 3 from rfl,show Pr es 4=1 from rfl,Nat.mul_one] at this;exact bf this g
def W2.lt(h:W2 t f M):t<M.length:=by obtain⟨n,h,_⟩:=h;exact qd h
theorem St.set(S:St t f M Z)(hp:M.length<=p)(R:t<M.length):St t f M (Z.set p o):=by obtain⟨n,h,U⟩:=S.has;exact⟨by simpa using S.len,⟨n,by rw[jx (by lia)];exact h,U⟩,λa u G e=>by rw[jx (by have:=qd e;lia)];exact S.keep a u G e⟩
def St.keep'(S:St t f M Z)(k:lq Z M2):St t f M M2:=S.trans (.of S.has k)
theorem St.refl(h:W2 t f M):St t f M M:=.of h (lq.refl M)
abbrev EY(t:Nat)(b1 b2 b3 b4 b5 b6 b7 b8:Option D):Env:=[sR t,b1,b2,b3,b4,b5,b6,b7,b8]
theorem auk(M:dg):∀{v:Nat},v<4->∃z:Nat,t6 (.vl [.int 1,.int 1,.int 2,.int 3]) (.int v) M=some (.int z)/\1<=z/\z<=3
 |0,_=>⟨1,rfl,by decide,by decide⟩|1,_=>⟨1,rfl,by decide,by decide⟩|2,_=>⟨2,rfl,by decide,by decide⟩|3,_=>⟨3,rfl,by decide,by decide⟩
def sy1(R:1<=m)(hs:W2 t f M)(hp:M1[p]?=some (.lst []))(S:St t f M M1)(hl:M.length<=p) :
 ∃Z U G M',Av.den (PW m) (EY t (sR p) none none none none none none none) M1=.ok (.next,EY t (sR p) U G none none none none none) M'/\M'[p]?=some (.lst (Z.map aD))/\Rnd Z/\1<=Z.length/\Z.length<=6/\St t f M M':=by
 unfold Av;obtain⟨v,M2,e2,hv,s2,l2⟩:=uq (m:=m) (many:=6) R S.has (by decide) (by decide);have tl:=hs.lt;obtain⟨qq,M',e,Z,U,G,rfl,g1,g2,g3,g4⟩:=yx (W:=PW m) (n:=1+v) (M1:=M2) (t:=.name 2) (b:=Aq) (ρ:=EY t (sR p) none none none none none none none) (M:=M1) (it:=.bin .add (.i 1) (.call 2 (.p (.v 0) (.i 6)))) (by
  simp[e2]) (by lia) (λi ρ M3=>∃(Z:List Ar)(U G:Option D),ρ=EY t (sR p) U G none none none none none/\M3[p]?=some (.lst (Z.map aD))/\Rnd Z/\Z.length=i/\St t f M M3) ⟨[],none,none,rfl,s2.keep _ _ (by lia) hp,⟨by simp⟩,rfl,S.trans s2⟩ (λi ρ M3 hi hI=>by
  obtain⟨Z,U,G,rfl,g1,g2,g3,g4⟩:=hI;obtain⟨a,M4,e4,h4,s4,_⟩:=uq (m:=m) (many:=4) R g4.has (by decide) (by decide);obtain⟨c,M5,e5,h5,s5,_⟩:=uq (m:=m) (many:=4) R s4.has (by decide) (by decide);obtain⟨z,e6,z1,z2⟩:=auk M5 (v:=c) (by lia);obtain⟨x,M7,e7,h7,s7,_⟩:=uq (m:=m) (many:=z) R s5.has (by lia) (by lia);have S7:St t f M M7:=((g4.trans s4).trans s5).trans s7;have p4:M4[p]?=some (.lst (Z.map aD)):=s4.keep _ _ (by lia) g1;have p7:M7[p]?=some (.lst (Z.map aD)):=s7.keep _ _ (by lia) (s5.keep _ _ (by lia) p4);have ei:((a:Int)+1+(x:Int))=((a+1+x:Nat):Int):=by lia
  refine⟨_,.next,EY t (sR p) (sI i) (sI a) none none none none none,M7.set p (.lst ((Z++[(a,a+1+x)]).map aD)),rfl,?_,.inl rfl,Z++[(a,a+1+x)],_,_,rfl,nq p7,⟨λe he=>?_⟩,by simp;lia,S7.set hl tl⟩
  .show Aq.den (PW m) (EY t (sR p) (sI i) G none none none none none) M3=_
   simp only[Aq];simp[e4,Dp p4,e5,e6,e7,Al p7 (d:=.tup [.int (a:Int),.int ((a:Int)+1+(x:Int))]) (by simp;lia),aD]
  .rcases bh.mp he with q|q
   .exact g2.r e q
   .simp at q;subst q
    exact⟨by show a<=3;lia,by show a<a+1+x;lia,by show a+1+x<=6;lia⟩)
 exact⟨Z,U,G,M',e,g1,g2,by lia,by lia,g4⟩
def sy2(hm:1<=m)(S:St t f M G)(tl:t<M.length)(hd:∀M2,St t f M M2->jl M2 d=some (es.map aD))(E:Ends es V) :
 ∃(Z:List Gn)(U:dg),Ao.den (PW m) (EY t (some d) b2 b3 b4 b5 none none none) G=.ok (.ref U.length) (U++[.lst (Z.map Gn.toD)])/\(∀g∈Z,Gd es g)/\Z.length<=3/\St t f M U/\G.length<=U.length/\(∀a o,a≠t->G[a]?=some o->U[a]?=some o):=by
 unfold Ao;obtain⟨v,M2,e2,hv,s2,l2⟩:=uq (m:=m) (many:=4) hm S.has (by decide) (by decide);have hf:=E.few;have hp:=E.pos;obtain⟨ys,U,e,Z,rfl,h1,h2,R,h4,h5⟩:=Bj (W:=PW m) (v:=false) (k:=1) (n:=v) (M1:=M2) (t:=.name 9) (e:=.tup (.p (.cst (.str (PySem.Str.ofString "apart"))) (.call 2 (.p (.v 0) (.l (.v 1)))))) (ρ:=EY t (some d) b2 b3 b4 b5 none none none) (M:=G) (it:=.call 2 (.p (.v 0) (.i 4))) (by simp[e2]) (by lia)
  (λi xs M3=>∃Z:List Gn,xs=Z.map Gn.toD/\(∀g∈Z,Gd es g)/\Z.length=i/\St t f M M3/\G.length<=M3.length/\(∀a o,a≠t->G[a]?=some o->M3[a]?=some o)) ⟨[],rfl,by simp,rfl,S.trans s2,s2.len,s2.keep⟩ (λi xs M3 hi hI=>by
   obtain⟨Z,rfl,h1,h2,R,h4,h5⟩:=hI;have ll:=Kg (hd M3 R);rw[bx] at ll;obtain⟨k,M4,e4,hk,s4,_⟩:=uq (m:=m) (many:=es.length) hm R.has (by lia) (by lia);refine⟨_,Gn.toD (.apart k),M4,rfl,?_,Z++[.apart k],by simp,λg hg=>?_,by simp;lia,R.trans s4,bf h4 s4.len,λa o n h=>s4.keep a o n (h5 a o n h)⟩
   .simp[ll,e4,Gn.toD]
   .rcases bh.mp hg with q|q
    .exact h1 g q
    .simp at q;subst q;exact Int.ofNat_lt.mp hk)
 exact⟨Z,U,e,h1,by lia,R,h4,h5⟩
def agk(x:List Nat×List Nat):yu .add (.tup [.str (PySem.Str.ofString "same")]) (pD x) M=.ok (Gn.toD (.same x.1 x.2)) M:=by rw[pD,Hg _ _ (by simp)];rfl
def sy0{gs:List Gn}(hm:1<=m)(S:St t f M R)(tl:t<M.length)(hg:R[g]?=some (.lst (gs.map Gn.toD)))(qq:p≠g)(qv:M.length<=g)(M9:M.length<=p)(hp:R[p]?=some (.lst ((L:List (List Nat×List Nat)).map pD)))(hb:∀x∈L,Lf es x.1 x.2)(hl:L.length<=3600)(Ow:L≠[])(qk:∀g∈gs,Gd es g)(q1:gs.length<=3) :
 ∃(Z:List Gn)(G:Option D)(M':dg),An.den (PW m) (EY t b1 b2 b3 b4 (sR p) (sR g) none none) R=.ok (.next,EY t b1 G b3 b4 (sR p) (sR g) none none) M'/\M'[g]?=some (.lst (Z.map Gn.toD))/\M'[p]?=some (.lst (L.map pD))/\(∀g∈Z,Gd es g)/\Z.length<=6/\St t f M M':=by
 unfold An;obtain⟨v,M2,e2,hv,s2,l2⟩:=uq (m:=m) (many:=4) hm S.has (by decide) (by decide);have lp:0<L.length:=jn.mpr Ow
 obtain⟨q0,M',e,Z,G,rfl,h1,h2,h3,h4,h5⟩:=yx (W:=PW m) (n:=v) (M1:=M2) (t:=.name 2) (b:=Am) (ρ:=EY t b1 b2 b3 b4 (sR p) (sR g) none none) (M:=R) (it:=.call 2 (.p (.v 0) (.i 4))) (by simp[e2]) (by lia)
  (λi ρ U=>∃(Z:List Gn)(G:Option D),ρ=EY t b1 G b3 b4 (sR p) (sR g) none none/\U[g]?=some (.lst (Z.map Gn.toD))/\U[p]?=some (.lst (L.map pD))/\(∀g∈Z,Gd es g)/\Z.length<=3+i/\St t f M U) ⟨gs,b2,rfl,s2.keep _ _ (by lia) hg,s2.keep _ _ (by lia) hp,qk,by lia,S.trans s2⟩ (λi ρ U hi hI=>by
   obtain⟨Z,G,rfl,h1,h2,h3,h4,h5⟩:=hI;obtain⟨k,M4,e4,hk,s4,_⟩:=uq (m:=m) (many:=L.length) hm h5.has (by lia) (by lia);have ll:=len_list (gq h2);rw[bx] at ll;have g4:=s4.keep _ _ (show g≠t by lia) h1;have p4:=s4.keep _ _ (show p≠t by lia) h2;obtain⟨x,hx⟩:∃x,L[k]?=some x:=⟨_,dz (by lia)⟩;have ix:t6 (.ref p) (.int k) M4=some (pD x):=w5 (gq p4) (gj _) (by simp[hx]);refine⟨_,.next,EY t b1 (sI i) b3 b4 (sR p) (sR g) none none,M4.set g (.lst ((Z++[Gn.same x.1 x.2]).map Gn.toD)),rfl,?_,.inl rfl,Z++[Gn.same x.1 x.2],_,rfl,nq g4,by rw[jx (oh qq)];exact p4,λy hy=>?_,by simp;lia,(h5.trans s4).set qv tl⟩
   .show Am.den (PW m) (EY t b1 (sI i) b3 b4 (sR p) (sR g) none none) U=_
    simp only[Am];simp[Dp h1,ll,e4,ix,agk,Al g4 (d:=Gn.toD (.same x.1 x.2)) (by simp;lia)]
   .rcases bh.mp hy with q|q
    .exact h3 y q
    .simp at q;subst q;exact hb x (aq hx))
 exact⟨Z,G,M',e,h1,h2,h3,by lia,h5⟩
def Tz(Z:List D)(n:Nat):Dg Z (some (n:Int)) none=Z.drop n:=by
 simp only[Dg,clip];rw[di (by lia),j7,pq (by simp)];rcases Nat.le_total n Z.length with h|h
 .rw[v9 h]
 .rw[Nat.min_eq_right h,List.drop_length,List.drop_of_length_le h]
def abi(Z:List D)(n:Nat):Dg Z none (some (n:Int))=Z.take n:=by
 simp only[Dg,clip,List.drop_zero,Nat.sub_zero];rw[di (by lia),j7];rcases Nat.le_total n Z.length with h|h
 .rw[v9 h]
 .rw[Nat.min_eq_right h,q8,pq h]
def aj1(h:M[g]?=some (.lst ds))(G Z:Option Int):Ai (.ref g) G Z M=some (.vl (Dg ds G Z)):=by simp[Ai,dw,h]
def Zd(Z:List D):qw .tuple [.vl Z] M=.ok (.tup Z) M:=rfl
def tlS:jw:=.c (.a 5 (.call 21 (.o (.v 1)))) (.c (.a 6 Ao) (.c An (.c (.a 7 (.call 2 (.p (.v 0) (.bin .add (.i 1) (.l (.v 6)))))) (.q (.a 8 yl) (.f (.or (.cmp .eq (.v 8) (.Df .z)) (.cmp .eq (.call 2 (.p (.v 0) (.i 8))) (.i 0))) (.o (.a 8 (.v 5)))) (.ret (.tup (.q (.blt .tuple (.o (.v 1))) (.blt .tuple (.o (.bin .add (.cut (.v 6) (.some (.v 7)) .none) (.cut (.v 6) .none (.some (.v 7)))))) (.ix (.v 8) (.call 2 (.p (.v 0) (.l (.v 8))))))))))))
def aj2(hm:2<=m)(hs:W2 t f M)(E:Ends es V)(hd:∀M5,St t f M M5->jl M5 d=some (es.map aD)) :
 ∃s qk M',tlS.den (PW m) (EY t (some d) b2 b3 b4 none none none none) M=.ok (.ret s.toD,qk) M'/\Fe s V/\St t f M M':=by
 have tl:=hs.lt;obtain⟨p,L,M1,e1,p1,P,hL⟩:=agf (m:=m) hm E (hd M (.refl hs));have S1:St t f M M1:=.of hs P.k;obtain⟨gs,Z,e2,g2,n2,S2,l2,k2⟩:=sy2 (m:=m) (b2:=b2) (b3:=b3) (b4:=b4) (b5:=sR p) (by lia) S1 tl hd E;have pl:=qd P.g;have qv:St t f M (Z++[.lst (gs.map Gn.toD)]):=S2.keep' (lq.app _ _);have lp:0<L.length:=jn.mpr hL
 have Ll:=P.l;obtain⟨R,c2,M3,e3,g3,p3,d3,n3,S3⟩:=sy0 (m:=m) (b1:=some d) (b2:=b2) (b3:=b3) (b4:=b4) (g:=Z.length) (p:=p) (gs:=gs) (L:=L) (by lia) qv tl wu (by lia) (by have:=S2.len;lia) p1 (u6 (k2 _ _ (by lia) P.g)) P.b P.l hL g2 n2;have l3:=len_list (gq g3);rw[bx] at l3;obtain⟨u,M4,e4,hu,S4,_⟩:=uq (m:=m) (many:=1+R.length) (by lia) S3.has (by lia) (by lia);have p4:=S4.keep _ _ (show p≠t by lia) p3;have g4:=S4.keep _ _ (show Z.length≠t by have:=S2.len;lia) g3;have c1:yl.den (PW m) (EY t (some d) c2 b3 b4 (sR p) (sR Z.length) (sI u) none) M4=.ok (.vl ((L.filter λx=>decide (x.1≠x.2)).map pD)) M4:=by unfold yl;rw[Cu (d:=.ref p) (M1:=M4) (xs:=L) (f:=pD) (q:=λx=>decide (x.1≠x.2)) (g:=pD) rfl (Bh (gq p4)) (by lia) (λx hx=>⟨_,rfl,by simp[pD,La],λ_=>by simp⟩)];rfl
 have fin:∃v8 X M5,((yt.f (.or (.cmp .eq (.v 8) (.Df .z)) (.cmp .eq (.call 2 (.p (.v 0) (.i 8))) (.i 0))) (.o (.a 8 (.v 5)))).den (PW m) (EY t (some d) c2 b3 b4 (sR p) (sR Z.length) (sI u) (some (.vl ((L.filter λx=>decide (x.1≠x.2)).map pD)))) M4=.ok (.next,EY t (some d) c2 b3 b4 (sR p) (sR Z.length) (sI u) (some v8)) M5)/\dw M5 v8=some (X.map pD)/\(∀G,St t f M5 G->dw G v8=some (X.map pD))/\X≠[]/\X.length<=3600/\(∀x∈X,Lf es x.1 x.2)/\St t f M4 M5:=by
  by_cases h:L.filter (λx=>decide (x.1≠x.2))=[]
  .refine⟨.ref p,L,M4,?_,gq p4,λG s=>gq (s.keep _ _ (by lia) p4),hL,Ll,P.b,.refl S4.has⟩
   rw[h];simp[eq_nil]
  .obtain⟨q,M5,e5,hq,U,_⟩:=uq (m:=m) (many:=8) (by lia) S4.has (by decide) (by decide)
   have he:((L.filter λx=>decide (x.1≠x.2)).map pD).isEmpty=false:=by rw[List.isEmpty_map];simpa using h
   by_cases q0:q=0
   .have p5:=U.keep _ _ (show p≠t by lia) p4
    refine⟨.ref p,L,M5,?_,gq p5,λG s=>gq (s.keep _ _ (by lia) p5),hL,Ll,P.b,U⟩;subst q0;rw[Wr,amx,O4];simp only[Jh,Be,afa,Res.nu,afi,eq_nil,he,ou,Res.m8,amy];simp[e5]
   .refine⟨.vl ((L.filter λx=>decide (x.1≠x.2)).map pD),L.filter (λx=>decide (x.1≠x.2)),M5,?_,rfl,λ_ _=>rfl,h,bf (jm _ _) Ll,λx hx=>P.b x (n8.mp hx).1,U⟩
    rw[Wr,amx,O4];have:¬(q:Int)=0:=by lia
    simp only[Jh,Be,afa,Res.nu,afi,eq_nil,he,ou,Res.m8,amy];simp[e5,this,q0]
 obtain⟨v8,X,M5,e5,a5,k5,nX,lX,bX,U⟩:=fin;have l5:=len_list a5;rw[bx] at l5;have xp:0<X.length:=jn.mpr nX
 obtain⟨v,G,e6,hv,S6,_⟩:=uq (m:=m) (many:=X.length) (by lia) U.has (by lia) (by lia);obtain⟨x,hx⟩:∃x,X[v]?=some x:=⟨_,dz (by lia)⟩;have i6:t6 v8 (.int v) G=some (pD x):=w5 (k5 G S6) (gj _) (by simp[hx]);have qq:St t f M M5:=(S3.trans S4).trans U;have d5:=hd M5 qq;have t5:qw .tuple [d] M5=.ok (.tup (es.map aD)) M5:=by simp[qw,d5]
 have g5:=U.keep _ _ (show Z.length≠t by have:=S2.len;lia) g4;refine⟨⟨es,R.drop u++R.take u,x.1,x.2⟩,EY t (some d) c2 b3 b4 (sR p) (sR Z.length) (sI u) (some v8),G,?_,⟨E,λg hg=>?_,?_,bX x (aq hx)⟩,qq.trans S6⟩
 .have q1:yl.den (PW m) [sR t,some d,c2,b3,b4,sR p,sR Z.length,sI u,none] M4=_:=c1
  simp only[tlS];simp[e1,e2,e3,l3,e4];rw[q1];simp only[Res.nu,Res.m8,K6,Qd,List.set_cons_succ,List.set_cons_zero,Bg];simp only[Bf,e5,Bg];simp[t5,aj1 g5,Tz,abi,l5];rw[Eg _ _ (by simp;lia)];simp[Zd,l5,e6,i6,Yq.toD,pD]
 .rcases bh.mp hg with q|q
  .exact d3 g (List.mem_of_mem_drop q)
  .exact d3 g (List.mem_of_mem_take q)
 .simp;lia
def knD:List D:=kn.map λZ=>.tup (Z.map aD)
noncomputable def kX1:Ex:=(.Df (.q (.tup (.q (.tup (.p (.i 0) (.i 1))) (.tup (.p (.i 0) (.i 1))) (.tup (.p (.i 1) (.i 2))))) (.tup (.c (.tup (.p (.i 0) (.i 1))) (.q (.tup (.p (.i 1) (.i 2))) (.tup (.p (.i 0) (.i 2))) (.tup (.p (.i 2) (.i 3)))))) (.tup (.c (.tup (.p (.i 0) (.i 1))) (.c (.tup (.p (.i 0) (.i 2))) (.q (.tup (.p (.i 1) (.i 3))) (.tup (.p (.i 2) (.i 3))) (.tup (.p (.i 3) (.i 4)))))))))
noncomputable def kX2:Ex:=(.Df (.p (.tup (.c (.tup (.p (.i 0) (.i 1))) (.c (.tup (.p (.i 1) (.i 2))) (.c (.tup (.p (.i 0) (.i 3))) (.c (.tup (.p (.i 3) (.i 4))) (.q (.tup (.p (.i 1) (.i 4))) (.tup (.p (.i 2) (.i 5))) (.tup (.p (.i 4) (.i 5))))))))) (.tup (.c (.tup (.p (.i 3) (.i 1))) (.c (.tup (.p (.i 3) (.i 1))) (.q (.tup (.p (.i 1) (.i 0))) (.tup (.p (.i 1) (.i 0))) (.tup (.p (.i 0) (.i 2)))))))))
def fS:yt:=.f (.cmp .gt (.call 2 (.p (.v 0) (.i 3))) (.i 0)) (.o (.a 1 (.ix (.v 4) (.call 2 (.p (.v 0) (.i 5))))))
def adg(hm:3<=m)(hs:W2 t f M):∃s V M',prog.call m 22 [.ref t] M=.ok s.toD M'/\Fe s V/\St t f M M':=by
 rw[call_of (bf (by decide) hm) rfl];have tl:=hs.lt;have S0:St t f M (M++[.lst []]):=.of hs (lq.app _ _);obtain⟨es,Z,G,M1,e1,g1,R,n1,n2,S1⟩:=sy1 (m:=m-1) (by lia) hs wu S0 (bc _);obtain⟨v,M2,e2,hv,S2,_⟩:=uq (m:=m-1) (many:=3) (by lia) S1.has (by decide) (by decide);have g2:=S2.keep _ _ (show M.length≠t by lia) g1;have qq:∃d es V M3,ifK ((jw.o (.a 1 (.ix (.v 4) (.call 2 (.p (.v 0) (.i 5)))))).den (PW (m-1)) (EY t (sR M.length) Z G (some (.vl knD)) none none none none)) (jw.nil.den (PW (m-1)) (EY t (sR M.length) Z G (some (.vl knD)) none none none none)) (.ok (.bl (decide (0<(v:Int)))) M2)=.ok (.next,EY t (some d) Z G (some (.vl knD)) none none none none) M3/\Ends es V/\(∀M5,St t f M3 M5->jl M5 d=some (es.map aD))/\St t f M2 M3:=by
  by_cases h:v=0
  .subst h
   exact⟨.ref M.length,es,_,M2,rfl,agj R n1 n2,λM5 s=>Bh (gq (s.keep _ _ (by lia) g2)),.refl S2.has⟩
  .obtain⟨k,M3,e3,hk,S3,_⟩:=uq (m:=m-1) (many:=5) (by lia) S2.has (by decide) (by decide)
   obtain⟨x,hx⟩:∃x,kn[k]?=some x:=⟨_,dz (by show k<5;lia)⟩;obtain⟨V,E⟩:=ajz (aq hx);refine⟨.tup (x.map aD),x,V,M3,?_,E,λ_ _=>rfl,S3⟩;have h':(0:Int)<(v:Int):=by lia
   have i3:t6 (.vl knD) (.int k) M3=some (.tup (x.map aD)):=w5 rfl (gj _) (by simp[knD,hx]);rw[decide_eq_true h',atv];simp[e3,i3]
 obtain⟨d,q1,V,M3,e3,E,hd,S3⟩:=qq;obtain⟨s,q0,M4,e4,h4,S4⟩:=aj2 (m:=m-1) (b2:=Z) (b3:=G) (b4:=some (.vl knD)) (by lia) S3.has E hd;refine⟨s,V,M4,?_,h4,((S1.trans S2).trans S3).trans S4⟩;have qv:∀U M,kX1.den (PW (m-1)) U M=.ok (.vl (knD.take 3)) M:=λU M=>rfl
 have qk:∀U M,kX2.den (PW (m-1)) U M=.ok (.vl (knD.drop 3)) M:=λU M=>rfl
 have ka:∀M,yu .add (.vl (knD.take 3)) (.vl (knD.drop 3)) M=.ok (.vl knD) M:=λM=>by rw[Eg _ _ (by rw[<- jj,u5];show 5<=100000;decide),u5]
 have b0:Kr=.c (.a 1 (.lst .z)) (.c Av (.c (.a 4 kX1) (.c (.a 4 (.bin .add (.v 4) kX2)) (.c fS tlS)))):=rfl;have e0:fS.den (PW (m-1)) (EY t (sR M.length) Z G (some (.vl knD)) none none none none) M1=.ok (.next,EY t (some d) Z G (some (.vl knD)) none none none none) M3:=by rw[fS,Wr,O4,Wn];simp only[zb,Be,aoj,Fo,Res.nu,e2,cmp_gt,ou,Res.m8];exact e3
 simp only[Fn.run,Ks,b0];simp[MW.new,e1,qv,qk,ka,e0,e4]
def Ze(Z:List D)(U G:Option Int):Ai (.tup Z) U G M=some (.tup (Dg Z U G)):=rfl
def aj3(Z:List (List Int))(n:Nat):Ai (Bx Z) none (some (n:Int)) M=some (Bx (Z.take n)):=by rw[Bx,Ze,abi,<- List.map_take];rfl
def adh(Z:List (List Int))(n:Nat):Ai (Bx Z) (some (n:Int)) none M=some (Bx (Z.drop n)):=by rw[Bx,Ze,Tz,<- List.map_drop];rfl
def Xa{G:Type}(F:G->D){Z:List G}(h:Z≠[]):Ai (.tup (Z.map F)) none (some (-1)) M=some (.tup (Z.dropLast.map F)):=by obtain⟨u,k,rfl⟩:∃u k,Z=u++[k]:=⟨Z.dropLast,Z.getLast h,(qj h).symm⟩;rw[Ze,jh,d8,vg,Qw,List.dropLast_concat]
def Vn(a b:List (List Int))(h:a.length+b.length<=100000):yu .add (Bx a) (Bx b) M=.ok (Bx (a++b)) M:=by rw[Bx,Bx,Hg _ _ (by simpa using h)];simp[Bx]
theorem aul(M:dg)(a b c:Int):∀{v:Nat},v<3->∃z:Int,t6 (.vl [.int a,.int b,.int c]) (.int v) M=some (.int z)
 |0,_=>⟨_,rfl⟩|1,_=>⟨_,rfl⟩|2,_=>⟨_,rfl⟩
def Fj(p:List Int×List (List Int)):D:=.tup [j0 p.1,Bx p.2]
structure Shp(n:Nat)(p:List Int×List (List Int)):Prop where
 z:p.1.length<=10
 a:p.2.length<=11
 r:∀r∈p.2,r.length<=n
def aj4{zs:X2}{acts:List (List Int)}(hm:3<=m)(hs:W2 t f M)(zn:zs≠[])(an:acts≠[])(zl:zs.length<=8)(al:acts.length<=10)(hr:∀r∈acts,r.length<=29) :
 ∃p M',prog.call m 32 [.ref t,j0 zs,Bx acts] M=.ok (Fj p) M'/\Shp 30 p/\St t f M M':=by
 rw[call_of (bf (by decide) hm) rfl];obtain⟨v,M1,e1,hv,Z,_⟩:=uq (m:=m-1) (many:=8) (by lia) hs (by decide) (by decide);have zp:0<zs.length:=jn.mpr zn
 have ap:0<acts.length:=jn.mpr an
 have lz:∀M,qw .len [j0 zs] M=.ok (.int zs.length) M:=λM=>by simp[j0,um]
 have la:∀M,qw .len [Bx acts] M=.ok (.int acts.length) M:=λM=>by simp[Bx,um]
 have U:∀r∈acts,r.length<=30:=λr h=>by have:=hr r h;lia
 simp only[Fn.run,Od,Oc]
 by_cases R:(v:Int)=0
 .refine⟨(zs.dropLast,acts),M1,?_,⟨by simp;lia,by simp;lia,U⟩,Z⟩
  have c:Ai (j0 zs) none (some (-1)) M1=some (j0 zs.dropLast):=Xa D.int zn;simp[e1,R,c,Fj]
 by_cases v1:(v:Int)=1
 .obtain⟨x,M2,e2,_,G,_⟩:=uq (m:=m-1) (many:=2) (by lia) Z.has (by decide) (by decide)
  refine⟨(zs++[(x:Int)],acts),M2,?_,⟨by simp;lia,by simp;lia,U⟩,Z.trans G⟩;simp[e1,R,v1,e2,add_one zs x (by lia),Fj]
 by_cases v2:(v:Int)=2
 .refine⟨(zs,acts.dropLast),M1,?_,⟨by simp;lia,by simp;lia,λr h=>U r (List.dropLast_subset _ h)⟩,Z⟩
  have c:Ai (Bx acts) none (some (-1)) M1=some (Bx acts.dropLast):=Xa j0 an;simp[e1,R,v1,v2,c,Fj]
 by_cases v3:(v:Int)=3
 .refine⟨(zs,acts++[[]]),M1,?_,⟨by simp;lia,by simp;lia,λr h=>?_⟩,Z⟩
  .have c:yu .add (Bx acts) (.tup [.tup []]) M1=.ok (Bx (acts++[[]])) M1:=Vn acts [[]] (by simp;lia)
   simp[e1,R,v1,v2,v3,c,Fj]
  .rcases bh.mp h with q|q
   .exact U r q
   .simp at q;subst q;simp
 by_cases v4:(v:Int)=4
 .obtain⟨n,M2,e2,hn,G,_⟩:=uq (m:=m-1) (many:=zs.length) (by lia) Z.has (by lia) (by lia)
  obtain⟨k,M3,e3,hk,s3,_⟩:=uq (m:=m-1) (many:=3) (by lia) G.has (by decide) (by decide);have ix:∀M,t6 (j0 zs) (.int n) M=some (.int (Du zs n)):=λM=>Gf (gj _) (by lia)
  obtain⟨z,pk⟩:=aul M3 1 (-1) (-2-Du zs n) (v:=k) (by lia);have ei:((n:Int)+1)=((n+1:Nat):Int):=by lia
  have f1:∀M,Ai (j0 zs) (some ((n:Int)+1)) none M=some (j0 (zs.drop (n+1))):=λM=>by rw[ei];exact Qx zs (n+1)
  have a1:yu .add (j0 (zs.take n)) (.tup [.int (Du zs n+z)]) M3=.ok (j0 (zs.take n++[Du zs n+z])) M3:=add_one _ _ (by simp;lia);have a2:yu .add (j0 (zs.take n++[Du zs n+z])) (j0 (zs.drop (n+1))) M3=.ok (j0 (zs.take n++[Du zs n+z]++zs.drop (n+1))) M3:=Pa _ _ (by simp;lia);refine⟨(zs.take n++[Du zs n+z]++zs.drop (n+1),acts),M3,?_,⟨by simp;lia,by simp;lia,U⟩,(Z.trans G).trans s3⟩;simp[-List.append_assoc,e1,R,v1,v2,v3,v4,lz,e2,af8,ix,e3,pk,a1,f1,a2,Fj]
 .obtain⟨n,M2,e2,hn,G,_⟩:=uq (m:=m-1) (many:=acts.length) (by lia) Z.has (by lia) (by lia)
  have qq:n<acts.length:=by lia
  have ra:uy acts n∈acts:=aq (i:=n) (by simp[uy,List.getD,qq]);obtain⟨r',M3,e3,hk,s3⟩:=ajv (m:=m-1) (r:=uy acts n) (by lia) G.has (by have:=hr _ ra;lia);have ei:((n:Int)+1)=((n+1:Nat):Int):=by lia
  have f1:∀M,Ai (Bx acts) (some ((n:Int)+1)) none M=some (Bx (acts.drop (n+1))):=λM=>by rw[ei];exact adh acts (n+1)
  have a1:yu .add (Bx (acts.take n)) (.tup [j0 r']) M3=.ok (Bx (acts.take n++[r'])) M3:=Vn _ [r'] (by simp;lia);have a2:yu .add (Bx (acts.take n++[r'])) (Bx (acts.drop (n+1))) M3=.ok (Bx (acts.take n++[r']++acts.drop (n+1))) M3:=Vn _ _ (by simp;lia);refine⟨(zs,acts.take n++[r']++acts.drop (n+1)),M3,?_,⟨by simp;lia,by simp;lia,λr h=>?_⟩,(Z.trans G).trans s3⟩
  .have w0:¬v=0:=by lia
   have w1:¬v=1:=by lia
   have w2:¬v=2:=by lia
   have w3:¬v=3:=by lia
   have w4:¬v=4:=by lia
   simp[-List.append_assoc,e1,R,v1,v2,v3,v4,w0,w1,w2,w3,w4,la,e2,aj3,Jx qq,e3,a1,f1,a2,Fj]
  .have qk:=hr _ ra
   simp only[bh] at h;rcases h with(q|q)|q
   .exact U r (List.mem_of_mem_take q)
   .simp at q;subst q;lia
   .exact U r (List.mem_of_mem_drop q)
abbrev EZ(t:Nat)(es:List Ar)(n p:Nat)(b4 b5 b6 b7:Option D):Env:=[sR t,some (.tup (es.map aD)),sI n,sR p,b4,b5,b6,b7]
noncomputable def atN(r:Y3)(x:Nat):Nat:=r.getD x 0
def Zg{Z:Y3}(h:M[p]?=some (.lst (Z.map nD)))(G:i<Z.length):t6 (.ref p) (.int (i:Nat)) M=some (.int (atN Z i:Nat)) :=
 w5 (gq h) (gj _) (by simp[G,nD,atN,List.getD])
def Pb(E:Ends es V):xj es<=7:=by
 have U:es≠[]:=jt E.pos;unfold xj;cases q:es.map mx with
 |nil=>exact gn _
 |cons a l =>
  have all:∀x∈a::l,x<8:=λx Z=>by rw[<- q] at Z;obtain⟨e,G,rfl⟩:=dh.mp Z;have:=E.sm e G;unfold mx;split<;>lia
  have:=Vh (n:=8) l a (all a bz) λx Z=>all x (bu _ Z)
  exact vd this
structure Szs(es:List Ar)(zs:Y3):Prop where
 l:zs.length=xj es+1
 s:∀z∈zs,z<=3
def Szs.at(Z:Szs es zs)(i:Nat):atN zs i<=3:=by
 rcases iw i zs.length with h|h
 .exact Z.s _ (aq (i:=i) (by simp[atN,List.getD,h]))
 .simp[atN,List.getD,h]
def ls3{n:Nat}(hm:1<=m)(E:Ends es V)(hs:W2 t f M)(hn:n<=3):∃Z M',Ha.den (PW m) [sR t,some (.tup (es.map aD)),sI n,none,none,none,none,none] M=.ok (.ref M'.length) (M'++[.lst (Z.map nD)])/\Szs es Z/\St t f M M':=by
 unfold Ha;have c:=Vb (W:=PW m) (M:=M) (ρ:=[sR t,D.tup (es.map aD),sI n,none,none,none,none,none]) (v:=1) (y:=8) (d:=.tup (es.map aD)) rfl rfl rfl E.few;have tf:=Pb E;obtain⟨ys,M',e,Z,rfl,h1,U,G⟩:=Bj (W:=PW m) (v:=false) (k:=1) (n:=1+xj es) (M1:=M) (t:=.name 8) (e:=.call 2 (.p (.v 0) (.bin .add (.v 2) (.i 1)))) (ρ:=[sR t,D.tup (es.map aD),sI n,none,none,none,none,none]) (M:=M) (it:=.bin .add (.i 1) (.blt .max (.o G9))) (by
  have c':G9.den (PW m) [sR t,some (.tup (es.map aD)),sI n,none,none,none,none,none] M=_:=c;simp[-List.map_map,c',Vc (jt E.pos)]) (by lia)
  (λi R M3=>∃Z:List Nat,R=Z.map nD/\Z.length=i/\(∀z∈Z,z<=3)/\St t f M M3) ⟨[],rfl,rfl,by simp,.refl hs⟩ (λi R M3 hi hI=>by
   obtain⟨Z,rfl,h1,U,G⟩:=hI;obtain⟨k,M4,e4,hk,s4,_⟩:=uq (m:=m) (many:=n+1) hm G.has (by lia) (by lia);refine⟨_,nD k,M4,rfl,?_,Z++[k],by simp,by simp;lia,λz hz=>?_,G.trans s4⟩
   .simp[e4,nD]
   .rcases bh.mp hz with q|q
    .exact U z q
    .simp at q;subst q;lia)
 exact⟨Z,M',e,⟨by lia,U⟩,G⟩
def ls2(E:Ends es V)(hp:M[p]?=some (.lst (zs.map nD)))(Z:Szs es zs) :
 ∃Ja R G M',G6.den (PW m) (EZ t es n p b4 b5 b6 none) M=.ok (.next,EZ t es n p b4 Ja R none) M'/\M'[p]?=some (.lst (G.map nD))/\Szs es G/\Fb p M M'/\M'.length=M.length:=by
 unfold G6;obtain⟨qq,M',e,Ja,R,G,rfl,h1,h2,h3,h4⟩:=Ay (W:=PW m) (it:=.v 1) (t:=.names [5,6]) (b:=yq) (ρ:=EZ t es n p b4 b5 b6 none) (M:=M) (M1:=M) (ds:=es.map aD) rfl
  (λi ρ U=>∃(Ja R:Option D)(G:Y3),ρ=EZ t es n p b4 Ja R none/\U[p]?=some (.lst (G.map nD))/\Szs es G/\Fb p M U/\U.length=M.length) ⟨b5,b6,zs,rfl,hp,Z,Fb.refl _ _,rfl⟩ (λi x ρ U hx hI=>by
   obtain⟨Ja,R,G,rfl,h1,h2,h3,h4⟩:=hI;obtain⟨a,hi,rfl⟩:∃a,es[i]?=some a/\aD a=x:=by simpa using hx
   have tp:=Ng (aq hi);have l:=h2.l;have x6:=Zg h1 (show a.2<G.length by lia)
   by_cases q:atN G a.2=0
   .refine⟨_,.next,EZ t es n p b4 (sI a.1) (sI a.2) none,U.set p (.lst ((G.set a.1 0).map nD)),rfl,?_,.inl rfl,_,_,G.set a.1 0,rfl,nq h1,⟨by simp[l],λz hz=>?_⟩,h3.trans (Fb.set _ _ _),by simp[h4]⟩
    .show yq.den (PW m) (EZ t es n p b4 (sI a.1) (sI a.2) none) U=_
     simp[yq,x6,q,U3 h1 (i:=(a.1:Int)) (d:=.int 0) (gj _) (by simp;lia),List.map_set,nD]
    .rcases List.mem_or_eq_of_mem_set hz with q|q
     .exact h2.s z q
     .lia
   .refine⟨_,.next,EZ t es n p b4 (sI a.1) (sI a.2) none,U,rfl,?_,.inl rfl,_,_,G,rfl,h1,h2,h3,h4⟩
    show yq.den (PW m) (EZ t es n p b4 (sI a.1) (sI a.2) none) U=_;have q':¬((atN G a.2:Nat):Int)=0:=by lia
    simp[yq,x6,q,q'])
 exact⟨Ja,R,G,M',e,h1,h2,h3,h4⟩
def ls1(E:Ends es V)(hp:M[p]?=some (.lst (zs.map nD)))(Z:Szs es zs) :
 ∃G Ja R U M',G8.den (PW m) (EZ t es n p none none none none) M=.ok (.next,EZ t es n p G Ja R none) M'/\M'[p]?=some (.lst (U.map nD))/\Szs es U/\Fb p M M'/\M'.length=M.length:=by
 unfold G8;obtain⟨qk,M',e,G,Ja,R,U,rfl,h1,h2,h3,h4⟩:=yx (W:=PW m) (n:=es.length) (M1:=M) (t:=.name 4) (b:=G7) (ρ:=EZ t es n p none none none none) (M:=M) (it:=.l (.v 1)) (by simp[um]) (by have:=E.few;lia)
  (λi ρ M1=>∃(G Ja R:Option D)(U:Y3),ρ=EZ t es n p G Ja R none/\M1[p]?=some (.lst (U.map nD))/\Szs es U/\Fb p M M1/\M1.length=M.length) ⟨none,none,none,zs,rfl,hp,Z,Fb.refl _ _,rfl⟩ (λi ρ M1 hi hI=>by
   obtain⟨G,Ja,R,U,rfl,h1,h2,h3,h4⟩:=hI;obtain⟨c5,c6,qq,M2,e2,g1,g2,g3,g4⟩:=ls2 (m:=m) (t:=t) (n:=n) (b4:=sI i) (b5:=Ja) (b6:=R) E h1 h2;exact⟨_,.next,EZ t es n p (sI i) c5 c6 none,M2,rfl,by simp[G7,e2],.inl rfl,_,_,_,qq,rfl,g1,g2,h3.trans g3,g4.trans h4⟩)
 exact⟨G,Ja,R,U,M',e,h1,h2,h3,h4⟩
def ls0(hm:1<=m)(E:Ends es V)(S:St t f M R)(tl:t<M.length)(hp:R[p]?=some (.lst (zs.map nD)))(M9:M.length<=p)(Z:Szs es zs)(hq:R[q]?=some (.lst []))(qq:M.length<=q)(qv:p≠q) :
 ∃(Ja Ea:Option D)(G:List (List Int))(M':dg),Gz.den (PW m) (EZ t es n p b4 b5 b6 (sR q)) R=.ok (.next,EZ t es n p b4 Ja Ea (sR q)) M'/\M'[q]?=some (.lst (G.map j0))/\M'[p]?=some (.lst (zs.map nD))/\G.length=es.length/\(∀r∈G,(r:X2).length<=3)/\St t f M M':=by
 unfold Gz;obtain⟨q0,M',e,Ja,Ea,G,rfl,h1,h2,h3,h4,h5⟩:=Ay (W:=PW m) (it:=.v 1) (t:=.names [5,6]) (b:=Dd) (ρ:=EZ t es n p b4 b5 b6 (sR q)) (M:=R) (M1:=R) (ds:=es.map aD) rfl
  (λi ρ U=>∃(Ja Ea:Option D)(G:List (List Int)),ρ=EZ t es n p b4 Ja Ea (sR q)/\U[q]?=some (.lst (G.map j0))/\U[p]?=some (.lst (zs.map nD))/\G.length=i/\(∀r∈G,r.length<=3)/\St t f M U) ⟨b5,b6,[],rfl,hq,hp,rfl,by simp,S⟩ (λi x ρ U hx hI=>by
   obtain⟨Ja,Ea,G,rfl,h1,h2,h3,h4,h5⟩:=hI;obtain⟨a,hi,rfl⟩:∃a,es[i]?=some a/\aD a=x:=by simpa using hx
   have il:=(ak.mp hi).1;have tp:=Ng (aq hi);have l:=Z.l;have x5:=Zg h2 (show a.1<zs.length by lia);have z5:=Z.at a.1;have z6:=Z.at a.2;obtain⟨ys,M3,e3,r,rfl,g1,g2,g3,g4⟩:=Bj (W:=PW m) (v:=true) (k:=1) (n:=atN zs a.1) (M1:=U) (t:=.name 8) (e:=.call 2 (.p (.v 0) (.blt .max (.p (.i 1) (.ix (.v 3) (.v 6)))))) (ρ:=EZ t es n p b4 (sI a.1) (sI a.2) (sR q)) (M:=U) (it:=.ix (.v 3) (.v 5)) (by simp[x5]) (by lia)
    (λi xs M3=>∃r:List Int,xs=r.map D.int/\r.length=i/\St t f M M3/\M3[p]?=some (.lst (zs.map nD))/\M3[q]?=some (.lst (G.map j0))) ⟨[],rfl,rfl,h5,h2,h1⟩ (λi xs M3 hi hI=>by
     obtain⟨r,rfl,g1,g2,g3,g4⟩:=hI;have x6:=Zg g3 (show a.2<zs.length by lia);obtain⟨k,M4,e4,hk,s4,_⟩:=uq (m:=m) (many:=if(1:Int)<(atN zs a.2:Nat) then((atN zs a.2:Nat):Int) else 1) hm g2.has (by split<;>lia) (by split<;>lia);refine⟨_,.int k,M4,rfl,?_,r++[(k:Int)],by simp,by simp;lia,g2.trans s4,s4.keep _ _ (by lia) g3,s4.keep _ _ (by lia) g4⟩;have mx:qw .max [.int 1,.int (atN zs a.2:Nat)] M3=.ok (.int (if(1:Int)<(atN zs a.2:Nat) then((atN zs a.2:Nat):Int) else 1)) M3:=rfl;simp[x6,mx,e4])
   have qk:Kw.den (PW m) (EZ t es n p b4 (sI a.1) (sI a.2) (sR q)) U=.ok (.vl (r.map D.int)) M3:=e3;refine⟨_,.next,EZ t es n p b4 (sI a.1) (sI a.2) (sR q),M3.set q (.lst ((G++[r]).map j0)),rfl,?_,.inl rfl,_,_,G++[r],rfl,nq g4,by rw[jx (oh qv)];exact g3,by simp;lia,λy hy=>?_,g2.set qq tl⟩
   .show Dd.den (PW m) (EZ t es n p b4 (sI a.1) (sI a.2) (sR q)) U=_
    simp only[Dd];simp[Dp h1,qk,Zd,Al g4 (d:=.tup (r.map D.int)) (by have:=E.few;simp;lia),j0]
   .rcases bh.mp hy with q|q
    .exact h4 y q
    .simp at q;subst q;lia)
 rw[bx] at h3;exact⟨Ja,Ea,G,M',e,h1,h2,h3,h4,h5⟩
def Pg(h:M[p]?=some (.lst ds)):qw .tuple [.ref p] M=.ok (.tup ds) M:=by simp[qw,jl,dw,h]
def Xb{n:Nat}(hm:2<=m)(E:Ends es V)(hs:W2 t f M)(hn:n<=3):∃(p:List Int×List (List Int))(M':dg),prog.call m 29 [.ref t,.tup (es.map aD),.int (n:Nat)] M=.ok (Fj p) M'/\p.1.length=xj es+1/\p.2.length=es.length/\(∀r∈p.2,r.length<=3)/\St t f M M':=by
 rw[call_of (bf (by decide) hm) rfl];have tl:=hs.lt;obtain⟨zs,R,e1,Z1,S1⟩:=ls3 (m:=m-1) (n:=n) (by lia) E hs hn;have m1:=S1.len;have Z:St t f M (R++[.lst (zs.map nD)]):=S1.keep' (lq.app _ _);obtain⟨b4,b5,b6,U,M2,e2,g2,Z2,k2,l2⟩:=ls1 (m:=m-1) (t:=t) (n:=n) E (M:=R++[.lst (zs.map nD)]) wu Z1;have S2:St t f M M2:=by obtain⟨x,h,ho⟩:=Z.has;exact⟨by have:=Z.len;lia,⟨x,k2 _ _ (by lia) h,ho⟩,λa o Ow he=>k2 _ _ (by have:=qd he;lia) (Z.keep a o Ow he)⟩
 have qq:=qd g2;have S3:St t f M (M2++[.lst []]):=S2.keep' (lq.app _ _);obtain⟨c5,c6,G,M4,e4,q4,p4,a4,r4,S4⟩:=ls0 (m:=m-1) (n:=n) (b4:=b4) (b5:=b5) (b6:=b6) (p:=R.length) (q:=M2.length) (by lia) E S3 tl (u6 g2) (by lia) Z2 wu (by have:=S2.len;lia) (by lia);refine⟨(U.map λ(x:Nat)=>(x:Int),G),M4,?_,by simp[Z2.l],a4,r4,S4⟩;simp only[Fn.run,Ob,Oa];simp[-List.map_map,e1,e2,MW.new,e4,Pg p4,Pg q4];simp[Fj,j0,Bx,nD,ik,gf]
def ao8(E:Ends es V)(W:Way es w):V (xg es w)<V (yz es w):=by
 have a:=afq E W;have b:=V_lt E W.Aw;have c:1<=w.length:=jn.mpr W.ne
 show V (xg es w)<V (at_ es (hw w)).1
 lia
structure Ox(es:List Ar)(st base n z:Nat)(M M1:dg)(cr:Nat->List Nat)(ct:Nat->List (List Nat))(X:List (List Nat)):Prop where
 k:lq M M1
 g:∀v,v<n->M1[base+v]?=some (.lst ((cr v).map D.ref))
 c:∀v,v<n->∀a∈cr v,base+n<=a/\a≠z/\M1[a]?=some (.lst ((ct a).map dm))/\ct a≠[]/\(ct a).length<=X.length+1/\∀w∈ct a,(w=[]/\v=st)\/(Way es w/\yz es w=st/\xg es w=v/\w∈X)
 l:∀v,v<n->(cr v).length<=X.length+1
 nd:∀v,v<n->(cr v).Nodup
 dj:∀v,v<n->∀a∈cr v,∀b∈cr v,∀w,w∈ct a->w∈ct b->a=b
def Ox.uniq(C:Ox es st base n z M M1 cr ct X)(hu:u<n)(hv:v<n)(R:a∈cr u)(h2:a∈cr v):u=v:=by
 obtain⟨-,-,-,G,-,c1⟩:=C.c u hu a R;obtain⟨-,-,-,-,-,U⟩:=C.c v hv a h2;obtain⟨w,hw⟩:=List.exists_mem_of_ne_nil _ G;rcases c1 w hw with⟨p,q⟩|⟨W,q1,q2,-⟩<;>rcases U w hw with⟨p',q'⟩|⟨Z,r1,r2,-⟩
 .lia
 .exact absurd p Z.ne
 .exact absurd p' W.ne
 .lia
def Ox.keep(C:Ox es st base n z M U cr ct X)(h:lq U R):Ox es st base n z M R cr ct X :=
 ⟨C.k.trans h,λv Z=>h _ _ (C.g v Z),λv Z a G=>let ⟨a1,a2,a3,a4⟩:=C.c v Z a G;⟨a1,a2,h _ _ a3,a4⟩,C.l,C.nd,C.dj⟩
def Ox.weak(C:Ox es st base n z M U cr ct X)(w:Y3):Ox es st base n z M U cr ct (X++[w]) :=
 ⟨C.k,C.g,λv Z a ha=>by
  obtain⟨a1,R,a3,G,a5,a6⟩:=C.c v Z a ha;refine⟨a1,R,a3,G,by simp;lia,λw hw=>?_⟩;rcases a6 w hw with q|⟨q1,q2,q3,q4⟩
  .exact .inl q
  .exact .inr ⟨q1,q2,q3,ie _ q4⟩,λv Z=>by have:=C.l v Z;simp;lia,C.nd,C.dj⟩
def Ox.new(C:Ox es st base n z M U cr ct X)(hb:M.length<=base)(hv:v<n)(hz:U.length≠z)(hw:(w=[]/\v=st)\/(Way es w/\yz es w=st/\xg es w=v))(hx:∀a∈cr v,w∉ct a) :
 Ox es st base n z M ((U++[MO.lst [dm w]]).set (base+v) (.lst ((cr v++[U.length]).map D.ref))) (λu=>if u=v then cr v++[U.length] else cr u) (λb=>if b=U.length then[w] else ct b) (X++[w]):=by
 have gl:∀u,u<n->base+u<U.length:=λu Z=>qd (C.g u Z)
 have cl:∀u,u<n->∀a∈cr u,a<U.length:=λu Z a G=>qd (C.c u Z a G).2.2.1
 have gv:=u6 (X:=[MO.lst [dm w]]) (C.g v hv);have nw:∀u,u<n->U.length∉cr u:=λu Z h=>by have:=cl u Z _ h;lia
 have q0:∀R∈[w],(R=[]/\v=st)\/(Way es R/\yz es R=st/\xg es R=v/\R∈X++[w]):=λR h=>by
  simp at h;subst h;rcases hw with q|⟨q1,q2,q3⟩
  .exact .inl q
  .exact .inr ⟨q1,q2,q3,by simp⟩
 have qv:∀u,u<n->∀a∈cr u,base+n<=a/\a≠z/\((U++[MO.lst [dm w]]).set (base+v) (.lst ((cr v++[U.length]).map D.ref)))[a]?=some (.lst (((if a=U.length then[w] else ct a)).map dm))/\(if a=U.length then[w] else ct a)≠[]/\(if a=U.length then[w] else ct a).length<=(X++[w]).length+1/\∀R∈(if a=U.length then[w] else ct a),(R=[]/\u=st)\/(Way es R/\yz es R=st/\xg es R=u/\R∈X++[w]):=λu Z a G=>by
  have ne:a≠U.length:=λe=>nw u Z (e▸G)
  obtain⟨a1,a2,a3,a4,a5,a6⟩:=(C.weak w).c u Z a G;simp only[ne,ig];exact⟨a1,a2,by rw[jx (by lia)];exact u6 a3,a4,a5,a6⟩
 refine⟨lq.set (C.k.trans (lq.app _ _)) (by lia),λu Z=>?_,λu Z a G=>?_,λu Z=>?_,λu Z=>?_,λu Z a G b qk R h1 h2=>?_⟩
 .by_cases e:u=v
  .subst e;simp only[iu];exact nq gv
  .simp only[e,ig];rw[jx (by lia)];exact u6 (C.g u Z)
 .by_cases e:u=v
  .subst e
   simp only[iu] at G;rcases bh.mp G with q|q
   .exact qv u Z a q
   .simp at q;subst q
    simp only[iu];exact⟨by have:=gl u Z;have:=C.g (n-1) (by lia);have:=qd this;lia,hz,by rw[jx (by have:=gl u Z;lia)];exact wu,by simp,by simp,q0⟩
  .simp only[e,ig] at G;exact qv u Z a G
 .have:=C.l u Z
  have:=C.l v hv
  by_cases e:u=v
  .simp[e];lia
  .simp[e];lia
 .by_cases e:u=v
  .subst e
   simp only[iu];refine my.mpr ⟨C.nd u Z,by simp,λa G b hb e=>?_⟩;simp at hb;subst hb;subst e;exact nw u Z G
  .simp only[e,ig];exact C.nd u Z
 .have qq:∀a∈cr u,(if a=U.length then[w] else ct a)=ct a:=λa G=>by
   have ne:a≠U.length:=λe=>nw u Z (e▸G)
   simp[ne]
  by_cases e:u=v
  .subst e
   simp only[iu] at G qk;rcases bh.mp G with q|q<;>rcases bh.mp qk with r|r
   .rw[qq a q] at h1;rw[qq b r] at h2;exact C.dj u Z a q b r R h1 h2
   .simp at r;subst r;rw[qq a q] at h1;simp at h2;subst h2;exact absurd h1 (hx a q)
   .simp at q;subst q;rw[qq b r] at h2;simp at h1;subst h1;exact absurd h2 (hx b r)
   .simp at q r;lia
  .simp only[e,ig] at G qk
   rw[qq a G] at h1;rw[qq b qk] at h2;exact C.dj u Z a G b qk R h1 h2
def Ox.add(C:Ox es st base n z M M1 cr ct X)(hb:M.length<=base)(hv:v<n)(ha:a∈cr v)(W:Way es w)(h1:yz es w=st)(h2:xg es w=v)(hx:w∉X) :
 Ox es st base n z M (M1.set a (.lst ((ct a++[w]).map dm))) cr (up ct a w) (X++[w]):=by
 obtain⟨b1,b2,b3,b4,b5,b6⟩:=C.c v hv a ha;have gl:∀u,u<n->base+u≠a:=λu Z=>by lia
 have nx:∀b,∀U,U∈up ct a w b->(U∈ct b)\/(b=a/\U=w):=λb U h=>by
  unfold up at h;split at h
  .next e =>
   subst e;rcases bh.mp h with q|q
   .exact .inl q
   .simp at q;exact .inr ⟨rfl,q⟩
  .exact .inl h
 have nw:∀u,u<n->∀b∈cr u,w∉ct b:=λu Z b hb h=>by
  rcases(C.c u Z b hb).2.2.2.2.2 w h with q|q
  .exact W.ne q.1
  .exact hx q.2.2.2
 refine⟨lq.set C.k (by lia),λu Z=>by rw[jx (by have:=gl u Z;lia)];exact C.g u Z,λu Z b G=>?_,λu Z=>by have:=C.l u Z;simp;lia,C.nd,λu Z b G c hc U q1 q2=>?_⟩
 .obtain⟨c1,c2,c3,c4,c5,c6⟩:=(C.weak w).c u Z b G
  by_cases e:b=a
  .subst e
   have:=C.uniq Z hv G ha;subst this;refine⟨c1,c2,by rw[nq b3];simp[up],by simp[up],by simp[up];lia,λU R=>?_⟩;rcases nx b U R with q|⟨_,q⟩
   .exact c6 U q
   .subst q;exact .inr ⟨W,h1,h2,by simp⟩
  .have:up ct a w b=ct b:=by simp[up,e]
   rw[this];exact⟨c1,c2,by rw[jx (oh e)];exact c3,c4,c5,c6⟩
 .rcases nx b U q1 with r1|⟨r1,r1'⟩<;>rcases nx c U q2 with r2|⟨r2,r2'⟩
  .exact C.dj u Z b G c hc U r1 r2
  .subst r2';exact absurd r1 (nw u Z b G)
  .subst r1';exact absurd r2 (nw u Z c hc)
  .lia
noncomputable def RV(Z n:Nat):List D:=(List.range n).map λi=>D.ref (Z+i)
abbrev EW(s:Yq)(d:D)(b3 b4 b5 b6 b7 b8 b9 b10 O9:Option D):Env:=[some s.toD,some d,some (.tup (s.es.map aD)),b3,b4,b5,b6,b7,b8,b9,b10,O9]
def abj(Z:v<n):t6 (.vl (RV base n)) (.int (v:Nat)) M=some (.ref (base+v)) :=
 w5 rfl (gj _) (by simp[RV,Z])
def ow5(E:Ends s.es V)(G:Z=EW s d b3 none none none none none none none none):Cr.den (PW m) Z M=.ok (.vl (RV M.length (xj s.es+1))) (M++List.replicate (xj s.es+1) (.lst [])):=by
 subst G;unfold Cr;have c:=Vb (W:=PW m) (M:=M) (ρ:=EW s d b3 none none none none none none none none) (v:=2) (y:=12) (d:=.tup (s.es.map aD)) rfl rfl rfl E.few;have tf:=Pb E;obtain⟨ys,M',e,rfl,rfl⟩:=Bj (W:=PW m) (v:=true) (k:=1) (n:=xj s.es+1) (M1:=M) (t:=.name 12) (e:=.lst .z) (ρ:=EW s d b3 none none none none none none none none) (M:=M) (it:=.bin .add (.i 1) (.blt .max (.o Cq))) (by
  have c':Cq.den (PW m) (EW s d b3 none none none none none none none none) M=_:=c;simp[-List.map_map,c',Vc (jt E.pos)]
  lia) (by lia)
  (λi R U=>R=RV M.length i/\U=M++List.replicate i (.lst [])) ⟨rfl,by simp⟩ (λi R U hi hI=>by
   obtain⟨rfl,rfl⟩:=hI;refine⟨_,.ref (M.length+i),_,rfl,?_,by simp[RV,v7],rfl⟩;simp[MW.new,List.replicate_succ',mq])
 exact e
def ow2{ss:List Sp}(hm:2<=m)(h:Fe s V)(hd:dw M d=some (ss.map Sp.toD))(hs:∀x∈ss,Lf s.es x.a x.b)(q3:st<xj s.es+1)(hb:M.length<=base)(C:Ox s.es st base (xj s.es+1) M1.length M M1 cr ct [[]])(hz:base+(xj s.es+1)<=M1.length) :
 ∃b5 b6 R G U ws M',Cm.den (PW m) (EW s d (sI st) (some (.vl (RV base (xj s.es+1)))) none none none none none none none) M1=.ok (.next,EW s d (sI st) (some (.vl (RV base (xj s.es+1)))) b5 b6 R none none none none) M'/\Ox s.es st base (xj s.es+1) M1.length M M' G U ([[]]++ws)/\Wys s.es ws:=by
 unfold Cm;obtain⟨ws,M2,e2,g2,L,k2⟩:=O8 (m:=m) (M:=M1) (d:=.tup (s.es.map aD)) (by lia) h.E rfl;have fw:=L.few;have q0:∀x∈ss,x.a∈ws/\x.b∈ws:=λx hx=>⟨L.all _ rfl (hs x hx).one,L.all _ rfl (hs x hx).two⟩
 obtain⟨q4,M',e,b5,b6,R,G,U,rfl,C',-⟩:=uo (W:=PW m) (it:=.call 20 (.o (.v 2))) (t:=.name 5) (b:=t7) (ρ:=EW s d (sI st) (some (.vl (RV base (xj s.es+1)))) none none none none none none none) (M:=M1) (M1:=M2) (d:=.ref M1.length) (by simp[e2]) (gq g2)
  (λi ρ Z=>∃(b5 b6 R:Option D)(G:Nat->List Nat)(U:Nat->List (List Nat)),ρ=EW s d (sI st) (some (.vl (RV base (xj s.es+1)))) b5 b6 R none none none none/\Ox s.es st base (xj s.es+1) M1.length M Z G U ([[]]++ws.take i)/\Z[M1.length]?=some (.lst (ws.map dm)))
  ⟨none,none,none,cr,ct,rfl,by simpa using C.keep k2,g2⟩ (λi ρ Z h=>by obtain⟨_,_,_,_,_,_,_,g⟩:=h;exact gq g)
  (λi x ρ Z hx hI=>by
   obtain⟨b5,b6,R,G,U,rfl,C',g3⟩:=hI;obtain⟨w,hi,rfl⟩:∃w,ws[i]?=some w/\dm w=x:=by simpa using hx
   have il:=(ak.mp hi).1;have W:=L.way w (aq hi);have tk:[[]]++ws.take (i+1)=([[]]++ws.take i)++[w]:=by rw[rm,hi];simp
   have wx:w∉[[]]++ws.take i:=by
    intro q;rcases bh.mp q with q|q
    .simp at q;exact W.ne q
    .obtain⟨j,hj⟩:=j5.mp q
     rw[List.getElem?_take] at hj;split at hj
     .next hji =>
      have:=Hk L.nd hi hj
      lia
     .cases hj
   have x0:=Hj (M:=Z) W;have x1:=Hi (M:=Z) W;have y0:=Az (M:=Z) (d:=.tup (s.es.map aD)) rfl W.Aw;have y1:=Az (M:=Z) (d:=.tup (s.es.map aD)) rfl W.Ke
   by_cases q:yz s.es w=st
   .have q':(at_ s.es (hw w)).1=st:=q
    have vt:xg s.es w<xj s.es+1:=Nat.lt_succ_of_le (Ng (Lb W.Ke)).2
    have rv:=abj (M:=Z) (base:=base) vt;have qv:(at_ s.es (lw w)).2=xg s.es w:=rfl;obtain⟨as,M4,e4,⟨k4,-⟩,h4,l4⟩:=Qz (W:=PW m) (ρ:=EW s d (sI st) (some (.vl (RV base (xj s.es+1)))) (some (dm w)) (sR (base+xg s.es w)) R none none none none) (M:=Z) (M1:=Z) (it:=.v 6) (t:=.name 12) (k:=1) (d:=.ref (base+xg s.es w)) (xs:=G (xg s.es w)) (f:=D.ref) (g:=D.ref) (c:=.call 24 (.q (.v 1) (.ix (.v 12) (.i 0)) (.v 5))) (e:=.v 12) rfl (Bh (gq (C'.g _ vt))) (by have:=C'.l _ vt;simp at this;lia)
     (λM5=>lq Z M5/\True) (λ_=>True) ⟨lq.refl _,trivial⟩ (λM5 hk=>Bh (gq (hk.1 _ _ (C'.g _ vt)))) (λa ha M5 hk=>by
      have C5:=C'.keep hk.1;obtain⟨a1,a2,a3,a4,a5,a6⟩:=C5.c _ vt a ha;obtain⟨x,l,hx⟩:=u9 a4;have ix:t6 (.ref a) (.int 0) M5=some (dm x):=w5 (gq a3) (by decide) (by simp[hx]);obtain⟨q,M6,e6,-,k6⟩:=Za (m:=m) (M:=M5) (d:=d) (ss:=ss) (a:=x) (b:=w) (by lia) (lq.dw C5.k hd) q0 L.few;exact⟨_,q,M6,rfl,by simp[ix,e6],⟨hk.1.trans k6,trivial⟩,λ_=>⟨trivial,by simp⟩⟩)
    have C4:=C'.keep k4;have g4:=k4 _ _ g3;have qk:Hh.den (PW m) (EW s d (sI st) (some (.vl (RV base (xj s.es+1)))) (some (dm w)) (sR (base+xg s.es w)) R none none none none) Z=_:=e4;have qq:Bb M4 (.vl (as.map D.ref)) (.vl [])=some as.isEmpty:=by rw[eq_nil,List.isEmpty_map]
    cases as with
    |nil =>
     have C5:=C4.new hb vt (by have:=qd g4;lia) (.inr ⟨W,q,rfl⟩) (λa ha q1=>by
      rcases(C4.c _ vt a ha).2.2.2.2.2 w q1 with r|r
      .exact W.ne r.1
      .exact wx r.2.2.2)
     rw[<- tk] at C5;have gv:=C4.g _ vt;have ap:=Al (M:=M4++[.lst [dm w]]) (d:=.ref M4.length) (u6 gv) (by have:=C4.l _ vt;simp at this ⊢;lia);refine⟨_,.next,EW s d (sI st) (some (.vl (RV base (xj s.es+1)))) (some (dm w)) (sR (base+xg s.es w)) (some (.vl [])) none none none none,_,rfl,?_,.inl rfl,_,_,_,_,_,rfl,C5,by rw[jx (by lia)];exact u6 g4⟩;show t7.den (PW m) (EW s d (sI st) (some (.vl (RV base (xj s.es+1)))) (some (dm w)) b6 R none none none none) Z=_;simp only[t7];simp only[vg,List.isEmpty_nil] at qk qq;simp[x0,x1,y0,y1,Dz,Mi,q',qv,rv,qk,qq,Dp gv,MW.new,ap]
    |cons a as =>
     have ha:=(h4 a bz).1;have C5:=C4.add hb vt ha W q rfl wx;rw[<- tk] at C5;obtain⟨a1,a2,a3,a4,a5,a6⟩:=C4.c _ vt a ha;have ap:=Al (d:=dm w) a3 (by simp at a5 ⊢;lia);have i0:t6 (.vl ((a::as).map D.ref)) (.int 0) M4=some (.ref a):=w5 rfl (by decide) rfl;refine⟨_,.next,EW s d (sI st) (some (.vl (RV base (xj s.es+1)))) (some (dm w)) (sR (base+xg s.es w)) (some (.vl ((a::as).map D.ref))) none none none none,_,rfl,?_,.inl rfl,_,_,_,_,_,rfl,C5,by rw[jx a2];exact g4⟩;show t7.den (PW m) (EW s d (sI st) (some (.vl (RV base (xj s.es+1)))) (some (dm w)) b6 R none none none none) Z=_;simp only[t7];simp only[List.isEmpty_cons] at qq;simp[-List.map_cons,x0,x1,y0,y1,Dz,Mi,q',qv,rv,qk,qq,i0,Dp a3,ap];rfl
   .have q':¬(at_ s.es (hw w)).1=st:=q
    refine⟨_,.next,EW s d (sI st) (some (.vl (RV base (xj s.es+1)))) (some (dm w)) b6 R none none none none,Z,rfl,?_,.inl rfl,_,_,_,_,_,rfl,by rw[tk];exact C'.weak w,g3⟩;show t7.den (PW m) (EW s d (sI st) (some (.vl (RV base (xj s.es+1)))) (some (dm w)) b6 R none none none none) Z=_;have q2:¬((at_ s.es (hw w)).1:Int)=(st:Int):=by lia
    simp only[t7];simp[x0,y0,Dz,q',q2])
 rw[bx,q8] at C';exact⟨b5,b6,R,G,U,ws,M',e,C',L⟩
def adl{q:Nat->Bool}{g:Nat->D}(R:it.den W ρ M=.ok (.ref p) M)(hp:M[p]?=some (.lst ds))(hl:ds.length<=100000)
 (h:∀(i:Nat)(x:D),ds[i]?=some x->∃Z,t.put (.tup [.int i,x]) (ρ++List.replicate k none)=some Z/\c.den W Z M=.ok (.bl (q i)) M/\(q i=true->e.den W Z M=.ok (g i) M)) :
 (Ex.ud true k t (.enm it) c e).den W ρ M=.ok (.vl (((List.range ds.length).filter q).map g)) M:=by
 rw[Di,Uz,R];have em:ada (.ref p) M=.ok (.el p ds.length) M:=by simp[ada,hp]
 simp only[Res.nu,em];obtain⟨ys,M',g1,g2,rfl⟩:=Dh (fin:=(Src.el p ds.length).fin) (item:=(Src.el p ds.length).item) (body:=λd M=>(Res.qi (t.put d (ρ++List.replicate k none)) M).bind λU M=>(c.den W U M).bind λb M' =>
  match b with
   |.bl true=>(e.den W U M').bind λx qq=>.ok (some x) qq
   |.bl false=>.ok none M'|_=>.bad) (λi zs G=>zs=((List.range i).filter q).map g/\G=M) (n:=ds.length) (λi zs G Hc hI=>by
  obtain⟨rfl,rfl⟩:=hI;obtain⟨Z,a,b,c⟩:=h i ds[i] (by simp[Hc]);refine⟨.tup [.int i,ds[i]],if q i then some (g i) else none,G,by simp[Src.item,hp,Hc],?_,?_,rfl⟩
  .cases e:q i with
   |true=>simp only[a,Res.m8,Res.nu,b,e,c e,iu]|false=>simp only[a,Res.m8,Res.nu,b,e];rfl
  .rw[v7,List.filter_append,jh]
   cases e:q i<;>simp[e]) (λzs G h=>by obtain⟨_,rfl⟩:=h;simp[Src.fin,hp]) ds.length 0 [] M (p8 _) ⟨rfl,rfl⟩
 rw[uz] at g2;subst g2;rw[wk,show(Src.el p ds.length).len=ds.length from rfl,di hl];exact mz (λr=>r.bind λds G=>if true=true then Res.ok (.vl ds) G else new (.lst ds) G) g1
def one_le{q:Nat->Bool}(n:Nat)(h:∀i j,i<n->j<n->q i=true->q j=true->i=j):((List.range n).filter q).length<=1:=by
 have Z:((List.range n).filter q).Nodup:=List.Pairwise.filter _ List.nodup_range
 match e:(List.range n).filter q with
 |[]=>simp|[_]=>simp
 |a::b::r =>
  rw[e] at Z;have ma:a∈(List.range n).filter q:=by rw[e];simp
  have mb:b∈(List.range n).filter q:=by rw[e];simp
  obtain⟨a1,G⟩:=n8.mp ma;obtain⟨R,U⟩:=n8.mp mb;have:=h a b (iy.mp a1) (iy.mp R) G U;subst this;simp at Z
def aj5(C:Ox es st base n z M M1 cr ct X)(E:Ends es V)(L:Wys es ws)(hk:k<es.length)(R:(at_ es k).1<n):(cr (at_ es k).1).length<=29:=by
 have hd:∀a∈cr (at_ es k).1,(ct a).headD []∈ct a:=λa Z=>by obtain⟨x,l,hx⟩:=u9 (C.c _ R a Z).2.2.2.1;rw[hx];simp
 have inj:∀{l:Y3},l.Nodup->(∀a∈l,a∈cr (at_ es k).1)->(l.map λa=>(ct a).headD []).Nodup:=by
  intro l
  induction l with
  |nil=>intro _ _;simp
  |cons x l ih =>
   intro nd h;have nd:=kh.mp nd;rw[d8];refine kh.mpr ⟨λq=>?_,ih nd.2 λa Z=>h a (bu _ Z)⟩;obtain⟨y,h1,h2⟩:=dh.mp q;have y1:=h y (bu _ h1);have x1:=h x bz;have h3:=hd y y1;rw[h2] at h3;exact nd.1 (C.dj _ R x x1 y y1 _ (hd x x1) h3▸h1)
 have nF:=inj (C.nd _ R) λ_ h=>h
 by_cases e:(at_ es k).1=st
 .have:((cr (at_ es k).1).map λa=>(ct a).headD []).length<=[([]:Y3)].length:=Vi nF λw hw=>by
   obtain⟨a,Z,rfl⟩:=dh.mp hw;rcases(C.c _ R a Z).2.2.2.2.2 _ (hd a Z) with q|⟨W,q1,G,_⟩
   .rw[q.1];simp
   .have:=ao8 E W
    rw[q1,G,e] at this
    lia
  simp at this;lia
 .have U:∀w∈(cr (at_ es k).1).map λa=>(ct a).headD [],Way es w/\yz es w=st/\xg es w=(at_ es k).1:=λw hw=>by
   obtain⟨a,Z,rfl⟩:=dh.mp hw;rcases(C.c _ R a Z).2.2.2.2.2 _ (hd a Z) with q|⟨W,q1,G,_⟩
   .exact absurd q.2 e
   .exact⟨W,q1,G⟩
  rw[<- bx (f:=λa=>(ct a).headD [])];generalize(cr (at_ es k).1).map (λa=>(ct a).headD [])=F at nF U;have qq:=V_lt E hk;have qk:(F++(F.map (·++[k])++[[k]])).Nodup:=by
   refine my.mpr ⟨nF,my.mpr ⟨Kf (λa b h=>by simpa using h) nF,by simp,λa Z b hb q=>?_⟩,λa Z b hb q=>?_⟩
   .simp at hb;subst hb;subst q
    obtain⟨w,hw,q⟩:=dh.mp Z;obtain⟨W,_,_⟩:=U w hw;have:=W.ne;cases w with
    |nil=>exact absurd rfl this|cons x l=>simp at q
   .subst q
    obtain⟨W,q1,G⟩:=U a Z;rcases bh.mp hb with r|r
    .obtain⟨w,hw,rfl⟩:=dh.mp r
     rw[Vl] at G;rw[G] at qq
     lia
    .simp at r;subst r
     exact e q1
  have:=Vi qk (S:=ws) λw hw=>by
   rcases bh.mp hw with q|q
   .exact L.all _ rfl (U w q).1
   .rcases bh.mp q with q|q
    .obtain⟨u,hu,rfl⟩:=dh.mp q
     obtain⟨W,_,G⟩:=U u hu;exact L.all _ rfl (W.app hk G.symm)
    .simp at q;subst q;exact L.one k hk
  have fw:=L.few;simp at this
  lia
def Fb.crw(k:Fb q U M2)(C:Ox es st base n z M U cr ct X)(hn:M.length<=q)(R:∀v,v<n->base+v≠q)(h2:∀v,v<n->∀a∈cr v,a≠q):Ox es st base n z M M2 cr ct X :=
 ⟨λa o h=>k a o (by have:=qd h;lia) (C.k a o h),λv Z=>k _ _ (R v Z) (C.g v Z),λv Z a G=>let ⟨a1,a2,a3,a4⟩:=C.c v Z a G;⟨a1,a2,k _ _ (h2 v Z a G) a3,a4⟩,C.l,C.nd,C.dj⟩
noncomputable def aj6(G:Nat->List Nat)(Z:Nat->List (List Nat))(v:Nat)(w:Y3)(j:Nat):Bool:=decide (w∈Z ((G v).getD j 0))
def ow1{k:Nat}(E:Ends s.es V)(L:Wys s.es ws)(hk:k<s.es.length)(C:Ox s.es st base (xj s.es+1) z M Z cr ct ([[]]++ws))(hq:Z[q]?=some (.lst []))(qv:M.length<=q)(qq:∀v,v<xj s.es+1->base+v≠q)(qk:∀v,v<xj s.es+1->∀a∈cr v,a≠q) :
 ∃(g:X2)(Nh:Option D)(M':dg),Ci.den (PW m) (EW s d b3 (some (.vl (RV base (xj s.es+1)))) b5 b6 b7 b8 (sI k) (sR q) O9) Z=.ok (.next,EW s d b3 (some (.vl (RV base (xj s.es+1)))) b5 b6 b7 b8 (sI k) (sR q) Nh) M'/\M'[q]?=some (.lst (g.map D.int))/\g.length<=29/\Fb q Z M':=by
 unfold Ci;have tp:=Ng (Lb hk);have G:(at_ s.es k).1<xj s.es+1:=by lia
 have v2:(at_ s.es k).2<xj s.es+1:=by lia
 have q3:=aj5 C E L hk G;have fw:=L.few;have xe:=λM=>Az (M:=M) (d:=.tup (s.es.map aD)) (es:=s.es) rfl hk
 obtain⟨q0,M',e,Nh,g,rfl,h1,h2,h3⟩:=uo (W:=PW m) (it:=.ix (.v 4) (.ix (.ix (.v 2) (.v 9)) (.i 0))) (t:=.name 11) (b:=zc) (ρ:=EW s d b3 (some (.vl (RV base (xj s.es+1)))) b5 b6 b7 b8 (sI k) (sR q) O9) (M:=Z) (M1:=Z) (d:=.ref (base+(at_ s.es k).1)) (by simp[xe,Dz,abj G]) (gq (C.g _ G))
  (λi ρ M2=>∃(Nh:Option D)(g:X2),ρ=EW s d b3 (some (.vl (RV base (xj s.es+1)))) b5 b6 b7 b8 (sI k) (sR q) Nh/\M2[q]?=some (.lst (g.map D.int))/\g.length<=i/\Fb q Z M2) ⟨O9,[],rfl,hq,bc _,Fb.refl _ _⟩
  (λi ρ M2 h=>by obtain⟨_,_,_,_,_,k⟩:=h;exact gq (k _ _ (qq _ G) (C.g _ G)))
  (λi x ρ M2 hx hI=>by
   obtain⟨Nh,g,rfl,h1,h2,h3⟩:=hI;obtain⟨a,hi,rfl⟩:∃a,(cr (at_ s.es k).1)[i]?=some a/\D.ref a=x:=by simpa using hx
   have il:=(ak.mp hi).1;have R:=h3.crw C qv qq qk;obtain⟨a1,a2,a3,a4,a5,a6⟩:=R.c _ G a (aq hi);obtain⟨w,l,hw⟩:=u9 a4;have wl:w.length<=60:=by
    rcases a6 w (by rw[hw];simp) with r|r
    .rw[r.1];simp
    .exact Ie E r.1
   have ix:t6 (.ref a) (.int 0) M2=some (dm w):=w5 (gq a3) (by decide) (by simp[hw]);have gl:=R.l _ v2;have c2:Cg.den (PW m) (EW s d b3 (some (.vl (RV base (xj s.es+1)))) b5 b6 b7 b8 (sI k) (sR q) (sR a)) M2=.ok (.vl (((List.range ((cr (at_ s.es k).2).map D.ref).length).filter (aj6 cr ct (at_ s.es k).2 (w++[k]))).map λ(j:Nat)=>D.int (j:Int))) M2:=by
    unfold Cg;refine adl (p:=base+(at_ s.es k).2) (ds:=(cr (at_ s.es k).2).map D.ref) (by simp[xe,Mi,abj v2]) (R.g _ v2) (by simp at gl ⊢;lia) (λj y hy=>?_);obtain⟨b,U,rfl⟩:∃b,(cr (at_ s.es k).2)[j]?=some b/\D.ref b=y:=by simpa using hy
    obtain⟨c1,c2,c3,c4⟩:=R.c _ v2 b (aq U);have eb:(cr (at_ s.es k).2).getD j 0=b:=by simp[List.getD,U]
    have mr:=Y9 (a:=dm (w++[k])) c3;rw[U7] at mr;exact⟨_,rfl,by simp[ix,Jw w k (by lia),mr,aj6,U],λ_=>by simp⟩
   have cl:((List.range ((cr (at_ s.es k).2).map D.ref).length).filter (aj6 cr ct (at_ s.es k).2 (w++[k]))).length<=1:=by
    refine one_le _ λi j hi U q1 q2=>?_
    rw[bx] at hi U;obtain⟨x,hx⟩:∃x,(cr (at_ s.es k).2)[i]?=some x:=⟨_,dz hi⟩;obtain⟨y,hy⟩:∃y,(cr (at_ s.es k).2)[j]?=some y:=⟨_,dz U⟩;have q1:=ju q1;have q2:=ju q2;rw[show(cr (at_ s.es k).2).getD i 0=x by simp[List.getD,hx]] at q1;rw[show(cr (at_ s.es k).2).getD j 0=y by simp[List.getD,hy]] at q2;have:=R.dj _ v2 x (aq hx) y (aq hy) _ q1 q2;subst this;exact Hk (R.nd _ v2) hx hy
   generalize(List.range ((cr (at_ s.es k).2).map D.ref).length).filter (aj6 cr ct (at_ s.es k).2 (w++[k]))=js at c2 cl;refine⟨_,.next,EW s d b3 (some (.vl (RV base (xj s.es+1)))) b5 b6 b7 b8 (sI k) (sR q) (sR a),M2.set q (.lst ((g++js.map λ(j:Nat)=>(j:Int)).map D.int)),rfl,?_,.inl rfl,_,g++js.map λ(j:Nat)=>(j:Int),rfl,nq h1,by simp;lia,h3.trans (Fb.set _ _ _)⟩;show zc.den (PW m) (EW s d b3 (some (.vl (RV base (xj s.es+1)))) b5 b6 b7 b8 (sI k) (sR q) (sR a)) M2=_;simp only[zc];simp[Jv h1,c2,Qq h1 (ys:=js.map λ(j:Nat)=>D.int (j:Int)) (by simp;lia),ik,gf])
 rw[bx] at h2;exact⟨g,Nh,M',e,h1,by lia,h3⟩
def ow0(E:Ends s.es V)(L:Wys s.es ws)(hb:M.length<=base)(C:Ox s.es st base (xj s.es+1) z M M1 cr ct ([[]]++ws))(hp:M1[p]?=some (.lst []))(qk:M.length<=p)(qq:∀v,v<xj s.es+1->base+v≠p)(q0:∀v,v<xj s.es+1->∀a∈cr v,a≠p) :
 ∃(Z:List (List Int))(b9 G R:Option D)(M':dg),Cj.den (PW m) (EW s d b3 (some (.vl (RV base (xj s.es+1)))) b5 b6 b7 (sR p) none none none) M1=.ok (.next,EW s d b3 (some (.vl (RV base (xj s.es+1)))) b5 b6 b7 (sR p) b9 G R) M'/\M'[p]?=some (.lst (Z.map j0))/\Z.length=s.es.length/\(∀r∈Z,r.length<=29)/\Ox s.es st base (xj s.es+1) z M M' cr ct ([[]]++ws):=by
 unfold Cj;have ef:=E.few;obtain⟨q1,M',e,Z,b9,G,R,rfl,h1,h2,h3,h4⟩:=yx (W:=PW m) (n:=s.es.length) (M1:=M1) (t:=.name 9) (b:=zf) (ρ:=EW s d b3 (some (.vl (RV base (xj s.es+1)))) b5 b6 b7 (sR p) none none none) (M:=M1) (it:=.l (.v 2)) (by simp[um]) (by lia)
  (λi ρ U=>∃(Z:List (List Int))(b9 G R:Option D),ρ=EW s d b3 (some (.vl (RV base (xj s.es+1)))) b5 b6 b7 (sR p) b9 G R/\U[p]?=some (.lst (Z.map j0))/\Z.length=i/\(∀r∈Z,r.length<=29)/\Ox s.es st base (xj s.es+1) z M U cr ct ([[]]++ws)) ⟨[],none,none,none,rfl,hp,rfl,by simp,C⟩ (λi ρ U hi hI=>by
   obtain⟨Z,b9,G,R,rfl,h1,h2,h3,C2⟩:=hI;have pl:=qd h1;have C3:=C2.keep (lq.app U [.lst []]);have l1:∀v,v<xj s.es+1->base+v≠U.length:=λv hv=>by have:=qd (C2.g v hv);lia
   have l2:∀v,v<xj s.es+1->∀a∈cr v,a≠U.length:=λv hv a ha=>by have:=qd (C2.c v hv a ha).2.2.1;lia
   have m0:M.length<=U.length:=lq.len C2.k
   obtain⟨g,qv,M3,e3,g3,n3,k3⟩:=ow1 (m:=m) (d:=d) (b3:=b3) (b5:=b5) (b6:=b6) (b7:=b7) (b8:=sR p) (O9:=R) E L hi C3 wu m0 l1 l2;have C4:=k3.crw C3 m0 l1 l2;have p3:=k3 _ _ (show p≠U.length by lia) (u6 h1);have C5:=(Fb.set p M3 (.lst ((Z++[g]).map j0))).crw C4 qk qq q0;refine⟨_,.next,EW s d b3 (some (.vl (RV base (xj s.es+1)))) b5 b6 b7 (sR p) (sI i) (sR U.length) qv,M3.set p (.lst ((Z++[g]).map j0)),rfl,?_,.inl rfl,Z++[g],_,_,_,rfl,nq p3,by simp;lia,λr hr=>?_,C5⟩
   .show zf.den (PW m) (EW s d b3 (some (.vl (RV base (xj s.es+1)))) b5 b6 b7 (sR p) (sI i) G R) U=_
    simp only[zf];simp[MW.new,e3,Dp p3,Pg g3,Al p3 (d:=.tup (g.map D.int)) (by simp;lia),j0]
   .rcases bh.mp hr with q|q
    .exact h3 r q
    .simp at q;subst q;exact n3)
 exact⟨Z,b9,G,R,M',e,h1,h2,h3,h4⟩
def adm{ss:List Sp}(hm:3<=m)(h:Fe s V)(hd:dw M d=some (ss.map Sp.toD))(hs:∀x∈ss,Lf s.es x.a x.b) :
 ∃(p:List Int×List (List Int))(M':dg),prog.call m 30 [s.toD,d] M=.ok (Fj p) M'/\p.1.length=xj s.es+1/\p.2.length=s.es.length/\(∀r∈p.2,r.length<=29)/\lq M M':=by
 rw[call_of (bf (by decide) hm) rfl];have W:=h.aim.one;have U:yz s.es s.a<xj s.es+1:=Nat.lt_succ_of_le (Ng (Lb W.Aw)).1
 have e5:=ow5 (m:=m-1) (d:=d) (M:=M) (s:=s) (b3:=sI (yz s.es s.a)) h.E rfl;have C0:Ox s.es (yz s.es s.a) M.length (xj s.es+1) (M.length+(xj s.es+1)+1) M (M++List.replicate (xj s.es+1) (.lst [])) (λ_=>[]) (λ_=>[]) [] :=
  ⟨lq.app _ _,λv Z=>by rw[m9 (by lia)];simp[Z],by simp,by simp,by simp,by simp⟩
 have C1:=C0.new (w:=[]) (v:=yz s.es s.a) (bc _) U (by simp) (.inl ⟨rfl,rfl⟩) (by simp);have gv:=C0.g _ U;have ap:=Al (M:=(M++List.replicate (xj s.es+1) (.lst []))++[.lst [dm []]]) (d:=.ref (M++List.replicate (xj s.es+1) (MO.lst [])).length) (u6 gv) (by simp);generalize hM1:((M++List.replicate (xj s.es+1) (MO.lst []))++[MO.lst [dm []]]).set (M.length+yz s.es s.a) (.lst (([]++[(M++List.replicate (xj s.es+1) (MO.lst [])).length]).map D.ref))=M1 at C1 ap;have l1:M1.length=M.length+(xj s.es+1)+1:=by rw[<- hM1];simp;lia
 rw[<- l1] at C1;obtain⟨b5,b6,b7,cr,ct,ws,M2,e2,R,L⟩:=ow2 (m:=m-1) (d:=d) (by lia) h hd hs U (bc _) C1 (by lia);have C3:=R.keep (lq.app M2 [.lst []]);obtain⟨G,b9,qk,O9,M4,e4,g4,n4,r4,C4⟩:=ow0 (m:=m-1) (d:=d) (b3:=sI (yz s.es s.a)) (b5:=b5) (b6:=b6) (b7:=b7) h.E L (bc _) C3 wu (lq.len R.k) (λv Z=>by have:=qd (R.g v Z);lia) (λv Z a ha=>by have:=qd (R.c v Z a ha).2.2.1;lia);refine⟨((List.range (xj s.es+1)).map λv=>((cr v).length:Int),G),M4,?_,by simp,n4,r4,C4.k⟩;have c1:Ce.den (PW (m-1)) (EW s d (sI (yz s.es s.a)) (some (.vl (RV M.length (xj s.es+1)))) b5 b6 b7 (sR M2.length) b9 qk O9) M4=.ok (.vl ((List.range (xj s.es+1)).map λv=>.int (cr v).length)) M4:=by
  unfold Ce;rw[Bt (d:=.vl (RV M.length (xj s.es+1))) (M1:=M4) (xs:=List.range (xj s.es+1)) (f:=λi=>.ref (M.length+i)) (g:=λv=>.int (cr v).length) rfl rfl (by have:=Pb h.E;simp;lia) (λv Z=>⟨_,rfl,by
   have:=len_list (gq (C4.g v (iy.mp Z)));rw[bx] at this;simp[this]⟩)]
  rfl
 have y0:=Az (M:=M) (d:=.tup (s.es.map aD)) rfl W.Aw;have x0:=Hj (M:=M) W;have wd:(at_ s.es (hw s.a)).1=yz s.es s.a:=rfl;have i0:t6 s.toD (.int 0) M=some (.tup (s.es.map aD)):=Fq _ _;have i2:t6 s.toD (.int 2) M=some (.tup [dm s.a,dm s.b]):=aat _ _ _ _;have rv:=abj (M:=M++List.replicate (xj s.es+1) (.lst [])) (base:=M.length) U;have qq:Jc .append (.ref (M.length+yz s.es s.a)) [.ref (M.length+(xj s.es+1))] (M++(List.replicate (xj s.es+1) (.lst [])++[.lst [dm []]]))=.ok .non M1:=by
  have e1:(M++List.replicate (xj s.es+1) (MO.lst [])).length=M.length+(xj s.es+1):=by simp
  rw[e1] at ap;rw[<- mq,ap];exact mz _ (by rw[<- hM1];simp)
 simp only[Fn.run,Ju,Jt];have em:D.tup []=dm []:=rfl;simp[i0,i2,x0,y0,Dz,wd,e5,rv,Dp gv,MW.new,em,qq,e2,e4,c1,Zd,Pg g4];simp[Fj,j0,Bx,ik,gf]
abbrev EL(sc:D)(t:Nat)(b2 b3 b4 b5 b6 b7 b8 b9 b10:Option D):Env:=[some sc,sR t,b2,b3,b4,b5,b6,b7,b8,b9,b10]
def apa(hm:7<=m)(h:Fe s V)(U:Shp 30 p)(hs:W2 t f M) :
 ∃Z M',O6.den (PW m) (EL sc t b2 (some s.toD) b4 b5 b6 b7 (some (j0 p.1)) (some (Bx p.2)) b10) M=.ok (.next,EL sc t b2 (some s.toD) b4 b5 b6 b7 (some (j0 p.1)) (some (Bx p.2)) Z) M'/\St t f M M':=by
 have z:=U.z;have G:∀r∈p.2,r.length<31:=λr h=>by have:=U.r r h;lia
 obtain⟨b,M1,e1,k1,h1⟩:=ade (m:=m) (M:=M) hm h (zs:=p.1) (by lia) G;obtain⟨c,M2,e2,k2,h2⟩:=ao3 (m:=m) (M:=M1) (by lia) h (zs:=p.1) (by lia) G;have e:b=c:=sr.mpr (h1.trans h2.symm);subst e;have R:qw .isBool [.bl b] M1=.ok (.bl true) M1:=rfl;refine⟨some (.bl b),M2,?_,.of hs (k1.trans k2)⟩;simp[O6,e1,R,e2]
def aj7(hm:7<=m)(hs:W2 t f M) :
 ∃c3 c4 c5 c6 c7 c8 c9 Vg M',O7.den (PW m) (EL sc t b2 b3 b4 b5 b6 b7 b8 b9 b10) M=.ok (.next,EL sc t b2 c3 c4 c5 c6 c7 c8 c9 Vg) M'/\St t f M M':=by
 obtain⟨s,V,M1,e1,h,S1⟩:=adg (m:=m) (by lia) hs;obtain⟨ws,_,_,_,L,_⟩:=O8 (m:=m) (M:=M1) (d:=.tup (s.es.map aD)) (by lia) h.E rfl;obtain⟨ss,M2,e2,T⟩:=agb (m:=m) (M:=M1) (by lia) h L;obtain⟨Z,M3,e3,z3,a3,r3,k3⟩:=adm (m:=m) (M:=M2) (by lia) h (gq T.g) T.b;have S3:St t f M M3:=S1.keep' (lq.trans T.k k3);obtain⟨U,M4,e4,z4,a4,r4,S4⟩:=Xb (m:=m) (M:=M3) (n:=3) (by lia) h.E S3.has (by decide);obtain⟨G,M5,e5,z5,a5,r5,S5⟩:=Xb (m:=m) (M:=M4) (n:=1) (by lia) h.E S4.has (by decide);have tf:=Pb h.E;have ef:=h.E.few;have ep:=h.E.pos;have R:∀p∈[Z,U,Z,G],p.1.length=xj s.es+1/\p.2.length=s.es.length/\∀r∈p.2,r.length<=29:=λp hp=>by
  simp only[cg,qb,or_false] at hp;rcases hp with rfl|rfl|rfl|rfl
  .exact⟨z3,a3,r3⟩
  .exact⟨z4,a4,λr h=>by have:=r4 r h;lia⟩
  .exact⟨z3,a3,r3⟩
  .exact⟨z5,a5,λr h=>by have:=r5 r h;lia⟩
 obtain⟨ys,M6,e6,ps,rfl,h6,l6,S6⟩:=Sg (W:=PW m) (v:=true) (k:=1) (ds:=[Z,U,Z,G].map Fj) (d:=.vl ([Z,U,Z,G].map Fj)) (M1:=M5) (t:=.name 11) (e:=.call 32 (.q (.v 1) (.ix (.v 11) (.i 0)) (.ix (.v 11) (.i 1)))) (ρ:=EL sc t b2 (some s.toD) (some (Fj Z)) (some (Fj U)) (some (Fj G)) b7 b8 b9 b10) (M:=M5) (it:=.Df (.c (.v 4) (.q (.v 5) (.v 4) (.v 6)))) rfl rfl (by simp)
  (λi xs M6=>∃ps:List (List Int×List (List Int)),xs=ps.map Fj/\(∀p∈ps,Shp 30 p)/\ps.length=i/\St t f M5 M6) ⟨[],rfl,by simp,rfl,.refl S5.has⟩ (λ_ _ _ _=>rfl) (λi y xs M6 hy hI=>by
   obtain⟨ps,rfl,h6,l6,S6⟩:=hI;obtain⟨p,hi,rfl⟩:∃p,[Z,U,Z,G][i]?=some p/\Fj p=y:=by rw[gw] at hy;simpa[bw] using hy
   obtain⟨g1,g2,g3⟩:=R p (aq hi);obtain⟨p',M7,e7,h7,S7⟩:=aj4 (m:=m) (M:=M6) (zs:=p.1) (acts:=p.2) (by lia) S6.has (jt (by lia)) (jt (by lia)) (by lia) (by lia) g3;have i0:t6 (Fj p) (.int 0) M6=some (j0 p.1):=Fq _ _;have i1:t6 (Fj p) (.int 1) M6=some (Bx p.2):=O5 _ _ _;refine⟨_,Fj p',M7,rfl,?_,ps++[p'],by simp,λx hx=>?_,by simp;lia,S6.trans S7⟩
   .simp[i0,i1,e7]
   .rcases bh.mp hx with q|q
    .exact h6 x q
    .simp at q;subst q;exact h7)
 have Jf:∀p∈[Z,U,G]++ps,Shp 30 p:=λp hp=>by
  rcases bh.mp hp with q|q
  .obtain⟨g1,g2,g3⟩:=R p (by simp only[cg,qb,or_false] at q ⊢;rcases q with rfl|rfl|rfl<;>simp)
   exact⟨by lia,by lia,λr hr=>by have:=g3 r hr;lia⟩
  .exact h6 p q
 rw[bx] at l6;have ad:yu .add (.vl [Fj Z,Fj U,Fj G]) (.vl (ps.map Fj)) M6=.ok (.vl (([Z,U,G]++ps).map Fj)) M6:=by rw[Eg _ _ (by simp[l6])];simp
 obtain⟨q1,M7,e7,c8,c9,Vg,rfl,S7⟩:=uo (W:=PW m) (it:=.bin .add (.Df (.q (.v 4) (.v 5) (.v 6))) (.v 7)) (t:=.names [8,9]) (b:=O6) (ρ:=EL sc t b2 (some s.toD) (some (Fj Z)) (some (Fj U)) (some (Fj G)) (some (.vl (ps.map Fj))) b8 b9 b10) (M:=M6) (M1:=M6) (d:=.vl (([Z,U,G]++ps).map Fj)) (ds:=([Z,U,G]++ps).map Fj) (by
  simp only[Ux,Jh,zb,Be,aok,aol,aom,aon,Res.nu];exact ad) rfl
  (λi ρ M7=>∃c8 c9 Vg:Option D,ρ=EL sc t b2 (some s.toD) (some (Fj Z)) (some (Fj U)) (some (Fj G)) (some (.vl (ps.map Fj))) c8 c9 Vg/\St t f M6 M7) ⟨b8,b9,b10,rfl,.refl S6.has⟩ (λ_ _ _ _=>rfl) (λi y ρ M7 hy hI=>by
   obtain⟨c8,c9,Vg,rfl,S7⟩:=hI;obtain⟨p,hi,rfl⟩:∃p,([Z,U,G]++ps)[i]?=some p/\Fj p=y:=by rw[gw] at hy;simpa[bw] using hy
   obtain⟨q2,M8,e8,S8⟩:=apa (m:=m) (sc:=sc) (b2:=b2) (b4:=some (Fj Z)) (b5:=some (Fj U)) (b6:=some (Fj G)) (b7:=some (.vl (ps.map Fj))) (b10:=Vg) hm h (Jf p (aq hi)) S7.has;exact⟨_,.next,_,M8,rfl,e8,.inl rfl,_,_,_,rfl,S7.trans S8⟩)
 refine⟨some s.toD,some (Fj Z),some (Fj U),some (Fj G),some (.vl (ps.map Fj)),c8,c9,Vg,M7,?_,(((S3.trans S4).trans S5).trans S6).trans S7⟩;have i0:∀M,t6 s.toD (.int 0) M=some (.tup (s.es.map aD)):=λM=>Fq _ _
 have qq:aay.den (PW m) _ M5=_:=e6;have qk:aax.den (PW m) _ M6=_:=e7;have qv:prog.call m 29 [.ref t,.tup (s.es.map aD),.int 3] M3=_:=e4;have q0:prog.call m 29 [.ref t,.tup (s.es.map aD),.int 1] M4=_:=e5;simp only[O7];simp[-List.map_cons,e1,e2,e3,i0,qv,q0,qq,qk]
def apb{m:Nat}{ns:X2}{M:dg}(hm:8<=m):∃M',prog.call m 33 [.fz (ns.map D.int)] M=.ok (.bl true) M':=by
 rw[call_of (bf (by decide) hm) rfl];obtain⟨n0,U,s0,o0⟩:=afo (m:=m-1) (k:=0) (ns:=ns) (M:=M) (by lia);have s0:prog.call (m-1) 1 [.fz (ns.map D.int),.int 0] M=_:=s0;have qq:W2 M.length U (M++[.lst [.int n0,.bl U]]):=⟨n0,by simp,o0⟩;obtain⟨qk,M',e,⟨b2,b3,b4,b5,R,G,b8,b9,Z,rfl⟩,-⟩:=yx (W:=PW (m-1)) (t:=.name 2) (b:=O7) (it:=.i 5) (n:=5) (ρ:=EL (.fz (ns.map D.int)) M.length none none none none none none none none none) (M:=M++[.lst [.int n0,.bl U]]) (M1:=M++[.lst [.int n0,.bl U]]) rfl (by decide)
  (λ_ ρ M'=>(∃b2 b3 b4 b5 R G b8 b9 Z,ρ=EL (.fz (ns.map D.int)) M.length b2 b3 b4 b5 R G b8 b9 Z)/\W2 M.length U M') ⟨⟨none,none,none,none,none,none,none,none,none,rfl⟩,qq⟩
  (λi ρ M1 hi hI=>by
   obtain⟨⟨b2,b3,b4,b5,R,G,b8,b9,Z,rfl⟩,h1⟩:=hI;obtain⟨c3,c4,c5,c6,c7,c8,c9,Vg,M2,e2,S2⟩:=aj7 (m:=m-1) (sc:=.fz (ns.map D.int)) (b2:=sI i) (b3:=b3) (b4:=b4) (b5:=b5) (b6:=R) (b7:=G) (b8:=b8) (b9:=b9) (b10:=Z) (by lia) h1;exact⟨_,.next,_,M2,rfl,e2,.inl rfl,⟨_,c3,c4,c5,c6,c7,c8,c9,Vg,rfl⟩,S2.has⟩)
 have e':aaz.den (PW (m-1)) _ _=_:=e;exact⟨M',by simp[Fn.run,afn,am1,s0,e']⟩
end K73
namespace L2
open PySem PySem.Spec PyProof.Rows
abbrev Key:=Sum Int Str
noncomputable def T3:Key->Value->Bool
 |.inl k,v=>Value.isInt k v|.inr x,v=>Value.isStrOf x v
noncomputable def azv(w:World):Key->Int
 |.inl k=>hashInt k|.inr x=>hashStr w x
theorem xf:∀{k:Key}{v:Value},T3 k v=true->(∃i t,k=Sum.inl i/\v=Value.int i t)\/(∃x t,k=Sum.inr x/\v=Value.str x t)
 |.inl i,v,h=>by
  obtain⟨t,e⟩:=Value.isInt_shape (k:=i) (v:=v) h;exact .inl ⟨i,t,rfl,e⟩
 |.inr x,v,h=>by
  obtain⟨t,e⟩:=Value.isStrOf_shape (x:=x) (v:=v) h;exact .inr ⟨x,t,rfl,e⟩
def adn(i:Int)(t:Tok):T3 (.inl i) (.int i t)=true:=by simp[T3,Value.isInt]
def ado(x:Str)(t:Tok):T3 (.inr x) (.str x t)=true:=by simp[T3,Value.isStrOf]
def apc(a b:Int):decide ((Sum.inl a:Key)=Sum.inl b)=(a==b):=by
 by_cases e:a=b
 .subst e;simp
 .have h:¬(Sum.inl a:Key)=Sum.inl b:=λq=>e (Sum.inl.inj q)
  rw[sy h];exact(beq_eq_false_iff_ne.mpr e).symm
def apd(a b:Str):decide ((Sum.inr a:Key)=Sum.inr b)=decide (a=b):=by
 by_cases e:a=b
 .subst e;simp
 .have h:¬(Sum.inr a:Key)=Sum.inr b:=λq=>e (Sum.inr.inj q)
  rw[sy h,sy e]
def ape(a:Int)(b:Str):decide ((Sum.inl a:Key)=Sum.inr b)=false:=sy (λq=>nomatch q)
def apf(a:Str)(b:Int):decide ((Sum.inr a:Key)=Sum.inl b)=false:=sy (λq=>nomatch q)
def Ax(prog:Program)(w:World):PySem.KeyKind prog w Key where
 is:=T3
 hash:=azv w
 inj:=λv a b R G=>by
  rcases xf R with⟨i,t,rfl,rfl⟩|⟨x,t,rfl,rfl⟩
  .rcases xf G with⟨j,u,rfl,e⟩|⟨y,u,rfl,e⟩
   .injection e with e1 _;rw[e1]
   .exact nomatch e
  .rcases xf G with⟨j,u,rfl,e⟩|⟨y,u,rfl,e⟩
   .exact nomatch e
   .injection e with e1 _;rw[e1]
 byValue:=λk v h=>by rcases xf h with⟨i,t,rfl,rfl⟩|⟨x,t,rfl,rfl⟩<;>rfl
 pyHash:=λZ h=>by
  rcases xf Z with⟨i,t,rfl,rfl⟩|⟨x,t,rfl,rfl⟩
  .exact wpAny_pyHash_int h
  .exact wpAny_pyHash_str h
 eqBool:=λU Z h=>by
  rcases xf U with⟨i,t,rfl,rfl⟩|⟨x,t,rfl,rfl⟩
  .rcases xf Z with⟨j,u,rfl,rfl⟩|⟨y,u,rfl,rfl⟩
   .rw[apc] at h;exact wpAny_eqBool_int h
   .rw[ape] at h;exact SeqAt.EqAt.int_str i t y u _ _ _ _ h
  .rcases xf Z with⟨j,u,rfl,rfl⟩|⟨y,u,rfl,rfl⟩
   .rw[apf] at h;exact SeqAt.EqAt.str_int x t j u _ _ _ _ h
   .rw[apd] at h;exact wpAny_eqBool_str h
 «strs»:=λk x t v h=>by
  rcases xf h with⟨i,u,rfl,e⟩|⟨y,u,rfl,e⟩
  .exact nomatch e
  .injection e with e1 _
   subst e1;cases v<;>rfl
def Xc(prog:Program)(w:World)(i:Int)(t:Tok):(Ax prog w).is (.inl i) (.int i t)=true:=adn i t
def Xd(prog:Program)(w:World)(x:Str)(t:Tok):(Ax prog w).is (.inr x) (.str x t)=true:=ado x t
end L2
namespace L2
open PySem PySem.Spec PyProof.Rows
set_option genInjectivity true in
inductive V where
 |non|bl (b:Bool)|int (i:Int)|str (x:Str)|byt (b:Array UInt8)|flt (b:UInt64)|ref (a:Addr)|ty (n:String)
 deriving DecidableEq
def RelV:V->Value->Prop
 |.non,u=>u=Value.none|.bl b,u=>u=Value.bool b|.int i,u=>∃t,u=Value.int i t|.str x,u=>∃t,u=Value.str x t|.byt b,u=>∃t,u=Value.bytes b t|.flt b,u=>∃t,u=Value.float b t|.ref a,u=>u=Value.ref a|.ty n,u=>u=Value.type n
abbrev Vals:List V->List Value->Prop:=Paired RelV
theorem Vals.length(r:Vals Z G):Z.length=G.length:=Paired.length r
theorem Vals.get:∀{Z:List V}{G:Zl}{i:Nat}{x:V},Vals Z G->Z[i]?=some x->∃u,G[i]?=some u/\RelV x u
 |_,_,_,_,.nil,e=>by simp at e|_,_,0,_,.cons r _,e=>by simp at e;subst e;exact⟨_,rfl,r⟩
 |_,_,i+1,x,.cons _ t,e=>by
  obtain⟨u,U,R⟩:=Vals.get (i:=i) (x:=x) t (by simpa using e);exact⟨u,by simpa using U,R⟩
theorem Vals.set{x:V}{u:Value}(r:RelV x u):∀{Z:List V}{G:Zl}(i:Nat),Vals Z G->Vals (Z.set i x) (G.set i u)
 |_,_,_,.nil=>.nil|_,_,0,.cons _ t=>.cons r t|_,_,i+1,.cons q t=>.cons q (Vals.set r i t)
theorem Vals.append:∀{G R:List V}{U Z:Zl},Vals G U->Vals R Z->Vals (G++R) (U++Z):=by intro _ _ _ _ h r;induction h with|nil=>exact r|cons q t ih=>exact .cons q ih
theorem Vals.take:∀{Z:List V}{G:Zl}(n:Nat),Vals Z G->Vals (Z.take n) (G.take n)
 |_,_,0,_=>.nil|_,_,_+1,.nil=>.nil|_,_,n+1,.cons r t=>.cons r (Vals.take n t)
theorem Vals.drop:∀{Z:List V}{G:Zl}(n:Nat),Vals Z G->Vals (Z.drop n) (G.drop n)
 |_,_,0,r=>r|_,_,_+1,.nil=>.nil|_,_,n+1,.cons _ t=>Vals.drop n t
def apg:Option V->Option Value->Prop
 |some v,some u=>RelV v u|none,none=>True|_,_=>False
def KV{Z:Type}:List (Z×V)->List (Z×Value)->Prop:=Paired λ(p:Z×V) (q:Z×Value)=>p.1=q.1/\RelV p.2 q.2
noncomputable def kV:Key->V
 |.inl i=>.int i|.inr x=>.str x
inductive HO where
 |lst (xs:List V)
 |tup (xs:List V)
 |dK (xu:List (Key×V))|dT (xu:List (List Key×V))
 |set (S:Int->Bool) (n:Nat)
 |ins (C dx:Addr) (fs:List (Str×V))
 |own (x:Addr)
 |xd (fs:List (Str×V))
 |met (f x:Addr)
 |Kh (lo hi:Int)
 |Hd (o:Obj) (u:HO)
 |tbl (ps:Xs)
 |ext (φ:Heap->Prop)
abbrev Hp:=Addr->Option HO
noncomputable def upd(H:Hp)(a:Addr)(o:HO):Hp:=λb=>if b=a then some o else H b
def t8:upd H a o a=some o:=by unfold upd;rw[di rfl]
def j6(h:b≠a):upd H a o b=H b:=by unfold upd;rw[fj h]
def abk{H:Hp}(h:H a=some o)(Z:H b=some u)(d:o≠u):a≠b:=by intro e;subst e;rw[h] at Z;exact d (jb Z)
def mj{H:Hp}(h:H a=some o)(Z:H b=none):a≠b:=by intro e;subst e;rw[h] at Z;cases Z
section
variable(P:Program)(w:World)
def Ss(h:Heap)(a:Addr)(Z:Xs):Prop:=∃o,h.get? a=some o/\o.cls=.type "tuple"/\∃n,o.data=.seq Z n/\o.dict=none
def Ss.is(x:Ss h a items):IsTup h a items:=let ⟨o,h1,h2,n,h3,_⟩:=x;⟨o,h1,h2,n,h3⟩
def Ss.new(h:Heap)(items:Xs):Ss (h.push { cls:=.type "tuple",data:=.seq items }) h.objs.size items:=⟨_,bj _ rfl,rfl,_,rfl,rfl⟩
def za(H:Hp)(h:Heap)(a:Addr):HO->Prop
 |.lst Z=>Z.length<=sizeLine/\∃(U:Zl)(n:Nat),Vals Z U/\h.get? a=some { cls:=.type "list",data:=.seq U.toArray n }|.tup Z=>Z.length<=sizeLine/\∃U:List Value,Vals Z U/\Ss h a U.toArray|.dK xu=>xu.length<=sizeLine/\(a==sysModules)=false/\∃R,KV xu R/\h.DictOf (Ax P w) a R
 |.dT xu=>xu.length<=sizeLine/\(a==sysModules)=false/\∃Z:List (List Key×Addr×Value),
  Paired (λ(p:List Key×V) (q:List Key×Addr×Value)=>p.1=q.1/\H q.2.1=some (.tup (p.1.map kV))/\RelV p.2 q.2.2) xu Z /\
  ∃o es ep,h.get? a=some o/\o.ExactDict/\o.data=.dict es ep/\es.toList=Z.map (entryOfKey (tupleKind (Ax P w)))/\(Z.map (·.1)).Nodup
 |.set S n=>h.SetOf (intKind P w) a S n
 |.ins C dx fs=>H dx=some (.own a)/\fs.length<=1000/\dx≠a/\h.get? a=some (PySem.W.instObj C dx) /\
  ∃G,h.Ns1 dx G/\(∀f,apg (fs.lookup f) (G f))/\PySem.Within G (fs.map (·.1))
 |.own _=>∃o,h.get? a=some o|.xd fs=>∃G,h.Ns1 a G/\∀f,apg (fs.lookup f) (G f)|.Kh lo hi=>∃t u v,h.get? a=some { cls:=.type "range",data:=.fields #[.int lo t,.int hi u,.int 1 v] }|.Hd o u=>h.get? a=some o/\za H h a u|.tbl ps=>h.get? a=some { cls:=.none,data:=.fields ps }|.met f x=>h.get? a=some (PySem.W.methodObj (.ref f) (.ref x))|.ext φ=>φ h/\(∃o,h.get? a=some o)/\∀h1 h2:Heap,φ h1->(∀o,h1.get? a=some o->h2.get? a=some o)->φ h2
def Mx(H:Hp)(h:Heap):Prop:=∀a o,H a=some o->za P w H h a o
end
theorem za.lt(x:za P w H h a o):a<h.objs.size:=by
 cases o with
 |lst G=>obtain⟨_,_,_,_,e⟩:=x;exact az e
 |tup G=>obtain⟨_,_,_,p⟩:=x;exact(Ss.is p).lt
 |dK Z=>obtain⟨_,_,_,_,o,_,_,e,_⟩:=x;exact az e
 |dT Z=>obtain⟨_,_,_,_,o,_,_,e,_⟩:=x;exact az e
 |set S n=>obtain⟨o,_,_,_,e,_⟩:=x;exact az e
 |ins C dx fs=>obtain⟨_,_,_,e,_⟩:=x;exact az e
 |own y=>obtain⟨_,e⟩:=x;exact az e
 |xd fs=>obtain⟨_,⟨_,_,_,e,_⟩,_⟩:=x;exact az e
 |Kh R hi=>obtain⟨_,_,_,e⟩:=x;exact az e
 |Hd ob u=>obtain⟨e,_⟩:=x;exact az e
 |tbl ps=>exact az (show h.get? a=some _ from x)
 |met f y=>exact az (show h.get? a=some _ from x)
 |ext U=>obtain⟨_,⟨_,e⟩,_⟩:=x;exact az e
theorem Paired.api{R β:Type}{F G:R->β->Prop}:∀{U:List R}{Z:List β},Paired F U Z->(∀a b,F a b->G a b)->Paired G U Z:=by intro _ _ h f;induction h with|nil=>exact .nil|cons r t ih=>exact .cons (f _ _ r) ih
def za.stay(x:za P w H h a o)(k:∀b u,(b=a\/H b=some (.own a))->h.get? b=some u->h'.get? b=some u)(ho:∀b,H b=some (.own a)->H' b=some (.own a))(ht:∀b R,H b=some (.tup R)->H' b=some (.tup R)):za P w H' h' a o:=by
 induction o with
 |lst R=>obtain⟨z,ql,n,r,e⟩:=x;exact⟨z,ql,n,r,k _ _ (.inl rfl) e⟩
 |tup R=>obtain⟨z,ql,r,Z,e,c⟩:=x;exact⟨z,ql,r,Z,k _ _ (.inl rfl) e,c⟩
 |dK xu=>obtain⟨z,y,vs,r,Z,U,G,e,c⟩:=x;exact⟨z,y,vs,r,Z,U,G,k _ _ (.inl rfl) e,c⟩
 |dT xu =>
  obtain⟨z,y,R,r,Z,U,G,e,c⟩:=x;exact⟨z,y,R,Paired.api r λp q z=>⟨z.1,ht _ _ z.2.1,z.2.2⟩,Z,U,G,k _ _ (.inl rfl) e,c⟩
 |set S n=>obtain⟨Z,U,G,t,e,c⟩:=x;exact⟨Z,U,G,t,k _ _ (.inl rfl) e,c⟩
 |ins C dx fs =>
  obtain⟨d,z,ne,e,mA,⟨od,U,G,e2,c⟩,r⟩:=x;exact⟨ho _ d,z,ne,k _ _ (.inl rfl) e,mA,⟨od,U,G,k _ _ (.inr d) e2,c⟩,r⟩
 |own y=>obtain⟨Z,e⟩:=x;exact⟨Z,k _ _ (.inl rfl) e⟩
 |xd fs=>obtain⟨mA,⟨od,U,G,e,c⟩,r⟩:=x;exact⟨mA,⟨od,U,G,k _ _ (.inl rfl) e,c⟩,r⟩
 |Kh lo hi=>obtain⟨t,u,v,e⟩:=x;exact⟨t,u,v,k _ _ (.inl rfl) e⟩
 |Hd Z u ih=>obtain⟨e,q⟩:=x;exact⟨k _ _ (.inl rfl) e,ih q⟩
 |tbl ps =>
  have e:h.get? a=some { cls:=.none,data:=.fields ps }:=x;show h'.get? a=some { cls:=.none,data:=.fields ps };exact k a _ (.inl rfl) e
 |met f y =>
  have e:h.get? a=some (PySem.W.methodObj (.ref f) (.ref y)):=x;show h'.get? a=some (PySem.W.methodObj (.ref f) (.ref y));exact k a _ (.inl rfl) e
 |ext φ=>obtain⟨p,⟨o,e⟩,st⟩:=x;exact⟨st _ _ p λo q=>k _ _ (.inl rfl) q,⟨o,k _ _ (.inl rfl) e⟩,st⟩
theorem Mx.lt(x:Mx P w H h)(e:H a=some o):a<h.objs.size:=(x a o e).lt
def Mx.fresh(x:Mx P w H h)(e:h.objs.size<=a):H a=none:=by
 cases q:H a with
 |none=>rfl|some u=>exact absurd (fu (x.lt q) e) (m5 _)
def Mx.kept(x:Mx P w H h)(k:∀b u,h.get? b=some u->h'.get? b=some u):Mx P w H h':=λa o e =>
 (x a o e).stay (λb u _ q=>k b u q) (λ_ q=>q) λ_ _ q=>q
def Mx.laid(x:Mx P w H h)(k:∀b u,h.get? b=some u->h'.get? b=some u)(U:h.objs.size<=a)(new:za P w (upd H a o) h' a o):Mx P w (upd H a o) h':=λb u e=>by
 have Z:=x.fresh U
 by_cases G:b=a
 .subst G;rw[t8] at e;cases e;exact new
 .rw[j6 G] at e
  exact(x b u e).stay (λc v _ q=>k c v q) (λc q=>by rw[j6 (mj q Z)];exact q) λc R q=>by rw[j6 (mj q Z)];exact q
def Rd(H:Hp)(a:Addr)(u:HO):Prop:=H a=some u\/∃o,H a=some (.Hd o u)
def Rd.ok(r:Rd H a u)(x:Mx P w H h):za P w H h a u:=by
 rcases r with r|⟨o,r⟩
 .exact x a u r
 .obtain⟨_,q⟩:=x a _ r
  exact q
def Mut:Option HO->Prop
 |some (.lst _)=>True|some (.dK _)=>True|some (.dT _)=>True|some (.set _ _)=>True|some (.ins _ _ _)=>True|some (.ext _)=>True|_=>False
def Mx.write(ok:Mx P w H h)(R:Mut (H x))(he:e=x\/H e=some (.own x))(k:∀b u,b≠e->h.get? b=some u->h'.get? b=some u)(qk:∃u,h'.get? e=some u)(new:za P w (upd H x o') h' x o'):Mx P w (upd H x o') h':=λb u q=>by
 have G:∀c y,H c=some (.own y)->c≠x:=λc y r z=>by subst z;rw[r] at R;exact R
 have qq:∀c xs,H c=some (.tup xs)->c≠x:=λc xs r z=>by subst z;rw[r] at R;exact R
 by_cases hb:b=x
 .subst hb;rw[t8] at q;cases q;exact new
 .rw[j6 hb] at q
  by_cases Z:b=e
  .have q':H b=some (.own x):=by
    rcases he with z|z
    .exact absurd (Z.trans z) hb
    .rw[Z];exact z
   rw[q] at q';cases q';obtain⟨v,hv⟩:=qk;exact⟨v,by rw[Z];exact hv⟩
  .refine(ok b u q).stay (λc v U r=>k c v ?_ r) (λc r=>by rw[j6 (G c b r)];exact r) λc xs r=>by rw[j6 (qq c xs r)];exact r
   rcases U with rfl|U
   .exact Z
   .rintro rfl
    rcases he with z|z
    .exact G c b U z
    .rw[U] at z;cases z;exact hb rfl
structure Un(fs ex:X1)(H H':Hp)(h h':Heap):Prop where
 keep:∀b o,h.get? b=some o->H b=none->b∉fs->b∉ex->h'.get? b=some o
 slot:∀b o,h.get? b=some o->H b=none->b∈fs->b∉ex->∃sl,h'.get? b=some { o with slots:=sl }
 free:∀b o,h.get? b=some o->H b=none->b∉ex->H' b=none
 there:∀b o,h.get? b=some o->b∉ex->∃o',h'.get? b=some o'
 Q3:∀b xs,H b=some (.tup xs)->H' b=some (.tup xs)
 Vo:∀b o u,H b=some (.Hd o u)->H' b=some (.Hd o u)
 Xe:∀b ps,H b=some (.tbl ps)->∃more,H' b=some (.tbl (ps++more))
def Un.any(u:Un fs ex H H1 h h1)(q:h.get? b=some Z)(n:H b=none)(G:b∉ex):∃R,h1.get? b=some { Z with slots:=R }:=by
 by_cases U:b∈fs
 .exact u.slot b Z q n U G
 .exact⟨Z.slots,u.keep b Z q n U G⟩
def Un.kept(k:∀b u,h.get? b=some u->h'.get? b=some u):Un fs ex H H h h' :=
 ⟨λb Z q _ _ _=>k b Z q,λb Z q _ _ _=>⟨Z.slots,k b Z q⟩,λ_ _ _ n _=>n,λb Z q _=>⟨Z,k b Z q⟩,λ_ _ q=>q,λ_ _ _ q=>q,λ_ ps q=>⟨#[],by rw[q];simp⟩⟩
def Un.refl:Un fs ex H H h h:=Un.kept λ_ _ q=>q
theorem Un.laid(k:∀b u,h.get? b=some u->U.get? b=some u)(R:h.objs.size<=a)(Z:H a=none):Un fs ex H (upd H a o) h U where
 keep:=λb u q _ _ _=>k b u q
 slot:=λb u q _ _ _=>⟨u.slots,k b u q⟩
 free:=λb u q n _=>by rw[j6 (gh (fu (az q) R))];exact n
 there:=λb u q _=>⟨u,k b u q⟩
 Q3:=λb G q=>by rw[j6 (mj q Z)];exact q
 Vo:=λb u G q=>by rw[j6 (mj q Z)];exact q
 Xe:=λb ps q=>⟨#[],by rw[j6 (mj q Z),q];simp⟩
def Un.write(G:Mut (H x))(he:e=x\/H e=some (.own x))(k:∀b u,b≠e->h.get? b=some u->h'.get? b=some u)(U:∃u,h'.get? e=some u):Un fs ex H (upd H x o) h h':=by
 have hx:∀b,H b=none->b≠x:=λb n z=>by subst z;rw[n] at G;exact G
 have hb:∀b,H b=none->b≠e:=λb n z=>by
  subst z;rcases he with r|r
  .exact hx b n r
  .rw[n] at r;cases r
 have R:∀b u,H b=some u->¬Mut (some u)->b≠x:=λb u q nm z=>by subst z;rw[q] at G;exact nm G
 refine⟨λb u q n _ _=>k b u (hb b n) q,λb u q n _ _=>⟨u.slots,k b u (hb b n) q⟩,λb u q n _=>by rw[j6 (hx b n)];exact n,λb u q _=>?_,
  λb xs q=>by rw[j6 (R b _ q λz=>z)];exact q,λb u xs q=>by rw[j6 (R b _ q λz=>z)];exact q,λb ps q=>⟨#[],by rw[j6 (R b _ q λz=>z),q];simp⟩⟩
 by_cases Z:b=e
 .subst Z;exact U
 .exact⟨u,k b u Z q⟩
noncomputable def trk(h:Heap)(H:Hp):List Addr:=(List.range h.objs.size).filter λa=>(H a).isSome
def Vp(h:Heap)(H:Hp):Heap:=PySem.W.hideAll h (trk h H)
def adq(h:Heap)(H:Hp):(Vp h H).objs.size=h.objs.size:=PySem.W.hideAll_size _ _
def agl(e:h.get? b=some o)(n:H b=none):(Vp h H).get? b=some o :=
 PySem.W.hideAll_get _ e λZ=>by have q:(H b).isSome=true:=(n8.mp Z).2;rw[n] at q;simp at q
def aj8(e:(Vp h H).get? b=some o):h.get? b=some o/\H b=none:=by
 have Z:h.get? b=some o:=PySem.W.of_hideAll (trk h H) e;refine⟨Z,?_⟩;cases q:H b with
 |none=>rfl
 |some x =>
  have G:b∈trk h H:=n8.mpr ⟨iy.mpr (az Z),by simp[q]⟩;have z:(Vp h H).get? b=none:=PySem.W.hideAll_none (trk h H) G;rw[z] at e;cases e
end L2
namespace L2
open PySem PySem.Spec PyProof.Rows
structure Mod(K:Fg)(mg:Zs)(base:Heap):Prop where
 kin:K.In base
 glob:base.Ns mainGlobals mg
 blt:∃mb,base.Ns builtinsNs mb/\∀x:Str,x≠"__name__" -> mb x=bootBuiltins x
 nolimit:base.NoLimit
structure Cx where
 prog:Program
 w:World
 K:Fg
 mg:Str->Option Value
 base:Heap
 A:Around
 N:List Str
 s₀:Shared
 H₀:Hp
 env:Env
 outer:List Env
 stack:List Env
 ex:List Addr
 fn:Str->Bool
 calm:Bool
 pn:List (Addr×Obj)
 xe:Value->Shared->Prop
noncomputable def frs(l:List Env):List Addr:=l.filterMap (·.frame)
abbrev Cx.fs(X:Cx):List Addr:=frs X.outer
def Vis(Z:Scope)(x:Str):Prop:=Z.names.lookup x=some .local\/Z.names.lookup x=some .cell\/Z.names.lookup x=some .free
def Loc(Z:Scope)(x:Str):Prop:=Z.names.lookup x=some .local\/Z.names.lookup x=some .cell
def Look(Z:Env)(h:Heap)(m:Zs)(x:Str)(u:Value):Prop :=
 (Z.kindOf x=some .local/\m x=some u)\/((Z.kindOf x=some .cell\/Z.kindOf x=some .free)/\∃c,Z.cells.lookup x=some c/\h.IsCell c (some u))
structure Cx.Ok(X:Cx):Prop where
 mod:Mod X.K X.mg X.base
 kind:X.env.scope.kind=.function
 glob:X.env.globals=mainGlobals
 blt:X.env.builtins=builtinsNs
 above:X.s₀.heap.objs.size<=X.env.locals
 inj:∀x y c,X.env.cells.lookup x=some c->X.env.cells.lookup y=some c->x=y
 has:∀x,(X.env.kindOf x=some .cell\/X.env.kindOf x=some .free)->∃c,X.env.cells.lookup x=some c
 cab:∀x c,X.fn x=true->X.env.cells.lookup x=some c->X.s₀.heap.objs.size<=c
 hd:X.calm=true->X.A.handled=none
 frames:X.A.frames=some X.stack
 stk:X.stack=X.outer\/(X.stack=X.env::X.outer/\X.env.frame=some X.env.locals)
 exf:∀b∈X.ex,b≠X.env.locals/\∀x c,X.env.cells.lookup x=some c->c≠b
 bs:∀b o,X.base.get? b=some o->X.s₀.heap.get? b=some o/\X.H₀ b=none
 bsz:X.base.objs.size<=X.s₀.heap.objs.size
 agn:∀b o,X.base.get? b=some o->b∉X.ex
 aj9:∀b∈X.ex,b∉X.fs
 Q4:X.s₀.heap.FunFrames X.base X.outer
 frf:∀b∈X.fs,X.H₀ b=none
structure Inv(X:Cx)(pins:Zp)(σ:List (Option V))(H:Hp)(s:Shared):Prop where
 ok:X.Ok
 os:s.os=X.s₀.os
 bare:AllBare s.gens
 base:Un X.fs X.ex X.H₀ H X.s₀.heap s.heap
 loc:∃m,s.heap.Ns X.env.locals m/\∀(i:Nat)(x:Str)(v:V),X.N[i]?=some x->σ[i]?=some (some v)->Vis X.env.scope x->∃u,RelV v u/\Look X.env s.heap m x u
 cell:∀x c,X.env.cells.lookup x=some c->∃v,s.heap.IsCell c v
 free:H X.env.locals=none
 Jy:∀x c,X.env.cells.lookup x=some c->H c=none
 pin:∀p∈X.pn++pins,s.heap.get? p.1=some p.2/\H p.1=none/\p.1≠X.env.locals/\p.1∉X.fs/\∀v,p.2.data≠.cell v
 zg:Mx X.prog X.w H s.heap
 len:σ.length=X.N.length
def Cx.Ok.azx{X:Cx}(ok:X.Ok)(e:X.base.get? b=some o):b∉X.fs:=λZ=>by have:=(ok.Q4.mem Z).1;rw[e] at this;cases this
theorem Inv.bs(I:Inv X pins σ H s):∀b o,X.base.get? b=some o->s.heap.get? b=some o/\H b=none:=λb o e =>
 ⟨I.base.keep b o (I.ok.bs b o e).1 (I.ok.bs b o e).2 (I.ok.azx e) (I.ok.agn b o e),I.base.free b o (I.ok.bs b o e).1 (I.ok.bs b o e).2 (I.ok.agn b o e)⟩
def Inv.bk(I:Inv X pins σ H s):∀b o,X.base.get? b=some o->s.heap.get? b=some o:=λb o e=>(I.bs b o e).1
theorem Inv.mod(I:Inv X pins σ H s):Mod X.K X.mg X.base:=I.ok.mod
def Inv.kIn(I:Inv X pins σ H s):X.K.In s.heap:=I.ok.mod.kin.keeps I.bk
theorem Inv.lt(I:Inv X pins σ H s):X.env.locals<s.heap.objs.size:=let ⟨_,hn,_⟩:=I.loc;hn.lt
def Inv.sz(I:Inv X pins σ H s):X.s₀.heap.objs.size<=s.heap.objs.size:=bf I.ok.above (wy I.lt)
def Inv.auo(I:Inv X pins σ H s)(h:s.heap.objs.size<=a):a∉X.fs:=λG=>by obtain⟨_,o,Z,_⟩:=I.ok.Q4.mem G;exact absurd (fu (az Z) (bf I.sz h)) (m5 _)
def Inv.cne(I:Inv X pins σ H s):∀x c,X.env.cells.lookup x=some c->c≠X.env.locals:=λx c e z=>by obtain⟨v,o,R,U⟩:=I.cell x c e;obtain⟨m,⟨o',es,ep,Z,G,_⟩,_⟩:=I.loc;rw[z,Z] at R;cases R;rw[G] at U;cases U
theorem Inv.Q4(I:Inv X pins σ H s):s.heap.FunFrames X.base X.outer:=by
 have all:∀(l:List Env),(∀b∈frs l,b∈X.fs)->X.s₀.heap.FunFrames X.base l->s.heap.FunFrames X.base l:=by
  intro l
  induction l with
  |nil=>intro _ _;trivial
  |cons qq r ih =>
   intro R hl;obtain⟨hk,⟨L,o,Z,hn,ho,hd⟩,hr⟩:=hl;have G:L∈X.fs:=R L (by unfold frs;rw[List.filterMap_cons,Z];exact bz);obtain⟨sl,e⟩:=I.base.slot L o ho (I.ok.frf L G) G λz=>I.ok.aj9 L z G
   exact⟨hk,⟨L,_,Z,hn,e,hd⟩,ih (λb U=>R b (by unfold frs;rw[List.filterMap_cons,Z];exact bu _ U)) hr⟩
 exact all X.outer (λ_ U=>U) I.ok.Q4
theorem Inv.stack(I:Inv X pins σ H s):s.heap.FunFrames X.base X.stack:=by
 rcases I.ok.stk with e|⟨e,hf⟩
 .rw[e];exact I.Q4
 .rw[e]
  obtain⟨m,Z,_⟩:=I.loc;refine .cons (by rw[I.ok.kind];decide) hf Z ?_ I.Q4;exact Heap.get?_none_of_le (bf I.ok.bsz I.ok.above)
def Inv.Vq(I:Inv X pins σ H s):∀b∈frs X.stack,b∈X.env.locals::X.fs:=λb Z=>by
 rcases I.ok.stk with e|⟨e,hf⟩
 .rw[e] at Z;exact bu _ Z
 .rw[e] at Z
  unfold frs at Z;rw[List.filterMap_cons,hf] at Z;exact Z
def Inv.abl(I:Inv X pins σ H s):∀b∈frs X.stack,H b=none:=λb Z=>by
 rcases cg.mp (I.Vq b Z) with e|Z
 .rw[e];exact I.free
 .obtain⟨_,o,G,_⟩:=I.ok.Q4.mem Z
  exact I.base.free b o G (I.ok.frf b Z) λz=>I.ok.aj9 b z Z
def Inv.step{ch:X1}(I:Inv X pins σ H s)(R:∀b∈ch,(b∈X.ex\/X.s₀.heap.objs.size<=b)/\b≠X.env.locals/\(∀x c,X.env.cells.lookup x=some c->c≠b)/\∀p∈X.pn++pins,p.1≠b)(keep:∀b o,b≠X.env.locals->b∉X.fs->b∉ch->s.heap.get? b=some o->H b=none->h'.get? b=some o)(qk:∀b o,b≠X.env.locals->b∈X.fs->b∉ch->s.heap.get? b=some o->H b=none->∃sl,h'.get? b=some { o with slots:=sl })(free:∀b o,b∉ch->s.heap.get? b=some o->H b=none->H' b=none)(qv:∀b o,b∉ch->s.heap.get? b=some o->∃o',h'.get? b=some o')(Q3:∀b xs,H b=some (.tup xs)->H' b=some (.tup xs))(Vo:∀b o u,H b=some (.Hd o u)->H' b=some (.Hd o u))(Xe:∀b ps,H b=some (.tbl ps)->∃more,H' b=some (.tbl (ps++more)))(ns:∀m,s.heap.Ns X.env.locals m->h'.Ns X.env.locals m)(zg:Mx X.prog X.w H' h')(hg:AllBare g') :
 Inv X pins σ H' { s with heap:=h',gens:=g',drawn:=d',toks:=t' }:=by
 have q0:∀b o,X.s₀.heap.get? b=some o->b≠X.env.locals:=λb o e=>gh (fu (az e) I.ok.above)
 have qq:∀b o,X.s₀.heap.get? b=some o->b∉X.ex->b∉ch:=λb o e Z hb=>by
  rcases(R b hb).1 with z|z
  .exact Z z
  .exact absurd (fu (az e) z) (m5 _)
 have G:∀x c,X.env.cells.lookup x=some c->∀v,s.heap.IsCell c v->h'.IsCell c v:=λx c e v ⟨o,ho,hd⟩=>by
  have U:c∉ch:=λz=>(R c z).2.2.1 x c e rfl
  by_cases hc:c∈X.fs
  .obtain⟨sl,q⟩:=qk c o (I.cne x c e) hc U ho (I.Jy x c e)
   exact⟨_,q,hd⟩
  .exact⟨o,keep c o (I.cne x c e) hc U ho (I.Jy x c e),hd⟩
 refine⟨I.ok,I.os,hg,⟨λb o e n hb Z=>?_,λb o e n hb Z=>?_,λb o e n Z=>?_,λb o e Z=>?_,λb xs e=>Q3 b xs (I.base.Q3 b xs e),λb o xs e=>Vo b o xs (I.base.Vo b o xs e),λb ps e=>?_⟩,?_,λx c e=>?_,?_,λx c e=>?_,λp hp=>?_,zg,I.len⟩
 .exact keep b o (q0 b o e) hb (qq b o e Z) (I.base.keep b o e n hb Z) (I.base.free b o e n Z)
 .obtain⟨sl,e1⟩:=I.base.slot b o e n hb Z
  obtain⟨q1,e2⟩:=qk b _ (q0 b o e) hb (qq b o e Z) e1 (I.base.free b o e n Z);exact⟨q1,e2⟩
 .obtain⟨o',e1⟩:=I.base.there b o e Z
  exact free b o' (qq b o e Z) e1 (I.base.free b o e n Z)
 .obtain⟨o',e1⟩:=I.base.there b o e Z
  exact qv b o' (qq b o e Z) e1
 .obtain⟨m1,e1⟩:=I.base.Xe b ps e
  obtain⟨m2,e2⟩:=Xe b _ e1;exact⟨m1++m2,by rw[e2,Array.append_assoc]⟩
 .obtain⟨m,hn,hl⟩:=I.loc
  refine⟨m,ns m hn,λi x v e1 e2 e3=>?_⟩;obtain⟨u,r,l⟩:=hl i x v e1 e2 e3;refine⟨u,r,?_⟩;rcases l with l|⟨k,c,e,z⟩
  .exact .inl l
  .exact .inr ⟨k,c,e,G x c e _ z⟩
 .obtain⟨v,z⟩:=I.cell x c e
  exact⟨v,G x c e v z⟩
 .obtain⟨m,⟨o,_,_,ho,_⟩,_⟩:=I.loc
  exact free _ o (λz=>(R _ z).2.1 rfl) ho I.free
 .obtain⟨v,o,ho,hd⟩:=I.cell x c e
  exact free c o (λz=>(R c z).2.2.1 x c e rfl) ho (I.Jy x c e)
 .obtain⟨e,n,ne,nf,d⟩:=I.pin p hp
  have U:p.1∉ch:=λz=>(R p.1 z).2.2.2 p hp rfl
  exact⟨keep p.1 p.2 ne nf U e n,free p.1 p.2 U e n,ne,nf,d⟩
def Inv.un(I:Inv X pins σ H s)(u:Un X.fs [] H H' s.heap h')(zg:Mx X.prog X.w H' h'):Inv X pins σ H' { s with heap:=h',toks:=t' }:=by
 obtain⟨m,⟨o,es,ep,ho,r⟩,_⟩:=id I.loc;obtain⟨sl,hL⟩:=u.any ho I.free (by simp);exact I.step (g':=s.gens) (d':=s.drawn) (ch:=[]) (λ_ z=>nomatch z) (λb o _ R _ e n=>u.keep b o e n R (by simp)) (λb o _ R _ e n=>u.slot b o e n R (by simp)) (λb o _ e n=>u.free b o e n (by simp)) (λb o _ e=>u.there b o e (by simp)) u.Q3 u.Vo u.Xe (λm' hm=>by
  obtain⟨o',U,G,Z,r'⟩:=hm;rw[ho] at Z;cases Z;exact⟨_,U,G,hL,r'⟩) zg I.bare
def Inv.call(I:Inv X pins σ H s)(u:Un (frs X.stack) ch H H' s.heap h')(zg:Mx X.prog X.w H' h')(hg:AllBare g')(U:∀b∈ch,(b∈X.ex\/X.s₀.heap.objs.size<=b)/\b≠X.env.locals/\(∀x c,X.env.cells.lookup x=some c->c≠b)/\∀p∈X.pn++pins,p.1≠b) :
 Inv X pins σ H' { s with heap:=h',gens:=g',drawn:=d',toks:=t' }:=by
 obtain⟨m,⟨o,es,ep,ho,r⟩,_⟩:=id I.loc;obtain⟨sl,hL⟩:=u.any ho I.free λz=>(U _ z).2.1 rfl
 exact I.step (ch:=ch) U (λb o hL hb Z e n=>u.keep b o e n (λz=>(cg.mp (I.Vq b z)).elim hL hb) Z) (λb o _ _ Z e n=>u.any e n Z) (λb o Z e n=>u.free b o e n Z) (λb o Z e=>u.there b o e Z) u.Q3 u.Vo u.Xe (λm' hm=>by
  obtain⟨o',qq,R,G,r'⟩:=hm;rw[ho] at G;cases G;exact⟨_,qq,R,hL,r'⟩) zg hg
def Inv.turned(I:Inv X pins σ H s)(k:∀b o,b≠it->s.heap.get? b=some o->h'.get? b=some o)(hn:H it=none)(U:it≠X.env.locals)(h1:it∈X.ex\/X.s₀.heap.objs.size<=it)(h2:∀x c,X.env.cells.lookup x=some c->c≠it)(R:∀p∈X.pn++pins,p.1≠it):Inv X pins σ H { s with heap:=h',toks:=t' }:=by
 have G:∀b u,H b=some u->b≠it:=λb u e z=>by rw[z,hn] at e;cases e
 refine I.step (g':=s.gens) (d':=s.drawn) (ch:=[it]) (λb hb=>?_) (λb o _ _ Z e _=>k b o (λz=>Z (by simp[z])) e) (λb o _ _ Z e _=>⟨o.slots,k b o (λz=>Z (by simp[z])) e⟩) (λ_ _ _ _ n=>n)
  (λb o Z e=>⟨o,k b o (λz=>Z (by simp[z])) e⟩) (λ_ _ e=>e) (λ_ _ _ e=>e) (λb ps e=>⟨#[],by rw[e];simp⟩) (λm hm=>?_) (λb u e=>?_) I.bare
 .have e:b=it:=by simpa using hb
  subst e;exact⟨h1,U,h2,R⟩
 .obtain⟨o,es,ep,ho,r⟩:=hm
  exact⟨o,es,ep,k _ o (oh U) ho,r⟩
 .refine(I.zg b u e).stay (λc v Z q=>k c v ?_ q) (λ_ q=>q) λ_ _ q=>q
  rcases Z with z|z
  .rw[z];exact G b u e
  .exact G c _ z
def Inv.tok(I:Inv X pins σ H s)(t:Nat):Inv X pins σ H { s with toks:=t }:=I.un (h':=s.heap) (t':=t) Un.refl I.zg
theorem Inv.kept(I:Inv X pins σ H s)(k:∀b u,s.heap.get? b=some u->Z.get? b=some u):Inv X pins σ H { s with heap:=Z,toks:=t' }:=I.un (Un.kept k) (I.zg.kept k)
theorem Inv.laid(I:Inv X pins σ H s)(k:∀b u,s.heap.get? b=some u->G.get? b=some u)(Z:s.heap.objs.size<=a)(new:za X.prog X.w (upd H a o) G a o) :
 Inv X pins σ (upd H a o) { s with heap:=G,toks:=t' }:=I.un (Un.laid k Z (I.zg.fresh Z)) (I.zg.laid k Z new)
theorem Inv.write(I:Inv X pins σ H s)(U:Mut (H x))(R:e=x\/H e=some (.own x))(k:∀b u,b≠e->s.heap.get? b=some u->G.get? b=some u)(Z:∃u,G.get? e=some u)(new:za X.prog X.w (upd H x o) G x o):Inv X pins σ (upd H x o) { s with heap:=G,toks:=t' }:=I.un (Un.write U R k Z) (I.zg.write U R k Z new)
def Inv.weak(I:Inv X pins σ H s)(Z:σ'.length=σ.length)(w:∀(i:Nat) v,σ'[i]?=some (some v)->σ[i]?=some (some v)):Inv X pins σ' H s :=
 ⟨I.ok,I.os,I.bare,I.base,let ⟨m,hn,hl'⟩:=I.loc;⟨m,hn,λi x v G R U=>hl' i x v G (w i v R) U⟩,I.cell,I.free,I.Jy,I.pin,I.zg,Z.trans I.len⟩
def Inv.Vr(I:Inv X pins σ H s)(h:∀p∈abm,s.heap.get? p.1=some p.2/\H p.1=none/\p.1≠X.env.locals/\p.1∉X.fs/\∀v,p.2.data≠.cell v):Inv X abm σ H s :=
 ⟨I.ok,I.os,I.bare,I.base,I.loc,I.cell,I.free,I.Jy,λp Z=>(bh.mp Z).elim (λz=>I.pin p (ie _ z)) (h p),I.zg,I.len⟩
def Hk{N:Yf}(G:N.Nodup){i:Nat}(a:N[i]?=some x)(b:N[j]?=some x):i=j:=by obtain⟨R,Z⟩:=ak.mp a;obtain⟨h2,U⟩:=ak.mp b;exact(List.getElem_inj G).mp (Z.trans U.symm)
def adt(I:Inv X pins σ H s)(hN:X.N.Nodup)(hi:X.N[i]?=some x)(hx:Loc X.env.scope x)(r:RelV v u)(h:∀s',Inv X pins (σ.set i (some v)) H s'->(∃a,Heap.SameBut a s.heap s'.heap/\(a=X.env.locals\/X.env.cells.lookup x=some a))->Q () s')(hf:X.fn x=true\/X.env.scope.names.lookup x=some .local:=by first|exact .inl rfl|exact .inr rfl|assumption):wpAny M A (storeName X.env x u) Q E s:=by
 obtain⟨m,hn,hl⟩:=id I.loc;have q2:(X.env.scope.kind==.class||(X.env.scope.kind==.module&&X.env.locals != X.env.globals))=false:=by rw[I.ok.kind];rfl
 have qq:i < σ.length:=by rw[I.len];exact(ak.mp hi).1
 have cne:=I.cne;have U:∀{a:Addr}{h':Heap},(∃o,s.heap.get? a=some o/\H a=none)->Heap.SameBut a s.heap h'->Mx X.prog X.w H h':=fun{a h'} ha Z b ob e=>by
  obtain⟨_,_,Oe⟩:=ha;refine(I.zg b ob e).stay (λc w' R q=>(Z.2 c ?_).trans q) (λ_ q=>q) λ_ _ q=>q
  rintro rfl;rcases R with rfl|R
  .rw[Oe] at e;cases e
  .rw[Oe] at R;cases R
 rcases hx with hk|hk
 .refine wpAny_storeName_local hk hn (λh' Uv Z=>?_) q2
  obtain⟨oL,_,_,q3,_⟩:=id hn;refine h _ ⟨I.ok,I.os,I.bare,⟨λb o e n hb hx=>?_,λb o e n hb hx=>?_,I.base.free,λb o e hx=>?_,I.base.Q3,I.base.Vo,I.base.Xe⟩,⟨_,Uv,λj y v' G e2 e3=>?_⟩,λy c e=>?_,I.free,I.Jy,λp hp=>?_,U ⟨oL,q3,I.free⟩ Z,by simpa using I.len⟩ ⟨_,Z,.inl rfl⟩
  .exact(Z.2 b (gh (fu (az e) I.ok.above))).trans (I.base.keep b o e n hb hx)
  .obtain⟨sl,G⟩:=I.base.slot b o e n hb hx
   exact⟨sl,(Z.2 b (gh (fu (az e) I.ok.above))).trans G⟩
  .obtain⟨o',G⟩:=I.base.there b o e hx
   exact⟨o',(Z.2 b (gh (fu (az e) I.ok.above))).trans G⟩
  .by_cases hj:j=i
   .subst hj
    rw[hi] at G;cases G;rw[qy qq] at e2;cases e2;exact⟨u,r,.inl ⟨hk,by simp⟩⟩
   .rw[qg (oh hj)] at e2
    obtain⟨u',r',q⟩:=hl j y v' G e2 e3;refine⟨u',r',?_⟩;rcases q with⟨k,e⟩|⟨k,c,e,z⟩
    .refine .inl ⟨k,?_⟩
     have:y≠x:=λe=>hj (Hk hN G (e▸hi))
     simp[this,e]
    .exact .inr ⟨k,c,e,z.sameBut Z (cne y c e)⟩
  .obtain⟨w',z⟩:=I.cell y c e
   exact⟨w',z.sameBut Z (cne y c e)⟩
  .obtain⟨e,n,ne,nf,d⟩:=I.pin p hp
   exact⟨(Z.2 p.1 ne).trans e,n,ne,nf,d⟩
 .have qk:X.fn x=true:=by
   rcases hf with z|z
   .exact z
   .rw[z] at hk;cases hk
  obtain⟨c,R⟩:=I.ok.has x (.inl hk);obtain⟨w',z⟩:=I.cell x c R;refine wpAny_storeName_cell I.ok.kind hk R z (λh' q1 Z=>?_);obtain⟨oc,qv,q4⟩:=id z;refine h { s with heap:=h' } ⟨I.ok,I.os,I.bare,⟨λb o e n hb hx=>?_,λb o e n hb hx=>?_,I.base.free,λb o e hx=>?_,I.base.Q3,I.base.Vo,I.base.Xe⟩,⟨m,hn.sameBut Z (oh (cne x c R)),λj y v' G e2 e3=>?_⟩,λy c' e=>?_,I.free,I.Jy,λp hp=>?_,U ⟨oc,qv,I.Jy x c R⟩ Z,by simpa using I.len⟩ ⟨c,Z,.inr R⟩
  .exact(Z.2 b (gh (fu (az e) (I.ok.cab x c qk R)))).trans (I.base.keep b o e n hb hx)
  .obtain⟨sl,G⟩:=I.base.slot b o e n hb hx
   exact⟨sl,(Z.2 b (gh (fu (az e) (I.ok.cab x c qk R)))).trans G⟩
  .obtain⟨o',G⟩:=I.base.there b o e hx
   exact⟨o',(Z.2 b (gh (fu (az e) (I.ok.cab x c qk R)))).trans G⟩
  .by_cases hj:j=i
   .subst hj
    rw[hi] at G;cases G;rw[qy qq] at e2;cases e2;exact⟨u,r,.inr ⟨.inl hk,c,R,q1⟩⟩
   .rw[qg (oh hj)] at e2
    obtain⟨u',r',q⟩:=hl j y v' G e2 e3;refine⟨u',r',?_⟩;rcases q with q|⟨k,c',e,z'⟩
    .exact .inl q
    .refine .inr ⟨k,c',e,z'.sameBut Z ?_⟩
     rintro rfl;exact hj (Hk hN G (I.ok.inj _ _ _ e R▸hi))
  .by_cases q0:c'=c
   .subst q0;exact⟨_,q1⟩
   .obtain⟨w2,z2⟩:=I.cell y c' e
    exact⟨w2,z2.sameBut Z q0⟩
  .obtain⟨e,n,ne,nf,d⟩:=I.pin p hp
   refine⟨(Z.2 p.1 ?_).trans e,n,ne,nf,d⟩;intro q;rw[q,qv] at e;have q':oc=p.2:=jb e;exact d w' (by rw[<- q'];exact q4)
def agq(I:Inv X pins σ H s)(R:X.N.Nodup)(hi:X.N[i]?=some x)(G:Loc X.env.scope x)(r:RelV v u)(h:∀Z,Inv X pins (σ.set i (some v)) H Z->Q () Z)(U:X.fn x=true\/X.env.scope.names.lookup x=some .local:=by first|exact .inl rfl|exact .inr rfl|assumption):wpAny M A (storeName X.env x u) Q E s :=
 adt I R hi G r (λZ I' _=>h Z I') U
def Inv.call'(I:Inv X pins σ H s)(ho:s'.os=s.os)(u:Un (frs X.stack) ch H R s.heap s'.heap)(zg:Mx X.prog X.w R s'.heap)(hg:AllBare s'.gens)(Z:∀b∈ch,(b∈X.ex\/X.s₀.heap.objs.size<=b)/\b≠X.env.locals/\(∀x c,X.env.cells.lookup x=some c->c≠b)/\∀p∈X.pn++pins,p.1≠b):Inv X pins σ R s':=by obtain⟨h',g',G,U,o'⟩:=s';have e:o'=s.os:=ho;subst e;exact I.call (g':=g') (t':=U) (d':=G) u zg hg Z
abbrev XK:=Value->Option Addr->Hp->Prop
abbrev St:=List (Option V)
abbrev VK:=V->Hp->Prop
abbrev TE:=St->Hp->VK->Prop
abbrev TT:=St->Hp->(Bool->Hp->Prop)->Prop
abbrev TA:=St->Hp->(List V->Hp->Prop)->Prop
structure Ends where
 nx:St->Hp->Prop
 rt:VK
 bk:St->Hp->Prop:=λ_ _=>False
 ct:St->Hp->Prop:=λ_ _=>False
abbrev TS:=Ends->St->Hp->Prop
def EP(X:Cx)(Z:Zp)(R:St)(Q:VK)(u:Value)(U:Shared):Prop:=∃v G,Inv X Z R G U/\RelV v u/\Q v G
def TP(X:Cx)(Z:Zp)(R:St)(Q:Bool->Hp->Prop)(b:Bool)(U:Shared):Prop:=∃G,Inv X Z R G U/\Q b G
def AP(X:Cx)(Z:Zp)(σ:St)(Q:List V->Hp->Prop)(us:Zl)(R:Shared):Prop:=∃U G,Inv X Z σ G R/\Vals U us/\Q U G
def SP(X:Cx)(G:Zp)(D:Ends)(f:Flow)(R:Shared):Prop :=
 match f with
 |.next=>∃Z U,Inv X G Z U R/\D.nx Z U|.brk=>∃Z U,Inv X G Z U R/\D.bk Z U|.cont=>∃Z U,Inv X G Z U R/\D.ct Z U|.ret u=>∃v Z U,Inv X G Z U R/\RelV v u/\D.rt v U
def PE(X:Cx)(e:Expr)(t:TE):Prop :=
 ∀(Z:Zp)(s:Shared)(G:St)(H:Hp)(Q:VK),Inv X Z G H s->t G H Q->wpAny (model X.prog X.w) X.A (eval e X.env) (EP X Z G Q) X.xe s
def PT(X:Cx)(e:Expr)(t:TT):Prop :=
 ∀(Z:Zp)(s:Shared)(G:St)(H:Hp)(Q:Bool->Hp->Prop),Inv X Z G H s->t G H Q->wpAny (model X.prog X.w) X.A (isTrue e X.env (eval e X.env)) (TP X Z G Q) X.xe s
def PW(X:Cx)(e:Expr)(t:TT):Prop :=
 ∀(G:Sem Value)(Z:Zp)(s:Shared)(U:St)(H:Hp)(Q:Bool->Hp->Prop),Inv X Z U H s->t U H Q->wpAny (model X.prog X.w) X.A (isTrue e X.env G) (TP X Z U Q) X.xe s
def PW.pt(h:PW X e t):PT X e t:=h _
def PA(X:Cx)(R:Ya)(t:TA):Prop :=
 ∀(U:Pos)(Z:Zp)(s:Shared)(G:St)(H:Hp)(Q:List V->Hp->Prop),Inv X Z G H s->t G H Q->wpAny (model X.prog X.w) X.A (spliced (backTo U (starEach R X.env))) (AP X Z G Q) X.xe s
def PS(X:Cx)(U:Stmt)(t:TS):Prop :=
 ∀(Z:Zp)(s:Shared)(G:St)(H:Hp)(D:Ends),Inv X Z G H s->t D G H->wpAny (model X.prog X.w) X.A (exec U X.env) (SP X Z D) X.xe s
def Ml(X:Cx)(U:List Stmt)(t:TS):Prop :=
 ∀(Z:Zp)(s:Shared)(G:St)(H:Hp)(D:Ends),Inv X Z G H s->t D G H->wpAny (model X.prog X.w) X.A (execs U X.env) (SP X Z D) X.xe s
def ym(h:wpAny M A t Q E s)(G:∀a s,Q a s->Z a s):wpAny M A t Z E s:=j4 h G λ_ _ x=>x
end L2
namespace L2
open PySem PySem.Spec PyProof.Rows
def az3(i:Nat):TE:=λZ H Q=>∃v,Z[i]?=some (some v)/\Q v H
def tC(v:V):TE:=λ_ H Q=>Q v H
def apm(hN:X.N[i]?=some x)(hv:Vis X.env.scope x)(R:(x==("__debug__" : Str))=false:=by decide)(qq:(x==("__classdict__" : Str))=false:=by decide):PE X (.Name x pos) (az3 i):=by
 intro G s σ H Q I h;obtain⟨v,e,h⟩:=h;obtain⟨m,hn,hl⟩:=I.loc;obtain⟨u,r,l⟩:=hl i x v hN e hv;have fin:EP X G σ Q u s:=⟨v,H,I,r,h⟩;rcases l with⟨Z,hm⟩|⟨Z,c,hc,U⟩
 .exact wpAny_Name (wpAny_loadName_local I.ok.kind Z hn hm fin) R
 .rcases Z with Z|Z
  .exact wpAny_Name (wpAny_loadName_cell I.ok.kind Z hc U fin) R
  .exact wpAny_Name (wpAny_loadName_free I.ok.kind Z hc U fin qq) R
def apn:PE X (.Constant (.int i) j pos) (tC (.int i)):=λ_ _ _ H _ I h=>wpAny_Constant_int ⟨.int i,H,I.tok _,⟨_,rfl⟩,h⟩
def auq:PE X (.Constant (.bool b) j pos) (tC (.bl b)):=λ_ _ _ H _ I h=>Constant_bool ⟨.bl b,H,I,rfl,h⟩
def apo:PE X (.Constant .none j pos) (tC .non):=λ_ _ _ H _ I h=>Constant_none ⟨.non,H,I,rfl,h⟩
def apq:PE X (.Constant (.str x) j pos) (tC (.str x)):=λ_ _ _ H _ I h=>Calls.Constant_str ⟨.str x,H,I.tok _,⟨_,rfl⟩,h⟩
def Gl(X:Cx)(x:Str):Prop:=X.env.kindOf x=some .globalImplicit
def abn(I:Inv X pins σ H s)(U:Gl X x)(Z:X.mg x=some u)(h:Q u s)(G:(x==("__debug__" : Str))=false:=by decide):wpAny (model X.prog X.w) X.A (eval (.Name x pos) X.env) Q E s :=
 Calls.Name_function_global I.ok.kind U (Calls.loadGlobal_global (by rw[I.ok.glob];exact I.mod.glob.keeps I.bk) Z h) G
def Ih(I:Inv X pins σ H s)(Z:Gl X x)(hm:X.mg x=none)(hv:bootBuiltins x=some u)(h:Q u s)(G:x≠"__name__" := by decide)(hd:(x==("__debug__" : Str))=false:=by decide):wpAny (model X.prog X.w) X.A (eval (.Name x pos) X.env) Q E s:=by obtain⟨mb,U,R⟩:=I.mod.blt;exact Calls.Name_function_global I.ok.kind Z (Calls.loadGlobal_builtin (by rw[I.ok.glob];exact I.mod.glob.keeps I.bk) hm (by rw[I.ok.blt];exact U.keeps I.bk) ((R x G).trans hv) h) hd
def aka(U:Gl X x)(Z:X.mg x=some u)(r:RelV v u)(G:(x==("__debug__" : Str))=false:=by decide):PE X (.Name x pos) (tC v) :=
 λ_ _ _ H _ I h=>abn I U Z ⟨v,H,I,r,h⟩ G
def tB(t:TE):TT:=λZ H Q=>t Z H λx G=>∃c,x=.bl c/\Q c G
def apr(h:PE X e t)(U:∀Z,isTrue e X.env Z=(do let v <- Z;standAt e.pos;holding [v] (truthy v)):=by intro _;rfl):PT X e (tB t):=by intro G s R H Q I hw;refine isTrue_plain (ym (h G s R H _ I hw) λv s1 ⟨x,H1,I1,r1,q1⟩=>?_) (U _);obtain⟨d,rfl,q⟩:=q1;cases r1;exact je ⟨H1,I1,q⟩
def az4(t u:TT):TT:=λZ H Q=>t Z H λc G=>if c=true then u Z G Q else Q false G
def tOr(t u:TT):TT:=λZ H Q=>t Z H λc G=>if c=true then Q true G else u Z G Q
def az5(t:TT):TT:=λZ H Q=>t Z H λc G=>Q (!c) G
def akb(G:PT X a tA):PW X (.BoolOp .And [a] pos) tA:=by
 intro R Z s U H Q I h;refine isTrue_and (ym (G Z s U H Q I h) λc s1 e=>?_);cases c with
 |true=>exact isTrue_and_nil e|false=>exact e
def aps(G:PT X a tA):PW X (.BoolOp .Or [a] pos) tA:=by
 intro R Z s U H Q I h;refine isTrue_or (ym (G Z s U H Q I h) λc s1 e=>?_);cases c with
 |false=>exact isTrue_or_nil e|true=>exact e
def apt{G:Ya}(ha:PT X a tA)(hb:PW X (.BoolOp .And (b::G) pos) tB'):PW X (.BoolOp .And (a::b::G) pos) (az4 tA tB'):=by
 intro wh Z s σ H Q I h;refine isTrue_and (ym (ha Z s σ H _ I h) λc s1 z_=>?_);obtain⟨R,U,q1⟩:=z_;cases c with
 |true=>exact hb wh Z s1 σ R Q U q1|false=>exact⟨R,U,q1⟩
def aur{G:Ya}(ha:PT X a tA)(hb:PW X (.BoolOp .Or (b::G) pos) tB'):PW X (.BoolOp .Or (a::b::G) pos) (tOr tA tB'):=by
 intro wh Z s σ H Q I h;refine isTrue_or (ym (ha Z s σ H _ I h) λc s1 z_=>?_);obtain⟨R,U,q1⟩:=z_;cases c with
 |true=>exact⟨R,U,q1⟩|false=>exact hb wh Z s1 σ R Q U q1
def ags(G:PT X a tA):PT X (.UnaryOp .Not a pos) (az5 tA):=by intro Z s U H Q I h;exact isTrue_not (G Z s U H (λc R=>Q (!c) R) I h)
def aus(R U:TE):TE:=λG H Q=>R G H λx Z=>∃c,x=.bl c/\if c=true then U G Z Q else Q (.bl false) Z
def az7(R U:TE):TE:=λG H Q=>R G H λx Z=>∃c,x=.bl c/\if c=true then Q (.bl true) Z else U G Z Q
def aut(U:TE):TE:=λG H Q=>U G H λx Z=>∃c,x=.bl c/\Q (.bl (!c)) Z
def apu{G:Ya}(ha:PE X a ta)(hb:PE X (.BoolOp .And (b::G) pos) tb):PE X (.BoolOp .And (a::b::G) pos) (aus ta tb):=by
 intro Z s σ H Q I h;refine BoolOp_and (ym (ha Z s σ H _ I h) λv s1 z_=>?_);obtain⟨x,H1,R,r1,U⟩:=z_;obtain⟨c,rfl,U⟩:=U;cases r1;refine je ?_;cases c with
 |true=>exact hb Z s1 σ H1 Q R U|false=>exact⟨.bl false,H1,R,rfl,U⟩
def auu{G:Ya}(ha:PE X a ta)(hb:PE X (.BoolOp .Or (b::G) pos) tb):PE X (.BoolOp .Or (a::b::G) pos) (az7 ta tb):=by
 intro Z s σ H Q I h;refine BoolOp_or (ym (ha Z s σ H _ I h) λv s1 z_=>?_);obtain⟨x,H1,R,r1,U⟩:=z_;obtain⟨c,rfl,U⟩:=U;cases r1;refine je ?_;cases c with
 |false=>exact hb Z s1 σ H1 Q R U|true=>exact⟨.bl true,H1,R,rfl,U⟩
def apv(ha:PE X a U):PE X (.UnaryOp .Not a pos) (aut U):=by intro Z s σ H Q I h;refine UnaryOp_ (ym (ha Z s σ H _ I h) λv s1 z_=>?_);obtain⟨x,H1,R,r1,G⟩:=z_;obtain⟨c,rfl,G⟩:=G;cases r1;exact not_of (je ⟨.bl (!c),H1,R,rfl,G⟩)
end L2
namespace L2
open PySem PySem.Spec PyProof.Rows
def Dm(K:Fg)(H:Hp)(a:Addr)(G:List V):Prop :=
 Rd H a (.lst G) \/
  ∃(o:Obj)(Z:Xs)(n:Nat),K.lookup a=some o/\o.cls=.type "list"/\o.dict=none/\o.data=.seq Z n/\Z.size<=sizeLine/\Vals G Z.toList
def Ei(K:Fg)(H:Hp)(a:Addr)(G:List V):Prop :=
 Rd H a (.tup G) \/
  ∃(o:Obj)(Z:Xs)(n:Nat),K.lookup a=some o/\o.cls=.type "tuple"/\o.data=.seq Z n/\Z.size<=sizeLine/\Vals G Z.toList
noncomputable def az8:Value->Option V
 |.none=>some .non|.bool b=>some (.bl b)|.int i _=>some (.int i)|.str x _=>some (.str x)|.bytes b _=>some (.byt b)|.float b _=>some (.flt b)|.ref a=>some (.ref a)|.type n=>some (.ty n)|_=>none
def RelV.abs(r:RelV x u):az8 u=some x:=by
 cases x with
 |non=>cases r;rfl|bl _=>cases r;rfl|int _=>obtain⟨t,rfl⟩:=r;rfl
 |str _=>obtain⟨t,rfl⟩:=r;rfl
 |byt _=>obtain⟨t,rfl⟩:=r;rfl
 |flt _=>obtain⟨t,rfl⟩:=r;rfl
 |ref _=>cases r;rfl|ty _=>cases r;rfl
def RelV.inj(r:RelV x u)(q:RelV y u):x=y:=jb (r.abs.symm.trans q.abs)
theorem Vals.inj:∀{G U:List V}{Z:Zl},Vals G Z->Vals U Z->G=U
 |_,_,_,.nil,.nil=>rfl|_,_,_,.cons r t,.cons r' t'=>by rw[r.inj r',Vals.inj t t']
def Dm.of{K:Fg}(h:H a=some (.lst xs)):Dm K H a xs:=.inl (.inl h)
def Ei.of{K:Fg}(h:H a=some (.tup xs)):Ei K H a xs:=.inl (.inl h)
def Inv.list(I:Inv X pins σ H s)(h:Dm X.K H a G):∃Z:List Value,Vals G Z/\PlainL s.heap a Z.toArray/\G.length<=sizeLine:=by
 rcases h with h|⟨o,Z,n,hk,hc,hd,hs,hz,r⟩
 .obtain⟨z,Z,n,r,e⟩:=h.ok I.zg
  exact⟨Z,r,⟨_,n,e,rfl,rfl,rfl⟩,z⟩
 .refine⟨Z.toList,r,⟨o,n,I.kIn a o hk,hc,hd,by simpa using hs⟩,?_⟩
  have e:=r.length;simp only[uf] at e;exact a_ (f_ e) hz
def Inv.tuple(I:Inv X pins σ H s)(h:Ei X.K H a G):∃Z:List Value,Vals G Z/\IsTup s.heap a Z.toArray/\G.length<=sizeLine:=by
 rcases h with h|⟨o,Z,n,hk,hc,hs,hz,r⟩
 .obtain⟨z,Z,r,p⟩:=h.ok I.zg
  exact⟨Z,r,p.is,z⟩
 .refine⟨Z.toList,r,⟨o,I.kIn a o hk,hc,n,by simpa using hs⟩,?_⟩
  have e:=r.length;simp only[uf] at e;exact a_ (f_ e) hz
def Inv.Xf(I:Inv X pins σ H s)(h:Dm X.K H a xs)(R:Dm X.K H a ys):xs=ys:=by
 obtain⟨U,r,⟨o,n,e,_,_,d⟩,_⟩:=I.list h;obtain⟨its',r',⟨o',n',G,_,_,Z⟩,_⟩:=I.list R;rw[e] at G;cases G;rw[d] at Z;injection Z with d1 _
 have:U=its':=by simpa using mz Array.toList d1
 subst this;exact r.inj r'
def Inv.T4(I:Inv X pins σ H s)(h:Ei X.K H a xs)(R:Ei X.K H a ys):xs=ys:=by
 obtain⟨U,r,⟨o,e,_,n,d⟩,_⟩:=I.tuple h;obtain⟨its',r',⟨o',G,_,n',Z⟩,_⟩:=I.tuple R;rw[e] at G;cases G;rw[d] at Z;injection Z with d1 _
 have:U=its':=by simpa using mz Array.toList d1
 subst this;exact r.inj r'
noncomputable abbrev Cx.Su(X:Cx)(E:Y1):Cx:={ X with xe:=E }
abbrev Cx.nox(X:Cx):Cx:=X.Su λ_ _=>False
theorem Cx.Ok.Su{X:Cx}(ok:X.Ok)(E:Y1):(X.Su E).Ok :=
 ⟨ok.mod,ok.kind,ok.glob,ok.blt,ok.above,ok.inj,ok.has,ok.cab,ok.hd,ok.frames,ok.stk,ok.exf,ok.bs,ok.bsz,ok.agn,ok.aj9,ok.Q4,ok.frf⟩
def Cx.Ok.Jz{X:Cx}(ok:(X.Su E).Ok):X.Ok :=
 ⟨ok.mod,ok.kind,ok.glob,ok.blt,ok.above,ok.inj,ok.has,ok.cab,ok.hd,ok.frames,ok.stk,ok.exf,ok.bs,ok.bsz,ok.agn,ok.aj9,ok.Q4,ok.frf⟩
theorem Inv.Su(I:Inv X pins σ H s)(E:Y1):Inv (X.Su E) pins σ H s:=⟨I.ok.Su E,I.os,I.bare,I.base,I.loc,I.cell,I.free,I.Jy,I.pin,I.zg,I.len⟩
theorem Inv.Jz(I:Inv (X.Su E) pins σ H s):Inv X pins σ H s:=⟨I.ok.Jz,I.os,I.bare,I.base,I.loc,I.cell,I.free,I.Jy,I.pin,I.zg,I.len⟩
theorem SP.Jz(h:SP (X.Su E) pins D f s'):SP X pins D f s':=by
 cases f with
 |next=>obtain⟨Z,G,I,q⟩:=h;exact⟨Z,G,I.Jz,q⟩
 |brk=>obtain⟨Z,G,I,q⟩:=h;exact⟨Z,G,I.Jz,q⟩
 |cont=>obtain⟨Z,G,I,q⟩:=h;exact⟨Z,G,I.Jz,q⟩
 |ret u=>obtain⟨v,Z,G,I,r,q⟩:=h;exact⟨v,Z,G,I.Jz,r,q⟩
theorem Ml.nox{G:List Stmt}(h:Ml X.nox G t):Ml X G t:=λZ s U H D I hw =>
 j4 (h Z s U H D (I.Su _) hw) (λ_ _ q=>q.Jz) λ_ _ z=>False.elim z
def auw:TS:=λD Z H=>D.nx Z H
def az9(t u:TS):TS:=λD Z H=>t { D with nx:=u D } Z H
def akc:Ml X [] auw:=λ_ _ Z H _ I h=>wpAny_execs_nil ⟨Z,H,I,h⟩
def agt{R:Stmt}{G:List Stmt}(h1:PS X R t)(h2:Ml X G u):Ml X (R::G) (az9 t u):=by
 intro Z s σ H D I h;refine wpAny_execs_cons (ym (h1 Z s σ H { D with nx:=u D } I h) λf s1 q=>?_);cases f with
 |next =>
  obtain⟨U,H',I',q⟩:=q;exact h2 Z s1 U H' D I' q
 |ret v=>exact q|brk=>exact q|cont=>exact q
def Inv.quiet(I:Inv X pins σ H s):interactive X.env=false:=by simp[interactive,I.ok.kind]
def auy(G:TE):TS:=λD Z H=>G Z H λ_ U=>D.nx Z U
def akd(R:PE X e te)(U:swapsWith e none pos.line X.env=pure false:=by rfl):PS X (.Expr e pos) (auy te):=by intro Z s G H D I h;exact wpAny_Expr_any (ym (R Z s G H _ I h) λv s1 ⟨x,H1,I1,r1,q1⟩=>⟨G,H1,I1,q1⟩) I.quiet U
def a0a(Z:TE):TS:=λD G H=>Z G H D.rt
def apw(U:PE X e R):PS X (.Return (some e) pos) (a0a R):=by intro Z s G H D I h;exact wpAny_Return_some (ym (U Z s G H _ I h) λv s1 ⟨x,H1,I1,r1,q1⟩=>⟨x,G,H1,I1,r1,q1⟩)
def a0b(c:TT)(t u:TS):TS:=λD Z H=>c Z H λb G=>if b=true then t D Z G else u D Z G
def auz(hc:PT X c tc)(ha:Ml X a t)(hb:Ml X b u):PS X (.If c a b pos) (a0b tc t u):=by
 intro Z s G H D I h;refine wpAny_If (ym (hc Z s G H _ I h) λd s1 z_=>?_);obtain⟨R,U,q1⟩:=z_;cases d with
 |true=>exact ha Z s1 G R D U q1|false=>exact hb Z s1 G R D U q1
abbrev TG:=V->St->Hp->(St->Hp->Prop)->Prop
abbrev TGs:=List V->St->Hp->(St->Hp->Prop)->Prop
def PG(X:Cx)(Z:Expr)(t:TG):Prop :=
 ∀(G:Zp)(s:Shared)(R:St)(H:Hp)(v:V)(u:Value)(Q:St->Hp->Prop),Inv X G R H s->RelV v u->t v R H Q ->
  wpAny (model X.prog X.w) X.A (assign Z X.env u) (λ_ s'=>∃U H',Inv X G U H' s'/\Q U H') X.xe s
def PGs(X:Cx)(ts:Ya)(t:TGs):Prop :=
 ∀(Z:Zp)(s:Shared)(σ:St)(H:Hp)(U:List V)(R:Zl)(Q:St->Hp->Prop),Inv X Z σ H s->Vals U R->t U σ H Q ->
  wpAny (model X.prog X.w) X.A (assignInOrder ((assignEach ts X.env).map (·.2)) R) (λ_ s'=>∃G H',Inv X Z G H' s'/\Q G H') X.xe s
abbrev apx:=V->V->V->Hp->(Hp->Prop)->Prop
def apy(X:Cx)(t:apx):Prop :=
 ∀(Z:Zp)(s:Shared)(R:St)(H:Hp)(o i v:V)(G U u:Value)(Q:Hp->Prop),Inv X Z R H s->RelV o G->RelV i U->RelV v u->t o i v H Q ->
  wpAny (model X.prog X.w) X.A (setItem G U u) (λ_ s'=>∃H',Inv X Z R H' s'/\Q H') X.xe s
def abo(i:Nat):TG:=λv Z H Q=>Q (Z.set i (some v)) H
def Vs(R:X.N.Nodup)(hi:X.N[i]?=some x)(G:Loc X.env.scope x)(U:X.fn x=true\/X.env.scope.names.lookup x=some .local:=by first|exact .inl rfl|exact .inr rfl|assumption):PG X (.Name x pos) (abo i):=by intro Z s σ H v u Q I r h;exact wpAny_assign_Name (agq I R hi G r (λs' I'=>⟨_,H,I',h⟩) U)
def a0c:TGs:=λZ G H Q=>Z=[]/\Q G H
def au2(t:TG)(u:TGs):TGs:=λG U H Q=>∃v r,G=v::r/\t v U H λZ R=>u r Z R Q
def ake:PGs X [] a0c:=by intro Z s G H U R Q I r h;obtain⟨e,h⟩:=h;subst e;cases r;exact assignInOrder_nil ⟨G,H,I,h⟩
def agu(h1:PG X e t)(h2:PGs X es u)(U:(assignEach (e::es) X.env).map (·.2)=assign e X.env::(assignEach es X.env).map (·.2):=by rfl):PGs X (e::es) (au2 t u):=by
 intro Z s σ H vs us Q I r h;obtain⟨v,vr,R,h⟩:=h;subst R;cases r with
 |cons r rr =>
  rw[U];refine assignInOrder_cons (ym (h1 Z s σ H _ _ _ I r h) λ_ s1 z_=>?_);obtain⟨G,H1,I1,q1⟩:=z_;exact h2 Z s1 G H1 _ _ Q I1 rr q1
def a0d(K:Fg)(n:Nat)(t:TGs):TG:=λv G H Q=>∃a Z,v=.ref a/\Ei K H a Z/\Z.length=n/\t Z G H Q
def apz(hc:X.calm=true)(h:PGs X es t)(hn:(assignEach es X.env).length=n:=by rfl)(G:(assignEach es X.env).findIdx? (·.1)=none:=by rfl):PG X (.Tuple es k pos) (a0d X.K n t):=by
 intro Z s R H v u Q I r hw;obtain⟨a,xs,e1,hq,hl,hw⟩:=hw;subst e1;cases r;obtain⟨ql,U,ht,hz⟩:=I.tuple hq;refine assign_Tuple_tuple (I.ok.hd hc) ht (by simp[hn,<- hl,U.length]) G λh' hx=>?_
 have I1:Inv X Z R H { s with heap:=h' }:=I.kept (t':=s.toks) λb o e=>hx b o (gh (az e)) e
 exact h Z _ R H xs _ Q I1 (by simpa using U) hw
def a0e(G R:TE)(t:apx):TG:=λv Z H Q=>G Z H λo H1=>R Z H1 λi U=>t o i v U λH3=>Q Z H3
def ap0(ho:PE X o to)(hi:PE X i ti)(hs:apy X t)(ha:∀v,assign (.Subscript o i pos) X.env v=(do
 let G <- holding [v] (eval o X.env)
 let U <- holding [v,G] (eval i X.env)
 standAt pos
 holding [v,G,U] (setItem G U v)
 release [v,G,U] []):=by intro _;rfl):PG X (.Subscript o i pos) (a0e to ti t):=by
 intro Z s R H v u Q I r h;rw[ha];refine aa (jo (ym (ho Z s R H _ I h) λG s1 z_=>?_));obtain⟨x,H1,I1,r1,q1⟩:=z_;refine aa (jo (ym (hi Z s1 R H1 _ I1 q1) λU s2 z_=>?_));obtain⟨y,H2,I2,r2,q2⟩:=z_;refine aa (wpAny_standAt (aa (jo (ym (hs Z s2 R H2 x y v G U u _ I2 r1 r2 r q2) λ_ s3 z_=>?_))));obtain⟨H3,I3,q3⟩:=z_;exact wpAny_release ⟨R,H3,I3,q3⟩
def ap1(G:TE)(g:TG):TS:=λD Z H=>G Z H λx U=>g x Z U D.nx
def agv(he:PE X e te)(R:PG X tg g)(U:swapsWithSole [tg] e pos.line X.env=pure false:=by rfl)(hw:swappedStores [tg] e X.env=pure none:=by rfl)(h1:(assignEach [tg] X.env).map (·.2)=[assign tg X.env]:=by rfl):PS X (.Assign [tg] e pos) (ap1 te g):=by intro Z s G H D I h;refine wpAny_Assign_stores (ym (he Z s G H _ I h) λv s1 ⟨x,H1,I1,r1,q1⟩=>?_) U hw;rw[h1];exact ym (R Z s1 G H1 x v _ I1 r1 q1) λ_ s2 q=>q
def ap2(c:TT)(tb:TS):TS:=λD Z H=>∃W:Nat->St->Hp->Prop,(∃m,W m Z H)/\∀m Z H,W m Z H ->
 c Z H λb R=>if b=true then ∃N:St->Hp->Prop,(∀G H',N G H'->∃U,U<m/\W U G H')/\tb { D with nx:=N,ct:=N,bk:=D.nx } Z R else D.nx Z R
def agw(hp:PassesOwn (model X.prog X.w) X.A X.env X.xe)(hc:PT X c tc)(hb:Ml X body tb):PS X (.While c body [] pos) (ap2 tc tb):=by
 intro Z s σ H D I h;obtain⟨W,⟨m0,w0⟩,R⟩:=h;refine wpAny_While (codeAny_whileLoop (λn s'=>∃qq H',Inv X Z qq H' s'/\W n qq H') ?_ m0 ⟨σ,H,I,w0⟩);rintro n s1 ⟨U,H1,I1,w1⟩;refine o4 hp (ym (hc Z s1 U H1 _ I1 (R n U H1 w1)) λb s2 z_=>?_);obtain⟨H2,I2,q2⟩:=z_;cases b with
 |true =>
  obtain⟨N,hN,q2⟩:=q2;rw[di rfl];refine o4 hp (ym (hb Z s2 U H2 _ I2 q2) λf s3 q3=>?_);cases f with
  |next =>
   obtain⟨G,H3,I3,n3⟩:=q3;obtain⟨m',hm,w3⟩:=hN G H3 n3;exact⟨m',hm,G,H3,I3,w3⟩
  |cont =>
   obtain⟨G,H3,I3,n3⟩:=q3;obtain⟨m',hm,w3⟩:=hN G H3 n3;exact⟨m',hm,G,H3,I3,w3⟩
  |brk=>exact q3|ret v=>exact q3
 |false =>
  rw[fj g8];exact wpAny_execs_nil ⟨U,H2,I2,q2⟩
structure It where
 go:Nat->Hp->Prop
 yld:Nat->Hp->V->Hp->Prop
 stop:Nat->Hp->Prop
def Oz(X:Cx)(Z:Zp)(H:Hp)(b:Addr):Prop :=
 H b=none/\b≠X.env.locals/\b∉X.fs/\(b∈X.ex\/X.s₀.heap.objs.size<=b)/\(∀x c,X.env.cells.lookup x=some c->c≠b)/\∀p∈X.pn++Z,p.1≠b
def Inv.adu(I:Inv X pins σ H s)(Z:s.heap.objs.size<=b)(G:U b=none):Oz X pins U b:=by
 refine⟨G,rz (fu I.lt Z),I.auo Z,.inr (bf I.sz Z),λx c e z=>?_,λp R z=>?_⟩
 .obtain⟨v,q⟩:=I.cell x c e
  exact absurd (fu q.lt (by rw[z];exact Z)) (m5 _)
 .exact absurd (fu (az (I.pin p R).1) (by rw[z];exact Z)) (m5 _)
structure Turn(P:Program)(w:World)(K:Fg)(tg:Expr)(J:It)(fp:X1)(it:Addr)(tn:Nat->Heap->Prop):Prop where
 mem:it∈fp
 obj:∀i h,tn i h->∀b∈fp,∃o,h.get? b=some o/\∀v,o.data≠.cell v
 keep:∀i h h',tn i h->(∀b∈fp,∀o,h.get? b=some o->h'.get? b=some o)->tn i h'
 item:∀(X:Cx),X.prog=P->X.w=w->X.K=K->X.calm=true->∀(i:Nat)(pins:Zp)(s:Shared)(σ:St)(H:Hp)(E:Y1),Inv X pins σ H s->(∀b∈fp,Oz X pins H b)->tn i s.heap->J.go i H ->
  wpAny (model P w) X.A (pyNext (.ref it)) (λr s1=>∃u,r=some u /\
   wpAny (model P w) X.A (letOwnedTupleGo tg (.ref it) u) (λ_ s2=>∃x H',Inv X pins σ H' s2/\RelV x u/\J.yld i H x H'/\tn (i+1) s2.heap/\∀b∈fp,H' b=none) E s1) E s
 done:∀(X:Cx),X.prog=P->X.w=w->X.K=K->X.calm=true->∀(i:Nat)(pins:Zp)(s:Shared)(σ:St)(H:Hp)(E:Y1),Inv X pins σ H s->(∀b∈fp,Oz X pins H b)->tn i s.heap->J.stop i H ->
  wpAny (model P w) X.A (pyNext (.ref it)) (λr s1=>r=none/\Inv X pins σ H s1) E s
 self:∀(A:Around)(i:Nat)(s:Shared)(Q:Y1)(E:Y1),tn i s.heap->Q (.ref it) s->wpAny (model P w) A (pyIter (.ref it)) Q E s
abbrev TI:=St->Hp->(It->Hp->Prop)->Prop
def PIE(X:Cx)(Z:Zp)(σ:St)(tg:Expr)(R:It->Hp->Prop)(G:Value)(s2:Shared):Prop :=
 ∃(it:Addr)(fp:X1)(tn:Nat->Heap->Prop)(J:It)(U:Hp),G=.ref it/\Inv X Z σ U s2/\Turn X.prog X.w X.K tg J fp it tn/\tn 0 s2.heap/\(∀b∈fp,Oz X Z U b)/\R J U
def PI(X:Cx)(tg G:Expr)(wi:TI):Prop :=
 ∀(Z:Zp)(s:Shared)(U:St)(H:Hp)(R:It->Hp->Prop),Inv X Z U H s->wi U H R ->
  wpAny (model X.prog X.w) X.A (eval G X.env) (λv s1=>wpAny (model X.prog X.w) X.A (pyIter v) (PIE X Z U tg R) X.xe s1) X.xe s
def abp(ho:s.heap.get? it=some o)(hc:o.cls=.type n)(R:o.data=.fields G)(U:["enumerate", "zip", "dict_itemiterator", "dict_reverseitemiterator", "odict_iterator", "itertools.zip_longest", "itertools.pairwise"].contains n=false)(Z:Q () s):wpAny M A (letOwnedTupleGo tg (.ref it) u) Q E s:=by
 unfold letOwnedTupleGo;cases tg<;>first
  |exact aj Z
  | (cases u<;>first
   |exact aj Z
   | (refine aa (wpAny_load ho ?_)
      rw[hc,R];show wpAny M A (if(["enumerate", "zip", "dict_itemiterator", "dict_reverseitemiterator", "odict_iterator", "itertools.zip_longest", "itertools.pairwise"].contains n&&G[0]?==some (rawInt _))=true then _ else _) Q E s;rw[fj (by intro h;rw[U,Bool.false_and] at h;cases h)];exact aj Z))
noncomputable def Itl(K:Fg)(a:Addr):It :=
 ⟨λi H=>∃Z x,Dm K H a Z/\Z[i]?=some x,λi H x G=>G=H/\∀Z,Dm K H a Z->Z[i]?=some x,λi H=>∃Z,Dm K H a Z/\Z.length<=i⟩
noncomputable def Itt(K:Fg)(a:Addr):It :=
 ⟨λi H=>∃Z x,Ei K H a Z/\Z[i]?=some x,λi H x G=>G=H/\∀Z,Ei K H a Z->Z[i]?=some x,λi H=>∃Z,Ei K H a Z/\Z.length<=i⟩
noncomputable def Ld(G:Int)(n:Nat):It:=⟨λi _=>i<n,λi H x Z=>Z=H/\x=.int (G+i),λi _=>n<=i⟩
theorem adw{K:Fg}(a it:Addr):Turn P w K tg (Itl K a) [it] it (λi h=>h.IsListIter it a i) where
 mem:=by simp
 obj:=λi h Z b U=>by
  have e:b=it:=by simpa using U
  subst e;obtain⟨o,e,c,d⟩:=Z;exact⟨o,e,λv z=>by rw[d] at z;cases z⟩
 keep:=λi h h' Z k=>Z.at λo e=>k it (by simp) o e
 item:=by
  intro X hP hw hK hc i G s σ H E I hf Z hg;subst hP hw hK;obtain⟨xs,x,hq,hx⟩:=hg;obtain⟨ql,rv,p,hz⟩:=I.list hq;obtain⟨u,hu,ru⟩:=rv.get hx;obtain⟨f0,f1,f2,f3,f4,f5⟩:=hf it (by simp);refine wpAny_pyNext_list_item Z p.isList (x:=u) (by simpa using hu) λh' R sb=>?_
  have I1:Inv X G σ H { s with heap:=h' }:=I.turned (t':=s.toks) (λb o U e=>(sb.2 b U).trans e) f0 f1 f3 f4 f5;obtain⟨o,e,c,d⟩:=id R;exact⟨u,rfl,abp (s:={ s with heap:=h' }) e c d (by decide) ⟨x,H,I1,ru,⟨rfl,λys hy=>by rw[I.Xf hy hq];exact hx⟩,R,λb U=>(hf b U).1⟩⟩
 done:=by intro X hP hw hK hc i G s σ H E I hf Z hg;subst hP hw hK;obtain⟨xs,hq,hx⟩:=hg;obtain⟨ql,rv,p,hz⟩:=I.list hq;obtain⟨f0,f1,f2,f3,f4,f5⟩:=hf it (by simp);have hl:=rv.length;exact wpAny_pyNext_list_end (I.ok.hd hc) Z p.isList (by simp;exact a_ (g_ hl) hx) λh' eb=>⟨rfl,I.turned (t':=s.toks) (λb o U e=>eb b o U e) f0 f1 f3 f4 f5⟩
 self:=λ_ _ _ _ _ Z h=>wpAny_pyIter_listiter Z h
theorem Zh{K:Fg}(a it:Addr):Turn P w K tg (Itt K a) [it] it (λi h=>h.IsTupleIter it a i) where
 mem:=by simp
 obj:=λi h Z b U=>by
  have e:b=it:=by simpa using U
  subst e;obtain⟨o,e,c,d⟩:=Z;exact⟨o,e,λv z=>by rw[d] at z;cases z⟩
 keep:=λi h h' Z k=>Z.at λo e=>k it (by simp) o e
 item:=by
  intro X hP hw hK hc i G s σ H E I hf Z hg;subst hP hw hK;obtain⟨xs,x,hq,hx⟩:=hg;obtain⟨ql,rv,p,hz⟩:=I.tuple hq;obtain⟨u,hu,ru⟩:=rv.get hx;obtain⟨f0,f1,f2,f3,f4,f5⟩:=hf it (by simp);refine wpAny_pyNext_tuple_item Z (show s.heap.IsTuple a ql.toArray from p) (x:=u) (by simpa using hu) λh' R sb=>?_
  have I1:Inv X G σ H { s with heap:=h' }:=I.turned (t':=s.toks) (λb o U e=>(sb.2 b U).trans e) f0 f1 f3 f4 f5;obtain⟨o,e,c,d⟩:=id R;exact⟨u,rfl,abp (s:={ s with heap:=h' }) e c d (by decide) ⟨x,H,I1,ru,⟨rfl,λys hy=>by rw[I.T4 hy hq];exact hx⟩,R,λb U=>(hf b U).1⟩⟩
 done:=by intro X hP hw hK hc i G s σ H E I hf Z hg;subst hP hw hK;obtain⟨xs,hq,hx⟩:=hg;obtain⟨ql,rv,p,hz⟩:=I.tuple hq;obtain⟨f0,f1,f2,f3,f4,f5⟩:=hf it (by simp);have hl:=rv.length;exact wpAny_pyNext_tuple_end (I.ok.hd hc) Z (show s.heap.IsTuple a ql.toArray from p) (by simp;exact a_ (g_ hl) hx) λh' eb=>⟨rfl,I.turned (t':=s.toks) (λb o U e=>eb b o U e) f0 f1 f3 f4 f5⟩
 self:=λ_ _ _ _ _ Z h=>wpAny_pyIter_tupleiter Z h
theorem Zi{K:Fg}(it:Addr)(lo:Int)(n:Nat):Turn P w K tg (Ld lo n) [it] it (λi h=>IsRangeIter h it (lo+(i:Nat)*1) ((n:Int)-(i:Nat)) 1) where
 mem:=by simp
 obj:=λi h Z b U=>by
  have e:b=it:=by simpa using U
  subst e;exact⟨_,Z,λv z=>by
   have z':Data.fields _=Data.cell v:=z;cases z'⟩
 keep:=λi h h' Z k=>k it (by simp) _ Z
 item:=by
  intro X hP hw hK hc i G s σ H E I hf Z hg;subst hP hw hK;obtain⟨f0,f1,f2,f3,f4,f5⟩:=hf it (by simp);have W:=Walks.range (prog:=X.prog) (w:=X.w) (I.ok.hd hc) it lo 1 n;refine W.item i s _ _ hg Z λv h' tk hv R kk=>?_
  obtain⟨t,rfl⟩:=hv;have I1:Inv X G σ H { s with heap:=h',toks:=tk }:=I.turned (λb o U e=>kk b o (by simpa using U) e) f0 f1 f3 f4 f5;refine⟨_,rfl,abp (s:={ s with heap:=h',toks:=tk }) (n := "range_iterator") R rfl rfl (by decide) ⟨.int (lo+i),H,I1,⟨t,?_⟩,⟨rfl,rfl⟩,R,λb U=>(hf b U).1⟩⟩;rw[Int.mul_one]
 done:=by intro X hP hw hK hc i G s σ H E I hf Z hg;subst hP hw hK;obtain⟨f0,f1,f2,f3,f4,f5⟩:=hf it (by simp);exact wpAny_pyNext_range_end (I.ok.hd hc) Z (by have:n<=i:=hg;lia) λh' eb=>⟨rfl,I.turned (t':=s.toks) (λb o U e=>eb b o U e) f0 f1 f3 f4 f5⟩
 self:=λ_ _ _ _ _ Z h=>wpAny_pyIter_rangeiter Z h
end L2
namespace L2
open PySem PySem.Spec PyProof.Rows
def agx{lo:Int}(I:Inv X pins σ H s)(h1:-(2 ^ 62)<=lo)(h2:lo<2 ^ 62)(h3:-(2 ^ 62)<=Z)(h4:Z<2 ^ 62)(q:R (Ld lo (Z-lo).toNat) H):wpAny (model X.prog X.w) X.A (pyIter (.ref s.heap.objs.size)) (PIE X pins σ tg R) E { s with heap:=s.heap.push { cls:=.type "range",data:=.fields #[.int lo t,.int Z u,.int 1 v] },toks:=U }:=by
 refine wpAny_pyIter_range (IsRange.new ..) (small_one h1 h2 h3 h4) ?_;have G:Inv X pins σ H { s with heap:=s.heap.push { cls:=.type "range",data:=.fields #[.int lo t,.int Z u,.int 1 v] },toks:=U }:=I.kept λb o e=>au _ e
 refine⟨(s.heap.push { cls:=.type "range",data:=.fields #[.int lo t,.int Z u,.int 1 v] }).objs.size,[(s.heap.push { cls:=.type "range",data:=.fields #[.int lo t,.int Z u,.int 1 v] }).objs.size],_,_,H,rfl,
  G.kept (t':=U) λb o e=>au _ e,Zi _ lo (Z-lo).toNat,?_,λb hb=>?_,q⟩
 .have e1:lo+((0:Nat):Int)*1=lo:=by simp
  have e2:(((Z-lo).toNat:Nat):Int)-((0:Nat):Int)=Builtin.Range.rangeSize lo Z 1:=by rw[rangeSize_one];split<;>lia
  show IsRangeIter _ _ (lo+((0:Nat):Int)*1) ((((Z-lo).toNat:Nat):Int)-((0:Nat):Int)) 1;rw[e1,e2];exact bj _ rfl
 .have e:b=(s.heap.push { cls:=.type "range",data:=.fields #[.int lo t,.int Z u,.int 1 v] }).objs.size:=by simpa using hb
  subst e;exact G.adu (bc _) (G.zg.fresh (bc _))
def au4(ta:TA):TI:=λU H R=>ta U H λZ G=>∃j:Int,Z=[.int j]/\-(2 ^ 62)<=j/\j<2 ^ 62/\R (Ld 0 j.toNat) G
def adx{X:Cx}{tg:Expr}(hg:Gl X "range")(hm:X.mg "range" = none)(ha:PA X [a] ta)(U:starEach [a] X.env=[(false,eval a X.env)]:=by rfl):PI X tg (.Call (.Name "range" p) [a] [] pos) (au4 ta):=by
 intro Z s σ H R I h;refine Call_ (Ih I hg hm boot_range (o9 (ym (ha pos Z s σ H _ I h) λus s1 ⟨vs,H1,I1,r1,G⟩=>?_) U rfl));obtain⟨j,e,G,q2,q⟩:=G;subst e;cases r1 with
 |cons r rr =>
  cases rr;obtain⟨t,rfl⟩:=r;exact call_range_1 (agx I1 (by lia) (by lia) G q2 (by simpa using q))
def a0g(wi:TI)(g:TG)(tb:TS):TS:=λD Z H=>wi Z H λJ H1=>∃W:Nat->Nat->St->Hp->Prop,(∃m,W 0 m Z H1)/\∀i m Z H,W i m Z H ->
 (J.stop i H/\D.nx Z H)\/(J.go i H/\∃N:St->Hp->Prop,(∀U G,N U G->∃m',m'<m/\W (i+1) m' U G)/\∀x G,J.yld i H x G->g x Z G λR H2=>tb { D with nx:=N,ct:=N,bk:=D.nx } R H2)
noncomputable def Ni(Z:X1)(h:Heap):List (Addr×Obj):=Z.filterMap λb=>(h.get? b).map λo=>(b,o)
def Ii(G:b∈Z)(e:h.get? b=some o):(b,o)∈Ni Z h:=List.mem_filterMap.mpr ⟨b,G,by rw[e];rfl⟩
def ady(R:p∈Ni Z h):p.1∈Z/\h.get? p.1=some p.2:=by
 obtain⟨b,G,e⟩:=List.mem_filterMap.mp R;cases q:h.get? b with
 |none=>rw[q] at e;cases e
 |some o =>
  rw[q] at e;have U:(b,o)=p:=jb e;subst U;exact⟨G,q⟩
def Inv.pinned{X:Cx}(I:Inv X pins σ H s)(R:∀b∈G,Oz X pins H b)(ho:∀b∈G,∃o,s.heap.get? b=some o/\∀v,o.data≠.cell v):Inv X (pins++Ni G s.heap) σ H s :=
 I.Vr λp hp=>(bh.mp hp).elim (λz=>I.pin p (gb _ z)) λz=>by obtain⟨U,e⟩:=ady z;obtain⟨f0,f1,f2,_⟩:=R p.1 U;obtain⟨o,Z,d⟩:=ho p.1 U;rw[e] at Z;cases Z;exact⟨e,f0,f1,f2,d⟩
def Inv.J0{X:Cx}(I:Inv X (pins++G) σ H s):Inv X pins σ H s:=I.Vr λp Z=>I.pin p (gb _ (ie _ Z))
def ap3{X:Cx}{tg:Expr}(hp:PassesOwn (model X.prog X.w) X.A X.env X.xe)(hc:X.calm=true)(hi:PI X tg iter wi)(hg:PG X tg g)(hb:Ml X body tb)(hs:∀x,foldedSetIterable iter X.env x=pure x:=by intro _;rfl):PS X (.For tg iter body [] pos) (a0g wi g tb):=by
 intro Z s σ H D I h;refine wpAny_For (ym (hi Z s σ H _ I h) λv s1 h1=>ym h1 λzv s2 h2=>?_) hs;obtain⟨it,fp,tn,J,H2,e,I2,T,zk,f2,W,⟨m0,w0⟩,q3⟩:=h2;subst e;have Zj:∀{H':Hp},(∀b∈fp,H' b=none)->∀b∈fp,Oz X Z H' b:=λhn b hb=>⟨hn b hb,(f2 b hb).2⟩
 refine codeAny_forLoop_any (λn s'=>∃i qq H',Inv X Z qq H' s'/\tn i s'.heap/\(∀b∈fp,H' b=none)/\W i n qq H') ?_ m0 ⟨0,σ,H2,I2,zk,λb hb=>(f2 b hb).1,w0⟩;rintro n s3 ⟨i,R,H3,I3,q1,q2,w3⟩;rcases q3 i n R H3 w3 with⟨q0,qn⟩|⟨go,N,hN,step⟩
 .refine o4 hp (ym (T.done X rfl rfl rfl hc i Z s3 R H3 X.xe I3 (Zj q2) q1 q0) λr s4 z_=>?_)
  obtain⟨hr,I4⟩:=z_;subst hr;exact wpAny_execs_nil ⟨R,H3,I4,qn⟩
 .refine o4 hp (ym (T.item X rfl rfl rfl hc i Z s3 R H3 X.xe I3 (Zj q2) q1 go) λr s4 z_=>?_)
  obtain⟨u,hr,h4⟩:=z_;subst hr;refine o4 hp (ym h4 λ_ s5 z_=>?_);obtain⟨x,H5,I5,r5,y5,qv,q4⟩:=z_;have zz:=I5.pinned (Zj q4) (T.obj _ _ qv);refine o4 hp (ym (hg _ s5 R H5 x u _ zz r5 (step x H5 y5)) λ_ s6 z_=>?_);obtain⟨q5,H6,I6,q6⟩:=z_;refine o4 hp (ym (hb _ s6 q5 H6 _ I6 q6) λf s7 q7=>?_);have qk:∀{G:St}{U:Hp},Inv X (Z++Ni fp s5.heap) G U s7->N G U->∃m,m<n/\∃i qq H',Inv X Z qq H' s7/\tn i s7.heap/\(∀b∈fp,H' b=none)/\W i m qq H':=fun{G U} I7 n7=>by obtain⟨m',hm,w7⟩:=hN G U n7;refine⟨m',hm,i+1,G,U,I7.J0,T.keep _ _ _ qv λb hb o e=>(I7.pin (b,o) (gb _ (gb _ (Ii hb e)))).1,λb hb=>?_,w7⟩;obtain⟨o,e,d⟩:=T.obj _ _ qv b hb;exact(I7.pin (b,o) (gb _ (gb _ (Ii hb e)))).2.1
  cases f with
  |next=>obtain⟨G,U,I7,n7⟩:=q7;exact qk I7 n7
  |cont=>obtain⟨G,U,I7,n7⟩:=q7;exact qk I7 n7
  |brk=>obtain⟨G,U,I7,q7⟩:=q7;exact⟨G,U,I7.J0,q7⟩
  |ret v=>obtain⟨x7,G,U,I7,r7,q7⟩:=q7;exact⟨x7,G,U,I7.J0,r7,q7⟩
end L2
namespace L2
open PySem PySem.Spec PyProof.Rows
abbrev R2:=V->V->Hp->VK->Prop
def Ah(X:Cx)(f:Value->Value->Sem Value)(r:R2):Prop :=
 ∀(Z:Zp)(s:Shared)(G:St)(H:Hp)(x y:V)(v u:Value)(Q:VK),Inv X Z G H s->RelV x v->RelV y u->r x y H Q ->
  wpAny (model X.prog X.w) X.A (f v u) (EP X Z G Q) X.xe s
def UnR(X:Cx)(f:Value->Sem Value)(r:V->Hp->VK->Prop):Prop :=
 ∀(Z:Zp)(s:Shared)(G:St)(H:Hp)(x:V)(v:Value)(Q:VK),Inv X Z G H s->RelV x v->r x H Q ->
  wpAny (model X.prog X.w) X.A (f v) (EP X Z G Q) X.xe s
def yo(X:Cx)(f:Value)(r:List V->Hp->VK->Prop):Prop :=
 ∀(Z:Zp)(s:Shared)(R:St)(H:Hp)(G:List V)(U:Zl)(Q:VK),Inv X Z R H s->Vals G U->r G H Q ->
  wpAny (model X.prog X.w) X.A (call f U) (EP X Z R Q) X.xe s
def a0k(X:Cx)(r:V->Hp->(Bool->Hp->Prop)->Prop):Prop :=
 ∀(Z:Zp)(s:Shared)(G:St)(H:Hp)(x:V)(v:Value)(Q:Bool->Hp->Prop),Inv X Z G H s->RelV x v->r x H Q ->
  wpAny (model X.prog X.w) X.A (truthy v) (TP X Z G Q) X.xe s
def tOp(r:R2)(U tb:TE):TE:=λZ H Q=>U Z H λx R=>tb Z R λy G=>r x y G Q
def tUn(r:V->Hp->VK->Prop)(U:TE):TE:=λG H Q=>U G H λx Z=>r x Z Q
def rI(C:Int->Int->Prop)(g:Int->Int->V):R2:=λx y H Q=>∃i j,x=.int i/\y=.int j/\C i j/\Q (g i j) H
def rI0(g:Int->Int->V):R2:=λx y H Q=>∃i j,x=.int i/\y=.int j/\Q (g i j) H
def rU(g:Int->V):V->Hp->VK->Prop:=λx H Q=>∃i,x=.int i/\Q (g i) H
def ap5{X:Cx}{a b:Expr}{ta tb:TE}(ha:PE X a ta)(hb:PE X b tb){Z:Zp}{s:Shared}{U:St}{H:Hp}{R:V->V->Hp->Prop}(I:Inv X Z U H s)
 (h:ta U H λx H1=>tb U H1 λy G=>R x y G) {Q:Y1} {f:Value->Value->Sem Value}
 (hf:∀v u s2 x y G,Inv X Z U G s2->RelV x v->RelV y u->R x y G->wpAny (model X.prog X.w) X.A (f v u) Q X.xe s2) :
 wpAny (model X.prog X.w) X.A (eval a X.env) (λv qq=>wpAny (model X.prog X.w) X.A (eval b X.env) (λu qk=>wpAny (model X.prog X.w) X.A (f v u) Q X.xe qk) X.xe qq) X.xe s:=by
 refine ym (ha Z s U H _ I h) λv s1 z_=>?_
 obtain⟨x,H1,I1,r1,q1⟩:=z_;refine ym (hb Z s1 U H1 _ I1 q1) λu s2 z_=>?_
 obtain⟨y,G,I2,r2,q2⟩:=z_;exact hf v u s2 x y G I2 r1 r2 q2
def au6{X:Cx}{a b:Expr}{U tb:TE}{G:Pos}{R:Operator}{r:R2}(ho:Ah X (binaryOp R) r)(ha:PE X a U)(hb:PE X b tb):PE X (.BinOp a R b G) (tOp r U tb):=by intro Z s σ H Q I h;exact wpAny_BinOp (ap5 ha hb I h λv u s2 x y H2 I2 rx ry q=>ho Z s2 σ H2 x y v u Q I2 rx ry q)
def au7{X:Cx}{a:Expr}{U:TE}{G:Pos}{R:UnaryOp}{r:V->Hp->VK->Prop}(ho:UnR X (unaryOp R) r)(ha:PE X a U):PE X (.UnaryOp R a G) (tUn r U):=by intro Z s σ H Q I h;exact UnaryOp_ (ym (ha Z s σ H _ I h) λv s1 ⟨x,H1,I1,r1,q1⟩=>ho Z s1 σ H1 x v Q I1 r1 q1)
def opI{X:Cx}{f:Value->Value->Sem Value}{C:Int->Int->Prop}{g:Int->Int->Int}
 (Z:∀(i j:Int)(t u:Tok)(s:Shared)(Q:Y1)(E:Y1),C i j->Q (.int (g i j) s.toks) { s with toks:=s.toks+1 }->wpAny (model X.prog X.w) X.A (f (.int i t) (.int j u)) Q E s) :
 Ah X f (rI C λi j=>.int (g i j)):=by
 intro G s σ H x y v u Q I rx R h;obtain⟨i,j,rfl,rfl,hc,q⟩:=h;obtain⟨t,rfl⟩:=rx;obtain⟨U,rfl⟩:=R;exact Z i j t U s _ _ hc ⟨.int (g i j),H,I.tok _,⟨_,rfl⟩,q⟩
def au8{X:Cx}{f:Value->Value->Sem Value}{g:Int->Int->Int}
 (Z:∀(i j:Int)(t u:Tok)(s:Shared)(Q:Y1)(E:Y1),Q (.int (g i j) s.toks) { s with toks:=s.toks+1 }->wpAny (model X.prog X.w) X.A (f (.int i t) (.int j u)) Q E s) :
 Ah X f (rI0 λi j=>.int (g i j)):=by
 intro G s σ H x y v u Q I rx R h;obtain⟨i,j,rfl,rfl,q⟩:=h;obtain⟨t,rfl⟩:=rx;obtain⟨U,rfl⟩:=R;exact Z i j t U s _ _ ⟨.int (g i j),H,I.tok _,⟨_,rfl⟩,q⟩
def akg{X:Cx}{f:Value->Value->Sem Value}{g:Int->Int->Bool}
 (Z:∀(i j:Int)(t u:Tok)(s:Shared)(Q:Y1)(E:Y1),Q (.bool (g i j)) s->wpAny (model X.prog X.w) X.A (f (.int i t) (.int j u)) Q E s) :
 Ah X f (rI0 λi j=>.bl (g i j)):=by
 intro G s σ H x y v u Q I rx R h;obtain⟨i,j,rfl,rfl,q⟩:=h;obtain⟨t,rfl⟩:=rx;obtain⟨U,rfl⟩:=R;exact Z i j t U s _ _ ⟨.bl (g i j),H,I,rfl,q⟩
def a0l(i j:Int):Prop:=0<j/\j<1073741824
def a0m(i j:Int):Prop:=0<=j/\j<=1000000/\i.natAbs<2 ^ 64
def ap6(i j:Int):Prop:=(-(2 ^ 64)<i/\i<2 ^ 64)\/(-(2 ^ 64)<j/\j<2 ^ 64)
def ap6.ok{i j:Int}(h:ap6 i j):IntMulOk i j:=by
 rcases h with⟨Z,G⟩|⟨Z,G⟩
 .exact .of_left (intBits_le_64 Z G)
 .exact .of_right (intBits_le_64 Z G)
def ap7{X:Cx}:Ah X (binaryOp .Add) (rI0 λi j=>.int (i+j)):=au8 λ_ _ _ _ _ _ _ q=>add_int q
def ap8{X:Cx}:Ah X (binaryOp .Sub) (rI0 λi j=>.int (i-j)):=au8 λ_ _ _ _ _ _ _ q=>sub_int q
def ap9{X:Cx}:Ah X (binaryOp .Mult) (rI ap6 λi j=>.int (i*j)):=opI λ_ _ _ _ _ _ _ Z q=>mul_int q Z.ok
def akh{X:Cx}:Ah X (binaryOp .FloorDiv) (rI a0l λi j=>.int (i / j)):=opI λi j _ _ _ _ _ Z q=>by
 have G:(0:Int)<j:=Z.1
 have U:j<1073741824:=Z.2
 exact floordiv_int (by lia) (by rw[Int.fdiv_eq_ediv_of_nonneg i (by lia)];exact q) (.inl (PyProof.noPylong_small (by omega)))
def aqa{X:Cx}:Ah X (binaryOp .Mod) (rI (λ_ j=>0<j) λi j=>.int (i%j)):=opI λi j _ _ _ _ _ Z q=>by
 have G:(0:Int)<j:=Z
 exact mod_int' (by lia) (by rw[Int.fmod_eq_emod_of_nonneg i (by lia)];exact q)
def aqb{X:Cx}:Ah X (binaryOp .Pow) (rI a0m λi j=>.int (i ^ j.toNat)):=opI λ_ _ _ _ _ _ _ Z q=>pow_int_small Z.1 Z.2.1 Z.2.2 q
def unI{X:Cx}{f:Value->Sem Value}{g:Int->Int}
 (Z:∀(i:Int)(t:Tok)(s:Shared)(Q:Y1)(E:Y1),Q (.int (g i) s.toks) { s with toks:=s.toks+1 }->wpAny (model X.prog X.w) X.A (f (.int i t)) Q E s) :
 UnR X f (rU λi=>.int (g i)):=by
 intro G s R H x v Q I U h;obtain⟨i,rfl,q⟩:=h;obtain⟨t,rfl⟩:=U;exact Z i t s _ _ ⟨.int (g i),H,I.tok _,⟨_,rfl⟩,q⟩
def aqc{X:Cx}:UnR X (unaryOp .USub) (rU λi=>.int (-i)):=unI λ_ _ _ _ _ q=>neg_int q
noncomputable def aqd:V->V->Bool
 |.non,.non=>true|.non,.int _=>true|.int _,.non=>true|.non,.bl _=>true|.bl _,.non=>true|.non,.str _=>true|.str _,.non=>true
 |.int _,.int _=>true|.bl _,.bl _=>true|.str _,.str _=>true|.byt _,.byt _=>true
 |.int _,.str _=>true|.str _,.int _=>true|.bl _,.str _=>true|.str _,.bl _=>true
 |_,_=>false
def rEq:R2:=λx y H Q=>aqd x y=true/\Q (.bl (decide (x=y))) H
def rNe:R2:=λx y H Q=>aqd x y=true/\Q (.bl (!decide (x=y))) H
def abq{i j:Int}:decide (V.int i=V.int j)=(i==j):=by rw[sr];simp
def agy{i j:Bool}:decide (V.bl i=V.bl j)=(i==j):=by rw[sr];simp
def abr{i j:Str}:decide (V.str i=V.str j)=(i==j):=by rw[sr];simp
def abt{i j:Array UInt8}:decide (V.byt i=V.byt j)=(i.toList==j.toList):=by rw[sr];cases i;cases j;simp
def ue{X:Cx}{Z:Zp}{U:St}{H:Hp}{s:Shared}{Q:VK}{k G:Bool}(I:Inv X Z U H s)(q:Q (.bl k) H)(e:k=G):EP X Z U Q (.bool G) s:=by subst e;exact⟨.bl k,H,I,rfl,q⟩
def au9{X:Cx}:Ah X (compareOp .Eq) rEq:=by
 intro qq s σ H x y v u Q I R Z h;obtain⟨U,q⟩:=h;cases x with
 |non =>
  cases R;cases y with
  |non=>cases Z;exact PySem.EqNone.eq_none_none (ue I q (by simp))|bl j=>cases Z;exact PySem.EqNone.eq_none_bool (ue I q (by simp))|int j=>obtain⟨G,rfl⟩:=Z;exact PySem.EqNone.eq_none_int (ue I q (by simp))
  |str j=>obtain⟨G,rfl⟩:=Z;exact PySem.EqNone.eq_none_str (ue I q (by simp))
  |_=>exact absurd (show false=true from U) g8
 |bl i =>
  cases R;cases y with
  |non=>cases Z;exact PySem.EqNone.eq_bool_none (ue I q (by simp))|bl j=>cases Z;exact eq_bool (ue I q agy)|str j=>obtain⟨G,rfl⟩:=Z;exact PySem.EqMixed.eq_bool_str (ue I q (by simp))
  |_=>exact absurd (show false=true from U) g8
 |int i =>
  obtain⟨t,rfl⟩:=R;cases y with
  |non=>cases Z;exact PySem.EqNone.eq_int_none (ue I q (by simp))|int j=>obtain⟨G,rfl⟩:=Z;exact eq_int (ue I q abq)
  |str j=>obtain⟨G,rfl⟩:=Z;exact PySem.EqMixed.eq_int_str (ue I q (by simp))
  |_=>exact absurd (show false=true from U) g8
 |str i =>
  obtain⟨t,rfl⟩:=R;cases y with
  |non=>cases Z;exact PySem.EqNone.eq_str_none (ue I q (by simp))|bl j=>cases Z;exact PySem.EqMixed.eq_str_bool (ue I q (by simp))|int j=>obtain⟨G,rfl⟩:=Z;exact PySem.EqMixed.eq_str_int (ue I q (by simp))
  |str j=>obtain⟨G,rfl⟩:=Z;exact eq_str (ue I q abr)
  |_=>exact absurd (show false=true from U) g8
 |byt i =>
  obtain⟨t,rfl⟩:=R;cases y with
  |byt j=>obtain⟨G,rfl⟩:=Z;exact PySem.W.eq_bytes (ue I q abt)
  |_=>exact absurd (show false=true from U) g8
 |_=>cases y<;>exact absurd (show false=true from U) g8
def ava{X:Cx}:Ah X (compareOp .NotEq) rNe:=by
 intro qq s σ H x y v u Q I R Z h;obtain⟨U,q⟩:=h;cases x with
 |non =>
  cases R;cases y with
  |non=>cases Z;exact PySem.EqNone.ne_none_none (ue I q (by simp))|bl j=>cases Z;exact PySem.EqNone.ne_none_bool (ue I q (by simp))|int j=>obtain⟨G,rfl⟩:=Z;exact PySem.EqNone.ne_none_int (ue I q (by simp))
  |str j=>obtain⟨G,rfl⟩:=Z;exact PySem.EqNone.ne_none_str (ue I q (by simp))
  |_=>exact absurd (show false=true from U) g8
 |bl i =>
  cases R;cases y with
  |non=>cases Z;exact PySem.EqNone.ne_bool_none (ue I q (by simp))|bl j=>cases Z;exact ne_bool (ue I q (mz not agy))|str j=>obtain⟨G,rfl⟩:=Z;exact PySem.EqMixed.ne_bool_str (ue I q (by simp))
  |_=>exact absurd (show false=true from U) g8
 |int i =>
  obtain⟨t,rfl⟩:=R;cases y with
  |non=>cases Z;exact PySem.EqNone.ne_int_none (ue I q (by simp))|int j=>obtain⟨G,rfl⟩:=Z;exact ne_int (ue I q (mz not abq))
  |str j=>obtain⟨G,rfl⟩:=Z;exact PySem.EqMixed.ne_int_str (ue I q (by simp))
  |_=>exact absurd (show false=true from U) g8
 |str i =>
  obtain⟨t,rfl⟩:=R;cases y with
  |non=>cases Z;exact PySem.EqNone.ne_str_none (ue I q (by simp))|bl j=>cases Z;exact PySem.EqMixed.ne_str_bool (ue I q (by simp))|int j=>obtain⟨G,rfl⟩:=Z;exact PySem.EqMixed.ne_str_int (ue I q (by simp))
  |str j=>obtain⟨G,rfl⟩:=Z;exact ne_str (ue I q (mz not abr))
  |_=>exact absurd (show false=true from U) g8
 |byt i =>
  obtain⟨t,rfl⟩:=R;cases y with
  |byt j=>obtain⟨G,rfl⟩:=Z;exact PySem.W.ne_bytes (ue I q (mz not abt))
  |_=>exact absurd (show false=true from U) g8
 |_=>cases y<;>exact absurd (show false=true from U) g8
def avb{X:Cx}:Ah X (compareOp .Lt) (rI0 λi j=>.bl (decide (i<j))):=akg λ_ _ _ _ _ _ _ q=>lt_int q
def avc{X:Cx}:Ah X (compareOp .LtE) (rI0 λi j=>.bl (decide (i<=j))):=akg λ_ _ _ _ _ _ _ q=>le_int q
def avd{X:Cx}:Ah X (compareOp .Gt) (rI0 λi j=>.bl (decide (j<i))):=akg λ_ _ _ _ _ _ _ q=>gt_int q
def ave{X:Cx}:Ah X (compareOp .GtE) (rI0 λi j=>.bl (decide (j<=i))):=akg λ_ _ _ _ _ _ _ q=>ge_int q
def Ah.or{X:Cx}{f:Value->Value->Sem Value}{r U:R2}(h:Ah X f r)(h':Ah X f U):Ah X f (λx y H Q=>r x y H Q\/U x y H Q):=by
 intro Z s σ H x y v u Q I R G q;rcases q with q|q
 .exact h Z s σ H x y v u Q I R G q
 .exact h' Z s σ H x y v u Q I R G q
def aki{X:Cx}{a b:Expr}{R tb:TE}{U:Pos}{G:CmpOp}{r:R2}(ho:Ah X (compareOp G) r)(ha:PE X a R)(hb:PE X b tb)(hm:behindInMarks G b=false):PE X (.Compare a [G] [b] U) (tOp r R tb):=by intro Z s σ H Q I h;exact wpAny_Compare1 (ap5 ha hb I h λv u s2 x y H2 I2 rx ry q=>ho Z s2 σ H2 x y v u Q I2 rx ry q) hm
def am7(t:TE):TT:=λZ H Q=>t Z H λx G=>∃k,x=.bl k/\Q k G
def akj{X:Cx}{a b:Expr}{ta tb:TE}{U:Pos}{G:CmpOp}{r:R2}(ho:Ah X (compareOp G) r)(ha:PE X a ta)(hb:PE X b tb)(hm:behindInMarks G b=false):PT X (.Compare a [G] [b] U) (am7 (tOp r ta tb)):=by
 intro Z s R H Q I h;refine wpAny_isTrue_Compare1 (ym (ha Z s R H _ I h) λv s1 ⟨x,H1,I1,r1,q1⟩=>ym (hb Z s1 R H1 _ I1 q1) λu s2 ⟨y,H2,I2,r2,q2⟩ =>
  ym (ho Z s2 R H2 x y v u _ I2 r1 r2 q2) λc s3 ⟨z,H3,I3,r3,k,e,q3⟩=>?_) hm
 subst e;cases r3;exact je ⟨H3,I3,q3⟩
def Vt(r r':R2)(R tb tc:TE):TE:=λZ H Q=>R Z H λx H1=>tb Z H1 λy U=>r x y U λz G=>∃k,z=.bl k /\
 (if k=true then tc Z G λw' H4=>r' y w' H4 Q else Q (.bl false) G)
def agz{X:Cx}{a b c:Expr}{ta tb tc:TE}{qq:Pos}{op G:CmpOp}{r r':R2}(ho:Ah X (compareOp op) r)(R:Ah X (compareOp G) r')(ha:PE X a ta)(hb:PE X b tb)(hc:PE X c tc)
 (hm:lastMarks [op,G] [b,c]=false:=by with_unfolding_all rfl):PE X (.Compare a [op,G] [b,c] qq) (Vt r r' ta tb tc):=by
 intro Z s U H Q I h;refine Compare_chain (ym (ha Z s U H _ I h) λv s1 ⟨x,H1,I1,r1,q1⟩=>chain_link (ym (hb Z s1 U H1 _ I1 q1) λu s2 ⟨y,H2,I2,r2,q2⟩ =>
  ym (ho Z s2 U H2 x y v u _ I2 r1 r2 q2) λd s3 ⟨z,H3,I3,r3,k,e,q3⟩=>?_)) hm
 subst e;cases r3;refine je ?_;cases k with
 |false=>exact ite_ff ⟨.bl false,H3,I3,rfl,q3⟩|true=>exact ite_tt (chain_last (ym (hc Z s3 U H3 _ I3 q3) λw' s4 ⟨z',H4,I4,r4,q4⟩=>R Z s4 U H4 y z' u w' Q I4 r2 r4 q4))
def ag0{X:Cx}{a b c:Expr}{ta tb tc:TE}{qq:Pos}{op G:CmpOp}{r r':R2}(ho:Ah X (compareOp op) r)(R:Ah X (compareOp G) r')(ha:PE X a ta)(hb:PE X b tb)(hc:PE X c tc)
 (hm:lastMarks [op,G] [b,c]=false:=by with_unfolding_all rfl):PT X (.Compare a [op,G] [b,c] qq) (am7 (Vt r r' ta tb tc)):=by
 intro Z s U H Q I h;refine isTrue_chain (ym (ha Z s U H _ I h) λv s1 ⟨x,H1,I1,r1,q1⟩=>test_link (ym (hb Z s1 U H1 _ I1 q1) λu s2 ⟨y,H2,I2,r2,q2⟩ =>
  ym (ho Z s2 U H2 x y v u _ I2 r1 r2 q2) λd s3 ⟨z,H3,I3,r3,k,e,q3⟩=>?_)) hm
 subst e;cases r3;refine je ?_;cases k with
 |false =>
  obtain⟨k',e',q'⟩:=q3;cases e';exact ite_ff ⟨H3,I3,q'⟩
 |true =>
  refine ite_tt (test_last (ym (hc Z s3 U H3 _ I3 q3) λw' s4 ⟨z',H4,I4,r4,q4⟩=>ym (R Z s4 U H4 y z' u w' _ I4 r2 r4 q4) λd' s5 z_=>?_));obtain⟨z2,H5,I5,r5,k2,e2,q5⟩:=z_;subst e2;cases r5;exact je ⟨H5,I5,q5⟩
def akk(K:Fg)(x:V)(H:Hp)(k:Bool):Prop :=
 match x with
 |.non=>k=false|.bl b=>k=b|.int i=>k=(i != 0)|.str y=>y.length<=sizeLine/\k=((y.length:Int) != 0)|.byt y=>y.size<=sizeLine/\k=((y.size:Int) != 0)|.ref p=>(∃Z,Dm K H p Z/\k=!Z.isEmpty)\/(∃Z,Ei K H p Z/\k=!Z.isEmpty)\/∃G,H p=some (.dK G)/\k=!G.isEmpty|_=>False
def Zk{U:Type}{Z:List (U×V)}{G:List (U×Value)}(r:KV Z G):(!G.isEmpty)=!Z.isEmpty:=by cases r<;>rfl
def Q5{Z:List V}{G:Zl}(r:Vals Z G):(!G.toArray.isEmpty)=!Z.isEmpty:=by cases r<;>simp
def Q6:(sizeLine:Nat)<2 ^ 63:=by rw[sizeLine_eq];decide
def ag1{X:Cx}:a0k X (λx H Q=>∃k,akk X.K x H k/\Q k H):=by
 intro qq s σ H x v Q I rx h;obtain⟨k,e,q⟩:=h;have hl:=Q6;have hs:sizeLine=16777216:=sizeLine_eq;cases x with
 |non =>
  cases rx;have Z:k=false:=e;subst Z;exact truthy_none ⟨H,I,q⟩
 |bl b =>
  cases rx;have Z:k=b:=e;subst Z;exact je ⟨H,I,q⟩
 |int i =>
  obtain⟨t,rfl⟩:=rx;have Z:k=(i != 0):=e;subst Z;exact PySem.P.truthy_int ⟨H,I,q⟩
 |str y =>
  obtain⟨t,rfl⟩:=rx;obtain⟨hy,Z⟩:y.length<=sizeLine/\k=((y.length:Int) != 0):=e
  subst Z;exact PySem.P.truthy_str (by lia) ⟨H,I.tok _,q⟩
 |byt y =>
  obtain⟨t,rfl⟩:=rx;obtain⟨hy,Z⟩:y.size<=sizeLine/\k=((y.size:Int) != 0):=e
  subst Z;exact PySem.W.truthy_bytes (a_ hy (a_ (f_ hs) (by decide))) ⟨H,I.tok _,q⟩
 |ref p =>
  cases rx;have Z:(∃U,Dm X.K H p U/\k=!U.isEmpty)\/(∃U,Ei X.K H p U/\k=!U.isEmpty)\/∃R,H p=some (.dK R)/\k=!R.isEmpty:=e;rcases Z with⟨U,hx,Z⟩|⟨U,hx,Z⟩|⟨R,hx,Z⟩
  .subst Z
   obtain⟨ql,r,pl,hz⟩:=I.list hx;have G:=r.length;exact wpAny_truthy_list pl.isList (by simp only[cz];lia) ⟨H,I.tok _,by rw[Q5 r];exact q⟩
  .subst Z
   obtain⟨ql,r,pl,hz⟩:=I.tuple hx;have G:=r.length;exact truthy_tuple pl (by simp only[cz];lia) ⟨H,I.tok _,by rw[Q5 r];exact q⟩
  .subst Z
   obtain⟨hz,hS,vs,r,m⟩:R.length<=sizeLine/\(p==sysModules)=false/\∃vs,KV R vs/\s.heap.DictOf (Ax X.prog X.w) p vs:=I.zg p _ hx
   have G:R.length=vs.length:=Paired.length r;exact wpAny_truthy_dict hS m (by lia) ⟨H,I.tok _,by rw[Zk r];exact q⟩
 |_=>exact(show False from e).elim
def ag2{X:Cx}{a:Expr}{ta:TE}(ha:PE X a ta)(he:∀Z,isTrue a X.env Z=(do let v <- Z;standAt a.pos;holding [v] (truthy v))) :
 PT X a (λU H Q=>ta U H λx R=>∃k,akk X.K x R k/\Q k R):=by
 intro G s U H Q I h;exact isTrue_plain (ym (ha G s U H _ I h) λv s1 ⟨x,H1,I1,r1,q1⟩=>ag1 G s1 U H1 x v Q I1 r1 q1) (he _)
def vals1{x:V}{Z:Zl}(r:Vals [x] Z):∃u,Z=[u]/\RelV x u:=by
 cases r with
 |cons U G=>cases G;exact⟨_,rfl,U⟩
def vals2{x y:V}{Z:Zl}(r:Vals [x,y] Z):∃u w',Z=[u,w']/\RelV x u/\RelV y w':=by
 cases r with
 |cons r1 R =>
  cases R with
  |cons G U=>cases U;exact⟨_,_,rfl,r1,G⟩
def adz{X:Cx}(R:X.calm=true):yo X (.builtin "max") (λU H Q=>∃i j,U=[.int i,.int j]/\Q (.int (if j > i then j else i)) H):=by
 intro G s σ H U us Q I r h;obtain⟨i,j,rfl,q⟩:=h;obtain⟨u,w',rfl,⟨t,rfl⟩,⟨t',rfl⟩⟩:=vals2 r;refine max_two_ints (I.ok.hd R) λh' tk k=>⟨_,H,I.kept k,?_,q⟩
 by_cases Z:j > i
 .rw[di Z,di Z];exact⟨_,rfl⟩
 .rw[fj Z,fj Z];exact⟨_,rfl⟩
def ad0{X:Cx}(R:X.calm=true):yo X (.builtin "min") (λU H Q=>∃i j,U=[.int i,.int j]/\Q (.int (if j<i then j else i)) H):=by
 intro G s σ H U us Q I r h;obtain⟨i,j,rfl,q⟩:=h;obtain⟨u,w',rfl,⟨t,rfl⟩,⟨t',rfl⟩⟩:=vals2 r;refine min_two_ints (I.ok.hd R) λh' tk k=>⟨_,H,I.kept k,?_,q⟩
 by_cases Z:j<i
 .rw[di Z,di Z];exact⟨_,rfl⟩
 .rw[fj Z,fj Z];exact⟨_,rfl⟩
end L2
namespace L2
open PySem PySem.Spec PyProof.Rows
end L2
namespace L2
open PySem PySem.Spec PyProof.Rows
structure yh(k:Nat)(A:Around):Prop where
 hd:A.handled=none
 dp:A.depth+3*k+5<recursionLimit
 un:A.units+16*k+200<cLine
def yh.mono{j k:Nat}{A:Around}(r:yh k A)(h:j<=k):yh j A:=⟨r.hd,by have:=r.dp;lia,by have:=r.un;lia⟩
theorem yh.deeper{k:Nat}{A:Around}(r:yh (k+1) A)(Z:Env):yh k (A.deeper Z) :=
 ⟨r.hd,by have:=r.dp;show A.depth+1+3*k+5<_;lia,by have:=r.un;show A.units+3+16*k+200<_;lia⟩
theorem yh.in1{k:Nat}{A:Around}(r:yh (k+1) A):yh k A.in1 :=
 ⟨r.hd,by have:=r.dp;show A.depth+3*k+5<_;lia,by have:=r.un;show A.units+1+16*k+200<_;lia⟩
theorem yh.depth{k:Nat}{A:Around}(r:yh k A):A.depth<recursionLimit:=by have:=r.dp;lia
theorem yh.units{k:Nat}{A:Around}(r:yh k A):A.units+64<cLine:=by have:=r.un;lia
def yh.Q7{k:Nat}{A:Around}(r:yh k A):A.units<cLine:=by have:=r.un;lia
def a0n:TA:=λ_ H Q=>Q [] H
def avf(U:TE)(tr:TA):TA:=λZ H Q=>U Z H λx R=>tr Z R λxs G=>Q (x::xs) G
def aqe{X:Cx}:PA X [] a0n:=λ_ _ _ _ H Q I h=>Calls.spliced_nil ⟨[],H,I,.nil,h⟩
def akl{X:Cx}{e:Expr}{G:Ya}{R:TE}{t:TA}(ha:PE X e R)(hr:PA X G t)(hs:starEach (e::G) X.env=(false,eval e X.env)::starEach G X.env:=by rfl):PA X (e::G) (avf R t):=by intro U Z s σ H Q I h;rw[hs];show wpAny _ _ (spliced ((false,eval e X.env)::backTo U (starEach G X.env))) _ _ s;refine Calls.spliced_cons (ym (ha Z s σ H _ I h) λu s1 z_=>?_);obtain⟨x,H1,I1,r1,q1⟩:=z_;exact ym (hr U Z s1 σ H1 _ I1 q1) λus s2 ⟨xs,H2,I2,r2,q2⟩=>⟨x::xs,H2,I2,.cons r1 r2,q2⟩
def a0o(t:TA):TE:=λU H Q=>t U H λZ G=>Z.length<=sizeLine/\∀p,G p=none->Q (.ref p) (upd G p (.tup Z))
def a0p(t:TA):TE:=λU H Q=>t U H λZ G=>Z.length<=sizeLine/\∀p,G p=none->Q (.ref p) (upd G p (.lst Z))
def aqf{X:Cx}{R:Ya}{t:TA}{G:Pos}{x1}(h:PA X R t):PE X (.Tuple R x1 G) (a0o t):=by intro Z s σ H Q I hq;refine wpAny_Tuple_spliced (ym (h G Z s σ H _ I hq) λus U ⟨xs,H1,I1,r,z,q⟩=>⟨by rw[<- r.length];exact z,?_⟩);have hf:H1 U.heap.objs.size=none:=I1.zg.fresh (bc _);refine⟨.ref U.heap.objs.size,upd H1 U.heap.objs.size (.tup xs),I1.laid (t':=U.toks) (λb u e=>au _ e) (bc _) ?_,rfl,q _ hf⟩;exact⟨z,us,r,Ss.new _ _⟩
def ag3{X:Cx}{R:Ya}{t:TA}{G:Pos}(h:PA X R t):PE X (.List R G) (a0p t):=by intro Z s σ H Q I hq;refine wpAny_List_spliced (ym (h G Z s σ H _ I hq) λus U ⟨xs,H1,I1,r,z,q⟩=>⟨by rw[<- r.length];exact z,?_⟩);have hf:H1 U.heap.objs.size=none:=I1.zg.fresh (bc _);refine⟨.ref U.heap.objs.size,upd H1 U.heap.objs.size (.lst xs),I1.laid (t':=U.toks) (λb u e=>au _ e) (bc _) ?_,rfl,q _ hf⟩;exact⟨z,us,0,r,bj _ rfl⟩
abbrev Sp:=List V->Hp->VK->XK->Prop
abbrev CXT:=List Env->Hp->Shared->XK->Value->Shared->Prop
structure akm(P:Program)(w:World)(K:Fg)(mg:Zs)(base:Heap)(A:Around)(outer:List Env)(s:Shared)(H:Hp):Prop where
 frames:A.frames=some outer
 mod:Mod K mg base
 bs:∀b o,base.get? b=some o->s.heap.get? b=some o/\H b=none
 bsz:base.objs.size<=s.heap.objs.size
 Q4:s.heap.FunFrames base outer
 frf:∀b∈frs outer,H b=none
 zg:Mx P w H s.heap
 bare:AllBare s.gens
def CE(Z:List Env)(P:Program)(w:World)(H:Hp)(s:Shared)(Q:VK)(u:Value)(G:Shared):Prop :=
 ∃v U,G.os=s.os/\AllBare G.gens/\Un (frs Z) [] H U s.heap G.heap/\Mx P w U G.heap/\RelV v u/\Q v U
def CR(U:CXT)(Z:List Env)(P:Program)(w:World)(H:Hp)(s:Shared)(Q:VK)(E:XK)(r:Result)(G:Shared):Prop :=
 match r with
 |.ok (.ret u)=>CE Z P w H s Q u G|.ok _=>False|.error e=>U Z H s E e G
structure Jd(P:Program)(w:World)(K:Fg)(mg:Zs)(base:Heap)(CX:CXT)(k:Nat)(f:Addr)(fd:FuncData)(ps:Yf)(sp:Sp):Prop where
 len:∀vs H Q E,sp vs H Q E->vs.length=ps.length
 run:∀(A:Around)(outer:List Env)(s:Shared)(H:Hp)(args:Args)(us:Zl)(vs:List V)(Q:VK)(E:XK),yh k A->akm P w K mg base A outer s H->BindsTo s fd args (ps.zip us)->Vals vs us->sp vs H Q E ->
  codeAny (model P w) A (.call (.ref f) args) (CR CX outer P w H s Q E) s
def Jd.imp{P:Program}{w:World}{K:Fg}{mg:Zs}{Z:Heap}{CX:CXT}{k:Nat}{f:Addr}{fd:FuncData}{ps:Yf}{sp sp':Sp}(F:Jd P w K mg Z CX k f fd ps sp)
 (h:∀U H Q E,sp' U H Q E->sp U H Q E):Jd P w K mg Z CX k f fd ps sp' :=
 ⟨λU H Q E q=>F.len U H Q E (h _ _ _ _ q),λA G s H R us U Q E hr he hb hv hs=>F.run A G s H R us U Q E hr he hb hv (h _ _ _ _ hs)⟩
def Inv.env0{X:Cx}{Z:Zp}{G:St}{H:Hp}{s:Shared}(I:Inv X Z G H s):akm X.prog X.w X.K X.mg X.base X.A X.stack s H :=
 ⟨I.ok.frames,I.ok.mod,I.bs,bf I.ok.bsz I.sz,I.stack,I.abl,I.zg,I.bare⟩
def Inv.after{X:Cx}{Z:Zp}{R:St}{H:Hp}{s s':Shared}{Q:VK}{u:Value}(I:Inv X Z R H s)(h:CE X.stack X.prog X.w H s Q u s'):EP X Z R Q u s':=by obtain⟨v,H',os,G,un,zg,r,q⟩:=h;obtain⟨hh,g,d,t,U⟩:=s';obtain rfl:U=s.os:=os;exact⟨v,H',I.call (h':=hh) (g':=g) (d':=d) (t':=t) (ch:=[]) un zg G (λb z=>absurd z (by simp)),r,q⟩
def avh(U:Sp)(Z:List V)(E:XK)(t:TA):TE:=fun σ H Q=>t σ H λG R=>U (G++Z) R Q E
def Binds(K:Fg)(U:FuncData)(ps:Yf)(G:Zl):Prop :=
 ∀(s:Shared)(Z:Zl),K.In s.heap->(Z++G).length=ps.length->BindsTo s U ⟨Z,[]⟩ (ps.zip (Z++G))
def Binds.all{K:Fg}{U:FuncData}{ps:Yf}(h:∀Z:List Value,Z.length=ps.length->bindArgs U ⟨Z,[]⟩=pure (ps.zip Z)):Binds K U ps []:=λs Z _ G=>by rw[List.append_nil] at G ⊢;exact .of_eq (h Z G)
def Passes(U:CXT)(X:Cx)(E:XK):Prop:=∀(Z:Zp)(R:St)(H:Hp)(s:Shared)(e:Value)(G:Shared),Inv X Z R H s->U X.stack H s E e G->X.xe e G
def aqg{X:Cx}{CX:CXT}{k:Nat}{f:Addr}{fd:FuncData}{ps:Yf}{sp:Sp}{G:List V}{R:Zl}{E:XK}{Z:Zp}{σ:St}{H:Hp}{s:Shared}{Q:VK}{U:Zl}{vs:List V}(F:Jd X.prog X.w X.K X.mg X.base CX k f fd ps sp)(hr:yh k X.A)(hb:Binds X.K fd ps R)(hd:Vals G R)(hx:Passes CX X E)
 (I:Inv X Z σ H s) (r:Vals vs U) (h:sp (vs++G) H Q E):wpAny (model X.prog X.w) X.A (call (.ref f) U) (EP X Z σ Q) X.xe s:=by
 have r2:Vals (vs++G) (U++R):=r.append hd;have hl:(U++R).length=ps.length:=by rw[<- r2.length];exact F.len _ _ _ _ h
 refine wpAny_call (codeAny_mono (F.run X.A X.stack s H ⟨U,[]⟩ (U++R) (vs++G) Q E hr I.env0 (hb s U I.kIn hl) r2 h) λr s' hq=>?_);cases r with
 |error e=>exact hx Z σ H s e s' I hq
 |ok fl =>
  cases fl with
  |ret u=>exact I.after hq|next=>exact False.elim hq|brk=>exact False.elim hq|cont=>exact False.elim hq
def ako{X:Cx}{CX:CXT}{k:Nat}{f:Addr}{fd:FuncData}{ps:Yf}{sp:Sp}{U:List V}{ds:Zl}{E:XK}{x:Str}{p Z:Pos}{e:Expr}{R:Ya}{t:TA}(F:Jd X.prog X.w X.K X.mg X.base CX k f fd ps sp)(hr:yh k X.A)(hg:Gl X x)(hm:X.mg x=some (.ref f))(hk:PySem.W.keepIn X.K (.ref f)=true)(hb:Binds X.K fd ps ds)(hd:Vals U ds)(hx:Passes CX X E)
 (ha:PA X (e::R) t) (Zm:(x==("__debug__" : Str))=false:=by decide) (he:starEach (e::R) X.env=(false,eval e X.env)::starEach R X.env:=by rfl) (M9:(backTo Z (starEach R X.env)).any (·.1)=false:=by rfl) :
 PE X (.Call (.Name x p) (e::R) [] Z) (avh sp U E t):=by
 intro G s σ H Q I h;refine o5 (abn I hg hm ?_ Zm);refine PySem.W.callWith_K (h₀:=X.base) I.ok.mod.kin hk (ym (ha Z G s σ H _ I h) λus s1 ⟨vs,H1,I1,r,q⟩=>⟨I1.kIn,?_⟩) he M9;exact aqg F hr hb hd hx I1 r q
structure Ph(N P:Yf)(sc:Scope):Prop where
 kind:sc.kind=.function
 co:sc.isCoroutine=false
 gen:sc.isGenerator=false
 nd:N.Nodup
 pre:N.take P.length=P
 par:∀x∈P,sc.names.lookup x=some .local\/sc.names.lookup x=some .cell
 aqh:∀y∈sc.names,y.2≠.free
theorem T5{Z:Str->Option NameKind}{x:Str}:∀{binds:List (Str×Value)}{m:Zs},(∀v,(x,v)∉binds)->bindL Z binds m x=m x
 |[],_,_=>rfl
 |(n,v)::r,m,h=>by
  unfold bindL;rw[T5 λw hw=>h w (bu _ hw)];split
  .have:x≠n:=by rintro rfl;exact h v bz
   simp[this]
  .rfl
theorem T6{Z:Str->Option NameKind}{x:Str}:∀{binds:List (Str×Value)}{m:Zs},(∀v,(x,v)∉binds)->bindC Z binds m x=m x
 |[],_,_=>rfl
 |(n,v)::r,m,h=>by
  unfold bindC;rw[T6 λw hw=>h w (bu _ hw)];split
  .rfl
  .have:x≠n:=by rintro rfl;exact h v bz
   simp[this]
theorem T7{Z:Str->Option NameKind}{x:Str}{v:Value}:∀{P:Yf}{G:Zl}{i:Nat}{m:Zs},P.Nodup->P[i]?=some x->G[i]?=some v->Z x=some .local ->
 bindL Z (P.zip G) m x=some v
 |[],_,_,_,_,h,_,_=>by simp at h|_::_,[],_,_,_,_,h,_=>by simp at h
 |p::P,w::G,0,m,nd,h1,h2,hk=>by
  simp at h1 h2;subst h1;subst h2;show bindL Z ((p,w)::P.zip G) m p=_;unfold bindL;rw[T5 λv U=>(kh.mp nd).1 (v5 U).1,di hk];simp
 |p::P,w::G,i+1,m,nd,h1,h2,hk=>by
  show bindL Z ((p,w)::P.zip G) m x=_;unfold bindL;exact T7 (i:=i) (kh.mp nd).2 (by simpa using h1) (by simpa using h2) hk
theorem T8{Z:Str->Option NameKind}{x:Str}{v:Value}:∀{P:Yf}{G:Zl}{i:Nat}{m:Zs},P.Nodup->P[i]?=some x->G[i]?=some v->Z x≠some .local ->
 bindC Z (P.zip G) m x=some v
 |[],_,_,_,_,h,_,_=>by simp at h|_::_,[],_,_,_,_,h,_=>by simp at h
 |p::P,w::G,0,m,nd,h1,h2,hk=>by
  simp at h1 h2;subst h1;subst h2;show bindC Z ((p,w)::P.zip G) m p=_;unfold bindC;rw[T6 λv U=>(kh.mp nd).1 (v5 U).1,fj hk];simp
 |p::P,w::G,i+1,m,nd,h1,h2,hk=>by
  show bindC Z ((p,w)::P.zip G) m x=_;unfold bindC;exact T8 (i:=i) (kh.mp nd).2 (by simpa using h1) (by simpa using h2) hk
noncomputable def start(N:Yf)(Z:List V):St:=Z.map some++List.replicate (N.length-Z.length) none
noncomputable def Zn(CX:CXT)(P:Program)(w:World)(K:Fg)(mg:Zs)(base:Heap)(N:Yf)(G:Str)(Z:Scope)(f:Addr)(R:Value)(A:Around)(outer:List Env)(s:Shared)(H:Hp)(E:XK):Cx where
 prog:=P
 w:=w
 K:=K
 mg:=mg
 base:=base
 A:=A.deeper (envOfC G Z s.heap.objs.size f R)
 N:=N
 s₀:=s
 H₀:=H
 env:=envOfC G Z s.heap.objs.size f R
 outer:=outer
 stack:=envOfC G Z s.heap.objs.size f R::outer
 ex:=[]
 calm:=true
 fn:=λ_=>true
 pn:=[]
 xe:=λe s'=>wpAny (model P w) (A.deeper (envOfC G Z s.heap.objs.size f R)) (leaving (envOfC G Z s.heap.objs.size f R) e) (λ_ U=>CX outer H s E e U) (λe' U=>CX outer H s E e' U) s'
def Xg{Z:Scope}{n:Nat}{x:Str}(h:Z.names.lookup x=some .cell):∃c,(cellsFrom n Z.names []).lookup x=some c:=by have q:=PySem.W.cellsFrom_some Z.names n [] (.inl h);exact ji.mp q
def ad1{CX:CXT}{P:Program}{w:World}{K:Fg}{mg:Zs}{qq:Heap}{N ps:Yf}{U:Str}{Z:Scope}{f:Addr}{cd:Value}{A:Around}{G:List Env}{s s1:Shared}{H:Hp}{E:XK}{us:Zl}{vs:List V}
 (S:Ph N ps Z) (hd:A.handled=none) (e0:akm P w K mg qq A G s H) (hl:vs.length=ps.length) (r:Vals vs us)
 (x:InCallC s s.heap.objs.size (bindL (envOfC U Z s.heap.objs.size f cd).kindOf (ps.zip us) λ_=>none) (cellsFrom (s.heap.objs.size+1) Z.names []) (bindC (envOfC U Z s.heap.objs.size f cd).kindOf (ps.zip us) λ_=>none) s1) :
 Inv (Zn CX P w K mg qq N U Z f cd A G s H E) [] (start N vs) H s1:=by
 have M9:ps.length<=N.length:=by have:=mz List.length S.pre;rw[List.length_take] at this;lia
 obtain⟨h1,tk,rfl,hk⟩:=x.done;have qk:∀b:Addr,b∉(Zn CX P w K mg qq N U Z f cd A G s H E).ex:=λb z=>absurd (show b∈([]:X1) from z) (by simp)
 refine⟨⟨e0.mod,S.kind,rfl,rfl,bc _,λy z c h1 R=>?_,λy hy=>?_,λy c _ h=>?_,λ_=>hd,Around.frames_deeper e0.frames,.inr ⟨rfl,rfl⟩,λb z=>absurd z (qk b),e0.bs,e0.bsz,λb _ _=>qk b,λb z=>absurd z (qk b),e0.Q4,e0.frf⟩,
  rfl,e0.bare,Un.kept hk,⟨_,x.toInCall.ns,λi y v h1 R h3=>?_⟩,λy c h=>⟨_,x.cell y c h⟩,e0.zg.fresh (bc _),λy c h=>?_,λp hp=>absurd (show p∈([]:Zp) from hp) (by simp),e0.zg.kept hk,?_⟩
 .exact name_of_addr x.apart (uh h1) (uh R)
 .have hy:Z.names.lookup y=some .cell\/Z.names.lookup y=some .free:=hy
  rcases hy with hy|hy
  .exact Xg hy
  .exact absurd rfl (S.aqh _ (uh hy))
 .exact wy (x.above y c (uh h))
 .have hi:i<vs.length:=by
   unfold start at R
   by_cases hi:i<vs.length
   .exact hi
   .rw[m9 (by simpa using hi)] at R
    rw[List.getElem?_replicate] at R;split at R<;>cases R
  have ha:vs[i]?=some v:=by
   unfold start at R;rw[d9 (by simpa using hi),gw] at R;cases e:vs[i]? with
   |none=>rw[e] at R;cases R|some a=>rw[e] at R;cases R;rfl
  obtain⟨u,hu,rv⟩:=r.get ha;have hp:ps[i]?=some y:=by rw[<- S.pre,List.getElem?_take_of_lt (b_ hi (f_ hl))];exact h1
  have qv:ps.Nodup:=by rw[<- S.pre];exact S.nd.sublist (List.take_sublist _ _)
  refine⟨u,rv,?_⟩;rcases S.par y (aq hp) with k|k
  .exact .inl ⟨k,T7 qv hp hu k⟩
  .obtain⟨c,e⟩:=Xg (n:=s.heap.objs.size+1) k
   refine .inr ⟨.inl k,c,e,?_⟩;have q:=x.cell y c e;rw[T8 qv hp hu (by show Z.names.lookup y≠_;rw[k];decide)] at q;exact q
 .exact e0.zg.fresh (wy (x.above y c (uh h)))
 .unfold start
  show _=N.length;rw[jj,bx,List.length_replicate]
  lia
def avj{CX:CXT}{P:Program}{w:World}{K:Fg}{mg:Zs}{qq:Heap}{k:Nat}{f:Addr}{q1 U:Str}{qk:Arguments}{qv:List Stmt}{Z:Scope}{dV kV q3 pm R ct oc:Value}{an od:Option Addr}
 {q6:Array (Option Value)} {N ps:Yf} {sp:Sp} (lk:K.lookup f=some ⟨oc,od,.func (PySem.W.fnOf q1 U qk qv Z dV kV q3 pm an R ct),q6⟩) (zz:PySem.W.codeIn K R U=true) (S:Ph N ps Z)
 (len:∀vs H Q E,sp vs H Q E->vs.length=ps.length)
 (q5:∀(A:Around)(G:List Env)(s:Shared)(H:Hp)(vs:List V)(Q:VK)(E:XK),yh k (A.deeper (envOfC U Z s.heap.objs.size f R))->sp vs H Q E ->
  ∃t,Ml (Zn CX P w K mg qq N U Z f R A G s H E) qv t/\t { nx:=λ_ H'=>Q .non H',rt:=Q } (start N vs) H) :
 Jd P w K mg qq CX (k+1) f (PySem.W.fnOf q1 U qk qv Z dV kV q3 pm an R ct) ps sp:=by
 refine⟨len,λA G s H zk us vs Q E hr e0 hb r q2=>?_⟩;have hl:=len _ _ _ _ q2;have KX:K.In s.heap:=e0.mod.kin.keeps λb o e=>(e0.bs b o e).1
 have q7:s.heap.NoLimit:=e0.mod.nolimit.keeps λb o e=>(e0.bs b o e).1
 have q4:∀y∈ps.zip us,Z.names.lookup y.1=some .local\/(Z.names.lookup y.1=some .cell/\((cellsFrom (s.heap.objs.size+1) Z.names []).lookup y.1).isSome=true):=λ⟨n,v⟩ hy=>by
  rcases S.par n (v5 hy).1 with q|q
  .exact .inl q
  .exact .inr ⟨q,PySem.W.cellsFrom_some _ _ _ (.inl q)⟩
 refine codeAny_call_function hr.depth (KX _ _ lk) rfl S.co S.gen rfl (PySem.W.codeRec_of KX zz) (hb _ _ _ _ ?_);refine wpAny_newFunctionEnv_cells S.kind q4 λzv he s1 x=>?_
 subst he;refine⟨q7.keeps x.toInCall.keep,codeAny_func ?_⟩;obtain⟨t,ht,hq⟩:=q5 A G s H vs Q E (hr.deeper _) q2;have I:Inv (Zn CX P w K mg qq N U Z f R A G s H E) [] (start N vs) H s1:=ad1 S hr.hd e0 hl r x;refine j4 (ht [] s1 (start N vs) H _ I hq) (λfl s' hs=>?_) λe s' hs=>hs
 have fin:∀{q0:St}{H':Hp}{v:V}{u:Value},Inv (Zn CX P w K mg qq N U Z f R A G s H E) [] q0 H' s'->RelV v u->Q v H'->CE G P w H s Q u s' :=
  fun{q0 H' v u} J rv q=>⟨v,H',J.os,J.bare,J.base,J.zg,rv,q⟩
 cases fl with
 |ret u =>
  obtain⟨v,q0,H',J,rv,q⟩:=hs;exact fin J rv q
 |next =>
  obtain⟨q0,H',J,q⟩:=hs;exact fin (v:=V.non) (u:=Value.none) J rfl q
 |brk =>
  obtain⟨_,_,_,q⟩:=hs;exact False.elim q
 |cont =>
  obtain⟨_,_,_,q⟩:=hs;exact False.elim q
end L2
namespace L2
open PySem PySem.Spec PyProof.Rows
def tCB(r:List V->Hp->VK->Prop)(t:TA):TE:=λG H Q=>t G H λZ U=>r Z U Q
def ag6{X:Cx}{x:Str}{p G:Pos}{e:Expr}{U:Ya}{t:TA}{id:String}{r:List V->Hp->VK->Prop}(hc:yo X (.builtin id) r)(hg:Gl X x)(hm:X.mg x=none)(hv:bootBuiltins x=some (.builtin id))(ha:PA X (e::U) t)(hn:x≠"__name__" := by decide)(Zm:(x==("__debug__" : Str))=false:=by decide)
 (he:starEach (e::U) X.env=(false,eval e X.env)::starEach U X.env:=by rfl) (M9:(backTo G (starEach U X.env)).any (·.1)=false:=by rfl):PE X (.Call (.Name x p) (e::U) [] G) (tCB r t):=by
 intro Z s R H Q I h;refine o5 (Ih I hg hm hv ?_ hn Zm);exact uc (ym (ha G Z s R H _ I h) λus s1 ⟨vs,H1,I1,r1,q1⟩=>hc Z s1 R H1 vs us Q I1 r1 q1) he M9
def ad2{X:Cx}{x:Str}{p G:Pos}{e:Expr}{U:Ya}{t:TA}{T:String}{r:List V->Hp->VK->Prop}(hc:yo X (.type T) r)(hg:Gl X x)(hm:X.mg x=none)(hv:bootBuiltins x=some (.type T))(ha:PA X (e::U) t)(hn:x≠"__name__" := by decide)(Zm:(x==("__debug__" : Str))=false:=by decide)
 (he:starEach (e::U) X.env=(false,eval e X.env)::starEach U X.env:=by rfl) (M9:(backTo G (starEach U X.env)).any (·.1)=false:=by rfl):PE X (.Call (.Name x p) (e::U) [] G) (tCB r t):=by
 intro Z s R H Q I h;refine o5 (Ih I hg hm hv ?_ hn Zm);exact o9 (ym (ha G Z s R H _ I h) λus s1 ⟨vs,H1,I1,r1,q1⟩=>hc Z s1 R H1 vs us Q I1 r1 q1) he M9
section
variable{κ:Type}[DecidableEq κ]
def Xh(Z:List (κ×V))(k:κ):Option V:=(Z.find? λkv=>decide (kv.1=k)).map (·.2)
def Xi{p:κ×V}(e:p.1=k):Xh (p::r) k=some p.2:=by simp[Xh,qm,e]
def Xj{p:κ×V}(e:¬p.1=k):Xh (p::r) k=Xh r k:=by simp[Xh,qm,e]
end
def avl(r:RelV (kV k) u):(Ax P w).is k u=true:=by
 cases k with
 |inl i=>obtain⟨t,e⟩:=(show ∃t,u=Value.int i t from r);subst e;exact Xc P w i t
 |inr x=>obtain⟨t,e⟩:=(show ∃t,u=Value.str x t from r);subst e;exact Xd P w x t
theorem T9{P:Program}{w:World}:∀{Z:List Key}{G:Zl},Vals (Z.map kV) G->ItemsAre (Ax P w) Z G
 |[],_,r=>by rw[vg] at r;cases r;exact .nil
 |k::Z,_,r=>by
  rw[d8] at r;cases r with
  |cons h t=>exact .cons (avl h) (T9 t)
abbrev KT(H:Hp):List (List Key×V)->List (List Key×Addr×Value)->Prop:=Paired λp q=>p.1=q.1/\H q.2.1=some (.tup (p.1.map kV))/\RelV p.2 q.2.2
def KT.val(r:KT H U xs)(k:List Key):apg (Xh U k) ((atKey xs k).map (·.2)):=by
 induction r with
 |nil=>exact True.intro
 |@cons p q ps qs h t ih =>
  obtain⟨G,_,R⟩:=h
  by_cases e:p.1=k
  .have Z:q.1=k:=G.symm.trans e
   have b:atKey (q::qs) k=some q.2:=by simp[atKey,qm,Z]
   rw[Xi e,b];exact R
  .have Z:¬q.1=k:=λz=>e (G.trans z)
   have b:atKey (q::qs) k=atKey qs k:=by simp[atKey,qm,Z]
   rw[Xj e,b];exact ih
def KT.keeps(r:KT H G xs)(R:∀b Z,H b=some (.tup Z)->U b=some (.tup Z)):KT U G xs :=
 Paired.api r λ_ _ z=>⟨z.1,R _ _ z.2.1,z.2.2⟩
def avm(ok:Mx P w H h)(e:Rd H a u):za P w H h a u:=e.ok ok
def ag7(ok:Mx P w H h)(e:H a=some (.tup (Z.map kV))):(tupleKind (Ax P w)).is h Z a:=by obtain⟨_,U,r,o,R,h2,n,G,_⟩:=(show za P w H h a (.tup (Z.map kV)) from ok a _ e);exact⟨o,U.toArray,n,R,h2,G,by simpa using T9 r⟩
def avn(ok:Mx P w H h)(e:Rd H a (.dT G)):G.length<=sizeLine/\(a==sysModules)=false /\
 ∃xs,KT H G xs/\h.DictOfH (tupleKind (Ax P w)) a xs:=by
 obtain⟨z,y,xs,r,o,es,ep,h1,h2,U,h4,R⟩:=(show za P w H h a (.dT G) from avm ok e);refine⟨z,y,xs,r,o,es,ep,h1,h2,U,h4,λx Z=>?_,R⟩;have all:∀{l:List (List Key×V)}{m:List (List Key×Addr×Value)},KT H l m->∀x∈m,(tupleKind (Ax P w)).is h x.1 x.2.1:=by
  intro l m q
  induction q with
  |nil=>intro x Z;exact nomatch Z
  |@cons p q ps qs hq t ih =>
   intro x Z;rcases cg.mp Z with e|Z
   .subst e
    exact ag7 ok (by rw[<- hq.1];exact hq.2.1)
   .exact ih x Z
 exact all r x Z
def avo(ok:Mx P w H h)(e:H a=some (.dT Z)):Z.length<=sizeLine/\(a==sysModules)=false /\
 ∃xs,KT H Z xs/\h.DictOfH (tupleKind (Ax P w)) a xs:=avn ok (.inl e)
def Inv.big(I:Inv X pins σ H s):sysModules<s.heap.objs.size:=by
 have h:mainGlobals<s.heap.objs.size:=(I.mod.glob.keeps I.bk).lt
 exact Nat.lt_trans (by decide) h
def akp(I:Inv X pins σ H s)(mu:Mut (H a))(U:Heap.SameBut a s.heap Z)(R:∃q,Z.get? a=some q)(new:za X.prog X.w (upd H a G) Z a G) :
 Inv X pins σ (upd H a G) { s with heap:=Z,toks:=t' } :=
 I.write (x:=a) (e:=a) mu (.inl rfl) (λb q hb z=>(U.2 b hb).trans z) R new
def ag8(h:Heap)(Z:sysModules<h.objs.size):za P w H (h.push { cls:=.type "dict",data:=.dict #[] }) h.objs.size (.dT []) :=
 ⟨gn _,beq_eq_false_iff_ne.mpr (oh (gh Z)),[],.nil,_,#[],0,bj _ rfl,⟨rfl,rfl,rfl⟩,rfl,rfl,List.nodup_nil⟩
def aqi:TE:=λ_ H Q=>∀p,H p=none->Q (.ref p) (upd H p (.dT []))
def ag9:PE X (.Dict [] [] pos) aqi:=λZ s G H Q I h =>
 wpAny_Dict_empty ⟨.ref s.heap.objs.size,_,I.laid (a:=s.heap.objs.size) (o:=.dT []) (t':=s.toks) (λ_ _ q=>au _ q) (bc _) (ag8 s.heap I.big),rfl,h _ (I.zg.fresh (bc _))⟩
end L2
namespace HT
open PySem PyProof.Rows
def akq(ht:IsTup s.heap t U.toArray)(hb:IsTup s.heap b G.toArray)(h0:U=[]->Q (.ref b) s)(h1:G=[]->Q (.ref t) s)(h2:U≠[]->G≠[]->Q (.ref s.heap.objs.size) { s with heap:=s.heap.push { cls:=.type "tuple",data:=.seq (U++G).toArray } })(R8:U.length+G.length<=sizeLine):wpAny (model prog w) A (binaryOp .Add (.ref t) (.ref b)) Q E s:=by
 obtain⟨⟨q1,dd,qv,sl⟩,ho,hc,n,hd⟩:=id ht;obtain⟨⟨q3,R,q2,qq⟩,Z,qk,n2,q0⟩:=id hb;simp only at hc hd qk q0;subst hc hd qk q0;have e:U.toArray++G.toArray=(U++G).toArray:=by simp
 by_cases hv:U=[]
 .exact concat_meets ⟨_,ho,rfl⟩ ⟨_,Z,rfl⟩ noFill_tuple_add seq_tuple_add PySem.F.slot_tuple_add PySem.F.entry_tuple_add (PySem.F.args_tuple_add_2 _ _)
   (tuple_addW0 t b U.toArray G.toArray n n2 dd R sl qq (by simp[hv])) ⟨ho,Z,h0 hv⟩
 by_cases hw:G=[]
 .exact concat_meets ⟨_,ho,rfl⟩ ⟨_,Z,rfl⟩ noFill_tuple_add seq_tuple_add PySem.F.slot_tuple_add PySem.F.entry_tuple_add (PySem.F.args_tuple_add_2 _ _)
   (tuple_addW1 t b U.toArray G.toArray n n2 dd R sl qq (by simpa using hv) (by simp[hw])) ⟨ho,Z,h1 hw⟩
 .refine concat_meets ⟨_,ho,rfl⟩ ⟨_,Z,rfl⟩ noFill_tuple_add seq_tuple_add PySem.F.slot_tuple_add PySem.F.entry_tuple_add (PySem.F.args_tuple_add_2 _ _)
   (tuple_addW2 t b U.toArray G.toArray n n2 dd R sl qq (by simpa using hv) (by simpa using hw) (by rw[cz,cz];exact R8)) ⟨ho,Z,?_⟩
  rw[e];exact h2 hv hw
noncomputable def Dn(n d:Nat):Option Int->Nat
 |none=>d|some v=>if v<0 then(v+(n:Int)).toNat else min v.toNat n
def aqj(n d:Nat)(G:d<=n)(o:Option Int):Dn n d o<=n:=by
 cases o with
 |none=>exact G
 |some v =>
  show(if v<0 then(v+(n:Int)).toNat else min v.toNat n)<=n
  by_cases Z:v<0
  .rw[di Z];lia
  .rw[fj Z];exact Nat.min_le_right _ _
def abu(v:Int)(n d:Nat):(if v<0 then max (v+(n:Int)) 0 else min v (n:Int))=((Dn n d (some v):Nat):Int):=by
 show(if v<0 then max (v+(n:Int)) 0 else min v (n:Int))=(((if v<0 then(v+(n:Int)).toNat else min v.toNat n):Nat):Int)
 by_cases Z:v<0
 .simp only[di Z];lia
 .simp only[fj Z];lia
def Zo(G Z:Option Int)(n:Nat):Builtin.Slice.sliceAdjust G Z 1 (n:Int)=(((Dn n 0 G:Nat):Int),((Dn n n Z:Nat):Int)):=by
 have U:¬((1:Int)<0):=by lia
 unfold Builtin.Slice.sliceAdjust;simp only[U,ig];refine Prod.ext ?_ ?_
 .cases G with
  |none=>rfl|some v=>exact abu v n 0
 .cases Z with
  |none=>rfl|some v=>exact abu v n n
def Zq(i j:Nat):Builtin.Slice.slicePlaces (i:Int) (j:Int) 1=j-i:=by unfold Builtin.Slice.slicePlaces;have Z:(1:Int) > 0:=m_ (by decide);simp only[Z,iu,Int.ediv_one];split<;>lia
def Q8(p:IsPart v o)(h:Q o s):wpAny (model prog w) A (Builtin.Slice.slicePartIndex v) Q E s:=by
 cases p with
 |none=>exact slicePart_none h|int i t=>exact slicePart_int h
def Nj{Z:Option Int}{n:Nat}(hs:s.heap.IsSliceOf sl vl vu .none)(pl:IsPart vl Z)(pu:IsPart vu R)(h:Q (((Dn n 0 Z:Nat):Int),1,Dn n n R-Dn n 0 Z) s):wpAny (model prog w) A (Builtin.Slice.sliceApplied (.ref sl) (pure (n:Int))) Q E s:=by obtain⟨os,U,qq,G⟩:=id hs;unfold Builtin.Slice.sliceApplied Builtin.Slice.sliceFields;refine aa (aa (fc U G (x:=vl) rfl (aa (fc U G (x:=vu) rfl (aa (fc U G (x:=.none) rfl (aj ?_)))))));refine aa (slicePart_none ?_);show wpAny _ _ (if((1:Int)==0)=true then _ else _) _ _ s;rw[fj (by decide)];refine aa (Q8 pl (aa (Q8 pu (aa (aj ?_)))));show wpAny _ _ (match Builtin.Slice.sliceAdjust Z R 1 (n:Int) with|(Z,R)=>pure (Z,(1:Int),Builtin.Slice.slicePlaces Z R 1)) _ _ s;rw[Zo Z R n];show wpAny _ _ (pure (((Dn n 0 Z:Nat):Int),(1:Int),Builtin.Slice.slicePlaces ((Dn n 0 Z:Nat):Int) ((Dn n n R:Nat):Int) 1)) _ _ s;rw[Zq];exact aj h
def aha(Z:Xs)(i k:Nat):((List.range k).filterMap λ(m:Nat)=>Z[((i:Int)+(m:Int)*1).toNat]?).toArray=((Z.toList.drop i).take k).toArray:=by
 have e:(λ(m:Nat)=>Z[((i:Int)+(m:Int)*1).toNat]?)=λm=>Z[i+m]?:=by
  funext m
  have:((i:Int)+(m:Int)*1).toNat=i+m:=by lia
  rw[this]
 rw[e];have:=pick_run Z i k;rw[List.filterMap_map] at this;have G:((λx=>Z[x]?) ∘ λx=>i+x)=λm=>Z[i+m]?:=rfl
 rw[G] at this;rw[this]
def Mm{Z:Option Int}(ht:IsTup s.heap t items)(hs:s.heap.IsSliceOf sl vl vu .none)(pl:IsPart vl Z)(pu:IsPart vu U)(hw:Dn items.size 0 Z=0->Dn items.size items.size U=items.size->Q (.ref t) s)(h:Q (.ref s.heap.objs.size) { s with heap:=s.heap.push { cls:=.type "tuple",data:=.seq ((items.toList.drop (Dn items.size 0 Z)).take (Dn items.size items.size U-Dn items.size 0 Z)).toArray } })(R8:items.size<=sizeLine):wpAny (model prog w) A (getItem (.ref t) (.ref sl)) Q E s:=by
 have R:sizeOk (.seq ((items.toList.drop (Dn items.size 0 Z)).take (Dn items.size items.size U-Dn items.size 0 Z)).toArray):=by
  show((items.toList.drop (Dn items.size 0 Z)).take (Dn items.size items.size U-Dn items.size 0 Z)).toArray.size<=sizeLine
  rw[cz,List.length_take,List.length_drop,uf];omega
 have hj:Dn items.size items.size U<=items.size:=aqj _ _ (bc _) U
 obtain⟨os,qv,qk,q0⟩:=id hs;have qq:s.TypeIs (.ref sl) "slice" := ⟨os,qv,qk⟩;unfold getItem
 try with_reducible refine jo ?_
 first|refine aa (aj ?_)|skip
 refine aa (wpAny_sequenceKey ht.typeIs (by decide) ?_);refine aa (jc (name:=Str.ofString "__getitem__") ht.typeIs su
  (jz su ht.typeIs entry_tuple_getitem ?_ (args_tuple_getitem _ _)))
 show wpAny _ _ (Builtin.Tuple.tupleItemsOf (.ref t) >>= _) _ _ s;refine aa (tupleItemsOf_ ht ?_);refine aa (wpAny_typeOf qq ?_);rw[di (by decide)];refine aa (Nj hs pl pu ?_);show wpAny _ _ (if(((Dn items.size 0 Z:Nat):Int)==0&&(1:Int)==1&&(Dn items.size items.size U-Dn items.size 0 Z)==items.size)=true then _ else _) _ _ s
 by_cases G:(((Dn items.size 0 Z:Nat):Int)==0&&(1:Int)==1&&(Dn items.size items.size U-Dn items.size 0 Z)==items.size)=true
 .rw[di G]
  rw[ao,ao] at G;have q1:((Dn items.size 0 Z:Nat):Int)=0:=eq_of_beq G.1.1;have q2:Dn items.size items.size U-Dn items.size 0 Z=items.size:=eq_of_beq G.2;have q3:=hw (by lia) (by lia);refine aa (m:=Builtin.Tuple.tupleIsExact (.ref t)) (aa (wpAny_typeOf ht.typeIs (aj ?_)));rw[di (by decide)];exact aa (wpAny_rule (aj ⟨_,rfl,aj q3⟩))
 rw[fj G,aha]
 first
  |exact aa (m:=Builtin.Tuple.tupleExact _) (jq (aj ⟨_,rfl,aj h⟩) R)
  |exact aa (m:=Builtin.Tuple.tupleExact _) (jq (aa (aj (aj ⟨_,rfl,aj h⟩))) R)
  |exact aa (aa (m:=Builtin.Tuple.tupleExact _) (jq (aj (aj ⟨_,rfl,aj h⟩)) R))
  |exact aa (aa (m:=Builtin.Tuple.tupleExact _) (jq (aj ⟨_,rfl,aj h⟩) R))
end HT
namespace L2
open PySem PySem.Spec PyProof.Rows
abbrev TO:=St->Hp->(Option Int->Hp->Prop)->Prop
def PO(X:Cx)(e:Option Expr)(t:TO):Prop :=
 ∀(Z:Zp)(s:Shared)(G:St)(H:Hp)(Q:Option Int->Hp->Prop),Inv X Z G H s->t G H Q ->
  wpAny (model X.prog X.w) X.A (evalPart e X.env) (λu R=>∃o U,Inv X Z G U R/\IsPart u o/\Q o U) X.xe s
def aks:TO:=λ_ H Q=>Q none H
def avq(t:TE):TO:=λZ H Q=>t Z H λx G=>∃i,x=.int i/\Q (some i) G
def akt:PO X none aks:=by intro Z s G H Q I h;rw[evalPart_none];exact aj ⟨none,H,I,.none,h⟩
def aku(h:PE X e te):PO X (some e) (avq te):=by
 intro Z s σ H Q I hw;rw[evalPart_some];refine ym (h Z s σ H _ I hw) λu s1 z_=>?_
 obtain⟨x,R,G,U,q1⟩:=z_;obtain⟨i,rfl,q⟩:=q1;obtain⟨t,rfl⟩:=U;exact⟨some i,R,G,.int i t,q⟩
def SlR(X:Cx)(r:V->Option Int->Option Int->Hp->VK->Prop):Prop :=
 ∀(Z:Zp)(s:Shared)(σ:St)(H:Hp)(x:V)(v R vu:Value)(U hi:Option Int)(G:Addr)(Q:VK),Inv X Z σ H s->RelV x v->s.heap.IsSliceOf G R vu .none->IsPart R U->IsPart vu hi->r x U hi H Q ->
  ∃T id,typeLookup (.type T) "__getitem__" = pure (some (.builtin id))/\s.TypeIs v T/\wpAny (model X.prog X.w) X.A (getItem v (.ref G)) (EP X Z σ Q) X.xe s
def SlR.or(h:SlR X r)(h':SlR X r'):SlR X (λx G U H Q=>r x G U H Q\/r' x G U H Q):=by
 intro Z s σ H x v vl vu G U sl Q I rx R pl pu q;rcases q with q|q
 .exact h Z s σ H x v vl vu G U sl Q I rx R pl pu q
 .exact h' Z s σ H x v vl vu G U sl Q I rx R pl pu q
def tSl(r:V->Option Int->Option Int->Hp->VK->Prop)(te:TE)(R U:TO):TE:=λZ H Q=>te Z H λx H1=>R Z H1 λl G=>U Z G λu H3=>r x l u H3 Q
def ahb{lo:Option Expr}(hr:SlR X r)(he:PE X e te)(hl:PO X lo tl)(hu:PO X hi th):PE X (.Subscript e (.Slice lo hi none p2) pos) (tSl r te tl th):=by
 intro Z s U H Q I h;refine Subscript_ (ym (he Z s U H _ I h) λv s1 z_=>?_);obtain⟨x,H1,I1,r1,q1⟩:=z_;refine wpAny_Slice (ym (hl Z s1 U H1 _ I1 q1) λR s2 ⟨l,H2,I2,pl,q2⟩=>ym (hu Z s2 U H2 _ I2 q2) λvu G z_=>?_);obtain⟨u,H3,I3,pu,q3⟩:=z_;rw[evalPart_none];refine aj ?_;have I4:Inv X Z U H3 { G with heap:=G.heap.push { cls:=.type "slice",data:=.fields #[R,vu,.none] } }:=I3.kept (t':=G.toks) λb ob q=>au _ q
 obtain⟨T,id,hT,ht,hg⟩:=hr Z { G with heap:=G.heap.push { cls:=.type "slice",data:=.fields #[R,vu,.none] } } U H3 x v R vu l u G.heap.objs.size Q I4 r1 (Heap.IsSliceOf.new ..) pl pu q3;show wpAny (model X.prog X.w) X.A (subscriptTail e (.Slice lo hi none p2) v (.ref G.heap.objs.size)) (EP X Z U Q) X.xe { G with heap:=G.heap.push { cls:=.type "slice",data:=.fields #[R,vu,.none] } };exact tail_any (ops:=[.ref G.heap.objs.size,v]) ht hT hg (by with_unfolding_all rfl)
def O1(Z:List V)(G U:Option Int):List V:=(Z.drop (HT.Dn Z.length 0 G)).take (HT.Dn Z.length Z.length U-HT.Dn Z.length 0 G)
def Og(Z:List V)(U G:Option Int):(O1 Z U G).length<=Z.length:=by
 unfold O1;rw[List.length_take,List.length_drop]
 lia
def a0r(K:Fg):V->Option Int->Option Int->Hp->VK->Prop:=λx U G H Q=>∃a Z,x=.ref a/\Ei K H a Z /\
 (HT.Dn Z.length 0 U=0->HT.Dn Z.length Z.length G=Z.length->Q (.ref a) H)/\∀p,H p=none->Q (.ref p) (upd H p (.tup (O1 Z U G)))
def aqk:SlR X (a0r X.K):=by
 intro qq s σ H x v vl vu U R sl Q I rx hs pl pu h;obtain⟨a,G,rfl,hx,hw,q⟩:=h;cases rx;obtain⟨ql,r,ht,hz⟩:=I.tuple hx;have Z:ql.toArray.size=G.length:=by rw[cz];exact r.length.symm
 refine⟨"tuple",_,su.lookup,ht.typeIs,?_⟩;refine HT.Mm ht hs pl pu (by rw[Z];exact λz1 z2=>⟨.ref a,H,I,rfl,hw z1 z2⟩) ?_ (by rw[Z];exact hz);rw[Z];refine⟨.ref s.heap.objs.size,_,I.laid (t':=s.toks) (o:=.tup (O1 G U R)) (λb ob q=>au _ q) (bc _) ?_,rfl,q _ (I.zg.fresh (bc _))⟩;exact⟨bf (Og G U R) hz,_,(r.drop (HT.Dn G.length 0 U)).take (HT.Dn G.length G.length R-HT.Dn G.length 0 U),Ss.new _ _⟩
def avr(K:Fg):R2:=λx y H Q=>∃a b Z G,x=.ref a/\y=.ref b/\Ei K H a Z/\Ei K H b G/\Z.length+G.length<=sizeLine /\
 (Z=[]->Q (.ref b) H)/\(G=[]->Q (.ref a) H)/\(∀p,H p=none->Q (.ref p) (upd H p (.tup (Z++G))))
def Vals.abw(r:Vals Z G):G=[]↔Z=[]:=by
 cases r with
 |nil=>simp|cons _ _=>simp
def akv:Ah X (binaryOp .Add) (avr X.K):=by intro U s σ H x y v u Q I rx ry h;obtain⟨a,b,xs,ys,rfl,rfl,ha,hb,R,q0,q1,q2⟩:=h;cases rx;cases ry;obtain⟨ql,G,p1,_⟩:=I.tuple ha;obtain⟨Xk,Z,p2,_⟩:=I.tuple hb;refine HT.akq p1 p2 (λz=>⟨.ref b,H,I,rfl,q0 (G.abw.mp z)⟩) (λz=>⟨.ref a,H,I,rfl,q1 (Z.abw.mp z)⟩) (λ_ _=>?_) (by rw[<- G.length,<- Z.length];exact R);refine⟨.ref s.heap.objs.size,_,I.laid (t':=s.toks) (o:=.tup (xs++ys)) (λb ob q=>au _ q) (bc _) ?_,rfl,q2 _ (I.zg.fresh (bc _))⟩;exact⟨by rw[jj];exact R,_,G.append Z,Ss.new _ _⟩
end L2
namespace L2
open PySem PySem.Spec PyProof.Rows
noncomputable def ixN(n:Nat)(i:Int):Option Nat:=if 0<=i then(if i<n then some i.toNat else none) else if -(n:Int)<=i then some (i+n).toNat else none
def Du{α:Type}(Z:List α)(i:Int):Option α:=(ixN Z.length i).bind λj=>Z[j]?
def abx(h:ixN n i=some j):seqIndex? i n=some j/\j<n/\-(n:Int)<=i/\i<n:=by
 unfold ixN at h
 by_cases G:0<=i
 .rw[di G] at h
  by_cases Z:i<n
  .rw[di Z] at h
   have e:i.toNat=j:=jb h;exact⟨by rw[seqIndex_of G Z,e],by lia,by lia,Z⟩
  .rw[fj Z] at h;cases h
 .rw[fj G] at h
  by_cases Z:-(n:Int)<=i
  .rw[di Z] at h
   have e:(i+n).toNat=j:=jb h;exact⟨by rw[seqIndex_neg (by lia) Z,e],by lia,Z,by lia⟩
  .rw[fj Z] at h;cases h
def aby(h:Du Z i=some v):∃j,seqIndex? i Z.length=some j/\Z[j]?=some v/\j<Z.length/\-(Z.length:Int)<=i/\i<Z.length:=by
 unfold Du at h;cases e:ixN Z.length i with
 |none=>rw[e] at h;cases h
 |some j =>
  rw[e] at h;obtain⟨U,R,G,h4⟩:=abx e;exact⟨j,U,h,R,G,h4⟩
def Vu(b:Expr):Prop:=∀o i,subscripted b false o i=operate [o,i] (getItem o i)
def IxR(X:Cx)(r:R2):Prop :=
 ∀(U Z:Expr)(G:Zp)(s:Shared)(R:St)(H:Hp)(x y:V)(v u:Value)(Q:VK),Inv X G R H s->RelV x v->RelV y u->r x y H Q ->
  subscripted Z false v u=operate [v,u] (getItem v u)->wpAny (model X.prog X.w) X.A (subscriptTail U Z v u) (EP X G R Q) X.xe s
def MtR(X:Cx)(id:String)(r:V->List V->Hp->VK->Prop):Prop :=
 ∀(Z:Zp)(s:Shared)(R:St)(H:Hp)(x:V)(G:List V)(v:Value)(U:Zl)(Q:VK),Inv X Z R H s->RelV x v->Vals G U->r x G H Q ->
  wpAny (model X.prog X.w) X.A (call (.builtin id) (v::U)) (EP X Z R Q) X.xe s
def avt(hr:IxR X r)(ha:PE X a R)(hb:PE X b tb)(U:Vu b):PE X (.Subscript a b pos) (tOp r R tb):=by intro Z s σ H Q I h;exact Subscript_ (ap5 ha hb I h λv u s2 x y G I2 rx ry q=>hr a b Z s2 σ G x y v u Q I2 rx ry q (U _ _))
def a0s(K:Fg):R2:=λx y H Q=>∃p Z i v,x=.ref p/\y=.int i/\Dm K H p Z/\Du Z i=some v/\Q v H
def a0t(K:Fg):R2:=λx y H Q=>∃p Z i v,x=.ref p/\y=.int i/\Ei K H p Z/\Du Z i=some v/\Q v H
def w5:IxR X (a0s X.K):=by
 intro R qq Z s σ H x y v u Q I rx ry h hs;obtain⟨p,xs,i,z,rfl,rfl,hq,he,q⟩:=h;cases rx;obtain⟨t,rfl⟩:=ry;obtain⟨ql,r,pl,hz⟩:=I.list hq;obtain⟨j,G,h2,h3,h4,h5⟩:=aby he;obtain⟨w,ew,qk⟩:=r.get h2;have hl:=r.length;have hn:=Q6;have fin:EP X Z σ Q w s:=⟨z,H,I,qk,q⟩
 by_cases h0:0<=i
 .have U:i.toNat=j:=by
   rw[seqIndex_of h0 h5] at G;exact jb G
  exact item_listR pl.isList h0 (by lia) (by rw[U];simpa using ew) fin hs
 .have U:(i+(ql.toArray.size:Int)).toNat=j:=by
   rw[seqIndex_neg (by lia) h4] at G;rw[cz,<- hl];exact jb G
  exact subscriptTail_builtinR (x:=w) pl.isList.typeIs slot_list_getitem.lookup
   (wpAny_getItem_list_neg (Q:=λr s'=>r=w/\EP X Z σ Q r s') pl.isList (by lia) (by rw[cz]<;>lia) (by lia) (by rw[U];simpa using ew) ⟨rfl,fin⟩) hs
def Ho:IxR X (a0t X.K):=by
 intro G U Z s σ H x y v u Q I rx ry h hs;obtain⟨p,xs,i,z,rfl,rfl,hq,he,q⟩:=h;cases rx;obtain⟨t,rfl⟩:=ry;obtain⟨ql,r,pl,hz⟩:=I.tuple hq;obtain⟨j,h1,h2,h3,h4,h5⟩:=aby he;obtain⟨w,ew,R⟩:=r.get h2;have hl:=r.length;have hn:=Q6;have fin:EP X Z σ Q w s:=⟨z,H,I,R,q⟩;exact subscriptTail_builtinR (x:=w) pl.typeIs slot_tuple_getitem.lookup
  (getItem_tuple (j:=j) (Q:=λr s'=>r=w/\EP X Z σ Q r s') pl (by lia) (by lia) (by rw[cz,<- hl];exact h1) (by simpa using ew) ⟨rfl,fin⟩) hs
def Zr(Z:Zl)(n j:Nat)(u:Value):Obj.mapSeq (·.setIfInBounds j u) { cls:=.type "list",data:=.seq Z.toArray n }={ cls:=.type "list",data:=.seq (Z.set j u).toArray n }:=by simp[Obj.mapSeq]
theorem Inv.lst{X:Cx}{Z:Zp}{R:St}{H:Hp}{s:Shared}{p:Addr}{U:List V}(I:Inv X Z R H s)(h:H p=some (.lst U)) :
 ∃(G:Zl)(n:Nat),Vals U G/\s.heap.get? p=some { cls:=.type "list",data:=.seq G.toArray n }/\U.length<=sizeLine:=by
 obtain⟨z,G,n,r,e⟩:=I.zg p _ h;exact⟨G,n,r,e,z⟩
def Inv.aql{U:Zl}(I:Inv X pins σ H s)(h:H p=some (.lst xs))(ho:s.heap.get? p=some { cls:=.type "list",data:=.seq U.toArray n })(G:f { cls:=.type "list",data:=.seq U.toArray n }={ cls:=.type "list",data:=.seq its'.toArray Z })(r:Vals R its')(hz:R.length<=sizeLine)(t:Nat) :
 Inv X pins σ (upd H p (.lst R)) { s with heap:=s.heap.update p f,toks:=t }:=by
 have e:(s.heap.update p f).get? p=some { cls:=.type "list",data:=.seq its'.toArray Z }:=by rw[m6 f ho (by rw[G]<;>rfl),G]
 refine I.write (x:=p) (e:=p) (by rw[h];trivial) (.inl rfl) (λb u hb q=>(Heap.get?_update_other _ _ (oh hb)).trans q) ⟨_,e⟩ ?_;exact⟨hz,its',Z,r,e⟩
def avu:V->V->V->Hp->(Hp->Prop)->Prop:=λo i v H Q=>∃p Z k j,o=.ref p/\i=.int k/\H p=some (.lst Z)/\ixN Z.length k=some j/\Q (upd H p (.lst (Z.set j v)))
def set_list:apy X avu:=by
 intro Z s σ H o i v ov iv u Q I ro ri rv h;obtain⟨p,xs,k,j,rfl,rfl,hp,hj,q⟩:=h;cases ro;obtain⟨t,rfl⟩:=ri;obtain⟨ql,n,r,ho,hz⟩:=I.lst hp;obtain⟨G,h2,h3,h4⟩:=abx hj;have R:=r.length;have hn:=Q6;have I':Inv X Z σ (upd H p (.lst (xs.set j v))) { s with heap:=s.heap.update p (Obj.mapSeq (·.setIfInBounds j u)) } :=
  I.aql hp ho (Zr ql n j u) (r.set rv j) (by rw[vz];exact hz) s.toks
 by_cases h0:0<=k
 .have U:k.toNat=j:=by
   rw[seqIndex_of h0 h4] at G;exact jb G
  exact PySem.W.ki_setAt ho h0 (by lia) (by rw[cz,<- R];exact h4) (by rw[U];exact⟨_,I',q⟩)
 .have U:(k+(ql.toArray.size:Int)).toNat=j:=by
   rw[seqIndex_neg (by lia) h3] at G;rw[cz,<- R];exact jb G
  exact PySem.W.ki_setBack ho (by lia) (by rw[cz,<- R];exact h3) (by lia) (by rw[U];exact⟨_,I',q⟩)
def Vv(G Z:Option Int)(n:Nat):(sliceBounds G Z none n).1=((HT.Dn n 0 G:Nat):Int)/\(sliceBounds G Z none n).2.1=((HT.Dn n n Z:Nat):Int)/\(sliceBounds G Z none n).2.2=1:=by
 refine⟨?_,?_,rfl⟩
 .cases G with
  |none=>simp[sliceBounds,HT.Dn]
  |some i =>
   simp only[sliceBounds,HT.Dn,Option.getD_none,show(1:Int) > 0 by decide,iu]
   by_cases h:i<0
   .simp only[h,iu]<;>lia
   .simp only[h,ig]<;>lia
 .cases Z with
  |none=>simp[sliceBounds,HT.Dn]
  |some i =>
   simp only[sliceBounds,HT.Dn,Option.getD_none,show(1:Int) > 0 by decide,iu]
   by_cases h:i<0
   .simp only[h,iu]<;>lia
   .simp only[h,ig]<;>lia
def Sv(Z:Zl)(G U:Option Int):slicePick Z.toArray G U none=((Z.drop (HT.Dn Z.length 0 G)).take (HT.Dn Z.length Z.length U-HT.Dn Z.length 0 G)).toArray:=by obtain⟨h1,h2,R⟩:=Vv G U Z.toArray.size;unfold slicePick;rw[h1,h2,R];simp only[sliceRange_one,pick_run,cz]<;>rfl
def avv(K:Fg):V->Option Int->Option Int->Hp->VK->Prop:=λx U G H Q=>∃a Z,x=.ref a/\Dm K H a Z/\∀p,H p=none->Q (.ref p) (upd H p (.lst (O1 Z U G)))
def akx:SlR X (avv X.K):=by intro qq s σ H x v vl vu U R sl Q I rx hs pl pu h;obtain⟨a,G,rfl,hx,q⟩:=h;cases rx;obtain⟨ql,r,ht,hz⟩:=I.list hx;have Z:=r.length;refine⟨"list",_,slot_list_getitem.lookup,ht.isList.typeIs,?_⟩;refine wpAny_getItem_list_slice ht.isList hs pl pu .none (by simp) ?_ (by rw[cz]<;>exact a_ (g_ Z) hz);rw[Sv,<- Z];refine⟨.ref s.heap.objs.size,_,I.laid (t':=s.toks) (o:=.lst (O1 G U R)) (λb ob q=>au _ q) (bc _) ?_,rfl,q _ (I.zg.fresh (bc _))⟩;exact⟨bf (Og G U R) hz,_,0,(r.drop (HT.Dn G.length 0 U)).take (HT.Dn G.length G.length R-HT.Dn G.length 0 U),bj _ rfl⟩
def Vw:yo X (.builtin "len") (λxs H Q=>∃p G,xs=[.ref p]/\(Dm X.K H p G\/Ei X.K H p G)/\Q (.int G.length) H):=by
 intro qq s σ H xs us Q I r h;obtain⟨p,G,rfl,U,q⟩:=h;obtain⟨u,rfl,rx⟩:=vals1 r;cases rx;have hn:=Q6;rcases U with U|U
 .obtain⟨ql,R,pl,hz⟩:=I.list U
  have Z:=R.length;exact Calls.call_len_list pl.isList (by simp only[cz]<;>lia) ⟨.int G.length,H,I.tok _,⟨s.toks+1,by rw[cz,Z]⟩,q⟩
 .obtain⟨ql,R,pl,hz⟩:=I.tuple U
  have Z:=R.length;exact len_tuple pl (by simp only[cz]<;>lia) ⟨.int G.length,H,I.tok _,⟨s.toks+1,by rw[cz,Z]⟩,q⟩
def Vx:yo X (.type "list") (λxs H Q=>∃p R,xs=[.ref p]/\(Dm X.K H p R\/Ei X.K H p R)/\∀l,H l=none->Q (.ref l) (upd H l (.lst R))):=by
 intro qq s σ H xs us Q I r h;obtain⟨p,R,rfl,hq,q⟩:=h;obtain⟨u,rfl,rx⟩:=vals1 r;cases rx;have fin:∀(U:Zl),Vals R U->R.length<=sizeLine->∀(G:Heap)(c':Nat),(∀b o',s.heap.get? b=some o'->G.get? b=some o') ->
  G.get? s.heap.objs.size=some { cls:=.type "list",dict:=none,data:=.seq U.toArray c',slots:=#[] }->EP X qq σ Q (.ref s.heap.objs.size) { s with heap:=G }:=λU r' hz G c' kp e =>
  ⟨.ref s.heap.objs.size,_,I.laid (t':=s.toks) kp (bc _) (show za X.prog X.w _ G _ (.lst R) from⟨hz,U,c',r',e⟩),rfl,q _ (I.zg.fresh (bc _))⟩
 rcases hq with hq|hq
 .obtain⟨U,r',pl,hz⟩:=I.list hq
  have Z:=r'.length;obtain⟨o,ho,hc,n,hd⟩:=pl.isList;exact call_list_seq p (.inl rfl) ho hc hd (λG c' kp e=>fin U r' hz G c' kp e) (by simp only[cz]<;>exact a_ (g_ Z) hz)
 .obtain⟨U,r',pl,hz⟩:=I.tuple hq
  have Z:=r'.length;obtain⟨o,ho,hc,n,hd⟩:=pl;exact call_list_seq p (.inr rfl) ho hc hd (λG c' kp e=>fin U r' hz G c' kp e) (by simp only[cz]<;>exact a_ (g_ Z) hz)
def Sw:yo X (.type "tuple") (λxs H Q=>∃p G,xs=[.ref p]/\((Dm X.K H p G/\∀l,H l=none->Q (.ref l) (upd H l (.tup G)))\/(Ei X.K H p G/\Q (.ref p) H))):=by
 intro Z s σ H xs us Q I r h;obtain⟨p,G,rfl,h⟩:=h;obtain⟨u,rfl,rx⟩:=vals1 r;cases rx;rcases h with⟨hq,q⟩|⟨hq,q⟩
 .obtain⟨ql,r',pl,hz⟩:=I.list hq
  have U:=r'.length;refine call_tuple_list pl.isList (λR kp=>?_) (by simp only[cz]<;>exact a_ (g_ U) hz);have I1:Inv X Z σ H { s with heap:=R }:=I.kept (t':=s.toks) kp;have I2:Inv X Z σ (upd H R.objs.size (.tup G)) { s with heap:=R.push { cls:=.type "tuple",data:=.seq ql.toArray } } :=
   I1.laid (t':=s.toks) (λb o e=>au _ e) (bc _) (show za X.prog X.w _ _ _ (.tup G) from⟨hz,ql,r',Ss.new _ _⟩)
  exact⟨.ref R.objs.size,_,I2,rfl,q _ (I1.zg.fresh (bc _))⟩
 .obtain⟨ql,r',pl,hz⟩:=I.tuple hq
  exact call_tuple_same pl ⟨.ref p,H,I,rfl,q⟩
def tyV(K:Fg)(T:String)(x:V)(H:Hp):Prop:=match x with
 |.str _=>T = "str"|.int _=>T = "int"
 |.ref p=>(T = "list"/\∃G,Dm K H p G)\/(T = "tuple"/\∃o,K.lookup p=some o/\o.cls=.type "tuple"/\o.dict=none) \/
  (T = "dict"/\((∃Z,H p=some (.dK Z))\/∃Z,H p=some (.dT Z)))\/(T = "set"/\∃S n,H p=some (.set S n))
 |_=>False
def aqm(I:Inv X pins σ H s)(r:RelV x v)(U:tyV X.K T x H) :
 s.TypeIs v T/\∀a,v=.ref a->∃ob,s.heap.get? a=some ob/\ob.dict=none:=by
 cases x with
 |str z =>
  obtain⟨t,rfl⟩:=r;cases(show T = "str" from U);exact⟨typeIs_str s z t,λ_ e=>nomatch e⟩
 |int i =>
  obtain⟨t,rfl⟩:=r;cases(show T = "int" from U);exact⟨typeIs_int s i t,λ_ e=>nomatch e⟩
 |ref p =>
  cases r;rcases U with⟨rfl,xs,hq⟩|⟨rfl,o,Z,hc,R⟩|⟨rfl,Z⟩|⟨rfl,S,n,Z⟩
  .obtain⟨ql,_,pl,_⟩:=I.list hq
   refine⟨pl.isList.typeIs,λa e=>?_⟩;cases e;obtain⟨o,n,e,c,R,_⟩:=pl;exact⟨o,e,R⟩
  .refine⟨⟨o,I.kIn p o Z,hc⟩,λa e=>?_⟩
   cases e;exact⟨o,I.kIn _ o Z,R⟩
  .have z:∃o,s.heap.get? p=some o/\o.ExactDict:=by
    rcases Z with⟨xu,Z⟩|⟨xu,Z⟩
    .obtain⟨_,_,_,_,o,_,_,e,G,_⟩:=I.zg p _ Z
     exact⟨o,e,G⟩
    .obtain⟨_,_,_,_,o,_,_,e,G,_⟩:=I.zg p _ Z
     exact⟨o,e,G⟩
   obtain⟨o,e,G⟩:=z;refine⟨⟨o,e,G.1⟩,λa e2=>?_⟩;cases e2;exact⟨o,e,G.2.1⟩
  .obtain⟨o,_,_,_,e,G,_⟩:=I.zg p _ Z
   refine⟨⟨o,e,G.1⟩,λa e2=>?_⟩;cases e2;exact⟨o,e,G.2.1⟩
 |_=>exact False.elim U
def tBM(K:Fg)(T:String)(r:V->List V->Hp->VK->Prop)(U:TE)(t:TA):TE:=λG H Q=>U G H λx Z=>tyV K T x Z/\t G Z λxs R=>r x xs R Q
theorem avx{id:String}(pa:PlainAttrs T)(U:Slot T name id)(R:typeOf (.builtin id)=pure (.type "method_descriptor"))(hm:MtR X id r)(ho:PE X o to)(ha:PA X (e::es) t)(Xl:attributeBase o name X.env (eval o X.env)=eval o X.env:=by rfl)(qq:((backTo G (starEach (e::es) X.env)).all (λx=>!x.1)&&(backToKw G (keywordEach [] X.env)).all (λx=>x.1.isSome)
&&decide ((e::es).length+([]:List Keyword).length+(if([]:List Keyword).isEmpty then 0 else 1)<30))=true:=by rfl)(Xm:(apos.endLine==G.line)=true:=by rfl)(hs:starEach (e::es) X.env=(false,eval e X.env)::starEach es X.env:=by rfl)(Zt:(backTo G (starEach es X.env)).any (·.1)=false:=by rfl) :
 PE X (.Call (.Attribute o name apos) (e::es) [] G) (tBM X.K T r to t):=by
 intro Z s σ H Q I h;refine wpAny_Call_method_late Xl qq Xm rfl (ym (ho Z s σ H _ I h) λv s1 z_=>?_);obtain⟨x,H1,I1,r1,ty,q1⟩:=z_;obtain⟨h1,h2⟩:=aqm I1 r1 ty;refine⟨T,id,pa,U,R,h1,h2,?_⟩;have hA:=ha G Z s1 σ H1 _ I1 q1;rw[hs] at hA ⊢;refine Calls.callWith_builtin (by show(false||(backTo G (starEach es X.env)).any (·.1))=false;rw[Zt]<;>rfl) (Calls.evalArgs_plain ?_);exact ym hA λus s2 ⟨vs,H2,I2,r2,q2⟩=>hm Z s2 σ H2 x vs v us Q I2 r1 r2 q2
end L2
namespace L2
open PySem PySem.Spec PyProof.Rows
def MtM(X:Cx)(id:String)(r:V->List V->Hp->VK->Prop):Prop :=
 ∀(Z:Zp)(s:Shared)(R:St)(H:Hp)(x:V)(G:List V)(v:Value)(U:Zl)(Q:VK),Inv X Z R H s->RelV x v->Vals G U->r x G H Q ->
  wpAny (model X.prog X.w) X.A (call (.builtin id) (v::U)) (EP X Z R Q) X.xe s
theorem Vals.one:∀{x:V}{Z:Zl},Vals [x] Z->∃u,Z=[u]/\RelV x u
 |_,_,.cons r .nil=>⟨_,rfl,r⟩
def Inv.avy{Z:Zl}(I:Inv X pins σ H s)(hH:H l=some (.lst xs))(e:s.heap.get? l=some { cls:=.type "list",data:=.seq Z.toArray n })(U:f Z.toArray=its'.toArray)(hv:Vals G its')(R:G.length<=sizeLine) :
 Inv X pins σ (upd H l (.lst G)) { s with heap:=s.heap.update l (Obj.mapSeq f),toks:=t' }:=by
 have q:=PySem.IsL.update e f;rw[U] at q;refine I.write (x:=l) (e:=l) (by rw[hH];exact trivial) (.inl rfl) (λb' u hb hu=>(Heap.get?_update_other s.heap (Obj.mapSeq f) (oh hb)).trans hu) ⟨_,q⟩ ?_;exact⟨R,its',_,hv,q⟩
def Inv.a0w(I:Inv X pins σ H s)(U:Vals Z G)(R:Z.length<=sizeLine) :
 Inv X pins σ (upd H s.heap.objs.size (.lst Z)) { s with heap:=s.heap.push { cls:=.type "list",data:=.seq G.toArray },toks:=t' } :=
 I.laid (λ_ _ q=>au _ q) (bc _) ⟨R,G,0,U,bj _ rfl⟩
theorem Inv.fresh(I:Inv X pins σ H s):H s.heap.objs.size=none:=I.zg.fresh (bc _)
def Inv.ahc(I:Inv X pins σ H s)(U:H l=some (.lst G)):G.length<=sizeLine/\∃(Z:Zl)(n:Nat),Vals G Z/\G.length=Z.length/\s.heap.get? l=some { cls:=.type "list",data:=.seq Z.toArray n }:=by obtain⟨z,Z,n,r,e⟩:=I.zg l _ U;exact⟨z,Z,n,r,r.length,e⟩
def ahd(h:n<=sizeLine):Builtin.List.listTooLong n=false:=by unfold Builtin.List.listTooLong;exact sy (j_ h)
def aky:V->List V->Hp->VK->Prop:=λx G H Q=>∃l Z y,x=.ref l/\G=[y]/\H l=some (.lst Z)/\Z.length<sizeLine/\Q .non (upd H l (.lst (Z++[y])))
def Ua:MtM X "list.append" aky:=by intro G s σ H x vs v us Q I rx rv h;obtain⟨l,xs,y,rfl,rfl,R,U,q⟩:=h;cases rx;obtain⟨u,rfl,ru⟩:=rv.one;obtain⟨z,Z,n,r,hl,e⟩:=I.ahc R;refine call_meets F.slot_list_append ⟨_,e,rfl⟩ F.entry_list_append (F.args_list_append_2 _ _) (PySem.list_append l Z.toArray n u (by rw[cz];exact e_ (c_ (g_ hl) U))) ⟨e,?_⟩;refine⟨.non,_,I.avy (its':=Z++[u]) R e (by simp) (r.append (.cons ru .nil)) ?_,rfl,q⟩;rw[jj,List.length_singleton];exact U
def akz:V->List V->Hp->VK->Prop:=λx U H Q=>∃l b Z G,x=.ref l/\U=[.ref b]/\H l=some (.lst Z)/\H b=some (.lst G)/\Z.length+G.length<=sizeLine/\Q .non (upd H l (.lst (Z++G)))
def ad3:MtM X "list.extend" akz:=by
 intro R s σ H x vs v us Q I rx rv h;obtain⟨l,b,xs,zs,rfl,rfl,hH,hB,hz,q⟩:=h;cases rx;obtain⟨u,rfl,ru⟩:=rv.one;cases ru;obtain⟨z,Z,n,r,hl,e⟩:=I.ahc hH;obtain⟨z2,G,n2,r2,qq,e2⟩:=I.ahc hB;have R8:Z.toArray.size+G.toArray.size<=sizeLine:=by rw[cz,cz];lia
 have U:¬(!Z.toArray.isEmpty&&Builtin.List.listTooLong (Z.toArray.size+G.toArray.size))=true:=by rw[ahd R8,Bool.and_false];exact g8
 refine call_meets F.slot_list_extend ⟨_,e,rfl⟩ F.entry_list_extend (F.args_list_extend_2 _ _)
  (AutoSeq1.list_extend_list_list_0 l Z.toArray n b G.toArray n2 U (by rw[cz];exact a_ (g_ hl) z) (a_ R8 x_)) ⟨e,e2,?_⟩
 refine⟨.non,_,I.avy (its':=Z++G) hH e (by simp) (r.append r2) ?_,rfl,q⟩;rw[jj];exact hz
def av0:R2:=λx y H Q=>∃l b G Z,x=.ref l/\y=.ref b/\H l=some (.lst G)/\H b=some (.lst Z)/\G.length+Z.length<=sizeLine/\∀p,H p=none->Q (.ref p) (upd H p (.lst (G++Z)))
def aqo:Ah X (binaryOp .Add) av0:=by
 intro G s σ H x y v u Q I rx ry h;obtain⟨l,b,xs,zs,rfl,rfl,hH,hB,hz,q⟩:=h;cases rx;cases ry;obtain⟨z,Z,n,r,hl,e⟩:=I.ahc hH;obtain⟨z2,U,n2,r2,R,e2⟩:=I.ahc hB;refine PySem.P.add_list e e2 ?_ (by rw[cz,cz];lia);have ea:Z.toArray++U.toArray=(Z++U).toArray:=by simp
 rw[ea];exact⟨.ref _,_,I.a0w (t':=s.toks) (r.append r2) (by rw[jj];exact hz),rfl,q _ I.fresh⟩
end L2
namespace Att
open PySem PySem.W PySem.Calls PyProof.Rows
def O2:∀(ns:X2)(Z:Zl),WellAll P h Z (ns.map WData.int)->IntsAre Z ns:=by
 intro ns
 induction ns with
 |nil =>
  intro Z w;rw[vg] at w;cases w;exact .nil
 |cons n ns G =>
  intro Z w;rw[d8] at w;cases w with
  |cons a b =>
   cases a;exact .cons _ _ (G _ b)
def ad4{l:OpenLaw}(hn:l.most=some n)(U:l.row.toRowW.claim.pre args=true)(qq:WellAll P h vals args) :
 ∃a vs Z,vals=[Value.ref a]/\args=[WData.list (Z.map WData.int)]/\h.get? a=some { cls:=.type "list",data:=.seq vs.toArray }/\IntsAre vs Z/\Z.length<=n:=by
 have qk:WShape.hasAll [] args [.list .int]=true:=(pre_splitW U).1;have hc:l.pre.holds [] { args:=args }=true:=(pre_splitW U).2;obtain⟨d,r,rfl,h1,h2⟩:=hasAllW_cons qk;obtain rfl:=hasAllW_nil h2;obtain⟨xs,rfl,h3⟩:=hasW_list h1;obtain⟨Z,rfl⟩:=items_int h3;have G:Z.length<=n:=by
  unfold OpenLaw.pre at hc;have h4:(WTm.not (.lt (.lit (.int (n:Int))) (.len (.arg 0)))).holds [] { args:=[.list (Z.map .int)] }=true:=by have h4:=(holds_andW hc).1;rw[hn] at h4;exact h4
  have R:=condW_of h4 (w_not (w_lt w_lit (w_len_list (w_arg rfl))));rw[bx] at R;refine Nat.le_of_not_lt λq=>?_
  have q':(n:Int)<((Z.length:Nat):Int):=m_ q
  first
   |(rw[decide_eq_true q'] at R;exact absurd R (by decide))
   |(simp at R;omega)
 cases qq with
 |cons w1 w2 =>
  cases w2;cases w1 with
  |list ho Jf=>exact⟨_,_,Z,rfl,rfl,ho,O2 Z _ Jf,G⟩
def ad5(l:OpenLaw)(Z:List WData):l.row.toRowW.claim.post Z (.bool true) Z=true :=
 postW_of (r:=l.row.toRowW) (X:=(true==true))
  (show WShape.has [] (.bool true) .bool=true by first|rfl|decide|simp[WShape.has,WShape.arms,WShape.armsAll])
  (show(WTm.eq .res (.lit (.bool true))).value [] { args:=Z,res:=some (.bool true),after:=Z }=some (.bool (true==true)) from w_eq_bool (w_res rfl) w_lit) rfl
def Xn{l:OpenLaw}(hn:l.most=some n)(q0:d.params.defaults=[])(call:∀(w:World) (U Z:Shared) (mg mb:Zs) (fa:Addr) (o:Obj) (pm cd qq:Value) (a:Addr) (vs:Zl) (ns:X2),
 Ground q loose [] XP w U mg mb Z.heap->YP w Z.heap ->
 Z.heap.get? fa=some o->o.data=.func (docDef d.name d.params d.body d.scope pm cd qq)->Z.heap.CodeRec cd d.name->mg d.name=some (.ref fa) ->
 Z.heap.get? a=some { cls:=.type "list",data:=.seq vs.toArray }->IntsAre vs ns->ns.length<=n->Z.gens=#[] ->
 codeAny (model l.prog w) callerA (.call (.ref fa) ⟨[.ref a],[]⟩) (λr s'=>r=.ok (.ret (.bool true))/\OldK Z.heap s'.heap/\s'.os=Z.os/\AllBare s'.gens) Z) :
 WalkO q loose XP YP l.row.toRowW d [] (λf vs=>PySem.call f vs):=by
 intro w U Z mg mb G Y fa o pm cd qq dV kV ho hd q4 hD q2 hg q5 vals as q3 q7 q6 qv zz;obtain rfl:dV=.none:=Dflts.none hD q0;obtain rfl:kV=.none:=Dflts.noKw hD;obtain⟨a,vs,ns,rfl,rfl,q1,R,qk⟩:=ad4 hn q3 qv;refine enter_call (codeAny_mono (call w U Z mg mb fa o pm cd qq a vs ns G Y ho (fd_plain hd) q4 q2 q1 R qk hg) λr s' hq=>?_);obtain⟨rfl,h2,h3,h4⟩:=hq;exact⟨.inl ⟨.bool true,.bool true,[],rfl,λ_=>rfl,.bool true,ad5 l _,λ_=>⟨List.Pairwise.nil,λ_ hm=>(nomatch hm)⟩⟩,h2,h3,h4⟩
end Att
namespace L2
open PySem PySem.Spec PyProof.Rows
theorem Ub:∀{Z:Zl}{G:X2},IntsAre Z G->Vals (G.map V.int) Z
 |_,_,.nil=>.nil|_,_,.cons n t h=>.cons ⟨t,rfl⟩ (Ub h)
def Only(H:Hp):Prop:=∀b,H b=none\/∃o Z,H b=some (.Hd o (.lst Z))
def ahe{K:Fg}(KX:K.In s₁.heap)(q0:s₁.heap.Ns mainGlobals mg)(Z:s₁.heap.Ns builtinsNs mb)(q4:∀x:Str,x≠"__name__" -> mb x=bootBuiltins x)(q5:s₁.heap.NoLimit)(hg:s₁.gens=#[])(ha:s₁.heap.get? a=some { cls:=.type "list",data:=.seq vs.toArray })(hi:IntsAre vs ns)(hl:ns.length<=sizeLine)(hr:yh k callerA)(F:∀G:Heap,K.In G->G.Ns mainGlobals mg->Jd P w K mg G CX k fa fd [x] sp)(zz:∀(s:Shared) (u:Value),BindsTo s fd ⟨[u],[]⟩ [(x,u)])(q3:∀H:Hp,Only H->Dm K H a (ns.map V.int)->sp [.ref a] H (λv _=>v=.bl true) λ_ _ _=>False)(q2:∀H e U,CX [] H s₁ (λ_ _ _=>False) e U->False) :
 codeAny (model P w) callerA (.call (.ref fa) ⟨[.ref a],[]⟩) (λr U=>r=.ok (.ret (.bool true))/\OldK s₁.heap U.heap/\U.os=s₁.os/\AllBare U.gens) s₁:=by
 have rv:=Ub hi;have q1:=hi.length;have qq:∀H:Hp,Only H->Dm K H a (ns.map V.int)->Mx P w H s₁.heap->(∀b,H b≠none->b=a)->(H a≠none->K.lookup a=none) ->
  codeAny (model P w) callerA (.call (.ref fa) ⟨[.ref a],[]⟩) (λr U=>r=.ok (.ret (.bool true))/\OldK s₁.heap U.heap/\U.os=s₁.os/\AllBare U.gens) s₁:=by
  intro H hO hS zg hA hK;have Ij:∀{b:Addr}{o:Obj},s₁.heap.get? b=some o->H b=none->(Vp s₁.heap H).get? b=some o:=λe n=>agl e n
  have q6:∀{b:Addr}{o:Obj}{es:Array DictEntry}{ep:Nat},s₁.heap.get? b=some o->o.data=.dict es ep->H b=none:=fun{b o es ep} e d=>by
   cases q:H b with
   |none=>rfl
   |some u =>
    have e':b=a:=hA b (by rw[q];simp);subst e';rw[ha] at e;cases e;have d':Data.seq vs.toArray _=Data.dict es ep:=d;cases d'
  have R:∀{b:Addr}{m:Zs},s₁.heap.Ns b m->(Vp s₁.heap H).Ns b m:=fun{b m} ⟨o,es,ep,e,d,r⟩=>⟨o,es,ep,Ij e (q6 e d),d,r⟩
  have qv:K.In (Vp s₁.heap H):=λb o e=>Ij (KX b o e) (by
   cases q:H b with
   |none=>rfl
   |some u =>
    have e':b=a:=hA b (by rw[q];simp);subst e';rw[hK (by rw[q];simp)] at e;cases e)
  have hM:Mod K mg (Vp s₁.heap H):=⟨qv,R q0,⟨mb,R Z,q4⟩,let ⟨mc,h1,h2⟩:=q5;⟨mc,R h1,h2⟩⟩;have e0:akm P w K mg (Vp s₁.heap H) callerA [] s₁ H:=⟨rfl,hM,λb o e=>aj8 e,Nat.le_of_eq (adq _ _),trivial,λb Z=>absurd (show b∈([]:X1) from Z) (by simp),zg,.of_eq hg⟩;refine codeAny_mono ((F _ qv (R q0)).run callerA [] s₁ H ⟨[.ref a],[]⟩ [.ref a] [.ref a] _ _ hr e0 (zz s₁ (.ref a)) (.cons rfl .nil) (q3 H hO hS)) λr U h=>?_
  cases r with
  |error e=>exact(q2 H e U h).elim
  |ok fl =>
   cases fl with
   |next=>exact False.elim h|brk=>exact False.elim h|cont=>exact False.elim h
   |ret u =>
    obtain⟨v,H',os,qk,un,q7,r',q⟩:=h;have q':v=.bl true:=q;subst q';obtain rfl:u=Value.bool true:=r';refine⟨rfl,OldK.of_keep λb o e=>?_,os,qk⟩;cases q:H b with
    |none=>exact un.keep b o e q (by intro z;exact absurd (show b∈([]:X1) from z) (by simp)) (by simp)
    |some u =>
     rcases hO b with z|⟨ob,xs,z⟩
     .rw[q] at z;cases z
     .have z2:=un.Vo b ob _ z
      obtain⟨e1,_⟩:=zg b _ z;obtain⟨e2,_⟩:=q7 b _ z2;rw[e] at e1;cases e1;exact e2
 cases hk:K.lookup a with
 |some o =>
  have e:=KX a o hk;rw[ha] at e;cases e;refine qq (λ_=>none) (λ_=>.inl rfl) (.inr ⟨_,vs.toArray,_,hk,rfl,rfl,rfl,by rw[cz,q1];exact hl,by simpa using rv⟩) (λb u z=>by have z':(none:Option HO)=some u:=z;cases z') (λb z=>absurd rfl z) λz=>absurd rfl z
 |none =>
  refine qq (λb=>if b=a then some (.Hd { cls:=.type "list",data:=.seq vs.toArray } (.lst (ns.map V.int))) else none) (λb=>?_) (.inl (.inr ⟨{ cls:=.type "list",data:=.seq vs.toArray },di rfl⟩)) (λb u z=>?_) (λb z=>?_) λ_=>hk
  .by_cases Z:b=a
   .exact .inr ⟨_,_,di Z⟩
   .exact .inl (fj Z)
  .by_cases Z:b=a
   .have z':=(di Z).symm.trans z
    cases z';subst Z;exact⟨ha,by rw[bx];exact hl,vs,_,rv,ha⟩
   .have z':=(fj Z).symm.trans z
    cases z'
  .by_cases Z:b=a
   .exact Z
   .exact absurd (fj Z) z
end L2
namespace L2
open PySem PySem.Spec PyProof.Rows
def ak1{l:PySem.W.OpenLaw}{K:Params->Fg}{CX:World->CXT}{sp:World->Sp}(hn:l.most=some n)(q3:n<=sizeLine)(qk:d.params.defaults=[])(hr:yh k callerA)(hY:∀(w:World) (h:Heap),YP w h->(K w.params).In h)(F:∀(w:World) (mg:Zs) (fa:Addr) (h:Heap),(K w.params).In h->h.Ns mainGlobals mg->mg d.name=some (.ref fa) ->
 ∃fd:FuncData,(∀(s:Shared) (u:Value),BindsTo s fd ⟨[u],[]⟩ [(x,u)]) /\
  ∀Z:Heap,(K w.params).In Z->Z.Ns mainGlobals mg->Jd l.prog w (K w.params) mg Z (CX w) k fa fd [x] (sp w))(q1:∀(w:World) (H:Hp) (a:Addr) (ns:X2),ns.length<=n->Only H->Dm (K w.params) H a (ns.map V.int)->sp w [.ref a] H (λv _=>v=.bl true) λ_ _ _=>False)(q0:∀(w:World) (H:Hp) (s:Shared) (e:Value) (s':Shared),CX w [] H s (λ_ _ _=>False) e s'->False) :
 PySem.W.WalkO q loose XP YP l.row.toRowW d [] (λf vs=>PySem.call f vs):=by
 refine Att.Xn hn qk λw q4 qq mg mb fa o pm cd q5 a vs ns G Y ho hd q6 q2 qv R U hg=>?_
 have KX:=hY w _ Y;obtain⟨fd,hb,hF⟩:=F w mg fa _ KX G.T.g q2;exact ahe KX G.T.g G.T.b G.T.builtins G.T.nolimit hg qv R (bf U q3) hr hF hb (λH hO hS=>q1 w H a ns U hO hS) λH e s'=>q0 w H qq e s'
end L2
namespace L2
open PySem PySem.Spec PyProof.Rows
noncomputable def Gg(s:Stmt):Arguments:=match s with
 |.FunctionDef _ a _ _ _ _ _ _ _ _=>a|_=>{ posonlyargs:=[],args:=[],vararg:=none,kwonlyargs:=[],kw_defaults:=[],kwarg:=none,defaults:=[] }
noncomputable def De(s:Stmt):List Stmt:=match s with
 |.FunctionDef _ _ b _ _ _ _ _ _ _=>b|_=>[]
noncomputable def wg(s:Stmt):Scope:=match s with
 |.FunctionDef _ _ _ _ _ _ sc _ _ _=>sc|_=>{ kind:=.function,names:=[],isGenerator:=false,isCoroutine:=false }
abbrev CX0:CXT:=λ_ _ _ _ _ _=>False
abbrev E0:XK:=λ_ _ _=>False
def av4:Passes CX0 X E0:=λ_ _ _ _ _ _ _ h=>h.elim
structure Fun(K:Fg)(x qual:Str)(st:Stmt)(f:Addr)(fd:FuncData):Prop where
 ex:∃(oc:Value)(od:Option Addr)(kV doc pm:Value)(an:Option Addr)(cdv ct:Value)(osl:Array (Option Value)),
  fd=PySem.W.fnOf x qual (Gg st) (De st) (wg st) .none kV doc pm an cdv ct/\K.lookup f=some ⟨oc,od,.func fd,osl⟩/\PySem.W.codeIn K cdv qual=true
 kp:PySem.W.keepIn K (.ref f)=true
def Fun.ok{K:Fg}{R:Stmt}(F:Fun K x qual R f fd)(S:Ph N ps (wg R))(len:∀U H Q E,sp U H Q E->U.length=ps.length)(qk:∀(G:Value) (A:Around) (Z:List Env) (s:Shared) (H:Hp) (U:List V) (Q:VK) (E:XK),yh k (A.deeper (envOfC qual (wg R) s.heap.objs.size f G))->sp U H Q E ->
 ∃t,Ml (Zn CX0 P w K mg base N qual (wg R) f G A Z s H E).nox (De R) t/\t { nx:=λ_ H'=>Q .non H',rt:=Q } (start N U) H):Jd P w K mg base CX0 (k+1) f fd ps sp:=by
 obtain⟨oc,od,kV,q1,pm,an,G,ct,q0,rfl,lk,qv⟩:=F.ex;refine avj lk qv S len λA Z s H U Q E hr qq=>?_
 obtain⟨t,h,q⟩:=qk G A Z s H U Q E hr qq;exact⟨t,h.nox,q⟩
def Fun.binds{K:Fg}{U:Stmt}(F:Fun K x qual U f fd)(h:∀(kV Z pm:Value) (R:Option Addr) (G ct:Value) (us:Zl),us.length=ps.length->bindArgs (PySem.W.fnOf x qual (Gg U) (De U) (wg U) .none kV Z pm R G ct) ⟨us,[]⟩=pure (ps.zip us)):Binds K fd ps []:=by obtain⟨oc,od,kV,Z,pm,R,G,ct,qq,rfl,lk,qk⟩:=F.ex;exact .all (h kV Z pm R G ct)
def ahf{K:Fg}{U:Stmt}{f:Addr}{oc:Value}{od an:Option Addr}{R:Array (Option Value)}{kV G pm Z ct:Value}(l:K.lookup f=some ⟨oc,od,.func (PySem.W.fnOf x qual (Gg U) (De U) (wg U) .none kV G pm an Z ct),R⟩)(c:PySem.W.codeIn K Z qual=true)(k:PySem.W.keepIn K (.ref f)=true):Fun K x qual U f (PySem.W.fnOf x qual (Gg U) (De U) (wg U) .none kV G pm an Z ct):=⟨⟨oc,od,kV,G,pm,an,Z,ct,R,rfl,l,c⟩,k⟩
def av5{A:Around}{k:Nat}(Z:yh k A):A.units+1<cLine:=Nat.lt_of_le_of_lt (Nat.add_le_add_left (by decide:1<=64) _) Z.units
end L2
namespace L2
open PySem PySem.Spec PyProof.Rows
noncomputable def Hm(cells:X9):List (Str×NameKind)->List (Str×Addr)->List (Str×Addr)
 |[],cs=>cs|(n,k)::r,cs=>Hm cells r (if k==.free then(n,(cells.lookup n).getD 0)::cs else cs)
theorem Oh{G Z:Type}{f:G->Z->Sem (ForInStep Z)}{g:G->Z->Z}:∀{l:List G}(c:Z),(∀x∈l,∀c,f x c=pure (.yield (g x c)))->forIn l c f=pure (l.foldl (λc x=>g x c) c)
 |[],c,_=>rfl
 |x::l,c,h=>by
  rw[List.forIn_cons,h x bz,pure_bind];exact Oh (g x c) λy U=>h y (bu _ U)
theorem Oi(cells:X9):∀(l:X0)(Z:X9),Hm cells l Z=l.foldl (λc x=>if x.2==.free then(x.1,(cells.lookup x.1).getD 0)::c else c) Z
 |[],_=>rfl|(n,k)::r,Z=>Oi cells r _
def Ra(h:∀y∈scope.names,y.2=.free->∃c,env.cells.lookup y.1=some c):closureFor scope env=pure (Hm env.cells scope.names []):=by
 simp only[closureFor];rw[Oh (g:=λx c=>if x.2==.free then(x.1,(env.cells.lookup x.1).getD 0)::c else c) [] (λx U c=>by
  obtain⟨n,k⟩:=x
  by_cases G:k=.free
  .subst G
   obtain⟨c',Z⟩:=h (n,.free) U rfl;have Z:env.cells.lookup n=some c':=Z;simp[cellOf,Z]
  .have R:(k==NameKind.free)=false:=by simpa using G
   simp[R]),Oi]
 rfl
theorem Xo(cells:X9):∀(l:X0)(Z:X9)(x:Str)(c:Addr),(∀y∈l,y.2=.free->∃c,cells.lookup y.1=some c)->(Hm cells l Z).lookup x=some c ->
 Z.lookup x=some c\/cells.lookup x=some c
 |[],Z,x,c,_,h=>.inl h
 |(n,k)::r,Z,x,c,hy,h=>by
  rcases Xo cells r _ x c (λz R=>hy z (bu _ R)) h with q|q
  .by_cases U:k=.free
   .subst U
    simp only[beq_self_eq_true,iu,o7] at q;cases e:x==n with
    |true =>
     rw[e] at q;obtain⟨c',G⟩:=hy (n,.free) bz rfl;have G:cells.lookup n=some c':=G;simp only[G,Option.getD_some,Option.some.injEq] at q;subst q;rw[eq_of_beq e];exact .inr G
    |false=>rw[e] at q;exact .inl q
   .have hb:(k==NameKind.free)=false:=by simpa using U
    simp only[hb,du,ig] at q;exact .inl q
  .exact .inr q
theorem Rb(cells:X9):∀(l:X0)(Z:X9)(x:Str),(∃c,Z.lookup x=some c)->∃c,(Hm cells l Z).lookup x=some c
 |[],Z,x,h=>h
 |(n,k)::r,Z,x,h=>by
  refine Rb cells r _ x ?_
  by_cases G:(k==NameKind.free)=true
  .rw[di G,o7]
   cases e:x==n with
   |true=>exact⟨_,rfl⟩|false=>exact h
  .rw[fj G];exact h
theorem Nk(cells:X9):∀(l:X0)(Z:X9)(x:Str),(x,NameKind.free)∈l->∃c,(Hm cells l Z).lookup x=some c
 |(n,k)::r,Z,x,h=>by
  rcases cg.mp h with q|q
  .obtain⟨rfl,rfl⟩:=Prod.mk.inj q
   refine Rb cells r _ x ⟨(cells.lookup x).getD 0,?_⟩;rw[di (by simp),o7,beq_self_eq_true]
  .exact Nk cells r _ x q
theorem J1{Z:Env}:∀{G:X0}{x:Str},
 (G.map λ(y:Str×NameKind)=>if(y.2==NameKind.free&&Z.scope.kind==.function&&Z.kindOf y.1==some .cell) then(y.1,NameKind.cell) else(y.1,y.2)).lookup x
  = (G.lookup x).map λk=>if(k==NameKind.free&&Z.scope.kind==.function&&Z.kindOf x==some .cell) then NameKind.cell else k
 |[],_=>rfl
 |(n,k)::r,x=>by
  have R:=@J1 Z r x;rw[d8];cases hx:x==n with
  |true =>
   have e:=eq_of_beq hx;subst e;clear hx
   by_cases U:(k==NameKind.free&&Z.scope.kind==.function&&Z.kindOf x==some .cell)=true
   .simp only[U,iu,o7,beq_self_eq_true,ou]
   .have hb:(k==NameKind.free&&Z.scope.kind==.function&&Z.kindOf x==some .cell)=false:=by simpa using U
    simp only[hb,du,ig,o7,beq_self_eq_true,ou]
  |false =>
   by_cases U:(k==NameKind.free&&Z.scope.kind==.function&&Z.kindOf n==some .cell)=true
   .simp only[U,iu,o7,hx];exact R
   .simp only[U,o7,hx];simpa[o7,hx] using R
theorem mem_of_lookup{Z G:Type}[BEq Z][LawfulBEq Z]:∀{l:List (Z×G)}{x:Z}{y:G},l.lookup x=some y->(x,y)∈l
 |(a,b)::r,x,y,h=>by
  rw[o7] at h;cases e:x==a with
  |true=>rw[e] at h;cases h;rw[eq_of_beq e];exact bz|false=>rw[e] at h;exact bu _ (mem_of_lookup h)
def Je(X:Cx)(N:Yf)(Z:Scope)(C:Addr)(G:X1)(s:Shared)(H:Hp):Cx where
 prog:=X.prog
 w:=X.w
 K:=X.K
 mg:=X.mg
 base:=X.base
 A:=X.A
 N:=N
 s₀:=s
 H₀:=H
 env:=compEnvC Z (Hm X.env.cells Z.names []) C X.env
 outer:=X.stack
 stack:=X.stack
 ex:=G
 fn:=λ_=>false
 calm:=X.calm
 pn:=[]
 xe:=λ_ _=>False
structure Eb(X:Cx)(N:Yf)(scope:Scope):Prop where
 kind:scope.kind=.function
 ahg:∀y∈scope.names,y.2≠.cell
 locs:∀y∈scope.names,y.2=.local->scope.names.lookup y.1=some .local
 frees:∀y∈scope.names,y.2=.free->X.env.kindOf y.1=some .cell\/X.env.kindOf y.1=some .free
 uniq:∀x k,(x,k)∈scope.names->scope.names.lookup x=some k
 long:X.N.length<=N.length
 vis:∀i x,i<X.N.length->N[i]?=some x->Vis (relabel scope X.env) x->X.N[i]?=some x/\scope.names.lookup x=some .free
theorem Eb.cells(B:Eb X N scope)(ok:X.Ok):∀y∈scope.names,y.2=.free->∃c,X.env.cells.lookup y.1=some c:=λy Z G=>ok.has y.1 (B.frees y Z G)
def Eb.clos(B:Eb X N scope)(ok:X.Ok):closureFor scope X.env=pure (Hm X.env.cells scope.names []):=Ra (B.cells ok)
def Eb.inCells(B:Eb X N scope)(ok:X.Ok)(h:(Hm X.env.cells scope.names []).lookup x=some c):X.env.cells.lookup x=some c:=by
 rcases Xo _ _ _ _ _ (B.cells ok) h with q|q
 .simp at q
 .exact q
def Xp{X:Cx}(x:Str):(compEnvC scope cl C X.env).kindOf x=(scope.names.lookup x).map λk=>if(k==NameKind.free&&X.env.scope.kind==.function&&X.env.kindOf x==some .cell) then NameKind.cell else k:=by show(relabel scope X.env).names.lookup x=_;exact J1
def ad6(B:Eb X N scope)(I:Inv X pins σ H s)(hf:∀b∈fp,Oz X pins H b)(qk:∀b∈fp,∃o,s.heap.get? b=some o)(q2:R.Ns (s.heap.objs.size+1) λ_=>none)(hk:∀b o,s.heap.get? b=some o->R.get? b=some o)(Zu:R.get? s.heap.objs.size=some { cls:=.type "list",data:=.seq ([]:Zl).toArray }) :
 Inv (Je X N scope (s.heap.objs.size+1) fp s H) [] (σ++List.replicate (N.length-X.N.length) none) (upd H s.heap.objs.size (.lst [])) { s with heap:=R,toks:=t }:=by
 have ok:=I.ok;have hD:H s.heap.objs.size=none:=I.zg.fresh (bc _);have hC:H (s.heap.objs.size+1)=none:=I.zg.fresh (o8 _);have q1:s.heap.objs.size+1≠s.heap.objs.size:=Nat.succ_ne_self _;have lt:∀b∈fp,b<s.heap.objs.size:=λb hb=>by obtain⟨o,e⟩:=qk b hb;exact az e
 have qv:∀x c,X.env.cells.lookup x=some c->c<s.heap.objs.size:=λx c e=>by obtain⟨v,o,ho,_⟩:=I.cell x c e;exact az ho
 refine⟨⟨ok.mod,B.kind,ok.glob,ok.blt,o8 _,?_,?_,?_,ok.hd,ok.frames,.inl rfl,?_,λb o e=>I.bs b o e,bf ok.bsz I.sz,?_,?_,I.stack,I.abl⟩,rfl,I.bare,?_,?_,?_,?_,?_,?_,?_,?_⟩
 .intro x y c U hy
  exact ok.inj x y c (B.inCells ok U) (B.inCells ok hy)
 .intro x U
  rw[show(Je X N scope (s.heap.objs.size+1) fp s H).env.kindOf x=_ from Xp x] at U;cases e:scope.names.lookup x with
  |none=>rw[e] at U;rcases U with q|q<;>simp at q
  |some k =>
   have Oe:k=.free:=by
    rw[e] at U;cases k with
    |free=>rfl|cell=>exact absurd rfl (B.ahg _ (mem_of_lookup e))|«local»=>rcases U with q|q<;>simp at q
    |globalExplicit=>rcases U with q|q<;>simp at q
    |globalImplicit=>rcases U with q|q<;>simp at q
   subst Oe;exact Nk _ _ _ _ (mem_of_lookup e)
 .intro x c h;cases h
 .intro b hb
  refine⟨λe=>?_,λx c hc e=>?_⟩
  .have q:=lt b hb
   have e:b=s.heap.objs.size+1:=e;rw[e] at q;exact absurd q (Nat.not_lt.mpr (o8 _))
  .obtain⟨_,_,_,_,f4,_⟩:=hf b hb
   exact f4 x c (B.inCells ok hc) e
 .intro b o e hb
  obtain⟨_,_,_,f3,_⟩:=hf b hb;rcases f3 with q|q
  .exact ok.agn b o e q
  .exact m5 _ (fu (az e) (bf ok.bsz q))
 .intro b hb q
  obtain⟨_,f1,f2,_⟩:=hf b hb;rcases cg.mp (I.Vq b q) with z|z
  .exact f1 z
  .exact f2 z
 .exact Un.laid hk (bc _) hD
 .refine⟨_,q2,λi x v hN Z hv=>?_⟩
  have hi:i<X.N.length:=by
   rcases iw i σ.length with q|q
   .rw[I.len] at q;exact q
   .rw[m9 q] at Z
    rw[List.getElem?_replicate] at Z;split at Z<;>simp at Z
  rw[d9 (by rw[I.len];exact hi)] at Z;obtain⟨U,Oe⟩:=B.vis i x hi hN hv;obtain⟨m,_,hl⟩:=I.loc;have qq:=B.frees _ (mem_of_lookup Oe) rfl;have q0:Vis X.env.scope x:=by
   rcases qq with q|q
   .exact .inr (.inl q)
   .exact .inr (.inr q)
  obtain⟨u,ru,lu⟩:=hl i x v U Z q0;refine⟨u,ru,.inr ⟨?_,?_⟩⟩
  .rw[show(Je X N scope (s.heap.objs.size+1) fp s H).env.kindOf x=_ from Xp x,Oe]
   simp only[ou];split
   .exact .inl rfl
   .exact .inr rfl
  .rcases lu with⟨q,_⟩|⟨_,c,hc,ic⟩
   .rcases qq with z|z<;>rw[q] at z<;>cases z
   .obtain⟨c',G⟩:=Nk X.env.cells scope.names [] x (mem_of_lookup Oe)
    have:=B.inCells ok G;rw[hc] at this;cases this;exact⟨c,G,ic.keeps hk⟩
 .intro x c hc
  obtain⟨v,iv⟩:=I.cell x c (B.inCells ok hc);exact⟨v,iv.keeps hk⟩
 .show upd H s.heap.objs.size (.lst []) (s.heap.objs.size+1)=none
  rw[j6 q1];exact hC
 .intro x c hc
  have G:=B.inCells ok hc;rw[j6 (gh (qv x c G))];exact I.Jy x c G
 .intro p hp;simp[Je] at hp
 .exact Mx.laid I.zg hk (bc _) ⟨gn _,[],0,.nil,Zu⟩
 .show(σ++List.replicate (N.length-X.N.length) none).length=N.length
  rw[jj,List.length_replicate,I.len];have:=B.long;omega
def J2(I:Nat->Shared->Prop)(q5:∀n s,I n s->wpAny (model prog w) A (pyNext it) (λr Z=>match r with
 |none=>R (.ok .next) Z
 | some v=>wpAny (model prog w) A (letOwnedTupleGo target it v) (λ_ U=>wpAny (model prog w) A (assign target env v) (λ_ q2 =>
  wpAny (model prog w) A (forIn ifs true λc r=>if r=true then do let ok <- isTrue c env (eval c env);pure (ForInStep.yield ok) else pure (ForInStep.yield r)) (λok qq =>
   if ok=true then wpAny (model prog w) A (eval elt env) (λx qk =>
    wpAny (model prog w) A (call (.builtin "list.append") [acc,x]) (λ_ q0=>∃m,m<n/\I m q0) (λ_ _=>False) qk) (λ_ _=>False) qq
   else ∃m,m<n/\I m qq) (λ_ _=>False) q2) (λ_ _=>False) U) (λ_ _=>False) Z) (λ_ _=>False) s)(n:Nat)(h:I n s) :
 codeAny (model prog w) A (.compLoop (.ListComp elt [⟨target,iter,ifs,0⟩] scope pos) 0 it acc env) R s:=by
 have nv:∀{α:Type}{t:Sem α}{Q:α->Shared->Prop}{E:Y1}{s:Shared},wpAny (model prog w) A t Q (λ_ _=>False) s->wpAny (model prog w) A t Q E s:=λh=>j4 h (λ_ _ q=>q) λ_ _ f=>f.elim
 refine codeAny_loop rfl I (λn s hI=>?_) n h;show wpAny _ A ((compTurn (.ListComp elt [⟨target,iter,ifs,0⟩] scope pos) 0 it acc env).onRaise (λx=>do noteFrame x env;theTreesLotGoes x)) _ _ s;refine wpAny_noted ?_;rw[compTurn_list];refine aa (wpAny_standAt (aa (j4 (q5 n s hI) (λr Z q1=>?_) λ_ _ G=>G.elim)));cases r with
 |none=>exact aj q1
 |some v =>
  refine aa (j4 q1 (λ_ U q3=>?_) λ_ _ G=>G.elim);refine aa (j4 q3 (λ_ q2 q4=>aa (j4 q4 (λok qq qv=>?_) λ_ _ G=>G.elim)) λ_ _ G=>G.elim);cases ok with
  |false=>exact aj ⟨rfl,qv⟩
  |true =>
   exact aa (aa (j4 qv (λx qk q7=>aa (j4 q7 (λ_ q0 q6=>aj (aj ⟨rfl,q6⟩)) λ_ _ G=>G.elim)) λ_ _ G=>G.elim))
def Xq(k:Nat)(wi:TI)(g:TG)(tc:TT)(te:TE):TE:=λU H Q=>wi U H λJ H1=>∀D,H1 D=none->∃W:Nat->Nat->Hp->Prop,(∃m,W 0 m (upd H1 D (.lst [])))/\∀i m H,W i m H ->
 (J.stop i H/\Q (.ref D) H)\/(J.go i H/\∀x H',J.yld i H x H'->g x (U++List.replicate k none) H' λZ H2=>Z.length=(U++List.replicate k none).length /\
  (∀(j:Nat) v,(U++List.replicate k none)[j]?=some (some v)->Z[j]?=some (some v))/\tc Z H2 λb H3 =>
   if b=true then te Z H3 λv H4=>∃R G,H4 D=some (.lst R)/\R.length<sizeLine/\G<m/\W (i+1) G (upd H4 D (.lst (R++[v]))) else ∃G,G<m/\W (i+1) G H3)
def PTs(X:Cx)(Z:Ya)(G:TT):Prop:=(Z=[]/\G=λ_ H Q=>Q true H)\/∃c,Z=[c]/\PT X c G
def Uc(I:Inv X pins σ H s)(Z:∀b∈fp,Oz X pins H b)(J:Inv (Je X N scope (s.heap.objs.size+1) fp s H) [] G H3 s3):Inv X pins σ H3 s3/\∃m,s3.heap.Ns (s.heap.objs.size+1) m:=by
 refine⟨I.call' J.os J.base J.zg J.bare λb hb=>?_,?_⟩
 .obtain⟨_,R,_,f3,f4,f5⟩:=Z b hb
  exact⟨f3,R,f4,f5⟩
 .obtain⟨m,U,_⟩:=J.loc
  exact⟨m,U⟩
def ad7(I:Inv X pins σ H s)(I3:Inv X pins σ G s3)(hC:G (s.heap.objs.size+1)=none)(U:Heap.SameBut (s.heap.objs.size+1) s3.heap h'):Inv X pins σ G { s3 with heap:=h' }:=by
 have big:∀b o,s.heap.get? b=some o->b≠s.heap.objs.size+1:=λb o e z=>by have:=az e;rw[z] at this;exact absurd this (Nat.not_lt.mpr (o8 _))
 refine I3.turned (t':=s3.toks) (λb o hb e=>U.extBut b o hb e) hC ?_ (.inr (bf I.sz (o8 _))) ?_ ?_
 .intro e
  obtain⟨m,⟨o,_,_,Z,_⟩,_⟩:=I.loc;exact big _ o Z e.symm
 .intro x c hc
  obtain⟨v,o,Z,_⟩:=I.cell x c hc;exact big c o Z
 .intro p R
  exact big p.1 p.2 (I.pin p R).1
def Rc{RR:Value->Addr->Result->Shared->Prop}(B:Eb X N scope)(Gh:X.calm=true)(I:Inv X pins σ H s)(hf:∀b∈G,Oz X pins H b)(T:Turn X.prog X.w X.K tg J G it tn)(h0:tn 0 s.heap)(hg:∀C s H,PG (Je X N scope C G s H) tg g)(hc:∀C s H,PTs (Je X N scope C G s H) ifs tc)(he:∀C s H,PE (Je X N scope C G s H) elt te){Q:VK}(W:Nat->Nat->Hp->Prop)(w0:W 0 m0 (upd H s.heap.objs.size (.lst [])))(zg:∀i m H,W i m H->(J.stop i H/\Q (.ref s.heap.objs.size) H)\/(J.go i H/\∀x H',J.yld i H x H'->g x (σ++List.replicate (N.length-X.N.length) none) H' λq1 H2=>q1.length=(σ++List.replicate (N.length-X.N.length) none).length /\
 (∀(j:Nat) v,(σ++List.replicate (N.length-X.N.length) none)[j]?=some (some v)->q1[j]?=some (some v))/\tc q1 H2 λb H3 =>
  if b=true then te q1 H3 λv H4=>∃xs R,H4 s.heap.objs.size=some (.lst xs)/\xs.length<sizeLine/\R<m/\W (i+1) R (upd H4 s.heap.objs.size (.lst (xs++[v]))) else ∃R,R<m/\W (i+1) R H3))(z8:∀z3 H3 s3,Inv (Je X N scope (s.heap.objs.size+1) G s H) [] z3 H3 s3->Q (.ref s.heap.objs.size) H3->RR (.ref s.heap.objs.size) (s.heap.objs.size+1) (.ok .next) s3) :
 wpAny (model X.prog X.w) X.A (newList []) (λz0 z1=>wpAny (model X.prog X.w) X.A (newFunctionEnv scope X.env.globals (Hm X.env.cells scope.names []) [] X.env.qual none .none (some X.env)) (λq3 z5 =>
  codeAny (model X.prog X.w) X.A (.compStart (.ListComp elt [⟨tg,iter,ifs,0⟩] scope pos) 0 (.ref it) z0 { q3 with scope:=relabel scope X.env }) (RR z0 q3.locals) z5) E z1) E s:=by
 refine jq (wpAny_newFunctionEnv B.ahg (by intro y hy;simp at hy) (λq0 U Z=>?_) B.kind);dsimp only at U Z ⊢;have R8:(s.heap.push { cls:=.type "list",dict:=none,data:=.seq ([]:Zl).toArray }).objs.size=s.heap.objs.size+1:=jy _ _;rw[R8] at U Z;have zz:∀b o,s.heap.get? b=some o->q0.get? b=some o:=λb o e=>Z.extBut b o (λz=>absurd (az e) (by rw[z];exact Nat.not_lt.mpr (o8 _))) (au _ (au _ e))
 have Zu:q0.get? s.heap.objs.size=some { cls:=.type "list",data:=.seq ([]:Zl).toArray }:=Z.extBut _ _ (gh (ur _)) (au _ (bj _ rfl));have q5:∀b∈G,∃o,s.heap.get? b=some o:=λb hb=>let ⟨o,e,_⟩:=T.obj 0 _ h0 b hb;⟨o,e⟩
 have I0:=ad6 (t:=s.toks+([]:List (Str×Value)).length) B I hf q5 U zz Zu;have Zj:∀{H':Hp},(∀b∈G,H' b=none)->∀b∈G,Oz (Je X N scope (s.heap.objs.size+1) G s H) [] H' b:=λhn b hb=>by
  obtain⟨f0,f1,f2,f3,f4,f5⟩:=hf b hb;refine⟨hn b hb,?_,?_,.inl hb,?_,λp hp=>(by simp[Je] at hp)⟩
  .intro z
   obtain⟨o,e⟩:=q5 b hb;have:=az e;rw[show b=s.heap.objs.size+1 from z] at this;exact absurd this (Nat.not_lt.mpr (o8 _))
  .intro q
   rcases cg.mp (I.Vq b q) with z|z
   .exact f1 z
   .exact f2 z
  .intro x c hc
   exact f4 x c (B.inCells I.ok hc)
 have z9:∀b∈G,upd H s.heap.objs.size (.lst []) b=none:=λb hb=>by obtain⟨o,e⟩:=q5 b hb;rw[j6 (gh (az e))];exact(hf b hb).1
 have q2:∀s':Shared,s'={ s with heap:=q0,toks:=s.toks+([]:List (Str×Value)).length }->codeAny (model X.prog X.w) X.A (.compLoop (.ListComp elt [⟨tg,iter,ifs,0⟩] scope pos) 0 (.ref it) (.ref s.heap.objs.size) (compEnvC scope (Hm X.env.cells scope.names []) (s.heap.objs.size+1) X.env))
  (RR (.ref s.heap.objs.size) (s.heap.objs.size+1)) s':=by
  rintro s' rfl;refine J2 (λn s'=>∃i qk H',Inv (Je X N scope (s.heap.objs.size+1) G s H) [] qk H' s'/\(∀(j:Nat) v,(σ++List.replicate (N.length-X.N.length) none)[j]?=some (some v)->qk[j]?=some (some v))/\tn i s'.heap/\(∀b∈G,H' b=none)/\W i n H') ?_ m0
   ⟨0,_,_,I0,λ_ _ z=>z,T.keep 0 _ _ h0 (λb _ o e=>zz b o e),z9,w0⟩
  rintro n s3 ⟨i,z3,H3,I3,k3,zw,zv,w3⟩;have z4:=I3.weak (σ':=σ++List.replicate (N.length-X.N.length) none) (by rw[I3.len];exact I0.len) k3;rcases zg i n H3 w3 with⟨z2,qn⟩|⟨go,step⟩
  .refine ym (T.done (Je X N scope (s.heap.objs.size+1) G s H) rfl rfl rfl Gh i [] s3 _ H3 (λ_ _=>False) z4 (Zj zv) zw z2) λr s4 z_=>?_
   obtain⟨hr,I4⟩:=z_;subst hr;exact z8 _ _ _ I4 qn
  .refine ym (T.item (Je X N scope (s.heap.objs.size+1) G s H) rfl rfl rfl Gh i [] s3 _ H3 (λ_ _=>False) z4 (Zj zv) zw go) λr s4 z_=>?_
   obtain⟨u,hr,h4⟩:=z_;subst hr;refine ym h4 λ_ s5 z_=>?_
   obtain⟨x,H5,I5,r5,y5,zk,z6⟩:=z_;have yy:=I5.pinned (Zj z6) (T.obj _ _ zk);refine ym (hg _ _ _ _ s5 _ H5 x u _ yy r5 (step x H5 y5)) λ_ s6 z_=>?_
   obtain⟨qq,H6,I6,l6,k6,q6⟩:=z_;have qv:∀{abm:Zp}{H7:Hp}{s7:Shared}{m:Nat},Inv (Je X N scope (s.heap.objs.size+1) G s H) ([]++Ni G s5.heap) qq H7 s7->m<n->W (i+1) m H7 ->
    ∃m,m<n/\∃i qk H',Inv (Je X N scope (s.heap.objs.size+1) G s H) [] qk H' s7/\(∀(j:Nat) v,(σ++List.replicate (N.length-X.N.length) none)[j]?=some (some v)->qk[j]?=some (some v))/\tn i s7.heap/\(∀b∈G,H' b=none)/\W i m H':=fun{_ H7 s7 m} I7 hm w7=>by
    refine⟨m,hm,i+1,qq,H7,I7.J0,k6,T.keep _ _ _ zk λb hb o e=>(I7.pin (b,o) (gb _ (gb _ (Ii hb e)))).1,λb hb=>?_,w7⟩;obtain⟨o,e,d⟩:=T.obj _ _ zk b hb;exact(I7.pin (b,o) (gb _ (gb _ (Ii hb e)))).2.1
   have q4:wpAny (model X.prog X.w) X.A (forIn ifs true λc r=>if r=true then do let ok <- isTrue c (compEnvC scope (Hm X.env.cells scope.names []) (s.heap.objs.size+1) X.env) (eval c (compEnvC scope (Hm X.env.cells scope.names []) (s.heap.objs.size+1) X.env));pure (ForInStep.yield ok) else pure (ForInStep.yield r))
    (TP (Je X N scope (s.heap.objs.size+1) G s H) ([]++Ni G s5.heap) qq λb H3 =>
     if b=true then te qq H3 λv H4=>∃xs R,H4 s.heap.objs.size=some (.lst xs)/\xs.length<sizeLine/\R<n/\W (i+1) R (upd H4 s.heap.objs.size (.lst (xs++[v]))) else ∃R,R<n/\W (i+1) R H3) (λ_ _=>False) s6:=by
    rcases hc (s.heap.objs.size+1) s H with⟨rfl,rfl⟩|⟨c,rfl,z7⟩
    .exact wpAny_tests_nil ⟨H6,I6,q6⟩
    .exact wpAny_tests_one (z7 _ s6 qq H6 _ I6 q6)
   refine ym q4 λok s7 z_=>?_
   obtain⟨H7,I7,q7⟩:=z_;cases ok with
   |false =>
    obtain⟨R,hm,w7⟩:=(show ∃R,R<n/\W (i+1) R H7 from q7);exact qv (abm:=[]) I7 hm w7
   |true =>
    show wpAny _ _ _ _ _ _;refine ym (he _ _ _ _ s7 qq H7 _ I7 q7) λx s8 z_=>?_
    obtain⟨v,H8,I8,r8,xs,R,hD,hl,hm,w8⟩:=z_;refine ym (Ua _ s8 qq H8 (.ref s.heap.objs.size) [v] (.ref s.heap.objs.size) [x] (λ_ H'=>W (i+1) R H') I8 rfl (.cons r8 .nil) ⟨_,xs,v,rfl,rfl,hD,hl,w8⟩) λ_ s9 z_=>?_
    obtain⟨_,H9,I9,_,w9⟩:=z_;exact qv (abm:=[]) I9 hm w9
 rw[R8];exact codeAny_compStart_list (q2 _ rfl) (T.self _ 0 _ _ _ (T.keep 0 _ _ h0 (λb _ o e=>zz b o e)) (q2 _ rfl))
def ab0(B:Eb X N scope)(Gh:X.calm=true)(hi:PI X tg iter wi)(hg:∀C Z s H,PG (Je X N scope C Z s H) tg g)(hc:∀C Z s H,PTs (Je X N scope C Z s H) ifs tc)(he:∀C Z s H,PE (Je X N scope C Z s H) elt te)(hs:∀x,foldedSetIterable iter X.env x=pure x):PE X (.ListComp elt [⟨tg,iter,ifs,0⟩] scope pos) (Xq (N.length-X.N.length) wi g tc te):=by intro G s σ H Q I h;rw[eval_ListComp];refine wpAny_comprehension_free (use:=none) rfl hs (B.clos I.ok) B.kind B.locs (ym (hi G s σ H _ I h) λv s1 h1=>ym h1 λq1 s2 h2=>?_);obtain⟨it,Z,tn,J,H2,rfl,R,T,qk,f2,q2⟩:=h2;obtain⟨W,⟨m0,w0⟩,U⟩:=q2 s2.heap.objs.size (R.zg.fresh (bc _));refine Rc (RR:=λqq C=>compPost (model X.prog X.w) X.A X.xe none (EP X G σ Q) qq C) B Gh R f2 T qk (λC s H=>hg C Z s H) (λC s H=>hc C Z s H) (λC s H=>he C Z s H) W w0 U ?_;intro q0 H3 s3 I3 q3;obtain⟨J3,m,hn⟩:=Uc R f2 I3;exact⟨m,hn,λh' qv=>⟨.ref s2.heap.objs.size,H3,ad7 R J3 I3.free qv,rfl,q3⟩⟩
set_option tactic.hygienic true in
def ab1(B:Eb X N scope)(Gh:X.calm=true)(hi:PI X tg iter wi)(hg:∀C G s H,PG (Je X N scope C G s H) tg g)(hc:∀C G s H,PTs (Je X N scope C G s H) ifs tc)(he:∀C G s H,PE (Je X N scope C G s H) elt te)(hs:∀x,foldedSetIterable iter X.env x=pure x)(hN:X.N.Nodup)(hy:X.N[i]?=some y)(hl:X.env.scope.names.lookup y=some .local)(q6:swapsWith (.ListComp elt [⟨tg,iter,ifs,0⟩] scope pos) (some (.Name y py)) ahh.line X.env=pure true) :
 PS X (.Assign [.Name y py] (.ListComp elt [⟨tg,iter,ifs,0⟩] scope pos) ahh) (ap1 (Xq (N.length-X.N.length) wi g tc te) (abo i)):=by
 intro Z s σ H D I h;rw[exec_Assign_Name_used _ _ _ _ q6];refine aa (wpAny_standAt (aa ?_));show wpAny _ _ (do let _ <- comprehension (.ListComp elt [⟨tg,iter,ifs,0⟩] scope pos) scope X.env _ (newList []) false (eval iter X.env) (some (assign (.Name y py) X.env))) _ _ s;refine aa (j4 (wpAny_comprehension_free (use:=some (assign (.Name y py) X.env)) (Q:=λ_ s'=>SP X Z D .next s') rfl hs (B.clos I.ok) B.kind B.locs
  (ym (hi Z s σ H _ I h) λv s1 h1=>ym h1 λzz Y h2=>?_)) (λ_ s' hq=>aj (aj hq)) λ_ _ e=>e)
 obtain⟨it,G,tn,J,H2,rfl,U,T,qv,f2,q2⟩:=h2;obtain⟨W,⟨m0,w0⟩,L⟩:=q2 Y.heap.objs.size (U.zg.fresh (bc _));refine Rc (RR:=λqk C=>compPost (model X.prog X.w) X.A X.xe (some (assign (.Name y py) X.env)) (λ_ s'=>SP X Z D .next s') qk C) (Q:=λx H1=>abo i x σ H1 D.nx) B Gh U f2 T qv (λC s H=>hg C G s H) (λC s H=>hc C G s H) (λC s H=>he C G s H) W w0 L ?_;intro q7 H3 s3 I3 q3;obtain⟨J3,m,hn⟩:=Uc U f2 I3;have qq:=I3.free;obtain⟨u,_,_,S,q0,_⟩:=id hn;have big:∀b o,Y.heap.get? b=some o->b≠Y.heap.objs.size+1:=λb o e z=>by have:=az e;rw[z] at this;exact absurd this (Nat.not_lt.mpr (o8 _))
 have R:Y.heap.objs.size+1≠X.env.locals:=λe=>by obtain⟨m,⟨o,_,_,ho,_⟩,_⟩:=U.loc;exact big _ o ho e.symm
 have J4:Inv X (Z++[(Y.heap.objs.size+1,u)]) σ H3 s3:=J3.Vr λp hp=>by
  rcases bh.mp hp with q|q
  .exact J3.pin p (gb _ q)
  .have e:p=(Y.heap.objs.size+1,u):=by simpa using q
   subst e;refine⟨S,qq,R,λhb=>?_,λv z=>by rw[q0] at z;cases z⟩;exact U.auo (o8 _) hb
 show wpAny (model X.prog X.w) X.A (assign (.Name y py) X.env (.ref Y.heap.objs.size)) _ _ s3;refine ym (Vs (pos:=py) hN hy (.inl hl) (.inr hl) (Z++[(Y.heap.objs.size+1,u)]) s3 σ H3 (.ref Y.heap.objs.size) (.ref Y.heap.objs.size) D.nx J4 rfl q3) λ_ s4 z_=>?_
 obtain⟨q1,H4,I4,q4⟩:=z_;have pC:=I4.pin (Y.heap.objs.size+1,u) (gb _ (gb _ (by simp)));refine⟨m,hn.at' λo e=>by rw[S] at e;cases e;exact pC.1,λh' q5=>⟨q1,H4,?_,q4⟩⟩;refine(I4.J0).turned (t':=s4.toks) (λb o hb e=>q5.extBut b o hb e) pC.2.1 R (.inr (bf U.sz (o8 _))) ?_ ?_
 .intro x c hc
  obtain⟨v,o,ho,_⟩:=U.cell x c hc;exact big c o ho
 .intro p hp
  exact big p.1 p.2 (U.pin p hp).1
end L2
namespace Sm
open PySem L2
open MW (Ex Dl OEx Ld yt jw Lv Tg Res dg MO Kl Cp Op2 Blt Bm Kx)
abbrev Dv:=MW.D
abbrev En:=MW.Env
structure Io where
 l:List Addr
 δ:List Addr
noncomputable def Io.add(Z:Io)(p:Addr):Io:=⟨Z.l++[p],Z.δ⟩
noncomputable def Io.hide(Z:Io)(p:Addr):Io:=⟨Z.l,p::Z.δ⟩
def Io.off(Z:Io)(a:Addr):Prop:=a∉Z.l/\a∉Z.δ
def Vy(K:Fg)(H:Hp)(a:Addr)(G:List V):Prop :=
 (∃o,H a=some (.Hd o (.lst G))) \/
  ∃(o:Obj)(Z:Xs)(n:Nat),K.lookup a=some o/\o.cls=.type "list"/\o.dict=none/\o.data=.seq Z n/\Z.size<=sizeLine/\Vals G Z.toList
def Vy.sq(h:Vy K H a vs):Dm K H a vs:=by
 rcases h with⟨o,h⟩|h
 .exact .inl (.inr ⟨o,h⟩)
 .exact .inr h
mutual
inductive Rep(K:Fg)(ι:Io)(H:Hp):Dv->V->Prop
 |non:Rep K ι H .non .non
 |bl (b:Bool):Rep K ι H (.bl b) (.bl b)
 |int (i:Int):Rep K ι H (.int i) (.int i)
 |str (s:Str):Rep K ι H (.str s) (.str s)
 |tup {a:Addr} {ds:List Dv} {vs:List V} (e:H a=some (.tup vs)) (r:kj K ι H ds vs):Rep K ι H (.tup ds) (.ref a)
 |vl {a:Addr} {ds:List Dv} {vs:List V} (e:H a=some (.lst vs)) (n:ι.off a) (r:kj K ι H ds vs):Rep K ι H (.vl ds) (.ref a)
 |fz {a:Addr} {ds:List Dv} {vs:List V} (e:Vy K H a vs) (r:kj K ι H ds vs):Rep K ι H (.fz ds) (.ref a)
 |ref {n:Nat} {a:Addr} (e:ι.l[n]?=some a):Rep K ι H (.ref n) (.ref a)
inductive kj(K:Fg)(ι:Io)(H:Hp):List Dv->List V->Prop
 |nil:kj K ι H [] []
 |cons {d:Dv} {v:V} {ds:List Dv} {vs:List V} (h:Rep K ι H d v) (t:kj K ι H ds vs):kj K ι H (d::ds) (v::vs)
end
structure Le(ι:Io)(H:Hp)(ι':Io)(H':Hp):Prop where
 ext:∃Y,ι'.l=ι.l++Y/\∀a∈Y,H a=none
 del:ι'.δ=ι.δ
 tup:∀a vs,H a=some (.tup vs)->H' a=some (.tup vs)
 Hd:∀a o u,H a=some (.Hd o u)->H' a=some (.Hd o u)
 lst:∀a vs,a∉ι.l->H a=some (.lst vs)->H' a=some (.lst vs)
 dom:∀a,H' a=none->H a=none
def Le.refl(Z:Io)(H:Hp):Le Z H Z H:=⟨⟨[],by simp,by simp⟩,rfl,λ_ _ h=>h,λ_ _ _ h=>h,λ_ _ _ h=>h,λ_ h=>h⟩
def Ed{H H':Hp}(U:∀a u,H a=some u->∃Z,H' a=some Z)(h:H' a=none):H a=none:=by
 cases e:H a with
 |none=>rfl|some u=>obtain⟨Z,G⟩:=U a u e;rw[h] at G;cases G
def Le.get(l:Le G H Z U){n:Nat}(h:G.l[n]?=some a):Z.l[n]?=some a:=by obtain⟨Y,e,_⟩:=l.ext;rw[e,d9 (ak.mp h).1];exact h
def Le.aqq(l:Le R H Z H')(h:a∉R.l)(G:H a=some o):a∉Z.l:=by
 obtain⟨Y,e,U⟩:=l.ext;rw[e];intro m;rcases bh.mp m with q|q
 .exact h q
 .rw[U a q] at G;cases G
def Le.out(l:Le G H Z R)(h:G.off a)(U:H a=some o):Z.off a:=⟨l.aqq h.1 U,by rw[l.del];exact h.2⟩
theorem Le.trans(a:Le ι H U H1)(b:Le U H1 R H2):Le ι H R H2:=by
 obtain⟨Y,e1,h1⟩:=a.ext;obtain⟨Z,e2,h2⟩:=b.ext;refine⟨⟨Y++Z,by rw[e2,e1,mq],λx m=>?_⟩,b.del.trans a.del,λx G h=>b.tup x G (a.tup x G h),λx o u h=>b.Hd x o u (a.Hd x o u h),λx G n h=>b.lst x G (a.aqq n h) (a.lst x G n h),λx h=>a.dom x (b.dom x h)⟩;rcases bh.mp m with q|q
 .exact h1 x q
 .exact a.dom x (h2 x q)
structure LeX(ι:Io)(H:Hp)(ι':Io)(H':Hp):Prop where
 ext:∃Y,ι'.l=ι.l++Y/\∀a∈Y,H a=none
 del:∀a∈ι'.δ,a∈ι.δ\/H a=none
 tup:∀a vs,H a=some (.tup vs)->H' a=some (.tup vs)
 Hd:∀a o u,H a=some (.Hd o u)->H' a=some (.Hd o u)
 lst:∀a vs,a∉ι.l->H a=some (.lst vs)->H' a=some (.lst vs)
def Le.toX(l:Le G H Z H'):LeX G H Z H':=⟨l.ext,λa h=>.inl (by rw[<- l.del];exact h),l.tup,l.Hd,l.lst⟩
def LeX.get(l:LeX G H Z U){n:Nat}(h:G.l[n]?=some a):Z.l[n]?=some a:=by obtain⟨Y,e,_⟩:=l.ext;rw[e,d9 (ak.mp h).1];exact h
def LeX.out(l:LeX R H G H')(h:R.off a)(Z:H a=some o):G.off a:=by
 obtain⟨Y,e,U⟩:=l.ext;refine⟨λm=>?_,λm=>?_⟩
 .rw[e] at m
  rcases bh.mp m with q|q
  .exact h.1 q
  .rw[U a q] at Z;cases Z
 .rcases l.del a m with q|q
  .exact h.2 q
  .rw[q] at Z;cases Z
structure Tr(K:Fg)(ι:Io)(H:Hp)(ι':Io)(H':Hp):Prop where
 tup:∀a vs,H a=some (.tup vs)->H' a=some (.tup vs)
 vl:∀a vs,H a=some (.lst vs)->ι.off a->H' a=some (.lst vs)/\ι'.off a
 fz:∀a vs,Vy K H a vs->Vy K H' a vs
 rf:∀(n:Nat) a,ι.l[n]?=some a->ι'.l[n]?=some a
mutual
theorem Rep.tr{K:Fg}{U Z:Io}{H G:Hp}(l:Tr K U H Z G):∀{d:Dv}{v:V},Rep K U H d v->Rep K Z G d v
 |_,_,.non=>.non|_,_,.bl b=>.bl b|_,_,.int i=>.int i|_,_,.str s=>.str s|_,_,.tup e r=>.tup (l.tup _ _ e) (kj.tr l r)|_,_,.vl e n r=>.vl (l.vl _ _ e n).1 (l.vl _ _ e n).2 (kj.tr l r)|_,_,.fz e r=>.fz (l.fz _ _ e) (kj.tr l r)|_,_,.ref e=>.ref (l.rf _ _ e)
theorem kj.tr{K:Fg}{R Z:Io}{H H':Hp}(l:Tr K R H Z H'):∀{U:List Dv}{G:List V},kj K R H U G->kj K Z H' U G
 |_,_,.nil=>.nil|_,_,.cons h t=>.cons (Rep.tr l h) (kj.tr l t)
end
def LeX.tr(l:LeX G H Z H'):Tr K G H Z H':=⟨l.tup,λa U e n=>⟨l.lst _ _ n.1 e,l.out n e⟩,λa U e=>by
 rcases e with⟨o,e⟩|e
 .exact .inl ⟨o,l.Hd _ _ _ e⟩
 .exact .inr e,λ_ _ e=>l.get e⟩
def Rep.Gi(l:LeX G H Z U)(r:Rep K G H d v):Rep K Z U d v:=r.tr l.tr
def kj.Gi(l:LeX U H Z G)(r:kj K U H ds vs):kj K Z G ds vs:=r.tr l.tr
def Rep.mono(l:Le G H Z U)(r:Rep K G H d v):Rep K Z U d v:=r.Gi l.toX
def kj.mono(l:Le U H Z G)(r:kj K U H ds vs):kj K Z G ds vs:=r.Gi l.toX
theorem kj.length{K:Fg}{U:Io}{H:Hp}:∀{G:List Dv}{Z:List V},kj K U H G Z->G.length=Z.length:=by intro A B h;induction A generalizing B with|nil=>cases h;rfl|cons d A ih=>cases h with|cons _ t=>rw[gm,gm,ih t]
theorem kj.get{K:Fg}{U:Io}{H:Hp}:∀{G:List Dv}{Z:List V}{i:Nat}{d:Dv},kj K U H G Z->G[i]?=some d->∃v,Z[i]?=some v/\Rep K U H d v
 |_,_,_,_,.nil,e=>by simp at e|_,_,0,_,.cons h _,e=>by simp at e;subst e;exact⟨_,rfl,h⟩
 |_,_,i+1,d,.cons _ t,e=>by
  obtain⟨v,R,h2⟩:=kj.get (i:=i) t (by simpa using e);exact⟨v,by simpa using R,h2⟩
theorem kj.set{K:Fg}{Z:Io}{H:Hp}{d:Dv}{v:V}(r:Rep K Z H d v):∀{U:List Dv}{G:List V}(i:Nat),kj K Z H U G->kj K Z H (U.set i d) (G.set i v)
 |_,_,_,.nil=>.nil|_,_,0,.cons _ t=>.cons r t|_,_,i+1,.cons h t=>.cons h (kj.set r i t)
theorem kj.append{K:Fg}{Z:Io}{H:Hp}:∀{ds U:List Dv}{G R:List V},kj K Z H ds G->kj K Z H U R->kj K Z H (ds++U) (G++R):=by intro A _ B _ h r;induction A generalizing B with|nil=>cases h;exact r|cons d A ih=>cases h with|cons h t=>exact .cons h (ih t)
theorem kj.drop{K:Fg}{Z:Io}{H:Hp}:∀{U:List Dv}{G:List V}(n:Nat),kj K Z H U G->kj K Z H (U.drop n) (G.drop n)
 |_,_,0,r=>r|_,_,_+1,.nil=>.nil|_,_,n+1,.cons _ t=>kj.drop n t
theorem kj.take{K:Fg}{Z:Io}{H:Hp}:∀{U:List Dv}{G:List V}(n:Nat),kj K Z H U G->kj K Z H (U.take n) (G.take n)
 |_,_,0,_=>.nil|_,_,_+1,.nil=>.nil|_,_,n+1,.cons h t=>.cons h (kj.take n t)
theorem kj.eraseIdx{K:Fg}{Z:Io}{H:Hp}:∀{U:List Dv}{G:List V}(n:Nat),kj K Z H U G->kj K Z H (U.eraseIdx n) (G.eraseIdx n)
 |_,_,_,.nil=>.nil|_,_,0,.cons _ t=>t|_,_,n+1,.cons h t=>.cons h (kj.eraseIdx n t)
theorem kj.ints{K:Fg}{G:Io}{H:Hp}:∀(Z:X2),kj K G H (Z.map MW.D.int) (Z.map V.int)
 |[]=>.nil|n::r=>.cons (.int n) (kj.ints r)
structure Nm where
inductive wj{κ κ':Type}(K:Fg)(ι:Io)(H:Hp)(f:κ->κ'->Prop):List (κ×Dv)->List (κ'×V)->Prop
 |nil:wj K ι H f [] []
 |cons {k:κ} {k':κ'} {d:Dv} {v:V} {l:List (κ×Dv)} {l':List (κ'×V)} (hk:f k k') (h:Rep K ι H d v) (t:wj K ι H f l l'):wj K ι H f ((k,d)::l) ((k',v)::l')
theorem wj.tr{U Z:Type}{f:U->Z->Prop}(t:Tr K ι H G H'){l:List (U×Dv)}{l':List (Z×V)}(h:wj K ι H f l l'):wj K G H' f l l':=by
 induction h with
 |nil=>exact .nil|cons k h _ R=>exact .cons k (h.tr t) R
def wj.mono(le:Le G H Z U)(h:wj K G H f l l'):wj K Z U f l l':=h.tr le.toX.tr
def Dt(R:Nm)(K:Fg)(Z:Io)(H:Hp)(o:MO)(a:Addr):Prop :=
 match o with
 |.lst ds=>∃U,H a=some (.lst U)/\kj K Z H ds U|.dT xu=>∃l,H a=some (.dT l)/\wj K Z H (λk G=>k=G) xu l
 |.dF xu=>∃l o,H a=some (.Hd o (.dT l))/\wj K Z H (λk G=>k=G) xu l
structure jr(nm:Nm)(K:Fg)(ι:Io)(H:Hp)(M:dg):Prop where
 len:ι.l.length=M.length
 nd:ι.l.Nodup
 del:∀a∈ι.δ,a∉ι.l/\∃vs,H a=some (.lst vs)
 obj:∀(n:Nat)(o:MO)(a:Addr),M[n]?=some o->ι.l[n]?=some a->Dt nm K ι H o a
def Mu:Option HO->Prop
 |some (.Hd _ (.dT _))=>True|u=>Mut u
theorem Dt.some(h:Dt nm K R H o a):∃u,H a=some u/\Mu (H a):=by
 cases o with
 |lst U=>obtain⟨Z,e,_⟩:=h;exact⟨_,e,by rw[e];trivial⟩
 |dT G=>obtain⟨Z,e,_⟩:=h;exact⟨_,e,by rw[e];trivial⟩
 |dF G=>obtain⟨Z,ob,e,_⟩:=h;exact⟨_,e,by rw[e];trivial⟩
def jr.addr(S:jr nm K Z H M){n:Nat}(h:M[n]?=some o):∃a,Z.l[n]?=some a/\Dt nm K Z H o a:=by
 have G:n < Z.l.length:=by rw[S.len];exact MW.qd h
 exact⟨Z.l[n],by simp[G],S.obj n o _ h (by simp[G])⟩
def jr.mem(S:jr nm K Z H M)(h:a∈Z.l):∃u,H a=some u/\Mu (H a):=by
 obtain⟨n,G,rfl⟩:=ug h;have U:n<M.length:=by rw[<- S.len];exact G
 exact(S.obj n M[n] Z.l[n] (by simp[U]) (by simp[G])).some
def jr.fresh(S:jr nm K Z H M)(h:H a=none):Z.off a:=by
 refine⟨λm=>?_,λm=>?_⟩
 .obtain⟨u,e,_⟩:=S.mem m
  rw[h] at e;cases e
 .obtain⟨_,G,e⟩:=S.del a m
  rw[h] at e;cases e
theorem Dt.tr(h:Dt nm K ι H o a)(t:Tr K ι H G U)(e:U a=H a):Dt nm K G U o a:=by
 cases o with
 |lst ds=>obtain⟨Z,q,r⟩:=h;exact⟨Z,e.trans q,r.tr t⟩
 |dT R=>obtain⟨Z,q,r⟩:=h;exact⟨Z,e.trans q,r.tr t⟩
 |dF R=>obtain⟨Z,ob,q,r⟩:=h;exact⟨Z,ob,e.trans q,r.tr t⟩
def Dt.move(h:Dt nm K U H o a)(le:Le U H Z G)(e:G a=H a):Dt nm K Z G o a:=h.tr le.toX.tr e
def jr.laid(S:jr nm K G H M)(h:H p=none)(o:HO):jr nm K G (upd H p o) M/\Le G H G (upd H p o):=by
 have Z:∀a u,H a=some u->a≠p:=λa u e=>mj e h
 have le:Le G H G (upd H p o):=⟨⟨[],by simp,by simp⟩,rfl,λa U e=>by rw[j6 (Z a _ e)];exact e,λa _ u e=>by rw[j6 (Z a _ e)];exact e,λa U _ e=>by rw[j6 (Z a _ e)];exact e,
  λa h'=>Ed (λb u e=>⟨u,by rw[j6 (Z b _ e)];exact e⟩) h'⟩
 refine⟨⟨S.len,S.nd,λa R=>?_,λn o' a hn R=>?_⟩,le⟩
 .obtain⟨h1,U,h2⟩:=S.del a R
  exact⟨h1,U,le.lst a U h1 h2⟩
 .have q:=S.obj n o' a hn R
  obtain⟨u,e,_⟩:=q.some;exact q.move le (by rw[j6 (Z a u e)])
def yr{Z:Type}{l:List Z}{x y:Z}(h:(l++[x])[n]?=some y):(l[n]?=some y)\/(n=l.length/\y=x):=by
 rcases iw n l.length with q|q
 .rw[d9 q] at h;exact .inl h
 .rw[m9 q] at h
  have:n-l.length=0:=by
   rcases Nat.eq_zero_or_pos (n-l.length) with z|z
   .exact z
   .rw[u0 (by simp;exact z)] at h;cases h
  rw[this] at h;simp at h;exact .inr ⟨by lia,h.symm⟩
def jr.new(S:jr nm K Z H M)(h:H p=none)(G:∀a u,H a=some u->H' a=some u)(ho:Le Z H (Z.add p) H'->Dt nm K (Z.add p) H' o p):jr nm K (Z.add p) H' (M++[o])/\Le Z H (Z.add p) H':=by
 have le:Le Z H (Z.add p) H':=⟨⟨[p],rfl,by simpa using h⟩,rfl,λa R e=>G _ _ e,λa _ u e=>G _ _ e,λa R _ e=>G _ _ e,λa h'=>Ed (H:=H) (H':=H') (λb u e=>⟨u,G b u e⟩) h'⟩;refine⟨⟨by simp[Io.add,S.len],?_,λa U=>?_,λn o' a hn U=>?_⟩,le⟩
 .exact my.mpr ⟨S.nd,by simp,by
   intro x hx y hy;have:y=p:=by simpa using hy
   subst this;intro e;subst e;exact(S.fresh h).1 hx⟩
 .obtain⟨h1,R,h2⟩:=S.del a U
  exact⟨le.aqq h1 h2,R,G _ _ h2⟩
 .rcases yr hn with q|⟨q,rfl⟩
  .rcases yr U with r|⟨r,_⟩
   .have z:=S.obj n o' a q r
    obtain⟨u,e,_⟩:=z.some;exact z.move le ((G a u e).trans e.symm)
   .exact absurd (MW.qd q) (by rw[r,S.len];exact m5 _)
  .rcases yr U with r|⟨_,rfl⟩
   .exact absurd (ak.mp r).1 (by rw[q,S.len];exact m5 _)
   .exact ho le
def jr.put(S:jr nm K U H M)(hn:M[n]?=some G)(ha:U.l[n]?=some a)(ho:Le U H U (upd H a u)->Dt nm K U (upd H a u) o a)(hd:∀k,G≠.dF k:=by nofun):jr nm K U (upd H a u) (M.set n o)/\Le U H U (upd H a u):=by
 have Z:Mut (H a):=by
  have z:=S.obj n G a hn ha;cases G with
  |dF k=>exact absurd rfl (hd k)|_=>obtain⟨vs,e,_⟩:=z;rw[e];trivial
 have hm:a∈U.l:=aq ha;have le:Le U H U (upd H a u):=⟨⟨[],by simp,by simp⟩,rfl,λb vs e=>by rw[j6 (λz=>by subst z;rw[e] at Z;exact Z)];exact e,
  λb _ _ e=>by rw[j6 (λz=>by subst z;rw[e] at Z;exact Z)];exact e,λb vs nb e=>by rw[j6 (λz=>by subst z;exact nb hm)];exact e,λb h'=>Ed (λc w e=>by
   by_cases z:c=a
   .exact⟨u,by rw[z,t8]⟩
   .exact⟨w,by rw[j6 z];exact e⟩) h'⟩
 refine⟨⟨by rw[vz];exact S.len,S.nd,λb hb=>?_,λm o' b R hb=>?_⟩,le⟩
 .obtain⟨h1,vs,h2⟩:=S.del b hb
  exact⟨h1,vs,le.lst b vs h1 h2⟩
 by_cases q:m=n
 .subst q
  rw[MW.nq hn] at R;cases R;rw[ha] at hb;cases hb;exact ho le
 .rw[MW.jx (oh q)] at R
  have z:=S.obj m o' b R hb;have nb:b≠a:=λe=>by subst e;obtain⟨l1,e1⟩:=ak.mp hb;obtain⟨l2,e2⟩:=ak.mp ha;exact q ((List.getElem_inj S.nd).mp (e1.trans e2.symm))
  exact z.move le (by rw[j6 nb])
def ak2(Z:H D=none):Tr K G H (G.hide D) (upd H D o) :=
 have k:∀{a u},H a=some u->upd H D o a=some u:=λe=>by rw[j6 (mj e Z)];exact e
 ⟨λ_ _ e=>k e,λa U e n=>⟨k e,n.1,λm=>by
  rcases cg.mp m with q|q
  .exact mj e Z q
  .exact n.2 q⟩,λ_ _ e=>e.imp (λ⟨q,e⟩=>⟨q,k e⟩) id,λ_ _ e=>e⟩
def ab3(Z:H D=some (.lst U))(hm:D∈G.δ):Tr K G H G (upd H D (.lst R)) :=
 have k:∀{a u},a≠D->H a=some u->upd H D (.lst R) a=some u:=λn e=>by rw[j6 n];exact e
 ⟨λ_ _ e=>k (abk e Z (by intro z;cases z)) e,λa U e n=>⟨k (λz=>by subst z;exact n.2 hm) e,n⟩,λ_ _ e=>e.imp (λ⟨q,e⟩=>⟨q,k (abk e Z (by intro z;cases z)) e⟩) id,λ_ _ e=>e⟩
def Io.show(Z:Io)(H:Hp)(D:Addr):Tr K (Z.hide D) H Z H:=⟨λ_ _ e=>e,λ_ _ e n=>⟨e,n.1,λm=>n.2 (bu _ m)⟩,λ_ _ e=>e,λ_ _ e=>e⟩
theorem Rep.show(r:Rep K (Z.hide D) H d v):Rep K Z H d v:=r.tr (Z.show H D)
theorem kj.show(r:kj K (Z.hide D) H d v):kj K Z H d v:=r.tr (Z.show H D)
theorem jr.hide(S:jr nm K ι H M)(Z:H D=none):jr nm K (ι.hide D) (upd H D (.lst [])) M:=by
 refine⟨S.len,S.nd,λa G=>?_,λn o a hn G=>?_⟩
 .rcases cg.mp G with q|q
  .subst q;exact⟨(S.fresh Z).1,[],t8⟩
  .obtain⟨h1,R,U⟩:=S.del a q
   exact⟨h1,R,by rw[j6 (mj U Z)];exact U⟩
 .have z:=S.obj n o a hn G
  obtain⟨u,e,_⟩:=z.some;exact z.tr (ak2 Z) (by rw[j6 (mj e Z)])
def jr.grow(S:jr nm K U H M)(hD:H D=some (.lst vs))(R:D∈U.δ):jr nm K U (upd H D (.lst ws)) M:=by
 refine⟨S.len,S.nd,λa Z=>?_,λn o a hn Z=>?_⟩
 .obtain⟨G,us,h2⟩:=S.del a Z
  by_cases z:a=D
  .subst z;exact⟨G,ws,t8⟩
  .exact⟨G,us,by rw[j6 z];exact h2⟩
 .have z:=S.obj n o a hn Z
  have ne:a≠D:=λe=>by subst e;exact(S.del a R).1 (aq Z)
  exact z.tr (ab3 hD R) (by rw[j6 ne])
theorem jr.show(S:jr nm K (G.hide D) H M):jr nm K G H M :=
 ⟨S.len,S.nd,λa Z=>S.del a (bu _ Z),λn o a U Z=>(S.obj n o a U Z).tr (G.show H D) rfl⟩
structure Yr(D:Addr)(ι:Io)(H:Hp)(ι':Io)(H':Hp):Prop where
 ext:∃Y,ι'.l=ι.l++Y/\∀a∈Y,H a=none
 del:ι'.δ=D::ι.δ
 tup:∀a vs,H a=some (.tup vs)->H' a=some (.tup vs)
 Hd:∀a o u,H a=some (.Hd o u)->H' a=some (.Hd o u)
 lst:∀a vs,a∉ι.l->H a=some (.lst vs)->H' a=some (.lst vs)
 dom:∀a,H' a=none->H a=none
def Yr.toX(l:Yr D G H Z H')(U:H D=none):LeX G H Z H':=⟨l.ext,λa h=>by
 rw[l.del] at h;rcases cg.mp h with q|q
 .exact .inr (by rw[q];exact U)
 .exact .inl q,l.tup,l.Hd,l.lst⟩
def Yr.start(Z:H D=none)(o:HO):Yr D G H (G.hide D) (upd H D o) :=
 ⟨⟨[],by simp[Io.hide],by simp⟩,rfl,λa U e=>by rw[j6 (mj e Z)];exact e,λa _ _ e=>by rw[j6 (mj e Z)];exact e,λa U _ e=>by rw[j6 (mj e Z)];exact e,
  λa R=>Ed (λb u e=>⟨u,by rw[j6 (mj e Z)];exact e⟩) R⟩
def Yr.go(a:Yr D ι H U H1)(b:Le U H1 R H2):Yr D ι H R H2:=by
 obtain⟨Y,e1,h1⟩:=a.ext;obtain⟨Z,e2,h2⟩:=b.ext;have out:∀x o,x∉ι.l->H x=some o->x∉U.l:=λx o n h m=>by
  rw[e1] at m;rcases bh.mp m with q|q
  .exact n q
  .rw[h1 x q] at h;cases h
 refine⟨⟨Y++Z,by rw[e2,e1,mq],λx m=>?_⟩,b.del.trans a.del,λx G h=>b.tup x G (a.tup x G h),λx o u h=>b.Hd x o u (a.Hd x o u h),λx G n h=>b.lst x G (out x _ n h) (a.lst x G n h),λx h=>a.dom x (b.dom x h)⟩;rcases bh.mp m with q|q
 .exact h1 x q
 .exact a.dom x (h2 x q)
def Yr.grow(a:Yr D ι H Z R)(U:H D=none)(hD:R D=some (.lst vs)):Yr D ι H Z (upd R D (.lst ws)) :=
 ⟨a.ext,a.del,λx G h=>by rw[j6 (mj h U)];exact a.tup x G h,λx o u h=>by rw[j6 (mj h U)];exact a.Hd x o u h,λx G n h=>by rw[j6 (mj h U)];exact a.lst x G n h,
  λx h=>a.dom x (by
   by_cases z:x=D
   .rw[z,t8] at h;cases h
   .rw[j6 z] at h;exact h)⟩
def Yr.done(a:Yr D G H ⟨Z.l,D::Z.δ⟩ H1):Le G H Z H1 :=
 ⟨a.ext,(List.cons.inj a.del).2,a.tup,a.Hd,a.lst,a.dom⟩
inductive ph(K:Fg)(ι:Io)(H:Hp):En->St->Prop
 |nil:ph K ι H [] []
 |skp {y:Option V} {ρ:En} {σ:St} (t:ph K ι H ρ σ):ph K ι H (none::ρ) (y::σ)
 |has {d:Dv} {v:V} {ρ:En} {σ:St} (h:Rep K ι H d v) (t:ph K ι H ρ σ):ph K ι H (some d::ρ) (some v::σ)
theorem ph.Gi{K:Fg}{G Z:Io}{H H':Hp}(le:LeX G H Z H'):∀{U:En}{R:St},ph K G H U R->ph K Z H' U R:=by intro _ _ h;induction h with|nil=>exact .nil|skp t ih=>exact .skp ih|has h t ih=>exact .has (h.Gi le) ih
theorem ph.mono{K:Fg}{G Z:Io}{H H':Hp}(le:Le G H Z H'):∀{U:En}{R:St},ph K G H U R->ph K Z H' U R:=by intro _ _ h;induction h with|nil=>exact .nil|skp t ih=>exact .skp ih|has h t ih=>exact .has (h.mono le) ih
theorem ph.get{K:Fg}{U:Io}{H:Hp}:∀{R:En}{σ:St}{i:Nat}{d:Dv},ph K U H R σ->R[i]?=some (some d)->∃v,σ[i]?=some (some v)/\Rep K U H d v
 |_,_,_,_,.nil,e=>by simp at e|_,_,0,_,.skp _,e=>by simp at e|_,_,0,_,.has h _,e=>by simp at e;subst e;exact⟨_,rfl,h⟩
 |_,_,i+1,d,.skp t,e=>by
  obtain⟨v,Z,G⟩:=ph.get (i:=i) t (by simpa using e);exact⟨v,by simpa using Z,G⟩
 |_,_,i+1,d,.has _ t,e=>by
  obtain⟨v,Z,G⟩:=ph.get (i:=i) t (by simpa using e);exact⟨v,by simpa using Z,G⟩
theorem ph.set{K:Fg}{Z:Io}{H:Hp}{d:Dv}{v:V}(r:Rep K Z H d v):∀{U:En}{G:St}(i:Nat),ph K Z H U G->ph K Z H (U.set i (some d)) (G.set i (some v))
 |_,_,_,.nil=>.nil|_,_,0,.skp t=>.has r t|_,_,0,.has _ t=>.has r t|_,_,i+1,.skp t=>.skp (ph.set r i t)|_,_,i+1,.has h t=>.has h (ph.set r i t)
theorem ph.length{K:Fg}{U:Io}{H:Hp}:∀{G:En}{Z:St},ph K U H G Z->G.length=Z.length:=by intro _ _ h;induction h with|nil=>rfl|skp _ ih=>rw[gm,gm,ih]|has _ _ ih=>rw[gm,gm,ih]
theorem ph.append{K:Fg}{U:Io}{H:Hp}:∀{R Z:En}{σ G:St},ph K U H R σ->ph K U H Z G->ph K U H (R++Z) (σ++G):=by intro _ _ _ _ h r;induction h with|nil=>exact r|skp t ih=>exact .skp ih|has h t ih=>exact .has h ih
theorem ph.ahi{K:Fg}{G:Io}{H:Hp}:∀(k:Nat){Z:St},Z.length=k->ph K G H (List.replicate k none) Z
 |0,[],_=>.nil|k+1,_::r,h=>.skp (ph.ahi k (by simpa using h))
theorem ph.ahj{K:Fg}{Z:Io}{H:Hp}:∀{U:List Dv}{G:List V},kj K Z H U G->ph K Z H (U.map some) (G.map some)
 |_,_,.nil=>.nil|_,_,.cons h t=>.has h (ph.ahj t)
def d7{r:Res α}(h:r.bind f=.ok b M):∃a Z,r=.ok a Z/\f a Z=.ok b M:=by
 cases r with
 |ok a Z=>exact⟨a,Z,rfl,h⟩|bad=>cases h
def uv(h:Res.qi o M=.ok a Z):o=some a/\Z=M:=by
 cases o with
 |none=>cases h|some x=>cases h;exact⟨rfl,rfl⟩
def PE.weak(h:PE X e t)(w:∀Z H Q,t' Z H Q->t Z H Q):PE X e t':=λG s Z H Q I q=>h G s Z H Q I (w Z H Q q)
def PT.weak(h:PT X e t)(w:∀Z H Q,t' Z H Q->t Z H Q):PT X e t':=λG s Z H Q I q=>h G s Z H Q I (w Z H Q q)
def PA.weak(h:PA X es t)(w:∀Z H Q,t' Z H Q->t Z H Q):PA X es t':=λU G s Z H Q I q=>h U G s Z H Q I (w Z H Q q)
def PS.weak(h:PS X e t)(w:∀D Z H,t' D Z H->t D Z H):PS X e t':=λG s Z H D I q=>h G s Z H D I (w D Z H q)
def Ml.weak(h:Ml X e t)(w:∀D Z H,t' D Z H->t D Z H):Ml X e t':=λG s Z H D I q=>h G s Z H D I (w D Z H q)
def Ah.weak(h:Ah X f r)(w:∀x y H Q,r' x y H Q->r x y H Q):Ah X f r':=λZ s R H x y v u Q I G U q=>h Z s R H x y v u Q I G U (w x y H Q q)
section
variable(nm:Nm)(W:Kl)(K:Fg)
def tE(e:Ex):TE:=fun σ H Q=>∃U ρ M d R,jr nm K U H M/\ph K U H ρ σ/\e.den W ρ M=.ok d R/\∀Z G v,Le U H Z G->jr nm K Z G R->Rep K Z G d v->Q v G
def tQ(e:Ex):TT:=fun σ H Q=>∃G ρ M b R,jr nm K G H M/\ph K G H ρ σ/\e.den W ρ M=.ok (.bl b) R/\∀Z U,Le G H Z U->jr nm K Z U R->Q b U
def Xr(es:Dl):TA:=fun σ H Q=>∃U ρ M ds M',jr nm K U H M/\ph K U H ρ σ/\es.den W ρ M=.ok ds M'/\∀Z G R,Le U H Z G->jr nm K Z G M'->kj K Z G ds R->Q R G
def Rf(D:Ends)(ι:Io)(H:Hp)(R:MW.Flow)(ρ:En)(M:dg):Prop :=
 ∀Z U G,Le ι H Z U->jr nm K Z U M->ph K Z U ρ G ->
  match R with
  |.next=>D.nx G U|.brk=>D.bk G U|.cont=>D.ct G U|.ret d=>∀v,Rep K Z U d v->D.rt v U
def tS(st:yt):TS:=λD σ H=>∃G ρ M U Z R,jr nm K G H M/\ph K G H ρ σ/\st.den W ρ M=.ok (U,Z) R/\Rf nm K D G H U Z R
def tSs(st:jw):TS:=λD σ H=>∃G ρ M U Z R,jr nm K G H M/\ph K G H ρ σ/\st.den W ρ M=.ok (U,Z) R/\Rf nm K D G H U Z R
end
def PE.of(h:PE X a t)(w:∀σ H Q G ρ M d M',jr nm X.K G H M->ph X.K G H ρ σ->e'.den W ρ M=.ok d M'->(∀Z U v,Le G H Z U->jr nm X.K Z U M'->Rep X.K Z U d v->Q v U)->t σ H Q):PE X a (tE nm W X.K e'):=PE.weak h fun σ H Q z_=>by obtain⟨G,ρ,M,d,M',S,R,e,q⟩:=z_;exact w σ H Q G ρ M d M' S R e q
def PT.of(h:PT X a t)(w:∀σ H Q Z ρ M b U,jr nm X.K Z H M->ph X.K Z H ρ σ->e'.den W ρ M=.ok (.bl b) U->(∀G H',Le Z H G H'->jr nm X.K G H' U->Q b H')->t σ H Q):PT X a (tQ nm W X.K e'):=PT.weak h fun σ H Q z_=>by obtain⟨Z,ρ,M,d,U,S,R,e,q⟩:=z_;exact w σ H Q Z ρ M d U S R e q
def PA.of(h:PA X es t)(w:∀σ H Q G ρ M ds U,jr nm X.K G H M->ph X.K G H ρ σ->qq.den W ρ M=.ok ds U->(∀Z H' vs,Le G H Z H'->jr nm X.K Z H' U->kj X.K Z H' ds vs->Q vs H')->t σ H Q):PA X es (Xr nm W X.K qq):=PA.weak h fun σ H Q z_=>by obtain⟨G,ρ,M,d,U,S,R,e,q⟩:=z_;exact w σ H Q G ρ M d U S R e q
def PS.of(h:PS X st t)(w:∀D σ H G ρ M U Z M',jr nm X.K G H M->ph X.K G H ρ σ->s'.den W ρ M=.ok (U,Z) M'->Rf nm X.K D G H U Z M'->t D σ H):PS X st (tS nm W X.K s'):=PS.weak h λD σ H z_=>by obtain⟨G,ρ,M,U,Z,M',S,R,e,q⟩:=z_;exact w D σ H G ρ M U Z M' S R e q
def Ml.of(h:Ml X st t)(w:∀D σ H G ρ M U Z M',jr nm X.K G H M->ph X.K G H ρ σ->s'.den W ρ M=.ok (U,Z) M'->Rf nm X.K D G H U Z M'->t D σ H):Ml X st (tSs nm W X.K s'):=Ml.weak h λD σ H z_=>by obtain⟨G,ρ,M,U,Z,M',S,R,e,q⟩:=z_;exact w D σ H G ρ M U Z M' S R e q
def one{X:Cx}{M1:dg}(S:jr nm X.K ι H M)(R:ph X.K ι H ρ σ)(ha:a'.den W ρ M=.ok x M1)(h:∀Z U v,Le ι H Z U->jr nm X.K Z U M1->ph X.K Z U ρ σ->Rep X.K Z U x v->G v U):tE nm W X.K a' σ H G :=
 ⟨ι,ρ,M,x,M1,S,R,ha,λqq H' v le S' r=>h qq H' v le S' (R.mono le) r⟩
theorem two{X:Cx}{M1 M2:dg}{G:V->V->Hp->Prop}(S:jr nm X.K ι H M)(R:ph X.K ι H U σ)(ha:a'.den W U M=.ok x M1)(hb:b'.den W U M1=.ok y M2)(h:∀Z H2 v u,Le ι H Z H2->jr nm X.K Z H2 M2->ph X.K Z H2 U σ->Rep X.K Z H2 x v->Rep X.K Z H2 y u->G v u H2) :
 tE nm W X.K a' σ H λv H1=>tE nm W X.K b' σ H1 λu H2=>G v u H2 :=
 one S R ha λqq H1 v Xu S1 R1 r1=>one S1 R1 hb λZ H2 u xn S2 R2 r2=>h Z H2 v u (Xu.trans xn) S2 R2 (r1.mono xn) r2
set_option tactic.hygienic true in
def av7(G:X.N[i]?=some n)(L:Vis X.env.scope n)(Z:(n==("__debug__" : Str))=false)(Y:(n==("__classdict__" : Str))=false):PE X (.Name n pos) (tE nm W X.K (.var i)) :=
 PE.of (apm G L Z Y) fun σ H Q C ρ M d M' S R e q=>by
  rw[MW.ajc] at e;split at e
  .rename_i u Z
   cases e;obtain⟨v,J,U⟩:=R.get Z;exact⟨v,J,q C H v (Le.refl _ _) S U⟩
  .cases e
def av8:PE X (.Constant (.int i) j pos) (tE nm W X.K (.cst (.int i))) :=
 PE.of apn λU H Q Z ρ M d G S R e q=>by rw[MW.Fo] at e;cases e;exact q Z H _ (Le.refl _ _) S (.int i)
def a04:PE X (.Constant (.bool i) j pos) (tE nm W X.K (.cst (.bl i))) :=
 PE.of auq λU H Q Z ρ M d G S R e q=>by rw[MW.Fo] at e;cases e;exact q Z H _ (Le.refl _ _) S (.bl i)
def av9:PE X (.Constant .none j pos) (tE nm W X.K (.cst .non)) :=
 PE.of apo λU H Q Z ρ M d G S R e q=>by rw[MW.Fo] at e;cases e;exact q Z H _ (Le.refl _ _) S .non
def awa:PE X (.Constant (.str i) j pos) (tE nm W X.K (.cst (.str i))) :=
 PE.of apq λU H Q Z ρ M d G S R e q=>by rw[MW.Fo] at e;cases e;exact q Z H _ (Le.refl _ _) S (.str i)
def aqr(Z:Gl X n)(hm:X.mg n=some (.int i t))(U:(n==("__debug__" : Str))=false):PE X (.Name n pos) (tE nm W X.K (.cst (.int i))) :=
 PE.of (aka (v:=.int i) Z hm ⟨t,rfl⟩ U) fun σ H Q G ρ M d M' S R e q=>by rw[MW.Fo] at e;cases e;exact q G H _ (Le.refl _ _) S (.int i)
def rOp(nm:Nm)(K:Fg)(f:Dv->Dv->dg->Res Dv):R2:=λv u H Q=>∃G M x y d R,jr nm K G H M/\Rep K G H x v/\Rep K G H y u/\f x y M=.ok d R /\
 ∀Z U w,Le G H Z U->jr nm K Z U R->Rep K Z U d w->Q w U
def Ah.of(h:Ah X f r)(w:∀v u H Q G M x y d U,jr nm X.K G H M->Rep X.K G H x v->Rep X.K G H y u->g x y M=.ok d U->(∀Z R w,Le G H Z R->jr nm X.K Z R U->Rep X.K Z R d w->Q w R)->r v u H Q):Ah X f (rOp nm X.K g) :=
 Ah.weak h λv u H Q z_=>by obtain⟨G,M,x,y,d,U,S,rv,ru,e,q⟩:=z_;exact w v u H Q G M x y d U S rv ru e q
def awb(ho:Ah X (binaryOp op) (rOp nm X.K (MW.yu qq)))(ha:PE X a (tE nm W X.K a'))(hb:PE X b (tE nm W X.K b')):PE X (.BinOp a op b pos) (tE nm W X.K (.bin qq a' b')) :=
 PE.of (au6 ho ha hb) fun σ H Q ι ρ M d M' S R e q=>by rw[MW.Ux] at e;obtain⟨x,M1,e1,e⟩:=d7 e;obtain⟨y,M2,e2,e⟩:=d7 e;exact two S R e1 e2 λU H2 v u le S2 _ rv ru=>⟨U,M2,x,y,d,M',S2,rv,ru,e,λG H' w Z S' r=>q G H' w (le.trans Z) S' r⟩
def awc:Ah X (binaryOp .Sub) (rOp nm X.K (MW.yu .sub)) :=
 Ah.of ap8 λv u H Q U M x y d M' S G Z e q=>by obtain⟨i,j,rfl,rfl,R⟩:=MW.Y0 e (by intro z;cases z);cases G;cases Z;cases R;exact⟨_,_,rfl,rfl,q U H _ (Le.refl _ _) S (.int _)⟩
def ak4{g:Int->Int->Int}{P:Int->Int->Prop}[∀i j,Decidable (P i j)](h:Ah X (binaryOp op) r)(hb:∀x y M,MW.yu G x y M=MW.ii x y (λi j=>if P i j then .ok (.int (g i j)) M else .bad) .bad)(w:∀i j H Q,P i j->Q (.int (g i j)) H->r (.int i) (.int j) H Q):Ah X (binaryOp op) (rOp nm X.K (MW.yu G)) :=
 Ah.of h λv u H Q ι M x y d M' S rv R e q=>by
  rw[hb] at e;obtain⟨i,j,rfl,rfl,Z⟩:=MW.Y0 e (by intro z;cases z)
  by_cases U:P i j
  .rw[di U] at Z
   cases rv;cases R;cases Z;exact w i j H Q U (q ι H _ (Le.refl _ _) S (.int _))
  .rw[fj U] at Z;cases Z
def awd:Ah X (binaryOp .Mod) (rOp nm X.K (MW.yu .mod)):=ak4 aqa (λ_ _ _=>rfl) λi j H Q h q=>⟨_,_,rfl,rfl,h,q⟩
def aqs:Ah X (binaryOp .FloorDiv) (rOp nm X.K (MW.yu .fdiv)):=ak4 akh (λ_ _ _=>rfl) λi j H Q h q=>⟨_,_,rfl,rfl,h,q⟩
def awe:Ah X (binaryOp .Pow) (rOp nm X.K (MW.yu .pow)):=ak4 aqb (λ_ _ _=>rfl) λi j H Q h q=>⟨_,_,rfl,rfl,⟨h.1,by omega,h.2.2⟩,q⟩
set_option tactic.hygienic true in
def qt{X:Cx}(S:jr nm X.K Z H M)(r:Rep X.K Z H d v)(h:MW.dw M d=some ds):∃p vs,v=.ref p/\H p=some (.lst vs)/\kj X.K Z H ds vs:=by
 cases r with
 |vl e n r=>simp[MW.dw] at h;subst h;exact⟨_,_,rfl,e,r⟩
 |ref e =>
  rename_i n p;simp only[MW.dw] at h;split at h<;>simp at h;rename_i G Y;subst h;obtain⟨vs,J,U⟩:=S.obj n _ p Y e;exact⟨p,vs,rfl,J,U⟩
 |_=>simp[MW.dw] at h
def Ej{X:Cx}(S:jr nm X.K R H M)(r:Rep X.K R H d v)(h:MW.jl M d=some ds):∃p vs,v=.ref p/\(H p=some (.lst vs)\/H p=some (.tup vs))/\kj X.K R H ds vs:=by
 cases r with
 |tup e r=>simp[MW.jl] at h;subst h;exact⟨_,_,rfl,.inr e,r⟩
 |vl e n r =>
  obtain⟨p,vs,G,U,Z⟩:=qt S (.vl e n r) (show MW.dw M _=_ from h);exact⟨p,vs,G,.inl U,Z⟩
 |ref e =>
  obtain⟨p,vs,G,U,Z⟩:=qt S (.ref e) (show MW.dw M _=_ from h);exact⟨p,vs,G,.inl U,Z⟩
 |_=>simp[MW.jl,MW.dw] at h
def Zv{X:Cx}(S:jr nm X.K Z H M)(U:H p=none)(r:kj X.K Z H ds G):jr nm X.K Z (upd H p (.lst G)) M/\Le Z H Z (upd H p (.lst G))/\Rep X.K Z (upd H p (.lst G)) (.vl ds) (.ref p):=by obtain⟨R,le⟩:=S.laid U (.lst G);exact⟨R,le,.vl t8 (S.fresh U) (r.mono le)⟩
def Ik{X:Cx}(S:jr nm X.K Z H M)(R:H p=none)(r:kj X.K Z H ds G):jr nm X.K Z (upd H p (.tup G)) M/\Le Z H Z (upd H p (.tup G))/\Rep X.K Z (upd H p (.tup G)) (.tup ds) (.ref p):=by obtain⟨U,le⟩:=S.laid R (.tup G);exact⟨U,le,.tup t8 (r.mono le)⟩
def ab4{X:Cx}(S:jr nm X.K Z H M)(U:H p=none)(r:kj X.K Z H ds G):jr nm X.K (Z.add p) (upd H p (.lst G)) (M++[.lst ds])/\Le Z H (Z.add p) (upd H p (.lst G))/\Rep X.K (Z.add p) (upd H p (.lst G)) (.ref M.length) (.ref p):=by
 obtain⟨R,le⟩:=S.new (H':=upd H p (.lst G)) (o:=.lst ds) U (λa u e=>by rw[j6 (mj e U)];exact e) λle=>⟨G,t8,r.mono le⟩
 exact⟨R,le,.ref (by show(Z.l++[p])[M.length]?=some p;rw[<- S.len];simp)⟩
def Rg:(100000:Nat)<=sizeLine:=by decide
set_option tactic.hygienic true in
def ak5(h:MW.yu .add x y M=.ok d M'):(∃i j,x=.int i/\y=.int j/\d=.int (i+j)/\M'=M) \/
 (∃Z Y,x=.tup Z/\y=.tup Y/\Z.length+Y.length<=100000/\d=.tup (Z++Y)/\M'=M) \/
 ∃Z Y,MW.dw M x=some Z/\MW.dw M y=some Y/\Z.length+Y.length<=100000/\d=.vl (Z++Y)/\M'=M:=by
 have h:MW.ae8 x y M=.ok d M':=h;unfold MW.ae8 at h;split at h<;>try cases h
 .exact .inl ⟨_,_,rfl,rfl,rfl,rfl⟩
 .split at h<;>cases h
  rename_i C;exact .inr (.inl ⟨_,_,rfl,rfl,C,rfl,rfl⟩)
 .split at h
  .split at h<;>cases h
   rename_i J U G;exact .inr (.inr ⟨_,_,J,U,G,rfl,rfl⟩)
  .cases h
def awf:Ah X (binaryOp .Mult) (rOp nm X.K (MW.yu .mul)):=ak4 ap9 (λ_ _ _=>rfl) λi j H Q h q=>⟨_,_,rfl,rfl,h,q⟩
def awg:Ah X (binaryOp .Add) (rOp nm X.K (MW.yu .add)) :=
 Ah.of (ap7.or (aqo.or akv)) λv u H Q ι M x y d M' S rv ru e q=>by
  have Z:∀xs R,MW.dw M x=some xs->MW.dw M y=some R->xs.length+R.length<=100000->d=.vl (xs++R)->M'=M->av0 v u H Q:=λxs R h1 h2 hl hd hm=>by
   subst hd hm;obtain⟨p,vs,rfl,e1,U⟩:=qt S rv h1;obtain⟨p2,qq,rfl,e2,G⟩:=qt S ru h2;refine⟨p,p2,vs,qq,rfl,rfl,e1,e2,?_,λp3 h3=>?_⟩
   .rw[<- U.length,<- G.length];exact bf hl Rg
   .obtain⟨a,b,c⟩:=Zv S h3 (U.append G)
    exact q ι _ _ b a c
  rcases ak5 e with⟨i,j,rfl,rfl,rfl,rfl⟩|⟨xs,R,rfl,rfl,hl,rfl,rfl⟩|⟨xs,R,h1,h2,hl,h3,h4⟩
  .cases rv;cases ru
   exact .inl ⟨_,_,rfl,rfl,q ι H _ (Le.refl _ _) S (.int _)⟩
  .cases rv with
   |tup e1 U =>
    cases ru with
    |tup e2 G =>
     refine .inr (.inr ⟨_,_,_,_,rfl,rfl,Ei.of e1,Ei.of e2,?_,λhn=>?_,λhn=>?_,λp hp=>?_⟩)
     .rw[<- U.length,<- G.length];exact bf hl Rg
     .have:=U.length
      rw[hn] at this;rw[List.length_eq_zero_iff.mp this,uz] at q;exact q ι H _ (Le.refl _ _) S (.tup e2 G)
     .have:=G.length
      rw[hn] at this;rw[List.length_eq_zero_iff.mp this,List.append_nil] at q;exact q ι H _ (Le.refl _ _) S (.tup e1 U)
     .obtain⟨a,b,c⟩:=Ik S hp (U.append G)
      exact q ι _ _ b a c
  .exact .inr (.inl (Z _ _ h1 h2 hl h3 h4))
def aqt{t:TE}(h:PT X a (λZ H Q=>t Z H λx H1=>∃c,x=.bl c/\Q c H1))(w:∀Z H Q,tE nm W X.K a' Z H Q->t Z H Q):PT X a (tQ nm W X.K a') :=
 PT.of h λZ H Q ι ρ M b M' S R e q=>w Z H _ ⟨ι,ρ,M,_,M',S,R,e,λG U v le S' r=>by cases r;exact⟨b,rfl,q G U le S'⟩⟩
def awi(h:PE X a (tE nm W X.K U))(G:∀Z,isTrue a X.env Z=(do let v <- Z;standAt a.pos;holding [v] (truthy v))):PT X a (tQ nm W X.K U) :=
 aqt (apr h G) λ_ _ _ q=>q
def Rz(G:Nm)(K:Fg)(U:Cp):R2:=λv u H Q=>∃Z M x y b,jr G K Z H M/\Rep K Z H x v/\Rep K Z H y u/\MW.Jg U x y M=some b/\Q (.bl b) H
def Xv{X:Cx}:∀U H Q,tE nm W X.K (.cmp G a' b') U H Q->tOp (Rz nm X.K G) (tE nm W X.K a') (tE nm W X.K b') U H Q:=λU H Q hh=>by obtain⟨ι,ρ,M,d,M',S,R,e,q⟩:=hh;rw[MW.O4] at e;obtain⟨x,M1,e1,e⟩:=d7 e;obtain⟨y,M2,e2,e⟩:=d7 e;obtain⟨e,rfl⟩:=uv e;obtain⟨b,e3,rfl⟩:=bw.mp e;exact two S R e1 e2 λZ H2 v u le S2 _ rv ru=>⟨Z,M',x,y,b,S2,rv,ru,e3,q Z H2 _ le S2 (.bl b)⟩
def awj(ho:Ah X (compareOp op) (Rz nm X.K Z))(U:PE X a (tE nm W X.K R))(hb:PE X b (tE nm W X.K G))(hm:behindInMarks op b=false):PE X (.Compare a [op] [b] pos) (tE nm W X.K (.cmp Z R G)) :=
 PE.weak (aki ho U hb hm) Xv
def awk(ho:Ah X (compareOp op) (Rz nm X.K Z))(R:PE X a (tE nm W X.K U))(hb:PE X b (tE nm W X.K G))(hm:behindInMarks op b=false):PT X (.Compare a [op] [b] pos) (tQ nm W X.K (.cmp Z U G)) :=
 aqt (t:=tOp (Rz nm X.K Z) (tE nm W X.K U) (tE nm W X.K G)) (akj ho R hb hm) Xv
def Rh{X:Cx}:∀σ H Q,tE nm W X.K (.chain op1 op2 a' b' c') σ H Q->Vt (Rz nm X.K op1) (Rz nm X.K op2) (tE nm W X.K a') (tE nm W X.K b') (tE nm W X.K c') σ H Q:=fun σ H Q hh=>by
 obtain⟨ι,ρ,M,d,M',S,R,e,q⟩:=hh;rw[MW.adb] at e;obtain⟨x,M1,e1,e⟩:=d7 e;obtain⟨y,M2,e2,e⟩:=d7 e;obtain⟨k,Z,e3,e⟩:=d7 e;obtain⟨e3,rfl⟩:=uv e3;refine two S R e1 e2 λU H2 v u le S2 R2 rv ru=>⟨U,Z,x,y,k,S2,rv,ru,e3,k,rfl,?_⟩
 cases k with
 |false =>
  have e:Res.ok (MW.D.bl false) Z=.ok d M':=e;cases e;exact q U H2 _ le S2 (.bl false)
 |true =>
  have e:((c'.den W ρ Z).bind λz M3=>Res.qi ((MW.Jg op2 y z M3).map MW.D.bl) M3)=.ok d M':=e;obtain⟨z,M3,e4,e⟩:=d7 e;obtain⟨e,rfl⟩:=uv e;obtain⟨b,e5,rfl⟩:=bw.mp e;show tE nm W X.K c' σ H2 _;exact one S2 R2 e4 λG H3 w Sx S3 _ rw=>⟨G,M',y,z,b,S3,ru.mono Sx,rw,e5,q G H3 _ (le.trans Sx) S3 (.bl b)⟩
def ak6(h1:Ah X (compareOp Z) (Rz nm X.K op1))(h2:Ah X (compareOp G) (Rz nm X.K op2))(ha:PE X a (tE nm W X.K a'))(hb:PE X b (tE nm W X.K R))(U:PE X c (tE nm W X.K c'))(hm:lastMarks [Z,G] [b,c]=false) :
 PE X (.Compare a [Z,G] [b,c] pos) (tE nm W X.K (.chain op1 op2 a' R c')):=PE.weak (agz h1 h2 ha hb U hm) Rh
def ak7(h1:Ah X (compareOp G) (Rz nm X.K op1))(h2:Ah X (compareOp o2) (Rz nm X.K op2))(ha:PE X a (tE nm W X.K R))(hb:PE X b (tE nm W X.K Z))(hc:PE X c (tE nm W X.K U))(hm:lastMarks [G,o2] [b,c]=false) :
 PT X (.Compare a [G,o2] [b,c] pos) (tQ nm W X.K (.chain op1 op2 R Z U)):=aqt (t:=Vt (Rz nm X.K op1) (Rz nm X.K op2) (tE nm W X.K R) (tE nm W X.K Z) (tE nm W X.K U)) (ag0 h1 h2 ha hb hc hm) Rh
def Vz(h:Ah X (compareOp op) (rI0 λi j=>.bl (f i j)))(e:∀x y M,MW.Jg Z x y M=MW.Wm f x y):Ah X (compareOp op) (Rz nm X.K Z) :=
 Ah.weak h λv u H Q hh=>by obtain⟨ι,M,x,y,b,S,R,U,G,q⟩:=hh;rw[e] at G;obtain⟨i,j,rfl,rfl,e2⟩:=MW.Y0 G (by intro z;cases z);cases R;cases U;cases e2;exact⟨_,_,rfl,rfl,q⟩
def a06:Ah X (compareOp .Lt) (Rz nm X.K .lt):=Vz avb λ_ _ _=>rfl
def a07:Ah X (compareOp .LtE) (Rz nm X.K .le):=Vz avc λ_ _ _=>rfl
def a08:Ah X (compareOp .Gt) (Rz nm X.K .gt):=Vz avd λ_ _ _=>rfl
def a09:Ah X (compareOp .GtE) (Rz nm X.K .ge):=Vz ave λ_ _ _=>rfl
set_option tactic.hygienic true in
def anb{Z:Ya}(ha:PE X a (tE nm W X.K a'))(hb:PE X (.BoolOp .And (b::Z) pos) (tE nm W X.K b')):PE X (.BoolOp .And (a::b::Z) pos) (tE nm W X.K (.and a' b')) :=
 PE.of (apu ha hb) fun σ H Q ι ρ M d M' S R e q=>by
  rw[MW.aam] at e;obtain⟨x,M1,e1,e⟩:=d7 e;refine one S R e1 λY L v le J C r=>?_
  cases r<;>try cases e
  rename_i k;refine⟨k,rfl,?_⟩;cases k with
  |false=>cases e;exact q Y L _ le J (.bl false)|true=>exact one J C e λG U w xn u _ r2=>q G U w (le.trans xn) u r2
set_option tactic.hygienic true in
def awl{Z:Ya}(ha:PE X a (tE nm W X.K a'))(hb:PE X (.BoolOp .Or (b::Z) pos) (tE nm W X.K b')):PE X (.BoolOp .Or (a::b::Z) pos) (tE nm W X.K (.or a' b')) :=
 PE.of (auu ha hb) fun σ H Q ι ρ M d M' S R e q=>by
  rw[MW.afb] at e;obtain⟨x,M1,e1,e⟩:=d7 e;refine one S R e1 λY L v le J C r=>?_
  cases r<;>try cases e
  rename_i k;refine⟨k,rfl,?_⟩;cases k with
  |true=>cases e;exact q Y L _ le J (.bl true)|false=>exact one J C e λG U w xn u _ r2=>q G U w (le.trans xn) u r2
def awm(U:PE X a (tE nm W X.K a')):PE X (.UnaryOp .Not a pos) (tE nm W X.K (.not a')) :=
 PE.of (apv U) fun σ H Q ι ρ M d M' S R e q=>by
  rw[MW.aan] at e;obtain⟨x,M1,G,e⟩:=d7 e;refine one S R G λZ H1 v le S1 R1 r=>?_
  cases r<;>try cases e
  exact⟨_,rfl,q Z H1 _ le S1 (.bl _)⟩
def V0{X:Cx}{M1:dg}(S:jr nm X.K ι H M)(R:ph X.K ι H ρ σ)(ha:a'.den W ρ M=.ok (.bl k) M1)(h:∀Z U,Le ι H Z U->jr nm X.K Z U M1->ph X.K Z U ρ σ->G k U):tQ nm W X.K a' σ H G :=
 ⟨ι,ρ,M,k,M1,S,R,ha,λqq H' le S'=>h qq H' le S' (R.mono le)⟩
set_option tactic.hygienic true in
def anc{rest:Ya}(ha:PT X a (tQ nm W X.K a'))(hb:PW X (.BoolOp .And (b::rest) pos) (tQ nm W X.K b')):PW X (.BoolOp .And (a::b::rest) pos) (tQ nm W X.K (.and a' b')) :=
 λZ Y s σ H Q I ⟨ι,ρ,M,d,M',S,R,e,q⟩=>apt ha hb Z Y s σ H Q I (by
  rw[MW.aam] at e;obtain⟨x,M1,L,e⟩:=d7 e;cases x<;>try cases e
  rename_i k;refine V0 S R L λG H1 le U u=>?_
  cases k with
  | false=>cases e;exact q G H1 le U|true=>exact V0 U u e λJ C xn S2 _=>q J C (le.trans xn) S2)
set_option tactic.hygienic true in
def awn{rest:Ya}(ha:PT X a (tQ nm W X.K a'))(hb:PW X (.BoolOp .Or (b::rest) pos) (tQ nm W X.K b')):PW X (.BoolOp .Or (a::b::rest) pos) (tQ nm W X.K (.or a' b')) :=
 λZ Y s σ H Q I ⟨ι,ρ,M,d,M',S,R,e,q⟩=>aur ha hb Z Y s σ H Q I (by
  rw[MW.afb] at e;obtain⟨x,M1,L,e⟩:=d7 e;cases x<;>try cases e
  rename_i k;refine V0 S R L λG H1 le U u=>?_
  cases k with
  | true=>cases e;exact q G H1 le U|false=>exact V0 U u e λJ C xn S2 _=>q J C (le.trans xn) S2)
def awo(U:PT X a (tQ nm W X.K a')):PT X (.UnaryOp .Not a pos) (tQ nm W X.K (.not a')) :=
 PT.of (ags U) fun σ H Q ι ρ M d M' S R e q=>by
  rw[MW.aan] at e;obtain⟨x,M1,G,e⟩:=d7 e;cases x<;>try cases e
  exact V0 S R G λZ H1 le S1 R1=>q Z H1 le S1
def ab5:PA X [] (Xr nm W X.K .nil):=PA.of aqe fun σ H Q Z ρ M G U S R e q=>by rw[MW.Be] at e;cases e;exact q Z H _ (Le.refl _ _) S .nil
def V1{X:Cx}{M1:dg}(S:jr nm X.K ι H M)(R:ph X.K ι H ρ σ)(ha:es'.den W ρ M=.ok ds M1)(h:∀Z U vs,Le ι H Z U->jr nm X.K Z U M1->ph X.K Z U ρ σ->kj X.K Z U ds vs->G vs U):Xr nm W X.K es' σ H G :=
 ⟨ι,ρ,M,ds,M1,S,R,ha,λqq H' v le S' r=>h qq H' v le S' (R.mono le) r⟩
def V2(ha:PE X a (tE nm W X.K a'))(hr:PA X es (Xr nm W X.K Z))(hs:starEach (a::es) X.env=(false,eval a X.env)::starEach es X.env):PA X (a::es) (Xr nm W X.K (.cons a' Z)) :=
 PA.of (akl ha hr hs) fun σ H Q ι ρ M ds M' S R e q=>by rw[MW.zb] at e;obtain⟨x,M1,e1,e⟩:=d7 e;obtain⟨xs,M2,e2,e⟩:=d7 e;cases e;exact one S R e1 λqq H1 v le S1 R1 r1=>V1 S1 R1 e2 λG H2 vs U S2 R2 r2=>q G H2 _ (le.trans U) S2 (.cons (r1.mono U) r2)
noncomputable def Dl.len:Dl->Nat
 |.nil=>0|.cons _ r=>Dl.len r+1
theorem J5{W:Kl}:∀{Z:Dl}{R:En}{M G:dg}{U:List Dv},Z.den W R M=.ok U G->U.length=Dl.len Z
 |.nil,_,_,_,_,e=>by rw[MW.Be] at e;cases e;rfl
 |.cons _ r,_,_,_,_,e=>by
  rw[MW.zb] at e;obtain⟨x,G,e1,e⟩:=d7 e;obtain⟨xs,M2,e2,e⟩:=d7 e;cases e;rw[gm,J5 e2];rfl
def awp(h:PA X es (Xr nm W X.K Z))(hl:Dl.len Z<=1000):PE X (.Tuple es k pos) (tE nm W X.K (.tup Z)) :=
 PE.of (aqf h) fun σ H Q ι ρ M d M' S R e q=>by
  rw[MW.aje] at e;obtain⟨ds,M1,U,e⟩:=d7 e;cases e;refine V1 S R U λG H1 vs le S1 R1 r=>⟨?_,λp hp=>?_⟩
  .rw[<- r.length,J5 U];exact bf hl (by decide)
  .obtain⟨S2,xn,r2⟩:=Ik S1 hp r
   exact q G _ _ (le.trans xn) S2 r2
def aqv(h:PA X es (Xr nm W X.K Z))(hl:Dl.len Z<=1000):PE X (.List es pos) (tE nm W X.K (.Df Z)) :=
 PE.of (ag3 h) fun σ H Q ι ρ M d M' S R e q=>by
  rw[MW.Jh] at e;obtain⟨ds,M1,U,e⟩:=d7 e;cases e;refine V1 S R U λG H1 vs le S1 R1 r=>⟨?_,λp hp=>?_⟩
  .rw[<- r.length,J5 U];exact bf hl (by decide)
  .obtain⟨S2,xn,r2⟩:=Zv S1 hp r
   exact q G _ _ (le.trans xn) S2 r2
def awq(h:PA X es (Xr nm W X.K Z))(hl:Dl.len Z<=1000):PE X (.List es pos) (tE nm W X.K (.lst Z)) :=
 PE.of (ag3 h) fun σ H Q ι ρ M d M' S R e q=>by
  rw[MW.ajf] at e;obtain⟨ds,M1,G,e⟩:=d7 e;cases e;refine V1 S R G λU H1 vs le S1 R1 r=>⟨?_,λp hp=>?_⟩
  .rw[<- r.length,J5 G];exact bf hl (by decide)
  .obtain⟨S2,xn,r2⟩:=ab4 S1 hp r
   exact q _ _ _ (le.trans xn) S2 r2
def awr(U:PE X a (tE nm W X.K a')):PE X (.UnaryOp .USub a pos) (tE nm W X.K (.neg a')) :=
 PE.of (au7 aqc U) fun σ H Q ι ρ M d M' S R e q=>by
  rw[MW.ajd] at e;obtain⟨x,M1,G,e⟩:=d7 e;refine one S R G λZ H1 v le S1 R1 r=>?_
  cases r<;>try cases e
  exact⟨_,rfl,q Z H1 _ le S1 (.int _)⟩
open PyProof.Rows (subscriptTail)
section
variable{κ:Type}[DecidableEq κ]{K:Fg}{ι:Io}{H:Hp}
theorem wj.length{κ Z:Type}{f:κ->Z->Prop}:∀{l:List (κ×Dv)}{G:List (Z×V)},wj K ι H f l G->l.length=G.length:=by intro _ _ h;induction h with|nil=>rfl|cons _ _ _ ih=>rw[gm,gm,ih]
theorem wj.look{k:κ}:∀{G:List (κ×Dv)}{l:List (κ×V)},wj K ι H (λk U=>k=U) G l->(∀d,MW.Jb G k=some d->∃v,Xh l k=some v/\Rep K ι H d v)/\(MW.Jb G k=none->Xh l k=none)
 |_,_,.nil=>⟨λd h=>by simp[MW.Jb] at h,λ_=>rfl⟩
 |_,_,.cons (k:=q) (k':=q') hk h t=>by
  subst hk;obtain⟨a,b⟩:=wj.look (k:=k) t
  by_cases e:q=k
  .refine⟨λd Z=>?_,λZ=>?_⟩
   .simp[MW.Jb,qm,e] at Z
    subst Z;exact⟨_,Xi e,h⟩
   .simp[MW.Jb,qm,e] at Z
  .have z:∀(d:Dv) r,MW.Jb ((q,d)::r) k=MW.Jb r k:=λd r=>by simp[MW.Jb,qm,e]
   rw[z,Xj (by exact e)];exact⟨a,b⟩
theorem wj.snoc{κ Z:Type}{f:κ->Z->Prop}{k:κ}{U:Z}{d:Dv}{v:V}(G:f k U)(r:Rep K ι H d v):∀{l:List (κ×Dv)}{R:List (Z×V)},wj K ι H f l R->wj K ι H f (l++[(k,d)]) (R++[(U,v)])
 |_,_,.nil=>.cons G r .nil|_,_,.cons q h t=>.cons q h (wj.snoc G r t)
def aqw(r:Rep K ι H d v)(h:MW.aoe d=some k):v=kV k:=by cases r<;>simp[MW.aoe] at h<;>subst h<;>rfl
set_option tactic.hygienic true in
theorem ahk:∀{Y:List Dv}{Z:List V}{G:List Kx},kj K ι H Y Z->MW.ae7 Y=some G->Z=G.map kV
 |_,_,_,.nil,h=>by simp[MW.ae7] at h;subst h;rfl
 |_,_,_,.cons r t,h=>by
  simp only[MW.ae7] at h;split at h
  .rename_i k J U C
   cases h;rw[aqw r U,ahk t C];rfl
  .cases h
def aqx(r:Rep K ι H d v)(h:MW.Yz d=some Z):∃b,v=.ref b/\H b=some (.tup (Z.map kV)):=by
 cases r with
 |tup e r=>exact⟨_,rfl,by rw[<- ahk r h];exact e⟩|_=>simp[MW.Yz] at h
end
def a1a(G:Nm)(K:Fg):R2:=λv u H Q=>∃Z M x y d,jr G K Z H M/\Rep K Z H x v/\Rep K Z H y u/\MW.t6 x y M=some d/\∀w,Rep K Z H d w->Q w H
set_option tactic.hygienic true in
def aqy:IxR X (a1a nm X.K):=by
 intro Z Y G s σ H v u v' u' Q I rv ru ⟨ι,M,x,y,d,S,rx,ry,e,q⟩ hs;have U:∀(p:Addr)(J:List V)(R:List Dv),v=.ref p->(Dm X.K H p J\/Ei X.K H p J)->kj X.K ι H R J->(match y with|.int i=>(MW.Ln R.length i).bind λj=>R[j]?|_=>none)=some d ->
  wpAny (model X.prog X.w) X.A (subscriptTail Z Y v' u') (EP X G σ Q) X.xe s:=λp J R hv hq r e=>by
  subst hv;obtain⟨i,qk⟩:∃i,y=.int i:=by cases y<;>first|exact⟨_,rfl⟩|cases e
  subst qk;cases ry;obtain⟨j,C,e2⟩:=j8.mp e;obtain⟨z,h1,h2⟩:=r.get e2;have qq:Du J i=some z:=by unfold Du;rw[show ixN J.length i=some j from by rw[<- r.length];exact C];exact h1
  rcases hq with hq|hq
  .exact L2.w5 Z Y G s σ H _ _ v' u' Q I rv ru ⟨p,J,i,z,rfl,rfl,hq,qq,q z h2⟩ hs
  .exact L2.Ho Z Y G s σ H _ _ v' u' Q I rv ru ⟨p,J,i,z,rfl,rfl,hq,qq,q z h2⟩ hs
 cases rx with
 |tup C r1=>exact U _ _ _ rfl (.inr (Ei.of C)) r1 (by cases ry<;>first|exact e|(simp[MW.t6,MW.jl] at e))
 |vl C n1 r1=>exact U _ _ _ rfl (.inl (Dm.of C)) r1 (by cases ry<;>first|exact e|(simp[MW.t6,MW.jl,MW.dw] at e))
 |fz C r1=>exact U _ _ _ rfl (.inl C.sq) r1 (by cases ry<;>first|exact e|(simp[MW.t6] at e))
 |ref C =>
  rename_i n p;have L:=e;simp only[MW.t6,MW.jl] at L;cases hl:MW.dw M (.ref n) with
  |none=>rw[hl] at L;cases L
  |some R =>
   obtain⟨p',J,hp,h1,h2⟩:=qt S (.ref C) hl;cases hp;rw[hl] at L;exact U _ _ _ rfl (.inl (Dm.of h1)) h2 (by cases ry<;>first|exact L|cases L)
 |_=>simp[MW.t6,MW.jl,MW.dw] at e
def a1b(ha:PE X a (tE nm W X.K a'))(hb:PE X b (tE nm W X.K b'))(hs:Vu b):PE X (.Subscript a b pos) (tE nm W X.K (.ix a' b')) :=
 PE.of (avt (aqy (nm:=nm)) ha hb hs) fun σ H Q ι ρ M d M' S R e q=>by rw[MW.aoo] at e;obtain⟨x,M1,e1,e⟩:=d7 e;obtain⟨y,M2,e2,e⟩:=d7 e;obtain⟨e,rfl⟩:=uv e;exact two S R e1 e2 λZ U v u le G _ rv ru=>⟨Z,M',x,y,d,G,rv,ru,e,λw r=>q Z U w le G r⟩
open MW (Ex Dl OEx Ld yt jw Lv Tg Res dg MO Kl Cp Op2 Blt Bm Kx Src)
noncomputable def V3:Expr->Bool
 |.ListComp ..=>false|.SetComp ..=>false|.DictComp ..=>false|_=>true
def Oj(h:V3 e=true)(t:Option Expr)(l:Nat)(Z:Env):swapsWith e t l Z=pure false:=by cases e<;>first|rfl|(cases h)
noncomputable def Fl:Expr->Bool
 |.Set ..=>false|_=>true
def Bv(h:Fl e=true)(Z:Env)(x:Value):foldedSetIterable e Z x=pure x:=by cases e<;>first|rfl|(cases h)
def Ol(h:Fl e=true)(Z:CmpOp):behindInMarks Z e=false:=by cases e<;>first|rfl|(cases h)
noncomputable def ane:Expr->Bool
 |.Tuple ..=>false|_=>true
noncomputable def noStar:Expr->Bool
 |.Starred ..=>false|_=>true
def qu(h:noStar e=true)(Z:Ya)(env:Env):starEach (e::Z) env=(false,eval e env)::starEach Z env:=by cases e<;>first|rfl|(cases h)
noncomputable def V4:Expr->Bool
 |.Slice ..=>false|_=>true
def ahl(h:V4 e=true):Vu e:=by intro o i;cases e<;>first|rfl|(cases h)
noncomputable def yf:Tg->List Nat
 |.name i=>[i]|.names is=>is
def tGt(nm:Nm)(K:Fg)(t:Tg):TG:=λv R H Q=>∃U ρ M d G,jr nm K U H M/\ph K U H ρ R/\Rep K U H d v/\t.put d ρ=some G/\∀Z,ph K U H G Z->Z.length=R.length->(∀j,j∉yf t->Z[j]?=R[j]?)->Q Z H
def PG.weak(h:PG X tg t)(w:∀v Z H Q,t' v Z H Q->t v Z H Q):PG X tg t':=λG s Z H v u Q I r q=>h G s Z H v u Q I r (w v Z H Q q)
def PG.of(h:PG X tg t)(w:∀v σ H Q U ρ M d Z,jr nm X.K U H M->ph X.K U H ρ σ->Rep X.K U H d v->tt.put d ρ=some Z->(∀G,ph X.K U H Z G->G.length=σ.length->(∀j,j∉yf tt->G[j]?=σ[j]?)->Q G H)->t v σ H Q):PG X tg (tGt nm X.K tt) :=
 PG.weak h λv σ H Q z_=>by obtain⟨U,ρ,M,d,Z,S,R,r,e,q⟩:=z_;exact w v σ H Q U ρ M d Z S R r e q
def aqz(hN:X.N.Nodup)(hi:X.N[i]?=some n)(Z:Loc X.env.scope n)(U:X.fn n=true\/X.env.scope.names.lookup n=some .local):PG X (.Name n pos) (tGt nm X.K (.name i)) :=
 PG.of (Vs hN hi Z U) λv σ H Q ι ρ M d G S R r e q=>by cases e;exact q _ (R.set r i) (by simp) λj hj=>qg (λz=>hj (by simp[yf,z]))
noncomputable def Il:List Nat->List V->St->St
 |i::is,v::vs,σ=>Il is vs (σ.set i (some v))|_,_,σ=>σ
theorem Ri{Z:Io}{H:Hp}{K:Fg}:∀{is:Y3}{U:List Dv}{G:List V}{ρ:En}{σ:St},ph K Z H ρ σ->kj K Z H U G->ph K Z H (MW.Gk is U ρ) (Il is G σ)
 |[],_,_,_,_,R,r=>by cases r<;>exact R|_::_,_,_,_,_,R,.nil=>R|i::is,_,_,_,_,R,.cons h t=>Ri (is:=is) (R.set h i) t
theorem Mp:∀{is:Y3}{G:List V}{Z:St}{j:Nat},j∉is->(Il is G Z)[j]?=Z[j]?
 |[],G,Z,j,_=>by cases G<;>rfl|i::is,[],Z,j,_=>rfl
 |i::is,v::G,Z,j,h=>by
  show(Il is G (Z.set i (some v)))[j]?=_;rw[Mp (λz=>h (bu _ z)),qg (λz=>h (by rw[z];exact bz))]
theorem Om:∀{is:Y3}{G:List V}{Z:St},(Il is G Z).length=Z.length
 |[],G,Z=>by cases G<;>rfl|_::_,[],Z=>rfl|i::is,v::G,Z=>by show(Il is G (Z.set i (some v))).length=_;rw[Om,vz]
inductive Im(X:Cx):List Expr->List Nat->Prop
 |nil:Im X [] []
 |cons {n:Str} {p:Pos} {i:Nat} {ts:Ya} {is:Y3} (hi:X.N[i]?=some n) (hx:Loc X.env.scope n) (hf:X.fn n=true\/X.env.scope.names.lookup n=some .local) (t:Im X ts is):Im X (.Name n p::ts) (i::is)
theorem Xw{X:Cx}(hN:X.N.Nodup):∀{ts:Ya}{is:Y3},Im X ts is->PGs X ts (λG U H Q=>G.length=is.length/\Q (Il is G U) H)
 |_,_,.nil=>λZ s U H G us Q I r q=>by
  obtain⟨R,h2⟩:=q;have hv:G=[]:=List.length_eq_zero_iff.mp R;subst hv;exact ake Z s U H [] us Q I r ⟨rfl,h2⟩
 |_,_,.cons hi hx hf t=>λZ s U H G us Q I r q=>by
  obtain⟨R,h2⟩:=q;cases G with
  |nil=>simp at R|cons v G=>exact agu (Vs hN hi hx hf) (Xw hN t) (by rfl) Z s U H (v::G) us Q I r ⟨v,G,rfl,by simpa using R,h2⟩
theorem Cw{X:Cx}{env:Env}:∀{Z:Ya}{is:Y3},Im X Z is->(assignEach Z env).length=is.length/\(assignEach Z env).findIdx? (·.1)=none
 |_,_,.nil=>⟨rfl,rfl⟩
 |_,_,.cons hi hx hf t=>by
  obtain⟨G,U⟩:=Cw (env:=env) t;refine⟨by simp[assignEach,G],?_⟩;simp[assignEach,List.findIdx?_cons];simpa using U
set_option tactic.hygienic true in
def ak8(u:X.calm=true)(C:X.N.Nodup)(h:Im X G is):PG X (.Tuple G k pos) (tGt nm X.K (.names is)) :=
 PG.of (apz u (Xw C h) (Cw h).1 (Cw h).2) λv σ H Q ι ρ M d U S R r e q=>by
  cases r with
  |tup J Z =>
   simp only[Tg.put] at e;split at e<;>cases e;rename_i Y;exact⟨_,_,rfl,Ei.of J,by rw[<- Z.length];exact Y,by rw[<- Z.length];exact Y,q _ (Ri R Z) Om λj L=>Mp L⟩
  |_=>simp[Tg.put] at e
def ahm(he:PE X a (tE nm W X.K a'))(hg:PG X tg (tGt nm X.K t))(hs:swapsWithSole [tg] a pos.line X.env=pure false)(hw:swappedStores [tg] a X.env=pure none)(h1:(assignEach [tg] X.env).map (·.2)=[assign tg X.env]) :
 PS X (.Assign [tg] a pos) (tS nm W X.K (.asg (.tg t) a')) :=
 PS.of (agv he hg hs hw h1) λD σ H ι ρ M fl G M' S R e q=>by rw[MW.Qc] at e;obtain⟨x,M1,e1,e⟩:=d7 e;obtain⟨qq,M2,e2,e⟩:=d7 e;cases e;rw[MW.Qd] at e2;obtain⟨e3,e4⟩:=uv e2;subst e4;exact one S R e1 λZ H1 v le S1 R1 r=>⟨Z,ρ,_,x,G,S1,R1,r,e3,λU R' _ _=>q Z H1 U le S1 R'⟩
def aq0(he:PE X a (tE nm W X.K a'))(G:swapsWith a none pos.line X.env=pure false):PS X (.Expr a pos) (tS nm W X.K (.expr a')) :=
 PS.of (akd he G) λD σ H ι ρ M fl qq M' S R e q=>by rw[MW.aar] at e;obtain⟨x,M1,U,e⟩:=d7 e;cases e;exact one S R U λZ H1 v le S1 R1 r=>q Z H1 σ le S1 R1
def aws(he:PE X a (tE nm W X.K a')):PS X (.Return (some a) pos) (tS nm W X.K (.ret a')) :=
 PS.of (apw he) λD σ H ι ρ M fl U M' S R e q=>by rw[MW.aor] at e;obtain⟨x,M1,G,e⟩:=d7 e;cases e;exact one S R G λZ H1 v le S1 R1 r=>q Z H1 σ le S1 R1 v r
def Rf.mono{X:Cx}(le:Le ι H G H')(q:Rf nm X.K D ι H fl ρ M):Rf nm X.K D G H' fl ρ M:=λZ R U xn S2 R2=>q Z R U (le.trans xn) S2 R2
set_option tactic.hygienic true in
def awt(hc:PT X c (tQ nm W X.K c'))(ht:Ml X ts (tSs nm W X.K J))(hf:Ml X fs (tSs nm W X.K G)):PS X (.If c ts fs pos) (tS nm W X.K (.iff c' J G)) :=
 PS.of (auz hc ht hf) λD σ H ι C M u Z M' S R e q=>by
  rw[MW.aoq] at e;obtain⟨x,L,e1,e⟩:=d7 e;cases x<;>try cases e
  rename_i k;refine V0 S R e1 λY H1 le S1 U=>?_
  cases k with
  |true=>exact⟨Y,C,L,u,Z,M',S1,U,e,q.mono le⟩|false=>exact⟨Y,C,L,u,Z,M',S1,U,e,q.mono le⟩
def aq1:Ml X [] (tSs nm W X.K .nil):=Ml.of akc λD U H G ρ M fl Z M' S R e q=>by rw[MW.aas] at e;cases e;exact q G H U (Le.refl _ _) S R
def ak9{G:List Stmt}(h1:PS X st (tS nm W X.K q0))(h2:Ml X G (tSs nm W X.K rest')):Ml X (st::G) (tSs nm W X.K (.cons q0 rest')) :=
 Ml.of (agt h1 h2) λD σ H ι ρ M fl qv M' S R e q=>by
  rw[MW.afg] at e;obtain⟨⟨qk,qq⟩,M1,e1,e⟩:=d7 e;refine⟨ι,ρ,M,qk,qq,M1,S,R,e1,λZ H1 U le S1 R1=>?_⟩;cases qk with
  |next=>exact⟨Z,qq,M1,fl,qv,M',S1,R1,e,q.mono le⟩|brk=>cases e;exact q Z H1 U le S1 R1|cont=>cases e;exact q Z H1 U le S1 R1|ret d=>cases e;exact q Z H1 U le S1 R1
set_option tactic.hygienic true in
def anf(hp:PassesOwn (model X.prog X.w) X.A X.env X.xe)(hc:PT X c (tQ nm W X.K c'))(hb:Ml X body (tSs nm W X.K Rj)):PS X (.While c body [] pos) (tS nm W X.K (.whl c' Rj)) :=
 PS.of (agw hp hc hb) λD σ H ι ρ M fl qk M' S R e q=>by
  rw[MW.Nf] at e;refine⟨λm qq H1=>∃J U M1,Le ι H J H1/\jr nm X.K J H1 M1/\ph X.K J H1 U qq/\MW.Ak (c'.den W) (Rj.den W) m U M1=.ok (fl,qk) M',⟨MW.Sd,ι,ρ,M,Le.refl _ _,S,R,e⟩,?_⟩;rintro m qq H1 ⟨J,U,M1,Xu,S1,R1,Y⟩;cases m with
  |zero=>cases Y
  |succ m =>
   simp only[MW.Ak] at Y;obtain⟨x,M2,e2,Y⟩:=d7 Y;cases x<;>try cases Y
   rename_i k;refine V0 S1 R1 e2 λq1 H2 xn S2 R2=>?_
   cases k with
   |false=>cases Y;exact q q1 H2 qq (Xu.trans xn) S2 R2
   |true =>
    obtain⟨⟨q0,L⟩,M3,e3,Y⟩:=d7 Y;refine⟨λG u=>∃Z qv M4,Le ι H Z u/\jr nm X.K Z u M4/\ph X.K Z u qv G/\MW.Ak (c'.den W) (Rj.den W) m qv M4=.ok (fl,qk) M',λG u h4=>⟨m,ur _,h4⟩,q1,U,M2,q0,L,M3,S2,R2,e3,λZ u G C S4 R4=>?_⟩;cases q0 with
    |next=>exact⟨Z,L,M3,(Xu.trans xn).trans C,S4,R4,Y⟩|cont=>exact⟨Z,L,M3,(Xu.trans xn).trans C,S4,R4,Y⟩|brk=>cases Y;exact q Z u G ((Xu.trans xn).trans C) S4 R4|ret d=>cases Y;exact q Z u G ((Xu.trans xn).trans C) S4 R4
def ad9(nm:Nm)(K:Fg)(ι:Io)(H:Hp)(s:Src)(J:It):Prop:=∀Z G R,LeX ι H Z G->jr nm K Z G R ->
 (∀i d,i<s.len->s.item i R=some d->J.go i G/\∀v U,J.yld i G v U->Le Z G Z U/\jr nm K Z U R/\Rep K Z U d v)/\(s.fin R=true->J.stop s.len G)
def tI(nm:Nm)(W:Kl)(K:Fg)(it:Ld):TI:=fun σ H R=>∃U ρ M s M',jr nm K U H M/\ph K U H ρ σ/\it.den W ρ M=.ok s M'/\∀Z G J,Le U H Z G->jr nm K Z G M'->ad9 nm K Z G s J->R J G
set_option tactic.hygienic true in
def awv(hp:PassesOwn (model X.prog X.w) X.A X.env X.xe)(hc:X.calm=true)(hi:PI X tg iter (tI nm W X.K it))(hg:PG X tg (tGt nm X.K t))(hb:Ml X body (tSs nm W X.K Rj))(hs:Fl iter=true):PS X (.For tg iter body [] pos) (tS nm W X.K (.for_ t it Rj)) :=
 PS.of (ap3 hp hc hi hg hb (Bv hs X.env)) λD σ H ι ρ M fl G M' S R e q=>by
  rw[MW.afe] at e;obtain⟨s,M1,e1,e⟩:=d7 e;refine⟨ι,ρ,M,s,M1,S,R,e1,λqk H1 J Xu S1 sj=>?_⟩;refine⟨λi m qv H2=>m=s.len-i/\i<=s.len/\∃Y qq M2,Le qk H1 Y H2/\jr nm X.K Y H2 M2/\ph X.K Y H2 qq qv/\MW.Aj s.fin s.item (λd ρ M=>match t.put d ρ with|some G=>Rj.den W G M|none=>.bad) m i qq M2=.ok (fl,G) M',
   ⟨s.len,rfl,gn _,qk,ρ,M1,Le.refl _ _,S1,R.mono Xu,e⟩,?_⟩
  rintro i m qv H2 ⟨hm,q6,Y,qq,M2,xn,S2,R2,U⟩;obtain⟨go,q1⟩:=sj Y H2 M2 xn.toX S2;cases m with
  |zero =>
   simp only[MW.Aj] at U;split at U<;>cases U;rename_i Qe;have hi:i=s.len:=by lia
   subst hi;exact .inl ⟨q1 Qe,q Y H2 qv (Xu.trans xn) S2 R2⟩
  |succ m =>
   simp only[MW.Aj] at U;split at U
   .cases U
   .rename_i d hd
    obtain⟨⟨q3,q0⟩,M3,e3,U⟩:=d7 U;obtain⟨g1,g2⟩:=go i d (by omega) hd;refine .inr ⟨g1,λC H4=>∃Z L M4,Le qk H1 Z H4/\jr nm X.K Z H4 M4/\ph X.K Z H4 L C/\MW.Aj s.fin s.item (λd ρ M=>match t.put d ρ with|some G=>Rj.den W G M|none=>.bad) m (i+1) L M4=.ok (fl,G) M',
     λC H4 ⟨Z,L,M4,h4⟩=>⟨m,ur _,by omega,by omega,Z,L,M4,h4⟩,λv H3 yv=>?_⟩
    obtain⟨Sx,S3,r3⟩:=g2 v H3 yv;split at e3
    .rename_i q2 Zw
     refine⟨Y,qq,M2,d,q2,S3,R2.mono Sx,r3,Zw,λq5 R5 _ _=>⟨Y,q2,M2,q3,q0,M3,S3,R5,e3,λZ H4 C q4 S4 R4=>?_⟩⟩;have u:=(xn.trans Sx).trans q4;cases q3 with
     |next=>exact⟨Z,q0,M3,u,S4,R4,U⟩|cont=>exact⟨Z,q0,M3,u,S4,R4,U⟩|brk=>cases U;exact q Z H4 C (Xu.trans u) S4 R4|ret d=>cases U;exact q Z H4 C (Xu.trans u) S4 R4
    .cases e3
section
variable{nm:Nm}{W:Kl}{X:Cx}{a b c:Expr}{a' b' c':Ex}{pos pos':Pos}{ι:Io}{H:Hp}{σ:St}{ρ:En}{M M1 M2:dg}{x y:Dv}{es:Ya}{es':Dl}{tg iter elt:Expr}
def PI.weak(h:PI X tg iter G)(w:∀σ H R,wi' σ H R->G σ H R):PI X tg iter wi':=λZ s σ H R I q=>h Z s σ H R I (w σ H R q)
def PI.of(h:PI X tg iter wi)(w:∀σ H G ι ρ M s U,jr nm X.K ι H M->ph X.K ι H ρ σ->it.den W ρ M=.ok s U->(∀Z H' J,Le ι H Z H'->jr nm X.K Z H' U->ad9 nm X.K Z H' s J->G J H')->wi σ H G):PI X tg iter (tI nm W X.K it) :=
 PI.weak h fun σ H G z_=>by obtain⟨ι,ρ,M,s,U,S,R,e,q⟩:=z_;exact w σ H G ι ρ M s U S R e q
def aq2(hl:PE X l tl):PI X tg l (fun σ H R=>tl σ H λx U=>∃a,x=.ref a/\((∃xs,Dm X.K U a xs)/\R (Itl X.K a) U\/(∃xs,Ei X.K U a xs)/\R (Itt X.K a) U)):=by
 intro qq s σ H R I h;refine ym (hl qq s σ H _ I h) λv Z z_=>?_
 obtain⟨x,U,G,r1,q1⟩:=z_;obtain⟨a,e,⟨⟨xs,hq⟩,q⟩|⟨⟨xs,hq⟩,q⟩⟩:=q1
 .subst e
  cases r1;obtain⟨ql,rv,p,hz⟩:=G.list hq;refine wpAny_pyIter_list p.isList ?_;refine⟨Z.heap.objs.size,[Z.heap.objs.size],_,_,U,rfl,G.kept (t':=Z.toks) λb o e=>au _ e,adw a _,⟨_,bj _ rfl,rfl,rfl⟩,λb hb=>?_,q⟩;have e:b=Z.heap.objs.size:=by simpa using hb
  subst e;exact G.adu (bc _) (G.zg.fresh (bc _))
 .subst e
  cases r1;obtain⟨ql,rv,p,hz⟩:=G.tuple hq;refine lg (show Z.heap.IsTuple a ql.toArray from p) ?_;refine⟨Z.heap.objs.size,[Z.heap.objs.size],_,_,U,rfl,G.kept (t':=Z.toks) λb o e=>au _ e,Zh a _,⟨_,bj _ rfl,rfl,rfl⟩,λb hb=>?_,q⟩;have e:b=Z.heap.objs.size:=by simpa using hb
  subst e;exact G.adu (bc _) (G.zg.fresh (bc _))
def Ud{p:Addr}{ds:List Dv}{s:Src}(hs:∀Z U M1,LeX ι H Z U->jr nm X.K Z U M1->(∀i d,s.item i M1=some d->∃G v,U p=some (.lst G)/\G[i]?=some v/\Rep X.K Z U d v)/\(s.fin M1=true->∃G,U p=some (.lst G)/\G.length<=s.len)) :
 ad9 nm X.K ι H s (Itl X.K p):=λZ U M1 le S1=>by
 obtain⟨a,b⟩:=hs Z U M1 le S1;refine⟨λi d hi hd=>?_,λhf=>?_⟩
 .obtain⟨G,v,R,h2,h3⟩:=a i d hd
  refine⟨⟨G,v,Dm.of R,h2⟩,λu H2 ⟨e,y⟩=>?_⟩;subst e;have:=y G (Dm.of R);rw[h2] at this;cases this;exact⟨Le.refl _ _,S1,h3⟩
 .obtain⟨G,R,h2⟩:=b hf
  exact⟨G,Dm.of R,h2⟩
set_option tactic.hygienic true in
def aww(ha:PE X a (tE nm W X.K a')):PI X tg a (tI nm W X.K (.val a')) :=
 PI.of (aq2 ha) fun σ H R' ι ρ M s M' S R e q=>by
  rw[MW.Fp] at e;obtain⟨x,M1,e1,e⟩:=d7 e;obtain⟨e,rfl⟩:=uv e;refine one S R e1 λU H1 v le S1 R1 r=>?_
  cases r with
  |@tup p Z J h1 r1 =>
   simp only[MW.srcOf] at e;cases e;refine⟨p,rfl,.inr ⟨⟨J,Ei.of h1⟩,q U H1 _ le S1 λqk H2 M2 G S2=>⟨λi d hi Y=>?_,λ_=>⟨J,Ei.of (G.tup _ _ h1),by rw[<- r1.length];exact bc _⟩⟩⟩⟩;have Y:Z[i]?=some d:=Y;obtain⟨v,g1,g2⟩:=(r1.Gi G).get Y;refine⟨⟨J,v,Ei.of (G.tup _ _ h1),g1⟩,λu H3 ⟨ee,yy⟩=>?_⟩;subst ee;have:=yy J (Ei.of (G.tup _ _ h1));rw[g1] at this;cases this;exact⟨Le.refl _ _,S2,g2⟩
  |@vl p Z J h1 n1 r1 =>
   simp only[MW.srcOf] at e;cases e;refine⟨p,rfl,.inl ⟨⟨J,Dm.of h1⟩,q U H1 _ le S1 (Ud (ds:=Z) λqk H2 M2 G S2=>⟨λi d Y=>?_,λ_=>⟨J,G.lst _ _ n1.1 h1,by rw[<- r1.length];exact bc _⟩⟩)⟩⟩;have Y:Z[i]?=some d:=Y;obtain⟨v,g1,g2⟩:=(r1.Gi G).get Y;exact⟨J,v,G.lst _ _ n1.1 h1,g1,g2⟩
  |@ref n p h1 =>
   simp only[MW.srcOf] at e;obtain⟨Z,hn,rfl⟩:∃Z,M'[n]?=some (.lst Z)/\s=.live n Z.length:=by
    split at e
    .rename_i Z hn;cases e;exact⟨Z,hn,rfl⟩
    .cases e
   obtain⟨J,g1,g2⟩:=S1.obj n _ p hn h1;refine⟨p,rfl,.inl ⟨⟨J,Dm.of g1⟩,q U H1 _ le S1 (Ud (ds:=Z) λqk H2 M2 G S2=>⟨λi d Y=>?_,λhf=>?_⟩)⟩⟩
   .simp only[Src.item] at Y
    split at Y
    .rename_i qq L
     split at Y
     .obtain⟨C,k1,k2⟩:=S2.obj n _ p L (G.get h1)
      obtain⟨v,k3,k4⟩:=k2.get Y;exact⟨C,v,k1,k3,k4⟩
     .cases Y
    .cases Y
   .simp only[Src.fin] at hf
    split at hf
    .rename_i qq L
     obtain⟨C,k1,k2⟩:=S2.obj n _ p L (G.get h1);refine⟨C,k1,?_⟩;rw[<- k2.length];have:qq.length=Z.length:=by simpa using hf
     rw[this];exact bc _
    .cases hf
  |_=>simp[MW.srcOf] at e
set_option tactic.hygienic true in
def awx(hg:Gl X "range")(hm:X.mg "range" = none)(ha:PE X a (tE nm W X.K a'))(Y:noStar a=true):PI X tg (.Call (.Name "range" pr) [a] [] pos) (tI nm W X.K (.Kh a')) :=
 PI.of (adx hg hm (V2 ha ab5 (qu Y _ _)) (qu Y _ _)) fun σ H R' ι ρ M s M' S R e q=>by
  rw[MW.Lp] at e;obtain⟨x,M1,e1,e⟩:=d7 e;refine V1 (es':=.cons a' .nil) (ds:=[x]) (M1:=M1) S R (by rw[MW.zb,e1];simp) λG L vs le S1 R1 r=>?_
  obtain⟨i,U⟩:∃i,x=.int i:=by cases x<;>first|exact⟨_,rfl⟩|cases e
  subst U;have e:(if i.natAbs<=100000 then Res.ok (Src.con ((List.range i.toNat).map λ(k:Nat)=>MW.D.int (k:Int))) M1 else .bad)=.ok s M':=e;split at e<;>cases e;rename_i hi;cases r with
  |cons r1 r2 =>
   cases r1;cases r2;refine⟨i,rfl,by lia,by omega,q G L _ le S1 λqq H2 M2 xn S2=>⟨λj d C Z=>?_,λ_=>?_⟩⟩
   .have J:j<i.toNat:=by simpa[Src.len] using C
    have Z:((List.range i.toNat).map λ(k:Nat)=>MW.D.int (k:Int))[j]?=some d:=Z;rw[gw,List.getElem?_range J] at Z;have Z:MW.D.int (j:Int)=d:=by simpa using Z
    subst Z;refine⟨J,λu H3 ⟨ee,yy⟩=>?_⟩;subst ee yy;exact⟨Le.refl _ _,S2,by rw[Int.zero_add];exact .int _⟩
   .show i.toNat<=_
    simp[Src.len]
def aea(R:ph K ι H ρ σ):ph K ι H (ρ++List.replicate k none) (σ++List.replicate k none):=R.append (ph.ahi k (by simp))
def ahn{Z:St}(U:σ.length=n)(R:∀i∈yf t,n<=i)(h:∀j,j∉yf t->Z[j]?=(σ++List.replicate k none)[j]?):∀(j:Nat) v,(σ++List.replicate k none)[j]?=some (some v)->Z[j]?=some (some v):=λj v e=>by
 by_cases G:j∈yf t
 .have:=R j G
  rw[m9 (a_ (f_ U) this),List.getElem?_replicate] at e;split at e<;>simp at e
 .rw[h j G];exact e
noncomputable def ang(o:Option Dv):List Dv:=match o with|some x=>[x]|none=>[]
set_option tactic.hygienic true in
def Xx(h:MW.zm fin item body (k+1) i M=.ok ds Z) :
 ∃d o M1 rest,item i M=some d/\body d M=.ok o M1/\MW.zm fin item body k (i+1) M1=.ok rest Z/\ds=ang o++rest:=by
 simp only[MW.zm] at h;split at h
 .cases h
 .rename_i d G
  obtain⟨o,M1,Y,h⟩:=d7 h;obtain⟨rest,M2,J,h⟩:=d7 h;cases h;exact⟨d,o,M1,rest,G,Y,J,by cases o<;>rfl⟩
def kj.snoc(r:kj K ι H ds Z)(h:Rep K ι H d v):kj K ι H (ds++[d]) (Z++[v]):=r.append (.cons h .nil)
set_option tactic.hygienic true in
def Pj(e:MW.wk s body M1=.ok ds M2):s.len<=100000/\MW.zm s.fin s.item body s.len 0 M1=.ok ds M2:=by
 unfold MW.wk at e;split at e
 .rename_i Z
  exact⟨Z,e⟩
 .cases e
def keptAs(v:Bool)(Z:List Dv)(M:dg):Res Dv:=if v=true then .ok (.vl Z) M else MW.new (.lst Z) M
def aeb(h:(Ex.comp v k t it e').den W ρ M=.ok d M'):∃s M1 Z M2,it.den W ρ M=.ok s M1/\s.len<=100000 /\
 MW.zm s.fin s.item (λd M=>match t.put d (ρ++List.replicate k none) with|some G=>(e'.den W G M).bind λx M'=>.ok (some x) M'|none=>.bad) s.len 0 M1=.ok Z M2/\keptAs v Z M2=.ok d M':=by
 rw[MW.Wo] at h;obtain⟨s,M1,R,h⟩:=d7 h;obtain⟨Z,M2,U,h⟩:=d7 h;exact⟨s,M1,Z,M2,R,(Pj U).1,(Pj U).2,h⟩
def Io.adopt(ι:Io)(H:Hp)(D:Addr):Tr K (ι.hide D) H (ι.add D) H:=⟨λ_ _ e=>e,λ_ _ e n=>⟨e,λm=>(bh.mp m).elim n.1 λz=>n.2 (by rw[j9.mp z];exact bz),λm=>n.2 (bu _ m)⟩,λ_ _ e=>e,λn a e=>by
 have e:ι.l[n]?=some a:=e;show(ι.l++[D])[n]?=_;rw[d9 (ak.mp e).1];exact e⟩
theorem Rep.adopt(r:Rep K (ι.hide D) H d v):Rep K (ι.add D) H d v:=r.tr (ι.adopt H D)
theorem kj.adopt(r:kj K (ι.hide D) H d v):kj K (ι.add D) H d v:=r.tr (ι.adopt H D)
theorem jr.adopt(S:jr nm K (ι.hide D) H M)(hd:H D=some (.lst U))(r:kj K (ι.hide D) H ds U)(Z:ι.off D):jr nm K (ι.add D) H (M++[.lst ds]):=by
 refine⟨by have:=S.len;simp only[Io.hide] at this;simp[Io.add,this],?_,λa G=>?_,λn o a hn G=>?_⟩
 .exact my.mpr ⟨S.nd,by simp,by
   intro x R y hy;have:y=D:=by simpa using hy
   subst this;intro e;subst e;exact Z.1 R⟩
 .obtain⟨h1,U,h2⟩:=S.del a (bu _ G)
  exact⟨λm=>(bh.mp m).elim h1 λz=>Z.2 (by rw[<- j9.mp z];exact G),U,h2⟩
 .rcases yr hn with q|⟨q,rfl⟩
  .rcases yr G with z|⟨z,_⟩
   .exact(S.obj n o a q z).tr (ι.adopt H D) rfl
   .exact absurd (MW.qd q) (by rw[z,<- S.len];exact m5 _)
  .rcases yr G with z|⟨_,rfl⟩
   .exact absurd (ak.mp z).1 (by rw[q,<- S.len];exact m5 _)
   .exact⟨U,hd,r.adopt⟩
def aho(S:jr nm K (ι.hide D) H M)(hd:H D=some (.lst vs))(r:kj K (ι.hide D) H ds vs)(G:ι.off D)(le:Le U R ι H)(h0:R D=none)(h:keptAs v ds M=.ok d M') :
 ∃Z,Le U R Z H/\jr nm K Z H M'/\Rep K Z H d (.ref D):=by
 unfold keptAs at h;split at h
 .cases h
  exact⟨ι,le,S.show,.vl hd G r.show⟩
 .cases h
  refine⟨ι.add D,⟨?_,le.del,le.tup,le.Hd,le.lst,le.dom⟩,S.adopt hd r G,.ref ?_⟩
  .obtain⟨Y,e,hY⟩:=le.ext
   exact⟨Y++[D],by show ι.l++[D]=_;rw[e,mq],λa ha=>(bh.mp ha).elim (hY a) λz=>by rw[j9.mp z];exact h0⟩
  .show(ι.l++[D])[M.length]?=some D
   rw[<- S.len];simp[Io.hide]
def BodyOk(nm:Nm)(K:Fg)(G:St)(tc:TT)(te:TE)(R:En)(M:dg)(o:Option Dv)(M':dg):Prop:=∀ι H (G1:V->Hp->Prop) (G0:Hp->Prop),jr nm K ι H M->ph K ι H R G ->
 (∀Z U v,Le ι H Z U->jr nm K Z U M'->(match o with|some x=>Rep K Z U x v->G1 v U|none=>G0 U))->tc G H λb H3=>if b=true then te G H3 λv H4=>G1 v H4 else G0 H3
set_option tactic.hygienic true in
def Ue{N:Yf}(hk:N.length-X.N.length=k)(ho:∀i∈yf t,X.N.length<=i)(zv:σ.length=X.N.length)(S:jr nm X.K ι H M)(R:ph X.K ι H ρ σ)(e1:it.den W ρ M=.ok s M1)(q7:s.len<=100000)(e2:MW.zm s.fin s.item body s.len 0 M1=.ok ds M')(ek:keptAs v0 ds M'=.ok d0 M0)(q:∀q1 H' v,Le ι H q1 H'->jr nm X.K q1 H' M0->Rep X.K q1 H' d0 v->Q v H')(hb:∀d M2 o M3,body d M2=.ok o M3->∃q0,t.put d (ρ++List.replicate k none)=some q0/\∀q2,BodyOk nm X.K q2 tc te q0 M2 o M3):Xq (N.length-X.N.length) (tI nm W X.K it) (tGt nm X.K t) tc te σ H Q:=by
 refine⟨ι,ρ,M,s,M1,S,R,e1,λC H1 J Xu S1 sj D hD=>?_⟩;rw[hk];refine⟨λi m H2=>m=s.len-i/\i<=s.len/\∃Z M2 G vs L,Yr D C H1 (Io.hide Z D) H2/\jr nm X.K (Io.hide Z D) H2 M2/\H2 D=some (.lst vs)/\kj X.K (Io.hide Z D) H2 G vs/\G.length<=i /\
  MW.zm s.fin s.item body m i M2=.ok L M'/\ds=G++L,?_,?_⟩
 .exact⟨s.len,rfl,gn _,C,M1,[],[],ds,Yr.start hD _,S1.hide hD,t8,.nil,bc _,e2,rfl⟩
 .rintro i m H2 ⟨hm,z3,Z,M2,G,vs,L,xn,S2,q6,q4,Zu,e3,qk⟩
  have zz:Le C H1 Z H2:=Yr.done xn;have z0:Z.δ=C.δ:=zz.del;have z1:Z.off D:=⟨(S2.del D bz).1,λz=>by rw[z0] at z;exact(S1.fresh hD).2 z⟩;obtain⟨go,zk⟩:=sj (Io.hide Z D) H2 M2 (xn.toX hD) S2;cases m with
  |zero =>
   simp only[MW.zm] at e3;split at e3<;>cases e3;rename_i Qe;refine hG λ_ _k=>?_
   have hi:i=s.len:=by lia
   subst hi;rw[List.append_nil] at qk;subst qk;obtain⟨zg,z4,S9,r9⟩:=aho S2 q6 q4 z1 zz hD ek;apply _k;exact .inl ⟨zk Qe,q zg H2 _ (Xu.trans z4) S9 r9⟩
  |succ m =>
   refine hG λ_ _k=>?_
   obtain⟨d,o,M3,U,h1,h2,h3,h4⟩:=Xx e3;obtain⟨g1,g2⟩:=go i d (by lia) h1;apply _k;refine .inr ⟨g1,λv H3 yv=>?_⟩;refine hG λ_ _k=>?_
   obtain⟨Sx,S3,r3⟩:=g2 v H3 yv;obtain⟨q0,Zw,zw⟩:=hb d M2 o M3 h2;have R3:ph X.K (Io.hide Z D) H3 ρ σ:=((R.mono Xu).Gi (xn.toX hD)).mono Sx;apply _k;refine⟨Io.hide Z D,ρ++List.replicate k none,M2,d,q0,S3,aea R3,r3,Zw,λq2 R5 l5 k5=>⟨l5,ahn zv ho k5,?_⟩⟩;have z2:=Sx.lst D vs (S2.del D bz).1 q6;refine zw q2 (Io.hide Z D) H3 _ _ S3 R5 (λY H6 u qv S6=>by
    have qq:=qv.lst D vs (S2.del D bz).1 z2;have q3:Yr D C H1 Y H6:=(xn.go Sx).go qv;have ei:Y=Io.hide ⟨Y.l,Z.δ⟩ D:=by have:=qv.del;obtain⟨l6,z5⟩:=Y;simp only[Io.hide] at this ⊢;rw[this]
    rw[ei] at q3 S6;have q5:kj X.K (Io.hide ⟨Y.l,Z.δ⟩ D) H6 G vs:=by rw[<- ei];exact(q4.mono Sx).mono qv
    cases o with
    |none =>
     refine⟨m,ur _,by lia,by lia,⟨Y.l,Z.δ⟩,M3,G,vs,U,q3,S6,qq,q5,a_ Zu x_,h3,?_⟩;rw[qk,h4];rfl
    |some x =>
     intro r6;rw[ei] at r6;have Uu:D∈(Io.hide ⟨Y.l,Z.δ⟩ D).δ:=bz;refine⟨vs,m,qq,?_,ur _,by lia,by lia,⟨Y.l,Z.δ⟩,M3,G++[x],vs++[u],U,q3.grow hD qq,S6.grow qq Uu,t8,(q5.snoc r6).tr (ab3 qq Uu),by simp;exact Zu,h3,?_⟩
     .rw[<- q4.length]
      exact Nat.lt_of_le_of_lt (bf Zu (bf z3 q7)) (by decide)
     .rw[qk,h4];simp[ang])
set_option tactic.hygienic true in
def Ug{N:Yf}(hk:N.length-X.N.length=k)(ho:∀i∈yf t,X.N.length<=i):∀σ H Q,σ.length=X.N.length->tE nm W X.K (.comp v0 k t it e') σ H Q ->
 Xq (N.length-X.N.length) (tI nm W X.K it) (tGt nm X.K t) (λ_ H Q=>Q true H) (tE nm W X.K e') σ H Q:=fun σ H Q C hh=>by
 obtain⟨ι,ρ,M,d,M',S,R,e,q⟩:=hh;obtain⟨s,M1,ds,M2,e1,Z,e2,ek⟩:=aeb e;refine Ue hk ho C S R e1 Z e2 ek q λd M2 o M3 Y=>?_
 split at Y
 .rename_i G Zw
  obtain⟨x,M4,e5,Y⟩:=d7 Y;cases Y;refine⟨G,Zw,λqq qk H5 G1 G0 S5 R5 g=>?_⟩;show if true=true then _ else _
  rw[di rfl];exact one (X:=X) S5 R5 e5 λU H6 u J L R6 r6=>g U H6 u J L r6
 .cases Y
def Xy(h:(Ex.ud v k t it c' e').den W ρ M=.ok d M'):∃s M1 G M2,it.den W ρ M=.ok s M1/\s.len<=100000 /\
 MW.zm s.fin s.item (λd M=>match t.put d (ρ++List.replicate k none) with|some Z=>(c'.den W Z M).bind λb M'=>(match b with|.bl true=>(e'.den W Z M').bind λx U=>.ok (some x) U|.bl false=>.ok none M'|_=>.bad)|none=>.bad) s.len 0 M1=.ok G M2/\keptAs v G M2=.ok d M':=by
 rw[MW.Qa] at h;obtain⟨s,M1,e1,h⟩:=d7 h;obtain⟨G,M2,R,h⟩:=d7 h;exact⟨s,M1,G,M2,e1,(Pj R).1,(Pj R).2,h⟩
set_option tactic.hygienic true in
def Oo{N:Yf}(hk:N.length-X.N.length=k)(ho:∀i∈yf t,X.N.length<=i):∀σ H Q,σ.length=X.N.length->tE nm W X.K (.ud v0 k t it c' e') σ H Q ->
 Xq (N.length-X.N.length) (tI nm W X.K it) (tGt nm X.K t) (tQ nm W X.K c') (tE nm W X.K e') σ H Q:=fun σ H Q qk hh=>by
 obtain⟨ι,ρ,M,d,M',S,R,e,q⟩:=hh;obtain⟨s,M1,ds,M2,e1,G,e2,ek⟩:=Xy e;refine Ue hk ho qk S R e1 G e2 ek q λd M2 o M3 Z=>?_
 split at Z
 .rename_i qq Zw
  obtain⟨x,M4,e5,Z⟩:=d7 Z;refine⟨qq,Zw,λqv q0 H5 G1 G0 S5 R5 g=>?_⟩;split at Z
  .obtain⟨y,M6,e6,Z⟩:=d7 Z
   cases Z;refine V0 (X:=X) S5 R5 e5 λJ H6 Y C R6=>?_
   rw[di rfl];exact one (X:=X) C R6 e6 λL H7 u U S7 R7 r7=>g L H7 u (Y.trans U) S7 r7
  .cases Z
   refine V0 (X:=X) S5 R5 e5 λJ H6 Y C R6=>?_
   rw[fj (by simp)];exact g J H6 .non Y C
  .cases Z
 .cases Z
def PE.Xz(h:PE X e t)(w:∀σ H Q,σ.length=X.N.length->t' σ H Q->t σ H Q):PE X e t':=λZ s σ H Q I q=>h Z s σ H Q I (w σ H Q I.len q)
def PS.Xz(h:PS X st t)(w:∀D σ H,σ.length=X.N.length->t' D σ H->t D σ H):PS X st t':=λZ s σ H D I q=>h Z s σ H D I (w D σ H I.len q)
def aq5(B:Eb X N scope)(Gh:X.calm=true)(hi:PI X tg iter (tI nm W X.K it))(U:∀C Z s H,PG (Je X N scope C Z s H) tg (tGt nm X.K t))(R:∀C Z s H,PE (Je X N scope C Z s H) elt (tE nm W X.K e'))(G:Fl iter=true)(hk:N.length-X.N.length=k)(ho:∀i∈yf t,X.N.length<=i):PE X (.ListComp elt [⟨tg,iter,[],0⟩] scope pos) (tE nm W X.K (.comp v0 k t it e')) :=
 PE.Xz (ab0 B Gh hi U (λ_ _ _ _=>.inl ⟨rfl,rfl⟩) R (Bv G X.env)) (Ug hk ho)
def ahp(B:Eb X N scope)(Gh:X.calm=true)(hi:PI X tg iter (tI nm W X.K it))(U:∀C Z s H,PG (Je X N scope C Z s H) tg (tGt nm X.K t))(hc:∀C Z s H,PT (Je X N scope C Z s H) c (tQ nm W X.K c'))(R:∀C Z s H,PE (Je X N scope C Z s H) elt (tE nm W X.K e'))(G:Fl iter=true)(hk:N.length-X.N.length=k)(ho:∀i∈yf t,X.N.length<=i):PE X (.ListComp elt [⟨tg,iter,[c],0⟩] scope pos) (tE nm W X.K (.ud v0 k t it c' e')) :=
 PE.Xz (ab0 B Gh hi U (λ_ _ _ _=>.inr ⟨c,rfl,hc _ _ _ _⟩) R (Bv G X.env)) (Oo hk ho)
def X3(h:∀σ H Q,σ.length=X.N.length->tE nm W X.K e' σ H Q->tt σ H Q):∀D σ H,σ.length=X.N.length->tS nm W X.K (.asg (.tg (.name i)) e') D σ H->ap1 tt (abo i) D σ H:=λD σ H Z hh=>by obtain⟨ι,ρ,M,fl,qq,M',S,R,e,q⟩:=hh;rw[MW.Qc] at e;obtain⟨x,M1,e1,e⟩:=d7 e;obtain⟨qk,M2,U,e⟩:=d7 e;cases e;rw[MW.Qd] at U;obtain⟨e3,e4⟩:=uv U;subst e4;cases e3;exact h σ H _ Z (one S R e1 λG H1 v le S1 R1 r=>q G H1 _ le S1 (R1.set r i))
def aec{y:Str}(B:Eb X N scope)(Gh:X.calm=true)(hi:PI X tg iter (tI nm W X.K it))(R:∀C G s H,PG (Je X N scope C G s H) tg (tGt nm X.K t))(he:∀C G s H,PE (Je X N scope C G s H) elt (tE nm W X.K e'))(U:Fl iter=true)(hk:N.length-X.N.length=k)(ho:∀i∈yf t,X.N.length<=i)(hN:X.N.Nodup)(hy:X.N[i]?=some y)(hl:X.env.scope.names.lookup y=some .local)(Z:swapsWith (.ListComp elt [⟨tg,iter,[],0⟩] scope pos) (some (.Name y py)) ahh.line X.env=pure true):PS X (.Assign [.Name y py] (.ListComp elt [⟨tg,iter,[],0⟩] scope pos) ahh) (tS nm W X.K (.asg (.tg (.name i)) (.comp v0 k t it e'))) :=
 PS.Xz (ab1 B Gh hi R (λ_ _ _ _=>.inl ⟨rfl,rfl⟩) he (Bv U X.env) hN hy hl Z) (X3 (Ug hk ho))
def X6{y:Str}(B:Eb X N scope)(Gh:X.calm=true)(hi:PI X tg iter (tI nm W X.K it))(R:∀C Z s H,PG (Je X N scope C Z s H) tg (tGt nm X.K t))(hc:∀C Z s H,PT (Je X N scope C Z s H) c (tQ nm W X.K c'))(he:∀C Z s H,PE (Je X N scope C Z s H) elt (tE nm W X.K e'))(U:Fl iter=true)(hk:N.length-X.N.length=k)(ho:∀i∈yf t,X.N.length<=i)(hN:X.N.Nodup)(hy:X.N[i]?=some y)(hl:X.env.scope.names.lookup y=some .local)(G:swapsWith (.ListComp elt [⟨tg,iter,[c],0⟩] scope pos) (some (.Name y py)) ahh.line X.env=pure true):PS X (.Assign [.Name y py] (.ListComp elt [⟨tg,iter,[c],0⟩] scope pos) ahh) (tS nm W X.K (.asg (.tg (.name i)) (.ud v0 k t it c' e'))) :=
 PS.Xz (ab1 B Gh hi R (λ_ _ _ _=>.inr ⟨c,rfl,hc _ _ _ _⟩) he (Bv U X.env) hN hy hl G) (X3 (Oo hk ho))
end
def spF(nm:Nm)(W:Kl)(K:Fg)(n f:Nat):Sp:=λvs H Q _=>∃R M U d M',jr nm K R H M/\kj K R H U vs/\U.length=n/\W.call f U M=.ok d M'/\∀Z G v,Le R H Z G->jr nm K Z G M'->Rep K Z G d v->Q v G
def s_call(F:Jd X.prog X.w X.K X.mg X.base CX0 k fa fd ps (spF nm W X.K n f))(hr:yh k X.A)(hg:Gl X x)(hm:X.mg x=some (.ref fa))(hk:PySem.W.keepIn X.K (.ref fa)=true)(hb:Binds X.K fd ps [])(G:Dl.len Z=n)(ha:PA X (a::es) (Xr nm W X.K Z))(Zm:(x==("__debug__" : Str))=false)(he:starEach (a::es) X.env=(false,eval a X.env)::starEach es X.env)(M9:(backTo pos (starEach es X.env)).any (·.1)=false) :
 PE X (.Call (.Name x p) (a::es) [] pos) (tE nm W X.K (.call f Z)) :=
 PE.of (ako (E:=E0) F hr hg hm hk hb .nil av4 ha Zm he M9) fun σ H Q ι ρ M d M' S R e q=>by
  rw[MW.Wn] at e;obtain⟨ds,M1,e1,e⟩:=d7 e;refine V1 S R e1 λqq H1 vs le S1 R1 r=>?_
  rw[List.append_nil];exact⟨qq,M1,ds,d,M',S1,r,(J5 e1).trans G,e,λqk H' v U S' r'=>q qk H' v (le.trans U) S' r'⟩
def aq6:PE X (.Dict [] [] pos) (tE nm W X.K .ac8):=PE.of ag9 fun σ H Q U ρ M d M' S R e q=>by
 rw[MW.afc] at e;cases e;intro p Z;obtain⟨S2,G⟩:=S.new (o:=.dT []) (H':=upd H p (.dT [])) Z (λa u e=>by rw[j6 (mj e Z)];exact e) λ_=>⟨[],t8,.nil⟩
 exact q _ _ _ G S2 (.ref (by show(U.l++[p])[M.length]?=some p;rw[<- S.len];simp))
def a1f(R:Nm)(K:Fg):apx:=λo i v H Q=>∃Z M x y d U,jr R K Z H M/\Rep K Z H x o/\Rep K Z H y i/\Rep K Z H d v/\MW.setOp x y d M=some U/\∀G,Le Z H Z G->jr R K Z G U->Q G
def Rk(h:n<100000):n<sizeLine:=fu h Rg
set_option tactic.hygienic true in
def ala:apy X (a1f nm X.K):=by
 intro Z s σ H o i v ov iv u Q I ro ri rv hh;obtain⟨ι,M,x,y,d,M',S,L,ry,rd,e,q⟩:=hh;obtain⟨j,R⟩:∃j,x=.ref j:=by cases x<;>first|exact⟨_,rfl⟩|cases e
 subst R;obtain⟨p,rfl,G⟩:∃p,o=.ref p/\ι.l[j]?=some p:=by cases L with|ref z=>exact⟨_,rfl,z⟩
 simp only[MW.setOp] at e;split at e
 .rename_i xs C
  split at e
  .rename_i k
   obtain⟨Y,e1,e2⟩:=bw.mp e;subst e2;cases ry;obtain⟨U,h1,J⟩:=S.obj j _ p C G;refine set_list Z s σ H _ _ v ov iv u Q I ro ri rv ⟨p,U,k,Y,rfl,rfl,h1,by rw[<- J.length];exact e1,?_⟩;obtain⟨S2,xn⟩:=S.put (u:=.lst (U.set Y v)) (o:=.lst (xs.set Y d)) C G λle=>⟨_,t8,(J.mono le).set (rd.mono le) Y⟩
   exact q _ xn S2
  .cases e
 .cases e
def Rm(h:V3 e=true)(t:Expr)(l:Nat)(Z:Env):swapsWithSole [t] e l Z=pure false:=by unfold swapsWithSole;exact Oj h _ _ _
def ahq(e o b:Expr)(p:Pos)(l:Nat)(Z:Env):swapsWithSole [.Subscript o b p] e l Z=pure false:=by cases e<;>rfl
def ahr(he:PE X a (tE nm W X.K a'))(ho:PE X o (tE nm W X.K o'))(hi:PE X b (tE nm W X.K b'))(ha:∀v,assign (.Subscript o b pos') X.env v=(do
 let ov <- holding [v] (eval o X.env)
 let iv <- holding [v,ov] (eval b X.env)
 standAt pos'
 holding [v,ov,iv] (setItem ov iv v)
 release [v,ov,iv] [])):PS X (.Assign [.Subscript o b pos'] a pos) (tS nm W X.K (.asg (.sub o' b') a')) :=
 PS.of (agv he (ap0 ho hi (ala (nm:=nm)) ha) (ahq _ _ _ _ _ _) (by rfl) (by rfl)) λD σ H ι ρ M fl qq M' S R e q=>by
  rw[MW.Qc] at e;obtain⟨x,M1,e1,e⟩:=d7 e;obtain⟨qv,M2,Z,e⟩:=d7 e;cases e;rw[MW.ajg] at Z;obtain⟨y,M3,e3,Z⟩:=d7 Z;obtain⟨z,M4,e4,Z⟩:=d7 Z;obtain⟨M5,M6,e5,e6⟩:=d7 Z;obtain⟨e7,e8⟩:=uv e5;subst e8;cases e6;refine one S R e1 λqk H1 v le S1 R1 r=>?_
  refine one S1 R1 e3 λq0 H2 v2 xn S2 R2 r2=>one S2 R2 e4 λU H3 v3 Sx S3 R3 r3=>?_
  exact⟨U,_,y,z,x,_,S3,r2.mono Sx,r3,(r.mono xn).mono Sx,e7,λH' G S'=>q U H' σ (((le.trans xn).trans Sx).trans G) S' (R3.mono G)⟩
def yo.weak(h:yo X f r)(w:∀G H Q,r' G H Q->r G H Q):yo X f r':=λZ s σ H G R Q I U q=>h Z s σ H G R Q I U (w G H Q q)
def rB(nm:Nm)(K:Fg)(b:Blt):List V->Hp->VK->Prop:=λvs H Q=>∃U M R d M',jr nm K U H M/\kj K U H R vs/\MW.qw b R M=.ok d M'/\∀Z G v,Le U H Z G->jr nm K Z G M'->Rep K Z G d v->Q v G
def yo.of(h:yo X f r)(w:∀U H Q G M R d M',jr nm X.K G H M->kj X.K G H R U->MW.qw bb R M=.ok d M'->(∀Z H' v,Le G H Z H'->jr nm X.K Z H' M'->Rep X.K Z H' d v->Q v H')->r U H Q):yo X f (rB nm X.K bb) :=
 yo.weak h λU H Q z_=>by obtain⟨G,M,R,d,M',S,r,e,q⟩:=z_;exact w U H Q G M R d M' S r e q
def X7{X:Cx}:∀σ H Q,tE nm W X.K (.blt t Z) σ H Q->tCB (rB nm X.K t) (Xr nm W X.K Z) σ H Q:=fun σ H Q hh=>by obtain⟨ι,ρ,M,d,M',S,R,e,q⟩:=hh;rw[MW.Uy] at e;obtain⟨ds,M1,e1,e⟩:=d7 e;exact V1 S R e1 λU H1 vs le S1 R1 r=>⟨U,M1,ds,d,M',S1,r,e,λqq H' v G S' r'=>q qq H' v (le.trans G) S' r'⟩
def ab7{id:String}(hc:yo X (.builtin id) (rB nm X.K t))(G:Gl X x)(hm:X.mg x=none)(hv:bootBuiltins x=some (.builtin id))(ha:PA X (a::es) (Xr nm W X.K Z))(U:x≠"__name__")(Zm:(x==("__debug__" : Str))=false)(R:starEach (a::es) X.env=(false,eval a X.env)::starEach es X.env)(M9:(backTo pos (starEach es X.env)).any (·.1)=false):PE X (.Call (.Name x p) (a::es) [] pos) (tE nm W X.K (.blt t Z)):=PE.weak (ag6 hc G hm hv ha U Zm R M9) X7
def ahs(hc:yo X (.type T) (rB nm X.K t))(G:Gl X x)(hm:X.mg x=none)(hv:bootBuiltins x=some (.type T))(ha:PA X (a::es) (Xr nm W X.K Z))(U:x≠"__name__")(Zm:(x==("__debug__" : Str))=false)(R:starEach (a::es) X.env=(false,eval a X.env)::starEach es X.env)(M9:(backTo pos (starEach es X.env)).any (·.1)=false):PE X (.Call (.Name x p) (a::es) [] pos) (tE nm W X.K (.blt t Z)):=PE.weak (ad2 hc G hm hv ha U Zm R M9) X7
def V5(r:kj K Z H ds G)(h:ds=[d]):∃v,G=[v]/\Rep K Z H d v:=by subst h;cases r with|cons h t=>cases t;exact⟨_,rfl,h⟩
def alb:yo X (.type "tuple") (rB nm X.K .tuple):=yo.of Sw λvs H Q U M ds d M' S r e q=>by
 cases r with
 |nil=>simp[MW.qw] at e
 |@cons x v _ _ h t =>
  cases t with
  |cons h2 t2=>simp[MW.qw] at e
  |nil =>
   have e:Res.qi ((MW.jl M x).map MW.D.tup) M=.ok d M':=e;obtain⟨e1,e2⟩:=uv e;subst e2;obtain⟨xs,e3,rfl⟩:=bw.mp e1;obtain⟨p,R,rfl,Z,G⟩:=Ej S h e3;rcases Z with Z|Z
   .refine⟨p,R,rfl,.inl ⟨Dm.of Z,λl hl=>?_⟩⟩
    obtain⟨S2,xn,r2⟩:=Ik S hl G;exact q U _ _ xn S2 r2
   .exact⟨p,R,rfl,.inr ⟨Ei.of Z,q U H _ (Le.refl _ _) S (.tup Z G)⟩⟩
def aq7:yo X (.type "list") (rB nm X.K .list):=yo.of Vx λvs H Q ι M Z d M' S r e q=>by
 cases r with
 |nil=>simp[MW.qw] at e
 |@cons x v _ _ h t =>
  cases t with
  |cons h2 t2=>simp[MW.qw] at e
  |nil =>
   have e:(match MW.jl M x with|some Z=>MW.new (.lst Z) M|none=>.bad)=Res.ok d M':=e;cases e3:MW.jl M x with
   |none=>rw[e3] at e;cases e
   |some xs =>
    rw[e3] at e;cases e;obtain⟨p,us,rfl,hp,G⟩:=Ej S h e3;refine⟨p,us,rfl,hp.imp Dm.of Ei.of,λl R=>?_⟩;obtain⟨S2,U,r2⟩:=ab4 S R G;exact q _ _ _ U S2 r2
set_option tactic.hygienic true in
def awz:yo X (.builtin "len") (rB nm X.K .len):=yo.of Vw λvs H Q C M Y d M' S r e q=>by
 cases r with
 |nil=>simp[MW.qw] at e
 |@cons x v _ _ h t =>
  cases t with
  |cons h2 t2=>simp[MW.qw] at e
  |nil =>
   have fin:∀U,(MW.jl M x=some U)->d=.int U.length->M'=M->∃p G,[v]=[V.ref p]/\(Dm X.K H p G\/Ei X.K H p G)/\Q (.int G.length) H:=λU e3 Z e2=>by subst Z e2;obtain⟨p,u,rfl,hp,L⟩:=Ej S h e3;exact⟨p,u,rfl,hp.imp Dm.of Ei.of,by rw[<- L.length];exact q C H _ (Le.refl _ _) S (.int _)⟩
   cases h with
   |fz Z J =>
    cases e;exact⟨_,_,rfl,.inl Z.sq,by rw[<- J.length];exact q C H _ (Le.refl _ _) S (.int _)⟩
   |@ref n p Z =>
    have e:(match M[n]? with|some (.lst Y)=>Res.ok (MW.D.int Y.length) M|_=>.bad)=Res.ok d M':=e;split at e
    .rename_i Y R
     cases e;exact fin Y (by simp[MW.jl,MW.dw,R]) rfl rfl
    .cases e
   |tup Z J=>cases e;exact fin _ rfl rfl rfl|vl Z n1 J=>cases e;exact fin _ rfl rfl rfl|_=>cases e
noncomputable def Ec(f:Dv->Dv->Option Bool)(Z bs:List Dv)(j:Nat):Bool:=match Z[j]?,bs[j]? with
 |some a,some b=>(f a b).getD false|_,_=>false
set_option tactic.hygienic true in
theorem Ff{f:Dv->Dv->Option Bool}:∀{Z bs:List Dv}{r:Bool},MW.Tf f Z bs=some r->(∀(j:Nat) a b,Z[j]?=some a->bs[j]?=some b->∃c,f a b=some c) /\
 r=((List.range (min Z.length bs.length)).all (Ec f Z bs)&&Z.length==bs.length)
 |[],[],r,h=>by cases h;exact⟨λj a b e=>by simp at e,by simp⟩
 |[],b::bs,r,h=>by cases h;exact⟨λj a b e=>by simp at e,by simp⟩
 |a::Z,[],r,h=>by cases h;exact⟨λj a b _ e=>by simp at e,by simp⟩
 |a::Z,b::bs,r,h=>by
  simp only[MW.Tf] at h;split at h
  .rename_i x y J R
   cases h;obtain⟨U,g2⟩:=Ff R;refine⟨λj u L Y G=>?_,?_⟩
   .cases j with
    |zero=>simp at Y G;subst Y G;exact⟨x,J⟩|succ j=>exact U j u L (by simpa using Y) (by simpa using G)
   .rw[gm,gm,Nat.succ_min_succ,List.range_succ_eq_map,List.all_cons,List.all_map]
    have z:Ec f (a::Z) (b::bs) 0=x:=by simp[Ec,J]
    have C:(Ec f (a::Z) (b::bs) ∘ Nat.succ)=Ec f Z bs:=by funext j;simp[Ec]
    rw[z,C,g2];have S:(Z.length+1==bs.length+1)=(Z.length==bs.length):=by
     by_cases q:Z.length=bs.length
     .simp[q]
     .have:¬(Z.length+1=bs.length+1):=by lia
      simp[q,this]
    rw[S,Bool.and_assoc]
  .cases h
set_option tactic.hygienic true in
theorem J6{Z:Io}{H:Hp}{K:Fg}{f:Dv->Dv->Option Bool}(G:∀x y v r,Rep K Z H x v->Rep K Z H y v->f x y=some r->r=true):∀{J bs:List Dv}{Y:List V}{r:Bool},kj K Z H J Y->kj K Z H bs Y->MW.Tf f J bs=some r->r=true
 |_,_,_,_,.nil,.nil,h=>by cases h;rfl
 |_,_,_,_,.cons h1 t1,.cons h2 t2,h=>by
  simp only[MW.Tf] at h;split at h
  .rename_i x y U C
   cases h;rw[G _ _ _ _ h1 h2 U,J6 G t1 t2 C];rfl
  .cases h
inductive EqI(M:dg)(f:Dv->Dv->Option Bool):Dv->Dv->Bool->Prop
 |bl (a b:Bool):EqI M f (.bl a) (.bl b) (a==b)
 |int (a b:Int):EqI M f (.int a) (.int b) (decide (a=b))
 |str (a b:Str):EqI M f (.str a) (.str b) (decide (a=b))
 |tup {as bs:List Dv} {r:Bool} (h:MW.Tf f as bs=some r):EqI M f (.tup as) (.tup bs) r
 |lst {x y:Dv} {as bs:List Dv} {r:Bool} (h1:MW.dw M x=some as) (h2:MW.dw M y=some bs) (h:(if as.length=bs.length then MW.Tf f as bs else some false)=some r):EqI M f x y r
set_option tactic.hygienic true in
def V6(h:MW.Nr M (k+1) x y=some r):EqI M (MW.Nr M k) x y r:=by
 unfold MW.Nr at h;split at h
 .cases h;exact .int _ _
 .cases h;exact .bl _ _
 .cases h;exact .str _ _
 .exact .tup h
 .split at h
  .rename_i Z Y;exact .lst Z Y h
  .cases h
def X8{X:Cx}(S:jr nm X.K Z H M)(rx:Rep X.K Z H x v)(R:Rep X.K Z H y v)(h1:MW.dw M x=some ds)(h2:MW.dw M y=some es):∃vs,kj X.K Z H ds vs/\kj X.K Z H es vs:=by obtain⟨p,vs,rfl,U,g2⟩:=qt S rx h1;obtain⟨p',ws,hw,G,g4⟩:=qt S R h2;cases hw;rw[U] at G;cases G;exact⟨vs,g2,g4⟩
theorem V7{nm:Nm}{U:Io}{H:Hp}{M:dg}{X:Cx}(S:jr nm X.K U H M):∀(k:Nat)(x y:Dv)(v:V)(r:Bool),Rep X.K U H x v->Rep X.K U H y v->MW.Nr M k x y=some r->r=true
 |0,_,_,_,_,_,_,h=>by cases h
 |k+1,x,y,v,r,rx,ry,h=>by
  have ih:=V7 S k;cases V6 h with
  |bl a b=>cases rx;cases ry;simp|int a b=>cases rx;cases ry;simp|str a b=>cases rx;cases ry;simp
  |tup h=>cases rx with
   |tup e1 G=>cases ry with
    |tup e2 Z=>rw[e1] at e2;cases e2;exact J6 ih G Z h
  |lst h1 h2 R =>
   obtain⟨vs,G,Z⟩:=X8 S rx ry h1 h2;rw[di (G.length.trans Z.length.symm)] at R;exact J6 ih G Z R
def Vals.Zx{j:Nat}(r:Vals xs R)(G:xs[j]?=some v)(U:R[j]?=some u):RelV v u:=by obtain⟨u',Z,e2⟩:=L2.Vals.get r G;rw[U] at Z;cases Z;exact e2
set_option tactic.hygienic true in
theorem Rn{nm:Nm}{X:Cx}{ι:Io}{H:Hp}{σ:St}{M:dg}{qk:Zp}{s:Shared}(I:Inv X qk σ H s)(S:jr nm X.K ι H M):∀(k:Nat)(A:Around)(x y:Dv)(v u:V)(v' u':Value)(r:Bool),yh k A->Rep X.K ι H x v->Rep X.K ι H y u->RelV v v'->RelV u u'->MW.Nr M k x y=some r->SeqAt.EqAt A s v' u' r
 |0,_,_,_,_,_,_,_,_,_,_,_,_,_,h=>by cases h
 |k+1,A,x,y,v,u,v',u',r,hr,rx,ry,rv,ru,h=>by
  have ih:=Rn I S k A.in1;have q0:=hr.in1;have elems:∀(Z Y:List Dv)(vs ws:List V)(is J:Zl)(rr:Bool),kj X.K ι H Z vs->kj X.K ι H Y ws->Vals vs is->Vals ws J->MW.Tf (MW.Nr M k) Z Y=some rr ->
   ∀j (h1:j<is.toArray.size) (h2:j<J.toArray.size),SeqAt.EqAt A.in1 s is.toArray[j] J.toArray[j] (Ec (MW.Nr M k) Z Y j):=λZ Y vs ws is J rr rd re Sy qv he j h1 h2=>by
   have l1:j<Z.length:=by rw[rd.length,Sy.length];simpa using h1
   have l2:j<Y.length:=by rw[re.length,qv.length];simpa using h2
   have g1:Z[j]?=some Z[j]:=by simp[l1]
   have G:Y[j]?=some Y[j]:=by simp[l2]
   obtain⟨c,hc⟩:=(Ff he).1 j _ _ g1 G;obtain⟨va,a1,a2⟩:=rd.get g1;obtain⟨wa,b1,b2⟩:=re.get G;have q1:is[j]?=some is.toArray[j]:=by simp
   have q2:J[j]?=some J.toArray[j]:=by simp
   have:=ih _ _ va wa _ _ c q0 a2 b2 (Vals.Zx Sy a1 q1) (Vals.Zx qv b1 q2) hc;have z:Ec (MW.Nr M k) Z Y j=c:=by simp[Ec,g1,G,hc]
   rw[z];exact this
  have qq:∀(p p2:Addr)(Z Y:List Dv),v=.ref p->u=.ref p2->MW.dw M x=some Z->MW.dw M y=some Y->(if Z.length=Y.length then MW.Tf (MW.Nr M k) Z Y else some false)=some r->SeqAt.EqAt A s v' u' r:=λp p2 Z Y hv hu h1 h2 C=>by
   subst hv hu;cases rv;cases ru;obtain⟨_,vs,hv,g1,G⟩:=qt S rx h1;cases hv;obtain⟨_,ws,hw,g3,g4⟩:=qt S ry h2;cases hw
   by_cases U:p=p2
   .subst U
    have:r=true:=by rw[g1] at g3;cases g3;rw[di (G.length.trans g4.length.symm)] at C;exact J6 (λx y v r a b c=>V7 S k x y v r a b c) G g4 C
    rw[this];exact SeqAt.EqAt.same _
   .refine SeqAt.EqAt.of_refs U ?_
    obtain⟨is,r1,L,_⟩:=I.list (Dm.of g1);obtain⟨J,r2,R,_⟩:=I.list (Dm.of g3)
    by_cases hl:Z.length=Y.length
    .rw[di hl] at C
     have R8:is.toArray.size=J.toArray.size:=by simp[<- r1.length,<- r2.length,<- G.length,<- g4.length,hl]
     have:=SeqAt.RcAt.lists (e:=Ec (MW.Nr M k) Z Y) L.isList R.isList R8 hr.Q7 (elems Z Y vs ws is J r G g4 r1 r2 C);rw[(Ff C).2];have e1:is.toArray.size=min Z.length Y.length:=by simp[<- r1.length,<- G.length,hl]
     rw[e1] at this;simpa[hl] using this
    .rw[fj hl] at C
     cases C;exact SeqAt.RcAt.lists_lengths L.isList R.isList (by simp[<- r1.length,<- r2.length,<- G.length,<- g4.length,hl]) hr.Q7
  cases V6 h with
  |bl a b=>cases rx;cases ry;cases rv;cases ru;exact SeqAt.EqAt.bool_bool _ _
  |int a b =>
   cases rx;cases ry;obtain⟨t,rfl⟩:=rv;obtain⟨t2,rfl⟩:=ru;rw[<- Bool.beq_eq_decide_eq];exact SeqAt.EqAt.int_int _ _ _ _
  |str a b =>
   cases rx;cases ry;obtain⟨t,rfl⟩:=rv;obtain⟨t2,rfl⟩:=ru;rw[<- Bool.beq_eq_decide_eq];exact SeqAt.EqAt.str_str _ _ _ _
  |@tup Z Y _ h=>cases rx with
   |@tup p _ vs e1 r1=>cases ry with
    |@tup p2 _ ws e2 r2 =>
     cases rv;cases ru
     by_cases U:p=p2
     .subst U
      have:r=true:=by rw[e1] at e2;cases e2;exact J6 (λx y v r a b c=>V7 S k x y v r a b c) r1 r2 h
      rw[this];exact SeqAt.EqAt.same _
     .refine SeqAt.EqAt.of_refs U ?_
      obtain⟨is,g1,L,_⟩:=I.tuple (Ei.of e1);obtain⟨J,G,R,_⟩:=I.tuple (Ei.of e2);have:=SeqAt.RcAt.tuples (e:=Ec (MW.Nr M k) Z Y) (show s.heap.IsTuple p is.toArray from L) (show s.heap.IsTuple p2 J.toArray from R) hr.Q7 (elems Z Y vs ws is J r r1 r2 g1 G h);rw[(Ff h).2];have z1:is.toArray.size=Z.length:=by simp[<- g1.length,<- r1.length]
      have z2:J.toArray.size=Y.length:=by simp[<- G.length,<- r2.length]
      rw[z1,z2] at this;exact this
  |lst h1 h2 C =>
   obtain⟨p,_,e1,_⟩:=qt S rx h1;obtain⟨p2,_,e2,_⟩:=qt S ry h2;exact qq p p2 _ _ e1 e2 h1 h2 C
inductive V8(A:Around)(s:Shared):Value->Value->Bool->Prop
 |Q3 {p p2:Addr} {is js:Xs} (e:Nat->Bool) (h1:s.heap.IsTuple p is) (h2:s.heap.IsTuple p2 js) (he:∀j (h1:j<is.size) (h2:j<js.size),SeqAt.EqAt A.in1 s is[j] js[j] (e j)):V8 A s (.ref p) (.ref p2) ((List.range (min is.size js.size)).all e&&is.size==js.size)
 |aw1 {p p2:Addr} {is js:Xs} (e:Nat->Bool) (h1:s.heap.IsList p is) (h2:s.heap.IsList p2 js) (hz:is.size=js.size) (he:∀j (h1:j<is.size) (h2:j<js.size),SeqAt.EqAt A.in1 s is[j] js[j] (e j)):V8 A s (.ref p) (.ref p2) ((List.range is.size).all e)
 |lens {p p2:Addr} {is js:Xs} (h1:s.heap.IsList p is) (h2:s.heap.IsList p2 js) (hz:(is.size != js.size)=true):V8 A s (.ref p) (.ref p2) false
def Uh{A:Around}(I:Inv X pins σ H s)(S:jr nm X.K ι H M)(hr:yh k A.in1)(rd:kj X.K ι H ds vs)(re:kj X.K ι H es ws)(Sy:Vals vs is)(Z:Vals ws G)(he:MW.Tf (MW.Nr M k) ds es=some rr) :
 ∀j (h1:j<is.toArray.size) (h2:j<G.toArray.size),SeqAt.EqAt A.in1 s is.toArray[j] G.toArray[j] (Ec (MW.Nr M k) ds es j):=λj h1 h2=>by
 have l1:j<ds.length:=by rw[rd.length,Sy.length];simpa using h1
 have l2:j<es.length:=by rw[re.length,Z.length];simpa using h2
 have R:ds[j]?=some ds[j]:=by simp[l1]
 have U:es[j]?=some es[j]:=by simp[l2]
 obtain⟨c,hc⟩:=(Ff he).1 j _ _ R U;obtain⟨va,a1,a2⟩:=rd.get R;obtain⟨wa,b1,b2⟩:=re.get U;have q1:is[j]?=some is.toArray[j]:=by simp
 have q2:G[j]?=some G.toArray[j]:=by simp
 have:=Rn I S k A.in1 _ _ va wa _ _ c hr a2 b2 (Vals.Zx Sy a1 q1) (Vals.Zx Z b1 q2) hc;have z:Ec (MW.Nr M k) ds es j=c:=by simp[Ec,R,U,hc]
 rw[z];exact this
def Zy(I:Inv X pins σ H s)(S:jr nm X.K ι H M)(hr:yh k A.in1)(rx:Rep X.K ι H x v)(ry:Rep X.K ι H y u)(rv:RelV v v')(ru:RelV u u')(h1:MW.dw M x=some ds)(h2:MW.dw M y=some es)(G:(if ds.length=es.length then MW.Tf (MW.Nr M k) ds es else some false)=some r):V8 A s v' u' r:=by
 obtain⟨p,vs,rfl,g1,g2⟩:=qt S rx h1;obtain⟨p2,ws,rfl,g3,g4⟩:=qt S ry h2;cases rv;cases ru;obtain⟨is,r1,U,_⟩:=I.list (Dm.of g1);obtain⟨js,r2,R,_⟩:=I.list (Dm.of g3)
 by_cases Z:ds.length=es.length
 .rw[di Z] at G
  have R8:is.toArray.size=js.toArray.size:=by simp[<- r1.length,<- r2.length,<- g2.length,<- g4.length,Z]
  have z:=V8.aw1 (A:=A) (Ec (MW.Nr M k) ds es) U.isList R.isList R8 (Uh I S hr g2 g4 r1 r2 G);rw[(Ff G).2];have e1:is.toArray.size=min ds.length es.length:=by simp[<- r1.length,<- g2.length,Z]
  rw[e1] at z;simpa[Z] using z
 .rw[fj Z] at G
  cases G;exact .lens U.isList R.isList (by simp[<- r1.length,<- r2.length,<- g2.length,<- g4.length,Z])
set_option tactic.hygienic true in
def Yb(I:Inv X pins σ H s)(S:jr nm X.K ι H M)(R:yh k A.in1)(Y:Rep X.K ι H x v)(Z:Rep X.K ι H y u)(L:RelV v v')(U:RelV u u')(h:MW.Nr M (k+1) x y=some r) :
 V8 A s v' u' r\/(aqd v u=true/\r=decide (v=u)):=by
 cases V6 h with
 |bl a b=>cases Y;cases Z;exact .inr ⟨rfl,by by_cases z:a=b<;>simp[z]⟩|int a b=>cases Y;cases Z;exact .inr ⟨rfl,by by_cases z:a=b<;>simp[z]⟩|str a b=>cases Y;cases Z;exact .inr ⟨rfl,by by_cases z:a=b<;>simp[z]⟩
 |@tup ds es _ h=>cases Y with
  |@tup p _ vs e1 r1=>cases Z with
   |@tup p2 _ ws e2 r2 =>
    cases L;cases U;obtain⟨is,C,J,_⟩:=I.tuple (Ei.of e1);obtain⟨js,g2,G,_⟩:=I.tuple (Ei.of e2);have z:=V8.Q3 (A:=A) (Ec (MW.Nr M k) ds es) (show s.heap.IsTuple p is.toArray from J) (show s.heap.IsTuple p2 js.toArray from G) (Uh I S R r1 r2 C g2 h);rw[(Ff h).2];have z1:is.toArray.size=ds.length:=by simp[<- C.length,<- r1.length]
    have z2:js.toArray.size=es.length:=by simp[<- g2.length,<- r2.length]
    rw[z1,z2] at z;exact .inl z
 |lst h1 h2 h3=>exact .inl (Zy I S R Y Z L U h1 h2 h3)
def V8.rc(h:V8 A s v u r)(U:A.units<cLine):SeqAt.RcAt A s v u r/\SeqAt.RcNeAt A s v u (!r):=by
 cases h with
 |Q3 e Z G he=>exact⟨SeqAt.RcAt.tuples Z G U he,SeqAt.RcNeAt.tuples Z G U he⟩|aw1 e Z G R he=>exact⟨SeqAt.RcAt.lists Z G R U he,SeqAt.RcNeAt.lists Z G R U he⟩|lens Z G R=>exact⟨SeqAt.RcAt.lists_lengths Z G R U,SeqAt.RcNeAt.lists_lengths Z G R U⟩
def a1g(R:yh 6 X.A):Ah X (compareOp .Eq) (Rz nm X.K .eq):=λZ s σ H v u v' u' Q I U G hh=>by
 obtain⟨ι,M,x,y,b,S,rx,ry,e,q⟩:=hh;have e:MW.Nr M 6 x y=some b:=e;rcases Yb (A:=X.A) I S R.in1 rx ry U G e with h|⟨h1,h2⟩
 .exact(h.rc R.Q7).1 X.prog X.w X.xe _ ⟨.bl b,H,I,rfl,q⟩
 .subst h2
  exact au9 Z s σ H v u v' u' Q I U G ⟨h1,q⟩
def a1h(R:yh 6 X.A):Ah X (compareOp .NotEq) (Rz nm X.K .ne):=λZ s σ H v u v' u' Q I U G hh=>by
 obtain⟨ι,M,x,y,b,S,rx,ry,e,q⟩:=hh;obtain⟨b',e1,e2⟩:=bw.mp (show(MW.Bb M x y).map not=some b from e);subst e2;rcases Yb (A:=X.A) I S R.in1 rx ry U G (show MW.Nr M 6 x y=_ from e1) with h|⟨h1,h2⟩
 .exact(h.rc R.Q7).2 X.prog X.w X.xe _ ⟨.bl !b',H,I,rfl,q⟩
 .subst h2
  exact ava Z s σ H v u v' u' Q I U G ⟨h1,q⟩
section
variable{nm:Nm}{W:Kl}{X:Cx}{a b c o:Expr}{a' b' c' o':Ex}{pos pos' apos:Pos}{ι:Io}{H:Hp}{σ:St}{ρ:En}{M M1 M2:dg}{x y:Dv}{es:Ya}{es':Dl}
set_option tactic.hygienic true in
theorem Np:∀{Z:List Dv}{bs:List Bool},MW.Ot M x Z=some bs->bs.length=Z.length/\∀(j:Nat) d,Z[j]?=some d->∃b,bs[j]?=some b/\MW.Bb M d x=some b
 |[],bs,h=>by cases h;exact⟨rfl,λj d e=>by simp at e⟩
 |y::ys,bs,h=>by
  simp only[MW.Ot] at h;split at h
  .rename_i a b G J
   cases h;obtain⟨Y,U⟩:=Np J;refine⟨by simp[Y],λj d e=>?_⟩;cases j with
   |zero=>simp at e;subst e;exact⟨a,rfl,G⟩|succ j=>simpa using U j d (by simpa using e)
  .cases h
def Ef(I:Inv X pins σ H s)(e:Vy X.K H p G):(∃o,H p=some (.Hd o (.lst G)))\/(H p=none/\∃(o:Obj)(Z:Xs)(n:Nat),X.K.lookup p=some o/\o.data=.seq Z n/\Vals G Z.toList):=by
 rcases e with h|⟨o,Z,n,h1,_,_,h2,_,h3⟩
 .exact .inl h
 .exact .inr ⟨(I.bs p o (I.mod.kin p o h1)).2,o,Z,n,h1,h2,h3⟩
def aq8(I:Inv X pins σ H s)(e:Vy X.K H p vs)(e2:Vy X.K H p ws):vs=ws:=by
 rcases Ef I e with⟨o,h⟩|⟨h,o,ql,n,h1,h2,h3⟩
 .rcases Ef I e2 with⟨o',Z⟩|⟨Z,_⟩
  .rw[h] at Z;cases Z;rfl
  .rw[h] at Z;cases Z
 .rcases Ef I e2 with⟨o',Z⟩|⟨_,o',qq,n',U,G,R⟩
  .rw[h] at Z;cases Z
  .rw[h1] at U;cases U
   rw[h2] at G;cases G;exact Vals.inj h3 R
mutual
theorem ab8{R:Zp}{s:Shared}(I:Inv X R σ H s)(S:jr nm X.K ι H M):∀{d d':Dv}{v:V},Rep X.K ι H d v->Rep X.K ι H d' v->d=d'
 |_,_,_,.non,r=>by cases r;rfl|_,_,_,.bl b,r=>by cases r;rfl|_,_,_,.int i,r=>by cases r;rfl|_,_,_,.str z,r=>by cases r;rfl
 |_,_,_,.tup e1 r1,r=>by
  cases r with
  |tup Z G =>
   rw[e1] at Z;cases Z;rw[Mq I S r1 G]
  |vl Z n2 G=>rw[e1] at Z;cases Z
  |fz Z G =>
   rcases Ef I Z with⟨o,h⟩|⟨h,_⟩
   .rw[e1] at h;cases h
   .rw[e1] at h;cases h
  |ref Z =>
   obtain⟨u,q,U⟩:=S.mem (aq Z);rw[e1] at U;exact U.elim
 |_,_,_,.vl e1 n1 r1,r=>by
  cases r with
  |tup Z G=>rw[e1] at Z;cases Z
  |vl Z n2 G =>
   rw[e1] at Z;cases Z;rw[Mq I S r1 G]
  |fz Z G =>
   rcases Ef I Z with⟨o,h⟩|⟨h,_⟩
   .rw[e1] at h;cases h
   .rw[e1] at h;cases h
  |ref Z=>exact absurd (aq Z) n1.1
 |_,_,_,.fz e1 r1,r=>by
  cases r with
  |tup Z G =>
   rcases Ef I e1 with⟨o,h⟩|⟨h,_⟩
   .rw[Z] at h;cases h
   .rw[Z] at h;cases h
  |vl Z n2 G =>
   rcases Ef I e1 with⟨o,h⟩|⟨h,_⟩
   .rw[Z] at h;cases h
   .rw[Z] at h;cases h
  |fz Z G =>
   have:=aq8 I e1 Z;subst this;rw[Mq I S r1 G]
  |ref Z =>
   obtain⟨u,q,U⟩:=S.mem (aq Z);rcases Ef I e1 with⟨o,h⟩|⟨h,_⟩
   .rw[h] at U;exact U.elim
   .rw[h] at q;cases q
 |_,_,_,.ref e1,r=>by
  cases r with
  |tup Z G =>
   obtain⟨u,q,U⟩:=S.mem (aq e1);rw[Z] at U;exact U.elim
  |vl Z n2 G=>exact absurd (aq e1) n2.1
  |fz Z G =>
   obtain⟨u,q,U⟩:=S.mem (aq e1);rcases Ef I Z with⟨o,h⟩|⟨h,_⟩
   .rw[h] at U;exact U.elim
   .rw[h] at q;cases q
  |ref Z =>
   obtain⟨l1,q1⟩:=ak.mp e1;obtain⟨l2,q2⟩:=ak.mp Z;rw[(List.getElem_inj S.nd).mp (q1.trans q2.symm)]
theorem Mq{Z:Zp}{s:Shared}(I:Inv X Z σ H s)(S:jr nm X.K ι H M):∀{R G:List Dv}{U:List V},kj X.K ι H R U->kj X.K ι H G U->R=G
 |_,_,_,.nil,r=>by cases r;rfl
 |_,_,_,.cons h t,r=>by
  cases r with
  |cons h2 t2=>rw[ab8 I S h h2,Mq I S t t2]
end
def ab9(I:Inv X pins σ H s)(S:jr nm X.K ι H M)(hr:yh 6 A)(U:kj X.K ι H ds vs)(R:Vals vs is)(rx:Rep X.K ι H x u)(ru:RelV u u')(h:MW.Ot M x ds=some bs):∃e:Value->Bool,(∀w,w∈is.toArray->SeqAt.EqAt A s w u' (e w))/\∀(j:Nat)(w:Value),is[j]?=some w->bs[j]?=some (e w):=by
 obtain⟨g1,g2⟩:=Np h;have G:∀(j:Nat)(w:Value),is[j]?=some w->∃b,bs[j]?=some b/\SeqAt.EqAt A s w u' b:=λj w hw=>by
  have lj:j<ds.length:=by rw[U.length,R.length];exact(ak.mp hw).1
  have gd:ds[j]?=some ds[j]:=by simp[lj]
  obtain⟨b,e1,e2⟩:=g2 j _ gd;obtain⟨v,a1,a2⟩:=U.get gd;exact⟨b,e1,Rn I S 6 A _ _ v u w u' b hr a2 rx (Vals.Zx R a1 hw) ru e2⟩
 classical
 refine⟨λw=>if hw:∃j:Nat,is[j]?=some w then(bs[hw.choose]?).getD false else false,λw hw=>?_,λj w hw=>?_⟩
 .obtain⟨j,hj,e⟩:=ug (by simpa using hw:w∈is)
  have Z:∃j:Nat,is[j]?=some w:=⟨j,by simp[hj,e]⟩;obtain⟨b,e1,e2⟩:=G Z.choose w Z.choose_spec;simp only[dif_pos Z,e1,Option.getD_some];exact e2
 .have Z:∃j:Nat,is[j]?=some w:=⟨j,hw⟩
  obtain⟨b,e1,e2⟩:=G j w hw;obtain⟨b',e3,e4⟩:=G Z.choose w Z.choose_spec;simp only[dif_pos Z,e3,Option.getD_some];rw[e1]
  congr 1
  have lj:j<ds.length:=by rw[U.length,R.length];exact(ak.mp hw).1
  have lk:Z.choose<ds.length:=by rw[U.length,R.length];exact(ak.mp Z.choose_spec).1
  have gd:ds[j]?=some ds[j]:=by simp[lj]
  have gk:ds[Z.choose]?=some ds[Z.choose]:=by simp[lk]
  obtain⟨c1,q1,q2⟩:=g2 j _ gd;obtain⟨c2,q3,q4⟩:=g2 Z.choose _ gk;obtain⟨v1,p1,p2⟩:=U.get gd;obtain⟨v2,p3,p4⟩:=U.get gk;have hv:v1=v2:=RelV.inj (Vals.Zx R p1 hw) (Vals.Zx R p3 Z.choose_spec);subst hv;rw[e1] at q1;rw[e3] at q3;cases q1;cases q3;have hd:=ab8 I S p2 p4;rw[hd,q4] at q2;exact(jb q2).symm
def ale{is:Zl}{bs:List Bool}(Z:bs.length=is.length)(h:∀(j:Nat) (w:Value),is[j]?=some w->bs[j]?=some (e w)):bs=is.map e:=by
 apply List.ext_getElem?;intro j;rw[gw];cases q:is[j]? with
 |none=>rw[u0 (by rw[Z];exact List.getElem?_eq_none_iff.mp q)];rfl|some w=>rw[h j w q];rfl
def anj{b:Bool}(n:Bool)(hr:yh 8 X.A)(S:jr nm X.K ι H M)(I:Inv X pins σ H s)(rv:RelV v v')(ru:RelV u u')(rx:Rep X.K ι H x v)(ry:Rep X.K ι H y u)(e:MW.R9 M x y=some b)(q:Q (.bl (cond n (!b) b)) H):wpAny (model X.prog X.w) X.A (compareOp (cond n .NotIn .In) v' u') (EP X pins σ Q) X.xe s:=by
 have qk:∀G,MW.jl M y=some G->MW.memD M x G=some b->wpAny (model X.prog X.w) X.A (compareOp (cond n .NotIn .In) v' u') (EP X pins σ Q) X.xe s:=λG h1 h2=>by
  obtain⟨bs,e1,e2⟩:=bw.mp (show(MW.Ot M x G).map (·.any id)=some b from h2);obtain⟨p,vs,rfl,U,r⟩:=Ej S ry h1;cases ru;have fin:∀{is:Zl}{f:Value->Bool},Vals vs is->(∀(j:Nat)(w:Value),is[j]?=some w->bs[j]?=some (f w))->is.toArray.any f=b:=fun{is f} Z R=>by have:=ale (by rw[(Np e1).1,r.length,Z.length]) R;rw[this] at e2;rw[<- e2];simp[List.any_map]
  rcases U with U|U
  .obtain⟨is,Z,pl,_⟩:=I.list (Dm.of U)
   obtain⟨f,g1,R⟩:=ab9 (A:=X.A.in1) I S ((hr.mono (by decide:7<=8)).in1) r Z rx rv e1;have a:=fin Z R;subst a;cases n with
   |false=>exact SeqAt.in_listAt f pl.isList g1 ⟨.bl _,H,I,rfl,q⟩|true=>exact SeqAt.notIn_listAt f pl.isList g1 ⟨.bl _,H,I,rfl,q⟩
  .obtain⟨is,Z,pl,_⟩:=I.tuple (Ei.of U)
   obtain⟨f,g1,R⟩:=ab9 (A:=X.A.in1) I S ((hr.mono (by decide:7<=8)).in1) r Z rx rv e1;have a:=fin Z R;subst a;cases n with
   |false=>exact SeqAt.in_tupleAt f (show s.heap.IsTuple p is.toArray from pl) g1 ⟨.bl _,H,I,rfl,q⟩
   |true=>exact SeqAt.notIn_tupleAt f (show s.heap.IsTuple p is.toArray from pl) g1 ⟨.bl _,H,I,rfl,q⟩
 have qq:(MW.jl M y).bind (MW.memD M x)=some b->wpAny (model X.prog X.w) X.A (compareOp (cond n .NotIn .In) v' u') (EP X pins σ Q) X.xe s:=λe=>by obtain⟨G,h1,h2⟩:=j8.mp e;exact qk G h1 h2
 exact qq e
def a1i(R:yh 8 X.A):Ah X (compareOp .In) (Rz nm X.K .inn):=λZ s σ H v u v' u' Q I U G hh=>by obtain⟨ι,M,x,y,b,S,rx,ry,e,q⟩:=hh;exact anj false R S I U G rx ry e q
def alf(R:yh 8 X.A):Ah X (compareOp .NotIn) (Rz nm X.K .Pz):=λZ s σ H v u v' u' Q I U G hh=>by obtain⟨ι,M,x,y,c,S,rx,ry,e,q⟩:=hh;obtain⟨b,e',rfl⟩:=bw.mp (show(MW.R9 M x y).map not=some c from e);exact anj true R S I U G rx ry e' q
end
def rM(nm:Nm)(K:Fg)(m:Bm):V->List V->Hp->VK->Prop:=λv vs H Q=>∃G M x R d M',jr nm K G H M/\Rep K G H x v/\kj K G H R vs/\MW.Jc m x R M=.ok d M' /\
 ∀Z U w,Le G H Z U->jr nm K Z U M'->Rep K Z U d w->Q w U
set_option tactic.hygienic true in
theorem aq9{id:String}(hT:∀L H M x v,jr nm X.K L H M->Rep X.K L H x v->MW.P0 m x M=true->tyV X.K T v H)(pa:PlainAttrs T)(Y:Slot T name id)(C:typeOf (.builtin id)=pure (.type "method_descriptor"))(hm:MtR X id (rM nm X.K m))(ho:PE X o (tE nm W X.K o'))(ha:PA X (e::es) (Xr nm W X.K J))(Xl:attributeBase o name X.env (eval o X.env)=eval o X.env)(qq:((backTo G (starEach (e::es) X.env)).all (λx=>!x.1)&&(backToKw G (keywordEach [] X.env)).all (λx=>x.1.isSome)
&&decide ((e::es).length+([]:List Keyword).length+(if([]:List Keyword).isEmpty then 0 else 1)<30))=true)(Xm:(apos.endLine==G.line)=true)(hs:starEach (e::es) X.env=(false,eval e X.env)::starEach es X.env)(Zt:(backTo G (starEach es X.env)).any (·.1)=false) :
 PE X (.Call (.Attribute o name apos) (e::es) [] G) (tE nm W X.K (.bm m o' J)) :=
 PE.of (avx pa Y C hm ho ha Xl qq Xm hs Zt) fun σ H Q L ρ M d M' S R e q=>by
  rw[MW.aop] at e;obtain⟨x,M1,e1,e⟩:=d7 e;split at e
  .rename_i ht
   obtain⟨ds,M2,e2,e⟩:=d7 e;exact one S R e1 λZ H1 v le S1 R1 r=>⟨hT Z H1 M1 x v S1 r ht,Z,ρ,M1,ds,M2,S1,R1,e2,λqk H2 vs xn S2 rs=>⟨qk,M2,x,ds,d,M',S2,r.mono xn,rs,e,λu H' w U S' r'=>q u H' w ((le.trans xn).trans U) S' r'⟩⟩
  .cases e
def aca(h:MW.onL o M f=.ok d M'):∃n Z,o=.ref n/\M[n]?=some (.lst Z)/\f n Z=.ok d M':=by
 cases o with
 |ref n =>
  simp only[MW.onL] at h;cases e:M[n]? with
  |none=>rw[e] at h;cases h
  |some o=>cases o with
   |lst Z=>rw[e] at h;exact⟨n,Z,rfl,e,h⟩|_=>rw[e] at h;cases h
 |_=>cases h
def Zz{Z:List Dv}(h:MW.Ou Z g=.ok d M'):∃x,Z=[x]/\g x=.ok d M':=by
 match Z,h with
 |[x],h=>exact⟨x,rfl,h⟩|[],h=>cases h|_::_::_,h=>cases h
def Z0{c:Prop}[Decidable c]{r:Res α}(h:(if c then r else .bad)=.ok d M'):c/\r=.ok d M':=by
 by_cases z:c
 .rw[di z] at h;exact⟨z,h⟩
 .rw[fj z] at h;cases h
def ty_list{X:Cx}(S:jr nm X.K G H M)(r:Rep X.K G H x v)(h:(MW.dw M x).isSome=true):tyV X.K "list" v H:=by obtain⟨ds,U⟩:=ji.mp h;obtain⟨p,Z,rfl,R,_⟩:=qt S r U;exact .inl ⟨rfl,Z,Dm.of R⟩
def aht:MtR X "list.append" (rM nm X.K .append):=λZ s σ H v vs u us Q I ru Sy hh=>by
 obtain⟨ι,M,x,ds,d,M',S,r,rs,e,q⟩:=hh;obtain⟨n,xs,rfl,R,e1⟩:=aca e;obtain⟨d0,rfl,e2⟩:=Zz e1;obtain⟨hl,e3⟩:=Z0 e2;cases e3;cases r with
 |ref U =>
  obtain⟨G,h3,h4⟩:=S.obj n _ _ R U;cases rs with
  |cons hd ht =>
   cases ht;refine Ua Z s σ H _ _ u us Q I ru Sy ⟨_,G,_,rfl,rfl,h3,by rw[<- h4.length];exact Rk hl,?_⟩;obtain⟨S2,xn⟩:=S.put (u:=.lst (G++[_])) (o:=.lst (xs++[_])) R U λle=>⟨_,t8,(h4.mono le).append (.cons (hd.mono le) .nil)⟩
   exact q _ _ _ xn S2 .non
def ahu:MtR X "list.extend" (rM nm X.K .extend):=λZ s σ H v vs u us Q I ru Sy hh=>by
 obtain⟨ι,M,x,ds,d,M',S,r,rs,e,q⟩:=hh;obtain⟨n,xs,rfl,hM,e1⟩:=aca e;obtain⟨y,rfl,U⟩:=Zz e1;cases hy:MW.dw M y with
 |none=>rw[hy] at U;cases U
 |some zs =>
  rw[hy] at U;obtain⟨⟨_,hl⟩,e3⟩:=Z0 U;cases e3;cases r with
  |ref ha =>
   obtain⟨R,h3,h4⟩:=S.obj n _ _ hM ha;cases rs with
   |cons hd ht =>
    cases ht;obtain⟨b,G,rfl,h5,h6⟩:=qt S hd hy;refine ad3 Z s σ H _ _ u _ Q I ru Sy ⟨_,b,R,G,rfl,rfl,h3,h5,by rw[<- h4.length,<- h6.length];exact wy (Rk hl),?_⟩;obtain⟨S2,xn⟩:=S.put (u:=.lst (R++G)) (o:=.lst (xs++zs)) hM ha λle=>⟨_,t8,(h4.mono le).append (h6.mono le)⟩
    exact q _ _ _ xn S2 .non
set_option tactic.hygienic true in
theorem ints_rep{u:Io}{H:Hp}{K:Fg}:∀{J:List Dv}{Y:List V}{is:Zl}{U:X2},kj K u H J Y->Vals Y is->MW.Th J=some U->∃Z:Array (Int×Tok),is.toArray=intItems Z/\Z.toList.map (·.1)=U
 |_,_,_,_,.nil,.nil,h=>by cases h;exact⟨#[],by simp[intItems],rfl⟩
 |_,_,_,_,.cons r t,.cons rv tv,h=>by
  cases r<;>simp only[MW.Th] at h<;>try cases h
  rename_i i;obtain⟨R,L,e2⟩:=bw.mp h;obtain⟨Z,C,g2⟩:=ints_rep t tv L;obtain⟨S,rfl⟩:=rv;refine⟨#[(i,S)]++Z,?_,by simp[g2,e2]⟩;have G:=mz Array.toList C;apply Array.toList_inj.mp;simp[intItems] at G ⊢;exact G
theorem Yc:∀(l:X2)(z m:Int),(m=z\/m∈l)->z<=m->(∀a∈l,a<=m)->l.foldl (λm x=>if m<x then x else m) z=m
 |[],z,m,h,_,_=>by rcases h with h|h;exact h.symm;cases h
 |a::l,z,m,h,hz,Jf=>by
  rw[List.foldl_cons];have U:=Jf a bz;refine Yc l _ m ?_ (by split<;>lia) (λb G=>Jf b (bu _ G));rcases h with h|h
  .subst h;left;split<;>lia
  .rcases cg.mp h with h|h
   .subst h
    by_cases Z:z<m
    .left;rw[di Z]
    .left;rw[fj Z];lia
   .exact .inr h
theorem Yd:∀(l:X2)(z m:Int),(m=z\/m∈l)->m<=z->(∀a∈l,m<=a)->l.foldl (λm x=>if x<m then x else m) z=m
 |[],z,m,h,_,_=>by rcases h with h|h;exact h.symm;cases h
 |a::l,z,m,h,hz,Jf=>by
  rw[List.foldl_cons];have U:=Jf a bz;refine Yd l _ m ?_ (by split<;>lia) (λb G=>Jf b (bu _ G));rcases h with h|h
  .subst h;left;split<;>lia
  .rcases cg.mp h with h|h
   .subst h
    by_cases Z:m<z
    .left;rw[di Z]
    .left;rw[fj Z];lia
   .exact .inr h
def alg(e:MW.two ds f g M=.ok d Z):Z=M/\((∃i j,ds=[.int i,.int j]/\d=.int (f i j))\/∃x m,ds=[x]/\g x=some m/\d=.int m):=by
 cases ds with
 |nil=>cases e
 |cons x r=>cases r with
  |nil =>
   obtain⟨G,R⟩:=uv (show Res.qi ((g x).map MW.D.int) M=.ok d Z from e);obtain⟨m,e3,U⟩:=bw.mp G;exact⟨R,.inr ⟨x,m,rfl,e3,U.symm⟩⟩
  |cons y r=>cases r with
   |nil =>
    cases x<;>try cases e
    cases y<;>cases e;exact⟨rfl,.inl ⟨_,_,rfl,rfl⟩⟩
   |cons _ _=>cases e
def Ye{h:List Int->Option Int}(e:MW.two ds f (λd=>((MW.jl M d).bind MW.Th).bind h) M=.ok d M'):M'=M/\((∃i j,ds=[.int i,.int j]/\d=.int (f i j))\/∃x G n Z m,ds=[x]/\MW.jl M x=some G/\MW.Th G=some (n::Z)/\h (n::Z)=some m/\d=.int m\/h []=some m):=by
 obtain⟨a,b|⟨x,m,R,h4,h5⟩⟩:=alg e
 .exact⟨a,.inl b⟩
 .obtain⟨Z,e5,U⟩:=j8.mp h4
  obtain⟨G,e7,e8⟩:=j8.mp e5;cases Z with
  |nil=>exact⟨a,.inr ⟨x,G,0,[],m,.inr U⟩⟩|cons n Z=>exact⟨a,.inr ⟨x,G,n,Z,m,.inl ⟨R,e7,e8,U,h5⟩⟩⟩
def Z3(h:Vals [v] Z):∃u,Z=[u]/\RelV v u:=L2.Vals.one h
def Ui(h:i<Z.size):(Z.toList.map (·.1))[i]?=some (numAt Z i):=by simp[numAt,h]
def best{Z:Array (Int×Tok)}{R:Int->Int->Prop}(g2:Z.toList.map (·.1)=n::l)(h:b<Z.size)(b2:∀i,i<Z.size->R (numAt Z i) (numAt Z b)):(numAt Z b=n\/numAt Z b∈l)/\∀a∈n::l,R a (numAt Z b):=by
 constructor
 .have:=aq (Ui h)
  rw[g2] at this;exact cg.mp this
 .intro a ha
  rw[<- g2] at ha;obtain⟨i,G⟩:=j5.mp ha;have U:i<Z.size:=by have:=(ak.mp G).1;simpa using this
  rw[Ui U] at G;cases G;exact b2 i U
def acb(r:kj K ι H [.int i,.int j] Z):Z=[.int i,.int j]:=by
 cases r with
 |cons G t1=>cases t1 with
  |cons U R=>cases R;cases G;cases U;rfl
def acd(I:Inv X pins σ H s)(S:jr nm X.K ι H M)(r:kj X.K ι H [x] vs)(Sy:Vals vs us)(e1:MW.jl M x=some xs)(e2:MW.Th xs=some (n::ns)):∃a Z,us=[.ref a]/\(s.heap.IsList a (intItems Z)\/s.heap.IsTuple a (intItems Z))/\Z.toList.map (·.1)=n::ns/\0<Z.size:=by
 obtain⟨v,rfl,rv⟩:=V5 r rfl;obtain⟨u,rfl,ru⟩:=Z3 Sy;obtain⟨p,ws,rfl,U,rl⟩:=Ej S rv e1;cases ru;have fin:∀{Z:Array (Int×Tok)},Z.toList.map (·.1)=n::ns->0<Z.size:=fun{Z} g=>by have:=mz List.length g;simp at this;lia
 rcases U with U|U
 .obtain⟨is,G,pl,_⟩:=I.list (Dm.of U)
  obtain⟨Z,g1,R⟩:=ints_rep rl G e2;exact⟨_,Z,rfl,.inl (by rw[<- g1];exact pl.isList),R,fin R⟩
 .obtain⟨is,G,pl,_⟩:=I.tuple (Ei.of U)
  obtain⟨Z,g1,R⟩:=ints_rep rl G e2;exact⟨_,Z,rfl,.inr (by rw[<- g1];exact pl),R,fin R⟩
def Uj{s:Shared}{Z:Heap}{U:Obj}(R:∀b o,b∉[s.heap.objs.size]->(s.heap.push U).get? b=some o->Z.get? b=some o):∀b o,s.heap.get? b=some o->Z.get? b=some o:=λb o e =>
 R b o (λG=>absurd (j9.mp G▸az e) (m5 _)) (au _ e)
def ahv{s:Shared}{U:Obj}(G:l<s.heap.objs.size):∀b∈[s.heap.objs.size,l],b<(s.heap.push U).objs.size:=λb Z=>by
 rw[jy];simp only[cg,qb,or_false] at Z;rcases Z with rfl|rfl
 .exact ur _
 .exact Nat.lt_succ_of_lt G
def alh{A:Around}{E:Y1}{Q:Y1}(hh:A.handled=none)(G:s.heap.IsList l (intItems Z)\/s.heap.IsTuple l (intItems Z))(Ow:0<Z.size)
 (h:∀v U R,(intItems Z)[argBest (λi j=>decide (numAt Z i > numAt Z j)) (Z.size-1)]?=some v->(∀b o,s.heap.get? b=some o->U.get? b=some o)->Q v { s with heap:=U,toks:=R }) :
 wpAny (model prog w) A (call (.builtin "max") [.ref l]) Q E s:=by
 rcases G with G|G
 .exact max_intList hh G Ow h
 .have Hc:l<s.heap.objs.size:=by obtain⟨_,e,_⟩:=G;exact az e
  refine call_max_walk (lg G ⟨_,_,_,_,_,_,_,rfl,Walks.tuple (A:=A.in1) hh _ l (gh Hc) (intItems Z),⟨⟨_,bj _ rfl,rfl,rfl⟩,G.at λo e=>au _ e⟩,ahv Hc,by simpa[intItems] using Ow,CmpOf.ints_gt (numAt Z) (λ_ _=>intItems_at),λv U R hP hk=>?_⟩);exact h v U R (by simpa[intItems] using hP) (Uj hk)
def ali{A:Around}{E:Y1}{Q:Y1}(hh:A.handled=none)(G:s.heap.IsList l (intItems Z)\/s.heap.IsTuple l (intItems Z))(Ow:0<Z.size)
 (h:∀v U R,(intItems Z)[argBest (λi j=>decide (numAt Z i<numAt Z j)) (Z.size-1)]?=some v->(∀b o,s.heap.get? b=some o->U.get? b=some o)->Q v { s with heap:=U,toks:=R }) :
 wpAny (model prog w) A (call (.builtin "min") [.ref l]) Q E s:=by
 rcases G with G|G
 .exact min_intList hh G Ow h
 .have Hc:l<s.heap.objs.size:=by obtain⟨_,e,_⟩:=G;exact az e
  refine call_min_walk (lg G ⟨_,_,_,_,_,_,_,rfl,Walks.tuple (A:=A.in1) hh _ l (gh Hc) (intItems Z),⟨⟨_,bj _ rfl,rfl,rfl⟩,G.at λo e=>au _ e⟩,ahv Hc,by simpa[intItems] using Ow,CmpOf.ints_lt (numAt Z) (λ_ _=>intItems_at),λv U R hP hk=>?_⟩);exact h v U R (by simpa[intItems] using hP) (Uj hk)
def aw2(hc:X.calm=true):yo X (.builtin "max") (rB nm X.K .max):=λZ s σ H vs us Q I U hh=>by
 obtain⟨ι,M,ds,d,M',S,r,e,q⟩:=hh;obtain⟨rfl,⟨i,j,rfl,rfl⟩|⟨x,xs,n,l,m,⟨rfl,e1,e2,G,rfl⟩|G⟩⟩:=Ye (h:=MW.ajb) e
 .cases acb r
  exact adz hc Z s σ H _ us Q I U ⟨i,j,rfl,q ι H _ (Le.refl _ _) S (.int _)⟩
 .obtain⟨a,xa,rfl,pl,g2,Ow⟩:=acd I S r U e1 e2
  refine alh (I.ok.hd hc) pl Ow λw h' tk hw keep=>?_
  obtain⟨t,rfl⟩:=intItems_at hw;obtain⟨b1,b2⟩:=argBest_gt (numAt xa) (xa.size-1);obtain⟨c1,c2⟩:=best (R:=(·<=·)) g2 (by omega) λi hi=>b2 i (by lia)
  cases G;rw[Yc l n _ c1 (c2 n bz) λa h=>c2 a (bu _ h)] at q;exact⟨.int _,H,I.kept keep,⟨t,rfl⟩,q ι H _ (Le.refl _ _) S (.int _)⟩
 .cases G
def Mr(n d:Nat)(o:Option Int):HT.Dn n d o=MW.clip n d o:=by
 cases o with
 |none=>rfl
 |some i =>
  show(if i<0 then(i+(n:Int)).toNat else min i.toNat n)=(if 0<=i then min i.toNat n else(i+(n:Int)).toNat)
  by_cases h:i<0
  .rw[di h,fj (by lia)]
  .rw[fj h,di (by lia)]
def tO(nm:Nm)(W:Kl)(K:Fg)(o:OEx):TO:=fun σ H Q=>∃G ρ M d R,jr nm K G H M/\ph K G H ρ σ/\o.den W ρ M=.ok d R/\∀Z U,Le G H Z U->jr nm K Z U R->Q d U
def PO.weak(h:PO X e t)(w:∀Z H Q,t' Z H Q->t Z H Q):PO X e t':=λG s Z H Q I q=>h G s Z H Q I (w Z H Q q)
def PO.of(h:PO X e t)(w:∀σ H Q G ρ M d U,jr nm X.K G H M->ph X.K G H ρ σ->o'.den W ρ M=.ok d U->(∀Z H',Le G H Z H'->jr nm X.K Z H' U->Q d H')->t σ H Q):PO X e (tO nm W X.K o'):=PO.weak h fun σ H Q z_=>by obtain⟨G,ρ,M,d,U,S,R,e,q⟩:=z_;exact w σ H Q G ρ M d U S R e q
def alj:PO X none (tO nm W X.K .none):=PO.of akt λU H Q Z ρ M d G S R e q=>by rw[MW.Ti] at e;cases e;exact q Z H (Le.refl _ _) S
set_option tactic.hygienic true in
def alk(G:PE X a (tE nm W X.K U)):PO X (some a) (tO nm W X.K (.some U)):=PO.of (aku G) fun σ H Q ι ρ M d M' S R e q=>by rw[MW.Tj] at e;obtain⟨x,u,Y,e⟩:=d7 e;split at e<;>cases e;rename_i i;exact one S R Y λZ C v le J L r=>by cases r;exact⟨i,rfl,q Z C le J⟩
set_option tactic.hygienic true in
def aw3(ha:PE X a (tE nm W X.K a'))(hl:PO X lo (tO nm W X.K qv))(hh:PO X hi (tO nm W X.K q1)):PE X (.Subscript a (.Slice lo hi none p2) pos) (tE nm W X.K (.cut a' qv q1)) :=
 PE.of (ahb (SlR.or akx aqk) ha hl hh) fun σ H Q ι ρ M d M' S R e q=>by
  rw[MW.aao] at e;obtain⟨x,M1,e1,e⟩:=d7 e;obtain⟨l,M2,e2,e⟩:=d7 e;obtain⟨h,M3,e3,e⟩:=d7 e;obtain⟨L,e5⟩:=uv e;subst e5;refine one S R e1 λqk H1 v le S1 R1 r=>⟨qk,ρ,M1,l,M2,S1,R1,e2,λq2 H2 xn S2=>⟨q2,ρ,M2,h,_,S2,R1.mono xn,e3,λJ H3 Sx u=>?_⟩⟩
  have r3:=(r.mono xn).mono Sx;have fin:=λq0 H' w qq S' r'=>q q0 H' w (((le.trans xn).trans Sx).trans qq) S' r'
  have lst:∀Z,MW.dw M' x=some Z->d=.vl (MW.Dg Z l h)->avv X.K v l h H3 Q:=λZ hd ed=>by
   obtain⟨p,vs,rfl,C,U⟩:=qt u r3 hd;refine⟨p,vs,rfl,Dm.of C,λp' Y=>?_⟩;have:kj X.K J H3 (MW.Dg Z l h) (O1 vs l h):=by unfold MW.Dg O1;rw[Mr,Mr,<- U.length];exact(U.drop _).take _
   obtain⟨S4,G,r4⟩:=Zv (X:=X) u Y this;subst ed;exact fin _ _ _ G S4 r4
  cases x with
  |tup Z =>
   right
   simp only[MW.Ai] at L;cases L;cases r3 with
   |@tup p _ vs C U =>
    have:kj X.K J H3 (MW.Dg Z l h) (O1 vs l h):=by unfold MW.Dg O1;rw[Mr,Mr,<- U.length];exact(U.drop _).take _
    refine⟨p,vs,rfl,Ei.of C,λz1 z2=>?_,λp' Y=>?_⟩
    .have e:O1 vs l h=vs:=by
      unfold O1;rw[z1,z2];simp
     rw[e] at this;exact fin _ _ _ (Le.refl _ _) u (.tup C this)
    .obtain⟨S4,G,r4⟩:=Ik (X:=X) u Y this
     exact fin _ _ _ G S4 r4
  |_ =>
   left
   simp only[MW.Ai] at L;obtain⟨Z,hd,ed⟩:=bw.mp L;exact lst Z hd ed.symm
def aw4(hc:X.calm=true):yo X (.builtin "min") (rB nm X.K .min):=λZ s σ H vs us Q I U hh=>by
 obtain⟨ι,M,ds,d,M',S,r,e,q⟩:=hh;obtain⟨rfl,⟨i,j,rfl,rfl⟩|⟨x,xs,n,l,m,⟨rfl,e1,e2,G,rfl⟩|G⟩⟩:=Ye (h:=MW.aof) e
 .cases acb r
  exact ad0 hc Z s σ H _ us Q I U ⟨i,j,rfl,q ι H _ (Le.refl _ _) S (.int _)⟩
 .obtain⟨a,xa,rfl,pl,g2,Ow⟩:=acd I S r U e1 e2
  refine ali (I.ok.hd hc) pl Ow λw h' tk hw keep=>?_
  obtain⟨t,rfl⟩:=intItems_at hw;obtain⟨b1,b2⟩:=argBest_lt (numAt xa) (xa.size-1);obtain⟨c1,c2⟩:=best (R:=λa b=>b<=a) g2 (by omega) λi hi=>b2 i (by lia)
  cases G;rw[Yd l n _ c1 (c2 n bz) λa h=>c2 a (bu _ h)] at q;exact⟨.int _,H,I.kept keep,⟨t,rfl⟩,q ι H _ (Le.refl _ _) S (.int _)⟩
 .cases G
def ahw(K:Fg)(T:String):PySem.W.kitOne K (.type T) (.type T)=some true:=by unfold PySem.W.kitOne;rw[di (by simp)]
def ahx(hg:Gl X n)(hm:X.mg n=none)(hv:bootBuiltins n=some (.builtin "isinstance"))(hn:n≠"__name__")(Zm:(n==("__debug__" : Str))=false)(qq:Gl X G)(q2:X.mg G=none)(qv:bootBuiltins G=some (.type "bool"))(q1:G≠"__name__")(q0:(G==("__debug__" : Str))=false)(ha:PE X a (tE nm W X.K a'))(he:starEach [a,.Name G p'] X.env=(false,eval a X.env)::starEach [.Name G p'] X.env)(qk:starEach [.Name G p'] X.env=(false,eval (.Name G p') X.env)::starEach [] X.env)(M9:(backTo pos (starEach [.Name G p'] X.env)).any (·.1)=false):PE X (.Call (.Name n p) [a,.Name G p'] [] pos) (tE nm W X.K (.blt .isBool (.cons a' .nil))):=by
 intro U s σ H Q I hh;obtain⟨ι,ρ,M,d,M',S,R,e,q⟩:=hh;rw[MW.Uy] at e;obtain⟨ds,M1,e1,e⟩:=d7 e;rw[MW.zb] at e1;obtain⟨x,M2,e2,e1⟩:=d7 e1;rw[MW.Be] at e1;cases e1;refine o5 (Ih I hg hm hv ?_ hn Zm);refine uc (Q:=EP X U σ Q) ?_ he M9;rw[he];show wpAny _ _ (spliced ((false,eval a X.env)::backTo pos (starEach [.Name G p'] X.env))) _ _ s;refine Calls.spliced_cons (ym (ha U s σ H (λv H1=>∃Z,Le ι H Z H1/\jr nm X.K Z H1 M1/\Rep X.K Z H1 x v) I ⟨ι,ρ,M,x,M1,S,R,e2,λZ H1 v le S1 r=>⟨Z,le,S1,r⟩⟩) λu s1 z_=>?_);obtain⟨v,H1,I1,r1,Z,le,S1,r⟩:=z_;rw[qk];show wpAny _ _ (spliced ((false,eval (.Name G p') X.env)::backTo pos (starEach [] X.env))) _ _ s1;refine Calls.spliced_cons (Ih I1 qq q2 qv ?_ q1 q0);refine Calls.spliced_nil ?_;cases r with
 |bl b =>
  cases e;cases(show u=Value.bool b from r1);exact PySem.W.kia_one PySem.W.kitx_bool I1.kIn True.intro (ahw _ _) (λz=>nomatch z) λtk=>⟨.bl true,H1,I1.tok _,rfl,q Z H1 _ le S1 (.bl true)⟩
 |_=>cases e
end Sm
namespace EnT
open PySem PySem.Spec
open AutoSeq1 (wpAny_loadPart')
set_option tactic.hygienic true in
def ahy(a:s.heap.IsTupleIter it t i)(b:s.heap.IsTuple t J)(e:J[i]?=some x)(q:∀G,G.IsTupleIter it t (i+1)->Heap.SameBut it s.heap G->Q x { s with heap:=G }):wpAny (model prog w) A (Builtin.SmallTypes.nextOf (.ref it)) Q E s:=by obtain⟨o,Y,C,Z⟩:=id a;obtain⟨S,U,R,u,L⟩:=b;unfold Builtin.SmallTypes.nextOf;refine aa (jc (name:=Str.ofString "__next__") a.typeIs pg (jz pg a.typeIs F.entry_tuple_iterator_next ?_ (F.args_tuple_iterator_next_1 _)));show wpAny _ _ (field (.ref it) 0 >>= _) _ _ s;refine aa (fc Y Z (x:=.ref t) rfl ?_);show wpAny _ _ (if(Value.ref t==Value.none)=true then _ else field (.ref it) 1 >>= _) _ _ s;rw[fj (show ¬((Value.ref t==Value.none)=true) by exact g8)];refine aa (fc Y Z (x:=.int i 0) rfl (aa (ni U L ?_)));simp only[j7,e];refine aa (wpAny_setField Y Z (by simp) (aj ⟨x,rfl,aj (q _ ⟨_,m6 _ Y (Obj.isFreed_of_fields (Obj.data_mapFields Z _)),(Obj.cls_mapFields ..).trans C,?_⟩ (jg ..))⟩));rw[Obj.data_mapFields Z];simp[rawInt]
set_option tactic.hygienic true in
def alm(C:A.handled=none)(a:s.heap.IsTupleIter it t i)(b:s.heap.IsTuple t J)(e:J[i]?=none)(q:∀Z x,Heap.ExtBut it s.heap Z->(∃o,Z.get? x=some o/\o.cls=.type "StopIteration")->E (.ref x) { s with heap:=Z }):wpAny (model prog w) A (Builtin.SmallTypes.nextOf (.ref it)) Q E s:=by obtain⟨o,G,u,Y⟩:=id a;obtain⟨S,U,R,nl,L⟩:=b;unfold Builtin.SmallTypes.nextOf;refine aa (jc (name:=Str.ofString "__next__") a.typeIs pg (jz pg a.typeIs F.entry_tuple_iterator_next ?_ (F.args_tuple_iterator_next_1 _)));show wpAny _ _ (field (.ref it) 0 >>= _) _ _ s;refine aa (fc G Y (x:=.ref t) rfl ?_);show wpAny _ _ (if(Value.ref t==Value.none)=true then _ else field (.ref it) 1 >>= _) _ _ s;rw[fj (show ¬((Value.ref t==Value.none)=true) by exact g8)];refine aa (fc G Y (x:=.int i 0) rfl (aa (ni U L ?_)));simp only[j7,e];refine aa (wpAny_rule (aa (wpAny_setField G Y (by simp) ?_)));show wpAny _ _ (newExc (.type "StopIteration") [] >>= raiseNew) _ _ _;exact STb.aaf C λZ x k e=>q Z x (λb o n z=>k b o ((jg ..).extBut b o n z)) e
def V9(b:Bool)(h:Heap)(it a:Addr)(i:Nat):Prop:=cond b (h.IsTupleIter it a i) (h.IsListIter it a i)
def Wa(b:Bool)(h:Heap)(a:Addr)(Z:Xs):Prop:=cond b (h.IsTuple a Z) (h.IsList a Z)
def V9.at(x:V9 b h it a i)(k:∀o,h.get? it=some o->Z.get? it=some o):V9 b Z it a i:=by
 cases b with
 |true=>obtain⟨o,e,r⟩:=x;exact⟨o,k o e,r⟩
 |false=>obtain⟨o,e,r⟩:=x;exact⟨o,k o e,r⟩
def V9.obj(x:V9 b h it a i):∃o,h.get? it=some o/\∀v,o.data≠.cell v:=by
 cases b with
 |true=>obtain⟨o,e,c,d⟩:=x;exact⟨o,e,λv z=>by rw[d] at z;cases z⟩
 |false=>obtain⟨o,e,c,d⟩:=x;exact⟨o,e,λv z=>by rw[d] at z;cases z⟩
def Ro(a:V9 b s.heap it t i)(c:Wa b s.heap t G)(e:G[i]?=some x)(q:∀Z,V9 b Z it t (i+1)->Heap.SameBut it s.heap Z->Q x { s with heap:=Z }):wpAny (model prog w) A (Builtin.SmallTypes.nextOf (.ref it)) Q E s:=by
 cases b with
 |true=>exact ahy a c e q|false=>exact wpAny_nextOf_list_item a c e q
def ace(G:A.handled=none)(a:V9 b s.heap it t i)(c:Wa b s.heap t U)(e:U[i]?=none)(q:∀Z x,Heap.ExtBut it s.heap Z->(∃o,Z.get? x=some o/\o.cls=.type "StopIteration")->E (.ref x) { s with heap:=Z }):wpAny (model prog w) A (Builtin.SmallTypes.nextOf (.ref it)) Q E s:=by
 cases b with
 |true=>exact alm G a c e q|false=>exact wpAny_nextOf_list_end G a c e q
def aln{i:Nat}{Q:Y1}(he:IsEnum s.heap e it i old)(a:V9 b s.heap it t i)(c:Wa b s.heap t xs)(ex:xs[i]?=some x)(ne:e≠it)(q:∀G,IsEnumOut G e it ((i:Int)+1) x s.heap.objs.size->V9 b G it t (i+1)->G.get? s.heap.objs.size=some { cls:=.type "tuple",data:=.seq #[.int i s.toks,x] }->G.objs.size=s.heap.objs.size+1 ->
 (∀y o,y≠e->y≠it->s.heap.get? y=some o->G.get? y=some o)->Q (.ref s.heap.objs.size) { s with heap:=G,toks:=s.toks+1 }) :
 wpAny (model prog w) A (Builtin.«enumerate.__next__» ⟨[.ref e],[]⟩) (λfin s'=>∃v,fin=.done (.ret v)/\Q v s') E s:=by
 obtain⟨U,g,d,tk,os⟩:=s;show wpAny _ _ (field (.ref e) 2 >>= _) _ _ _;refine aa (fc he rfl (x:=.ref it) rfl (aa (Ro a c ex λh1 a1 s1=>?_)));have s1:Heap.SameBut it U h1:=s1;have e1:IsEnum h1 e it i old:=(s1.2 e ne).trans he;refine aa (fc e1 rfl (x:=rawInt i) rfl (aa (fc e1 rfl (x:=.none) rfl (aa (wpAny_mkInt ?_)))));show wpAny _ _ (setField (.ref e) 3 (rawInt ((i:Int)+1)) >>= _) _ _ ⟨h1,g,d,tk+1,os⟩;refine aa (iz e1 (by simp) λh2 e2 s2=>?_);have s2:Heap.SameBut e h1 h2:=s2;have e2:IsEnum h2 e it ((i:Int)+1) old:=e2;refine aa (iz e2 (by simp) λh3 e3 s3=>?_);have s3:Heap.SameBut e h2 h3:=s3;have e3:IsEnum h3 e it ((i:Int)+1) old:=e3;refine aa (wpAny_newTuple ?_);have n3:h3.objs.size=U.objs.size:=by rw[s3.1,s2.1,s1.1]
 obtain⟨Z,d4⟩:∃Z,Z=h3.push { cls:=.type "tuple",data:=.seq #[.int i tk,x] }:=⟨_,rfl⟩;have e4:IsEnum Z e it ((i:Int)+1) old:=by rw[d4];exact au _ e3
 have t4:Z.get? U.objs.size=some { cls:=.type "tuple",data:=.seq #[.int i tk,x] }:=by rw[d4,<- n3];exact bj _ rfl
 have n4:Z.objs.size=U.objs.size+1:=by rw[d4,jy,n3]
 have k3:∀y o,y≠e->h1.get? y=some o->Z.get? y=some o:=λy o R z=>by rw[d4];exact au _ (s3.extBut y o R (s2.extBut y o R z))
 have a4:V9 b Z it t (i+1):=a1.at λo z=>k3 it o (oh ne) z
 have lt:e<U.objs.size:=az he
 show wpAny _ _ (Builtin.SmallTypes.ownedTupleIsFree (.ref e) >>= _) _ _ ⟨h3.push _,g,d,tk+1,os⟩;rw[n3,<- d4];refine aa ?_;unfold Builtin.SmallTypes.ownedTupleIsFree;refine aa (fc e4 rfl (x:=.none) rfl (aj ?_));simp only[iu];refine aa (wpAny_rule (aa (fc e4 rfl (x:=old) rfl (aa (iz e4 (by simp) λh5 e5 s5=>?_)))));have s5:Heap.SameBut e Z h5:=s5;have e5:IsEnum h5 e it ((i:Int)+1) x:=e5;refine aa ?_;unfold Builtin.SmallTypes.ownedTupleHandOut;refine aa (iz e5 (by simp) λh6 e6 s6=>?_);have s6:Heap.SameBut e h5 h6:=s6;have e6:IsEnumOut h6 e it ((i:Int)+1) x U.objs.size:=e6;refine iz e6 (by simp) λh7 e7 s7=>?_
 have s7:Heap.SameBut e h6 h7:=s7;have k7:∀y o,y≠e->Z.get? y=some o->h7.get? y=some o:=λy o R z=>s7.extBut y o R (s6.extBut y o R (s5.extBut y o R z))
 exact aa (wpAny_letGo (aj ⟨_,rfl,q h7 e7 (a4.at λo z=>k7 it o (oh ne) z) (k7 _ _ (rz lt) t4) (by rw[s7.1,s6.1,s5.1,n4]) λy o y1 y2 z=>k7 y o y1 (k3 y o y1 (s1.extBut y o y2 z))⟩))
set_option tactic.hygienic true in
def alo{i:Nat}(Y:IsEnum s.heap e it i old)(a:V9 b s.heap it t i)(c:Wa b s.heap t S)(ex:S[i]?=some x)(J:e≠it)(q:∀Z,IsEnumOut Z e it ((i:Int)+1) x s.heap.objs.size->V9 b Z it t (i+1)->Z.get? s.heap.objs.size=some { cls:=.type "tuple",data:=.seq #[.int i s.toks,x] }->Z.objs.size=s.heap.objs.size+1 ->
 (∀y o,y≠e->y≠it->s.heap.get? y=some o->Z.get? y=some o)->Q (some (.ref s.heap.objs.size)) { s with heap:=Z,toks:=s.toks+1 }):wpAny (model prog w) A (pyNext (.ref e)) Q E s:=by
 have G:s.TypeIs (.ref e) "enumerate" := ⟨_,Y,rfl⟩;unfold pyNext;refine aa (wpAny_attempt (jc (name:=Str.ofString "__next__") G qx (jz qx G F.entry_enumerate_next ?_ (F.args_enumerate_next_1 _))));exact aln Y a c ex J λZ L u R U C=>aj (q Z L u R U C)
set_option tactic.hygienic true in
def alp{i:Nat}(C:A.handled=none)(Y:IsEnum s.heap e it i old)(a:V9 b s.heap it t i)(c:Wa b s.heap t J)(R:J[i]?=none)(q:∀Z,Heap.ExtBut it s.heap Z->Q none { s with heap:=Z }):wpAny (model prog w) A (pyNext (.ref e)) Q E s:=by have G:s.TypeIs (.ref e) "enumerate" := ⟨_,Y,rfl⟩;unfold pyNext;refine aa (wpAny_attempt (jc (name:=Str.ofString "__next__") G qx (jz qx G F.entry_enumerate_next ?_ (F.args_enumerate_next_1 _))));show wpAny _ _ (field (.ref e) 2 >>= _) _ _ _;refine aa (fc Y rfl (x:=.ref it) rfl (aa (ace C a c R λZ z k z_=>?_)));obtain⟨o,U,L⟩:=z_;exact aa (p6 (T := "StopIteration") (b:=true) ⟨o,U,L⟩ isSubtype_stop (aj (q _ k)))
set_option tactic.hygienic true in
def alq(t:Addr)(xs:Xs)(n:Nat)(Y:Option Addr)(U:Array (Option Value)) :
 Meets (Builtin.«enumerate.__new__» ⟨[.type "enumerate",.ref t],[]⟩) (λ_ R s=>s.heap.get? t=some { cls:=.type "tuple",dict:=Y,data:=.seq xs n,slots:=U } /\
  R (.ok (.ret (.ref (s.heap.push { cls:=.type "tuple_iterator",data:=.fields #[.ref t,.int 0 0] }).objs.size)))
   { s with heap:=(s.heap.push { cls:=.type "tuple_iterator",data:=.fields #[.ref t,.int 0 0] }).push { cls:=.type "enumerate",data:=.fields #[.none,.bool false,.ref s.heap.objs.size,rawInt 0,.none,.none] } }) :=
 .of_wp λprog w A R s h=>by
  obtain⟨S,g,d,L,C⟩:=s;obtain⟨Z,h⟩:=h;have J:=sub_enumerate;have G:Heap.IsTuple (Shared.heap ⟨S,g,d,L,C⟩) t xs:=⟨_,Z,rfl,n,rfl⟩
  wp_walk using wpAny_loadPart' Z
  refine wpAny_stack_any λu=>aj ?_
  split
  .rename_i c _ _ _ _ _
   cases(c==Value.type "enumerate")<;>(wp_walk using wpAny_loadPart' Z,lg G)<;>exact⟨_,rfl,h⟩
  .wp_walk using wpAny_loadPart' Z,lg G
   exact⟨_,rfl,h⟩
def ahz(c:s.heap.IsTuple t xs)(q:∀Z,IsEnum Z (s.heap.objs.size+1) s.heap.objs.size 0 .none->Z.IsTupleIter s.heap.objs.size t 0->Z.objs.size=s.heap.objs.size+2 ->
 (∀y o,s.heap.get? y=some o->Z.get? y=some o)->Q (.ref (s.heap.objs.size+1)) { s with heap:=Z }):wpAny (model prog w) A (call (.type "enumerate") [.ref t]) Q E s:=by
 obtain⟨⟨c0,R,dt,sl⟩,hl,G,n,U⟩:=c;have G:c0=.type "tuple" := G;have U:dt=.seq xs n:=U;subst G U;have n1:(s.heap.push { cls:=.type "tuple_iterator",data:=.fields #[.ref t,.int 0 0] }).objs.size=s.heap.objs.size+1:=jy ..;refine callType_new F.called_enumerate (by decide) (F.typeCall_enumerate_1 _) (F.newCall_enumerate_1 _) (λobj=>F.args_object_init_2 obj _) F.entry_enumerate_new (alq t xs n R sl) ⟨hl,?_⟩;show _/\_;rw[n1];have e1:IsEnum ((s.heap.push { cls:=.type "tuple_iterator",data:=.fields #[.ref t,.int 0 0] }).push { cls:=.type "enumerate",data:=.fields #[.none,.bool false,.ref s.heap.objs.size,rawInt 0,.none,.none] }) (s.heap.objs.size+1) s.heap.objs.size 0 .none:=by rw[<- n1];exact bj _ rfl
 exact⟨⟨_,e1,rfl⟩,q _ e1 ⟨_,au _ (bj _ rfl),rfl,rfl⟩ (by rw[jy,n1]) λy o z=>au _ (au _ z)⟩
end EnT
namespace L2
open PySem PySem.Spec EnT
def Inv.Uk{ch:X1}(I:Inv X pins σ H s)(G:∀b∈ch,Oz X pins H b)(k:∀b o,b∉ch->s.heap.get? b=some o->h'.get? b=some o)(hn:s.heap.objs.size<=n)(new:za X.prog X.w (upd H n (.tup vs)) h' n (.tup vs)):Inv X pins σ (upd H n (.tup vs)) { s with heap:=h',toks:=t' }:=by
 have U:H n=none:=I.zg.fresh hn;have R:∀b u,H b=some u->b∉ch:=λb u e z=>by rw[(G b z).1] at e;cases e
 have qq:∀b o,s.heap.get? b=some o->b≠n:=λb o e=>gh (fu (az e) hn)
 refine I.step (g':=s.gens) (d':=s.drawn) (ch:=ch) (λb hb=>⟨(G b hb).2.2.2.1,(G b hb).2.1,(G b hb).2.2.2.2.1,(G b hb).2.2.2.2.2⟩) (λb o _ _ Z e _=>k b o Z e) (λb o _ _ Z e _=>⟨o.slots,k b o Z e⟩) (λb o _ e n0=>by rw[j6 (qq b o e)];exact n0)
  (λb o Z e=>⟨o,k b o Z e⟩) (λb xs e=>by rw[j6 (mj e U)];exact e) (λb o u e=>by rw[j6 (mj e U)];exact e) (λb ps e=>⟨#[],by rw[j6 (mj e U),e];simp⟩) (λm hm=>?_) (λb u e=>?_) I.bare
 .obtain⟨o,es,ep,ho,r⟩:=hm
  exact⟨o,es,ep,k _ o (λz=>(G _ z).2.1 rfl) ho,r⟩
 .by_cases z:b=n
  .subst z;rw[t8] at e;cases e;exact new
  .rw[j6 z] at e
   refine(I.zg b u e).stay (λc v Z q=>k c v ?_ q) (λc q=>by rw[j6 (mj q U)];exact q) λc xs q=>by rw[j6 (mj q U)];exact q
   rcases Z with y|y
   .rw[y];exact R b u e
   .exact R c _ y
def Inv.acf{ch:X1}(I:Inv X pins σ H s)(G:∀b∈ch,Oz X pins H b)(k:∀b o,b∉ch->s.heap.get? b=some o->h'.get? b=some o):Inv X pins σ H { s with heap:=h',toks:=t' }:=by
 have U:∀b u,H b=some u->b∉ch:=λb u e z=>by rw[(G b z).1] at e;cases e
 refine I.step (g':=s.gens) (d':=s.drawn) (ch:=ch) (λb R=>⟨(G b R).2.2.2.1,(G b R).2.1,(G b R).2.2.2.2.1,(G b R).2.2.2.2.2⟩) (λb o _ _ Z e _=>k b o Z e) (λb o _ _ Z e _=>⟨o.slots,k b o Z e⟩) (λb o _ e n0=>n0)
  (λb o Z e=>⟨o,k b o Z e⟩) (λb xs e=>e) (λb o u e=>e) (λb ps e=>⟨#[],by rw[e];simp⟩) (λm hm=>?_) (λb u e=>?_) I.bare
 .obtain⟨o,es,ep,ho,r⟩:=hm
  exact⟨o,es,ep,k _ o (λz=>(G _ z).2.1 rfl) ho,r⟩
 .refine(I.zg b u e).stay (λc v Z q=>k c v ?_ q) (λ_ q=>q) λ_ _ q=>q
  rcases Z with y|y
  .rw[y];exact U b u e
  .exact U c _ y
def Ys(b:Bool)(K:Fg)(H:Hp)(a:Addr)(Z:List V):Prop:=cond b (Ei K H a Z) (Dm K H a Z)
def Inv.Z4(I:Inv X pins σ H s)(h:Ys b X.K H a U):∃Z,Vals U Z/\Wa b s.heap a Z.toArray:=by
 cases b with
 |true=>obtain⟨Z,G,p,R⟩:=I.tuple h;exact⟨Z,G,show s.heap.IsTuple a Z.toArray from p⟩
 |false=>obtain⟨Z,G,p,R⟩:=I.list h;exact⟨Z,G,p.isList⟩
def Inv.Yg(I:Inv X pins σ H s)(h:Ys b X.K H a Z)(g:Ys b X.K H a ys):Z=ys:=by
 cases b with
 |true=>exact I.T4 h g|false=>exact I.Xf h g
def Ien(b:Bool)(K:Fg)(a:Addr):It :=
 ⟨λi H=>∃Z x,Ys b K H a Z/\Z[i]?=some x,λi H v G=>∃p x,v=.ref p/\H p=none/\G=upd H p (.tup [.int (i:Nat),x])/\∀Z,Ys b K H a Z->Z[i]?=some x,λi H=>∃Z,Ys b K H a Z/\Z.length<=i⟩
set_option tactic.hygienic true in
theorem alr(a e it:Addr)(ne:e≠it):Turn P w K (.Tuple ts k0 pt) (Ien b K a) [e,it] e (λi h=>(∃Z,IsEnum h e it ((i:Nat):Int) Z)/\V9 b h it a i) where
 mem:=by simp
 obj:=λi h J c Y=>by
  obtain⟨⟨Z,G⟩,U⟩:=J;rcases cg.mp Y with z|z
  .subst z;exact⟨_,G,λv z=>by cases z⟩
  .have z:c=it:=by simpa using z
   subst z;exact U.obj
 keep:=λi h h' J k=>by obtain⟨⟨Z,G⟩,U⟩:=J;exact⟨⟨Z,k e (by simp) _ G⟩,U.at λo z=>k it (by simp) o z⟩
 item:=by
  intro X hP hw hK Y i C s σ H E I S J hg;subst hP hw hK;obtain⟨xs,x,hq,R⟩:=hg;obtain⟨ql,rv,p⟩:=I.Z4 hq;obtain⟨u,hu,ru⟩:=rv.get R;obtain⟨⟨Z,G⟩,U⟩:=J;have lt:e<s.heap.objs.size:=az G
  refine alo G U p (x:=u) (by simpa using hu) ne λh1 o1 a1 t1 n1 k1=>⟨_,rfl,?_⟩
  refine wpAny_letOwnedTupleGo_enum o1 λh2 o2 L=>?_
  have L:Heap.SameBut e h1 h2:=L;have t2:h2.get? s.heap.objs.size=some { cls:=.type "tuple",data:=.seq #[.int i s.toks,u] }:=(L.2 _ (rz lt)).trans t1;refine⟨.ref s.heap.objs.size,upd H s.heap.objs.size (.tup [.int (i:Nat),x]),I.Uk (t':=s.toks+1) S (λc o Y z=>?_) (bc _) ⟨by show 2<=sizeLine;decide,[.int i s.toks,u],.cons ⟨s.toks,rfl⟩ (.cons ru .nil),⟨_,t2,rfl,_,rfl,rfl⟩⟩,rfl,
   ⟨_,x,rfl,I.zg.fresh (bc _),rfl,λys hy=>by rw[I.Yg hy hq];exact R⟩,⟨⟨u,?_⟩,a1.at λo z=>L.extBut it o (oh ne) z⟩,λc Y=>?_⟩
  .have c1:c≠e:=λz=>Y (by simp[z])
   have c2:c≠it:=λz=>Y (by simp[z])
   exact L.extBut c o c1 (k1 c o c1 c2 z)
  .have q:((i+1:Nat):Int)=(i:Int)+1:=by push_cast;rfl
   rw[q];exact o2
  .have qq:c<s.heap.objs.size:=by
    rcases cg.mp Y with z|z
    .rw[z];exact lt
    .have z:c=it:=by simpa using z
     obtain⟨o,z2,_⟩:=U.obj;rw[z];exact az z2
   rw[j6 (gh qq)];exact(S c Y).1
 done:=by intro X hP hw hK Y i C s σ H E I S J hg;subst hP hw hK;obtain⟨xs,hq,R⟩:=hg;obtain⟨ql,rv,p⟩:=I.Z4 hq;obtain⟨⟨Z,G⟩,U⟩:=J;have hl:=rv.length;refine alp (I.ok.hd Y) G U p (by simp;exact a_ (g_ hl) R) λh' eb=>⟨rfl,I.acf (t':=s.toks) S λc o Y z=>eb c o (λy=>Y (by simp[y])) z⟩
 self:=λ_ _ _ _ _ J h=>by obtain⟨⟨Z,G⟩,U⟩:=J;exact wpAny_pyIter_enum G h
def aw6(hg:Gl X "enumerate")(hm:X.mg "enumerate" = none)(ha:PA X [a] ta)(hs:starEach [a] X.env=[(false,eval a X.env)]) :
 PI X (.Tuple ts k0 pt) (.Call (.Name "enumerate" p) [a] [] pos) (fun σ H R=>ta σ H λvs H1=>∃b q,vs=[.ref q]/\(∃xs,Ys b X.K H1 q xs)/\R (Ien b X.K q) H1):=by
 intro U s σ H R I h;refine PyProof.Rows.Call_ (Ih I hg hm (show bootBuiltins "enumerate" = some (.type "enumerate") by decide+kernel) (o9 (ym (ha pos U s σ H _ I h) λus Z ⟨vs,H1,I1,r1,q1⟩=>?_) hs rfl));obtain⟨b,q,rfl,⟨xs,hq⟩,hR⟩:=q1;cases r1 with
 |cons r rr =>
  cases rr;cases r;obtain⟨ql,rv,p⟩:=I1.Z4 hq;have fin:∀G,IsEnum G (Z.heap.objs.size+1) Z.heap.objs.size 0 .none->V9 b G Z.heap.objs.size q 0->(∀y o,Z.heap.get? y=some o->G.get? y=some o) ->
   wpAny (model X.prog X.w) X.A (pyIter (.ref (Z.heap.objs.size+1))) (PIE X U σ (.Tuple ts k0 pt) R) X.xe { Z with heap:=G }:=λG e1 e2 kk=>by
   refine wpAny_pyIter_enum e1 ?_;refine⟨Z.heap.objs.size+1,[Z.heap.objs.size+1,Z.heap.objs.size],_,_,H1,rfl,I1.kept (t':=Z.toks) kk,alr (b:=b) q _ _ (Nat.succ_ne_self _),⟨⟨.none,e1⟩,e2⟩,λc hc=>?_,hR⟩;have qq:Z.heap.objs.size<=c:=by
    rcases cg.mp hc with z|z
    .rw[z];exact o8 _
    .have z:c=Z.heap.objs.size:=by simpa using z
     rw[z];exact bc _
   exact I1.adu qq (I1.zg.fresh qq)
  cases b with
  |true=>exact ahz p λG e1 e2 _ kk=>fin G e1 e2 kk
  |false=>exact call_enumerate_list p λG e1 e2 _ kk=>fin G e1 e2 kk
end L2
namespace EnT
open PySem PySem.Spec
noncomputable def Yh(Z:Zl):Obj:={ cls:=.type "tuple",data:=.seq Z.toArray }
structure ZN(b:Nat->Bool)(h0:Heap)(n:Nat)(ls:Y3)(f0:Value)(ov:Zl)(k d:Nat)(g:Heap):Prop where
 z:IsZip g (n+ls.length+2) (n+ls.length) (n+ls.length+1) f0
 o:g.get? (n+ls.length+1)=some (Yh ov)
 a:∀(j:Nat) l,ls[j]?=some l->V9 (b l) g (n+j) l (if j<d then k+1 else k)
 low:∀c o,(c<n\/c=n+ls.length\/n+ls.length+2<c)->h0.get? c=some o->g.get? c=some o
def Wa.lt(x:Wa b h a Z):a<h.objs.size:=by
 cases b with
 |true=>obtain⟨o,c,_⟩:=x;exact az c
 |false=>obtain⟨o,c,_⟩:=x;exact az c
def Wa.at(x:Wa b h a xs)(e:∀o,h.get? a=some o->Z.get? a=some o):Wa b Z a xs:=by
 cases b with
 |true=>obtain⟨o,c,d⟩:=x;exact⟨o,e o c,d⟩
 |false=>obtain⟨o,c,d⟩:=x;exact⟨o,e o c,d⟩
def Yi{Z:Y3}{j:Nat}(h:Z[j]?=some l):j<Z.length:=(ak.mp h).1
def ZN.sz(H:ZN b h0 n Z f0 U k d g)(e:Heap.ExtBut (n+Z.length+2) g g')(z:IsZip g' (n+Z.length+2) (n+Z.length) (n+Z.length+1) f1):ZN b h0 n Z f1 U k d g' :=
 ⟨z,e _ _ (by lia) H.o,λj l h=>(H.a j l h).at λo=>e _ o (by have:=Yi h;lia),λc o G z=>e _ _ (by lia) (H.low c o G z)⟩
def ZN.so(H:ZN b h0 n Z f0 R k d g)(e:Heap.ExtBut (n+Z.length+1) g g')(z:g'.get? (n+Z.length+1)=some (Yh G)):ZN b h0 n Z f0 G k d g' :=
 ⟨e _ _ (by lia) H.z,z,λj l h=>(H.a j l h).at λo=>e _ o (by have:=Yi h;lia),λc o U z=>e _ _ (by lia) (H.low c o U z)⟩
def ZN.sa(H:ZN b h0 n Z f0 U k d g)(R:d<Z.length)(e:Heap.ExtBut (n+d) g g')(z:∀l,Z[d]?=some l->V9 (b l) g' (n+d) l (k+1)):ZN b h0 n Z f0 U k (d+1) g' :=
 ⟨e _ _ (by lia) H.z,e _ _ (by lia) H.o,λj l h=>by
  by_cases c:j=d
  .subst c;rw[di (by lia)];exact z l h
  .have:=H.a j l h
   have i:(if j<d+1 then k+1 else k)=if j<d then k+1 else k:=by
    by_cases q:j<d
    .rw[di q,di (by lia)]
    .rw[fj q,fj (by lia)]
   rw[i];exact this.at λo=>e _ o (by lia),λc o G z=>e _ _ (by lia) (H.low c o G z)⟩
def ZN.up(H:ZN b h0 n U f0 G k d g)(e:∀c o,g.get? c=some o->g'.get? c=some o):ZN b h0 n U f0 G k d g' :=
 ⟨e _ _ H.z,e _ _ H.o,λj l h=>(H.a j l h).at (e _),λc o Z z=>e _ _ (H.low c o Z z)⟩
def ZN.nx(H:ZN b h0 n Z f0 G k Z.length g):ZN b h0 n Z f0 G (k+1) 0 g :=
 ⟨H.z,H.o,λj l h=>by have:=H.a j l h;rw[di (Yi h)] at this;exact this,H.low⟩
def acg{T:Addr}{Q:Unit->Shared->Prop}(G:R.length<=3)(U:s.heap.get? T=some (Yh R))(h:∀Z,Z.get? T=some (Yh (R.set k x))->Heap.ExtBut T s.heap Z->Z.objs.size=s.heap.objs.size->Q () { s with heap:=Z }) :
 wpAny (model prog w) A (updateSeq T (·.setIfInBounds k x)) Q E s:=by
 have sb:Heap.SameBut T s.heap (s.heap.update T (Obj.mapSeq (·.setIfInBounds k x))):=jg ..;refine wpAny_updateSeq U rfl (h _ ?_ sb.extBut sb.1) (hz:=bf (by simpa using G) (show 3<=sizeLine by decide)) (_hz':=bf (by simpa using G) (show 3<=sizeLine+1 by decide));rw[m6 _ U rfl];simp[Obj.mapSeq,Yh]
noncomputable def Cy(n m:Nat):List Value:=(List.range m).map λj=>.ref (n+j)
def ach(n m:Nat):(Cy n m).zipIdx=(List.range' 0 m).map λj=>(Value.ref (n+j),j):=by
 apply List.ext_getElem?;intro i;rw[tu]
 by_cases h:i<m
 .simp[Cy,h]
 .simp[Cy,h]
def At(b:Nat->Bool)(h:Heap)(U:Y3)(k:Nat)(Z:Zl):Prop:=Z.length=U.length/\∀(j:Nat) l,U[j]?=some l->∃G x,Wa (b l) h l G/\G[k]?=some x/\Z[j]?=some x
def als{n k:Nat}{Q:Y1}(Ow:Z≠[])(h3:Z.length<=3)(H:ZN b s.heap n Z .none G k 0 s.heap)(ho:G.length=Z.length)(hI:s.heap.get? (n+Z.length)=some (Yh (Cy n Z.length)))(hl:∀l∈Z,l<n)(ha:At b s.heap Z k vs)
 (hq:∀h',ZN b s.heap n Z (rawInt s.heap.objs.size) vs (k+1) 0 h'->h'.get? s.heap.objs.size=some (Yh vs)->Q (.ref s.heap.objs.size) { s with heap:=h' }) :
 wpAny (model prog w) A (Builtin.«zip.__next__» ⟨[.ref (n+Z.length+2)],[]⟩) (λfin s'=>∃v,fin=.done (.ret v)/\Q v s') E s:=by
 have hz:=H.z;have ne:(Cy n Z.length).toArray.isEmpty=false:=by cases Z with|nil=>exact absurd rfl Ow|cons a l=>simp[Cy]
 show wpAny _ _ (field (.ref (n+Z.length+2)) 2 >>= _) _ _ _;refine aa (fc hz rfl (x:=.bool false) rfl (aa (fc hz rfl (x:=.ref (n+Z.length)) rfl (aa (ni hI rfl ?_)))));simp only[ne,du,ig];unfold Builtin.SmallTypes.ownedTupleIsFree;refine aa (aa (fc hz rfl (x:=.none) rfl (aj ?_)));simp only[iu];refine aa (wpAny_rule (aa (fc hz rfl (x:=.ref (n+Z.length+1)) rfl (aa (iz hz (by simp) λg1 z1 s1=>?_)))));have H1:=H.sz s1.extBut (f1:=.ellipsis) z1;refine aa (qz _ (λU bb s'=>bb=(none,())/\∃d G g,U=((List.range' d (Z.length-d)).map λj=>(Value.ref (n+j),j))/\d<=Z.length/\s'={ s with heap:=g }/\ZN b s.heap n Z .ellipsis G k d g/\G.length=Z.length/\(∀i,i<d->G[i]?=vs[i]?)/\g.objs.size=s.heap.objs.size) _ (λx U bb s' hI=>?_) (λbb s' hI=>?_) _ _ ⟨rfl,0,G,g1,?_,gn _,rfl,H1,ho,λi hi=>absurd hi (m7 _),s1.1⟩)
 .obtain⟨rfl,d,G,g,e,R,rfl,H2,o2,v2,n2⟩:=hI
  have R:d<Z.length:=by
   rcases iw d Z.length with h|h
   .exact h
   .rw[Nat.sub_eq_zero_of_le h] at e;cases e
  obtain⟨c,hc⟩:∃c,Z.length-d=c+1:=⟨Z.length-d-1,by lia⟩;rw[hc,vh,d8] at e;injection e with e1 e2
  subst e1 e2;obtain⟨l,el⟩:∃l,Z[d]?=some l:=⟨Z[d],by simp[R]⟩;obtain⟨xs,x,t1,t2,t3⟩:=ha.2 d l el;have i0:=H2.a d l el;rw[fj (m5 _)] at i0;have ll:=hl l (aq el);refine aa (wpAny_onRaise (aa (Ro (s:={ s with heap:=g }) i0 (t1.at λo=>H2.low _ o (by lia)) t2 λg2 i2 s2=>aj ?_)));have H3:=H2.sa R s2.extBut λl' h=>by rw[el] at h;cases h;exact i2
  refine aa (ni H3.o rfl (aa (acg (by rw[o2];exact h3) H3.o λg3 o3 s3 n3=>?_)));have H4:=H3.so s3 o3;refine aa (wpAny_letGo (aj ⟨rfl,d+1,G.set d x,g3,by rw[show Z.length-(d+1)=c by lia],R,rfl,H4,by rw[vz,o2],λi hi=>?_,by rw[n3,show g2.objs.size=g.objs.size from s2.1,n2]⟩))
  by_cases z:i=d
  .subst z
   rw[qy (by lia),t3]
  .rw[qg (oh z)];exact v2 i (by lia)
 .obtain⟨rfl,d,G,g,e,R,rfl,H2,o2,v2,n2⟩:=hI
  have R:d=Z.length:=by
   rcases iw d Z.length with h|h
   .obtain⟨c,hc⟩:∃c,Z.length-d=c+1:=⟨Z.length-d-1,by lia⟩
    rw[hc,vh] at e;cases e
   .exact Nat.le_antisymm R h
  subst R;obtain rfl:G=vs:=by
   apply List.ext_getElem?;intro i;rcases iw i Z.length with h|h
   .exact v2 i h
   .rw[u0 (by lia),u0 (by rw[ha.1];exact h)]
  refine aa (ni H2.o rfl (aa (wpAny_newTuple ?_)));have H8:=H2.nx.up (g':=g.push (Yh G)) λc o e=>au _ e
  refine aa ?_;unfold Builtin.SmallTypes.ownedTupleHandOut;refine aa (iz H8.z (by simp) λg9 z9 s9=>?_);have H9:=H8.sz s9.extBut (f1:=rawInt g.objs.size) z9;refine iz H9.z (by simp) λqv q1 q0=>?_
  have qk:=H9.sz q0.extBut (f1:=rawInt g.objs.size) q1;have zl:n+Z.length+2<g.objs.size:=az H2.z
  have qq:qv.get? g.objs.size=some (Yh G):=q0.extBut _ _ (rz zl) (s9.extBut _ _ (rz zl) (bj _ rfl));refine aj ⟨_,rfl,?_⟩;show Q (.ref g.objs.size) _;rw[n2] at qk qq ⊢;exact hq qv qk qq
 .show(Cy n Z.length).zipIdx=_
  rw[ach];rfl
def arc{n k e:Nat}{Z:Y3}(hd:A.handled=none)(h0:Z[e]?=some l)(H:ZN b s.heap n Z .none U k 0 s.heap)(ho:U.length=Z.length)(h3:Z.length<=3)(hI:s.heap.get? (n+Z.length)=some (Yh (Cy n Z.length)))(hl:∀l∈Z,l<n)(c1:Wa (b l) s.heap l xs)(e1:xs[k]?=none)
 (ha:∀(j:Nat) a,j<e->Z[j]?=some a->∃xs x,Wa (b a) s.heap a xs/\xs[k]?=some x)
 (hE:∀h' e,(∀c o,(c<n\/n+Z.length+2<c)->s.heap.get? c=some o->h'.get? c=some o)->(∃o,h'.get? e=some o/\o.cls=.type "StopIteration")->E (.ref e) { s with heap:=h' }) :
 wpAny (model prog w) A (Builtin.«zip.__next__» ⟨[.ref (n+Z.length+2)],[]⟩) Q E s:=by
 have hz:=H.z;have qk:=Yi h0;obtain⟨c,hc⟩:∃c,Z.length=c+1:=⟨Z.length-1,by lia⟩;have ne:(Cy n Z.length).toArray.isEmpty=false:=by rw[hc];simp[Cy]
 show wpAny _ _ (field (.ref (n+Z.length+2)) 2 >>= _) _ _ _;refine aa (fc hz rfl (x:=.bool false) rfl (aa (fc hz rfl (x:=.ref (n+Z.length)) rfl (aa (ni hI rfl ?_)))));simp only[ne,du,ig];unfold Builtin.SmallTypes.ownedTupleIsFree;refine aa (aa (fc hz rfl (x:=.none) rfl (aj ?_)));simp only[iu];refine aa (wpAny_rule (aa (fc hz rfl (x:=.ref (n+Z.length+1)) rfl (aa (iz hz (by simp) λg1 z1 s1=>?_)))));have H1:=H.sz s1.extBut (f1:=.ellipsis) z1;refine aa (qz _ (λG bb s'=>bb=(none,())/\∃d U g,G=((List.range' d (Z.length-d)).map λj=>(Value.ref (n+j),j))/\d<=e/\s'={ s with heap:=g }/\ZN b s.heap n Z .ellipsis U k d g/\U.length=Z.length/\∀c o,(c<n\/n+Z.length+2<c)->s.heap.get? c=some o->g.get? c=some o) _ (λx G bb s' hI=>?_) (λbb s' hI=>?_) _ _ ⟨rfl,0,U,g1,?_,gn _,rfl,H1,ho,λc o y z=>s1.extBut _ _ (by lia) z⟩)
 .obtain⟨rfl,d,U,g,q,qq,rfl,R,o2,v2⟩:=hI
  obtain⟨c,hc⟩:∃c,Z.length-d=c+1:=⟨Z.length-d-1,by lia⟩;rw[hc,vh,d8] at q;injection q with q1 q2
  subst q1 q2;obtain⟨a,el⟩:∃a,Z[d]?=some a:=⟨Z[d],by simp[show d<Z.length by lia]⟩;have i0:=R.a d a el;rw[fj (m5 _)] at i0;have ll:=hl a (aq el);rcases iw d e with hde|hde
  .obtain⟨ys,x,t1,t2⟩:=ha d a hde el
   refine aa (wpAny_onRaise (aa (Ro (s:={ s with heap:=g }) i0 (t1.at λo=>R.low _ o (by lia)) t2 λg2 i2 s2=>aj ?_)));have H3:=R.sa (show d<Z.length by lia) s2.extBut λl' h=>by rw[el] at h;cases h;exact i2
   refine aa (ni H3.o rfl (aa (acg (by rw[o2];exact h3) H3.o λg3 o3 s3 n3=>?_)));have H4:=H3.so s3 o3;exact aa (wpAny_letGo (aj ⟨rfl,d+1,U.set d x,g3,by rw[show Z.length-(d+1)=c by lia],hde,rfl,H4,by rw[vz,o2],λc o y z=>s3 _ _ (by lia) (s2.extBut _ _ (by lia) (v2 c o y z))⟩))
  .obtain rfl:d=e:=by lia
   rw[el] at h0;cases h0;refine aa (wpAny_onRaise (aa (ace (s:={ s with heap:=g }) hd i0 (c1.at λo=>R.low _ o (by lia)) e1 λg2 x s2 z_=>?_)));obtain⟨o,o1,o2⟩:=z_;have z2:IsZip g2 (n+Z.length+2) (n+Z.length) (n+Z.length+1) .ellipsis:=s2 _ _ (by lia) R.z;have ne:x≠n+Z.length+2:=λy=>by subst y;rw[z2] at o1;cases o1;simp at o2
   exact iz z2 (by simp) λg3 _ s3=>hE g3 x (λc o y1 e=>s3.extBut _ _ (by lia) (s2 _ _ (by lia) (v2 c o y1 e))) ⟨o,s3.extBut _ _ ne o1,o2⟩
 .obtain⟨rfl,d,U,g,q,qq,rfl,R,o2,v2⟩:=hI
  obtain⟨c,hc⟩:∃c,Z.length-d=c+1:=⟨Z.length-d-1,by lia⟩;rw[hc,vh] at q;cases q
 .show(Cy n Z.length).zipIdx=_
  rw[ach];rfl
noncomputable def zI(b:Bool)(a:Addr):Obj:={ cls:=.type (cond b "tuple_iterator" "list_iterator"),data:=.fields #[.ref a,.int 0 0] }
def pI(b:Nat->Bool)(h:Heap)(Z:Y3):Heap:=Z.foldl (λh l=>h.push (zI (b l) l)) h
theorem Wb:∀(Z:Y3)(h:Heap),(pI b h Z).objs.size=h.objs.size+Z.length
 |[],h=>rfl
 |l::Z,h=>by
  have:=Wb (b:=b) Z (h.push (zI (b l) l));rw[jy] at this;rw[gm,<- Nat.add_assoc,Nat.add_right_comm];exact this
theorem aci:∀{ls:Y3}{h:Heap},h.get? c=some o->(pI b h ls).get? c=some o
 |[],_,e=>e|x::ls,h,e=>aci (ls:=ls) (h:=h.push (zI (b x) x)) (au _ e)
theorem ah0:∀{ls:Y3}{h:Heap}{j:Nat},ls[j]?=some l->(pI b h ls).get? (h.objs.size+j)=some (zI (b l) l)
 |x::ls,h,0,e=>by cases e;exact aci (ls:=ls) (h:=h.push (zI (b l) l)) (bj _ rfl)
 |x::ls,h,j+1,e=>by
  have:=ah0 (b:=b) (h:=h.push (zI (b x) x)) (ls:=ls) (j:=j) e;rw[jy] at this;rw[<- Nat.add_assoc,Nat.add_right_comm];exact this
def aw7(h:g.get? i=some (zI b l)):V9 b g i l 0:=by
 cases b with
 |true=>exact⟨_,h,rfl,rfl⟩|false=>exact⟨_,h,rfl,rfl⟩
def ard{Q:Y1}(h:Wa b s.heap a Z)(q:Q (.ref s.heap.objs.size) { s with heap:=s.heap.push (zI b a) }):wpAny (model prog w) A (pyIter (.ref a)) Q E s:=by
 cases b with
 |true=>exact lg h q|false=>exact wpAny_pyIter_list h q
def alu{Q:List Value->Shared->Prop}(ht:∀l∈Z,∃xs,Wa (b l) s.heap l xs)(q:Q (Cy s.heap.objs.size Z.length) { s with heap:=pI b s.heap Z }):wpAny (model prog w) A (Builtin.SmallTypes.iterAll (Z.map .ref)) Q E s:=by
 unfold Builtin.SmallTypes.iterAll;refine aa (qz _ (λU ql R=>∃d,d<=Z.length/\U=(Z.drop d).map .ref/\ql=(Cy s.heap.objs.size d).toArray/\R={ s with heap:=pI b s.heap (Z.take d) }) _ (λx U bb R hI=>?_) (λbb R hI=>?_) _ _ ⟨0,gn _,rfl,rfl,rfl⟩)
 .obtain⟨d,G,e,rfl,rfl⟩:=hI
  have G:d<Z.length:=by
   rcases iw d Z.length with h|h
   .exact h
   .rw[List.drop_of_length_le h] at e;cases e
  rw[rn G,d8] at e;injection e with e1 e2
  subst e1 e2;obtain⟨xs,hx⟩:=ht Z[d] (List.getElem_mem G);refine aa (jo (ard (hx.at λo e=>aci e) (aj ⟨d+1,G,rfl,?_,?_⟩)))
  .rw[Wb,List.length_take,v9 (wy G)]
   simp[Cy,v7]
  .have:pI b s.heap (Z.take (d+1))=(pI b s.heap (Z.take d)).push (zI (b Z[d]) Z[d]):=by
    rw[rm,dz G,pI,List.foldl_append];rfl
   rw[this]
 .obtain⟨d,G,e,rfl,rfl⟩:=hI
  have G:d=Z.length:=by
   rcases iw d Z.length with h|h
   .rw[rn h] at e;cases e
   .exact Nat.le_antisymm G h
  subst G;rw[q8];exact aj (by simpa using q)
def zB(b:Nat->Bool)(h:Heap)(Z:Y3):Heap:=(pI b h Z).push (Yh (Cy h.objs.size Z.length))
def zC(b:Nat->Bool)(h:Heap)(Z:Y3):Heap:=(zB b h Z).push (Yh ((Cy h.objs.size Z.length).map λ_=>.none))
def zD(b:Nat->Bool)(h:Heap)(Z:Y3):Heap:=(zC b h Z).push { cls:=.type "zip",data:=.fields #[.none,.bool false,.bool false,.ref (pI b h Z).objs.size,.ref (zB b h Z).objs.size] }
def ah1(h3:Z.length<=3) :
 Meets (Builtin.«zip.__new__» ⟨.type "zip"::Z.map .ref,[]⟩) (λ_ R s=>(∀l∈Z,∃xs,Wa (b l) s.heap l xs)/\R (.ok (.ret (.ref (zC b s.heap Z).objs.size))) { s with heap:=zD b s.heap Z }) :=
 .of_wp λprog w A R s h=>by
  obtain⟨G,g,d,tk,U⟩:=s;obtain⟨ht,h⟩:=h;have qq:=sub_zip;have f1:∀{Q:List Value->Shared->Prop}{A E},Q (Cy G.objs.size Z.length) ⟨pI b G Z,g,d,tk,U⟩->wpAny (model prog w) A (Builtin.SmallTypes.iterAll (Z.map .ref)) Q E ⟨G,g,d,tk,U⟩:=λq=>alu ht q
  have sz:∀(xs:Zl),xs.length<=3->xs.toArray.size<=sizeLine:=λxs h=>bf (by simpa using h) (show 3<=sizeLine by decide)
  have f2:∀{Q:Y1}{A E}{h:Heap},Q (.ref h.objs.size) ⟨h.push (Yh (Cy G.objs.size Z.length)),g,d,tk,U⟩->wpAny (model prog w) A (newTuple (Cy G.objs.size Z.length)) Q E ⟨h,g,d,tk,U⟩:=λq=>wpAny_newTuple q (sz _ (by simpa[Cy] using h3))
  have f3:∀{Q:Y1}{A E}{h:Heap},Q (.ref h.objs.size) ⟨h.push (Yh ((Cy G.objs.size Z.length).map λ_=>.none)),g,d,tk,U⟩->wpAny (model prog w) A (newTuple ((Cy G.objs.size Z.length).map λ_=>.none)) Q E ⟨h,g,d,tk,U⟩:=λq=>wpAny_newTuple q (sz _ (by simpa[Cy] using h3))
  wp_walk using f1,f2,f3
  exact⟨_,rfl,h⟩
def alv{n:Nat}(h3:Z.length<=3)(U:s.heap.objs.size=n)(ct:checkTypeCall "zip" ⟨Z.map .ref,[]⟩=pure ())(cb:checkBuiltinCall "zip.__new__" ⟨.type "zip"::Z.map .ref,[]⟩=pure ())(ca:∀obj,argsOk "object.__init__" ⟨obj::Z.map .ref,[]⟩)(ht:∀l∈Z,∃xs,Wa (b l) s.heap l xs)
 (h:∀G,ZN b G n Z .none ((Cy n Z.length).map λ_=>.none) 0 0 G->G.get? (n+Z.length)=some (Yh (Cy n Z.length))->(∀c o,s.heap.get? c=some o->G.get? c=some o)->Q (.ref (n+Z.length+2)) { s with heap:=G }):wpAny (model prog w) A (call (.type "zip") (Z.map .ref)) Q E s:=by
 refine callType_new F.called_zip (by decide) ct cb ca F.entry_zip_new (ah1 h3) ⟨ht,?_⟩;have z3:(pI b s.heap Z).objs.size=n+Z.length:=by rw[Wb,U]
 have R:(zB b s.heap Z).objs.size=n+Z.length+1:=by unfold zB;rw[jy,z3]
 have z5:(zC b s.heap Z).objs.size=n+Z.length+2:=by unfold zC;rw[jy,R]
 have up:∀{h:Heap}{o':Obj}{c:Addr}{o:Obj},h.get? c=some o->(h.push o').get? c=some o:=λe=>au _ e
 have g6:(zD b s.heap Z).get? (zC b s.heap Z).objs.size=some _:=bj _ rfl;have g5:(zD b s.heap Z).get? (zB b s.heap Z).objs.size=some _:=up (bj _ rfl);have g4:(zD b s.heap Z).get? (pI b s.heap Z).objs.size=some _:=up (up (bj _ rfl));rw[z3,R,z5] at g6;rw[R,U] at g5;rw[z3,U] at g4;show _/\_;rw[z5];exact⟨⟨_,g6,rfl⟩,h _ ⟨g6,g5,λj l e=>aw7 (up (up (up (by rw[<- U];exact ah0 e)))),λ_ _ _ e=>e⟩ g4 λc o e=>up (up (up (aci e)))⟩
theorem aed:∀Z:List Value,Z.length=2->checkTypeCall "zip" ⟨Z,[]⟩=pure ()/\checkBuiltinCall "zip.__new__" ⟨.type "zip"::Z,[]⟩=pure ()/\∀obj,argsOk "object.__init__" ⟨obj::Z,[]⟩
 |[a,b],_=>⟨F.typeCall_zip_2 _ _,F.newCall_zip_2 _ _,λobj=>F.args_object_init_3 obj _ _⟩
end EnT
namespace L2
open PySem PySem.Spec EnT
def IzN(b:Nat->Bool)(K:Fg)(U:X1):It :=
 ⟨λi H=>∃G:List V,G.length=U.length/\∀(j:Nat) a,U[j]?=some a->∃Z x,Ys (b a) K H a Z/\Z[i]?=some x/\G[j]?=some x,
  λi H v H'=>∃p G,v=.ref p/\H p=none/\H'=upd H p (.tup G)/\G.length=U.length/\∀(j:Nat) a Z,U[j]?=some a->Ys (b a) K H a Z->G[j]?=Z[i]?,
  λi H=>∃(e:Nat)(a:Addr)(Z:List V),U[e]?=some a/\Ys (b a) K H a Z/\Z.length<=i/\∀(j:Nat) a,j<e->U[j]?=some a->∃R,Ys (b a) K H a R/\i<R.length⟩
def TN(b:Nat->Bool)(n:Nat)(Z:X1)(i:Nat)(h:Heap):Prop:=(∃G,ZN b h n Z .none G i 0 h/\G.length=Z.length)/\h.get? (n+Z.length)=some (Yh (Cy n Z.length))
noncomputable def FN(n m:Nat):List Addr:=List.range' n (m+3)
def FN.mem{n m c:Nat}:c∈FN n m↔n<=c/\c<n+m+3:=List.mem_range'_1
theorem at_of(I:Inv X pins σ H s):∀{as:X1}{vs:List V},vs.length=as.length->(∀(j:Nat) a,as[j]?=some a->∃G x,Ys (b a) X.K H a G/\G[i]?=some x/\vs[j]?=some x)->∃Z,Vals vs Z/\At b s.heap as i Z
 |[],[],_,_=>⟨[],.nil,rfl,λj l h=>by simp at h⟩
 |a::as,v::vs,l,h=>by
  obtain⟨Z,r,e,q⟩:=at_of I (as:=as) (vs:=vs) (by simpa using l) (λj a e=>h (j+1) a e);obtain⟨G,x,q1,x1,hv⟩:=h 0 a rfl;cases hv;obtain⟨i1,r1,p1⟩:=I.Z4 q1;obtain⟨R,u1,w1⟩:=r1.get x1;refine⟨R::Z,.cons w1 r,by simp[e],λj l U=>?_⟩;cases j with
  |zero=>cases U;exact⟨i1.toArray,R,p1,by simpa using u1,rfl⟩|succ j=>exact q j l U
theorem alw{n:Nat}(h3:G.length<=3)(Ow:G≠[])(hl:∀a∈G,a<n):Turn P w K (.Tuple ts k0 pt) (IzN b K G) (FN n G.length) (n+G.length+2) (TN b n G) where
 mem:=FN.mem.mpr (by lia)
 obj:=λi h R e U=>by
  obtain⟨⟨ov,H,_⟩,hI⟩:=R;obtain⟨c1,c2⟩:=FN.mem.mp U
  by_cases z:e<n+G.length
  .have q:e-n<G.length:=by lia
   have z:=(H.a (e-n) G[e-n] (by simp[q])).obj;rw[show n+(e-n)=e by lia] at z;exact z
  .rcases(show e=n+G.length\/e=n+G.length+1\/e=n+G.length+2 by lia) with rfl|rfl|rfl
   .exact⟨_,hI,λv z=>by cases z⟩
   .exact⟨_,H.o,λv z=>by cases z⟩
   .exact⟨_,H.z,λv z=>by cases z⟩
 keep:=λi h h' R k=>by
  obtain⟨⟨ov,H,l⟩,hI⟩:=R;have kk:∀d o,n<=d->d<n+G.length+3->h.get? d=some o->h'.get? d=some o:=λd o h1 h2=>k d (FN.mem.mpr ⟨h1,h2⟩) o
  exact⟨⟨ov,⟨kk _ _ (by lia) (by lia) H.z,kk _ _ (by lia) (by lia) H.o,λj l h=>(H.a j l h).at λo=>kk _ o (by lia) (by have:=Yi h;lia),λ_ _ _ e=>e⟩,l⟩,kk _ _ (by lia) (by lia) hI⟩
 item:=by
  intro X hP hw hK U i qq s σ H E I hf R hg;subst hP hw hK;obtain⟨⟨ov,Z,lo⟩,hI⟩:=R;have lt:n+G.length+2<s.heap.objs.size:=az Z.z
  obtain⟨vs,lv,hg⟩:=hg;obtain⟨us,r,ha⟩:=at_of I lv hg;have ty:s.TypeIs (.ref (n+G.length+2)) "zip" := ⟨_,Z.z,rfl⟩;unfold pyNext;refine aa (wpAny_attempt (jc (name:=Str.ofString "__next__") ty F.slot_zip_next (jz F.slot_zip_next ty F.entry_zip_next ?_ (F.args_zip_next_1 _))));refine als Ow h3 Z lo hI hl ha λh1 Z1 t1=>aj ⟨_,rfl,?_⟩
  refine wpAny_letOwnedTupleGo_zip Z1.z λh2 z2 s2=>?_
  have s2:Heap.SameBut (n+G.length+2) h1 h2:=s2;have Z2:=Z1.sz s2.extBut (f1:=.none) z2;have t2:h2.get? s.heap.objs.size=some (Yh us):=s2.extBut _ _ (rz lt) t1;refine⟨.ref s.heap.objs.size,upd H s.heap.objs.size (.tup vs),I.Uk (t':=s.toks) hf (λc o U zz=>Z2.low c o (by rw[FN.mem] at U;lia) zz) (bc _) ⟨by rw[lv];exact bf h3 (show 3<=sizeLine by decide),us,r,⟨_,t2,rfl,_,rfl,rfl⟩⟩,rfl,
   ⟨_,vs,rfl,I.zg.fresh (bc _),rfl,lv,λj a ys ja hy=>?_⟩,⟨⟨us,⟨Z2.z,Z2.o,Z2.a,λ_ _ _ e=>e⟩,ha.1⟩,Z2.low _ _ (by lia) hI⟩,λc U=>?_⟩
  .obtain⟨xs,x,q1,q2,q3⟩:=hg j a ja
   rw[I.Yg hy q1,q2,q3]
  .rw[FN.mem] at U
   rw[j6 (by lia)];exact(hf c (FN.mem.mpr U)).1
 done:=by
  intro X hP hw hK U i qq s σ H E I hf R hg;subst hP hw hK;obtain⟨⟨ov,Z,lo⟩,hI⟩:=R;obtain⟨e,a,xs,a0,q1,x1,hj⟩:=hg;obtain⟨i1,r1,p1⟩:=I.Z4 q1;have q0:=r1.length;have ty:s.TypeIs (.ref (n+G.length+2)) "zip" := ⟨_,Z.z,rfl⟩;unfold pyNext;refine aa (wpAny_attempt (jc (name:=Str.ofString "__next__") ty F.slot_zip_next (jz F.slot_zip_next ty F.entry_zip_next ?_ (F.args_zip_next_1 _))));refine arc (I.ok.hd U) a0 Z lo h3 hI hl (xs:=i1.toArray) p1 (by simp;lia) (λj a' qv qk=>?_) λh' e k z_=>?_
  .obtain⟨ys,y1,y2⟩:=hj j a' qv qk
   obtain⟨i2,r2,p2⟩:=I.Z4 y1;have q4:=r2.length;exact⟨i2.toArray,i2[i]'(by lia),p2,by simp⟩
  obtain⟨o,o1,o2⟩:=z_;exact aa (p6 (T := "StopIteration") (b:=true) ⟨o,o1,o2⟩ isSubtype_stop (aj ⟨rfl,I.acf (t':=s.toks) hf λc o U zz=>k c o (by rw[FN.mem] at U;lia) zz⟩))
 self:=λ_ _ _ _ _ R h=>by obtain⟨⟨ov,Z,_⟩,_⟩:=R;exact wpAny_pyIter_zip Z.z h
theorem Ul:∀{Z:X1}{G:Zl},Vals (Z.map V.ref) G->G=Z.map Value.ref
 |[],_,h=>by cases h;rfl|_::_,_,h=>by cases h with|cons r t=>cases r;rw[Ul t];rfl
def aw8(hg:Gl X "zip")(hm:X.mg "zip" = none)(ha:PA X (a::es) ta)(hs:starEach (a::es) X.env=(false,eval a X.env)::starEach es X.env)(M9:(backTo pos (starEach es X.env)).any (·.1)=false) :
 PI X (.Tuple ts k0 pt) (.Call (.Name "zip" p) (a::es) [] pos) (fun σ H R=>ta σ H λvs H1=>∃(b:Nat->Bool)(G:X1),vs=G.map V.ref/\G.length=2/\(∀q∈G,∃xs,Ys (b q) X.K H1 q xs)/\R (IzN b X.K G) H1):=by
 intro U s σ H R I h;refine PyProof.Rows.Call_ (Ih I hg hm (show bootBuiltins "zip" = some (.type "zip") by decide+kernel) (o9 (ym (ha pos U s σ H _ I h) λus s1 z=>?_) hs M9));obtain⟨vs,H1,I1,r1,b,G,rfl,l,ht,hR⟩:=z;cases Ul r1;obtain⟨c1,c2,c3⟩:=aed (G.map Value.ref) (by simpa using l);have h3:G.length<=3:=by lia
 have tp:∀q∈G,∃xs,Wa (b q) s1.heap q xs:=λq hq=>by obtain⟨xs,hx⟩:=ht q hq;obtain⟨i1,_,p1⟩:=I1.Z4 hx;exact⟨_,p1⟩
 refine alv h3 rfl c1 c2 c3 tp λh' Z hI kk=>wpAny_pyIter_zip Z.z ?_
 refine⟨s1.heap.objs.size+G.length+2,_,_,_,H1,rfl,I1.kept (t':=s1.toks) kk,alw h3 (λz=>by subst z;simp at l) λq hq=>by obtain⟨xs,e⟩:=tp q hq;exact e.lt,⟨⟨_,Z,by simp[Cy]⟩,hI⟩,λc hc=>?_,hR⟩;have qq:=(FN.mem.mp hc).1;exact I1.adu qq (I1.zg.fresh qq)
end L2
namespace Sm
open PySem L2
open MW (Ex Dl OEx Ld yt jw Lv Tg Res dg MO Kl Cp Op2 Blt Bm Kx Src)
def aee{i:Nat}(h:(MW.Bd ds 0)[i]?=some d):∃z,ds[i]?=some z/\d=.tup [.int (i:Nat),z]:=by
 unfold MW.Bd at h;rw[gw,tu] at h;cases e:ds[i]? with
 |none=>rw[e] at h;simp at h|some z=>rw[e] at h;simp at h;exact⟨z,rfl,h.symm⟩
def acj{X:Cx}(r:kj X.K ι H ds U)(R:∀Z G,LeX ι H Z G->Ys bb X.K G q U):ad9 nm X.K ι H (.con (MW.Bd ds 0)) (Ien bb X.K q):=λZ G M1 le S1=>by
 refine⟨λi d hi hd=>?_,λ_=>⟨U,R Z G le,?_⟩⟩
 .obtain⟨z,e1,rfl⟩:=aee (show(MW.Bd ds 0)[i]?=some d from hd)
  obtain⟨v,g1,g2⟩:=(r.Gi le).get e1;refine⟨⟨U,v,R Z G le,g1⟩,λu H2 ⟨p,x,e2,e3,e4,e5⟩=>?_⟩;have ex:x=v:=by have:=e5 U (R Z G le);rw[g1] at this;cases this;rfl
  subst ex e2 e4;obtain⟨S2,xn,r2⟩:=Ik (X:=X) S1 e3 (.cons (.int _) (.cons g2 .nil));exact⟨xn,S2,r2⟩
 .show U.length<=(MW.Bd ds 0).length
  rw[<- r.length];simp[MW.Bd]
def alx{X:Cx}{n k:Nat}(S:jr nm X.K ι H M)(hM:M[n]?=some (.lst ds))(hn:ι.l[n]?=some q):ad9 nm X.K ι H (.el n k) (Ien false X.K q):=λqq H1 M1 le S1=>by
 refine⟨λi d hi Z=>?_,λG=>?_⟩
 .have Z:(match M1[n]? with|some (.lst ds)=>if ds.length=k then(ds[i]?).map λd=>.tup [.int i,d] else none|_=>none)=some d:=Z
  cases e:M1[n]? with
  |none=>rw[e] at Z;cases Z
  |some o=>cases o with
   |lst U =>
    rw[e] at Z;have Z:(if U.length=k then(U[i]?).map λd=>MW.D.tup [.int i,d] else none)=some d:=Z
    by_cases hz:U.length=k
    .rw[di hz] at Z
     obtain⟨z,e1,rfl⟩:=bw.mp Z;obtain⟨us,R,k2⟩:=S1.obj n _ q e (le.get hn);obtain⟨v,g1,g2⟩:=k2.get e1;refine⟨⟨us,v,Dm.of R,g1⟩,λu H2 ⟨p,x,e2,e3,e4,e5⟩=>?_⟩;have ex:x=v:=by have:=e5 us (Dm.of R);rw[g1] at this;cases this;rfl
     subst ex e2 e4;obtain⟨S2,xn,r2⟩:=Ik (X:=X) S1 e3 (.cons (.int _) (.cons g2 .nil));exact⟨xn,S2,r2⟩
    .rw[fj hz] at Z;cases Z
   |_=>rw[e] at Z;cases Z
 .have G:(match M1[n]? with|some (.lst ds)=>ds.length==k|_=>false)=true:=G
  cases e:M1[n]? with
  |none=>rw[e] at G;cases G
  |some o=>cases o with
   |lst U =>
    rw[e] at G;obtain⟨us,R,k2⟩:=S1.obj n _ q e (le.get hn);exact⟨us,Dm.of R,by rw[<- k2.length];exact f_ (show U.length=k by simpa using G)⟩
   |_=>rw[e] at G;cases G
def aw9(hg:Gl X "enumerate")(hm:X.mg "enumerate" = none)(ha:PE X a (tE nm W X.K a'))(G:noStar a=true):PI X (.Tuple ts k0 pt) (.Call (.Name "enumerate" pr) [a] [] pos) (tI nm W X.K (.enm a')):=by
 intro U s0 σ H R' I hh;obtain⟨ι,ρ,M,s,M',S,R,e,q⟩:=hh;rw[MW.Uz] at e;obtain⟨x,M1,e1,e⟩:=d7 e;refine PI.weak (aw6 (ts:=ts) (k0:=k0) (pt:=pt) (p:=pr) (pos:=pos) hg hm (V2 ha ab5 (qu G _ _)) (qu G _ _)) (wi':=λqq H0 R0=>qq=σ/\H0=H/\R0=R') (λqq H0 R0 ⟨z1,z2,z3⟩=>?_) U s0 σ H R' I ⟨rfl,rfl,rfl⟩;subst z1 z2 z3;refine V1 (es':=.cons a' .nil) (ds:=[x]) (M1:=M1) S R (by rw[MW.zb,e1];simp) λZ H1 vs le S1 R1 r=>?_
 cases r with
 |cons r1 r2 =>
  cases r2;cases r1 with
  |@tup p ds us h1 rr =>
   cases e;exact⟨true,p,rfl,⟨us,Ei.of h1⟩,q Z H1 _ le S1 (acj rr λqk H2 xn=>Ei.of (xn.tup _ _ h1))⟩
  |@vl p ds us h1 n1 rr =>
   cases e;exact⟨false,p,rfl,⟨us,Dm.of h1⟩,q Z H1 _ le S1 (acj rr λqk H2 xn=>Dm.of (xn.lst _ _ n1.1 h1))⟩
  |@ref n p h1 =>
   have e:(match M1[n]? with|some (.lst ds)=>Res.ok (Src.el n ds.length) M1|_=>.bad)=.ok s M':=e;cases hM:M1[n]? with
   |none=>rw[hM] at e;cases e
   |some o=>cases o with
    |lst zs =>
     rw[hM] at e;cases e;obtain⟨us,k1,k2⟩:=S1.obj n _ p hM h1;exact⟨false,p,rfl,⟨us,Dm.of k1⟩,q Z H1 _ le S1 (alx S1 hM h1)⟩
    |_=>rw[hM] at e;cases e
  |_=>cases e
def aly:PS X st (tS nm W X.K .raise):=λZ s σ H D I U=>by obtain⟨ι,ρ,M,fl,G,M',S,R,e,q⟩:=U;rw[MW.afd] at e;cases e
def ank(h:PE X a t):PE X (.BoolOp op [a] pos) t:=λZ s G H Q I q=>PyProof.Rows.BoolOp_one (h Z s G H Q I q)
def ah2{X:Cx}{p q:Addr}{us vs:List V}(r1:kj X.K ι H U us)(r2:kj X.K ι H G vs)(h1:H p=some (.tup us))(h2:H q=some (.tup vs)):ad9 nm X.K ι H (.con (MW.Ov U G)) (IzN (λ_=>true) X.K [p,q]):=λqq H1 M1 le S1=>by
 have k1:Ys true X.K H1 p us:=Ei.of (le.tup _ _ h1);have k2:Ys true X.K H1 q vs:=Ei.of (le.tup _ _ h2);have l1:=r1.length;have l2:=r2.length;refine⟨λi d hi hd=>?_,λ_=>?_⟩
 .have hd:((U.zip G).map λp=>MW.D.tup [p.1,p.2])[i]?=some d:=hd
  rw[gw] at hd;obtain⟨⟨x,y⟩,e,rfl⟩:=bw.mp hd;obtain⟨ex,ey⟩:=List.getElem?_zip_eq_some.mp e;obtain⟨u,g1,g2⟩:=(r1.Gi le).get ex;obtain⟨v,g3,g4⟩:=(r2.Gi le).get ey;refine⟨⟨[u,v],rfl,λj a Z=>?_⟩,λu' H2 z=>?_⟩
  .match j,Z with
   |0,Z=>cases Z;exact⟨us,u,k1,g1,rfl⟩|1,Z=>cases Z;exact⟨vs,v,k2,g3,rfl⟩
  .obtain⟨t,ws,rfl,e6,rfl,e8,e9⟩:=z
   have a1:=e9 0 p us rfl k1;have a2:=e9 1 q vs rfl k2
   match ws,e8,a1,a2 with
   |[w1,w2],_,a1,a2 =>
    rw[g1] at a1;rw[g3] at a2;cases a1;cases a2;obtain⟨S2,xn,r3⟩:=Ik (X:=X) S1 e6 (.cons g2 (.cons g4 .nil));exact⟨xn,S2,r3⟩
 .have R:(Src.con (MW.Ov U G)).len=min U.length G.length:=by simp[Src.len,MW.Ov]
  rw[R];rcases iw G.length U.length with h|h
  .exact⟨1,q,vs,rfl,k2,by lia,λj a Z ha=>by
    have:j=0:=by lia
    subst this;cases ha;exact⟨us,k1,by lia⟩⟩
  .exact⟨0,p,us,rfl,k1,by lia,λj a Z=>absurd Z (m7 _)⟩
def axa(hg:Gl X "zip")(hm:X.mg "zip" = none)(ha:PA X (a::es) (Xr nm W X.K qq))(hs:starEach (a::es) X.env=(false,eval a X.env)::starEach es X.env)(M9:(backTo pos (starEach es X.env)).any (·.1)=false) :
 PI X (.Tuple ts k0 pt) (.Call (.Name "zip" pr) (a::es) [] pos) (tI nm W X.K (.zip qq)):=by
 intro Z s0 σ H R' I hh;obtain⟨ι,ρ,M,s,M',S,R,e,q⟩:=hh;rw[MW.aap] at e;obtain⟨ds,N1,e1,e⟩:=d7 e;obtain⟨xs,ys,rfl,rfl,rfl⟩:∃xs ys,ds=[.tup xs,.tup ys]/\s=.con (MW.Ov xs ys)/\M'=N1:=by
  unfold MW.aoi at e;split at e
  .cases e;exact⟨_,_,rfl,rfl,rfl⟩
  .cases e
 refine PI.weak (aw8 (ts:=ts) (k0:=k0) (pt:=pt) (p:=pr) (pos:=pos) hg hm ha hs M9) (wi':=λU H0 R0=>U=σ/\H0=H/\R0=R') (λU H0 R0 z=>?_) Z s0 σ H R' I ⟨rfl,rfl,rfl⟩;obtain⟨rfl,rfl,rfl⟩:=z;refine V1 S R e1 λqk H1 vs le S1 R1 G=>?_
 cases G with
 |cons r1 G=>cases G with
  |cons r2 G =>
   cases G;cases r1 with
   |@tup p1 _ us1 h1 l1=>cases r2 with
    |@tup p2 _ us2 h2 l2 =>
     refine⟨λ_=>true,[p1,p2],rfl,rfl,λa ha=>?_,q qk H1 _ le S1 (ah2 l1 l2 h1 h2)⟩;simp only[cg,qb,or_false] at ha;rcases ha with rfl|rfl
     .exact⟨_,Ei.of h1⟩
     .exact⟨_,Ei.of h2⟩
theorem Yj:∀{Z:List Dv}{b:Bool},MW.allB Z=some b->∃bs:List Bool,Z=bs.map MW.D.bl/\b=bs.all id
 |[],b,e=>by cases e;exact⟨[],rfl,rfl⟩
 |.bl k::r,b,e=>by
  obtain⟨c,G,rfl⟩:=bw.mp (show(MW.allB r).map (k&&·)=some b from e);obtain⟨bs,rfl,rfl⟩:=Yj G;exact⟨k::bs,rfl,by simp⟩
theorem Um{ι:Io}{H:Hp}{K:Fg}:∀{bs:List Bool}{Z:List V}{is:Zl},kj K ι H (bs.map MW.D.bl) Z->Vals Z is->is=bs.map Value.bool
 |[],_,_,r,h=>by cases r;cases h;rfl
 |k::bs,_,_,r,h=>by
  cases r with
  |cons r1 U =>
   cases h with
   |cons G R =>
    cases r1;cases G;rw[Um U R];rfl
def axb(hc:X.calm=true):yo X (.builtin "all") (rB nm X.K .all):=λqk s σ H vs us Q I Sy hh=>by
 obtain⟨ι,M,ds,d,M',S,r,e,q⟩:=hh;obtain⟨x,rfl,e⟩:∃x,ds=[x]/\Res.qi (((MW.dw M x).bind MW.allB).map MW.D.bl) M=.ok d M':=by
  cases ds with
  |nil=>cases e
  |cons x l=>cases l with
   |nil=>exact⟨x,rfl,e⟩|cons _ _=>cases e
 obtain⟨e1,rfl⟩:=uv e;obtain⟨b,e2,rfl⟩:=bw.mp e1;obtain⟨xs,e3,e4⟩:=j8.mp e2;obtain⟨bs,rfl,rfl⟩:=Yj e4;obtain⟨v,rfl,rv⟩:=V5 r rfl;obtain⟨u,rfl,ru⟩:=Z3 Sy;obtain⟨p,ws,rfl,hp,rl⟩:=qt S rv e3;cases ru;obtain⟨is,qq,pl,_⟩:=I.list (Dm.of hp);have Z:=Um rl qq;have Hc:p<s.heap.objs.size:=by obtain⟨_,e,_⟩:=pl.isList;exact az e
 refine call_all_walk (wpAny_pyIter_list pl.isList ?_);refine⟨_,_,_,_,_,_,λi=>bs.getD i true,rfl,Walks.list (A:=X.A.in1) (I.ok.hd hc) s.heap.objs.size p (gh Hc) is.toArray,⟨⟨_,bj _ rfl,rfl,rfl⟩,pl.isList.push _⟩,λi v s Q E hP hQ=>?_,λh' tk G=>?_⟩
 .have hv:is[i]?=some v:=by simpa using hP
  rw[Z,gw] at hv;obtain⟨k,G,rfl⟩:=bw.mp hv;refine je ?_;have hQ:Q (bs.getD i true) s:=hQ;rw[q9,G] at hQ;exact hQ
 .have ha:(List.range is.toArray.size).all (λi=>bs.getD i true)=bs.all id:=by
   rw[Z];simp only[cz,bx];rw[sr,nj,nj];constructor
   .intro h k G
    obtain⟨i,R,rfl⟩:=ug G;have:=h i (iy.mpr R);simpa[q9,R] using this
   .intro h i R
    have U:=iy.mp R;have:=h bs[i] (List.getElem_mem U);simpa[q9,U] using this
  rw[ha];exact⟨.bl _,H,I.kept (t':=tk) (old_kept G),rfl,q ι H _ (Le.refl _ _) S (.bl _)⟩
def alz{prog:Program}{w:World}{R:Type}[DecidableEq R]{Z:HeapKind prog w R}{A:Around}{E:Y1}{s:Shared}{d a:Addr}{xs:List (R×Addr×Value)}{k:R}{v:Value}{Q:Y1}(hu:Z.room A)(G:Z.is s.heap k a)(hm:s.heap.DictOfH Z d xs)(hz:xs.length<=sizeLine)
 (h1:∀p,atKey xs k=some p->Q p.2 { s with toks:=s.toks+Z.draws k })
 (h2:atKey xs k=none->∀h',h'.DictOfH Z d (xs++[(k,a,v)])->Heap.SameBut d s.heap h'->Q v { s with heap:=h',toks:=s.toks+Z.draws k }) :
 wpAny (model prog w) A (dictSetDefault d (.ref a) v) Q E s:=by
 obtain⟨o,es,ep,c1,c2,U,c4,c5,c6⟩:=hm;unfold dictSetDefault;refine jo (aa (Z.pyHash hu G (aa (wpAny_dictFind_heap (s:={ s with toks:=s.toks+Z.draws k }) hu G c1 U c4 c5 c6 (λno=>?_) λj p hj=>?_))))
 .have z:=h2 (atKey_none_of_get no)
  have nk:=not_mem_keys_of_get no;have hs:=size_of_entries c4;have sb:Heap.SameBut d s.heap (s.heap.update d (Obj.mapDictKeys (·.push ⟨Z.hash k,.ref a,v⟩))):=jg ..;have kp:∀{x:R}{b:Addr},Z.is s.heap x b->Z.is (s.heap.update d (Obj.mapDictKeys (·.push ⟨Z.hash k,.ref a,v⟩))) x b:=λq=>Z.keeps q c1 U sb
  refine aa (wpAny_rule (aa (wpAny_updateDictKeys (hz:=by lia) (s:={ s with toks:=s.toks+Z.draws k }) c1 U (aj (z _ ⟨_,_,ep+1,m6 _ c1 (Obj.isFreed_of_dict (Obj.data_mapDictKeys U _)),c2.mapDictKeys _,Obj.data_mapDictKeys U _,by simp[c4,entryOfKey],λx hx=>?_,?_⟩ sb)))))
  .rcases bh.mp hx with q|q
   .exact kp (c5 x q)
   .cases j9.mp q;exact kp G
  .rw[jh]
   exact my.mpr ⟨c6,by simp,λx hx y hy e=>nk (by cases j9.mp hy;rw[show x=k from e] at hx;exact hx)⟩
 .have z:=h1 p (atKey_of_get c6 hj)
  refine aa (wpAny_dictEntries (s:={ s with toks:=s.toks+Z.draws k }) c1 U ?_);rw[entry_at c4 j,hj];exact aa (wpAny_rule (aj z))
def Z5{prog:Program}{w:World}{κ:Type}[DecidableEq κ](Z:HeapKind prog w κ)(d a:Addr)(hd:(d==sysModules)=false)(v:Value) :
 MeetsIn prog w (Builtin.«dict.setdefault» ⟨[.ref d,.ref a,v],[]⟩) (λA R s=>Z.room A.in1/\∃k G,Z.is s.heap k a/\s.heap.DictOfH Z d G/\G.length<=sizeLine /\
  (∀p,atKey G k=some p->R (.ok (.ret p.2)) { s with toks:=s.toks+Z.draws k }) /\
  (atKey G k=none->∀U,U.DictOfH Z d (G++[(k,a,v)])->Heap.SameBut d s.heap U->R (.ok (.ret v)) { s with heap:=U,toks:=s.toks+Z.draws k })) :=
 .of_wp λA R s h=>by obtain⟨hu,k,G,hk,hm,hz,h1,h2⟩:=h;refine aa (aa (wpAny_notOrdered_dict hm.typeIs (?_:wpAny _ _ (pure (d,Value.ref a,some v)) _ _ s)));refine aj (?_:wpAny _ _ (if(d==sysModules)=true then _ else(dictSetDefault d (.ref a) v >>= _)) _ _ s);rw[hd];exact aa (alz hu hk hm hz (λp q=>aj ⟨_,rfl,h1 p q⟩) λq U m sb=>aj ⟨_,rfl,h2 q U m sb⟩)
def al0(h:MW.onT o M f=.ok d M'):∃n Z,o=.ref n/\M[n]?=some (.dT Z)/\f n Z=.ok d M':=by
 cases o with
 |ref n =>
  simp only[MW.onT] at h;cases e:M[n]? with
  |none=>rw[e] at h;cases h
  |some o=>cases o with
   |dT Z=>rw[e] at h;exact⟨n,Z,rfl,e,h⟩|_=>rw[e] at h;cases h
 |_=>cases h
def ah3(e:MW.Jc .setdefault x ds M=.ok d R):∃n k U G q,x=.ref n/\ds=[k,U]/\M[n]?=some (.dT G)/\MW.Yz k=some q/\((MW.Jb G q=some d/\R=M)\/(MW.Jb G q=none/\G.length<100000/\d=U/\R=M.set n (.dT (G++[(q,U)])))):=by
 obtain⟨n,G,rfl,hM,Z⟩:=al0 e
 match ds,Z with
 |[k,U],Z =>
  cases hk:MW.Yz k with
  |none=>simp only[hk] at Z;cases Z
  |some q =>
   simp only[hk] at Z;refine⟨n,k,U,G,q,rfl,rfl,hM,hk,?_⟩;cases hl:MW.Jb G q with
   |some v=>simp only[hl] at Z;cases Z;exact .inl ⟨rfl,rfl⟩
   |none =>
    simp only[hl] at Z;obtain⟨h1,h2⟩:=Z0 Z;cases h2;exact .inr ⟨rfl,h1,rfl,rfl⟩
 |[],Z=>cases Z|[_],Z=>cases Z|_::_::_::_,Z=>cases Z
set_option tactic.hygienic true in
def ty_dict{X:Cx}(S:jr nm X.K Z H M)(r:Rep X.K Z H x v)(h:MW.P0 .setdefault x M=true):tyV X.K "dict" v H:=by
 cases r with
 |@ref n p hp =>
  have h:(match M[n]? with|some (.dT _)=>true|_=>false)=true:=h;split at h
  .rename_i G
   obtain⟨l,Y,_⟩:=S.obj n _ p G hp;exact .inr (.inr (.inl ⟨rfl,.inr ⟨_,Y⟩⟩))
  .cases h
 |_=>cases h
def arf(hu:X.A.units+1<cLine):MtR X "dict.setdefault" (rM nm X.K .setdefault):=λq1 s σ H v vs u us Q I ru Sy hh=>by
 obtain⟨ι,M,x,ds,d,M',S,r,rs,e,q⟩:=hh;obtain⟨n,k,d0,xu,U,rfl,rfl,hM,hk,hd⟩:=ah3 e;cases rs with
 |cons rk rt=>cases rt with
  |cons rd rt =>
   cases rt;cases Sy with
   |cons qv R=>cases R with
    |cons qk R =>
     cases R;cases r with
     |@ref _ p ha =>
      cases ru;obtain⟨l,h1,h2⟩:=S.obj n _ _ hM ha;obtain⟨b,rfl,hb⟩:=aqx rk hk;cases qv;obtain⟨z,qq,xs,G,dd⟩:=avo I.zg h1;have q2:=Paired.length G;have Z:=G.val U;refine call_meetsIn PySem.F.slot_dict_setdefault dd.typeIs PySem.F.entry_dict_setdefault (PySem.F.args_dict_setdefault_3 _ _ _) (Z5 (tupleKind (Ax X.prog X.w)) p b qq _) ⟨tupleKind_room_in1 hu,U,xs,ag7 I.zg hb,dd,by lia,λpp hp=>?_,λhn h' q0 sb=>?_⟩
      .rw[hp] at Z
       rcases hd with⟨g1,rfl⟩|⟨g1,_⟩
       .obtain⟨y,g2,g3⟩:=(h2.look (k:=U)).1 d g1
        rw[g2] at Z;exact⟨y,H,I.tok _,Z,q ι H _ (Le.refl _ _) S g3⟩
       .rw[(h2.look (k:=U)).2 g1] at Z
        exact(show False from Z).elim
      .rw[hn] at Z
       rcases hd with⟨g1,_⟩|⟨g1,g2,rfl,rfl⟩
       .obtain⟨y,g3,_⟩:=(h2.look (k:=U)).1 d g1
        rw[g3] at Z;exact(show False from Z).elim
       .obtain⟨S2,xn⟩:=S.put (u:=.dT (l++[(U,_)])) (o:=.dT (xu++[(U,_)])) hM ha λle=>⟨_,t8,(h2.mono le).snoc rfl (rd.mono le)⟩
        refine⟨_,_,?_,qk,q _ _ _ xn S2 (rd.mono xn)⟩;obtain⟨o,es,ep,f1,f2,f3,f4,_,f5⟩:=q0;have q3:=h2.length;refine akp I (by rw[h1];trivial) sb ⟨o,f1⟩ ⟨by have:=Rk g2;simp;lia,qq,_,KT.keeps (Paired.snoc G ⟨rfl,hb,qk⟩) λc ys ec=>?_,o,es,ep,f1,f2,f3,f4,f5⟩;rw[j6 (abk ec h1 (λz=>nomatch z))];exact ec
section
variable{prog:Program}{w:World}{A:Around}{E:Y1}{s:Shared}{it d:Addr}{i ep:Nat}{o:Obj}{es:Array DictEntry}{Q:Option Value->Shared->Prop}
def Z6(Z:(d==sysModules)=false) :
 MeetsIn prog w (Builtin.«dict.values» ⟨[.ref d],[]⟩) (λ_ R s=>s.TypeIs (.ref d) "dict"/\R (.ok (.ret (.ref s.heap.objs.size))) { s with heap:=s.heap.push { cls:=.type "dict_values",data:=.fields #[.ref d] } }) :=
 .of_wp λA R s h=>by obtain⟨T,h⟩:=h;refine aa (aa (wpAny_notOrdered_dict T (?_:wpAny _ _ (pure d) _ _ s)));refine aj (?_:wpAny _ _ (Builtin.Dict.showsAll d >>= _) _ _ s);unfold Builtin.Dict.showsAll;rw[Z];exact aa (aj (aa (jq (aj ⟨_,rfl,h⟩))))
def aef{v:Addr}{Q:Y1}(Z:s.heap.IsValuesView v d)(U:s.heap.get? d=some o)(G:o.data=.dict es ep)
 (h:Q (.ref s.heap.objs.size) { s with heap:=s.heap.push { cls:=.type "dict_valueiterator",data:=.fields #[.ref d,.int 0 0,.int es.size 0,.int ep 0] } }):wpAny (model prog w) A (pyIter (.ref v)) Q E s:=by
 obtain⟨ov,v1,v2,R⟩:=id Z;refine wpAny_pyIter_slot Z.typeIs PySem.F.slot_dict_values_iter (jz PySem.F.slot_dict_values_iter Z.typeIs PySem.F.entry_dict_values_iter ?_ (PySem.F.args_dict_values_iter_1 _));refine aa (aj (aa (aa (fc v1 R (x:=.ref d) rfl (aj (aa ?_))))));unfold Builtin.Dict_items.newIterator;refine aa (wpAny_dictEntries U G (aa (wpAny_dictEpoch U G ?_)));simp only[show Builtin.Dict_items.ownsTuple "dict_valueiterator" = false by decide,du,ig];exact jq (aj ⟨_,rfl, "dict_valueiterator",_,⟨_,bj _ rfl,rfl⟩,qe.lookup,h⟩)
def Yk(R:s.heap.IsValIter it d i es.size ep)(ho:s.heap.get? d=some o)(hd:o.data=.dict es ep)
 (h1:∀U:i<es.size,∀G,G.IsValIter it d (i+1) es.size ep->Heap.SameBut it s.heap G->Q (some es[i].val) { s with heap:=G })
 (hh:A.handled=none) (h2:es.size<=i->∀G,Heap.ExtBut it s.heap G->Q none { s with heap:=G }):wpAny (model prog w) A (pyNext (.ref it)) Q E s:=by
 have T:=R.typeIs;obtain⟨oi,hi,hc,hf⟩:=id R;unfold pyNext;refine aa (wpAny_attempt (jc (name:=Str.ofString "__next__") T qe (jz qe T PySem.F.entry_dict_valueiterator_next ?_ (PySem.F.args_dict_valueiterator_next_1 _))));refine aa (aj (aa (aa (aa (qp T (aj (aa (wpAny_fieldsOf hi hf ?_))))))));rw[show Builtin.Dict_items.ownsTuple "dict_valueiterator" = false by decide];refine(?_:wpAny _ _ (if(Value.ref d==Value.none)=true then _ else _) _ _ s);rw[fj (nofun:¬((Value.ref d==Value.none)=true))];refine aa (aj (aa (wpAny_dictEntries ho hd ?_)));rw[fj (by simp)];refine aa (aj (aa (wpAny_dictEpoch ho hd ?_)));rw[fj (by simp)];refine aj ?_;rcases iw i es.size with U|U
 .have Z:(s.heap.update it (Obj.mapFields (·.setIfInBounds 1 (rawInt ((i:Int)+1))))).IsValIter it d (i+1) es.size ep :=
   ⟨_,m6 _ hi (Obj.isFreed_of_fields (Obj.data_mapFields hf _)),(Obj.cls_mapFields ..).trans hc,by rw[Obj.data_mapFields hf];simp[rawInt]⟩
  simp only[show ¬((i:Int)<0) by lia,ig,j7,Array.getElem?_eq_getElem U];refine aa (aa (qp T (aj (aa (wpAny_isOneOf_valiter T ?_)))));refine(?_:wpAny _ _ (setField (.ref it) 1 (rawInt ((i:Int)+1)) >>= _) _ _ s);refine aa (wpAny_setField hi hf (by simp) (aa (jo (aa (wpAny_isOneOf_valiter (s:={ s with heap:=_ }) Z.typeIs (aa (wpAny_isOneOf_valiter (s:={ s with heap:=_ }) Z.typeIs ?_)))))));exact aj (aj ⟨_,rfl,aj (h1 U _ Z (jg ..))⟩)
 .simp only[show ¬((i:Int)<0) by lia,ig,j7,Array.getElem?_eq_none U]
  refine aa (aa (qp T (aj ?_)));refine(?_:wpAny _ _ (setField (.ref it) 0 .none >>= _) _ _ s);refine aa (wpAny_setField hi hf (by simp) ?_);refine STb.aaf (show A.in1.handled=none from hh) λG x k z_=>?_
  obtain⟨o,e1,e2⟩:=z_;exact aa (p6 (T := "StopIteration") (b:=true) ⟨o,e1,e2⟩ isSubtype_stop (aj (h2 U _ λb o n z=>k b o ((jg ..).extBut b o n z))))
end
theorem anl{R U:Type}{F:R->U->Prop}{b:U}:∀{G:List R}{Z:List U}{i:Nat},Paired F G Z->Z[i]?=some b->∃a,G[i]?=some a/\F a b
 |_,_,0,.cons h _,e=>by cases e;exact⟨_,rfl,h⟩|_,_,i+1,.cons _ t,e=>anl (i:=i) t e
noncomputable def Itv(a:Addr)(o:Obj)(l:List (List Key×V)):It :=
 ⟨λi H=>H a=some (.Hd o (.dT l))/\i<l.length,λi H x Z=>Z=H/\∃p,l[i]?=some p/\x=p.2,λi H=>H a=some (.Hd o (.dT l))/\l.length<=i⟩
theorem aeg{es:Array DictEntry}{ep:Nat}{l:List (List Key×V)}(a it:Addr)(hd:o.data=.dict es ep)(hz:es.size=l.length):Turn P w K tg (Itv a o l) [it] it (λi h=>h.IsValIter it a i es.size ep) where
 mem:=by simp
 obj:=λi h Z b R=>by cases j9.mp R;obtain⟨o,e,c,d⟩:=Z;exact⟨o,e,λv z=>by rw[d] at z;cases z⟩
 keep:=λi h h' Z k=>Z.at λo e=>k it (by simp) o e
 item:=by
  intro X hP hw hK hc i G s σ H E I hf Z hg;subst hP hw hK;obtain⟨e,hl⟩:=hg;obtain⟨ho,_,_,xs,U,o',qv,q0,g1,g2,g3,g4,g5⟩:=(show za X.prog X.w H s.heap a (.Hd o (.dT l)) from I.zg a _ e);rw[ho] at g1;cases g1;rw[hd] at g3;cases g3;obtain⟨f0,f1,f2,f3,f4,f5⟩:=hf it (by simp);refine Yk Z ho hd (λqk h' qq sb=>?_) (I.ok.hd hc) (λz=>absurd hl (by lia));have I1:Inv X G σ H { s with heap:=h' }:=I.turned (t':=s.toks) (λb o R e=>(sb.2 b R).trans e) f0 f1 f3 f4 f5;have hx:xs[i]?=some (xs[i]'(by rw[<- U.length];exact hl)):=dz _;have hk:es[i].val=(xs[i]'(by rw[<- U.length];exact hl)).2.2:=by have:=entry_at g4 i;rw[hx,Array.getElem?_eq_getElem qk] at this;exact mz DictEntry.val (jb this)
  obtain⟨p,hp,q1,q2,q3⟩:=anl U hx;obtain⟨oi,e1,e2,e3⟩:=id qq;refine⟨_,rfl,abp (s:={ s with heap:=h' }) e1 e2 e3 (by decide) ⟨p.2,H,I1,by rw[hk];exact q3,⟨rfl,p,hp,rfl⟩,qq,λb R=>(hf b R).1⟩⟩
 done:=by intro X hP hw hK hc i G s σ H E I hf Z hg;subst hP hw hK;obtain⟨e,hl⟩:=hg;obtain⟨ho,_⟩:=(show za X.prog X.w H s.heap a (.Hd o (.dT l)) from I.zg a _ e);obtain⟨f0,f1,f2,f3,f4,f5⟩:=hf it (by simp);exact Yk Z ho hd (λz=>absurd hl (by lia)) (I.ok.hd hc) λ_ h' eb=>⟨rfl,I.turned (t':=s.toks) (λb o R e=>eb b o R e) f0 f1 f3 f4 f5⟩
 self:=λ_ _ _ _ _ Z h=>wpAny_pyIter_valiter Z h
def wj.vals{f:κ->U->Prop}(h:wj K ι H f l l'):∀{i:Nat}{p Z},l[i]?=some p->l'[i]?=some Z->Rep K ι H p.2 Z.2:=by
 induction h with
 |nil=>intro i p Z e;simp at e
 |cons k r t R =>
  intro i p Z e G;cases i with
  |zero=>cases e;cases G;exact r|succ i=>exact R e G
def ari{qq:Pos}(ha:PE X a (tE nm W X.K a'))(Xl:attributeBase a "values" X.env (eval a X.env)=eval a X.env)(Xm:(qq.endLine==pos.line)=true):PI X tg (.Call (.Attribute a "values" qq) [] [] pos) (tI nm W X.K (.vals a')):=by
 intro G s σ H R I hh;obtain⟨ι,ρ,M,sc,M',S,Rv,e,q⟩:=hh;rw[MW.Wq] at e;obtain⟨x,M1,e1,e⟩:=d7 e;refine wpAny_Call_method0_late Xl Xm (ym (ha G s σ H (λv U=>∃Z,Le ι H Z U/\jr nm X.K Z U M1/\Rep X.K Z U x v) I (one S Rv e1 λZ U v le S1 R1 r=>⟨Z,le,S1,r⟩)) λv s1 z_=>?_);obtain⟨x',U,I1,r1,Z,le,S1,r⟩:=z_;cases r with
 |@ref n p h1 =>
  have e:(match M1[n]? with|some (.dT xu)=>Res.ok (Src.con (xu.map Prod.snd)) (M1.set n (.dF xu))|_=>.bad)=.ok sc M':=e;cases hn:M1[n]? with
  |none=>rw[hn] at e;cases e
  |some ob=>cases ob with
   |dT xu =>
    rw[hn] at e;cases e;cases r1;obtain⟨l,g1,g2⟩:=S1.obj n _ p hn h1;obtain⟨z,qk,xs,qv,o,es,ep,k1,k2,k3,k4,k5⟩:=(show za X.prog X.w U s1.heap p (.dT l) from I1.zg p _ g1);have T:s1.TypeIs (.ref p) "dict" := ⟨o,k1,k2.1⟩;have hz:es.size=l.length:=(size_of_entries k4).trans qv.length.symm;obtain⟨S2,xn⟩:=S1.put (u:=.Hd o (.dT l)) (o:=.dF xu) hn h1 λle=>⟨l,o,t8,g2.mono le⟩
    have I2:Inv X G σ (upd U p (.Hd o (.dT l))) s1:=I1.write (x:=p) (e:=p) (t':=s1.toks) (by rw[g1];trivial) (.inl rfl) (λ_ _ _ z=>z) ⟨o,k1⟩ ⟨k1,z,qk,xs,KT.keeps qv λc ys ec=>by rw[j6 (abk ec g1 (λz=>nomatch z))];exact ec,o,es,ep,k1,k2,k3,k4,k5⟩;refine⟨"dict", "dict.values",PySem.F.plainAttrs_dict,PySem.F.slot_dict_values,PySem.F.type_dict_values,T,λa ea=>by cases ea;exact⟨o,k1,k2.2.1⟩,Calls.callWith_builtin rfl (PySem.evalArgs_none (call_meetsIn PySem.F.slot_dict_values T PySem.F.entry_dict_values (PySem.F.args_dict_values_1 _) (Z6 qk) ⟨T,?_⟩))⟩;have kp:∀{h:Heap}{ob:Obj}{b:Addr}{c:Obj},h.get? b=some c->(h.push ob).get? b=some c:=λe=>au _ e
    refine aef (s:={ s1 with heap:=s1.heap.push { cls:=.type "dict_values",data:=.fields #[.ref p] } }) ⟨_,bj _ rfl,rfl,rfl⟩ (kp k1) k3 ?_;have R8:(s1.heap.push { cls:=.type "dict_values",data:=.fields #[.ref p] }).objs.size=s1.heap.objs.size+1:=jy ..;refine⟨_,[_],_,Itv p o l,upd U p (.Hd o (.dT l)),rfl,I2.kept (t':=s1.toks) λb c e=>kp (kp e),aeg p _ k3 hz,⟨_,bj _ rfl,rfl,rfl⟩,λb hb=>?_,q Z _ _ (le.trans xn) S2 λq0 H3 M3 Sx S3=>⟨λi d hi hd=>?_,λ_=>⟨Sx.Hd _ _ _ t8,?_⟩⟩⟩
    .cases j9.mp hb
     rw[R8];exact I2.adu (o8 _) (I2.zg.fresh (o8 _))
    .have hd:(xu.map (·.2))[i]?=some d:=hd
     rw[gw] at hd;obtain⟨y,y1,rfl⟩:=bw.mp hd;refine⟨⟨Sx.Hd _ _ _ t8,by rw[g2.length.symm];simpa[Src.len] using hi⟩,λv H4 ⟨hH,pp,q1,q2⟩=>?_⟩;subst hH q2;exact⟨Le.refl _ _,S3,((g2.vals y1 q1).mono xn).Gi Sx⟩
    .rw[<- g2.length];simp[Src.len]
   |_=>rw[hn] at e;cases e
 |_=>cases e
open PySem L2 PyProof.Rows
def ack{X:Cx}(S:jr nm X.K ι H M)(r:Rep X.K ι H x v)(e:MW.jl M x=some ds):akk X.K v H (!ds.isEmpty):=by
 obtain⟨p,G,rfl,Z,R⟩:=Ej S r e;have U:(!ds.isEmpty)=!G.isEmpty:=by cases R<;>rfl
 rcases Z with Z|Z
 .exact .inl ⟨G,Dm.of Z,U⟩
 .exact .inr (.inl ⟨G,Ei.of Z,U⟩)
def anm(ha:PE X a (tE nm W X.K a'))(he:∀Z,isTrue a X.env Z=(do let v <- Z;standAt a.pos;holding [v] (truthy v))):PT X a (tQ nm W X.K (.tru a')):=by intro G s σ H Q I hh;obtain⟨ι,ρ,M,b,M',S,R,e,q⟩:=hh;rw[MW.aaq] at e;obtain⟨x,M1,e1,e2⟩:=d7 e;obtain⟨e3,rfl⟩:=uv e2;obtain⟨ds,e4,e5⟩:=bw.mp e3;cases e5;refine ag2 ha he G s σ H Q I ⟨ι,ρ,M,x,M',S,R,e1,λU H1 v le S1 r=>?_⟩;exact⟨!ds.isEmpty,ack S1 r e4,q U H1 le S1⟩
def arj(ha:PE X a (tE nm W X.K a')):PE X (.UnaryOp .Not a pos) (tE nm W X.K (.ntr a')):=by
 intro Z s σ H Q I hh;obtain⟨ι,ρ,M,d,M',S,R,e,q⟩:=hh;rw[MW.U0] at e;obtain⟨x,M1,e3,e4⟩:=d7 e;obtain⟨e5,rfl⟩:=uv e4;obtain⟨ds,e6,rfl⟩:=bw.mp e5;refine UnaryOp_ (ym (ha Z s σ H (λv G=>∃k,akk X.K v G k/\Q (.bl !k) G) I ⟨ι,ρ,M,x,M',S,R,e3,λU G v le S1 r=>⟨!ds.isEmpty,ack S1 r e6,by rw[Bool.not_not];exact q U G _ le S1 (.bl _)⟩⟩) λv s1 z=>?_);obtain⟨y,G,I1,r1,q1⟩:=z;exact not_of (ym (ag1 Z s1 σ G y v (λk G=>Q (.bl !k) G) I1 r1 q1) λk s2 z=>by
  obtain⟨H2,I2,q2⟩:=z;exact⟨.bl !k,H2,I2,rfl,q2⟩)
def ark(ha:PE X a (tE nm W X.K a'))(he:∀Z,isTrue a X.env Z=(do let v <- Z;standAt a.pos;holding [v] (truthy v))):PT X (.UnaryOp .Not a pos) (tQ nm W X.K (.ntr a')) :=
 PT.of (ags (anm ha he)) fun σ H Q ι ρ M b M' S R e q=>by rw[MW.U0] at e;obtain⟨x,M1,e3,e4⟩:=d7 e;obtain⟨e5,rfl⟩:=uv e4;obtain⟨ds,e6,e7⟩:=bw.mp e5;cases e7;exact⟨ι,ρ,M,!ds.isEmpty,M',S,R,by rw[MW.aaq,e3];simp[e6],λG U le S'=>by show Q (!!ds.isEmpty) U;rw[Bool.not_not];exact q G U le S'⟩
theorem Rp:∀(k:Int)(l:X2),k∈MW.Bc l↔k∈l
 |k,[]=>Iff.rfl
 |k,x::l=>by
  unfold MW.Bc;have Z:=Rp k l
  by_cases h:x∈l
  .rw[di h,Z]
   exact⟨bu _,λq=>by rcases cg.mp q with rfl|q;exact h;exact q⟩
  .rw[fj h,cg,cg,Z]
theorem Wc:∀l,(MW.Bc l).Nodup
 |[]=>.nil
 |x::l=>by
  unfold MW.Bc
  by_cases h:x∈l
  .rw[di h];exact Wc l
  .rw[fj h];exact kh.mpr ⟨λq=>h ((Rp x l).mp q),Wc l⟩
theorem Yl{ι:Io}{H:Hp}{K:Fg}:∀{G:List Dv}{Z:List V}{is:Zl}{U:X2},kj K ι H G Z->Vals Z is->MW.Th G=some U->PyProof.Rows.IntsAre is U
 |_,_,_,_,.nil,.nil,h=>by cases h;exact .nil
 |_,_,_,_,.cons r t,.cons rv tv,h=>by
  cases r<;>simp only[MW.Th] at h<;>try cases h
  obtain⟨qq,R,e2⟩:=bw.mp h;subst e2;obtain⟨tk,rfl⟩:=rv;exact .cons _ _ (Yl t tv R)
def Z7(e:MW.qw .Gj ds M=.ok d R):∃G Z,ds=[.tup G]/\MW.Th G=some Z/\Z.length<31/\d=.int (MW.Bc Z).length/\R=M:=by
 obtain⟨x,rfl,e⟩:=Zz e;cases x with
 |tup G =>
  obtain⟨e1,e2⟩:=uv (show Res.qi ((MW.Th G).bind λis=>if is.length<31 then some (MW.D.int (MW.Bc is).length) else none) M=.ok d R from e);obtain⟨Z,e3,U⟩:=j8.mp e1
  by_cases h:Z.length<31
  .rw[di h] at U
   exact⟨G,Z,rfl,e3,h,(jb U).symm,e2⟩
  .rw[fj h] at U;cases U
 |_=>cases e
def ah4(hr:yh 8 X.A)(hg:Gl X n)(hm:X.mg n=none)(hv:bootBuiltins n=some (.builtin "len"))(hn:n≠"__name__")(Zm:(n==("__debug__" : Str))=false)(q0:Gl X G)(zz:X.mg G=none)(q4:bootBuiltins G=some (.type "set"))(qv:G≠"__name__")(q6:(G==("__debug__" : Str))=false)(ha:PA X [a] (Xr nm W X.K (.cons a' .nil)))(he:starEach [.Call (.Name G p') [a] [] q2] X.env=(false,eval (.Call (.Name G p') [a] [] q2) X.env)::starEach [] X.env)(M9:(backTo q1 (starEach [] X.env)).any (·.1)=false)(q3:starEach [a] X.env=(false,eval a X.env)::starEach [] X.env)(q5:(backTo q2 (starEach [] X.env)).any (·.1)=false) :
 PE X (.Call (.Name n p) [.Call (.Name G p') [a] [] q2] [] q1) (tE nm W X.K (.blt .Gj (.cons a' .nil))):=by
 intro U s σ H Q I hh;obtain⟨ι,ρ,M,d,M',S,R,e,q⟩:=hh;rw[MW.Uy] at e;obtain⟨ds,M1,e1,e⟩:=d7 e;obtain⟨xs,ns,rfl,e3,hl,rfl,rfl⟩:=Z7 e;refine o5 (Ih I hg hm hv ?_ hn Zm);refine uc (Q:=EP X U σ Q) ?_ he M9;rw[he];show wpAny _ _ (spliced ((false,eval (.Call (.Name G p') [a] [] q2) X.env)::backTo q1 (starEach [] X.env))) _ _ s;refine Calls.spliced_cons ?_;refine o5 (Ih I q0 zz q4 ?_ qv q6);refine o9 (ym (ha q2 U s σ H (λvs H1=>∃Z v,vs=[v]/\Rep X.K Z H1 (.tup xs) v/\Le ι H Z H1/\jr nm X.K Z H1 M') I ⟨ι,ρ,M,[.tup xs],M',S,R,e1,λZ H1 vs le S1 r=>?_⟩) λus s1 z=>?_) q3 q5
 .obtain⟨v,ev,rv⟩:=V5 r rfl
  exact⟨Z,v,ev,rv,le,S1⟩
 obtain⟨vs,H1,I1,r1,Z,v,rfl,rx,Xu,S1⟩:=z;obtain⟨u,rfl,ru⟩:=Z3 r1;cases rx with
 |@tup p _ ws hp rl =>
  cases ru;obtain⟨is,q7,pl,_⟩:=I1.tuple (Ei.of hp);have nl:=STb.Py (Wc ns) (λk hk=>(Rp k ns).mp hk);refine STb.ac7 hr.hd (show s1.heap.IsTuple p is.toArray from pl) (by simpa using Yl rl q7 e3) (B:=ns) (λk hk=>hk) hl λh' tk n' keep hS Uv=>?_
  refine(?_:wpAny _ _ (spliced []) _ _ _);refine Calls.spliced_nil ?_;obtain⟨o,es,ep,t,g1,g2,g3,g4⟩:=hS.get;obtain⟨ys,o',qk,zk,t',SN,qq,qv,_⟩:=hS;have eo:o'=o:=jb (SN.get.symm.trans g1);subst eo;have ed:qk=es:=by have:=SN.dat.symm.trans g3;injection this
  subst ed;have sz:qk.size=(MW.Bc ns).length:=by
   rw[SN.size];refine Nat.le_antisymm ?_ ?_
   .have:=STb.Py SN.nod (b:=MW.Bc ns) λk hk=>(Rp k ns).mpr ((qq k).mpr hk)
    rwa [bx] at this
   .have:=STb.Py (Wc ns) (b:=ys.map (·.1)) λk hk=>(qq k).mp ((Rp k ns).mp hk)
    rwa [bx] at this
  refine call_len_set (s:={ s1 with heap:=h',toks:=tk }) g1 g2 g3 g4 (by lia) ?_;rw[sz];exact⟨.int _,H1,I1.kept keep,⟨_,rfl⟩,q Z H1 _ Xu S1 (.int _)⟩
end Sm
namespace Ck
open PySem L2 Sm
open MW (Ex Dl OEx Ld yt jw Lv Tg Res dg MO Kl Cp Op2 Blt Bm Kx Src)
structure Tab where
 fns:List (Option (Str×Nat))
 al3:List (Str×Int)
noncomputable def J7:List Str:=["len", "tuple", "list", "max", "min", "isinstance", "range", "enumerate", "set", "zip", "all", "bool"]
structure ah5(T:Tab)(nm:Nm)(W:Kl)(k:Nat)(P:Program)(w:World)(K:Fg)(mg:Zs)(base:Heap):Prop where
 fn:∀f x n,T.fns[f]?=some (some (x,n))->∃fa fd ps,Jd P w K mg base CX0 k fa fd ps (spF nm W K n f)/\mg x=some (.ref fa)/\PySem.W.keepIn K (.ref fa)=true/\Binds K fd ps []
 cs:∀x i,(x,i)∈T.al3->∃t,mg x=some (.int i t)
 bt:∀x∈J7,mg x=none
structure Ctx where
 N:List Str
 sc:List (Str×NameKind)
 fn:Bool
structure By(T:Tab)(nm:Nm)(W:Kl)(k:Nat)(c:Ctx)(X:Cx):Prop where
 N:X.N=c.N
 nd:c.N.Nodup
 sc:X.env.scope.names=c.sc
 kd:X.env.scope.kind=.function
 calm:X.calm=true
 room:yh (k+16) X.A
 fnl:c.fn=true->(∀n,X.fn n=true)/\PassesOwn (model X.prog X.w) X.A X.env X.xe
 tab:ah5 T nm W k X.prog X.w X.K X.mg X.base
noncomputable def Rq(n:Str):Bool:=!(n==("__debug__" : Str))&&(!(n==("__classdict__" : Str))&&!(n==("__name__" : Str)))
noncomputable def aeh(c:Ctx)(n:Str):Bool:=match c.sc.lookup n with|some .local=>true|some .cell=>true|some .free=>true|_=>false
noncomputable def arl(c:Ctx)(n:Str):Bool:=match c.sc.lookup n with|some .local=>true|some .cell=>c.fn|_=>false
def Uo(c:Ctx)(n:Str):Bool:=Rq n&&(match c.sc.lookup n with|some .globalImplicit=>true|_=>false)
noncomputable def acn(c:Ctx)(i:Nat)(n:Str):Bool:=match c.N[i]? with|some m=>m==n|none=>false
def wz:List Expr->Bool
 |[]=>true|e::r=>noStar e&&wz r
noncomputable def Z8:Expr->Bool
 |.Name ..=>true|.Attribute ..=>true|.Subscript ..=>true|.Call (.Attribute ..) ..=>true|_=>false
def vq(h:Rq n=true):(n==("__debug__" : Str))=false/\(n==("__classdict__" : Str))=false/\n≠"__name__" := by simp only[Rq,ao,Bool.not_eq_true'] at h;exact⟨h.1,h.2.1,λz=>by have:=h.2.2;rw[z] at this;simp at this⟩
set_option tactic.hygienic true in
def arn(h:By T nm W k c X)(Z:aeh c n=true):Vis X.env.scope n:=by unfold Vis;rw[h.sc];unfold aeh at Z;split at Z<;>rename_i e<;>first|exact .inl e|exact .inr (.inl e)|exact .inr (.inr e)|cases Z
set_option tactic.hygienic true in
def aro(h:By T nm W k c X)(Z:arl c n=true):L2.Loc X.env.scope n/\(X.fn n=true\/X.env.scope.names.lookup n=some .local):=by
 unfold L2.Loc;rw[h.sc];unfold arl at Z;split at Z
 .rename_i e;exact⟨.inl e,.inr e⟩
 .rename_i e;exact⟨.inr e,.inl ((h.fnl Z).1 n)⟩
 .cases Z
set_option tactic.hygienic true in
def Ky(h:By T nm W k c X)(Z:Uo c n=true):Gl X n/\Rq n=true:=by
 unfold Uo at Z;rw[ao] at Z;refine⟨?_,Z.1⟩;have Z:=Z.2;unfold Gl Env.kindOf;rw[h.sc];split at Z
 .rename_i e;exact e
 .cases Z
set_option tactic.hygienic true in
def slot_of(h:By T nm W k c X)(Z:acn c i n=true):X.N[i]?=some n:=by
 rw[h.N];unfold acn at Z;split at Z
 .rename_i m e;rw[e,eq_of_beq Z]
 .cases Z
theorem Rr{Z:Env}:∀{G:Ya},wz G=true->starEach G Z=G.map λe=>(false,eval e Z)
 |[],_=>rfl
 |e::r,h=>by
  simp only[wz,ao] at h;rw[qu h.1,Rr h.2];rfl
def yj(h:wz es=true):(backTo pos (starEach es env)).any (·.1)=false:=by rw[Rr h];simp[backTo]
def Z9(h:wz es=true):(backTo pos (starEach es env)).all (λx=>!x.1)=true:=by rw[Rr h];simp[backTo]
set_option tactic.hygienic true in
def Ij(h:Z8 o=true):attributeBase o n env (eval o env)=eval o env:=by
 cases o<;>try first|rfl|(cases h;done)
 rename_i f Y Z p;cases f<;>first|rfl|(cases h)
noncomputable def Ba{Z:Type}(o:Option Z)(f:Z->Bool):Bool:=match o with|some x=>f x|none=>false
def jf(h:Ba o f=true):∃x,o=some x/\f x=true:=by
 cases o with
 |none=>cases h|some x=>exact⟨x,rfl,h⟩
noncomputable def Rt{α:Type}(l:List α):Option α:=match l with|[x]=>some x|_=>none
def zj(h:Rt l=some x):l=[x]:=by
 cases l with
 |nil=>cases h
 |cons y r=>cases r with
  |nil=>cases h;rfl|cons _ _=>cases h
def Up{Z:Type}{P:Z->Prop}{o:Option {x // P x}}{q:Z}(h:o.map Subtype.val=some q):P q:=by
 cases o with
 |none=>cases h|some x=>cases h;exact x.2
noncomputable def Kz(a:Expr):Option Str:=Option.map Subtype.val (α:={q:Str // ∃p,a=.Name q p}) (match a with|.Name n p=>some ⟨n,p,rfl⟩|_=>none)
noncomputable def ah6(a:Expr):Option Const:=Option.map Subtype.val (α:={q:Const // ∃k p,a=.Constant q k p}) (match a with|.Constant n k p=>some ⟨n,k,p,rfl⟩|_=>none)
noncomputable def axc(a:Expr):Option (Expr×Operator×Expr):=Option.map Subtype.val (α:={q:Expr×Operator×Expr // ∃p,a=.BinOp q.1 q.2.1 q.2.2 p}) (match a with|.BinOp l o r p=>some ⟨(l,o,r),p,rfl⟩|_=>none)
noncomputable def dUn(a:Expr):Option (UnaryOp×Expr):=Option.map Subtype.val (α:={q:UnaryOp×Expr // ∃p,a=.UnaryOp q.1 q.2 p}) (match a with|.UnaryOp o l p=>some ⟨(o,l),p,rfl⟩|_=>none)
noncomputable def arp(a:Expr):Option (Expr×List CmpOp×List Expr):=Option.map Subtype.val (α:={q:Expr×List CmpOp×List Expr // ∃p,a=.Compare q.1 q.2.1 q.2.2 p}) (match a with|.Compare l o r p=>some ⟨(l,o,r),p,rfl⟩|_=>none)
noncomputable def ano(a:Expr):Option (BoolOp×List Expr×Pos):=Option.map Subtype.val (α:={q:BoolOp×List Expr×Pos // a=.BoolOp q.1 q.2.1 q.2.2}) (match a with|.BoolOp o l p=>some ⟨(o,l,p),rfl⟩|_=>none)
noncomputable def aei(a:Expr):Option (List Expr):=Option.map Subtype.val (α:={q:List Expr // ∃k p,a=.Tuple q k p}) (match a with|.Tuple l k p=>some ⟨l,k,p,rfl⟩|_=>none)
noncomputable def arq(a:Expr):Option (List Expr):=Option.map Subtype.val (α:={q:List Expr // ∃p,a=.List q p}) (match a with|.List l p=>some ⟨l,p,rfl⟩|_=>none)
noncomputable def axd(a:Expr):Option (List (Option Expr)×List Expr):=Option.map Subtype.val (α:={q:List (Option Expr)×List Expr // ∃p,a=.Dict q.1 q.2 p}) (match a with|.Dict k v p=>some ⟨(k,v),p,rfl⟩|_=>none)
noncomputable def ah7(a:Expr):Option (Expr×Expr):=Option.map Subtype.val (α:={q:Expr×Expr // ∃p,a=.Subscript q.1 q.2 p}) (match a with|.Subscript l r p=>some ⟨(l,r),p,rfl⟩|_=>none)
noncomputable def dSl(a:Expr):Option (Option Expr×Option Expr×Option Expr):=Option.map Subtype.val (α:={q:Option Expr×Option Expr×Option Expr // ∃p,a=.Slice q.1 q.2.1 q.2.2 p}) (match a with|.Slice l r s p=>some ⟨(l,r,s),p,rfl⟩|_=>none)
noncomputable def ah8(a:Expr):Option (Expr×List Expr×List Keyword×Pos):=Option.map Subtype.val (α:={q:Expr×List Expr×List Keyword×Pos // a=.Call q.1 q.2.1 q.2.2.1 q.2.2.2}) (match a with|.Call f l k p=>some ⟨(f,l,k,p),rfl⟩|_=>none)
noncomputable def axe(a:Expr):Option (Expr×Str×Pos):=Option.map Subtype.val (α:={q:Expr×Str×Pos // a=.Attribute q.1 q.2.1 q.2.2}) (match a with|.Attribute l n p=>some ⟨(l,n,p),rfl⟩|_=>none)
noncomputable def Ym(a:Expr):Option (Expr×List Comprehension×Scope):=Option.map Subtype.val (α:={q:Expr×List Comprehension×Scope // ∃p,a=.ListComp q.1 q.2.1 q.2.2 p}) (match a with|.ListComp e g s p=>some ⟨(e,g,s),p,rfl⟩|_=>none)
def Dj(h:Kz a=some n):∃p,a=.Name n p:=(Up h :)
def Pk(h:ah6 a=some n):∃k p,a=.Constant n k p:=(Up h :)
def al4(h:axc a=some (l,o,r)):∃p,a=.BinOp l o r p:=(Up h :)
def aaa(h:dUn a=some (o,l)):∃p,a=.UnaryOp o l p:=(Up h :)
def aco(h:arp a=some (l,o,r)):∃p,a=.Compare l o r p:=(Up h :)
def ah9(h:ano a=some (o,r,p)):a=.BoolOp o r p:=(Up h :)
def Ms(h:aei a=some l):∃k p,a=.Tuple l k p:=(Up h :)
def acp(h:arq a=some l):∃p,a=.List l p:=(Up h :)
def al5(h:axd a=some (k,l)):∃p,a=.Dict k l p:=(Up h :)
def Wd(h:ah7 a=some (l,r)):∃p,a=.Subscript l r p:=(Up h :)
def ars(h:dSl a=some (l,r,s)):∃p,a=.Slice l r s p:=(Up h :)
def Yn(h:ah8 a=some (f,l,k,p)):a=.Call f l k p:=(Up h :)
def al6(h:axe a=some (l,n,p)):a=.Attribute l n p:=(Up h :)
def Ru(h:Ym a=some (e,g,s)):∃p,a=.ListComp e g s p:=(Up h :)
def dCN(a:Expr):Option (Str×List Expr):=(ah8 a).bind λq=>if q.2.2.1.isEmpty then(Kz q.1).map λn=>(n,q.2.1) else none
set_option tactic.hygienic true in
def J8(h:dCN a=some (n,l)):∃p p',a=.Call (.Name n p) l [] p':=by
 obtain⟨⟨f,L,k,p⟩,J,Z⟩:=j8.mp h;split at Z
 .rename_i Y
  obtain⟨C,G,U⟩:=bw.mp Z;obtain⟨p',e⟩:=Dj G;have e:f=_:=e;have Y:k=[]:=km.mp Y;cases U;exact⟨p',p,by rw[Yn J,e,Y]⟩
 .cases Z
def dCA(a:Expr):Option (Expr×Str×Pos×List Expr×Pos):=(ah8 a).bind λq=>if q.2.2.1.isEmpty then(axe q.1).map λn=>(n.1,n.2.1,n.2.2,q.2.1,q.2.2.2) else none
set_option tactic.hygienic true in
def aia(h:dCA a=some (o,n,L,l,p)):a=.Call (.Attribute o n L) l [] p:=by
 obtain⟨⟨f,l',k,u⟩,J,Y⟩:=j8.mp h;split at Y
 .rename_i Z
  obtain⟨⟨S,R,U⟩,G,C⟩:=bw.mp Y;have e:f=_:=al6 G;have Z:k=[]:=km.mp Z;cases C;rw[Yn J,e,Z]
 .cases Y
noncomputable def axf(l:Ya):List Str:=l.filterMap Kz
noncomputable def Bw(e:Expr):List Str:=match aei e with|some l=>axf l|none=>axf [e]
noncomputable def hid(i:Nat):Str:=⟨#[0,i]⟩
def aej(Z:Yf)(p:Str×Nat):Str:=if Z.contains p.1=true then hid p.2 else p.1
noncomputable def O3(N Z:Yf):List Str:=N.zipIdx.map (aej Z)++Z
noncomputable def al7(c:Ctx)(Z:X0):List (Str×NameKind):=Z.map λy=>if(y.2==NameKind.free&&c.sc.lookup y.1==some .cell) then(y.1,NameKind.cell) else(y.1,y.2)
def Yo(c:Ctx)(G:Scope)(Z:Yf):Ctx:=⟨O3 c.N Z,al7 c G.names,false⟩
def art(c:Ctx)(Z:Scope)(G:Yf):Bool :=
 decide (Z.kind=.function)&&(Z.names.all (λy=>!(y.2==NameKind.cell))&&(Z.names.all (λy=>Z.names.lookup y.1==some y.2) &&
 (Z.names.all (λy=>!(y.2==NameKind.free)||(c.sc.lookup y.1==some .cell||c.sc.lookup y.1==some .free))&&(decide ((O3 c.N G).Nodup) &&
 c.N.zipIdx.all (λp=>!(aeh (Yo c Z G) (aej G p))||(aej G p==p.1&&Z.names.lookup (aej G p)==some .free))))))
noncomputable def axg:Op2->Operator
 |.add=>.Add|.sub=>.Sub|.mul=>.Mult|.fdiv=>.FloorDiv|.mod=>.Mod|.pow=>.Pow
noncomputable def al8:Cp->Option CmpOp
 |.eq=>some .Eq|.ne=>some .NotEq|.lt=>some .Lt|.le=>some .LtE|.gt=>some .Gt|.ge=>some .GtE|.inn=>some .In|.Pz=>some .NotIn
noncomputable def aru:Blt->Option Str
 |.len=>some "len"|.tuple=>some "tuple"|.list=>some "list"|.max=>some "max"|.min=>some "min"
 |.all=>some "all"|_=>none
noncomputable def bmN:Bm->Option Str
 |.append=>some "append"|.extend=>some "extend"|.setdefault=>some "setdefault"
def arv(T:Tab)(c:Ctx)(d:MW.D)(a:Expr):Bool :=
 match d with
 |.int i=>Ba (ah6 a) (λk=>decide (k=.int i))||Ba (Kz a) λn=>Uo c n&&T.al3.contains (n,i)
 |.bl i=>Ba (ah6 a) λk=>decide (k=.bool i)
 |.str i=>Ba (ah6 a) λk=>decide (k=.str i)
 |.non=>Ba (ah6 a) λk=>decide (k=.none)
 |_=>false
def tg1(c:Ctx)(Z i:Nat)(e:Expr):Bool:=Ba (Kz e) λn=>acn c i n&&(arl c n&&decide (Z<=i))
def aek(c:Ctx)(Z:Nat):List Nat->List Expr->Bool
 |[],[]=>true|i::is,e::ts=>tg1 c Z i e&&aek c Z is ts|_,_=>false
def tgB(c:Ctx)(Z:Nat)(t:Tg)(e:Expr):Bool :=
 match t with
 |.name i=>tg1 c Z i e|.names is=>Ba (aei e) λG=>aek c Z is G
noncomputable def Mt:Expr->Bool|.IfExp ..=>false|_=>true
noncomputable def fnB(l:List (Option (Str×Nat)))(f:Nat)(n:Str)(k:Nat):Bool:=decide (l[f]?=some (some (n,k)))
def acq(c:Ctx)(k:Nat)(t:Tg)(g:Comprehension)(Z:Scope):Bool :=
 art c Z (Bw g.target)&&((k==(Bw g.target).length)&&(tgB (Yo c Z (Bw g.target)) c.N.length t g.target&&(Fl g.iter&&decide (g.is_async=0))))
def aib(o:BoolOp)(a:Expr)(x y:Expr->Bool):Bool :=
 Ba (ano a) λq=>decide (q.1=o)&&(match q.2.1 with
  |l::r::rest=>(Mt l&&x l)&&(match rest with|[]=>Mt r&&y r|_::_=>y (.BoolOp o (r::rest) q.2.2))
  | _=>false)
def axh(c:Ctx)(G:Str)(a:Expr)(f:Expr->Bool):Bool:=Ba (dCN a) λq=>match q.2 with
 |[l,t]=>Ba (Kz t) λZ=>(decide (q.1 = "isinstance")&&decide (Z=G))&&((Uo c q.1&&Uo c Z)&&(noStar l&&f l))
 |_=>false
def al9(h:axh c ty a f=true):∃l p R U,a=.Call (.Name "isinstance" p) [l,.Name ty R] [] U/\Uo c "isinstance" = true/\Uo c ty=true/\noStar l=true/\f l=true:=by
 obtain⟨⟨n,ls⟩,G,h0⟩:=jf h;clear h;obtain⟨p,p',rfl⟩:=J8 G
 match ls,G,h0 with
 |[l,t],G,h =>
  replace h:=jf (f:=λZ=>(decide (n = "isinstance")&&decide (Z=ty))&&((Uo c n&&Uo c Z)&&(noStar l&&f l))) h;obtain⟨Z,h2,h⟩:=h;obtain⟨U,rfl⟩:=Dj h2;simp only[ao,dq] at h;obtain⟨⟨rfl,rfl⟩,⟨h3,h4⟩,h5,h6⟩:=h;exact⟨l,p,U,p',rfl,h3,h4,h5,h6⟩
 |[],_,h=>cases h|[_],_,h=>cases h|_::_::_::_,_,h=>cases h
def arw(c:Ctx)(Z G:Str)(a:Expr)(f:Expr->Bool):Bool:=Ba (dCN a) λq=>Ba (Rt q.2) λr=>Ba (dCN r) λu=>Ba (Rt u.2) λl=>((decide (q.1=Z)&&decide (u.1=G))&&(Uo c q.1&&Uo c u.1))&&(noStar l&&f l)
def ama(h:arw c ty G a f=true):∃l p U Z p3,a=.Call (.Name ty p) [.Call (.Name G U) [l] [] Z] [] p3/\Uo c ty=true/\Uo c G=true/\noStar l=true/\f l=true:=by replace h:=jf h;obtain⟨⟨n,ls⟩,h1,h⟩:=h;obtain⟨p,p',rfl⟩:=J8 h1;replace h:=jf h;obtain⟨r,h2,h⟩:=h;cases zj h2;replace h:=jf h;obtain⟨⟨m,ms⟩,R,h⟩:=h;obtain⟨Z,q2,rfl⟩:=J8 R;replace h:=jf h;obtain⟨l,h4,h⟩:=h;cases zj h4;simp only[ao,dq] at h;obtain⟨⟨⟨rfl,rfl⟩,h5,h6⟩,h7,h8⟩:=h;exact⟨l,p,Z,q2,p',rfl,h5,h6,h7,h8⟩
mutual
def xq(T:Tab):Ex->Ctx->Expr->Bool
 |.var i,c,a=>Ba (Kz a) λn=>acn c i n&&(aeh c n&&Rq n)
 |.tru _,_,_=>false|.cst d,c,a=>arv T c d a|.bin op x y,c,a=>Ba (axc a) λq=>decide (q.2.1=axg op)&&(xq T x c q.1&&xq T y c q.2.2)
 |.neg x,c,a=>Ba (dUn a) λq=>decide (q.1=.USub)&&xq T x c q.2
 |.cmp op x y,c,a=>Ba (arp a) λq=>Ba (Rt q.2.1) λo=>Ba (Rt q.2.2) λr=>decide (al8 op=some o)&&(Fl r&&(xq T x c q.1&&xq T y c r))
 |.chain o1 o2 x y z,c,a=>Ba (arp a) λq=>match q.2.1,q.2.2 with
  |[p1,p2],[r,s]=>(decide (al8 o1=some p1)&&decide (al8 o2=some p2))&&(Fl s&&(xq T x c q.1&&(xq T y c r&&xq T z c s)))|_,_=>false
 |.and x y,c,a=>aib .And a (xq T x c) (xq T y c)|.or x y,c,a=>aib .Or a (xq T x c) (xq T y c)|.ntr x,c,a=>Ba (dUn a) λq=>decide (q.1=.Not)&&((Kz q.2).isSome&&xq T x c q.2)
 |.not x,c,a=>Ba (dUn a) λq=>decide (q.1=.Not)&&(Mt q.2&&xq T x c q.2)
 |.tup es,c,a=>Ba (aei a) λl=>decide (Dl.len es<=1000)&&J9 T es c l
 |.lst es,c,a=>Ba (arq a) λl=>decide (Dl.len es<=1000)&&J9 T es c l
 |.Df es,c,a=>Ba (arq a) λl=>decide (Dl.len es<=1000)&&J9 T es c l
 |.ac8,_,a=>Ba (axd a) λq=>q.1.isEmpty&&q.2.isEmpty
 |.ix x y,c,a=>Ba (ah7 a) λq=>V4 q.2&&(xq T x c q.1&&xq T y c q.2)
 |.cut x lo hi,c,a=>Ba (ah7 a) λq=>Ba (dSl q.2) λs=>s.2.2.isNone&&(xq T x c q.1&&(arx T lo c s.1&&arx T hi c s.2.1))
 |.call f es,c,a=>Ba (dCN a) λq=>(fnB T.fns f q.1 (Dl.len es)&&(Uo c q.1&&!q.2.isEmpty))&&J9 T es c q.2
 |.blt .Gj (.cons x .nil),c,a=>arw c "len" "set" a (xq T x c)|.blt .isBool (.cons x .nil),c,a=>axh c "bool" a (xq T x c)|.blt b es,c,a=>Ba (dCN a) λq=>(decide (aru b=some q.1)&&(Uo c q.1&&!q.2.isEmpty))&&J9 T es c q.2
 |.bm m o es,c,a=>Ba (dCA a) λq=>((decide (bmN m=some q.2.1)&&Z8 q.1)&&(decide (q.2.2.2.1.length<29)&&((q.2.2.1.endLine==q.2.2.2.2.line)&&!q.2.2.2.1.isEmpty)))&&(xq T o c q.1&&J9 T es c q.2.2.2.1)
 |.comp v k t it e,c,a=>Ba (Ym a) λq=>Ba (Rt q.2.1) λg=>(acq c k t g q.2.2&&g.ifs.isEmpty)&&(amb T it c g.target g.iter&&xq T e (Yo c q.2.2 (Bw g.target)) q.1)
 |.ud v k t it i e,c,a=>Ba (Ym a) λq=>Ba (Rt q.2.1) λg=>Ba (Rt g.ifs) λd=>(acq c k t g q.2.2&&Mt d)&&(amb T it c g.target g.iter&&(xq T i (Yo c q.2.2 (Bw g.target)) d&&xq T e (Yo c q.2.2 (Bw g.target)) q.1))
def J9(T:Tab):Dl->Ctx->List Expr->Bool
 |.nil,_,a=>a.isEmpty|.cons e es,c,a=>match a with|l::ls=>noStar l&&(xq T e c l&&J9 T es c ls)|_=>false
def arx(T:Tab):OEx->Ctx->Option Expr->Bool
 |.none,_,a=>a.isNone|.some e,c,a=>Ba a (xq T e c)
def amb(T:Tab):Ld->Ctx->Expr->Expr->Bool
 |.val e,c,_,a=>xq T e c a|.Kh e,c,_,a=>Ba (dCN a) λq=>Ba (Rt q.2) λl=>(decide (q.1 = "range")&&Uo c q.1)&&(noStar l&&xq T e c l)
 |.enm e,c,tg,a=>Ba (dCN a) λq=>Ba (Rt q.2) λl=>((aei tg).isSome&&(decide (q.1 = "enumerate")&&Uo c q.1))&&(noStar l&&xq T e c l)
 |.zip es,c,tg,a=>Ba (dCN a) λq=>((aei tg).isSome&&(decide (q.1 = "zip")&&(Uo c q.1&&!q.2.isEmpty)))&&J9 T es c q.2
 |.vals e,c,_,a=>Ba (dCA a) λq=>((decide (q.2.1 = "values")&&Z8 q.1)&&((q.2.2.1.endLine==q.2.2.2.2.line)&&q.2.2.2.1.isEmpty))&&xq T e c q.1
end
def K1(h:By T nm W k c X)(G:Scope):(relabel G X.env).names=al7 c G.names:=by
 unfold relabel al7;refine List.map_congr_left λy _=>?_
 obtain⟨n,Z⟩:=y;show(if(Z==NameKind.free&&X.env.scope.kind==.function&&X.env.kindOf n==some .cell)=true then _ else _)=_;have e:(Z==NameKind.free&&X.env.scope.kind==.function&&X.env.kindOf n==some .cell)=(Z==NameKind.free&&c.sc.lookup n==some .cell):=by unfold Env.kindOf;rw[h.kd,h.sc];simp
 rw[e]
def arz(h:By T nm W k c X)(hb:art c sc G=true):Eb X (O3 c.N G) sc/\∀C fp s H,By T nm W k (Yo c sc G) (Je X (O3 c.N G) sc C fp s H):=by
 simp only[art,ao,dq,nj] at hb;obtain⟨h1,h2,h3,h4,h5,h6⟩:=hb;have uniq:∀x kd,(x,kd)∈sc.names->sc.names.lookup x=some kd:=λx kd m=>by have:=h3 (x,kd) m;simpa using this
 refine⟨⟨h1,λy m=>by have:=h2 y m;simpa using this,λy m e=>by rw[uniq y.1 y.2 m,e],λy m e=>?_,uniq,?_,λi x R Z hv=>?_⟩,λC fp s H=>⟨rfl,h5,K1 h sc,h1,h.calm,h.room,(λz=>by cases z),h.tab⟩⟩
 .have:=h4 y m
  rw[e] at this;unfold Env.kindOf;rw[h.sc];simpa using this
 .rw[h.N];simp[O3]
 .rw[h.N] at R
  have hl:i<(c.N.zipIdx.map (aej G)).length:=by simpa using R
  unfold O3 at Z;rw[d9 hl,gw,tu] at Z;obtain⟨n,U⟩:∃n,c.N[i]?=some n:=⟨c.N[i],by simp[R]⟩;rw[U] at Z;have Z:aej G (n,i)=x:=by simpa using Z
  have m:(n,i)∈c.N.zipIdx:=by rw[j5];exact⟨i,by rw[tu,U];simp⟩
  have q:=h6 (n,i) m;rw[Z] at q;have v:aeh (Yo c sc G) x=true:=by unfold Vis at hv;rw[K1 h] at hv;unfold aeh;show(match(al7 c sc.names).lookup x with|some .local=>true|some .cell=>true|some .free=>true|_=>false)=true;rcases hv with e|e|e<;>rw[e]
  rw[v] at q;simp only[vo,Bool.false_or,ao] at q;rw[h.N,U];have e1:x=n:=eq_of_beq q.1;exact⟨by rw[e1],by have:=q.2;simpa using this⟩
def axi(h:o=axg op):Ah X (binaryOp o) (rOp nm X.K (MW.yu op)):=by
 subst h;cases op with
 |add=>exact awg|sub=>exact awc|mul=>exact awf|fdiv=>exact aqs|mod=>exact awd|pow=>exact awe
def aic(Z:yh 8 X.A)(h:al8 op=some o):Ah X (compareOp o) (Rz nm X.K op):=by
 have G:yh 6 X.A:=Z.mono (by decide);cases op with
 |eq=>cases h;exact a1g G|ne=>cases h;exact a1h G|lt=>cases h;exact a06|le=>cases h;exact a07|gt=>cases h;exact a08|ge=>cases h;exact a09|inn=>cases h;exact a1i Z|Pz=>cases h;exact alf Z
def aab(h:By T nm W k c X)(hb:tg1 c lo i e=true):∃n p,e=.Name n p/\X.N[i]?=some n/\L2.Loc X.env.scope n/\(X.fn n=true\/X.env.scope.names.lookup n=some .local)/\lo<=i:=by obtain⟨n,R,Z⟩:=jf hb;obtain⟨p,rfl⟩:=Dj R;simp only[ao,dq] at Z;obtain⟨G,U⟩:=aro h Z.2.1;exact⟨n,p,rfl,slot_of h Z.1,G,U,Z.2.2⟩
theorem aid{T:Tab}{nm:Nm}{W:Kl}{k:Nat}{c:Ctx}{X:Cx}(h:By T nm W k c X){G:Nat}:∀{is:Y3}{Z:Ya},aek c G is Z=true->Im X Z is/\∀i∈is,G<=i
 |[],[],_=>⟨.nil,by simp⟩|[],_::_,e=>by cases e|_::_,[],e=>by cases e
 |i::is,a::Z,e=>by
  unfold aek at e;rw[ao] at e;obtain⟨n,p,rfl,R,e2,e3,e4⟩:=aab h e.1;obtain⟨U,g2⟩:=aid h e.2;refine⟨.cons R e2 e3 U,λj hj=>?_⟩;rcases cg.mp hj with z|z
  .rw[z];exact e4
  .exact g2 j z
def acr(h:By T nm W k c X)(G:tgB c lo t e=true):PG X e (tGt nm X.K t)/\∀i∈yf t,lo<=i:=by
 have Z:X.N.Nodup:=by rw[h.N];exact h.nd
 cases t with
 |name i =>
  obtain⟨n,p,rfl,R,e2,e3,e4⟩:=aab h G;exact⟨aqz Z R e2 e3,λi hi=>by rw[j9.mp hi];exact e4⟩
 |names is =>
  obtain⟨ts,h1,h2⟩:=jf G;obtain⟨k0,p,rfl⟩:=Ms h1;obtain⟨U,g2⟩:=aid h h2;exact⟨ak8 h.calm Z U,g2⟩
structure Got(nm:Nm)(W:Kl)(X:Cx)(a:Expr)(e:Ex):Prop where
 v:PE X a (tE nm W X.K e)
 q:Mt a=true->PT X a (tQ nm W X.K e)
 w:∀op ls p,a=.BoolOp op ls p->PW X a (tQ nm W X.K e)
noncomputable def axj:Expr->Bool
 |.BoolOp ..=>false|.UnaryOp .Not _ _=>false|.IfExp ..=>false|.Compare ..=>false|_=>true
set_option tactic.hygienic true in
def vm(h:PE X a (tE nm W X.K e))(Y:axj a=true):Got nm W X a e:=by
 refine⟨h,λU=>awi h λZ=>?_,λG J p z=>by subst z;cases Y⟩;cases a<;>first|rfl|(cases Y)|skip
 rename_i G x p;cases G<;>first|rfl|cases Y
def ar0(h:By T nm W k c X)(G:arv T c d a=true):PE X a (tE nm W X.K (.cst d))/\axj a=true:=by
 cases d with
 |int i =>
  simp only[arv,Bool.or_eq_true] at G;rcases G with G|G
  .obtain⟨k,U,Z⟩:=jf G
   obtain⟨j,p,rfl⟩:=Pk U;rw[ju Z];exact⟨av8,rfl⟩
  .obtain⟨n,U,Z⟩:=jf G
   obtain⟨p,rfl⟩:=Dj U;rw[ao] at Z;obtain⟨R,g2⟩:=Ky h Z.1;obtain⟨t,ht⟩:=h.tab.cs _ _ (List.contains_iff_mem.mp Z.2);exact⟨aqr R ht (vq g2).1,rfl⟩
 |bl i =>
  obtain⟨k,U,Z⟩:=jf G;obtain⟨j,p,rfl⟩:=Pk U;rw[ju Z];exact⟨a04,rfl⟩
 |str i =>
  obtain⟨k,U,Z⟩:=jf G;obtain⟨j,p,rfl⟩:=Pk U;rw[ju Z];exact⟨awa,rfl⟩
 |non =>
  obtain⟨k,U,Z⟩:=jf G;obtain⟨j,p,rfl⟩:=Pk U;rw[ju Z];exact⟨av9,rfl⟩
 |_=>cases G
section
variable{T:Tab}{nm:Nm}{W:Kl}{k:Nat}
def By.r8(h:By T nm W k c X):yh 8 X.A:=h.room.mono (by lia)
theorem By.mg(h:By T nm W k c X)(m:n∈J7):X.mg n=none:=h.tab.bt n m
theorem Oq{c:Ctx}{U:Nat}:∀{is:Y3}{Z:Ya},aek c U is Z=true->∀i∈is,U<=i
 |[],_,_=>by simp|_::_,[],e=>by cases e
 |i::is,a::Z,e=>by
  unfold aek at e;rw[ao] at e;intro j R;rcases cg.mp R with z|z
  .obtain⟨n,h1,G⟩:=jf e.1
   simp only[ao,dq] at G;rw[z];exact G.2.2
  .exact Oq e.2 j z
def aac(h:tgB c lo t e=true):∀i∈yf t,lo<=i:=by
 cases t with
 |name j =>
  obtain⟨n,U,Z⟩:=jf h;simp only[ao,dq] at Z;intro i G;rw[j9.mp G];exact Z.2.2
 |names is =>
  obtain⟨R,U,Z⟩:=jf h;exact Oq Z
def aie:(O3 N Z).length-N.length=Z.length:=by simp[O3]
def Mv(G:By T nm W k c X)(h:acq c j t g sc=true) :
 Fl g.iter=true/\g.is_async=0/\Eb X (O3 c.N (Bw g.target)) sc/\(∀C Z s H,By T nm W k (Yo c sc (Bw g.target)) (Je X (O3 c.N (Bw g.target)) sc C Z s H)) /\
 (∀C Z s H,PG (Je X (O3 c.N (Bw g.target)) sc C Z s H) g.target (tGt nm X.K t))/\(O3 c.N (Bw g.target)).length-X.N.length=j/\∀i∈yf t,X.N.length<=i:=by
 simp only[acq,ao,dq] at h;obtain⟨h2,h3,R,h5,h6⟩:=h;obtain⟨B,U⟩:=arz G h2;exact⟨h5,h6,B,U,λC Z s H=>(acr (U C Z s H) R).1,by rw[G.N,aie];exact(eq_of_beq h3).symm,λi hi=>by rw[G.N];exact aac R i hi⟩
def acs(h:aib o a x y=true):(∃l r p,a=.BoolOp o [l,r] p/\Mt l=true/\x l=true/\Mt r=true/\y r=true) \/
 ∃l r s Z p,a=.BoolOp o (l::r::s::Z) p/\Mt l=true/\x l=true/\y (.BoolOp o (r::s::Z) p)=true:=by
 obtain⟨⟨o',U,p⟩,h1,G⟩:=jf h;cases ah9 h1;rw[ao] at G;obtain⟨R,G⟩:=G;cases ju R;cases U with
 |nil=>cases G
 |cons l U=>cases U with
  |nil=>cases G
  |cons r Z =>
   cases Z with
   |nil =>
    have G:((Mt l&&x l)&&(Mt r&&y r))=true:=G;simp only[ao] at G;exact .inl ⟨l,r,p,rfl,G.1.1,G.1.2,G.2.1,G.2.2⟩
   |cons s Z =>
    have G:((Mt l&&x l)&&y (.BoolOp o' (r::s::Z) p))=true:=G;simp only[ao] at G;exact .inr ⟨l,r,s,Z,p,rfl,G.1.1,G.1.2,G.2⟩
def ar3(hc:By T nm W k c X)(Z:aru b=some n)(hg:Uo c n=true)(U:PA X (l::ls) (Xr nm W X.K es))(e2:wz (l::ls)=true):PE X (.Call (.Name n p) (l::ls) [] p') (tE nm W X.K (.blt b es)):=by
 obtain⟨G,g2⟩:=Ky hc hg;obtain⟨d1,d2,R⟩:=vq g2;simp only[wz,ao] at e2;have st:=qu e2.1 ls X.env;have an:=yj (env:=X.env) (pos:=p') e2.2;have mg:n∈J7->X.mg n=none:=hc.mg;cases b with
 |len=>cases Z;exact ab7 (id := "len") awz G (mg (by decide+kernel)) (by decide+kernel) U R d1 st an|max=>cases Z;exact ab7 (id := "max") (aw2 hc.calm) G (mg (by decide+kernel)) (by decide+kernel) U R d1 st an|all=>cases Z;exact ab7 (id := "all") (axb hc.calm) G (mg (by decide+kernel)) (by decide+kernel) U R d1 st an|min=>cases Z;exact ab7 (id := "min") (aw4 hc.calm) G (mg (by decide+kernel)) (by decide+kernel) U R d1 st an|tuple=>cases Z;exact ahs (T := "tuple") alb G (mg (by decide+kernel)) (by decide+kernel) U R d1 st an|list=>cases Z;exact ahs (T := "list") aq7 G (mg (by decide+kernel)) (by decide+kernel) U R d1 st an|_=>cases Z
def We{Z:Type}{l:List Z}(h:(!l.isEmpty)=true):∃x r,l=x::r:=by
 cases l with
 |nil=>cases h|cons x r=>exact⟨x,r,rfl⟩
set_option tactic.hygienic true in
mutual
theorem jd:∀(e:Ex){c:Ctx}{X:Cx}{a:Expr},By T nm W k c X->xq T e c a=true->Got nm W X a e
 |.var i,c,X,a,hc,h=>by
  replace h:=jf h;obtain⟨n,Z,h⟩:=h;obtain⟨p,rfl⟩:=Dj Z;simp only[ao] at h;exact vm (av7 (slot_of hc h.1) (arn hc h.2.1) (vq h.2.2).1 (vq h.2.2).2.1) rfl
 |.tru e,c,X,a,hc,h=>by cases h
 |.cst d,c,X,a,hc,h=>by
  obtain⟨Z,U⟩:=ar0 hc h;exact vm Z U
 |.bin op x y,c,X,a,hc,h=>by
  replace h:=jf h;obtain⟨⟨l,o,r⟩,Z,h⟩:=h;obtain⟨p,rfl⟩:=al4 Z;simp only[ao,dq] at h;exact vm (awb (axi h.1) (jd x hc h.2.1).v (jd y hc h.2.2).v) rfl
 |.neg x,c,X,a,hc,h=>by
  replace h:=jf h;obtain⟨⟨o,l⟩,Z,h⟩:=h;obtain⟨p,rfl⟩:=aaa Z;simp only[ao,dq] at h;obtain⟨rfl,h⟩:=h;exact vm (awr (jd x hc h).v) rfl
 |.cmp op x y,c,X,a,hc,h=>by
  replace h:=jf h;obtain⟨⟨l,o,r⟩,Z,h⟩:=h;obtain⟨p,rfl⟩:=aco Z;replace h:=jf h;obtain⟨o1,U,h⟩:=h;replace h:=jf h;obtain⟨r1,R,h⟩:=h;cases zj U;cases zj R;simp only[ao,dq] at h;have g:=aic (nm:=nm) hc.r8 h.1;have m:=Ol h.2.1 o1;exact⟨awj g (jd x hc h.2.2.1).v (jd y hc h.2.2.2).v m,λ_=>awk g (jd x hc h.2.2.1).v (jd y hc h.2.2.2).v m,λ_ _ _ z=>by cases z⟩
 |.chain o1 o2 x y z,c,X,a,hc,h=>by
  replace h:=jf h;obtain⟨⟨l,o,r⟩,Z,h⟩:=h;obtain⟨p,rfl⟩:=aco Z;dsimp only at h;split at h
  .rename_i p1 p2 r s
   simp only[ao,dq] at h;have g1:=aic (nm:=nm) hc.r8 h.1.1;have g2:=aic (nm:=nm) hc.r8 h.1.2;have m:lastMarks [p1,p2] [r,s]=false:=Ol h.2.1 p2;exact⟨ak6 g1 g2 (jd x hc h.2.2.1).v (jd y hc h.2.2.2.1).v (jd z hc h.2.2.2.2).v m,λ_=>ak7 g1 g2 (jd x hc h.2.2.1).v (jd y hc h.2.2.2.1).v (jd z hc h.2.2.2.2).v m,λ_ _ _ z=>by cases z⟩
  .cases h
 |.and x y,c,X,a,hc,h=>by
  rcases acs h with⟨l,r,p,rfl,Z,U,R,h4⟩|⟨l,r,s,qq,p,rfl,Z,U,R⟩
  .have g1:=jd x hc U
   have g2:=jd y hc h4;have w:=anc (pos:=p) (rest:=[]) (g1.q Z) (akb (g2.q R));exact⟨anb g1.v (ank g2.v),λ_=>w.pt,λ_ _ _ _=>w⟩
  .have g1:=jd x hc U
   have g2:=jd y hc R;have w:=anc (g1.q Z) (g2.w _ _ _ rfl);exact⟨anb g1.v g2.v,λ_=>w.pt,λ_ _ _ _=>w⟩
 |.or x y,c,X,a,hc,h=>by
  rcases acs h with⟨l,r,p,rfl,Z,U,R,h4⟩|⟨l,r,s,qq,p,rfl,Z,U,R⟩
  .have g1:=jd x hc U
   have g2:=jd y hc h4;have w:=awn (pos:=p) (rest:=[]) (g1.q Z) (aps (g2.q R));exact⟨awl g1.v (ank g2.v),λ_=>w.pt,λ_ _ _ _=>w⟩
  .have g1:=jd x hc U
   have g2:=jd y hc R;have w:=awn (g1.q Z) (g2.w _ _ _ rfl);exact⟨awl g1.v g2.v,λ_=>w.pt,λ_ _ _ _=>w⟩
 |.not x,c,X,a,hc,h=>by
  replace h:=jf h;obtain⟨⟨o,l⟩,Z,h⟩:=h;obtain⟨p,rfl⟩:=aaa Z;simp only[ao,dq] at h;obtain⟨rfl,h⟩:=h;have g:=jd x hc h.2;exact⟨awm g.v,λ_=>awo (g.q h.1),λ_ _ _ z=>by cases z⟩
 |.ntr x,c,X,a,hc,h=>by
  replace h:=jf h;obtain⟨⟨o,l⟩,Z,h⟩:=h;obtain⟨p,rfl⟩:=aaa Z;simp only[ao,dq] at h;obtain⟨rfl,U,R⟩:=h;obtain⟨z,U⟩:=ji.mp U;obtain⟨p',e⟩:=Dj U;have e:l=_:=e;subst e;have g:=(jd x hc R).v;exact⟨arj g,λ_=>ark g λ_=>rfl,λ_ _ _ z=>by cases z⟩
 |.tup es,c,X,a,hc,h=>by
  replace h:=jf h;obtain⟨l,Z,h⟩:=h;obtain⟨k0,p,rfl⟩:=Ms Z;simp only[ao,dq] at h;exact vm (awp (Dk es hc h.2).1 h.1) rfl
 |.lst es,c,X,a,hc,h=>by
  replace h:=jf h;obtain⟨l,Z,h⟩:=h;obtain⟨p,rfl⟩:=acp Z;simp only[ao,dq] at h;exact vm (awq (Dk es hc h.2).1 h.1) rfl
 |.Df es,c,X,a,hc,h=>by
  replace h:=jf h;obtain⟨l,Z,h⟩:=h;obtain⟨p,rfl⟩:=acp Z;simp only[ao,dq] at h;exact vm (aqv (Dk es hc h.2).1 h.1) rfl
 |.ac8,c,X,a,hc,h=>by
  replace h:=jf h;obtain⟨⟨q,l⟩,Z,h⟩:=h;obtain⟨p,rfl⟩:=al5 Z;simp only[ao,km] at h;obtain⟨rfl,rfl⟩:=h;exact vm aq6 rfl
 |.ix x y,c,X,a,hc,h=>by
  replace h:=jf h;obtain⟨⟨l,r⟩,Z,h⟩:=h;obtain⟨p,rfl⟩:=Wd Z;simp only[ao] at h;exact vm (a1b (jd x hc h.2.1).v (jd y hc h.2.2).v (ahl h.1)) rfl
 |.cut x lo hi,c,X,a,hc,h=>by
  replace h:=jf h;obtain⟨⟨l,r⟩,Z,h⟩:=h;obtain⟨p,rfl⟩:=Wd Z;replace h:=jf h;obtain⟨⟨u,v,st⟩,U,h⟩:=h;obtain⟨p2,e⟩:=ars U;have e:r=_:=e;subst e;simp only[ao,Option.isNone_iff_eq_none] at h;obtain⟨rfl,h⟩:=h;exact vm (aw3 (jd x hc h.1).v (acu lo hc h.2.1) (acu hi hc h.2.2)) rfl
 |.call f es,c,X,a,hc,h=>by
  replace h:=jf h;obtain⟨⟨n,ls⟩,Z,h⟩:=h;obtain⟨p,p',rfl⟩:=J8 Z;simp only[ao] at h;obtain⟨⟨U,R,h4⟩,h5⟩:=h;obtain⟨l,ls,rfl⟩:=We h4;obtain⟨fa,fd,ps,F,m,kp,b⟩:=hc.tab.fn _ _ _ (ju U);obtain⟨g1,g2⟩:=Ky hc R;obtain⟨e1,e2⟩:=Dk es hc h5;simp only[wz,ao] at e2;exact vm (s_call F (hc.room.mono x_) g1 m kp b rfl e1 (vq g2).1 (qu e2.1 _ _) (yj e2.2)) rfl
 |.blt b es,c,X,a,hc,h=>by
  have G:(Ba (dCN a) λq=>(decide (aru b=some q.1)&&(Uo c q.1&&!q.2.isEmpty))&&J9 T es c q.2)=true->Got nm W X a (.blt b es):=λhh=>by clear h;replace hh:=jf hh;obtain⟨⟨n,ls⟩,Z,h⟩:=hh;obtain⟨p,p',rfl⟩:=J8 Z;simp only[ao] at h;obtain⟨⟨U,R,h4⟩,h5⟩:=h;obtain⟨l,ls,rfl⟩:=We h4;obtain⟨e1,e2⟩:=Dk es hc h5;exact vm (ar3 hc (ju U) R e1 e2) rfl
  match b,es,h,G with
  |.isBool,.cons x .nil,h,_ =>
   obtain⟨l,p,p1,p2,rfl,R,h4,h5,h6⟩:=al9 h;obtain⟨g1,g2⟩:=Ky hc R;obtain⟨g3,g4⟩:=Ky hc h4;exact vm (ahx g1 (hc.mg (by decide+kernel)) (by decide+kernel) (vq g2).2.2 (vq g2).1 g3 (hc.mg (by decide+kernel)) (by decide+kernel) (vq g4).2.2 (vq g4).1 (jd x hc h6).v (qu h5 _ _) (qu rfl _ _) (yj rfl)) rfl
  |.isBool,.nil,h,G=>exact G h|.isBool,.cons _ (.cons _ _),h,G=>exact G h|.len,_,h,G=>exact G h|.tuple,_,h,G=>exact G h|.list,_,h,G=>exact G h|.max,_,h,G=>exact G h|.min,_,h,G=>exact G h|.all,_,h,G=>exact G h|.Gj,.nil,h,G=>exact G h|.Gj,.cons _ (.cons _ _),h,G=>exact G h
  |.Gj,.cons x .nil,h,_ =>
   obtain⟨l,p,p1,p2,p3,rfl,h5,h6,h7,h8⟩:=ama (show arw c "len" "set" a (xq T x c)=true from h);obtain⟨g1,g2⟩:=Ky hc h5;obtain⟨g3,g4⟩:=Ky hc h6;exact vm (ah4 hc.r8 g1 (hc.mg (by decide+kernel)) (by decide+kernel) (vq g2).2.2 (vq g2).1 g3 (hc.mg (by decide+kernel)) (by decide+kernel) (vq g4).2.2 (vq g4).1
    (V2 (jd x hc h8).v ab5 (qu h7 _ _)) (qu rfl _ _) (yj rfl) (qu h7 _ _) (yj rfl)) rfl
 |.bm m o es,c,X,a,hc,h=>by
  replace h:=jf h;obtain⟨⟨lo,n,ap,ls,p⟩,h0,h⟩:=h;cases aia h0;simp only[ao,dq] at h;obtain⟨⟨⟨Z,U⟩,R,h4,q0⟩,h5,h6⟩:=h;obtain⟨l,ls,rfl⟩:=We q0;obtain⟨e1,e2⟩:=Dk es hc h6;have e3:=e2;simp only[wz,ao] at e3;have qk:((backTo p (starEach (l::ls) X.env)).all (λx=>!x.1)&&(backToKw p (keywordEach [] X.env)).all (λx=>x.1.isSome)&&decide ((l::ls).length+([]:List Keyword).length+(if([]:List Keyword).isEmpty then 0 else 1)<30))=true:=by rw[Z9 e2];simp[keywordEach,backToKw];simp at R;exact b_ R (by decide)
  have g:=jd o hc h5;cases m with
  |append=>cases Z;exact vm (aq9 (T := "list") (id := "list.append") (fun ι H M x v S r t=>ty_list S r t) PySem.F.plainAttrs_list PySem.F.slot_list_append PySem.F.type_list_append aht g.v e1 (Ij U) qk h4 (qu e3.1 _ _) (yj e3.2)) rfl
  |extend=>cases Z;exact vm (aq9 (T := "list") (id := "list.extend") (fun ι H M x v S r t=>ty_list S r t) PySem.F.plainAttrs_list PySem.F.slot_list_extend PySem.F.type_list_extend ahu g.v e1 (Ij U) qk h4 (qu e3.1 _ _) (yj e3.2)) rfl
  |setdefault=>cases Z;exact vm (aq9 (T := "dict") (id := "dict.setdefault") (fun ι H M x v S r t=>ty_dict S r t) PySem.F.plainAttrs_dict PySem.F.slot_dict_setdefault PySem.F.type_dict_setdefault (arf (av5 hc.room)) g.v e1 (Ij U) qk h4 (qu e3.1 _ _) (yj e3.2)) rfl
 |.comp v j t it e,c,X,a,hc,h=>by
  replace h:=jf h;obtain⟨⟨q6,gs,sc⟩,Z,h⟩:=h;obtain⟨p,rfl⟩:=Ru Z;replace h:=jf h;obtain⟨⟨tg,qv,q5,as⟩,U,h⟩:=h;cases zj U;simp only[ao,km] at h;obtain⟨⟨R,rfl⟩,h4,h5⟩:=h;obtain⟨q1,q2,B,hB,hg,q3,q4⟩:=Mv hc R;cases q2;exact vm (aq5 B hc.calm (Mw it hc h4) hg (λC fp s H=>(jd e (hB C fp s H) h5).v) q1 q3 q4) rfl
 |.ud v j t it i e,c,X,a,hc,h=>by
  replace h:=jf h;obtain⟨⟨q6,gs,sc⟩,Z,h⟩:=h;obtain⟨p,rfl⟩:=Ru Z;replace h:=jf h;obtain⟨⟨tg,qv,q5,as⟩,U,h⟩:=h;cases zj U;replace h:=jf h;obtain⟨d,h6,h⟩:=h;cases zj h6;simp only[ao] at h;obtain⟨⟨R,h7⟩,h4,h8,h5⟩:=h;obtain⟨q1,q2,B,hB,hg,q3,q4⟩:=Mv hc R;cases q2;exact vm (ahp B hc.calm (Mw it hc h4) hg (λC fp s H=>(jd i (hB C fp s H) h8).q h7) (λC fp s H=>(jd e (hB C fp s H) h5).v) q1 q3 q4) rfl
theorem Dk:∀(Z:Dl){c:Ctx}{X:Cx}{a:Ya},By T nm W k c X->J9 T Z c a=true->PA X a (Xr nm W X.K Z)/\wz a=true
 |.nil,c,X,a,hc,h=>by
  cases km.mp h;exact⟨ab5,rfl⟩
 |.cons e Z,c,X,a,hc,h=>by
  cases a with
  |nil=>cases h
  |cons l U =>
   replace h:(noStar l&&(xq T e c l&&J9 T Z c U))=true:=h;simp only[ao] at h;obtain⟨G,R⟩:=Dk Z hc h.2.2;exact⟨V2 (jd e hc h.2.1).v G (qu h.1 _ _),by simp only[wz,ao];exact⟨h.1,R⟩⟩
theorem acu:∀(e:OEx){c:Ctx}{X:Cx}{a:Option Expr},By T nm W k c X->arx T e c a=true->PO X a (tO nm W X.K e)
 |.none,c,X,a,hc,h=>by
  cases Option.isNone_iff_eq_none.mp h;exact alj
 |.some e,c,X,a,hc,h=>by
  replace h:=jf h;obtain⟨l,rfl,h⟩:=h;exact alk (jd e hc h).v
theorem Mw:∀(it:Ld){c:Ctx}{X:Cx}{Z a:Expr},By T nm W k c X->amb T it c Z a=true->PI X Z a (tI nm W X.K it)
 |.val e,c,X,Z,a,hc,h=>aww (jd e hc h).v
 |.Kh e,c,X,Z,a,hc,h=>by
  replace h:=jf h;obtain⟨⟨n,ls⟩,h1,h⟩:=h;obtain⟨p,p',rfl⟩:=J8 h1;replace h:=jf h;obtain⟨l,R,h⟩:=h;cases zj R;simp only[ao,dq] at h;obtain⟨⟨rfl,U⟩,G,h5⟩:=h;exact awx (Ky hc U).1 (hc.mg (by decide+kernel)) (jd e hc h5).v G
 |.enm e,c,X,Z,a,hc,h=>by
  replace h:=jf h;obtain⟨⟨n,ls⟩,h1,h⟩:=h;obtain⟨p,p',rfl⟩:=J8 h1;replace h:=jf h;obtain⟨l,R,h⟩:=h;cases zj R;simp only[ao,dq] at h;obtain⟨⟨h6,rfl,U⟩,G,h5⟩:=h;obtain⟨ts,h7⟩:=ji.mp h6;obtain⟨k0,pt,rfl⟩:=Ms h7;exact aw9 (Ky hc U).1 (hc.mg (by decide+kernel)) (jd e hc h5).v G
 |.zip es,c,X,Z,a,hc,h=>by
  replace h:=jf h;obtain⟨⟨n,ls⟩,h1,h⟩:=h;obtain⟨p,p',rfl⟩:=J8 h1;simp only[ao,dq] at h;obtain⟨⟨h6,rfl,U,G⟩,h7⟩:=h;obtain⟨l,ls,rfl⟩:=We G;obtain⟨e1,e2⟩:=Dk es hc h7;obtain⟨ts,h9⟩:=ji.mp h6;obtain⟨k0,pt,rfl⟩:=Ms h9;simp only[wz,ao] at e2;obtain⟨f1,f2⟩:=e2;exact axa (Ky hc U).1 (hc.mg (by decide+kernel)) e1 (qu f1 _ _) (yj f2)
 |.vals e,c,X,Z,a,hc,h=>by
  replace h:=jf h;obtain⟨⟨lo,n,ap,ls,p⟩,h0,h⟩:=h;cases aia h0;simp only[ao,dq,km] at h;obtain⟨⟨⟨rfl,R⟩,G,rfl⟩,h5⟩:=h;exact ari (jd e hc h5).v (Ij R) G
end
end
noncomputable def axk(e:Ex):Option {b:Bool // (∃v j t it x,e=.comp v j t it x)\/∃v j t it i x,e=.ud v j t it i x}:=match e with|.comp ..=>some ⟨true,.inl ⟨_,_,_,_,_,rfl⟩⟩|.ud ..=>some ⟨true,.inr ⟨_,_,_,_,_,_,rfl⟩⟩|_=>none
def ar4(T:Tab)(c:Ctx)(l:Lv)(e:Ex)(Z v:Expr):Bool :=
 match l with
 |.tg t=>(tgB c 0 t Z&&((V3 v&&((Kz Z).isSome||ane v))||(match t with|.name _=>(Ym v).isSome&&(axk e).isSome|_=>false)))&&xq T e c v
 |.sub o i=>Ba (ah7 Z) λq=>V4 q.2&&(xq T e c v&&(xq T o c q.1&&xq T i c q.2))
noncomputable def axl(a:Stmt):Option (List Expr×Expr):=Option.map Subtype.val (α:={q:List Expr×Expr // ∃p,a=.Assign q.1 q.2 p}) (match a with|.Assign t v p=>some ⟨(t,v),p,rfl⟩|_=>none)
noncomputable def axm(a:Stmt):Option Expr:=Option.map Subtype.val (α:={q:Expr // ∃p,a=.Expr q p}) (match a with|.Expr v p=>some ⟨v,p,rfl⟩|_=>none)
noncomputable def axn(a:Stmt):Option (Expr×List Stmt×List Stmt):=Option.map Subtype.val (α:={q:Expr×List Stmt×List Stmt // ∃p,a=.If q.1 q.2.1 q.2.2 p}) (match a with|.If t l r p=>some ⟨(t,l,r),p,rfl⟩|_=>none)
noncomputable def aif(a:Stmt):Option (Expr×List Stmt×List Stmt):=Option.map Subtype.val (α:={q:Expr×List Stmt×List Stmt // ∃p,a=.While q.1 q.2.1 q.2.2 p}) (match a with|.While t l r p=>some ⟨(t,l,r),p,rfl⟩|_=>none)
noncomputable def axo(a:Stmt):Option (Expr×Expr×List Stmt×List Stmt):=Option.map Subtype.val (α:={q:Expr×Expr×List Stmt×List Stmt // ∃p,a=.For q.1 q.2.1 q.2.2.1 q.2.2.2 p}) (match a with|.For t i l r p=>some ⟨(t,i,l,r),p,rfl⟩|_=>none)
noncomputable def axp(a:Stmt):Option (Option Expr):=Option.map Subtype.val (α:={q:Option Expr // ∃p,a=.Return q p}) (match a with|.Return v p=>some ⟨v,p,rfl⟩|_=>none)
def amc(h:axl a=some (t,v)):∃p,a=.Assign t v p:=(Up h :)
def amd(h:axm a=some v):∃p,a=.Expr v p:=(Up h :)
def ame(h:axn a=some (t,l,r)):∃p,a=.If t l r p:=(Up h :)
def acv(h:aif a=some (t,l,r)):∃p,a=.While t l r p:=(Up h :)
def amf(h:axo a=some (t,i,l,r)):∃p,a=.For t i l r p:=(Up h :)
def amg(h:axp a=some v):∃p,a=.Return v p:=(Up h :)
mutual
def ar5(T:Tab):yt->Ctx->Stmt->Bool
 |.asg l e,c,a=>Ba (axl a) λq=>Ba (Rt q.1) λt=>ar4 T c l e t q.2
 |.expr e,c,a=>Ba (axm a) λv=>V3 v&&xq T e c v
 |.iff t x y,c,a=>Ba (axn a) λq=>Mt q.1&&(xq T t c q.1&&(K3 T x c q.2.1&&K3 T y c q.2.2))
 |.whl (.tru y) x,c,a=>Ba (aif a) λq=>((Kz q.1).isSome&&q.2.2.isEmpty)&&(xq T y c q.1&&K3 T x c q.2.1)
 |.whl t x,c,a=>Ba (aif a) λq=>(Mt q.1&&q.2.2.isEmpty)&&(xq T t c q.1&&K3 T x c q.2.1)
 |.for_ t it x,c,a=>Ba (axo a) λq=>(tgB c 0 t q.1&&(Fl q.2.1&&q.2.2.2.isEmpty))&&(amb T it c q.1 q.2.1&&K3 T x c q.2.2.1)
 |.ret e,c,a=>Ba (axp a) λv=>Ba v (xq T e c)
 |.raise,_,_=>true
def K3(T:Tab):jw->Ctx->List Stmt->Bool
 |.nil,_,a=>a.isEmpty|.cons s r,c,a=>match a with|st::rest=>ar5 T s c st&&K3 T r c rest|_=>false
end
noncomputable def swB(c:Ctx)(t:Str)(pt Z:Pos)(G:Scope):Bool:=(c.sc.lookup t==some NameKind.local&&pt.line==Z.line)&&!(G.names.any λy=>y.1==t&&(y.2==.local||y.2==.cell))
def aad(Z:By T nm W k c X):swapsWith (.ListComp elt gs sc vp) (some (.Name t pt)) l X.env=pure (swB c t pt vp sc):=by
 have b:X.env.blockKind=.function:=by unfold Env.blockKind;rw[Z.kd];rfl
 show(pure (X.env.blockKind==.function&&X.env.kindOf t==some .local&&pt.line==vp.line&&!(sc.names.any λ(n,k)=>n==t&&(k==.local||k==.cell))):Sem Bool)=_;rw[b];unfold Env.kindOf;rw[Z.sc];simp[swB]
def aih(Z:By T nm W k c X)(ht:tgB c 0 (.name i) tg=true)(hv:(Ym v).isSome=true)(hw:(axk e).isSome=true)(h:xq T e c v=true):PS X (.Assign [tg] v p) (tS nm W X.K (.asg (.tg (.name i)) e)):=by
 have nd:X.N.Nodup:=by rw[Z.N];exact Z.nd
 obtain⟨⟨R,gs,sc⟩,hq⟩:=ji.mp hv;obtain⟨y,py,rfl,hy,_⟩:=aab (nm:=nm) (W:=W) (k:=k) (T:=T) Z ht;obtain⟨⟨_,co⟩,_⟩:=ji.mp hw;obtain⟨vp,rfl⟩:=Ru hq;have sw:=λl=>aad (T:=T) (nm:=nm) (W:=W) (k:=k) Z (elt:=R) (gs:=gs) (sc:=sc) (vp:=vp) (pt:=py) (t:=y) (l:=l)
 cases hs:swB c y py vp sc with
 |false =>
  rw[hs] at sw;exact ahm (jd e Z h).v (acr Z ht).1 (sw p.line) rfl rfl
 |true =>
  rw[hs] at sw;simp only[swB,ao] at hs;have hl:X.env.scope.names.lookup y=some .local:=by rw[Z.sc];have:=hs.1.1;simpa using this
  rcases co with⟨v,j,t,it,x,rfl⟩|⟨v,j,t,it,i',x,rfl⟩
  .replace h:=jf h
   obtain⟨⟨qk,qv,qq⟩,h1,h⟩:=h;cases h1;replace h:=jf h;obtain⟨⟨tg,U,q0,as⟩,h2,h⟩:=h;cases zj h2;simp only[ao,km] at h;obtain⟨⟨h3,rfl⟩,h4,h5⟩:=h;obtain⟨q1,q2,B,hB,hg,q3,q4⟩:=Mv Z h3;cases q2;exact aec B Z.calm (Mw it Z h4) hg (λC G s H=>(jd x (hB C G s H) h5).v) q1 q3 q4 nd hy hl (sw p.line)
  .replace h:=jf h
   obtain⟨⟨qk,qv,qq⟩,h1,h⟩:=h;cases h1;replace h:=jf h;obtain⟨⟨tg,U,q0,as⟩,h2,h⟩:=h;cases zj h2;replace h:=jf h;obtain⟨d,h6,h⟩:=h;cases zj h6;simp only[ao] at h;obtain⟨⟨h3,h7⟩,h4,h8,h5⟩:=h;obtain⟨q1,q2,B,hB,hg,q3,q4⟩:=Mv Z h3;cases q2;exact X6 B Z.calm (Mw it Z h4) hg (λC G s H=>(jd i' (hB C G s H) h8).q h7) (λC G s H=>(jd x (hB C G s H) h5).v) q1 q3 q4 nd hy hl (sw p.line)
section
variable{T:Tab}{nm:Nm}{W:Kl}{k:Nat}
def amh(U:By T nm W k c X)(h:ar4 T c l e tg v=true):PS X (.Assign [tg] v p) (tS nm W X.K (.asg l e)):=by
 cases l with
 |tg t =>
  simp only[ar4,ao,Bool.or_eq_true] at h;obtain⟨⟨h1,h2⟩,R⟩:=h;rcases h2 with⟨Z,G⟩|Z
  .have g:=acr (nm:=nm) U h1
   have sh:(∃n q,tg=.Name n q)\/∃ts k0 q,tg=.Tuple ts k0 q:=by
    cases t with
    |name i =>
     obtain⟨n,z1,_⟩:=jf h1;exact .inl ⟨n,Dj z1⟩
    |names is =>
     obtain⟨ts,z1,_⟩:=jf h1;exact .inr ⟨ts,Ms z1⟩
   rcases sh with⟨n,q,rfl⟩|⟨ts,k0,q,rfl⟩
   .exact ahm (jd e U R).v g.1 (Rm Z _ _ _) rfl rfl
   .have w:ane v=true:=by
     rcases G with G|G
     .cases G
     .exact G
    have w2:swappedStores [.Tuple ts k0 q] v X.env=pure none:=by cases v<;>first|rfl|(cases w;done)
    exact ahm (jd e U R).v g.1 (Rm Z _ _ _) w2 rfl
  .cases t with
   |name i=>rw[ao] at Z;exact aih U h1 Z.1 Z.2 R|names _=>cases Z
 |sub o i =>
  replace h:=jf (show Ba (ah7 tg) _=true from h);obtain⟨⟨lo,li⟩,h0,h⟩:=h;obtain⟨p',rfl⟩:=Wd h0;simp only[ao] at h;obtain⟨h2,R,Z,G⟩:=h;refine ahr (jd e U R).v (jd o U Z).v (jd i U G).v λv=>?_
  cases li<;>first|rfl|(cases h2;done)
mutual
theorem ami:∀(s:yt){c:Ctx}{X:Cx}{a:Stmt},By T nm W k c X->c.fn=true->ar5 T s c a=true->PS X a (tS nm W X.K s)
 |.asg l e,c,X,a,hc,hf,h=>by
  replace h:=jf h;obtain⟨⟨ts,v⟩,Z,h⟩:=h;obtain⟨p,rfl⟩:=amc Z;replace h:=jf h;obtain⟨t,G,h⟩:=h;cases zj G;exact amh hc h
 |.expr e,c,X,a,hc,hf,h=>by
  replace h:=jf h;obtain⟨v,Z,h⟩:=h;obtain⟨p,rfl⟩:=amd Z;simp only[ao] at h;exact aq0 (jd e hc h.2).v (Oj h.1 _ _ _)
 |.iff t x y,c,X,a,hc,hf,h=>by
  replace h:=jf h;obtain⟨⟨q,l,r⟩,Z,h⟩:=h;obtain⟨p,rfl⟩:=ame Z;simp only[ao] at h;exact awt ((jd t hc h.2.1).q h.1) (Fi x hc hf h.2.2.1) (Fi y hc hf h.2.2.2)
 |.whl t x,c,X,a,hc,hf,h=>by
  by_cases ht:∃y,t=.tru y
  .obtain⟨y,rfl⟩:=ht
   replace h:=jf (show Ba (aif a) _=true from h);obtain⟨⟨q,l,r⟩,Z,h⟩:=h;obtain⟨p,rfl⟩:=acv Z;simp only[ao,km] at h;obtain⟨⟨G,rfl⟩,U,R⟩:=h;obtain⟨z,G⟩:=ji.mp G;obtain⟨p',rfl⟩:=Dj G;exact anf (hc.fnl hf).2 (anm (jd y hc U).v λ_=>rfl) (Fi x hc hf R)
  replace h:Ba (aif a) (λq=>(Mt q.1&&q.2.2.isEmpty)&&(xq T t c q.1&&K3 T x c q.2.1))=true:=by cases t<;>first|exact h|exact absurd ⟨_,rfl⟩ ht
  replace h:=jf h;obtain⟨⟨q,l,r⟩,Z,h⟩:=h;obtain⟨p,rfl⟩:=acv Z;simp only[ao,km] at h;obtain⟨⟨G,rfl⟩,U,R⟩:=h;exact anf (hc.fnl hf).2 ((jd t hc U).q G) (Fi x hc hf R)
 |.for_ t it x,c,X,a,hc,hf,h=>by
  replace h:=jf h;obtain⟨⟨tg,qq,l,r⟩,Z,h⟩:=h;obtain⟨p,rfl⟩:=amf Z;simp only[ao,km] at h;obtain⟨⟨G,U,rfl⟩,R,h5⟩:=h;exact awv (hc.fnl hf).2 hc.calm (Mw it hc R) (acr hc G).1 (Fi x hc hf h5) U
 |.ret e,c,X,a,hc,hf,h=>by
  replace h:=jf h;obtain⟨v,Z,h⟩:=h;obtain⟨p,rfl⟩:=amg Z;replace h:=jf h;obtain⟨w,rfl,h⟩:=h;exact aws (jd e hc h).v
 |.raise,c,X,a,hc,hf,h=>aly
theorem Fi:∀(s:jw){c:Ctx}{X:Cx}{a:List Stmt},By T nm W k c X->c.fn=true->K3 T s c a=true->Ml X a (tSs nm W X.K s)
 |.nil,c,X,a,hc,hf,h=>by
  cases km.mp h;exact aq1
 |.cons s r,c,X,a,hc,hf,h=>by
  cases a with
  |nil=>cases h
  |cons G Z =>
   replace h:(ar5 T s c G&&K3 T r c Z)=true:=h;simp only[ao] at h;exact ak9 (ami s hc hf h.1) (Fi r hc hf h.2)
end
end
structure Def where
 x:Str
 qual:Str
 N:List Str
 ps:List Str
def scB(N ps:Yf)(Z:Scope):Bool :=
 (decide (Z.kind=.function)&&(!Z.isCoroutine&&!Z.isGenerator))&&((decide N.Nodup&&decide (N.take ps.length=ps)) &&
 (ps.all (λx=>Z.names.lookup x==some .local||Z.names.lookup x==some .cell)&&Z.names.all (λy=>!(y.2==NameKind.free))))
def ar6(h:scB N ps sc=true):Ph N ps sc:=by simp only[scB,ao,dq,Bool.not_eq_true',nj] at h;obtain⟨⟨R,h2,Z⟩,⟨h4,U⟩,h6,G⟩:=h;exact⟨R,h2,Z,h4,U,λx m=>by have:=h6 x m;simpa using this,λy m=>by have:=G y m;simpa using this⟩
def ael(T:Tab)(d:Def)(F:MW.Fn)(Z:Stmt):Bool :=
 (scB d.N d.ps (wg Z)&&(decide (F.np=d.ps.length)&&decide (F.ns=d.N.length)))&&K3 T F.body ⟨d.N,(wg Z).names,true⟩ (De Z)
set_option tactic.hygienic true in
def amj{F:MW.Fn}(h:F.run W ds M=.ok d U):ds.length=F.np/\∃Y Z,F.body.den W (ds.map some++List.replicate (F.ns-F.np) none) M=.ok (Y,Z) U/\(Y=.ret d\/(Y=.next/\d=.non)):=by
 unfold MW.Fn.run at h;split at h
 .rename_i J
  obtain⟨⟨Y,Z⟩,C,G,e⟩:=d7 h;refine⟨J,Y,Z,?_⟩;cases Y with
  |ret z=>cases e;exact⟨G,.inl rfl⟩|next=>cases e;exact⟨G,.inr ⟨rfl,rfl⟩⟩|brk=>cases e|cont=>cases e
 .cases h
def ar7{G:MW.Prog}(U:Fun K d.x d.qual st f fd)(hF:G.fns[i]?=some F)(h:ael T d F st=true)(hT:ah5 T nm ⟨G.call n⟩ k P w K mg base):Jd P w K mg base CX0 (k+17) f fd d.ps (spF nm ⟨G.call (n+1)⟩ K F.np i):=by
 simp only[ael,ao,dq] at h;obtain⟨⟨h1,h2,h3⟩,h4⟩:=h;have S:=ar6 h1;have go:∀R M d' M',MW.Kl.call ⟨G.call (n+1)⟩ i R M=.ok d' M'->F.run ⟨G.call n⟩ R M=.ok d' M':=λR M d' M' e=>by have e:G.call (n+1) i R M=.ok d' M':=e;unfold MW.Prog.call at e;rw[hF] at e;exact e
 refine U.ok (k:=k+16) S (λvs H Q E ⟨ι,M,R,d',M',_,r,l,e,_⟩=>by rw[<- r.length,l,h2]) (λqv A Z s H vs Q E hr z_=>?_);obtain⟨ι,M,R,d',M',SM,r,l,e,q⟩:=z_;have hc:By T nm ⟨G.call n⟩ k ⟨d.N,(wg st).names,true⟩ (Zn CX0 P w K mg base d.N d.qual (wg st) f qv A Z s H E).nox :=
  ⟨rfl,S.nd,rfl,S.kind,rfl,hr,λ_=>⟨λ_=>rfl,PassesOwn.never⟩,hT⟩
 refine⟨_,Fi F.body hc rfl h4,?_⟩;obtain⟨hl,fl,qk,e1,e2⟩:=amj (go _ _ _ _ e);refine⟨ι,_,M,fl,qk,M',SM,?_,e1,λqq H' q0 le S' R'=>?_⟩
 .unfold L2.start
  exact(ph.ahj r).append (ph.ahi _ (by rw[List.length_replicate,h3,<- r.length,l]))
 .rcases e2 with rfl|⟨rfl,rfl⟩
  .exact λv rv=>q qq H' v le S' rv
  .exact q qq H' _ le S' .non
theorem acw{nm:Nm}{P:Program}{w:World}{K:Fg}{mg:Zs}{base:Heap}{IR:MW.Prog}{T:Tab}{D:Nat->Def}{st:Nat->Stmt}{fa:Nat->Addr}{fd:Nat->FuncData}
 (U:∀i,i<IR.fns.length->Fun K (D i).x (D i).qual (st i) (fa i) (fd i)) (h:∀i F,IR.fns[i]?=some F->ael T (D i) F (st i)=true)
 (R:∀n,(∀i F,IR.fns[i]?=some F->Jd P w K mg base CX0 (17*n) (fa i) (fd i) (D i).ps (spF nm ⟨IR.call n⟩ K F.np i))->ah5 T nm ⟨IR.call n⟩ (17*n) P w K mg base) :
 ∀n i F,IR.fns[i]?=some F->Jd P w K mg base CX0 (17*n) (fa i) (fd i) (D i).ps (spF nm ⟨IR.call n⟩ K F.np i)
 |0,i,F,hF=>⟨(λvs H Q E ⟨ι,M,ds,d',M',_,r,l,e,_⟩=>by cases e),λA Z s H G us vs Q E hr he hb hv ⟨ι,M,ds,d',M',_,r,l,e,_⟩=>by cases e⟩
 |n+1,i,F,hF=>ar7 (U i (ak.mp hF).1) hF (h i F hF) (R n (acw U h R n))
section
variable(K:Fg)(mg:Zs)
def Wf:List Def->List Stmt->List Addr->List FuncData->Prop
 |d::ds,s::ss,a::as,f::fs=>(Fun K d.x d.qual s a f/\Binds K f d.ps [])/\Wf ds ss as fs|[],[],[],[]=>True|_,_,_,_=>False
def Rw:List (Option (Str×Nat))->List Addr->Prop
 |some p::r,a::as=>mg p.1=some (.ref a)/\Rw r as|none::r,_::as=>Rw r as|_,_=>True
def Wg:List (Str×Int)->Prop
 |p::r=>(∃t,mg p.1=some (.int p.2 t))/\Wg r|[]=>True
def AllB:List Str->Prop
 |x::r=>mg x=none/\AllB r|[]=>True
end
theorem Wf.get{K:Fg}:∀{G:List Def}{Z:List Stmt}{as:X1}{fs:List FuncData}{i:Nat}{d:Def},Wf K G Z as fs->G[i]?=some d->∃s a f,Z[i]?=some s/\as[i]?=some a/\fs[i]?=some f/\Fun K d.x d.qual s a f/\Binds K f d.ps []
 |d::G,s::Z,a::as,f::fs,0,d',h,e=>by cases e;exact⟨s,a,f,rfl,rfl,rfl,h.1⟩
 |d::G,s::Z,a::as,f::fs,i+1,d',h,e=>by
  obtain⟨R,a',f',h1,h2,U,h4⟩:=Wf.get (i:=i) h.2 (by simpa using e);exact⟨R,a',f',by simpa using h1,by simpa using h2,by simpa using U,h4⟩
theorem Rw.get{mg:Zs}:∀{l:List (Option (Str×Nat))}{as:X1}{i:Nat}{p:Str×Nat}{a:Addr},Rw mg l as->l[i]?=some (some p)->as[i]?=some a->mg p.1=some (.ref a)
 |some q::l,b::as,0,p,a,h,e,e2=>by cases e;cases e2;exact h.1|none::l,b::as,0,p,a,h,e,e2=>by cases e|some q::l,b::as,i+1,p,a,h,e,e2=>Rw.get (i:=i) h.2 (by simpa using e) (by simpa using e2)|none::l,b::as,i+1,p,a,h,e,e2=>Rw.get (i:=i) (l:=l) (as:=as) h (by simpa using e) (by simpa using e2)
theorem Wg.get{mg:Zs}:∀{l:List (Str×Int)}{x:Str}{i:Int},Wg mg l->(x,i)∈l->∃t,mg x=some (.int i t)
 |q::l,x,i,h,m=>by
  rcases cg.mp m with z|z
  .rw[<- z] at h;exact h.1
  .exact Wg.get h.2 z
theorem AllB.get{mg:Zs}:∀{l:Yf}{x:Str},AllB mg l->x∈l->mg x=none
 |q::l,x,h,m=>by
  rcases cg.mp m with z|z
  .rw[z];exact h.1
  .exact AllB.get h.2 z
def amk(T:Tab):List MW.Fn->List Def->List Stmt->Bool
 |F::Fs,d::ds,s::ss=>ael T d F s&&amk T Fs ds ss|[],[],[]=>true|_,_,_=>false
noncomputable def npB(Z:List MW.Fn)(f n:Nat):Bool:=match Z[f]? with|some F=>F.np==n|none=>false
def tfB(Z:List MW.Fn)(l:List (Option (Str×Nat))):Bool:=l.zipIdx.all λq=>match q.1 with|some p=>npB Z q.2 p.2|none=>true
def aae{Z:Type}{l:List Z}{g:Z×Nat->Bool}(h:l.zipIdx.all g=true){x:Z}(e:l[i]?=some x):g (x,i)=true:=by rw[nj] at h;exact h (x,i) (by rw[j5];exact⟨i,by rw[tu,e];simp⟩)
set_option tactic.hygienic true in
def ar8(h:npB fns f n=true):∃F,fns[f]?=some F/\F.np=n:=by
 unfold npB at h;split at h
 .rename_i F e;exact⟨F,e,eq_of_beq h⟩
 .cases h
theorem Rx{T:Tab}:∀{U:List MW.Fn}{G:List Def}{Z:List Stmt}{i:Nat}{F:MW.Fn},amk T U G Z=true->U[i]?=some F->∃d s,G[i]?=some d/\Z[i]?=some s/\ael T d F s=true
 |F::U,d::G,s::Z,0,F',h,e=>by
  replace h:=Bool.and_eq_true_iff.mp h;cases e;exact⟨d,s,rfl,rfl,h.1⟩
 |F::U,d::G,s::Z,i+1,F',h,e=>by
  replace h:=Bool.and_eq_true_iff.mp h;obtain⟨d',s',h1,h2,R⟩:=Rx (i:=i) h.2 (by simpa using e);exact⟨d',s',by simpa using h1,by simpa using h2,R⟩
 |[],_,_,_,_,_,e=>by simp at e|_::_,[],_,_,_,h,_=>by cases h|_::_,_::_,[],_,_,h,_=>by cases h
set_option tactic.hygienic true in
def ar9{IR:MW.Prog}{F:MW.Fn}(hP:amk T IR.fns Ds ss=true)(h1:tfB IR.fns T.fns=true)(aF:Wf K Ds ss fas fds)(aG:Rw mg T.fns fas)(aV:Wg mg T.al3)(aB:AllB mg J7)(hF:IR.fns[i]?=some F) :
 ∃d a f,Ds[i]?=some d/\fas[i]?=some a/\fds[i]?=some f/\Binds K f d.ps []/\Jd P w K mg base CX0 (17*n) a f d.ps (spF ⟨⟩ ⟨IR.call n⟩ K F.np i):=by
 let dd:Def:=⟨Str.empty,Str.empty,[],[]⟩
 let sd:Stmt:=.Pass ⟨0,0,0,0⟩
 obtain⟨d,s,g1,g2,g3⟩:=Rx hP hF;have all:∀(i:Nat)(F:MW.Fn),IR.fns[i]?=some F->∃d s a f,Ds[i]?=some d/\ss[i]?=some s/\fas[i]?=some a/\fds[i]?=some f/\Fun K d.x d.qual s a f/\Binds K f d.ps []/\ael T d F s=true:=λi F e=>by
  refine hG λ_ _k=>?_
  obtain⟨d,s,g1,g2,g3⟩:=Rx hP e;obtain⟨s',a,f,Z,U,Y,J,C⟩:=aF.get g1;rw[g2] at Z;cases Z;apply _k;exact⟨d,s,a,f,g1,g2,U,Y,J,C,g3⟩
 have df:∀{j:Nat}{a:Addr}{f:FuncData}{d:Def},fas[j]?=some a->fds[j]?=some f->Ds[j]?=some d->(fas[j]?).getD 0=a/\Ds[j]?.getD dd=d:=λL e2 e3=>⟨by rw[L];rfl,by rw[e3];rfl⟩
 obtain⟨S,qq⟩:∃S:FuncData,True:=by obtain⟨s',a,f,_⟩:=aF.get g1;exact⟨f,trivial⟩
 have u:=acw (nm:=⟨⟩) (P:=P) (w:=w) (K:=K) (mg:=mg) (base:=base) (IR:=IR) (T:=T) (D:=λi=>Ds[i]?.getD dd) (st:=λi=>ss[i]?.getD sd) (fa:=λi=>(fas[i]?).getD 0) (fd:=λi=>(fds[i]?).getD S)
  (λi hi=>by
   refine hG λ_ _k=>?_
   obtain⟨d,s,a,f,Z,U,Y,J,C,R,k7⟩:=all i IR.fns[i] (by simp[hi]);apply _k;rw[Z,U,Y,J];exact C)
  (λi F e=>by
   refine hG λ_ _k=>?_
   obtain⟨d,s,a,f,Z,U,Y,J,C,R,k7⟩:=all i F e;apply _k;rw[Z,U];exact k7)
  (λn G=>?_) n i F hF
 .refine hG λ_ _k=>?_
  obtain⟨d',s',a,f,Z,U,Y,J,C,R,k7⟩:=all i F hF;apply _k;refine⟨d',a,f,Z,Y,J,R,?_⟩;have:=u;rw[Z,Y,J] at this;exact this
 ·
  have at_:∀{j:Nat}{F:MW.Fn}{a:Addr},IR.fns[j]?=some F->fas[j]?=some a->∃(f:FuncData)(d:Def),Binds K f d.ps []/\Jd P w K mg base CX0 (17*n) a f d.ps (spF ⟨⟩ ⟨IR.call n⟩ K F.np j)/\PySem.W.keepIn K (.ref a)=true:=fun{j F a} L e2=>by
   refine hG λ_ _k=>?_
   obtain⟨d,s,a',f,Z,U,Y,J,C,R,k7⟩:=all j F L;rw[e2] at Y;cases Y;have g:=G j F L;rw[Z,e2,J] at g;apply _k;exact⟨f,d,R,g,C.kp⟩
  have addr:∀{j:Nat}{F:MW.Fn},IR.fns[j]?=some F->∃a,fas[j]?=some a:=fun{j F} e=>by
   refine hG λ_ _k=>?_
   obtain⟨d,s,a',f,Z,U,Y,_⟩:=all j F e;apply _k;exact⟨a',Y⟩
  refine⟨λf x m e=>?_,λx i m=>aV.get m,λx m=>aB.get m⟩
  .refine hG λ_ _k=>?_
   obtain⟨F,L,e2⟩:=ar8 (aae h1 e);obtain⟨a,e3⟩:=addr L;obtain⟨fd,d,b,g,kp⟩:=at_ L e3;rw[e2] at g;apply _k;exact⟨a,fd,d.ps,g,aG.get e e3,kp,b⟩
def fN:Wf K [] [] [] []:=trivial
def gN:Rw mg [] as:=trivial
def gS(h:mg p.1=some (.ref a))(t:Rw mg r Z):Rw mg (some p::r) (a::Z):=⟨h,t⟩
def vN:Wg mg []:=trivial
def vC(h:mg p.1=some (.int p.2 t))(q:Wg mg r):Wg mg (p::r):=⟨⟨t,h⟩,q⟩
def bN:AllB mg []:=trivial
def bC(h:mg x=none)(q:AllB mg r):AllB mg (x::r):=⟨h,q⟩
abbrev Lk(K:Fg)(f:Addr)(x q:Str)(st:Stmt)(oc:Value)(od:Option Addr)(kV dc pm:Value)(an:Option Addr)(cd ct:Value)(sl:Array (Option Value)):Prop :=
 K.lookup f=some ⟨oc,od,.func (PySem.W.fnOf x q (Gg st) (De st) (wg st) .none kV dc pm an cd ct),sl⟩/\PySem.W.codeIn K cd q=true/\PySem.W.keepIn K (.ref f)=true
noncomputable def asa:Nat->(List Value->Prop)->Prop|0,P=>P []|n+1,P=>∀a,asa n λZ=>P (a::Z)
theorem acx:∀{us:Zl}{P:List Value->Prop},asa us.length P->P us|[],_,h=>h|a::us,_,h=>acx (us:=us) (h a)
def fE{kV:Value}(l:Lk K a d.x d.qual s oc od kV dc U Z cd G sl)(r:Wf K ds ss as fs)
 (b:∀(kV R U:Value)(Z:Option Addr)(qq G:Value),asa d.ps.length λus=>bindArgs (PySem.W.fnOf d.x d.qual (Gg s) (De s) (wg s) .none kV R U Z qq G) ⟨us,[]⟩=pure (d.ps.zip us):=by(repeat intro _);rfl) :
 Wf K (d::ds) (s::ss) (a::as) (PySem.W.fnOf d.x d.qual (Gg s) (De s) (wg s) .none kV dc U Z cd G::fs):=⟨⟨ahf l.1 l.2.1 l.2.2,(ahf l.1 l.2.1 l.2.2).binds λ_ _ _ _ _ _ _ e=>acx (e▸b _ _ _ _ _ _)⟩,r⟩
noncomputable def acy(K:Fg):Sp:=λU H Q _=>∃(a:Addr)(Z:X2),U=[.ref a]/\Only H/\Dm K H a (Z.map V.int)/\Z.length<=63/\∀G,Q (.bl true) G
def aml(o:Only H)(h:Dm K H a vs):Vy K H a vs:=by
 rcases h with(h|h)|h
 .rcases o a with z|⟨ob,xs,z⟩<;>rw[z] at h<;>cases h
 .exact .inl h
 .exact .inr h
def amm(run:∀(Z:X2),Z.length<=63->∃G,W.call i [.fz (Z.map MW.D.int)] []=.ok (.bl true) G)(h:acy K R H Q E):spF nm W K 1 i R H Q E:=by obtain⟨a,Z,rfl,o,hS,hl,k⟩:=h;obtain⟨G,e⟩:=run Z hl;refine⟨⟨[],[]⟩,[],_,_,G,⟨rfl,List.nodup_nil,by simp,λn o a h=>by simp at h⟩,.cons (.fz (aml o hS) (kj.ints Z)) .nil,rfl,e,λqq U v le S' r=>?_⟩;cases r;exact k U
def walk{l:PySem.W.OpenLaw}{K:Params->Fg}(hn:l.most=some 63)(G:d.params.defaults=[])(hY:∀(w:World) (h:Heap),YP w h->(K w.params).In h)(F:∀(w:World) (mg:Zs) (U:Addr) (h:Heap),(K w.params).In h->h.Ns mainGlobals mg->mg d.name=some (.ref U) ->
 ∃R:FuncData,(∀(s:Shared) (u:Value),BindsTo s R ⟨[u],[]⟩ [("script",u)])/\∀Z:Heap,(K w.params).In Z->Z.Ns mainGlobals mg->Jd l.prog w (K w.params) mg Z CX0 170 U R ["script"] (acy (K w.params))) :
 PySem.W.WalkO q loose XP YP l.row.toRowW d [] (λf vs=>PySem.call f vs) :=
 L2.ak1 (n:=63) (k:=170) (x := "script") (CX:=λ_=>CX0) (sp:=λw=>acy (K w.params)) hn (by decide) G ⟨rfl,by decide,by decide⟩ hY F (λ_ _ a ns hl ho hS=>⟨a,ns,rfl,ho,hS,hl,λ_=>rfl⟩) λ_ _ _ _ _ z=>z
end Ck
namespace K73
open PySem L2
noncomputable def top(i:Nat):Stmt:=PySem.Challenge.pw_mapwright_k73_plain_sets.main.body.getD i (.Pass ⟨0,0,0,0⟩)
def sts:List Stmt:=[top 28,top 29,top 30,top 9,top 10,top 11,top 12,top 13,top 14,top 15,top 16,top 17,top 18,top 19,top 21,top 22,top 23,top 24,top 25,top 26,top 31,top 32,top 33,top 34,top 35,top 36,top 37,top 38,top 39,top 40,top 41,top 42,top 43,top 44]
noncomputable def Ds:List Ck.Def:=[⟨"_law_cell_at", "_law_cell_at",["script", "k"],["script", "k"]⟩,⟨"_law_state", "_law_state",["script", "k", "cell"],["script", "k"]⟩,⟨"_law_take", "_law_take",["state", "many", "found", "mixed"],["state", "many"]⟩,⟨"check_saying", "check_saying",["saying", "ends"],["saying"]⟩,⟨"check_ends", "check_ends",["ends", "start", "goal"],["ends"]⟩,⟨"comes_back", "comes_back",["ends", "left", "many", "goals"],["ends"]⟩,⟨"check_given", "check_given",["ends", "given", "told"],["ends", "given"]⟩,⟨"can_be_given", "can_be_given",["ends", "told"],["ends", "told"]⟩,⟨"is_arrow", "is_arrow",["ends", "number"],["ends", "number"]⟩,⟨"is_way", "is_way",["ends", "way"],["ends", "way"]⟩,⟨"way_start", "way_start",["ends", "way"],["ends", "way"]⟩,⟨"way_goal", "way_goal",["ends", "way"],["ends", "way"]⟩,⟨"are_beside", "are_beside",["ends", "one", "other"],["ends", "one", "other"]⟩,⟨"all_ways", "all_ways",["ends", "told", "fresh", "longer", "way", "goal"],["ends"]⟩,⟨"set_count", "set_count",["ends"],["ends"]⟩,⟨"breaks", "breaks",["saying", "sizes", "maps", "things"],["saying", "sizes", "maps"]⟩,⟨"are_sets", "are_sets",["ends", "sizes", "maps", "row", "some"],["ends", "sizes", "maps"]⟩,⟨"is_so", "is_so",["ends", "sizes", "maps", "told", "row"],["ends", "sizes", "maps", "told"]⟩,⟨"same_for", "same_for",["maps", "things", "one", "other"],["maps", "things", "one", "other"]⟩,⟨"led_along", "led_along",["maps", "way", "thing", "here", "arrow"],["maps", "way", "thing"]⟩,⟨"_law_all_ways", "_law_all_ways",["ends", "found", "at", "last"],["ends"]⟩,⟨"_law_alike_ends", "_law_alike_ends",["ends", "rows", "way", "pairs", "row", "one"],["ends"]⟩,⟨"_law_saying", "_law_saying",["state", "ends", "k", "one", "known", "pairs", "given", "turn", "unlike"],["state"]⟩,⟨"_law_ends_of", "_law_ends_of",["ends", "way", "k"],["ends", "way"]⟩,⟨"_law_together", "_law_together",["steps", "one", "other", "reached", "at", "step", "here", "there"],["steps", "one", "other"]⟩,⟨"_law_next", "_law_next",["saying", "steps", "ends", "given", "aim", "found", "one", "other", "why", "start", "end", "some", "longer", "agree"],["saying", "steps"]⟩,⟨"_law_steps", "_law_steps",["saying", "steps", "grown", "step"],["saying"]⟩,⟨"_law_gone", "_law_gone",["acts", "way", "thing", "arrow"],["acts", "way", "thing"]⟩,⟨"_law_sets_break", "_law_sets_break",["saying", "sizes", "acts", "ends", "given", "aim", "k", "row", "same", "one", "other", "agree", "number", "apart"],["saying", "sizes", "acts"]⟩,⟨"_law_sets", "_law_sets",["state", "ends", "most", "sizes", "turn", "one", "other", "acts"],["state", "ends", "most"]⟩,⟨"_law_of_ways", "_law_of_ways",["saying", "steps", "ends", "start", "rows", "way", "row", "near", "acts", "k", "goals", "crowd"],["saying", "steps"]⟩,⟨"_law_bent_row", "_law_bent_row",["state", "row", "far", "at", "some"],["state", "row"]⟩,⟨"_law_bent", "_law_bent",["state", "sizes", "acts", "way", "at"],["state", "sizes", "acts"]⟩,⟨"law", "law",["script", "state", "turn", "saying", "told", "random", "few", "bent", "sizes", "acts", "found"],["script"]⟩]
noncomputable def tab:Ck.Tab:=⟨[(some ("_law_cell_at",2):Y2),(some ("_law_state",2):Y2),(some ("_law_take",2):Y2),(some ("check_saying",1):Y2),(some ("check_ends",1):Y2),(some ("comes_back",1):Y2),(some ("check_given",2):Y2),(some ("can_be_given",2):Y2),(some ("is_arrow",2):Y2),(some ("is_way",2):Y2),(some ("way_start",2):Y2),(some ("way_goal",2):Y2),(some ("are_beside",3):Y2),(some ("all_ways",1):Y2),(some ("set_count",1):Y2),(some ("breaks",3):Y2),(some ("are_sets",3):Y2),(some ("is_so",4):Y2),(some ("same_for",4):Y2),(some ("led_along",3):Y2),(some ("_law_all_ways",1):Y2),(some ("_law_alike_ends",1):Y2),(some ("_law_saying",1):Y2),(some ("_law_ends_of",2):Y2),(some ("_law_together",3):Y2),(some ("_law_next",2):Y2),(some ("_law_steps",1):Y2),(some ("_law_gone",3):Y2),(some ("_law_sets_break",3):Y2),(some ("_law_sets",3):Y2),(some ("_law_of_ways",2):Y2),(some ("_law_bent_row",2):Y2),(some ("_law_bent",3):Y2),(some ("law",1):Y2)],[("MOST_ARROWS",10),("LAST_SET",7),("MOST_GIVEN",8),("MOST_WAYS",60)]⟩
def chk:Ck.amk tab prog.fns Ds sts=true:=by decide+kernel
def a1w:Ck.tfB prog.fns tab.fns=true:=by decide+kernel
open PySem.W
set_option maxHeartbeats 0 in
def all_mk{l:OpenLaw}{K:Frag}{h:Heap}(X:K.In h)(G:h.Ns mainGlobals mg)(y9:mg "law" = some (.ref fa))
 (a0:nsIn K mainGlobals "_law_cell_at" = some (some (.ref f0)))
 (l0:Ck.Lk K f0 "_law_cell_at" "_law_cell_at" (top 28) oc0 od0 kV0 dc0 pm0 an0 cd0 ct0 sl0)
 (a1:nsIn K mainGlobals "_law_state" = some (some (.ref f1)))
 (l1:Ck.Lk K f1 "_law_state" "_law_state" (top 29) oc1 od1 kV1 dc1 pm1 an1 cd1 ct1 sl1)
 (a2:nsIn K mainGlobals "_law_take" = some (some (.ref f2)))
 (l2:Ck.Lk K f2 "_law_take" "_law_take" (top 30) oc2 od2 kV2 dc2 pm2 an2 cd2 ct2 sl2)
 (a3:nsIn K mainGlobals "check_saying" = some (some (.ref f3)))
 (l3:Ck.Lk K f3 "check_saying" "check_saying" (top 9) oc3 od3 kV3 dc3 pm3 an3 cd3 ct3 sl3)
 (a4:nsIn K mainGlobals "check_ends" = some (some (.ref f4)))
 (l4:Ck.Lk K f4 "check_ends" "check_ends" (top 10) oc4 od4 kV4 dc4 pm4 an4 cd4 ct4 sl4)
 (a5:nsIn K mainGlobals "comes_back" = some (some (.ref f5)))
 (l5:Ck.Lk K f5 "comes_back" "comes_back" (top 11) oc5 od5 kV5 dc5 pm5 an5 cd5 ct5 sl5)
 (a6:nsIn K mainGlobals "check_given" = some (some (.ref f6)))
 (l6:Ck.Lk K f6 "check_given" "check_given" (top 12) oc6 od6 kV6 dc6 pm6 an6 cd6 ct6 sl6)
 (a7:nsIn K mainGlobals "can_be_given" = some (some (.ref f7)))
 (l7:Ck.Lk K f7 "can_be_given" "can_be_given" (top 13) oc7 od7 kV7 dc7 pm7 an7 cd7 ct7 sl7)
 (a8:nsIn K mainGlobals "is_arrow" = some (some (.ref f8)))
 (l8:Ck.Lk K f8 "is_arrow" "is_arrow" (top 14) oc8 od8 kV8 dc8 pm8 an8 cd8 ct8 sl8)
 (a9:nsIn K mainGlobals "is_way" = some (some (.ref R)))
 (l9:Ck.Lk K R "is_way" "is_way" (top 15) oc9 od9 kV9 dc9 pm9 an9 cd9 ct9 sl9)
 (x3:nsIn K mainGlobals "way_start" = some (some (.ref f10)))
 (yy:Ck.Lk K f10 "way_start" "way_start" (top 16) a8l a8m a8n a8o a8p a8q a8r a8s a8t)
 (q4:nsIn K mainGlobals "way_goal" = some (some (.ref f11)))
 (uj:Ck.Lk K f11 "way_goal" "way_goal" (top 17) a8v a8w a8x a8y a8z a80 a81 a82 a83)
 (x1:nsIn K mainGlobals "are_beside" = some (some (.ref f12)))
 (yk:Ck.Lk K f12 "are_beside" "are_beside" (top 18) a85 a86 a87 a88 a89 a9a a9b a9c a9d)
 (y0:nsIn K mainGlobals "all_ways" = some (some (.ref f13)))
 (q7:Ck.Lk K f13 "all_ways" "all_ways" (top 19) a9f a9g a9h a9i a9j a9k a9l a9m a9n)
 (q6:nsIn K mainGlobals "set_count" = some (some (.ref f14)))
 (u3:Ck.Lk K f14 "set_count" "set_count" (top 21) a9p a9q a9r a9s a9t a9u a9v a9w a9x)
 (qq:nsIn K mainGlobals "breaks" = some (some (.ref f15)))
 (zg:Ck.Lk K f15 "breaks" "breaks" (top 22) a9z a90 a91 a92 a93 a94 a95 a96 a97)
 (zk:nsIn K mainGlobals "are_sets" = some (some (.ref f16)))
 (j1:Ck.Lk K f16 "are_sets" "are_sets" (top 23) a99 baa bab bac bae baf bag bah bai)
 (yv:nsIn K mainGlobals "is_so" = some (some (.ref f17)))
 (y4:Ck.Lk K f17 "is_so" "is_so" (top 24) bak bal bam ban bao bap baq bas bau)
 (zw:nsIn K mainGlobals "same_for" = some (some (.ref f18)))
 (uu:Ck.Lk K f18 "same_for" "same_for" (top 25) baw bax bay baz ba0 ba1 ba2 ba3 ba4)
 (j2:nsIn K mainGlobals "led_along" = some (some (.ref f19)))
 (qk:Ck.Lk K f19 "led_along" "led_along" (top 26) ba6 ba7 ba8 ba9 bba bbb bbc bbd bbe)
 (u2:nsIn K mainGlobals "_law_all_ways" = some (some (.ref f20)))
 (u4:Ck.Lk K f20 "_law_all_ways" "_law_all_ways" (top 31) bbg bbh bbi bbj bbk bbl bbm bbn bbo)
 (q0:nsIn K mainGlobals "_law_alike_ends" = some (some (.ref f21)))
 (y2:Ck.Lk K f21 "_law_alike_ends" "_law_alike_ends" (top 32) bbq bbr bbs bbt bbu bbv bbw bbx bby)
 (j3:nsIn K mainGlobals "_law_saying" = some (some (.ref f22)))
 (xv:Ck.Lk K f22 "_law_saying" "_law_saying" (top 33) bb0 bb1 bb2 bb3 bb4 bb5 bb6 bb7 bb8)
 (qv:nsIn K mainGlobals "_law_ends_of" = some (some (.ref f23)))
 (zz:Ck.Lk K f23 "_law_ends_of" "_law_ends_of" (top 34) bca bcb bcc bcd bcf bcg bch bci bck)
 (x2:nsIn K mainGlobals "_law_together" = some (some (.ref f24)))
 (y7:Ck.Lk K f24 "_law_together" "_law_together" (top 35) bcm bcn bco bcp bcq bcr bcs bct bcu)
 (uk:nsIn K mainGlobals "_law_next" = some (some (.ref f25)))
 (q1:Ck.Lk K f25 "_law_next" "_law_next" (top 36) bcw bcx bcy bcz bc0 bc1 bc2 bc3 bc4)
 (jv:nsIn K mainGlobals "_law_steps" = some (some (.ref f26)))
 (u1:Ck.Lk K f26 "_law_steps" "_law_steps" (top 37) bc6 bc7 bc8 bc9 bda bdc bdd bde bdf)
 (xy:nsIn K mainGlobals "_law_gone" = some (some (.ref f27)))
 (xx:Ck.Lk K f27 "_law_gone" "_law_gone" (top 38) bdh bdi bdj bdk bdl bdm bdn bdo bdp)
 (y1:nsIn K mainGlobals "_law_sets_break" = some (some (.ref f28)))
 (y3:Ck.Lk K f28 "_law_sets_break" "_law_sets_break" (top 39) bdr bds bdt bdu bdv bdw bdx bdz bd1)
 (xw:nsIn K mainGlobals "_law_sets" = some (some (.ref f29)))
 (xu:Ck.Lk K f29 "_law_sets" "_law_sets" (top 40) bd3 bd4 bd5 bd6 bd7 bd8 bd9 bea beb)
 (y6:nsIn K mainGlobals "_law_of_ways" = some (some (.ref f30)))
 (y8:Ck.Lk K f30 "_law_of_ways" "_law_of_ways" (top 41) bed bee bef beh bei bej bek bel bem)
 (q5:nsIn K mainGlobals "_law_bent_row" = some (some (.ref f31)))
 (q2:Ck.Lk K f31 "_law_bent_row" "_law_bent_row" (top 42) beo bep ber bet beu bev bew bex bey)
 (q3:nsIn K mainGlobals "_law_bent" = some (some (.ref f32)))
 (zv:Ck.Lk K f32 "_law_bent" "_law_bent" (top 43) be0 be1 be2 be3 be4 be5 be6 be7 be8)
 (U:nsIn K mainGlobals "law" = some (some (.ref f33)))
 (u7:Ck.Lk K f33 "law" "law" (top 44) bfb bfc a2t a2u a2v a2w a2x a2y bfd)
 (v0:nsIn K mainGlobals "MOST_ARROWS" = some (some (.int (10) tk0)))
 (v1:nsIn K mainGlobals "LAST_SET" = some (some (.int (7) tk1)))
 (v2:nsIn K mainGlobals "MOST_GIVEN" = some (some (.int (8) tk2)))
 (v3:nsIn K mainGlobals "MOST_WAYS" = some (some (.int (60) tk3)))
 (z0:nsIn K mainGlobals "len" = some none)
 (z1:nsIn K mainGlobals "tuple" = some none)
 (z2:nsIn K mainGlobals "list" = some none)
 (z3:nsIn K mainGlobals "max" = some none)
 (z4:nsIn K mainGlobals "min" = some none)
 (z5:nsIn K mainGlobals "isinstance" = some none)
 (z6:nsIn K mainGlobals "range" = some none)
 (z7:nsIn K mainGlobals "enumerate" = some none)
 (z8:nsIn K mainGlobals "set" = some none)
 (z9:nsIn K mainGlobals "zip" = some none)
 (xk:nsIn K mainGlobals "all" = some none)
 (y5:nsIn K mainGlobals "bool" = some none)
 : ∃fd:FuncData,(∀(s:Shared)(v:Value),BindsTo s fd ⟨[v],[]⟩ [("script",v)])/\∀Z:Heap,K.In Z->Z.Ns mainGlobals mg->Jd l.prog w K mg Z CX0 170 fa fd ["script"] (Ck.acy K):=by
 have e:=(cj X G U).symm.trans y9;cases e;have aF:Ck.Wf K Ds sts [f0,f1,f2,f3,f4,f5,f6,f7,f8,R,f10,f11,f12,f13,f14,f15,f16,f17,f18,f19,f20,f21,f22,f23,f24,f25,f26,f27,f28,f29,f30,f31,f32,fa] [_,_,_,_,_,_,_,_,_,_,_,_,_,_,_,_,_,_,_,_,_,_,_,_,_,_,_,_,_,_,_,_,_,_]:=(Ck.fE l0 (Ck.fE l1 (Ck.fE l2 (Ck.fE l3 (Ck.fE l4 (Ck.fE l5 (Ck.fE l6 (Ck.fE l7 (Ck.fE l8 (Ck.fE l9 (Ck.fE yy (Ck.fE uj (Ck.fE yk (Ck.fE q7 (Ck.fE u3 (Ck.fE zg (Ck.fE j1 (Ck.fE y4 (Ck.fE uu (Ck.fE qk (Ck.fE u4 (Ck.fE y2 (Ck.fE xv (Ck.fE zz (Ck.fE y7 (Ck.fE q1 (Ck.fE u1 (Ck.fE xx (Ck.fE y3 (Ck.fE xu (Ck.fE y8 (Ck.fE q2 (Ck.fE zv (Ck.fE u7 Ck.fN))))))))))))))))))))))))))))))))));have aG:Ck.Rw mg tab.fns [f0,f1,f2,f3,f4,f5,f6,f7,f8,R,f10,f11,f12,f13,f14,f15,f16,f17,f18,f19,f20,f21,f22,f23,f24,f25,f26,f27,f28,f29,f30,f31,f32,fa]:=(Ck.gS (cj X G a0) (Ck.gS (cj X G a1) (Ck.gS (cj X G a2) (Ck.gS (cj X G a3) (Ck.gS (cj X G a4) (Ck.gS (cj X G a5) (Ck.gS (cj X G a6) (Ck.gS (cj X G a7) (Ck.gS (cj X G a8) (Ck.gS (cj X G a9) (Ck.gS (cj X G x3) (Ck.gS (cj X G q4) (Ck.gS (cj X G x1) (Ck.gS (cj X G y0) (Ck.gS (cj X G q6) (Ck.gS (cj X G qq) (Ck.gS (cj X G zk) (Ck.gS (cj X G yv) (Ck.gS (cj X G zw) (Ck.gS (cj X G j2) (Ck.gS (cj X G u2) (Ck.gS (cj X G q0) (Ck.gS (cj X G j3) (Ck.gS (cj X G qv) (Ck.gS (cj X G x2) (Ck.gS (cj X G uk) (Ck.gS (cj X G jv) (Ck.gS (cj X G xy) (Ck.gS (cj X G y1) (Ck.gS (cj X G xw) (Ck.gS (cj X G y6) (Ck.gS (cj X G q5) (Ck.gS (cj X G q3) (Ck.gS (cj X G U) Ck.gN))))))))))))))))))))))))))))))))));have aV:Ck.Wg mg tab.al3:=(Ck.vC (cj X G v0) (Ck.vC (cj X G v1) (Ck.vC (cj X G v2) (Ck.vC (cj X G v3) Ck.vN))));have aB:Ck.AllB mg Ck.J7:=(Ck.bC (jk X G z0) (Ck.bC (jk X G z1) (Ck.bC (jk X G z2) (Ck.bC (jk X G z3) (Ck.bC (jk X G z4) (Ck.bC (jk X G z5) (Ck.bC (jk X G z6) (Ck.bC (jk X G z7) (Ck.bC (jk X G z8) (Ck.bC (jk X G z9) (Ck.bC (jk X G xk) (Ck.bC (jk X G y5) Ck.bN))))))))))));refine⟨fnOf "law" "law" (Gg (top 44)) (De (top 44)) (wg (top 44)) .none a2t a2u a2v a2w a2x a2y,λs v=>.of_eq rfl,λZ _ _=>?_⟩;obtain⟨d,a,f,g1,g2,g3,g4,g5⟩:=Ck.ar9 (P:=l.prog) (w:=w) (base:=Z) (n:=10) (i:=33) (F:=afn) chk a1w aF aG aV aB rfl;cases g1;cases g2;cases g3;exact g5.imp λvs H Q E hh=>Ck.amm (λns hl=>apb (by decide)) hh
end K73
open PySem PySem.W PyProof.Rows
namespace PySem.W.Fast
def tw12301621248548858988:=Nat
def tw3730779227884105042:=Nat
def tw9975615857454290705:=Nat
def tw13443921335712036718:=Nat
def tw4113603377965245710:=Nat
def tw5995479674504846654:=Nat
def tw584182142235659979:=Nat
def tw2289057100798431966:=Nat
def tw6096947649420725165:=Nat
def tw8667505542577609403:=Nat
def tw10086456783366393357:=Nat
def tw1449077050418534753:=Nat
def tw13287791304364793709:=Nat
def tw14375722992427466991:=Nat
def tw555976100424574499:=Nat
def tw17914018314720109080:=Nat
def tw884275144413705225:=Nat
def tw16455321995613012723:=Nat
def tw17789985029800815491:=Nat
def tw14850274511149313921:=Nat
def tw15827012874143921986:=Nat
def tw6041040517056573696:=Nat
def tw6192948686704143794:=Nat
def tw10371046403326305058:=Nat
def tw2823485856666834076:=Nat
def tw9743828662128816423:=Nat
def tw13032659430380101680:=Nat
def tw17128586673234428476:=Nat
def tw13205234666857077969:=Nat
def tw8332502517116020070:=Nat
def tw7843001969621300442:=Nat
def tw17269234341461641157:=Nat
def tw7705562220086840333:=Nat
def tw14464324895415654811:=Nat
def tw18223244751493743773:=Nat
def tw18013215416314466163:=Nat
def tw17387454036903848347:=Nat
def tw15419249718042646242:=Nat
def tw14701938011494351275:=Nat
def tw15587478520286464493:=Nat
def tw2876645115503604941:=Nat
def tw3140448116558703434:=Nat
def tw12375573277003025607:=Nat
def tw299735679774730496:=Nat
def tw17377427478246092665:=Nat
def tw17924772125473200623:=Nat
def tw17803395029535638384:=Nat
def tw17734350134758397368:=Nat
def tw10103248388820743082:=Nat
def tw3430395723798127623:=Nat
def tw18306682713677403518:=Nat
def tw4971065443650716256:=Nat
def tw2430548958061416656:=Nat
def tw6668528332063284832:=Nat
def tw8566411291539979631:=Nat
def tw8036474016493692246:=Nat
def tw9446725860507032835:=Nat
def tw8480574359276271033:=Nat
def tw10392890043282115970:=Nat
def tw9664618503992651142:=Nat
def tw11018121476527469360:=Nat
def tw5644602660359669690:=Nat
def tw6110568759759452230:=Nat
def tw6032399482884304621:=Nat
def tw15672650349041871594:=Nat
def tw10601789073793820457:=Nat
def tw5741196507247549582:=Nat
def tw6965036263400478246:=Nat
def tw1385111851864229703:=Nat
def tw16582650492340507335:=Nat
def tw12199768397570140488:=Nat
def tw13149675001472009302:=Nat
def tw10797477627418639053:=Nat
def tw7681599366520097879:=Nat
def tw5757105413156648780:=Nat
def tw7144272992658774707:=Nat
def tw15991123379928295287:=Nat
def tw9365351274859282655:=Nat
def tw9558273228464875592:=Nat
def tw3104828108034136956:=Nat
def tw12081071120676873696:=Nat
def tw10063748385898660843:=Nat
def tw10863962611397940526:=Nat
def tw1928848338100963106:=Nat
def tw8088776898772430676:=Nat
def tw18122524196769782041:=Nat
def tw15660045476227624324:=Nat
def tw5471738459136217498:=Nat
def tw13933908216906973066:=Nat
def tw261031145994330264:=Nat
def tw16419122373888500993:=Nat
def tw411242412166059463:=Nat
def tw17901564506622742768:=Nat
def tw5035017090995360304:=Nat
def tw15001491630790193141:=Nat
def tw12499393409356582452:=Nat
def tw5343302811051250525:=Nat
def tw16095460295819029681:=Nat
def tw15087672637525185815:=Nat
def tw13093733116956971516:=Nat
def tw4422006965410541229:=Nat
def tw3024947859381193271:=Nat
def tw486389014196278061:=Nat
def tw14399277882501979862:=Nat
def tw12825709098071244917:=Nat
def tw14285460457955561720:=Nat
def tw17975364664560808609:=Nat
def tw7444015873708193980:=Nat
def tw499663372685055492:=Nat
def tw18164426196798307737:=Nat
def tw16736511274042900380:=Nat
def tw937367005552568064:=Nat
def tw12196879173029653320:=Nat
def tw689226056484614992:=Nat
def tw9547183614033174351:=Nat
def tw17110992652293821814:=Nat
def tw12992486631789344798:=Nat
def tw2217968242857974233:=Nat
def tw10821162101794498296:=Nat
def tw16502288356161406820:=Nat
def tw15251138833566635172:=Nat
def tw16481360137028612729:=Nat
def tw1854902819775981229:=Nat
def tw15748617418933004834:=Nat
def tw10203972211849781540:=Nat
def tw12392968464933090939:=Nat
def tw13125125089391520025:=Nat
def tw12166755522013751389:=Nat
def tw12270826954689105410:=Nat
def tw14911617469243977982:=Nat
def tw11019889502787380123:=Nat
def tw10937277587001965479:=Nat
def tw5246450812076309997:=Nat
def tw5025797883661975895:=Nat
def tw10100678927574639746:=Nat
def tw15086916102380559344:=Nat
def tw11855091541601619366:=Nat
def tw4529958343886986174:=Nat
def tw17561764116890426023:=Nat
def tw7171568807263983059:=Nat
def tw7192854135932626318:=Nat
def tw9600856700992109545:=Nat
def tw16487668419918551571:=Nat
def tw70146612207093267:=Nat
def tw15161803953033137140:=Nat
def tw17144227754804123299:=Nat
def tw3505354157411885564:=Nat
def tw13038790797075604191:=Nat
def tw10545977980158104373:=Nat
def tw10441113770627196421:=Nat
def tw8457207223000771328:=Nat
def tw9836347203628357044:=Nat
def tw4013101557095406140:=Nat
def tw8138709071966465089:=Nat
def tw17325033812425417417:=Nat
def tw16349390720572967726:=Nat
def tw6293980382543005731:=Nat
def tw378359165501262981:=Nat
def tw8799390769014574636:=Nat
def tw16261300417511634185:=Nat
def tw17578102035490357243:=Nat
def tw17242418605478250722:=Nat
def tw10084542848169532065:=Nat
def tw2764453600257749263:=Nat
def tw8852859982955558508:=Nat
def tw1504261391646286774:=Nat
def tw8189762831043154481:=Nat
def tw3172438413372144378:=Nat
def tw15243793909395359258:=Nat
def tw11156296588699277586:=Nat
def tw17270812132267894764:=Nat
def tw16437778469957251846:=Nat
def tw16219898286218327736:=Nat
def tw13700079035332686628:=Nat
def tw13051178480514804024:=Nat
def tw12067155329797179703:=Nat
def tw4942166745788935698:=Nat
def tw15994636106095960674:=Nat
def tw12121591711678096782:=Nat
def tw9891865343416312415:=Nat
def tw9876784868070321050:=Nat
def tw9803568892846871553:=Nat
def tw9581546732286987266:=Nat
def tw9478102581457350983:=Nat
def tw9028198728048464016:=Nat
def tw8030791696862434623:=Nat
def tw7786004202253585505:=Nat
def tw7626148561878447188:=Nat
def tw6932605417642652762:=Nat
def tw6353406361623483388:=Nat
def tw6006972330306575121:=Nat
def tw5748972941947281825:=Nat
def tw566407180485338067:=Nat
def tw5152000664620057180:=Nat
def tw5078335061077294694:=Nat
def tw496708684061797404:=Nat
def tw4695490584111667340:=Nat
def tw3734747599295573731:=Nat
def tw3418891552798785395:=Nat
end PySem.W.Fast
set_option maxRecDepth 100000 in
set_option maxHeartbeats 0 in
theorem PySem.Challenge.cw_mapwright_k73_plain_sets_holds : PySem.Challenge.rw_mapwright_k73_plain_sets.Holds := by
 w_on;o_law;k_head;(case hw=>w_witness2)
 k_fill
 refine Ck.walk (l:=PySem.Challenge.rw_mapwright_k73_plain_sets) rfl rfl (λw h Y=>PySem.W.kIn_of Y) ?F
 case F =>
  intro w mg fa h KX G hmg;apply K73.all_mk KX G hmg<;>(try refine⟨?_,?_,?_⟩)<;>k_is
