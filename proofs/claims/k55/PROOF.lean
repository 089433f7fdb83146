import PyProof.Rows.All
import Wide.All
import OpenK.AllK
import Wide.FinOn
import Lean
import PyProof.EqAt
import PyProof.EqKinds
import PyProof.TupleCall
import PyProof.NeKinds
import PyProof.SetScanFacts
import PyProof.TupleKey
import PyProof.SetKind
import PyProof.IsRules
import PyProof.Rules
import PyProof.Rows.SetFrom
import PyProof.SetRoads
import KE.KDictOf
import PyProof.Rows.MinMaxN
import PyProof.ListRange
import PyProof.TupleOfGen
import PyProof.EnumMake
import PyProof.ZipIter
import PyProof.Rows.ZipGen
import PyProof.CollectWalk
import PyProof.ForAny
import PyProof.Rows.SortWalk
import PyProof.CollectIter
import PySem.Challenge.RW_mapwright_k55_leads_and_lacks
set_option Elab.async false
set_option linter.all false
set_option tactic.hygienic false
set_option genSizeOf false
set_option genInjectivity false
set_option maxRecDepth 100000
abbrev Zl:=List PySem.Value
abbrev Zp:=List (PySem.Addr×PySem.Obj)
abbrev Zs:=PySem.Str->Option PySem.Value
abbrev Y1:=PySem.Value->PySem.Shared->Prop
abbrev Y2:=Option (PySem.Str×Nat)
abbrev Y3:=List Nat
abbrev Ya:=List PySem.Expr
abbrev Yf:=List PySem.Str
abbrev X0:=List (PySem.Str×PySem.NameKind)
abbrev X9:=List PySem.Addr
abbrev Xs:=List Int
abbrev Xt:=List (PySem.Str×PySem.Addr)
abbrev U1:=Array PySem.Value
def je:=@Array.getElem?_eq_some_iff
def nq:=@Array.getElem?_toList
def u0:=@Array.length_toList
def ao:=@Bool.and_eq_true
def xm:=@Bool.eq_iff_iff
def cg:=@Bool.false_eq_true
def iu:=@Bool.false_ne_true
def yh:=@Bool.not_false
def qj:=@Bool.not_true
def w6:=@Classical.byContradiction
def yx:=@Int.emod_lt_of_pos
def Ah:=@Int.emod_nonneg
def t8:=@Int.toNat_natCast
def yj:=@List.Perm.refl
def ik:=@List.all_eq_true
def vo:=@List.any_eq_true
def Am:=@List.any_map
def xu:=@List.append_assoc
def Ai:=@List.append_nil
def yp:=@List.cons_append
def v8:=@List.ext_getElem?
def qm:=@List.find?_cons
def xf:=@List.findIdx?_eq_none_iff
def um:=@List.findIdx?_eq_some_iff_getElem
def dj:=@List.getD_eq_getElem?_getD
def dz:=@List.getElem?_append_left
def jf:=@List.getElem?_append_right
def dh:=@List.getElem?_eq_getElem
def j6:=@List.getElem?_eq_none
def ak:=@List.getElem?_eq_some_iff
def iz:=@List.getElem?_map
def uc:=@List.getElem?_range
def ur:=@List.getElem?_set_ne
def yw:=@List.getElem?_set_self
def xx:=@List.getElem?_zipIdx
def zu:=@List.getElem_inj
def p8:=@List.getElem_mem
def ou:=@List.getElem_of_mem
def tu:=@List.isEmpty_iff
def qz:=@List.length_append
def gn:=@List.length_cons
def yl:=@List.length_eq_zero_iff
def o4:=@List.length_filter_le
def du:=@List.length_map
def m6:=@List.lookup_cons
def ph:=@List.map_append
def qb:=@List.map_congr_left
def gm:=@List.map_cons
def yr:=@List.map_map
def dw:=@List.mem_append
def yc:=@List.mem_append_left
def il:=@List.mem_append_right
def bx:=@List.mem_cons
def bc:=@List.mem_cons_of_mem
def cz:=@List.mem_cons_self
def kj:=@List.mem_filter
def vm:=@List.mem_iff_getElem?
def bf:=@List.mem_map
def au:=@List.mem_of_getElem?
def jn:=@List.mem_range
def q9:=@List.mem_singleton
def zb:=@List.nil_append
def yd:=@List.nodup_append
def mz:=@List.nodup_cons
def zj:=@List.nodup_iff_pairwise_ne
def w5:=@List.nodup_nil
def wu:=@List.not_mem_nil
def yz:=@List.pairwise_cons
def u5:=@List.range_succ
def gr:=@List.size_toArray
def wy:=@Nat.le_add_right
def xg:=@Nat.le_of_lt
def bu:=@Nat.le_refl
def vf:=@Nat.le_succ
def gq:=@Nat.le_trans
def lq:=@Nat.lt_irrefl
def gh:=@Nat.lt_of_lt_of_le
def xj:=@Nat.lt_or_ge
def o5:=@Nat.lt_succ_of_lt
def m9:=@Nat.lt_succ_self
def vg:=@Nat.ne_of_gt
def fc:=@Nat.ne_of_lt
def xq:=@Nat.not_lt_zero
def uq:=@Nat.zero_add
def jt:=@Nat.zero_le
def jx:=@Ne.symm
def dm:=@Option.bind_eq_some_iff
def uo:=@Option.bind_some
def qd:=@Option.isSome_iff_exists
def bz:=@Option.map_eq_some_iff
def u9:=@Option.map_some
def jq:=@Option.some.inj
def t7:=@PyProof.Rows.F.entry_set_update_loop
def kh:=@PyProof.Rows.F.plain_set_update_loop
def vh:=@PyProof.Rows.callWith_builtin1
def jc:=@PyProof.Rows.callWith_type1
def jz:=@PySem.Around.under_plainId
def jy:=@PySem.Calls.spliced_cons
def qp:=@PySem.Calls.spliced_nil
def ug:=@PySem.F.called_set
def wg:=@PySem.F.slot_enumerate_next
def ux:=@PySem.F.slot_tuple_iterator_next
def jw:=@PySem.Heap.SameBut.update
def aq:=@PySem.Heap.get?_push_of_some
def bh:=@PySem.Heap.get?_push_size
def uf:=@PySem.Heap.get?_update_other
def lz:=@PySem.Heap.get?_update_self
def az:=@PySem.Heap.lt_size
def ie:=@PySem.Heap.size_push
def qt:=@PySem.W.kia_one
def jh:=@PySem.W.mg_none_of
def dq:=@PySem.W.mg_of
def my:=@PySem.codeAny_builtin
def vq:=@PySem.codeAny_mono
def ym:=@PySem.mem_of_lookup
def qg:=@PySem.sizeLine_eq
def vy:=@PySem.tupleKind_room_in1
def ig:=@PySem.wpAny_Call_Name_kw
def aa:=@PySem.wpAny_bind
def j0:=@PySem.wpAny_callSpecial?_slot
def jr:=@PySem.wpAny_call_entry
def qu:=@PySem.wpAny_dictEntries
def jb:=@PySem.wpAny_field
def pq:=@PySem.wpAny_forIn_list
def ji:=@PySem.wpAny_holding
def m8:=@PySem.wpAny_isInstance
def lg:=@PySem.wpAny_mono
def qw:=@PySem.wpAny_newObj_type
def ue:=@PySem.wpAny_passesOwn
def aj:=@PySem.wpAny_pure
def rm:=@PySem.wpAny_seqItems
def j9:=@PySem.wpAny_setEntries_of
def iw:=@PySem.wpAny_setField_rec
def jo:=@PySem.wpAny_setState_of
def j7:=@PySem.wpAny_truthy_bool
def uh:=@PySem.wpAny_typeOf
def qe:=@beq_eq_false_iff_ne
def yq:=@beq_self_eq_true
def ye:=@bne_self_eq_false
def p7:=@congrArg
def v9:=@decide_eq_false
def dg:=@decide_eq_true_eq
def jd:=@if_false
def bw:=@if_neg
def cj:=@if_pos
def ju:=@if_true
def j4:=@of_decide_eq_true
abbrev Fg:=PySem.W.Frag
def a_{a b c:Nat}(h:a<=b)(k:b<=c):a<=c:=gq h k
def b_{a b c:Nat}(h:a<b)(k:b<=c):a<c:=gh h k
def c_{a b c:Nat}(h:a<=b)(k:b<c):a<c:=Nat.lt_of_le_of_lt h k
def d_{a b c:Nat}(h:a<b)(k:b<c):a<c:=Nat.lt_trans h k
def e_{a b:Nat}(h:a<b):a<=b:=xg h
def f_{a b:Nat}(h:a=b):a<=b:=Nat.le_of_eq h
def g_{a b:Nat}(h:a=b):b<=a:=Nat.le_of_eq h.symm
def h_{a b:Nat}(h:a<b):a≠b:=fc h
def i_{a b:Nat}(h:b<a):a≠b:=vg h
def j_{a b:Nat}(h:b<=a):¬a<b:=Nat.not_lt_of_le h
def l_{p:Prop}{a b:Nat}(h:a<b)(k:b<=a):p:=absurd h (Nat.not_lt_of_le k)
def m_{a b:Nat}(h:a<b):(a:Int)<(b:Int):=Int.ofNat_lt.mpr h
def n_{a b:Nat}(h:a<=b):(a:Int)<=(b:Int):=Int.ofNat_le.mpr h
def o_{a b:Nat}(h:(a:Int)<(b:Int)):a<b:=Int.ofNat_lt.mp h
def q_{a:Nat}:(0:Int)<=(a:Int):=Int.natCast_nonneg a
def r_{a b c:Nat}(h:a+c<=b):a<=b-c:=Nat.le_sub_of_add_le h
def s_{a b:Nat}(h:¬a<b):b<=a:=Nat.le_of_not_lt h
def t_{a b:Nat}(h:¬a<=b):b<a:=Nat.lt_of_not_le h
def u_{a b:Nat}(h:a<=b)(k:b<=a):a=b:=Nat.le_antisymm h k
def v_{a b c:Nat}(h:a<=b):a+c<=b+c:=Nat.add_le_add_right h c
def w_{a b c:Nat}(h:a<=b):c+a<=c+b:=Nat.add_le_add_left h c
def x_{a b:Nat}:a<=a+b:=wy a b
def z_{a b:Nat}(h:a<b+1):a<=b:=Nat.le_of_lt_succ h
def A_{a b:Nat}(h:a<=b):a<b+1:=Nat.lt_succ_of_le h
def B_{a:Nat}:a<a+1:=m9 a
def C_{a b:Nat}:a-b<=a:=Nat.sub_le a b
def D_{a b:Nat}(h:(a:Int)=(b:Int)):a=b:=Int.ofNat_inj.mp h
def G_{a b c:Nat}(h:a<b):a+c<b+c:=Nat.add_lt_add_right h c
def H_{a b c:Nat}(h:a<b):c+a<c+b:=Nat.add_lt_add_left h c
def hG{P:Prop}(h:∀G:Prop,(P->G)->G):P:=h P id
namespace Xc
open PySem SetTable
def Srt(xs:Array Nat):Prop:=∀(i j a b:Nat),xs[i]?=some a->xs[j]?=some b->i<j->a<b
def aqn(hs:Srt xs):∀(fuel lo hi:Nat),lo<=hi->hi<=xs.size->hi-lo<=fuel ->
 (∀(i a:Nat),xs[i]?=some a->i<lo->a<j)->(∀(i a:Nat),xs[i]?=some a->hi<=i->j<=a) ->
 below.go xs j fuel lo hi<=xs.size/\(∀(i a:Nat),xs[i]?=some a->i<below.go xs j fuel lo hi->a<j)/\(∀(i a:Nat),xs[i]?=some a->below.go xs j fuel lo hi<=i->j<=a):=by
 intro fuel
 induction fuel with
 |zero =>
  intro lo hi h1 h2 h3 h4 h5;unfold below.go;have:lo=hi:=by lia
  subst this;exact⟨h2,h4,h5⟩
 |succ fuel ih =>
  intro lo hi h1 h2 h3 h4 h5;unfold below.go
  by_cases Ig:lo<hi
  . simp only[cj Ig]
    have hm:(lo+hi) / 2<xs.size:=by lia
    have hg:xs[(lo+hi) / 2]?=some xs[(lo+hi) / 2]:=by simp[hm]
    have hgd:xs.getD ((lo+hi) / 2) j=xs[(lo+hi) / 2]:=by simp[Array.getD,hm]
    rw[hgd]
    by_cases hc:xs[(lo+hi) / 2]<j
    . rw[cj hc]
      refine ih _ _ (by lia) h2 (by omega) (λi a e l=>?_) h5
      by_cases hi':i=(lo+hi) / 2
      . subst hi';rw[hg] at e;cases e;exact hc
      . exact Nat.lt_trans (hs _ _ _ _ e hg (by lia)) hc
    . rw[bw hc]
      refine ih _ _ (by lia) (e_ hm) (by omega) h4 (λi a e l=>?_)
      by_cases hi':i=(lo+hi) / 2
      . subst hi';rw[hg] at e;cases e;exact s_ hc
      . have:=hs _ _ _ _ hg e (by lia);exact e_ (c_ (s_ hc) this)
  . rw[bw Ig]
    have:lo=hi:=u_ h1 (s_ Ig);subst this;exact⟨h2,h4,h5⟩
def Dp(hs:Srt xs):below xs j<=xs.size/\(∀(i a:Nat),xs[i]?=some a->i<below xs j->a<j)/\(∀(i a:Nat),xs[i]?=some a->below xs j<=i->j<=a) :=
 aqn hs _ _ _ (jt _) (bu _) C_ (λi a _ h=>absurd h (xq _)) (λi a e h=>by
  have:=(je.mp e).1;lia)
def below_at(hs:Srt xs)(h:xs[i]?=some j):below xs j=i:=by
 obtain⟨h1,h2,h3⟩:=Dp (j:=j) hs;rcases Nat.lt_trichotomy (below xs j) i with l|l|l
 . have li:=(je.mp h).1
   have hg:xs[below xs j]?=some xs[below xs j]:=by simp
   have a:=h3 _ _ hg (bu _);have b:=hs _ _ _ _ hg h l
   lia
 . exact l
 . have:=h2 _ _ h l;lia
def Xd(j:Nat):has #[] j=false:=by simp[has]
set_option tactic.hygienic true in
def Qt{t:SetTable}(hs:Srt t.place):t.slot j=.live i↔t.place[i]?=some j:=by
 unfold slot;constructor
 . intro h
   dsimp only at h;split at h
   . rename_i e;cases h;simpa using e
   . split at h<;>cases h
 . intro h
   dsimp only;rw[below_at hs h,h];simp
def ad9{t:SetTable}(hs:Srt t.place)(hd:t.dummies=#[]):t.slot j=.empty↔∀i:Nat,t.place[i]?≠some j:=by
 constructor
 . intro h i e
   rw[(Qt hs).mpr e] at h;cases h
 . intro h
   unfold slot;dsimp only;rw[hd,Xd,bw (by simpa using h _)];rfl
def Jf(xs:Array α)(p:Nat)(x:α)(hp:p<=xs.size)(i:Nat):(insertAt xs p x)[i]?=if i<p then xs[i]? else if i=p then some x else xs[i-1]?:=by
 rw[<- nq,toList_insertAt];have hl:(xs.toList.take p).length=p:=by simp;lia
 by_cases h1:i<p
 . rw[cj h1,dz (b_ h1 (g_ hl)),List.getElem?_take,cj h1,nq]
 . rw[bw h1,jf (a_ (f_ hl) (s_ h1)),hl]
   by_cases h2:i=p
   . subst h2;simp
   . rw[bw h2]
     obtain⟨q,hq⟩:∃q,i=p+q+1:=⟨i-p-1,by lia⟩;subst hq;rw[show p+q+1-p=q+1 by lia,List.getElem?_cons_succ,List.getElem?_drop,show p+q+1-1=p+q by lia,nq]
def Kp(xs:Array α)(p:Nat)(x:α):(insertAt xs p x).size=xs.size+1:=by have:=(insertAt_perm xs p x).length_eq;simpa using this
noncomputable def up(p i:Nat):Nat:=if i<p then i else i+1
def Od(xs:Array α)(p:Nat)(x:α)(hp:p<=xs.size)(i:Nat):(insertAt xs p x)[up p i]?=xs[i]?:=by
 rw[Jf xs p x hp];unfold up
 by_cases h:i<p
 . simp[h]
 . rw[bw h,bw (j_ (a_ (s_ h) x_)),bw (i_ (A_ (s_ h)))];rfl
def Ih(xs:Array α)(p:Nat)(x:α)(hp:p<=xs.size):(insertAt xs p x)[p]?=some x:=by rw[Jf xs p x hp];simp
def Nb(p i:Nat):i=p\/∃k,i=up p k:=by
 unfold up;rcases Nat.lt_trichotomy i p with h|h|h
 . exact .inr ⟨i,by simp[h]⟩
 . exact .inl h
 . exact .inr ⟨i-1,by rw[bw (by omega)];lia⟩
def aqo(hs:Srt xs)(hn:∀i:Nat,xs[i]?≠some j):Srt (insertAt xs (below xs j) j):=by
 obtain⟨h1,h2,h3⟩:=Dp (j:=j) hs;intro a b x y ea eb l;rcases Nb (below xs j) a with rfl|⟨a',rfl⟩<;>rcases Nb (below xs j) b with hb|⟨b',rfl⟩
 . subst hb;lia
 . rw[Ih _ _ _ h1] at ea
   rw[Od _ _ _ h1] at eb;cases ea;have:below xs j<=b':=by unfold up at l;split at l<;>omega
   have g:=h3 _ _ eb this;rcases Nat.lt_or_eq_of_le g with g|g
   . exact g
   . subst g;exact absurd eb (hn _)
 . subst hb
   rw[Ih _ _ _ h1] at eb;rw[Od _ _ _ h1] at ea;cases eb;exact h2 _ _ ea (by unfold up at l;split at l<;>omega)
 . rw[Od _ _ _ h1] at ea eb
   exact hs _ _ _ _ ea eb (by unfold up at l;split at l<;>split at l<;>omega)
noncomputable def adv(m:Nat)(p:Probe):Probe:=({ SetTable.fresh 0 0 true with mask:=m }:SetTable).advance p
def aw3(t:SetTable)(p:Probe):t.advance p=adv t.mask p:=rfl
def Yz(h:p.more > 0):adv m p={ p with j:=p.j+1,more:=p.more-1 }:=cj h
def Uu(h:¬p.more > 0):adv m p={ p with j:=(leap m p.i p.perturb).1,more:=runEnd m (leap m p.i p.perturb).1-(leap m p.i p.perturb).1,i:=(leap m p.i p.perturb).1,perturb:=(leap m p.i p.perturb).2 }:=bw h
noncomputable def beg(m i pt:Nat):Probe:={ j:=i,more:=runEnd m i-i,i:=i,perturb:=pt,dummy:=none }
noncomputable def P(m:Nat)(h:Int):Nat->Probe
 |0=>beg m (bits h%(m+1)) (bits h)|n+1=>adv m (P m h n)
def aa2(t:SetTable)(h:Int):t.probeStart h=P t.mask h 0:=rfl
theorem Y0(m:Nat)(h:Int):∀n,(P m h n).dummy=none
 |0=>rfl
 |n+1=>by
  show(adv m (P m h n)).dummy=none
  by_cases q:(P m h n).more > 0
  . rw[Yz q];exact Y0 m h n
  . rw[Uu q];exact Y0 m h n
noncomputable def I(m:Nat)(h:Int):Nat->Nat
 |0=>bits h%(m+1)|T+1=>(I m h T*5+1+bits h / 32 ^ (T+1))%(m+1)
def aqp(m i:Nat):runEnd m i-i<=9:=by unfold runEnd;split<;>lia
theorem aa3{m:Nat}{h:Int}{n i pt:Nat}(e:P m h n=beg m i pt):∀c,c<=runEnd m i-i->P m h (n+c)={ j:=i+c,more:=runEnd m i-i-c,i:=i,perturb:=pt,dummy:=none }
 |0,_=>by rw[Nat.add_zero,e];rfl
 |c+1,hc=>by
  have:=aa3 e c (by lia);show adv m (P m h (n+c))=_;rw[this,Yz (by show 0<runEnd m i-i-c;lia)];simp only
  congr 1
def akt(e:P m h n=beg m i pt):P m h (n+(runEnd m i-i)+1)=beg m ((i*5+1+pt / 32)%(m+1)) (pt / 32):=by show adv m (P m h (n+(runEnd m i-i)))=_;rw[aa3 e _ (bu _),Uu (by simp)];rfl
theorem aku(m:Nat)(h:Int):∀T,∃n,n<=10*T/\P m h n=beg m (I m h T) (bits h / 32 ^ T)
 |0=>⟨0,jt _,by simp[P,I]⟩
 |T+1=>by
  obtain⟨n,h1,h2⟩:=aku m h T;have:=aqp m (I m h T);refine⟨_,?_,(akt h2).trans ?_⟩
  . lia
  . rw[Nat.div_div_eq_div_mul,<- Nat.pow_succ];rfl
noncomputable def f5(m x:Nat):Nat:=(x*5+1)%(m+1)
noncomputable def it(m:Nat):Nat->Nat->Nat
 |0,x=>x|k+1,x=>f5 m (it m k x)
theorem Uv(m a x:Nat):∀k,it m (a+k) x=it m k (it m a x)
 |0=>rfl|k+1=>by show f5 m (it m (a+k) x)=_;rw[Uv m a x k];rfl
def Cov(m:Nat):Prop:=∀i j,i<=m->j<=m->∃k,k<=m/\it m k i=j
def aw4(h0:it m (m+1) 0=0)(h:∀j,j<=m->∃k,k<=m/\it m k 0=j):Cov m:=λi j hi hj=>by
 obtain⟨a,la,ea⟩:=h i hi;obtain⟨b,lb,eb⟩:=h j hj
 by_cases hab:a<=b
 . refine⟨b-a,a_ C_ lb,?_⟩
   rw[<- ea,<- Uv,show a+(b-a)=b by lia,eb]
 . refine⟨m+1+b-a,by omega,?_⟩
   rw[<- ea,<- Uv,show a+(m+1+b-a)=(m+1)+b by lia,Uv,h0,eb]
noncomputable def orb(m:Nat):Nat->Nat->List Nat
 |0,_=>[]|k+1,x=>x::orb m k (f5 m x)
theorem afy{m:Nat}:∀{k x j:Nat},j∈orb m k x->∃q,q<k/\it m q x=j
 |0,_,_,h=>by simp[orb] at h
 |k+1,x,j,h=>by
  simp only[orb,bx] at h;rcases h with rfl|h
  . exact⟨0,A_ (jt _),rfl⟩
  . obtain⟨q,l,e⟩:=afy h
    refine⟨1+q,by lia,?_⟩;rw[Uv];exact e
def O6(h0:it m (m+1) 0=0)(h:((List.range (m+1)).all λj=>(orb m (m+1) 0).contains j)=true):Cov m :=
 aw4 h0 λj hj=>by have:=ik.mp h j (by simp;exact A_ hj);obtain⟨q,l,e⟩:=afy (by simpa using this);exact⟨q,z_ l,e⟩
def Msk(m:Nat):Prop:=m=7\/m=15\/m=31\/m=63\/m=127
def bag:Cov 7:=O6 (by decide+kernel) (by decide+kernel)
def a2w:Cov 15:=O6 (by decide+kernel) (by decide+kernel)
def a2x:Cov 31:=O6 (by decide+kernel) (by decide+kernel)
def a2y:Cov 63:=O6 (by decide+kernel) (by decide+kernel)
def aw5:Cov 127:=O6 (by decide+kernel) (by decide+kernel)
def Msk.cov(h:Msk m):Cov m:=by
 rcases h with rfl|rfl|rfl|rfl|rfl
 . exact bag
 . exact a2w
 . exact a2x
 . exact a2y
 . exact aw5
def aqq(h:Int):bits h<2 ^ 64:=by
 unfold bits;have h1:=Ah h (b:=2 ^ 64) (by decide);have h2:=yx h (b:=2 ^ 64) (by decide)
 lia
theorem a2z(m:Nat)(h:Int):∀T,I m h T<=m
 |0=>Nat.le_of_lt_succ (Nat.mod_lt (bits h) (Nat.succ_pos m))|T+1=>Nat.le_of_lt_succ (Nat.mod_lt (I m h T*5+1+bits h / 32 ^ (T+1)) (Nat.succ_pos m))
theorem akv(m:Nat)(h:Int):∀k,I m h (13+k)=it m k (I m h 13)
 |0=>rfl
 |k+1=>by
  show(I m h (13+k)*5+1+bits h / 32 ^ (13+k+1))%(m+1)=f5 m (it m k (I m h 13));have:bits h / 32 ^ (13+k+1)=0:=by
   apply Nat.div_eq_of_lt;refine gh (aqq h) ?_
   calc 2 ^ 64<=32 ^ 13:=by decide
    _<=32 ^ (13+k+1):=Nat.pow_le_pow_right (by decide) (a_ x_ x_)
  rw[this,akv m h k];rfl
def cover(hm:Msk m)(h:Int)(j:Nat)(hj:j<=m):∃T,T<=13+m/\I m h T=j:=by obtain⟨k,lk,e⟩:=hm.cov (I m h 13) j (a2z m h 13) hj;exact⟨13+k,w_ lk,(akv m h k).trans e⟩
def aqr(hm:Msk m)(h:Int)(j:Nat)(hj:j<=m):∃n,n<10*turns m/\(P m h n).j=j:=by obtain⟨T,lT,e⟩:=cover hm h j hj;obtain⟨n,ln,e2⟩:=aku m h T;exact⟨n,by unfold turns;lia,by rw[e2];exact e⟩
def mod_le(a m:Nat):a%(m+1)<=m:=Nat.le_of_lt_succ (Nat.mod_lt a (Nat.succ_pos m))
def Qu(h:i<=m):i<=runEnd m i/\runEnd m i<=m:=by unfold runEnd;split<;>omega
theorem a3a(m:Nat)(h:Int):∀n,(P m h n).j+(P m h n).more<=m
 |0=>by
  have:=Qu (mod_le (bits h) m);show bits h%(m+1)+(runEnd m (bits h%(m+1))-bits h%(m+1))<=m
  omega
 |n+1=>by
  have ih:=a3a m h n;show(adv m (P m h n)).j+(adv m (P m h n)).more<=m
  by_cases q:(P m h n).more > 0
  . rw[Yz q];simp only;lia
  . rw[Uu q]
    have:=Qu (mod_le ((P m h n).i*5+1+(P m h n).perturb / 32) m);show(leap m (P m h n).i (P m h n).perturb).1+(runEnd m (leap m (P m h n).i (P m h n).perturb).1-(leap m (P m h n).i (P m h n).perturb).1)<=m
    have e:(leap m (P m h n).i (P m h n).perturb).1=((P m h n).i*5+1+(P m h n).perturb / 32)%(m+1):=rfl;rw[e];omega
def bah(m:Nat)(h:Int)(n:Nat):(P m h n).j<=m:=by have:=a3a m h n;lia
def Occ(t:SetTable)(j:Nat):Prop:=∃i:Nat,t.place[i]?=some j
structure Xe(t:SetTable)(es:Array (Int×Value)):Prop where
 msk:Msk t.mask
 dum:t.dummies=#[]
 Xf:t.place.size=es.size
 srt:Srt t.place
 bnd:∀(i j:Nat),t.place[i]?=some j->j<=t.mask
 ful:t.place.size<=t.mask
 rch:∀(i j:Nat) e,t.place[i]?=some j->es[i]?=some e->∃n,(P t.mask e.1 n).j=j/\∀m,m<n->Occ t (P t.mask e.1 m).j
theorem Xe.fits(k:Xe t es):t.fits es.size=true:=by unfold SetTable.fits fill;rw[k.dum];simp[k.Xf];have:=k.ful;have:=k.Xf;lia
def Msk.odd(h:Msk m):m%2=1:=by rcases h with rfl|rfl|rfl|rfl|rfl<;>rfl
def Xe.way(k:Xe t es):t.gaveWay=false:=by unfold gaveWay;rw[k.msk.odd];rfl
def akx(hs:Srt xs)(h:xs.size<=m):∃j,j<=m/\∀i:Nat,xs[i]?≠some j:=by
 apply w6;intro hn;have all:∀j,j<=m->∃i:Nat,xs[i]?=some j:=λj hj=>by apply w6;intro hc;exact hn ⟨j,hj,λi e=>hc ⟨i,e⟩⟩
 have:∀j,j<=m->∀i:Nat,xs[i]?=some j->j<=i:=by
  intro j
  induction j with
  |zero=>intro _ i _;exact jt _
  |succ j ih =>
   intro hj i e;obtain⟨i',e'⟩:=all j (by lia);have:=ih (by lia) i' e';rcases Nat.lt_trichotomy i i' with l|l|l
   . have:=hs _ _ _ _ e e' l;lia
   . subst l;rw[e] at e';injection e' with e';exact a_ (f_ e') this
   . exact a_ (v_ this) l
 obtain⟨i,e⟩:=all m (bu _);have h1:=this m (bu _) i e;have h2:=(je.mp e).1;exact l_ h2 (a_ h h1)
structure Fst(t:SetTable)(h:Int)(N:Nat):Prop where
 lt:N<10*turns t.mask
 emp:¬Occ t (P t.mask h N).j
 occ:∀m,m<N->Occ t (P t.mask h m).j
def least{p:Nat->Prop}:∀{n:Nat},p n->∃k,k<=n/\p k/\∀m,m<k->¬p m:=by
 intro n
 induction n using Nat.strongRecOn with
 |ind n ih =>
  intro h
  by_cases hc:∃m,m<n/\p m
  . obtain⟨m,l,hm⟩:=hc
    obtain⟨k,l2,a,b⟩:=ih m l hm;exact⟨k,e_ (c_ l2 l),a,b⟩
  . exact⟨n,bu _,h,λm l hm=>hc ⟨m,l,hm⟩⟩
def Xe.fst(k:Xe t es)(h:Int):∃N,Fst t h N:=by obtain⟨j,hj,e⟩:=akx k.srt k.ful;obtain⟨n,ln,en⟩:=aqr k.msk h j hj;obtain⟨N,l,a,b⟩:=least (p:=λn=>¬Occ t (P t.mask h n).j) (n:=n) (λ⟨i,c⟩=>e i (by rw[en] at c;exact c));exact⟨N,c_ l ln,a,λm hm=>Classical.not_not.mp (b m hm)⟩
theorem aky(k:Xe t es)(F:Fst t h N)(ha:Nat->Int):∀(fuel n:Nat),n<=N->N-n<fuel ->
 (probe.go t ha h fuel (P t.mask h n)=some (.empty (P t.mask h N).j none)/\∀m,n<=m->m<N->∀i:Nat,t.place[i]?=some (P t.mask h m).j->ha i≠h)
\/∃m i:Nat,n<=m/\m<N/\t.place[i]?=some (P t.mask h m).j/\ha i=h/\(∀q,n<=q->q<m->∀i:Nat,t.place[i]?=some (P t.mask h q).j->ha i≠h)
 /\probe.go t ha h fuel (P t.mask h n)=some (.candidate (P t.mask h m).j i (P t.mask h (m+1))):=by
 intro fuel
 induction fuel with
 |zero=>intro n _ l;omega
 |succ fuel ih =>
  intro n hn l;unfold probe.go
  by_cases e:n=N
  . subst e
    left
    rw[(ad9 k.srt k.dum).mpr (λi c=>F.emp ⟨i,c⟩)];simp only;rw[Y0];exact⟨rfl,λm a b=>by lia⟩
  . obtain⟨i,hi⟩:=F.occ n (by lia)
    rw[(Qt k.srt).mpr hi];simp only[aw3];have hnx:adv t.mask (P t.mask h n)=P t.mask h (n+1):=rfl;rw[hnx]
    by_cases hh:ha i=h
    . right
      refine⟨n,i,bu _,by lia,hi,hh,λq a b=>by lia,?_⟩;rw[cj (by simp[hh])]
    . rw[bw (by simp[hh])]
      have un:∀i':Nat,t.place[i']?=some (P t.mask h n).j->ha i'≠h:=λi' e'=>by have a:=below_at k.srt e';have b:=below_at k.srt hi;rw[<- a,b];exact hh
      rcases ih (n+1) (by lia) (by lia) with⟨a,b⟩|⟨m,i',a,b,c,d,e1,e2⟩
      . left
        refine⟨a,λm x y=>?_⟩
        by_cases q:m=n
        . subst q;exact un
        . exact b m (by lia) y
      . right
        refine⟨m,i',by lia,b,c,d,λq x y=>?_,e2⟩
        by_cases z:q=n
        . subst z;exact un
        . exact e1 q (by lia) y
def Xe.ahead(k:Xe t es)(F:Fst t h N){i:Nat}(he:es[i]?=some e)(hh:e.1=h):∃m,m<N/\t.place[i]?=some (P t.mask h m).j:=by
 have li:i<t.place.size:=by rw[k.Xf];exact(je.mp he).1
 have hp:t.place[i]?=some t.place[i]:=by simp[li]
 obtain⟨n,a,b⟩:=k.rch i _ e hp he;subst hh;refine⟨n,?_,by rw[a];exact hp⟩;rcases Nat.lt_trichotomy n N with l|l|l
 . exact l
 . subst l;exact absurd ⟨i,by rw[a];exact hp⟩ F.emp
 . exact absurd (b N l) F.emp
def Y4(hs:Srt t.place)(q:Nat):Occ (t.put j).1 q↔q=j\/Occ t q:=by
 obtain⟨h1,h2,h3⟩:=Dp (j:=j) hs;constructor
 . rintro⟨i,e⟩
   have e:(insertAt t.place (below t.place j) j)[i]?=some q:=e;rcases Nb (below t.place j) i with rfl|⟨i',rfl⟩
   . rw[Ih _ _ _ h1] at e;cases e;exact .inl rfl
   . rw[Od _ _ _ h1] at e;exact .inr ⟨i',e⟩
 . rintro(rfl|⟨i,e⟩)
   . exact⟨_,Ih _ _ _ h1⟩
   . exact⟨up (below t.place j) i,(Od _ _ _ h1 i).trans e⟩
theorem Xe.put(k:Xe t es)(F:Fst t h N)(room:t.place.size+1<=t.mask) :
 Xe (t.put (P t.mask h N).j).1 (insertAt es (t.put (P t.mask h N).j).2 (h,x)):=by
 obtain⟨h1,h2,h3⟩:=Dp (j:=(P t.mask h N).j) k.srt;have h1':below t.place (P t.mask h N).j<=es.size:=by rw[<- k.Xf];exact h1
 refine⟨k.msk,?_,?_,?_,?_,?_,?_⟩
 . show(if has t.dummies _ then _ else t.dummies)=#[]
   rw[k.dum,Xd];rfl
 . show(insertAt t.place _ _).size=(insertAt es _ _).size
   rw[Kp,Kp,k.Xf]
 . exact aqo k.srt (λi e=>F.emp ⟨i,e⟩)
 . intro i j e
   rcases(Y4 k.srt j).mp ⟨i,e⟩ with rfl|⟨i',e'⟩
   . exact bah _ _ _
   . exact k.bnd i' j e'
 . show(insertAt t.place _ _).size<=t.mask
   rw[Kp];exact room
 . intro i j e hp he
   have hp:(insertAt t.place (below t.place (P t.mask h N).j) (P t.mask h N).j)[i]?=some j:=hp;have he:(insertAt es (below t.place (P t.mask h N).j) (h,x))[i]?=some e:=he;show ∃n,(P t.mask e.1 n).j=j/\∀m,m<n->Occ (t.put (P t.mask h N).j).1 (P t.mask e.1 m).j
   rcases Nb (below t.place (P t.mask h N).j) i with rfl|⟨i',rfl⟩
   . rw[Ih _ _ _ h1] at hp
     rw[Ih _ _ _ h1'] at he;cases hp;cases he;exact⟨N,rfl,λm l=>(Y4 k.srt _).mpr (.inr (F.occ m l))⟩
   . rw[Od _ _ _ h1] at hp
     rw[Od _ _ _ h1'] at he;obtain⟨n,a,b⟩:=k.rch i' j e hp he;exact⟨n,a,λm l=>(Y4 k.srt _).mpr (.inr (b m l))⟩
abbrev OcO(ow:Array (Option Nat))(j:Nat):Prop:=∃i,ow[j]?=some (some i)
structure Own(m:Nat)(ow:Array (Option Nat))(hs:Xs):Prop where
 Xf:ow.size=m+1
 cnt:ow.toList.countP Option.isSome=hs.length
 lt:∀(j i:Nat),ow[j]?=some (some i)->i<hs.length
 inj:∀(j j' i:Nat),ow[j]?=some (some i)->ow[j']?=some (some i)->j=j'
 at':∀(i:Nat) h,hs[i]?=some h->∃j n,ow[j]?=some (some i)/\(P m h n).j=j/\∀q,q<n->OcO ow (P m h q).j
def getD_none{ow:Array (Option Nat)}(hz:ow.size=m+1)(h:(ow.getD j (some 0)).isNone=true):ow[j]?=some none:=by
 by_cases l:j<ow.size
 . simp[Array.getD,l] at h;simp[l,h]
 . simp[Array.getD,l] at h
def getD_some(hz:ow.size=m+1)(hj:j<=m)(h:¬(ow.getD j (some 0)).isNone=true):OcO ow j:=by
 have l:j<ow.size:=by lia
 simp[Array.getD,l] at h;unfold OcO;rw[show ow[j]?=some ow[j] by simp[l]];cases e:ow[j] with
 |none=>exact absurd e h|some i=>exact⟨i,rfl⟩
def aij(hz:ow.size=m+1)(h:Int):∀(fuel T n:Nat),P m h n=beg m (I m h T) (bits h / 32 ^ T)->(∀q,q<n->OcO ow (P m h q).j) ->
 (∃k,k<fuel/\ow[I m h (T+k)]?=some none)->∃j n',layClean.free m ow fuel (I m h T) (bits h / 32 ^ T)=some j/\(P m h n').j=j/\ow[j]?=some none/\∀q,q<n'->OcO ow (P m h q).j:=by
 intro fuel
 induction fuel with
 |zero=>rintro T n _ _ ⟨k,l,_⟩;lia
 |succ fuel ih =>
  rintro T n e hq ⟨k,lk,ek⟩;have hI:=a2z m h T;obtain⟨r1,r2⟩:=Qu hI;unfold layClean.free;cases hf:(List.range (runEnd m (I m h T)+1-I m h T)).find? λk=>(ow.getD (I m h T+k) (some 0)).isNone with
  |some c =>
   obtain⟨a,b,d⟩:=List.find?_range_eq_some.mp hf;have b:=jn.mp b;refine⟨_,n+c,rfl,by rw[aa3 e c (by omega)],getD_none hz a,λq l=>?_⟩
   by_cases hn:q<n
   . exact hq q hn
   . obtain⟨c',rfl⟩:∃c',q=n+c':=⟨q-n,by lia⟩
     rw[aa3 e c' (by lia)];show OcO ow (I m h T+c');exact getD_some hz (by lia) (λhh=>by
      have:=d c' (by lia);simp only[hh] at this;cases this)
  |none =>
   have Cm:=List.find?_eq_none.mp hf;have occ:∀c,c<=runEnd m (I m h T)-I m h T->OcO ow (I m h T+c):=λc hc=>getD_some hz (by lia) (Cm c (jn.mpr (by lia)))
   cases k with
   |zero =>
    obtain⟨i,ei⟩:=occ 0 (jt _);rw[Nat.add_zero] at ek ei;rw[ek] at ei;cases ei
   |succ k =>
    have pe:bits h / 32 ^ T / 32=bits h / 32 ^ (T+1):=by rw[Nat.div_div_eq_div_mul,<- Nat.pow_succ]
    have:=ih (T+1) (n+(runEnd m (I m h T)-I m h T)+1) (by rw[akt e,pe];rfl) (λq l=>?_) ⟨k,by lia,by rw[show T+1+k=T+(k+1) by lia];exact ek⟩
    . obtain⟨j,n',e1,e2⟩:=this
      refine⟨j,n',?_,e2⟩;rw[<- e1];show layClean.free m ow fuel ((I m h T*5+1+bits h / 32 ^ T / 32)%(m+1)) (bits h / 32 ^ T / 32)=_;rw[pe];rfl
    . by_cases hn:q<n
      . exact hq q hn
      . obtain⟨c',rfl⟩:∃c',q=n+c':=⟨q-n,by lia⟩
        rw[aa3 e c' (by lia)];show OcO ow (I m h T+c');exact occ c' (by lia)
def Own.room(k:Own m ow hs)(h:hs.length<=m):∃j,j<=m/\ow[j]?=some none:=by
 apply w6;intro hn;have:ow.toList.countP Option.isSome=ow.toList.length:=List.countP_eq_length.mpr λa ha=>by
  obtain⟨j,hj,e⟩:=ou ha;cases a with
  |some i=>rfl
  |none =>
   have hj':j<ow.size:=by simpa using hj
   refine absurd ⟨j,by have:=k.Xf;exact z_ (b_ hj' (f_ this)),?_⟩ hn;rw[<- nq,dh hj,e]
 rw[k.cnt] at this;have:=k.Xf;simp at *
 lia
theorem Own.free(hm:Msk m)(k:Own m ow hs)(hl:hs.length<=m)(h:Int):∃j n',layClean.free m ow (turns m) (bits h%(m+1)) (bits h)=some j/\(P m h n').j=j/\ow[j]?=some none/\∀q,q<n'->OcO ow (P m h q).j:=by obtain⟨j,hj,e⟩:=k.room hl;obtain⟨T,lT,eT⟩:=cover hm h j hj;have:=aij k.Xf h (turns m) 0 0 (by simp[P,I]) (λq l=>by lia) ⟨T,by unfold turns;lia,by rw[uq,eT];exact e⟩;simpa[I] using this
def Own.lay(k:Own m ow hs)(e1:(P m h n').j=j)(e2:ow[j]?=some none)(e3:∀q,q<n'->OcO ow (P m h q).j) :
 Own m (ow.setIfInBounds j (some hs.length)) (hs++[h]):=by
 have lj:j<ow.size:=(je.mp e2).1
 have get:∀q:Nat,(ow.setIfInBounds j (some hs.length))[q]?=if j=q then some (some hs.length) else ow[q]?:=λq=>by rw[Array.getElem?_setIfInBounds];split<;>simp_all
 have occ:∀q,OcO ow q->OcO (ow.setIfInBounds j (some hs.length)) q:=λq ⟨i,e⟩=>by refine⟨i,?_⟩;rw[get,bw (λh=>by subst h;rw[e2] at e;cases e)];exact e
 refine⟨by simp[k.Xf],?_,λq i e=>?_,λq q' i e e'=>?_,λi h' e=>?_⟩
 . rw[Array.toList_setIfInBounds,List.countP_set (by simpa using lj),k.cnt]
   have:ow.toList[j]'(by simpa using lj)=none:=by have:=(je.mp e2).2;simpa using this
   rw[this];simp
 . rw[get] at e
   split at e
   . cases e;simp
   . have:=k.lt q i e;simp;exact A_ (e_ this)
 . rw[get] at e e'
   split at e<;>split at e'
   . lia
   . cases e;have:=k.lt _ _ e';lia
   . cases e';have:=k.lt _ _ e;lia
   . exact k.inj q q' i e e'
 . by_cases l:i<hs.length
   . rw[dz l] at e
     obtain⟨j',n,a,b,c⟩:=k.at' i h' e;refine⟨j',n,?_,b,λq l=>occ _ (c q l)⟩;rw[get,bw (λh=>by subst h;rw[e2] at a;cases a)];exact a
   . have hi:i=hs.length:=by
      have:=(ak.mp e).1;simp at this;exact u_ (z_ this) (s_ l)
     subst hi;simp at e;subst e;exact⟨j,n',by rw[get,cj rfl],e1,λq l=>occ _ (e3 q l)⟩
theorem afz{m:Nat}(hm:Msk m):∀(rest hs:Xs)(ow:Array (Option Nat)),Own m ow hs->hs.length+rest.length<=m+1 ->
 ∃ow',rest.foldl (λacc h=>do
  let (owner,k) <- acc
  let j <- layClean.free m owner (turns m) (bits h%(m+1)) (bits h)
  pure (owner.setIfInBounds j (some k),k+1)) (some (ow,hs.length))=some (ow',hs.length+rest.length)/\Own m ow' (hs++rest)
 |[],hs,ow,k,_=>⟨ow,rfl,by simpa using k⟩
 |h::rest,hs,ow,k,l=>by
  obtain⟨j,n',e0,e1,e2,e3⟩:=k.free hm (by simp at l;lia) h;have k':=k.lay e1 e2 e3;obtain⟨ow',a,b⟩:=afz hm rest (hs++[h]) _ k' (by simp at l ⊢;lia);refine⟨ow',?_,by simpa using b⟩;rw[List.foldl_cons];have:(do
   let (owner,k) <- some (ow,hs.length)
   let j <- layClean.free m owner (turns m) (bits h%(m+1)) (bits h)
   pure (owner.setIfInBounds j (some k),k+1))=some (ow.setIfInBounds j (some hs.length),(hs++[h]).length):=by
   show(layClean.free m ow (turns m) (bits h%(m+1)) (bits h) >>= _)=_;rw[e0];simp
  rw[this,a]
  simp;lia
def akz(hm:Msk m)(hs:Array Int)(l:hs.size<=m+1):∃ow,layClean m hs=some ow/\Own m ow hs.toList:=by have k0:Own m (Array.replicate (m+1) none) []:=⟨by simp,by simp,λj i e=>by simp[Array.getElem?_replicate] at e,λj j' i e=>by simp[Array.getElem?_replicate] at e,λi h e=>by simp at e⟩;obtain⟨ow,a,b⟩:=afz hm hs.toList [] _ k0 (by simpa using l);refine⟨ow,?_,by simpa using b⟩;unfold layClean;rw[<- Array.foldl_toList];exact(p7 (Option.map (·.1)) a).trans rfl
noncomputable def lv(m:Nat)(ow:Array (Option Nat)):List (Nat×Nat):=(List.range (m+1)).filterMap λj=>(ow.getD j none).map (j,·)
def Oe(k:Own m ow hs):(j,i)∈lv m ow↔ow[j]?=some (some i):=by
 unfold lv;rw[List.mem_filterMap];constructor
 . rintro⟨q,a,b⟩
   obtain⟨i',e1,e2⟩:=bz.mp b;cases e2;have:j<ow.size:=by rw[k.Xf];exact jn.mp a
   simp[Array.getD,this] at e1;simp[this,e1]
 . intro e
   have l:=(je.mp e).1;refine⟨j,jn.mpr (by rw[<- k.Xf];exact l),?_⟩;have:ow.getD j none=some i:=by simp[Array.getD,l,(je.mp e).2]
   rw[this];rfl
def ak0(m:Nat)(ow:Array (Option Nat)):(lv m ow).Pairwise λa b=>a.1<b.1:=by unfold lv;refine List.Pairwise.filterMap _ (λa a' Ig b hb b' hb'=>?_) List.pairwise_lt_range;obtain⟨_,_,rfl⟩:=bz.mp hb;obtain⟨_,_,rfl⟩:=bz.mp hb';exact Ig
def aqs(k:Own m ow hs):((lv m ow).map (·.2)).Perm (List.range hs.length):=by
 refine(List.perm_ext_iff_of_nodup ?_ List.nodup_range).mpr λi=>?_
 . rw[zj,List.pairwise_map]
   refine(ak0 m ow).imp_of_mem fun{a b} ha hb Ig e=>?_
   have:=k.inj a.1 b.1 a.2 ((Oe k).mp ha) (by rw[e];exact(Oe k).mp hb);exact l_ Ig (g_ this)
 . rw[bf,jn]
   constructor
   . rintro⟨a,ha,rfl⟩;exact k.lt _ _ ((Oe k).mp ha)
   . intro l
     obtain⟨j,n,a,_⟩:=k.at' i _ (dh l);exact⟨(j,i),(Oe k).mpr a,rfl⟩
theorem ak1{α β:Type}{g:α->Option β}:∀{l:List α},(∀x∈l,(g x).isSome=true)->∀q:Nat,(l.filterMap g)[q]?=l[q]?.bind g
 |[],_,q=>by simp
 |x::l,h,q=>by
  have hx:=h x (cz ..);obtain⟨y,e⟩:=qd.mp hx;rw[List.filterMap_cons_some e];cases q with
  |zero=>simp[e]|succ q=>simpa using ak1 (λx hx=>h x (bc _ hx)) q
def af0(hm:Msk m)(fg mv:Nat)(ld pl:Bool)(es:Array (Int×Value))(l:es.size<=m) :
 ∃t order,laid m fg mv ld pl (es.map (·.1))=some (t,order)/\t.mask=m/\Xe t (order.filterMap (es[·]?))/\(order.filterMap (es[·]?)).toList.Perm es.toList/\(order.filterMap (es[·]?)).size=es.size
 /\t.led=ld/\t.plain=pl/\t.finger=fg/\order.toList.Perm (List.range es.size):=by
 obtain⟨ow,e,k⟩:=akz hm (es.map (·.1)) (by simp;exact a_ l x_);have Xg:=aqs k;simp at Xg;have hlen:(lv m ow).length=es.size:=by have:=Xg.length_eq;simpa using this
 have hsz:((((lv m ow).map (·.2)).toArray).filterMap (es[·]?)).size=es.size:=by have:=(Xg.filterMap (es[·]?)).length_eq;rw[filterMap_getElem?_range] at this;rw[<- u0,Array.toList_filterMap,this];simp
 refine⟨{ mask:=m,place:=((lv m ow).map (·.1)).toArray,dummies:=#[],finger:=fg,led:=ld,moves:=mv,plain:=pl },((lv m ow).map (·.2)).toArray,?_,rfl,?_,?_,?_,rfl,rfl,rfl,Xg⟩
 . unfold laid;rw[e];rfl
 . have a3c:∀x∈(lv m ow).map (·.2),(es[x]?).isSome=true:=λx hx=>by
    have:=jn.mp (Xg.mem_iff.mp hx)
    simp;exact this
   have get:∀q:Nat,((((lv m ow).map (·.2)).toArray).filterMap (es[·]?))[q]?=((lv m ow)[q]?).bind λa=>es[a.2]?:=λq=>by rw[<- nq,Array.toList_filterMap,ak1 a3c,iz];cases(lv m ow)[q]?<;>rfl
   have plc:∀q j:Nat,(((lv m ow).map (·.1)).toArray)[q]?=some j↔∃i,(lv m ow)[q]?=some (j,i):=λq j=>by
    simp only[List.getElem?_toArray,iz,bz];constructor
    . rintro⟨a,h,rfl⟩;exact⟨a.2,h⟩
    . rintro⟨i,h⟩;exact⟨_,h,rfl⟩
   refine⟨hm,rfl,?_,?_,?_,?_,?_⟩
   . show(((lv m ow).map (·.1)).toArray).size=_
     rw[hsz];simp[hlen]
   . intro i j a b ea eb lt
     obtain⟨i1,e1⟩:=(plc i a).mp ea;obtain⟨i2,e2⟩:=(plc j b).mp eb;obtain⟨l1,g1⟩:=ak.mp e1;obtain⟨l2,g2⟩:=ak.mp e2;have:=List.pairwise_iff_getElem.mp (ak0 m ow) i j l1 l2 lt;rw[g1,g2] at this;exact this
   . intro i j e
     obtain⟨i1,e1⟩:=(plc i j).mp e;have:=(Oe k).mp (au e1);have:=(je.mp this).1;rw[k.Xf] at this;show j<=m
     exact z_ this
   . show(((lv m ow).map (·.1)).toArray).size<=m
     simp[hlen];exact l
   . intro q j e' hp he
     obtain⟨i,e1⟩:=(plc q j).mp hp;rw[get,e1] at he;have he:es[i]?=some e':=he;obtain⟨j',n,a,b,c⟩:=k.at' i e'.1 (by simp[he]);have hj:=k.inj j j' i ((Oe k).mp (au e1)) a;subst hj;refine⟨n,b,λw lw=>?_⟩;obtain⟨i',ei'⟩:=c w lw;obtain⟨z,hz⟩:=vm.mp ((Oe k).mpr ei');exact⟨z,(plc z _).mpr ⟨i',hz⟩⟩
 . rw[Array.toList_filterMap]
   have:=Xg.filterMap (es[·]?);rw[filterMap_getElem?_range] at this;exact this
 . exact hsz
def Xh:∀n,n<32->Msk (sizeAbove (grown n)-1)/\n<=sizeAbove (grown n)-1/\n+1<=sizeAbove (grown n)-1/\¬(n*5 >= (sizeAbove (grown n)-1)*3)/\sizeAbove (grown n)<=128:=by unfold Msk;decide+kernel
def ak2:∀n,n<64->Msk (sizeAbove (n*2)-1)/\n<=sizeAbove (n*2)-1/\¬(n*5 >= (sizeAbove (n*2)-1)*3)/\sizeAbove (n*2)<=128:=by unfold Msk;decide+kernel
section
variable{prog:Program}{w:World}{K:Type}[DecidableEq K]{knd:KeyKind prog w K}{A:Around}{E:Y1}{s:Shared}
def aeb(n:Nat)(h:carriedByValue v=true):ofAClassStatement n v=pure false:=by cases v<;>first|(simp[carriedByValue] at h;done)|(unfold ofAClassStatement;rfl)
def Uw(hk:IsTupleKey knd s.heap ks a)(h:Q false s):wpAny (model prog w) A (ofAClassStatement 8 (.ref a)) Q E s:=by
 have hT:=hk.typeIs;obtain⟨o,items,n,ho,_,hd,hi⟩:=hk;unfold ofAClassStatement;refine aa (uh hT ?_);show wpAny _ _ (if("tuple"=="tuple")=true then _ else _) _ _ s;rw[cj (by decide)];refine aa (aj ?_);simp only[qj,cg,jd];refine aa (rm ho hd ?_);refine aa ?_;show wpAny _ _ (forIn items _ _) _ _ s;rw[<- Array.forIn_toList];refine pq _ (λrest r s'=>r.1=none/\s'=s/\∀v∈rest,carriedByValue v=true) _ ?_ ?_ _ _ ⟨rfl,rfl,hi.byValue⟩
 . rintro v rest r s' ⟨hr,rfl,Cm⟩
   rw[aeb _ (Cm v cz)];refine aa (aj ?_);simp only[cg,jd];exact aj ⟨rfl,rfl,λu hu'=>Cm u (bc _ hu')⟩
 . rintro⟨r1,r2⟩ s' ⟨hr,rfl,_⟩
   simp only at hr;subst hr;exact aj h
def ak3(hk:IsTupleKey knd s.heap ks a)(hs:∀v∈st,∃ks b,v=.ref b/\IsTupleKey knd s.heap ks b)(h:Q false s) :
 wpAny (model prog w) A (searchCouldBeSeen (.ref a) st) Q E s:=by
 unfold searchCouldBeSeen;refine aa ?_;refine pq _ (λrest r s'=>r.1=none/\s'=s/\∀v∈rest,∃ks b,v=.ref b/\IsTupleKey knd s.heap ks b) _ ?_ ?_ _ _ ⟨rfl,rfl,hs⟩
 . rintro v rest r s' ⟨hr,rfl,Cm⟩
   obtain⟨ks',b,rfl,hb⟩:=Cm v cz;have avx:∀v∈rest,∃ks b,v=.ref b/\IsTupleKey knd s'.heap ks b:=λv hv=>Cm v (bc _ hv)
   dsimp only;split
   . exact aj ⟨rfl,rfl,avx⟩
   . refine aa (wpAny_eqIsQuiet_tuple hk ?_)
     simp only[qj,cg,jd];refine aa (wpAny_eqIsQuiet_tuple hb ?_);simp only[qj,cg,jd];refine aa (Uw hk ?_);simp only[cg,jd];refine aa (Uw hb ?_);simp only[cg,jd];exact aj ⟨rfl,rfl,avx⟩
 . rintro⟨r1,r2⟩ s' ⟨hr,rfl,_⟩
   simp only at hr;subst hr;exact aj h
noncomputable def ent(knd:KeyKind prog w K)(x:List K×Addr):Int×Value:=(tupleKeyHash knd x.1,.ref x.2)
def aec{es:Array (Int×Value)}{xs:List (List K×Addr)}(he:es.toList=xs.map (ent knd))(j:Nat):es[j]?=(xs[j]?).map (ent knd):=by rw[<- nq,he,iz]
def aik{xs:List (List K×Addr)}(hu:A.units<cLine)(hk:IsTupleKey knd s.heap k p)(ho:s.heap.get? a=some o)(hd:o.data=.set es ep t)(T:Xe t es)(he:es.toList=xs.map (ent knd))(hx:∀x∈xs,IsTupleKey knd s.heap x.1 x.2)(hn:(xs.map (·.1)).Nodup)(F:Fst t (tupleKeyHash knd k) N)(Wz:∀(i:Nat) x,xs[i]?=some x->x.1=k->Q (.there (if adding then none else some i)) s)(aw9:(∀x∈xs,x.1≠k)->Q (.free (P t.mask (tupleKeyHash knd k) N).j false) s) :
 ∀(fuel n:Nat)(st:Option Probe),n<=N->N-n<fuel->st.getD (t.probeStart (tupleKeyHash knd k))=P t.mask (tupleKeyHash knd k) n ->
  (∀m,m<n->∀(i:Nat) x,t.place[i]?=some (P t.mask (tupleKeyHash knd k) m).j->xs[i]?=some x->x.1≠k) ->
  wpAny (model prog w) A (setSearchFrom a (.ref p) (tupleKeyHash knd k) adding fuel st) Q E s:=by
 intro fuel
 induction fuel with
 |zero=>intro n st _ l;omega
 |succ fuel ih =>
  intro n st hnN l W0 a3e;unfold setSearchFrom;refine aa (jo ho hd T.fits ?_);dsimp only;rw[T.way,W0];simp only[cg,jd];have key:=aky T F (λi=>(es[i]?.map (·.1)).getD 0) (10*turns t.mask) n hnN (by have:=F.lt;exact c_ C_ this);generalize hpr:t.probe _ (tupleKeyHash knd k) (P t.mask (tupleKeyHash knd k) n)=pr;have hpr:t.probe (λi=>(es[i]?.map (·.1)).getD 0) (tupleKeyHash knd k) (P t.mask (tupleKeyHash knd k) n)=pr:=hpr;have atI:∀(i j:Nat),t.place[i]?=some j->∃x,xs[i]?=some x/\es[i]?=some (ent knd x):=λi j e=>by
   have li:i<es.size:=by rw[<- T.Xf];exact(je.mp e).1
   have lx:i<xs.length:=by have:=p7 List.length he;simp at this;exact b_ li (f_ this)
   refine⟨xs[i],by simp[lx],?_⟩;rw[aec he];simp[lx]
  rcases key with⟨e,hno⟩|⟨m,i,h1,h2,h3,h4,h5,e⟩
  . have e:pr=_:=hpr.symm.trans e
    subst e;dsimp only;refine aj (aw9 λx hxm hxk=>?_);obtain⟨i,hi⟩:=vm.mp hxm;have hei:es[i]?=some (ent knd x):=by rw[aec he,hi];rfl
    obtain⟨m,lm,hp⟩:=T.ahead F hei (by unfold ent;rw[hxk])
    by_cases hmn:m<n
    . exact a3e m hmn i x hp hi hxk
    . refine hno m (s_ hmn) lm i hp ?_
      rw[hei];show tupleKeyHash knd x.1=_;rw[hxk]
  . have e:pr=_:=hpr.symm.trans e
    subst e;dsimp only;obtain⟨x,hxi,hei⟩:=atI i _ h3;have hkx:=hx x (au hxi);have seen:∀{R:Bool->Shared->Prop},R false s->wpAny (model prog w) A (searchCouldBeSeen (.ref p) ((es.filter (·.1==tupleKeyHash knd k)).toList.map (·.2))) R E s:=λhR=>ak3 hk (λv hv=>by
     obtain⟨y,hy,rfl⟩:=bf.mp hv;have hy':y∈es.toList:=by simp at hy;simpa using hy.1
     rw[he] at hy';obtain⟨z,hz,rfl⟩:=bf.mp hy';exact⟨z.1,z.2,rfl,hx z hz⟩) hR
    rcases Bool.eq_false_or_eq_true t.led with a3f|a3f
    all_goals
     simp only[a3f,qj,yh,cg,jd,ju]
     first
     |(rw[hei];show wpAny _ _ (holding [.ref x.2] (eqBool (.ref x.2) (.ref p)) >>= _) _ _ _)
     |(refine aa (seen ?_);simp only[cg,jd];rw[hei];show wpAny _ _ (holding [.ref x.2] (eqBool (.ref x.2) (.ref p)) >>= _) _ _ _)
     refine aa (ji (wpAny_eqBool_tuple hu hkx hk ?_));refine aa (jo ho hd T.fits ?_);dsimp only;have hsm:t.sameMemory t.moves t.mask=some true:=by unfold sameMemory;simp
     rw[hsm];dsimp only;rw[cj rfl,(Qt T.srt).mpr h3];dsimp only;rw[hei]
     by_cases hxk:x.1=k
     . have hd1:decide (x.1=k)=true:=by simp[hxk]
       rw[hd1];have hq:=Wz i x hxi hxk;cases adding
       . simp only[Bool.false_and,cg,jd]
         refine aa (wpAny_isSame_ref_self ?_);refine aa (aj ?_);simpa using aj hq
       . simp only[Bool.and_self,ju]
         exact aj hq
     . have hd1:decide (x.1=k)=false:=by simp[hxk]
       rw[hd1];simp only[Bool.and_false,cg,jd];refine aa (wpAny_isSame_ref_self ?_);refine aa (aj ?_);simp only[ju];refine ih (m+1) _ h2 (by lia) rfl λm' hm' i' x' hp' aqu=>?_
       by_cases hc:m'<n
       . exact a3e m' hc i' x' hp' aqu
       . by_cases hm:m'=m
         . subst hm
           have ei:i'=i:=by rw[<- below_at T.srt hp',<- below_at T.srt h3]
           subst ei;rw[hxi] at aqu;cases aqu;exact hxk
         . intro bak
           have bal:es[i']?=some (ent knd x'):=by rw[aec he,aqu];rfl
           refine h5 m' (s_ hc) (by lia) i' hp' ?_;rw[bal];show tupleKeyHash knd x'.1=_;rw[bak]
end
section
variable{prog:Program}{w:World}{K:Type}[DecidableEq K]{knd:KeyKind prog w K}{pk:List K×Addr->Prop}{A:Around}{E:Y1}{s:Shared}
noncomputable abbrev bt(w:World):Bool:=w.params.followText "set-order"
def Uc(h:Q (bt w) s):wpAny (model prog w) A setsByText Q E s:=by unfold setsByText;exact aa (wpAny_askSetting (aj h))
def Qv(knd:KeyKind prog w K)(pk:List K×Addr->Prop):Prop:=∀x,pk x->∀k∈x.1,∀v n,knd.is k v=true->hashByValue n v=pure true
theorem Sd:∀{ks:List K}{vs:Zl},ItemsAre knd ks vs->(∀k∈ks,∀v n,knd.is k v=true->hashByValue n v=pure true)->∀v∈vs,∀n,hashByValue n v=pure true
 |_,_,.nil,_,v,h=>by simp at h
 |_,_,.cons h t,hp,v,hv=>by
  rcases bx.mp hv with rfl|hv
  . exact λn=>hp _ cz _ n h
  . exact Sd t (λk hk=>hp k (bc _ hk)) v hv
def aed(hpk:Qv knd pk)(hk:IsTupleKey knd s.heap ks a)(hp:pk (ks,a))(h:Q true s):wpAny (model prog w) A (hashByValue 8 (.ref a)) Q E s:=by
 have hT:=hk.typeIs;obtain⟨o,items,n,ho,_,hd,hi⟩:=hk;unfold hashByValue;refine aa (wpAny_specialOf hT F.slot_tuple_hash.lookup ?_);dsimp only;refine aa (rm ho hd ?_);refine aa ?_;show wpAny _ _ (forIn items _ _) _ _ s;rw[<- Array.forIn_toList];refine pq _ (λrest r s'=>r.1=none/\s'=s/\∀v∈rest,∀n,hashByValue n v=pure true) _ ?_ ?_ _ _ ⟨rfl,rfl,Sd hi (hpk _ hp)⟩
 . rintro v rest r s' ⟨hr,rfl,Cm⟩
   rw[Cm v cz];refine aa (aj ?_);simp only[qj,cg,jd];exact aj ⟨rfl,rfl,λu hu'=>Cm u (bc _ hu')⟩
 . rintro⟨r1,r2⟩ s' ⟨hr,rfl,_⟩
   simp only at hr;subst hr;exact aj h
structure Qw(knd:KeyKind prog w K)(pk:List K×Addr->Prop)(h:Heap)(a:Addr)(xs:List (List K×Addr))(o:Obj)(es:Array (Int×Value))(ep:Nat)(t:SetTable):Prop where
 get:h.get? a=some o
 exa:o.ExactSet
 dat:o.data=.set es ep t
 tab:Xe t es
 ent:es.toList=xs.map (ent knd)
 keys:∀x∈xs,IsTupleKey knd h x.1 x.2/\pk x
 nod:(xs.map (·.1)).Nodup
 led:t.led=!bt w
 pla:t.plain=true
def Bx(knd:KeyKind prog w K)(pk:List K×Addr->Prop)(h:Heap)(a:Addr)(S:List K->Prop)(n:Nat):Prop:=∃xs o es ep t,Qw knd pk h a xs o es ep t/\(∀k,S k↔k∈xs.map (·.1))/\xs.length=n/\t.place.size*5<t.mask*3
theorem Qw.size(X:Qw knd pk h a xs o es ep t):es.size=xs.length:=by have:=p7 List.length X.ent;simpa using this
def ak4(p:Addr)(es:Array (Int×Value)):byScan (.ref p) es=false:=by unfold byScan;simp[Value.scannable]
def ak5(h:Msk m):10*turns m<100000:=by rcases h with rfl|rfl|rfl|rfl|rfl<;>decide
def Ux(hu:A.units<cLine)(hk:IsTupleKey knd s.heap k p)(X:Qw knd pk s.heap a xs o es ep t)(F:Fst t (tupleKeyHash knd k) N)(Wz:∀(i:Nat) x,xs[i]?=some x->x.1=k->Q (.there (if adding then none else some i)) s)(aw9:(∀x∈xs,x.1≠k)->Q (.free (P t.mask (tupleKeyHash knd k) N).j false) s) :
 wpAny (model prog w) A (setSearch a (.ref p) (tupleKeyHash knd k) adding) Q E s:=by
 unfold setSearch;exact aik hu hk X.get X.dat X.tab X.ent (λx hx=>(X.keys x hx).1) X.nod F Wz aw9 100000 0 none (jt _) (by have:=F.lt;have:=ak5 X.tab.msk;lia) (aa2 _ _) (λm l=>by lia)
def aqw(hu:A.units<cLine)(hk:IsTupleKey knd s.heap k p)(hS:Bx knd pk s.heap a S n)(h:∀r:Option Nat,(r.isSome=true↔S k)->Q r s):wpAny (model prog w) A (setFind a (.ref p) (tupleKeyHash knd k)) Q E s:=by
 obtain⟨xs,o,es,ep,t,X,hm,_,_⟩:=hS;obtain⟨N,F⟩:=X.tab.fst (tupleKeyHash knd k);unfold setFind setFindIn;refine aa (jo X.get X.dat X.tab.fits ?_);dsimp only;rw[ak4];simp only[cg,jd];refine aa (Ux hu hk X F (λi x hi hx=>?_) (λhno=>?_))
 . simp only[cg,jd]
   exact aj (h _ (by simp;exact(hm k).mpr (bf.mpr ⟨x,au hi,hx⟩)))
 . dsimp only
   refine aj (h _ ?_);simp only[Option.isSome_none,cg,false_iff];intro hs;obtain⟨x,hx,e⟩:=bf.mp ((hm k).mp hs);exact hno x hx e
end
def Cq{α β:Type}{f:α->β}:∀{l l':List β},l.Perm l'->∀{xs:List α},l'=xs.map f->∃xs':List α,l=xs'.map f/\xs'.Perm xs:=by
 intro l l' p
 induction p with
 |nil=>intro xs e;cases xs with
  |nil=>exact⟨[],rfl,.nil⟩|cons _ _=>cases e
 |cons a p ih =>
  intro xs e;cases xs with
  |nil=>cases e
  |cons x xs =>
   simp only[gm,List.cons.injEq] at e;obtain⟨xs',e1,p1⟩:=ih e.2;exact⟨x::xs',by simp[e1,e.1],p1.cons x⟩
 |swap a b l =>
  intro xs e
  match xs,e with
  |x::y::xs,e =>
   simp only[gm,List.cons.injEq] at e;obtain⟨rfl,rfl,rfl⟩:=e;exact⟨y::x::xs,rfl,.swap x y xs⟩
 |trans p q ih1 ih2 =>
  intro xs e;obtain⟨ys,e1,p1⟩:=ih2 e;obtain⟨zs,e2,p2⟩:=ih1 e1;exact⟨zs,e2,p2.trans p1⟩
section
variable{prog:Program}{w:World}{K:Type}[DecidableEq K]{knd:KeyKind prog w K}{pk:List K×Addr->Prop}{A:Around}{E:Y1}{s:Shared}
def ak6(x:IsTupleKey knd h ks p)(ho:h.get? a=some o)(hd:o.data=.set es ep t)(hs:Heap.SameBut a h h'):IsTupleKey knd h' ks p:=by
 obtain⟨o',items,n,ho',hc,hd',hi⟩:=x;have Sg:p≠a:=by rintro rfl;obtain rfl:o'=o:=jq (ho'.symm.trans ho);rw[hd] at hd';exact nomatch hd'
 exact⟨o',items,n,(hs.2 p Sg).trans ho',hc,hd',hi⟩
def newX(X:Qw knd pk h a xs o es ep t)(T':Xe t' es')(he:es'.toList=xs'.map (ent knd))(hk:∀x∈xs',IsTupleKey knd h x.1 x.2/\pk x)(hn:(xs'.map (·.1)).Nodup)(hl:t'.led=!bt w)(hp:t'.plain=true) :
 Qw knd pk (h.update a (Obj.putSet es' t')) a xs' { o with data:=.set es' (ep+1) t' } es' (ep+1) t':=by
 have hg:(h.update a (Obj.putSet es' t')).get? a=some { o with data:=.set es' (ep+1) t' }:=by have:=lz (Obj.putSet es' t') X.get (by rw[putSet_of es' t' X.dat];rfl);rw[putSet_of es' t' X.dat] at this;exact this
 exact⟨hg,X.exa,rfl,T',he,λx hx=>⟨ak6 (hk x hx).1 X.get X.dat (jw h a _),(hk x hx).2⟩,hn,hl,hp⟩
def Ii(h:n<=128):n<=sizeLine:=by rw[qg];exact a_ h (by decide)
def aa5(X:Qw knd pk s.heap a xs o es ep t)(hm:Msk (sizeAbove wanted-1))(hz:es.size<=sizeAbove wanted-1)(hb:sizeAbove wanted<=128)(h:∀h' xs' o' es' ep' t',Heap.SameBut a s.heap h'->Qw knd pk h' a xs' o' es' ep' t'->xs'.Perm xs->t'.mask=sizeAbove wanted-1->t'.place.size=es.size->Q () { s with heap:=h' }) :
 wpAny (model prog w) A (setRelay a wanted) Q E s:=by
 obtain⟨t',order,e,e1,T',p,sz,hl,hp,_⟩:=af0 hm t.finger (t.movedTo (sizeAbove wanted-1)) t.led t.plain es hz;unfold setRelay;refine aa (jo X.get X.dat X.tab.fits ?_);dsimp only;rw[bw (by have:=Ii hb;exact j_ this)];have er:t.relaid (es.map (·.1)) wanted=some (t',order):=e;rw[er];refine aa ?_;have hif:wpAny (model prog w) A (if((order.filterMap (es[·]?)).size != es.size)=true then(do unsupported "internal:set-table-lost-an-element";pure (order.filterMap (es[·]?),t')) else pure (order.filterMap (es[·]?),t'))
  (λr s'=>wpAny (model prog w) A (storeSet a r.1 r.2) Q E s') E s:=by
  rw[bw (by simp[sz])];refine aj ?_;obtain⟨xs',ex,px⟩:=Cq p X.ent;have hX:=newX X T' ex (λx hx=>X.keys x (px.mem_iff.mp hx)) ((px.map _).nodup_iff.mpr X.nod) (hl.trans X.led) (hp.trans X.pla);refine wpAny_storeSet_of X.get X.dat (h _ _ _ _ _ _ (jw s.heap a _) hX px e1 (by rw[T'.Xf,sz])) (Ii (by rw[sz];exact a_ hz (a_ C_ hb)))
 exact hif
def Y5(hpk:Qv knd pk)(hu:A.units<cLine)(hk:IsTupleKey knd s.heap k p)(hp:pk (k,p))(hS:Bx knd pk s.heap a S n)(hn:n+1<32)(h:∀h' n' b,Heap.SameBut a s.heap h'->Bx knd pk h' a (λk'=>S k'\/k'=k) n'->n'<=n+1->Q b { s with heap:=h' }) :
 wpAny (model prog w) A (setAddHashed a (.ref p) (tupleKeyHash knd k)) Q E s:=by
 obtain⟨xs,o,es,ep,t,X,hm,hl,nf⟩:=hS;obtain⟨N,F⟩:=X.tab.fst (tupleKeyHash knd k);have hsz:=X.size;unfold setAddHashed setAddHashedIn;refine ji (aa (jo X.get X.dat X.tab.fits ?_));dsimp only;rw[ak4];simp only[cg,jd];refine aa (Ux hu hk X F (λi x hi hx=>?_) (λhno=>?_))
 . dsimp only
   refine aj ?_;have hSk:S k:=(hm k).mpr (bf.mpr ⟨x,au hi,hx⟩);have:=h s.heap n false (Heap.SameBut.refl a s.heap) ⟨xs,o,es,ep,t,X,λk'=>by
    rw[<- hm k'];exact⟨λh=>h.elim id (λe=>e▸hSk),.inl⟩,hl,nf⟩ x_
   exact this
 . dsimp only
   refine aa (jo X.get X.dat X.tab.fits ?_);dsimp only;have room:t.place.size+1<=t.mask:=by have:=X.tab.msk;rcases this with e|e|e|e|e<;>lia
   have T':=X.tab.put (x:=.ref p) F room;have Ge:(t.put (P t.mask (tupleKeyHash knd k) N).j).1.plain=true:=X.pla;rw[Ge];simp only[ju];refine aa (aed hpk hk hp ?_);simp only[ju];obtain⟨xs',ex,px⟩:=Cq (f:=ent knd) (insertAt_perm es (t.put (P t.mask (tupleKeyHash knd k) N).j).2 (tupleKeyHash knd k,.ref p)) (xs:=xs++[(k,p)]) (by rw[Array.toList_push,X.ent,ph];rfl);have pm:=px.map (·.1);have hnd:(xs'.map (·.1)).Nodup:=pm.nodup_iff.mpr (by
    rw[ph,yd];refine⟨X.nod,by simp,λa ha b hb=>?_⟩;simp at hb;subst hb;rintro rfl;obtain⟨x,hx,e⟩:=bf.mp ha;exact hno x hx e)
   have Uy:∀x∈xs',IsTupleKey knd s.heap x.1 x.2/\pk x:=λx hx=>by
    rcases dw.mp (px.mem_iff.mp hx) with hx|hx
    . exact X.keys x hx
    . simp at hx;subst hx;exact⟨hk,hp⟩
   have hX:=newX X T' ex Uy hnd X.led X.pla;have Hf:∀k',(S k'\/k'=k)↔k'∈xs'.map (·.1):=λk'=>by rw[pm.mem_iff,ph,dw,hm k'];simp
   have hlen:xs'.length=n+1:=by rw[px.length_eq];simp[hl]
   have hes:(insertAt es (t.put (P t.mask (tupleKeyHash knd k) N).j).2 (tupleKeyHash knd k,.ref p)).size=es.size+1:=Kp _ _ _;refine aa (wpAny_storeSet_of X.get X.dat ?_ (Ii (by rw[hes];exact e_ (c_ (v_ (f_ hsz)) (c_ (v_ (f_ hl)) (b_ hn (by decide)))))));have ak7:(t.put (P t.mask (tupleKeyHash knd k) N).j).1.place.size=es.size+1:=by rw[T'.Xf,hes]
   by_cases htf:(t.put (P t.mask (tupleKeyHash knd k) N).j).1.tooFull=true
   . rw[htf]
     simp only[yh,Bool.and_self,ju];obtain⟨g1,g2,g3,g4,g5⟩:=Xh (es.size+1) (c_ (v_ (f_ hsz)) (c_ (v_ (f_ hl)) hn));refine aa (aa5 hX g1 (by rw[hes];exact g2) g5 λh' xs2 o2 es2 ep2 t2 sb X2 p2 em ps=>?_);refine aj (h h' (n+1) true ((jw s.heap a _).trans sb) ⟨xs2,o2,es2,ep2,t2,X2,λk'=>?_,by rw[p2.length_eq,hlen],?_⟩ (bu _))
     . exact(Hf k').trans (p2.map (·.1)).mem_iff.symm
     . rw[ps,em,hes];exact t_ g4
   . rw[Bool.not_eq_true] at htf
     rw[htf];simp only[Bool.and_false,cg,jd];refine aj (h _ (n+1) true (jw s.heap a _) ⟨xs',_,_,_,_,hX,Hf,hlen,?_⟩ (bu _));unfold tooFull at htf;have hf:(t.put (P t.mask (tupleKeyHash knd k) N).j).1.fill=es.size+1:=by unfold fill;rw[ak7,T'.dum];rfl
     rw[hf] at htf;rw[ak7];simp at htf;exact htf
end
open PySem
def upto(J:Nat->β->Shared->Prop)(turn:∀i b z,i<n->J i b z->wpAny M A (f i b) (λr z'=>match r with|.yield b'=>J (i+1) b' z'|.done b'=>Q b' z') E z)(fin:∀b z,J n b z->Q b z)(start:J 0 b s) :
 wpAny M A (forIn [:n] b f) Q E s:=by
 have go:∀(k i:Nat)(b:β)(z:Shared),n=i+k->J i b z->wpAny M A (forIn (List.range' i k) b f) Q E z:=by
  intro k
  induction k with
  |zero=>intro i b z e hj;subst e;exact aj (fin b z hj)
  |succ k ih =>
   intro i b z e hj;show wpAny M A (forIn (i::List.range' (i+1) k) b f) Q E z;rw[List.forIn_cons];refine aa (lg (turn i b z (by lia) hj) (λr z' hr=>?_) λ_ _ x=>x)
   match r,hr with
   |.done b',hr=>exact aj hr|.yield b',hr=>exact ih (i+1) b' z' (by lia) hr
 have e:(forIn [:n] b f:Sem β)=forIn (List.range' 0 n) b f:=by rw[Std.Legacy.Range.forIn_eq_forIn_range'];simp[Std.Legacy.Range.size]
 rw[e];exact go n 0 b s (by lia) start
def sub_dict_set:isSubtype (.type "dict") (.type "set")=pure false:=by rw[isSubtype_type];kernel_rfl
def sub_dict_frozenset:isSubtype (.type "dict") (.type "frozenset")=pure false:=by rw[isSubtype_type];kernel_rfl
section
variable{prog:Program}{w:World}{K:Type}[DecidableEq K]{knd:KeyKind prog w K}{pk:List K×Addr->Prop}{A:Around}{E:Y1}{s:Shared}
def Fw(hT:s.TypeIs v T)(h1:isSubtype (.type T) (.type "set")=pure false)(h2:isSubtype (.type T) (.type "frozenset")=pure false)(h:Q false s) :
 wpAny (model prog w) A (Builtin.Frozenset.isAnySet v) Q E s:=by
 unfold Builtin.Frozenset.isAnySet;refine aa (m8 hT h1 ?_);exact m8 hT h2 h
def bao(hT:s.TypeIs v "set")(h:Q true s):wpAny (model prog w) A (Builtin.Frozenset.isAnySet v) Q E s:=by unfold Builtin.Frozenset.isAnySet;refine aa (m8 hT sub_set_self ?_);exact aj h
noncomputable def zx(w:World):Obj:={ cls:=.type "set",dict:=none,data:=.set #[] 0 (.fresh 0 0 (!bt w)) }
def aqz(hg:h.get? a=some (zx w)):Bx knd pk h a (λ_=>False) 0 :=
 ⟨[],zx w,#[],0,_,⟨hg,⟨rfl,rfl,rfl⟩,rfl,⟨.inl rfl,rfl,rfl,λi j a b e=>by simp[SetTable.fresh] at e,λi j e=>by simp[SetTable.fresh] at e,by simp[SetTable.fresh],λi j e a=>by simp[SetTable.fresh] at a⟩,
  rfl,λx hx=>by simp at hx,w5,rfl,rfl⟩,λk=>by simp,rfl,by simp[SetTable.fresh]⟩
set_option tactic.hygienic true in
def aq0(hS:Bx knd pk s.heap a S n)(hl:n+m<64)(h:∀h',Heap.SameBut a s.heap h'->Bx knd pk h' a S n->Q () { s with heap:=h' }):wpAny (model prog w) A (setRoomFor a m) Q E s:=by
 obtain⟨xs,o,es,ep,t,X,hm,hn,nf⟩:=hS;have hsz:=X.size;unfold setRoomFor;refine aa (jo X.get X.dat X.tab.fits ?_);dsimp only;unfold roomFor;have hps:=X.tab.Xf;split
 . rename_i wanted e
   split at e
   . cases e
     obtain⟨g1,g2,g3,g4⟩:=ak2 (t.place.size+m) (c_ (v_ (f_ hps)) (c_ (v_ (f_ hsz)) (c_ (v_ (f_ hn)) hl)));refine aa5 X g1 (by lia) g4 λh' xs2 o2 es2 ep2 t2 sb X2 p2 em ps=>h h' sb ⟨xs2,o2,es2,ep2,t2,X2,λk'=>?_,by rw[p2.length_eq,hn],?_⟩
     . exact(hm k').trans (p2.map (·.1)).mem_iff.symm
     . rw[ps,em];lia
   . cases e
 . exact aj (h s.heap (Heap.SameBut.refl _ _) ⟨xs,o,es,ep,t,X,hm,hn,nf⟩)
theorem Bx.get(hS:Bx knd pk h a S n):∃o es ep t,h.get? a=some o/\o.ExactSet/\o.data=.set es ep t/\t.fits es.size=true :=
 let ⟨_,o,es,ep,t,X,_⟩:=hS;⟨o,es,ep,t,X.get,X.exa,X.dat,X.tab.fits⟩
def Bx.typeIs(hS:Bx knd pk s.heap a S n):s.TypeIs (.ref a) "set" :=
 let ⟨o,_,_,_,ho,hc,_⟩:=hS.get;⟨o,ho,hc.1⟩
def Bx.congr(hS:Bx knd pk h a S n)(e:∀k,S k↔S' k):Bx knd pk h a S' n :=
 let ⟨xs,o,es,ep,t,X,hm,r⟩:=hS;⟨xs,o,es,ep,t,X,λk=>(e k).symm.trans (hm k),r⟩
def ak8(hpk:Qv knd pk){id:String}(hu:A.units<cLine)(hS:Bx knd pk s.heap a S n)(hd:s.heap.DictOfH (tupleKind knd) d xs)(hds:(d==sysModules)=false)(hpx:∀x∈xs,pk (x.1,x.2.1))(hl:n+xs.length<31)(h:∀h' n',Heap.SameBut a s.heap h'->Bx knd pk h' a (λk=>S k\/k∈xs.map (·.1)) n'->Q () { s with heap:=h' }) :
 wpAny (model prog w) A (Builtin.Frozenset.updateFrom id a (.ref d)) Q E s:=by
 have hT:=hd.typeIs;obtain⟨od,esd,epd,hod,hcd,hdd,hed,hxd,hnd⟩:=hd;obtain⟨o0,es0,ep0,t0,hg0,hc0,hd0,hf0⟩:=hS.get;have Sg:d≠a:=by rintro rfl;rw[hod] at hg0;cases hg0;rw[hdd] at hd0;cases hd0
 have hlen:esd.size=xs.length:=size_of_entries hed;unfold Builtin.Frozenset.updateFrom;refine aa (Fw hT sub_dict_set sub_dict_frozenset ?_);simp only[cg,jd];refine aa (uh hT ?_);rw[cj (by decide)];refine aa (wpAny_rule ?_);refine aa (m:=Builtin.Frozenset.addrOf (.ref d)) (aj ?_);rw[bw (by rw[hds];decide)];refine aa (wpAny_dictEpoch hod hdd ?_);refine aa (qu hod hdd ?_);refine aa (aq0 hS (by lia) λh1 sb1 hS1=>?_);have bau:h1.get? d=some od:=(sb1.2 d Sg).trans hod;refine aa (qu bau hdd ?_);refine aa ?_;refine upto (λi _ z=>∃h' n',z={ s with heap:=h' }/\Bx knd pk h' a (λk=>S k\/k∈(xs.take i).map (·.1)) n'/\n'<=n+i/\Heap.SameBut a s.heap h') (λi _ z lt inv=>?_) (λ_ z inv=>?_) ⟨h1,n,rfl,hS1.congr (λk=>by simp),x_,sb1⟩
 . obtain⟨h',n',rfl,Uz,Nf,sb'⟩:=inv
   have aef:h'.get? d=some od:=(sb'.2 d Sg).trans hod;refine aa (qu aef hdd ?_);have lx:i<xs.length:=b_ lt (f_ hlen)
   have he:esd[i]?=some (entryOfKey (tupleKind knd) xs[i]):=by rw[entry_at hed];simp[lx]
   rw[he];have hkk:IsTupleKey knd h' xs[i].1 xs[i].2.1:=ak6 (hxd _ (p8 lx)) hg0 hd0 sb';show wpAny _ _ (holding [.ref xs[i].2.1] (setAddHashed a (.ref xs[i].2.1) (tupleKeyHash knd xs[i].1)) >>= _) _ _ _;refine aa (ji (Y5 (s:={ s with heap:=h' }) hpk hu hkk (hpx _ (p8 lx)) Uz (by lia) λh'' n'' b a3j ala a3k=>?_));refine aa (wpAny_dictEpoch ((a3j.2 d Sg).trans aef) hdd ?_);rw[ye];refine aj ⟨h'',n'',rfl,ala.congr (λk=>?_),by lia,sb'.trans a3j⟩;rw[List.take_add_one,ph,dw,show xs[i]?=some xs[i] by simp[lx]];simp[or_assoc]
 . obtain⟨h',n',rfl,Uz,Nf,sb'⟩:=inv
   refine aj (h h' n' sb' (Uz.congr λk=>?_));rw[List.take_of_length_le (g_ hlen)]
end
section
variable{prog:Program}{w:World}{K:Type}[DecidableEq K]{knd:KeyKind prog w K}{pk:List K×Addr->Prop}{A:Around}{E:Y1}{s:Shared}
def aq2(post:R (.ref s.heap.objs.size) { s with heap:=s.heap.push (zx w) }) :
 codeAny (model prog w) A (.call (.builtin "set.__new__") ⟨[.type "set",v],[]⟩) (wants R E) s:=by
 refine codeAny_call_builtin F.plain_set_new F.entry_set_new (wpAny_of_eq (F.newCall_set_1 v) ?_);have sub:=sub_set_self;unfold Builtin.«set.__new__» Builtin.Frozenset.newClass
 wp_walk
 exact wpAny_askSetting (aj (aa (wpAny_alloc (aj (aj post)))))
set_option maxHeartbeats 3200000 in
def Kq{R:Shared->Prop}(hup:wpAny (model prog w) A.in1.in1 (Builtin.Frozenset.updateFrom "set.__init__" s.heap.objs.size x) (λ_ s'=>R s') E { s with heap:=s.heap.push (zx w) })(h:∀s',R s'->Q (.ref s.heap.objs.size) s') :
 wpAny (model prog w) A (call (.type "set") [x]) Q E s:=by
 obtain⟨c,tl,bhb⟩:=ug.mro;have be3:=ug.made;have Y6:=ug.sub;refine wpAny_call (codeAny_of_tree ?_);show wpAny _ _ (callAny (.type "set") _) _ _ _;refine aj ⟨Code.quiet_builtin _ (by decide+kernel),my F.entry_type_call ?_⟩;rw[Around.under_plain (weight_type_call_type "set" [x] []) rfl];have h1:=ug.notType;have h2:=ug.canCreate;have hct:=F.typeCall_set_1 x
 repeat (any_goals (first|assumption|wp_step))
 refine vq (aq2 (v:=x) (E:=E) (R:=λobj s₁=>obj=.ref s.heap.objs.size/\s₁={ s with heap:=s.heap.push (zx w) }) ⟨rfl,rfl⟩) λr s₁ hr=>?_
 cases r with
 |error e=>exact hr
 |ok fl =>
  cases fl with
  |ret obj =>
   obtain⟨rfl,rfl⟩:=hr;have hS:(s.heap.push (zx w)).get? s.heap.objs.size=some (zx w):=bh _ rfl;have hT:Shared.TypeIs { s with heap:=s.heap.push (zx w) } (.ref s.heap.objs.size) "set" := ⟨_,hS,rfl⟩;have hli:=ug.init.lookup;have hbi:=ug.init.bind (.ref s.heap.objs.size)
   repeat (any_goals (first|assumption|wp_step))
   refine vq (codeAny_call_builtin (R:=wants (λr s₂=>r=.none/\R s₂) E) ug.init.plain F.entry_set_init (check_set_init_1 hT ?_)) λr₂ s₂ hr₂=>?_
   . unfold Builtin.«set.__init__» noKeywords
     generalize hUF:Builtin.Frozenset.updateFrom=UF at hup ⊢;unfold zx at hS hT hup ⊢
     wp_walk
     exact lg hup (λ_ s' hr=>aj ⟨rfl,hr⟩) (λe s' he=>he)
   . cases r₂ with
     |error e=>exact hr₂
     |ok fl₂ =>
      cases fl₂ with
      |ret r =>
       obtain⟨rfl,hq⟩:=hr₂
       repeat (any_goals (first|assumption|wp_step))
       exact h _ hq
      |_=>exact hr₂.elim
  |_=>exact hr.elim
end
open PyProof.Rows (F.entry_set_update_loop F.plain_set_update_loop)
section
variable{prog:Program}{w:World}{K:Type}[DecidableEq K]{knd:KeyKind prog w K}{pk:List K×Addr->Prop}{A:Around}{E:Y1}{s:Shared}
def Qx{wr:X9}(hk:IsTupleKey knd h ks p)(hp:p∉wr)(hm:∀b o,b∉wr->h.get? b=some o->h'.get? b=some o):IsTupleKey knd h' ks p :=
 let ⟨o,items,n,ho,r⟩:=hk;⟨o,items,n,hm p o hp ho,r⟩
def Bx.moved{wr:X9}(hS:Bx knd pk h a S n)(ha:a∉wr)(hw:∀(b:Addr) (ks:List K),b∈wr->¬IsTupleKey knd h ks b)(hm:∀b o,b∉wr->h.get? b=some o->h'.get? b=some o):Bx knd pk h' a S n :=
 let ⟨xs,o,es,ep,t,X,r⟩:=hS
 ⟨xs,o,es,ep,t,⟨hm a o ha X.get,X.exa,X.dat,X.tab,X.ent,λx hx=>⟨Qx (X.keys x hx).1 (λhc=>hw _ _ hc (X.keys x hx).1) hm,(X.keys x hx).2⟩,X.nod,X.led,X.pla⟩,r⟩
def aq3(hpk:Qv knd pk){I:Addr}{P:Nat->Value->Prop}(hu:A.in1.units<cLine)(W:WalksS prog w A.in1 I fp wr G n P St)(a:Addr)(haf:a∉fp)(ks:List (List K×Addr))(hkl:ks.length=n)(axe:∀i v x,P i v->ks[i]?=some x->v=.ref x.2)(hpx:∀x∈ks,pk x)(hb:n<31)(hkw:∀x∈ks,x.2∉wr)(hnk:∀i (s:Shared),St i s->∀(b:Addr) (ks:List K),b∈wr->¬IsTupleKey knd s.heap ks b) :
 ∀(k i n':Nat)(s:Shared),n-i=k->i<=n->St i s->(∀x∈ks,IsTupleKey knd s.heap x.1 x.2) ->
  Bx knd pk s.heap a (λk'=>k'∈(ks.take i).map (·.1)) n'->n'<=i ->
  (∀s' n'',Moved (a::wr) G s s'->Bx knd pk s'.heap a (λk'=>k'∈ks.map (·.1)) n''->R (.ok (.ret .none)) s') ->
  codeAny (model prog w) A (.builtin "set.update.loop" ⟨[.ref a,.ref I],[]⟩) R s:=by
 have haw:a∉wr:=λh=>haf (W.sub _ h)
 have Y6:∀b∈wr,b∈a::wr:=λb hb=>bc _ hb
 intro k
 induction k with
 |zero =>
  intro i n' s hk hi W0 Uy hS Nf hR;have Wz:i=n:=by lia
  subst Wz;refine my t7 ?_;rw[jz kh _];show wpAny _ A.in1 (pyNext (.ref I) >>= _) _ _ s;refine aa (W.done s _ _ W0 λs' hm=>?_);show wpAny _ A.in1 (ret Value.none) _ _ s';refine aj (hR s' n' (hm.mono Y6) ((hS.moved haw (hnk _ s W0) hm.heap).congr λk=>?_));rw[List.take_of_length_le (f_ hkl)]
 |succ k ih =>
  intro i n' s hk hi W0 Uy hS Nf hR;have Ig:i<n:=by lia
  refine my t7 ?_;rw[jz kh _];show wpAny _ A.in1 (pyNext (.ref I) >>= _) _ _ s;refine aa (W.item i s _ _ Ig W0 λv s' hP axf hm=>?_);have lx:i<ks.length:=b_ Ig (g_ hkl)
  have hgx:ks[i]?=some ks[i]:=by simp[lx]
  obtain rfl:=axe i v _ hP hgx;have hxm:=p8 lx;have Uz:=hS.moved haw (hnk _ s W0) hm.heap;have aeg:∀x∈ks,IsTupleKey knd s'.heap x.1 x.2:=λx hx=>Qx (Uy x hx) (hkw x hx) hm.heap
  show wpAny _ A.in1 (holding [Value.ref ks[i].2] (setAdd a (.ref ks[i].2)) >>= _) _ _ s';refine aa (ji ?_);unfold setAdd;refine ji ?_;refine aa (wpAny_pyHash_tuple hu (aeg _ hxm) ?_);refine Y5 (s:={ s' with toks:=s'.toks+(ks[i].1.length+1) }) hpk hu (aeg _ hxm) (hpx _ hxm) Uz (by lia) λh' n2 b hsb hS2 W2=>?_
  obtain⟨oa,esa,epa,ta,hga,hca,hda,hfa⟩:=Uz.get;refine aj ⟨plainId_quiet kh _,ih (i+1) n2 _ (by lia) Ig (W.frame _ s' _ _ axf (wy _ _) λb hb o e=>?_) (λx hx=>ak6 (aeg x hx) hga hda hsb) (hS2.congr λk=>?_) (a_ W2 (v_ Nf)) λs'' n3 axh ala=>?_⟩
  . rw[hsb.2 b (λh:b=a=>haf (by rw[<- h];exact hb))];exact e
  . rw[List.take_add_one,ph,dw,hgx];simp
  . refine hR s'' n3 (Moved.trans W.gtrans ((hm.mono Y6).then_heap (wy _ _) λb o hb e=>?_) axh) ala
    rw[hsb.2 b (λh:b=a=>hb (by rw[h];exact cz))];exact e
def alb(hpk:Qv knd pk){id:String}{ks:List (List K×Addr)}(hh:A.handled=none)(hu:A.in1.units+1<cLine)(hS:Bx knd pk s.heap a (λ_=>False) 0)(hl:s.heap.IsList l items)(hit:items.toList=ks.map λx=>.ref x.2)(Uy:∀x∈ks,IsTupleKey knd s.heap x.1 x.2)(hpx:∀x∈ks,pk x)(hlen:ks.length<31)(h:∀h' tk n',(∀b o,b≠a->s.heap.get? b=some o->h'.get? b=some o)->Bx knd pk h' a (λk=>k∈ks.map (·.1)) n'->Q () { s with heap:=h',toks:=tk }) :
 wpAny (model prog w) A (Builtin.Frozenset.updateFrom id a (.ref l)) Q E s:=by
 have hT:s.TypeIs (.ref l) "list" := let ⟨o,ho,hc,_⟩:=hl;⟨o,ho,hc⟩;have hsz:items.size=ks.length:=by rw[<- u0,hit];simp
 obtain⟨oa,esa,epa,ta,hga,hca,hda,hfa⟩:=hS.get;unfold Builtin.Frozenset.updateFrom;refine aa (Fw hT F.sub_list_set F.sub_list_frozenset ?_);simp only[cg,jd];refine aa (uh hT ?_);rw[bw (by decide)];refine aa (wpAny_pyIter_list hl ?_);refine aa (wpAny_runValue ?_);have Ig:l<s.heap.objs.size:=let ⟨o,ho,_⟩:=hl;az ho
 have hat:a<s.heap.objs.size:=az hga
 have hla:l≠a:=by rintro rfl;obtain⟨o,ho,_,n,hd⟩:=hl;rw[ho] at hga;cases hga;rw[hd] at hda;cases hda
 have axi:l≠s.heap.objs.size:=fc Ig;have haf:a∉[s.heap.objs.size,l]:=by simp only[bx,wu,or_false,not_or];exact⟨fc hat,λe=>hla e.symm⟩
 have keep:∀b o,s.heap.get? b=some o->(s.heap.push { cls:=.type "list_iterator",data:=.fields #[.ref l,.int 0 0] }).get? b=some o:=λb o e=>aq _ e
 refine aq3 hpk (by lia) ((Walks.list (by simp[hh]) _ l axi items).toS) a haf ks hsz.symm (λi v x hv hx=>?_) hpx (c_ (f_ hsz) hlen) (λx hx hc=>?_) (λi s' st b kk hb hkb=>?_) items.size 0 0 _ rfl (jt _)
  ⟨⟨_,bh _ rfl,rfl,rfl⟩,hl.push _⟩ (λx hx=>Qx (wr:=[]) (Uy x hx) (by simp) λb o _ e=>keep b o e) ?_ (bu _) ?_
 . have:items.toList[i]?=some v:=by simpa using hv
   rw[hit,iz,hx] at this;exact(jq this).symm
 . simp at hc
   obtain⟨o,_,_,ho,_⟩:=Uy x hx;have:=az ho;rw[hc] at this;exact lq _ this
 . simp at hb
   subst hb;obtain⟨o,_,_,ho,hc,_⟩:=hkb;obtain⟨⟨o',ho',hc',_⟩,_⟩:=st;rw[ho] at ho';cases ho';rw[hc] at hc';exact absurd hc' (by decide)
 . refine(hS.moved (wr:=[]) (by simp) (by simp) λb o _ e=>keep b o e).congr λk=>by simp
 . intro s' n'' hm Uz
   obtain⟨h',g',d',tk',os'⟩:=s';have eg:g'=s.gens:=hm.gens;have ed:d'=s.drawn:=hm.drawn;have eo:os'=s.os:=hm.os;subst eg;subst ed;subst eo;show wpAny _ _ _ _ _ _;refine aj (h h' tk' n'' (λb o hb e=>?_) Uz);refine hm.heap b o ?_ (keep b o e);simp only[bx,wu,or_false,not_or];exact⟨hb,fc (az e)⟩
end
theorem U0{α:Type}:∀{l:List α}{i:Nat}(h:i<l.length),(l[i]::l.eraseIdx i).Perm l
 |x::l,0,_=>yj _
 |x::l,i+1,h=>by
  have ih:=U0 (l:=l) (i:=i) (by simpa using h);simp only[List.getElem_cons_succ,List.eraseIdx_cons_succ];exact(List.Perm.swap x _ _).trans (ih.cons x)
theorem af4{α:Type}(nx:Nat->Nat):∀(fuel k:Nat)(left:List α)(out:Array α),left.length=fuel->(pickOrder.go nx fuel k left out).toList.Perm (out.toList++left)
 |0,k,left,out,h=>by
  have:left=[]:=yl.mp h;subst this;unfold pickOrder.go;simp
 |fuel+1,k,left,out,h=>by
  unfold pickOrder.go;have hq:nx k%left.length<left.length:=Nat.mod_lt _ (by lia)
  rw[dh hq];dsimp only;refine(af4 nx fuel (k+1) _ _ (by rw[List.length_eraseIdx];split<;>lia)).trans ?_;rw[Array.toList_push,xu];refine List.Perm.append_left _ ?_;exact U0 hq
def Xi(nx:Nat->Nat)(xs:Array α):(pickOrder nx xs).toList.Perm xs.toList:=by unfold pickOrder;simpa using af4 nx xs.size 0 xs.toList #[] (by simp)
theorem U3{α:Type}[DecidableEq α]:∀{l1 l2:List α},l1.Nodup->l1 ⊆ l2->l2.length<=l1.length->∀x∈l2,x∈l1
 |[],l2,_,_,h,x,hx=>by
  have:l2=[]:=yl.mp (by simpa using h);subst this;simp at hx
 |a::l1,l2,hn,hs,h,x,hx=>by
  by_cases e:x=a
  . subst e;exact cz
  . refine bc _ ?_
    have ha:a∈l2:=hs cz;have Nf:=mz.mp hn;refine U3 (l2:=l2.erase a) Nf.2 (λy hy=>?_) ?_ x ((List.mem_erase_of_ne e).mpr hx)
    . exact(List.mem_erase_of_ne (λ(e:y=a)=>Nf.1 (by rw[<- e];exact hy))).mpr (hs (bc _ hy))
    . rw[List.length_erase_of_mem ha];simp at h;omega
def Y7:entryFor table "set.__ne__" = some Builtin.«frozenset.__ne__» :=
 entryFor_alias (id' := "frozenset.__ne__") (by kernel_rfl) rfl (by decide+kernel) (by kernel_rfl)
def sub_set_frozenset:isSubtype (.type "set") (.type "frozenset")=pure false:=by rw[isSubtype_type];kernel_rfl
section
variable{prog:Program}{w:World}{K:Type}[DecidableEq K]{knd:KeyKind prog w K}{pk:List K×Addr->Prop}{A:Around}{E:Y1}{s:Shared}
set_option tactic.hygienic true in
def aq6(X:Qw knd pk s.heap a xs o es ep t)(h:∀l,l.toList.Perm es.toList->Q l s):wpAny (model prog w) A (setWalk a) Q E s:=by
 unfold setWalk;refine aa (jo X.get X.dat X.tab.fits ?_);dsimp only;refine aa (Uc ?_);split
 . exact aa (wpAny_askSetting (aj (h _ (Xi _ _))))
 . rename_i hb
   have hb:bt w=false:=by simpa using hb
   split
   . rename_i hd
     have hd:(!t.plain&&decide (es.size > 1))=true:=hd;rw[X.pla] at hd;cases hd
   . refine aa ?_
     have:wpAny (model prog w) A (if(!t.led&&decide (es.size > 1))=true then unsupported "set:maker-not-led" else pure ()) (λ_ s'=>wpAny (model prog w) A (pure es) Q E s') E s:=by rw[X.led,hb];simp only[yh,qj,Bool.false_and,cg,jd];exact aj (aj (h es (yj _)))
     exact this
def ain(hk:IsTupleKey knd s.heap ks a)(h:Q false s):wpAny (model prog w) A (Builtin.Frozenset.quietEq (.ref a)) Q E s:=by
 unfold Builtin.Frozenset.quietEq;refine aa (wpAny_specialOf hk.typeIs F.slot_tuple_eq.lookup ?_);refine aj ?_;have:(some (Value.builtin "tuple.__eq__")==some (Value.builtin "object.__eq__"))=false:=by decide
 rw[this];exact h
def Y8(X:Qw knd pk h a xs o es ep t)(he:e∈es.toList):∃x∈xs,e=ent knd x:=by rw[X.ent] at he;obtain⟨x,hx,rfl⟩:=bf.mp he;exact⟨x,hx,rfl⟩
def aio(X:Qw knd pk s.heap a xs o es ep t)(Y:Qw knd pk s.heap b ys o' es' ep' t')(h:∀l:List (Int×Value),l.Perm es.toList->Q l s):wpAny (model prog w) A (Builtin.Frozenset.walkUnseen a b) Q E s:=by
 unfold Builtin.Frozenset.walkUnseen;refine aa (j9 X.get X.dat X.tab.fits ?_);refine aa (j9 Y.get Y.dat Y.tab.fits ?_);refine aa ?_;refine pq _ (λrest r s'=>r.1=none/\s'=s/\∀e∈rest,∃ks p,e.2=.ref p/\IsTupleKey knd s.heap ks p) _ ?_ ?_ _ _ ⟨rfl,rfl,λe he=>?_⟩
 . rintro e rest r s' ⟨hr,rfl,Cm⟩
   obtain⟨ks,p,hep,hk⟩:=Cm e cz;obtain⟨h0,x0⟩:=e;subst hep;dsimp only;refine aa (ain hk ?_);simp only[yh,ju];unfold Builtin.Frozenset.walk;refine aa (aa (aq6 X λl hl=>aj ?_));exact aj (aj (h _ hl))
 . rintro⟨r1,r2⟩ s' ⟨hr,rfl,_⟩
   simp only at hr;subst hr;exact aj (h _ (yj _))
 . rcases dw.mp he with he|he
   . obtain⟨x,hx,rfl⟩:=Y8 X he
     exact⟨x.1,x.2,rfl,(X.keys x hx).1⟩
   . obtain⟨x,hx,rfl⟩:=Y8 Y he
     exact⟨x.1,x.2,rfl,(Y.keys x hx).1⟩
def axj{id:String}(hu:A.units<cLine)(hS:Bx knd pk s.heap a S n)(hT:Bx knd pk s.heap b T m)(h:∀c:Bool,(c=true↔n<=m/\∀k,S k->T k)->Q c s):wpAny (model prog w) A (Builtin.Frozenset.subsetOf id a b) Q E s:=by
 have hT':=hT;obtain⟨xs,o,es,ep,t,X,hm,hn,_⟩:=hS;obtain⟨ys,o',es',ep',t',Y,hm',Nf,_⟩:=hT;have h1:=X.size;have h2:=Y.size;unfold Builtin.Frozenset.subsetOf Builtin.Frozenset.sizeOf;refine aa (aa (j9 X.get X.dat X.tab.fits (aj ?_)));refine aa (aa (j9 Y.get Y.dat Y.tab.fits (aj ?_)));split
 . exact aj (h false (by simp;lia))
 . refine aa (wpAny_setEpoch_of X.get X.dat X.tab.fits ?_)
   refine aa (aio X Y λl hl=>?_);refine aa ?_;refine pq _ (λrest r s'=>r.1=none/\s'=s/\(∀e∈rest,∃x∈xs,e=ent knd x)/\∀x∈xs,ent knd x∈rest\/T x.1) _ ?_ ?_ _ _ ⟨rfl,rfl,λe he=>Y8 X (hl.mem_iff.mp he),λx hx=>.inl (hl.mem_iff.mpr (by rw[X.ent];exact bf.mpr ⟨x,hx,rfl⟩))⟩
   . rintro e rest r s' ⟨hr,rfl,Cm,alc⟩
     obtain⟨x,hx,rfl⟩:=Cm e cz;show wpAny _ _ (holding [.ref x.2] (setFind b (.ref x.2) (tupleKeyHash knd x.1)) >>= _) _ _ _;refine aa (ji (aqw hu (X.keys x hx).1 hT' λr hr=>?_));cases r with
     |none =>
      simp only[Option.isNone_none,ju];refine aj (aj (h false ?_));simp only[cg,false_iff,not_and,Classical.not_forall];intro _;refine⟨x.1,(hm x.1).mpr (bf.mpr ⟨x,hx,rfl⟩),λhc=>?_⟩;have:=hr.mpr hc;cases this
     |some i =>
      simp only[Option.isNone_some,cg,jd];unfold Builtin.Frozenset.unchanged;refine aa (aa (wpAny_setEpoch_of X.get X.dat X.tab.fits ?_));rw[bw (by simp)];refine aj (aj ⟨rfl,rfl,λe he=>Cm e (bc _ he),λy hy=>?_⟩);rcases alc y hy with hc|hc
      . rcases bx.mp hc with hc|hc
        . right
          have hTx:T x.1:=hr.mp rfl;have e2:y.2=x.2:=by have:=p7 Prod.snd hc;unfold ent at this;injection this
          have:y.1=x.1:=IsTupleKey.inj (X.keys y hy).1 (by rw[e2];exact(X.keys x hx).1);rw[this];exact hTx
        . exact .inl hc
      . exact .inr hc
   . rintro⟨r1,r2⟩ s' ⟨hr,rfl,_,alc⟩
     simp only at hr;subst hr;refine aj (h true ?_);simp only[true_iff];refine⟨by lia,λk hk=>?_⟩;obtain⟨x,hx,rfl⟩:=bf.mp ((hm k).mp hk);rcases alc x hx with hc|hc
     . simp at hc
     . exact hc
set_option tactic.hygienic true in
def a3n(hu:A.in1.units<cLine)(hu0:A.units<cLine)(hS:Bx knd pk s.heap a S n)(hT:Bx knd pk s.heap b T m)(h:∀c:Bool,(c=true↔¬∀k,S k↔T k)->Q (.bool c) s):wpAny (model prog w) A (compareOp .NotEq (.ref a) (.ref b)) Q E s:=by
 show wpAny _ _ (richCompare .NotEq (.ref a) (.ref b)) _ _ _;refine wpAny_richCompare_same_room (op:=.NotEq) hS.typeIs hT.typeIs F.slot_set_ne (jr F.slot_set_ne hS.typeIs Y7 ?_ (F.args_set_ne_2 _ _)) hu0;have fin:∀c:Bool,(c=true↔∀k,S k↔T k)->Q (.bool !c) s:=λc hc=>h _ (by cases c<;>simp_all)
 have Uz:=hS;have hT':=hT;obtain⟨xs,o,es,ep,t,X,hm,hn,_⟩:=Uz;obtain⟨ys,o',es',ep',t',Y,hm',Nf,_⟩:=hT';have h1:=X.size;have h2:=Y.size;have same:(∀k,S k↔T k)->n=m:=λe=>by
  have:(xs.map (·.1)).Perm (ys.map (·.1)):=(List.perm_ext_iff_of_nodup X.nod Y.nod).mpr λk=>by rw[<- hm k,<- hm' k];exact e k
  have:=this.length_eq;simp at this;exact u_ (a_ (g_ hn) (a_ (f_ this) (f_ Nf))) (a_ (g_ Nf) (a_ (g_ this) (f_ hn)))
 have back:n=m->(∀k,S k->T k)->∀k,S k↔T k:=λe hs k=>⟨hs k,λhk=>(hm k).mpr (U3 X.nod (λk hk=>(hm' k).mp (hs k ((hm k).mpr hk))) (by simp;exact a_ (f_ Nf) (a_ (g_ e) (g_ hn))) k ((hm' k).mp hk))⟩
 show wpAny _ _ (Builtin.Frozenset.slot1 "__ne__" ⟨[.ref a,.ref b],[]⟩ >>= _) _ _ _;unfold Builtin.Frozenset.slot1 slotArgs;simp only[List.isEmpty_nil,qj,cg,↓reduceIte,bind_assoc,gn,List.length_nil,ye];refine aa (aj ?_)
 try dsimp only
 refine aa (aj ?_)
 try dsimp only
 refine aa (bao hT.typeIs ?_);simp only[qj,cg,↓reduceIte];refine aa (m:=Builtin.Frozenset.addrOf (.ref a)) (aj ?_);refine aa (m:=Builtin.Frozenset.addrOf (.ref b)) (aj ?_);unfold Builtin.Frozenset.sizeOf;refine aa (aa (j9 X.get X.dat X.tab.fits (aj ?_)));refine aa (aa (j9 Y.get Y.dat Y.tab.fits (aj ?_)));refine aa ?_;split
 . rename_i Sg
   refine aj ?_;refine aj ⟨_,rfl,(λe=>nomatch e),fin false ?_⟩;simp only[cg,false_iff];intro e;have:=same e;simp at Sg;lia
 . rename_i Sg
   have hnm:n=m:=by simp at Sg;lia
   refine aa (aa (m8 hS.typeIs sub_set_frozenset ?_));refine aj ?_;simp only[cg,↓reduceIte];refine axj hu hS hT λc hc=>?_
   exact aj ⟨_,rfl,(λe=>nomatch e),fin c (hc.trans ⟨λe=>back hnm e.2,λe=>⟨f_ hnm,λk=>(e k).mp⟩⟩)⟩
end
def af5{prog:Program}{w:World}{A:Around}{α:Type}{Q:α->Shared->Prop}{E:Y1}{s:Shared}(hd:A.handled=none)(q:∀h' x,(∀b o,s.heap.get? b=some o->h'.get? b=some o)->(∃o,h'.get? x=some o/\o.cls=.type "StopIteration")->E (.ref x) { s with heap:=h' }):wpAny (model prog w) A (newExc (.type "StopIteration") [] >>= raiseNew) Q E s:=by simp only[newExc,newTuple];refine aa (aa (qw (aa (m:=firstArgMember _ _) (wpAny_of_eq (a:=Value.none) (by first|rfl|(simp only[firstArgMember];rfl)) (qw ?_ (by size_fits)))) (by size_fits)));simp only[raiseNew];refine aa (wpAny_handled ?_);rw[hd];exact aa (aj (wpAny_throw (q _ _ (λb o e=>aq _ (aq _ e)) ⟨_,bh _ rfl,rfl⟩)))
def aq7(k:Xe t es)(F:Fst t h N)(room:t.place.size+1<=t.mask) :
 layNew t es h x=(insertAt es (t.put (P t.mask h N).j).2 (h,x),(t.put (P t.mask h N).j).1,false,false):=by
 have e:t.freeSlot h=some ((P t.mask h N).j,false):=by
  unfold freeSlot probe;rw[aa2];rcases aky k F (λ_=>h+1) (10*turns t.mask) 0 (jt _) (by have:=F.lt;exact c_ C_ this) with⟨a,_⟩|⟨m,i,_,_,_,c,_⟩
  . rw[a];rfl
  . lia
 have f:=(k.put (x:=x) F room).fits;unfold layNew;rw[e];show(insertAt es (t.put (P t.mask h N).j).2 (h,x),(t.put (P t.mask h N).j).1.orStandIn (insertAt es (t.put (P t.mask h N).j).2 (h,x)).size,false,!(t.put (P t.mask h N).j).1.fits (insertAt es (t.put (P t.mask h N).j).2 (h,x)).size)=_;unfold orStandIn;rw[cj f,f];rfl
def aip(hm:Msk (sizeAbove wanted-1))(hz:es.size<=sizeAbove wanted-1) :
 ∃es' t',relayAll t es wanted=(es',t',false)/\t'.mask=sizeAbove wanted-1/\Xe t' es'/\es'.toList.Perm es.toList/\t'.led=t.led/\t'.plain=t.plain:=by
 obtain⟨t',order,e,e1,T',p,sz,hl,hp,_,hpm⟩:=af0 hm t.finger (t.movedTo (sizeAbove wanted-1)) t.led t.plain es hz;have er:t.relaid (es.map (·.1)) wanted=some (t',order):=e;refine⟨order.filterMap (es[·]?),t',?_,e1,T',p,hl,hp⟩;unfold relayAll;rw[er];dsimp only;rw[cj];rw[ao];exact⟨by unfold coversAll;exact List.isPerm_iff.mpr hpm,T'.fits⟩
noncomputable def enI(x:Int×Tok):Int×Value:=(hashInt x.1,.int x.1 x.2)
structure Jg(w:World)(h:Heap)(a:Addr)(xs:List (Int×Tok))(o:Obj)(es:Array (Int×Value))(ep:Nat)(t:SetTable):Prop where
 get:h.get? a=some o
 exa:o.ExactSet
 dat:o.data=.set es ep t
 tab:Xe t es
 ent:es.toList=xs.map enI
 nod:(xs.map (·.1)).Nodup
 led:t.led=!bt w
 pla:t.plain=true
def Dm(w:World)(h:Heap)(a:Addr)(S:Int->Prop)(n:Nat):Prop:=∃xs o es ep t,Jg w h a xs o es ep t/\(∀k,S k↔k∈xs.map (·.1))/\xs.length=n/\t.place.size*5<t.mask*3
theorem Jg.size(X:Jg w h a xs o es ep t):es.size=xs.length:=by have:=p7 List.length X.ent;simpa using this
def Jg.elems(X:Jg w h a xs o es ep t):ElemsOf (intKind prog w) es.toList:=λe he=>by rw[X.ent] at he;obtain⟨x,_,rfl⟩:=bf.mp he;exact⟨⟨x.1,by simp[enI,intKind,Value.isInt],rfl⟩,rfl⟩
def a3o(X:Jg w h a xs o es ep t)(T':Xe t' es')(he:es'.toList=xs'.map enI)(hn:(xs'.map (·.1)).Nodup)(hl:t'.led=!bt w)(hp:t'.plain=true) :
 Jg w (h.update a (Obj.putSet es' t')) a xs' { o with data:=.set es' (ep+1) t' } es' (ep+1) t':=by
 have hg:(h.update a (Obj.putSet es' t')).get? a=some { o with data:=.set es' (ep+1) t' }:=by have:=lz (Obj.putSet es' t') X.get (by rw[putSet_of es' t' X.dat];rfl);rw[putSet_of es' t' X.dat] at this;exact this
 exact⟨hg,X.exa,rfl,T',he,hn,hl,hp⟩
theorem Dm.get(hS:Dm w h a S n):∃o es ep t,h.get? a=some o/\o.ExactSet/\o.data=.set es ep t/\t.fits es.size=true :=
 let ⟨_,o,es,ep,t,X,_⟩:=hS;⟨o,es,ep,t,X.get,X.exa,X.dat,X.tab.fits⟩
def Dm.congr(hS:Dm w h a S n)(e:∀k,S k↔S' k):Dm w h a S' n :=
 let ⟨xs,o,es,ep,t,X,hm,r⟩:=hS;⟨xs,o,es,ep,t,X,λk=>(e k).symm.trans (hm k),r⟩
def Dm.moved(hS:Dm w h a S n)(hm:∀o,h.get? a=some o->h'.get? a=some o):Dm w h' a S n :=
 let ⟨xs,o,es,ep,t,X,r⟩:=hS
 ⟨xs,o,es,ep,t,⟨hm o X.get,X.exa,X.dat,X.tab,X.ent,X.nod,X.led,X.pla⟩,r⟩
def ale(hg:h.get? a=some (zx w)):Dm w h a (λ_=>False) 0 :=
 ⟨[],zx w,#[],0,_,⟨hg,⟨rfl,rfl,rfl⟩,rfl,⟨.inl rfl,rfl,rfl,λi j a b e=>by simp[SetTable.fresh] at e,λi j e=>by simp[SetTable.fresh] at e,by simp[SetTable.fresh],λi j e a=>by simp[SetTable.fresh] at a⟩,
  rfl,w5,rfl,rfl⟩,λk=>by simp,rfl,by simp[SetTable.fresh]⟩
def aq8(hS:Dm w s.heap a S n)(hn:n+1<32)(h:∀h' n' b,Heap.SameBut a s.heap h'->Dm w h' a (λk'=>S k'\/k'=k) n'->n'<=n+1->Q b { s with heap:=h' }) :
 wpAny (model prog w) A (setAddHashed a (.int k tk) (hashInt k)) Q E s:=by
 obtain⟨xs,o,es,ep,t,X,hm,hl,nf⟩:=hS;obtain⟨N,F⟩:=X.tab.fst (hashInt k);have hsz:=X.size;have hel:=X.elems (prog:=prog);have axl:(intKind prog w).is k (.int k tk)=true:=by simp[intKind,Value.isInt]
 unfold setAddHashed setAddHashedIn;refine ji (aa (jo X.get X.dat X.tab.fits ?_));dsimp only;rw[byScan_of (knd:=intKind prog w) (x:=.int k tk) rfl (by unfold scanBound;lia) hel];simp only[↓reduceIte];unfold setAddByScan;refine aa ?_;refine aa (wpAny_rule ?_);refine aa (wpAny_setScan_of (knd:=intKind prog w) (k:=k) axl X.get X.dat X.tab.fits hel ?_);cases hr:List.findIdx? (λe=>(intKind prog w).is k e.2) es.toList with
 |some j =>
  dsimp only;obtain⟨hj,hpj,_⟩:=um.mp hr;have hSk:S k:=by
   obtain⟨x,hx,ex⟩:∃x∈xs,enI x=es.toList[j]:=by have Hf:=p8 hj;generalize es.toList[j]=e at Hf;rw[X.ent] at Hf;exact bf.mp Hf
   have hp2:(intKind prog w).is k (enI x).2=true:=by rw[ex];exact hpj
   refine(hm k).mpr (bf.mpr ⟨x,hx,?_⟩);have:(intKind prog w).is x.1 (enI x).2=true:=by simp[enI,intKind,Value.isInt]
   exact(intKind prog w).inj _ _ _ this hp2
  refine aj (aj ?_);have:=h s.heap n false (Heap.SameBut.refl a s.heap) ⟨xs,o,es,ep,t,X,λk'=>by
   rw[<- hm k'];exact⟨λh=>h.elim id (λe=>e▸hSk),.inl⟩,hl,nf⟩ x_
  exact this
 |none =>
  dsimp only;have hno:∀x∈xs,x.1≠k:=λx hx e=>by have:=xf.mp hr (enI x) (by rw[X.ent];exact bf.mpr ⟨x,hx,rfl⟩);subst e;simp[enI,intKind,Value.isInt] at this
  have room:t.place.size+1<=t.mask:=by have:=X.tab.msk;rcases this with e|e|e|e|e<;>lia
  have T':=X.tab.put (x:=.int k tk) F room;rw[aq7 X.tab F room];have Ge:(t.put (P t.mask (hashInt k) N).j).1.plain=true:=X.pla;have hld:(t.put (P t.mask (hashInt k) N).j).1.led=!bt w:=X.led;obtain⟨xs',ex,px⟩:=Cq (f:=enI) (insertAt_perm es (t.put (P t.mask (hashInt k) N).j).2 (hashInt k,.int k tk)) (xs:=xs++[(k,tk)]) (by rw[Array.toList_push,X.ent,ph];rfl);have pm:=px.map (·.1);have hnd:(xs'.map (·.1)).Nodup:=pm.nodup_iff.mpr (by
   rw[ph,yd];refine⟨X.nod,by simp,λa ha b hb=>?_⟩;simp at hb;subst hb;rintro rfl;obtain⟨x,hx,e⟩:=bf.mp ha;exact hno x hx e)
  have hX:=a3o X T' ex hnd hld Ge;have Hf:∀k',(S k'\/k'=k)↔k'∈xs'.map (·.1):=λk'=>by rw[pm.mem_iff,ph,dw,hm k'];simp
  have hlen:xs'.length=n+1:=by rw[px.length_eq];simp[hl]
  have hes:(insertAt es (t.put (P t.mask (hashInt k) N).j).2 (hashInt k,Value.int k tk)).size=es.size+1:=Kp _ _ _;have ak7:(t.put (P t.mask (hashInt k) N).j).1.place.size=es.size+1:=by rw[T'.Xf,hes]
  have hf:(t.put (P t.mask (hashInt k) N).j).1.fill=es.size+1:=by unfold fill;rw[ak7,T'.dum];rfl
  generalize insertAt es (t.put (P t.mask (hashInt k) N).j).2 (hashInt k,Value.int k tk)=es1 at *;generalize(t.put (P t.mask (hashInt k) N).j).1=t1 at *;dsimp only;refine aa (aj ?_);rw[Ge];simp only[ju];refine aa ?_;rw[hashByValue_scannable 8 (x:=.int k tk) rfl];refine aj ?_;have ep1:plainKind (.int k tk)=true:=rfl;simp only[ep1,ju];refine aa (wpAny_storeSet_of X.get X.dat ?_ (Ii (by lia)))
  by_cases htf:t1.tooFull=true
  . rw[htf]
    simp only[yh,Bool.and_self,ju];obtain⟨g1,g2,g3,g4,g5⟩:=Xh (es.size+1) (c_ (v_ (f_ hsz)) (c_ (v_ (f_ hl)) hn));obtain⟨es2,t2,e2,m2,T2,p2,l2,q2⟩:=aip (t:=t1) (es:=es1) (wanted:=grown (es.size+1)) g1 (a_ (f_ hes) g2);rw[hes,e2];dsimp only;refine aa (aj ?_);obtain⟨xs2,ex2,px2⟩:=Cq p2 ex;have hX2:=a3o hX T2 ex2 ((px2.map _).nodup_iff.mpr hnd) (l2.trans hld) (q2.trans Ge);have hz2:es2.size=es.size+1:=by have:=p2.length_eq;simp at this;exact this.trans hes
    refine aa (wpAny_storeSet_of hX.get rfl ?_ (Ii (a_ (f_ hz2) (a_ g2 (a_ C_ g5)))));refine aj (aj (h _ (n+1) true ((jw s.heap a _).trans (jw _ a _)) ⟨xs2,_,es2,_,t2,hX2,λk'=>?_,by rw[px2.length_eq,hlen],?_⟩ (bu _)))
    . exact(Hf k').trans (px2.map (·.1)).mem_iff.symm
    . rw[T2.Xf,m2,hz2];exact t_ g4
  . rw[Bool.not_eq_true] at htf
    rw[htf];simp only[Bool.and_false,cg,jd];refine aj (aj (h _ (n+1) true (jw s.heap a _) ⟨xs',_,_,_,_,hX,Hf,hlen,?_⟩ (bu _)));unfold tooFull at htf;rw[hf] at htf;rw[ak7];simp at htf;exact htf
def alf{I:Addr}{P:Nat->Value->Prop}(W:WalksS prog w A.in1 I fp wr G n P St)(a:Addr)(haf:a∉fp)(ks:Xs)(hkl:ks.length=n)(axe:∀i v x,P i v->ks[i]?=some x->∃tk,v=.int x tk)(hb:n<31) :
 ∀(k i n':Nat)(s:Shared),n-i=k->i<=n->St i s ->
  Dm w s.heap a (λk'=>k'∈ks.take i) n'->n'<=i ->
  (∀s' n'',Moved (a::wr) G s s'->Dm w s'.heap a (λk'=>k'∈ks) n''->n''<=n->R (.ok (.ret .none)) s') ->
  codeAny (model prog w) A (.builtin "set.update.loop" ⟨[.ref a,.ref I],[]⟩) R s:=by
 have haw:a∉wr:=λh=>haf (W.sub _ h)
 have Y6:∀b∈wr,b∈a::wr:=λb hb=>bc _ hb
 intro k
 induction k with
 |zero =>
  intro i n' s hk hi W0 hS Nf hR;have Wz:i=n:=by lia
  subst Wz;refine my t7 ?_;rw[jz kh _];show wpAny _ A.in1 (pyNext (.ref I) >>= _) _ _ s;refine aa (W.done s _ _ W0 λs' hm=>?_);show wpAny _ A.in1 (ret Value.none) _ _ s';refine aj (hR s' n' (hm.mono Y6) ((hS.moved λo=>hm.heap a o haw).congr λk=>?_) Nf);rw[List.take_of_length_le (f_ hkl)]
 |succ k ih =>
  intro i n' s hk hi W0 hS Nf hR;have Ig:i<n:=by lia
  refine my t7 ?_;rw[jz kh _];show wpAny _ A.in1 (pyNext (.ref I) >>= _) _ _ s;refine aa (W.item i s _ _ Ig W0 λv s' hP axf hm=>?_);have lx:i<ks.length:=b_ Ig (g_ hkl)
  have hgx:ks[i]?=some ks[i]:=by simp[lx]
  obtain⟨tk,rfl⟩:=axe i v _ hP hgx;have Uz:=hS.moved λo=>hm.heap a o haw
  show wpAny _ A.in1 (holding [Value.int ks[i] tk] (setAdd a (.int ks[i] tk)) >>= _) _ _ s';refine aa (ji ?_);unfold setAdd;refine ji ?_;refine aa (wpAny_pyHash_int ?_);refine aq8 (s:={ s' with toks:=s'.toks+1 }) Uz (by lia) λh' n2 b hsb hS2 W2=>?_
  refine aj ⟨plainId_quiet kh _,ih (i+1) n2 _ (by lia) Ig (W.frame _ s' _ _ axf (wy _ _) λb hb o e=>?_) (hS2.congr λk=>?_) (a_ W2 (v_ Nf)) λs'' n3 axh ala hn3=>?_⟩
  . rw[hsb.2 b (λh:b=a=>haf (by rw[<- h];exact hb))];exact e
  . rw[List.take_add_one,dw,hgx];simp
  . refine hR s'' n3 (Moved.trans W.gtrans ((hm.mono Y6).then_heap (wy _ _) λb o hb e=>?_) axh) ala hn3
    rw[hsb.2 b (λh:b=a=>hb (by rw[h];exact cz))];exact e
def aiq{id:String}(hh:A.handled=none)(hS:Dm w s.heap a (λ_=>False) 0)(hl:s.heap.IsList l items)(hit:PyProof.Rows.IntsAre items.toList ks)(hlen:ks.length<31)(h:∀h' tk n',(∀b o,b≠a->s.heap.get? b=some o->h'.get? b=some o)->Dm w h' a (λk=>k∈ks) n'->n'<=ks.length->Q () { s with heap:=h',toks:=tk }) :
 wpAny (model prog w) A (Builtin.Frozenset.updateFrom id a (.ref l)) Q E s:=by
 have hT:s.TypeIs (.ref l) "list" := let ⟨o,ho,hc,_⟩:=hl;⟨o,ho,hc⟩;have hsz:items.size=ks.length:=by rw[<- u0];exact PyProof.Rows.IntsAre.length hit
 obtain⟨oa,esa,epa,ta,hga,hca,hda,hfa⟩:=hS.get;unfold Builtin.Frozenset.updateFrom;refine aa (Fw hT F.sub_list_set F.sub_list_frozenset ?_);simp only[cg,jd];refine aa (uh hT ?_);rw[bw (by decide)];refine aa (wpAny_pyIter_list hl ?_);refine aa (wpAny_runValue ?_);have Ig:l<s.heap.objs.size:=let ⟨o,ho,_⟩:=hl;az ho
 have hat:a<s.heap.objs.size:=az hga
 have hla:l≠a:=by rintro rfl;obtain⟨o,ho,_,n,hd⟩:=hl;rw[ho] at hga;cases hga;rw[hd] at hda;cases hda
 have axi:l≠s.heap.objs.size:=fc Ig;have haf:a∉[s.heap.objs.size,l]:=by simp only[bx,wu,or_false,not_or];exact⟨fc hat,λe=>hla e.symm⟩
 have keep:∀b o,s.heap.get? b=some o->(s.heap.push { cls:=.type "list_iterator",data:=.fields #[.ref l,.int 0 0] }).get? b=some o:=λb o e=>aq _ e
 refine alf ((Walks.list (by simp[hh]) _ l axi items).toS) a haf ks hsz.symm (λi v x hv hx=>?_) (c_ (f_ hsz) hlen) items.size 0 0 _ rfl (jt _)
  ⟨⟨_,bh _ rfl,rfl,rfl⟩,hl.push _⟩ ?_ (bu _) ?_
 . obtain⟨tk,e⟩:=PyProof.Rows.IntsAre.int_at hit i v (by rw[nq];exact hv)
   rw[dj,hx] at e;exact⟨tk,e⟩
 . refine(hS.moved λo e=>keep a o e).congr λk=>by simp
 . intro s' n'' hm Uz a3k
   obtain⟨h',g',d',tk',os'⟩:=s';have eg:g'=s.gens:=hm.gens;have ed:d'=s.drawn:=hm.drawn;have eo:os'=s.os:=hm.os;subst eg;subst ed;subst eo;show wpAny _ _ _ _ _ _;refine aj (h h' tk' n'' (λb o hb e=>?_) Uz (a_ a3k (f_ hsz)));refine hm.heap b o ?_ (keep b o e);simp only[bx,wu,or_false,not_or];exact⟨hb,fc (az e)⟩
def air(hh:A.handled=none)(hl:s.heap.IsList l items)(hit:PyProof.Rows.IntsAre items.toList ks)(hlen:ks.length<31)(h:∀h' tk n',(∀b o,s.heap.get? b=some o->h'.get? b=some o)->Dm w h' s.heap.objs.size (λk=>k∈ks) n'->n'<=ks.length->Q (.ref s.heap.objs.size) { s with heap:=h',toks:=tk }) :
 wpAny (model prog w) A (call (.type "set") [.ref l]) Q E s:=by
 refine Kq (R:=λs'=>∃h' tk n',s'={ s with heap:=h',toks:=tk }/\(∀b o,s.heap.get? b=some o->h'.get? b=some o)/\Dm w h' s.heap.objs.size (λk=>k∈ks) n'/\n'<=ks.length)
  (aiq (s:={ s with heap:=s.heap.push (zx w) }) (by simp[hh]) (ale (bh _ rfl)) (hl.push _) hit hlen λh' tk n' hk Uz Nf=>⟨h',tk,n',rfl,λb o e=>hk b o (fc (az e)) (aq _ e),Uz,Nf⟩)
  λs' ⟨h',tk,n',e,hk,Uz,Nf⟩=>by subst e;exact h h' tk n' hk Uz Nf
def U4:entryFor table "set.__iter__" = some Builtin.«frozenset.__iter__» :=
 entryFor_alias (id' := "frozenset.__iter__") (by kernel_rfl) rfl (by decide+kernel) (by kernel_rfl)
def An:Slot "set_iterator" "__next__" "set_iterator.__next__" :=
 .of (owner := "set_iterator") (n := "__next__") (by rw[typeLookup_type,builtinLookup_eq_fast];kernel_rfl) (by decide+kernel) (by decide+kernel) (by decide+kernel)
  (by first|exact .inl (by decide+kernel)|exact .inr (by decide+kernel)) (by rw[isSubtype_type];kernel_rfl)
def Jx:Slot "set_iterator" "__iter__" "set_iterator.__iter__" :=
 .of (owner := "set_iterator") (n := "__iter__") (by rw[typeLookup_type,builtinLookup_eq_fast];kernel_rfl) (by decide+kernel) (by decide+kernel) (by decide+kernel)
  (by first|exact .inl (by decide+kernel)|exact .inr (by decide+kernel)) (by rw[isSubtype_type];kernel_rfl)
def Ij:entryFor table "set_iterator.__next__" = some Builtin.«set_iterator.__next__»:=entryFor_of_fast (by kernel_rfl)
def Qy:entryFor table "set_iterator.__iter__" = some Builtin.«dict_keyiterator.__iter__» :=
 entryFor_alias (id' := "dict_keyiterator.__iter__") (by kernel_rfl) rfl (by decide+kernel) (by kernel_rfl)
def Jy(a:Value):argsOk "set_iterator.__next__" ⟨[a],[]⟩:=by unfold argsOk;kernel_rfl
def Tw(a:Value):argsOk "set_iterator.__iter__" ⟨[a],[]⟩:=by unfold argsOk;kernel_rfl
def aeh(hs:Srt xs):below xs 0=0:=by
 obtain⟨h1,h2,h3⟩:=Dp (j:=0) hs;rcases Nat.eq_zero_or_pos (below xs 0) with e|e
 . exact e
 . have l:0<xs.size:=b_ e h1
   have:=h2 0 xs[0] (by simp[l]) e
   lia
def aei(hs:Srt xs)(h:xs[i]?=some j):below xs (j+1)=i+1:=by
 obtain⟨h1,h2,h3⟩:=Dp (j:=j+1) hs;have a1:i<below xs (j+1):=by
  rcases xj i (below xs (j+1)) with l|l
  . exact l
  . have:=h3 i j h l;lia
 have a2:¬i+1<below xs (j+1):=λl=>by
  have l2:i+1<xs.size:=b_ l h1
  have e2:xs[i+1]?=some xs[i+1]:=by simp[l2]
  have:=h2 (i+1) _ e2 l;have:=hs i (i+1) j _ h e2 B_
  lia
 exact u_ (s_ a2) a1
noncomputable def wkN(w:World)(a:Addr)(es:Array (Int×Value))(ep:Nat):Array (Int×Value):=if bt w then pickOrder (w.params.setOrder a ep) es else es
def aa7:(wkN w a es ep).toList.Perm es.toList:=by
 unfold wkN;split
 . exact Xi _ _
 . exact yj _
def U5:(wkN w a es ep).size=es.size:=by have:=(aa7 (w:=w) (a:=a) (es:=es) (ep:=ep)).length_eq;simpa using this
noncomputable def itN(a:Addr)(slot i n ep:Nat):Obj:={ cls:=.type "set_iterator",data:=.fields #[.int slot 0,.int i 0,.ref a,.int n 0,.int ep 0] }
set_option tactic.hygienic true in
def av1(X:Jg w s.heap a xs o es ep t){slot:Nat}(hb:bt w=false->below t.place slot=i)(hs:∀e sl,(wkN w a es ep)[i]?=some e->(bt w=false->below t.place sl=i+1)->Q (some (e.2,sl)) s)(hn:(wkN w a es ep)[i]?=none->Q none s) :
 wpAny (model prog w) A (setNext a slot i ep) Q E s:=by
 unfold setNext;refine aa (jo X.get X.dat X.tab.fits ?_);dsimp only;refine aa (Uc ?_);cases hbt:bt w with
 |true =>
  simp only[ju,ye,cg,jd];refine aa ?_;unfold setWalk;refine aa (jo X.get X.dat X.tab.fits ?_);dsimp only;refine aa (Uc ?_);rw[hbt];simp only[ju];refine aa (wpAny_askSetting (aj (aj ?_)));have ew:wkN w a es ep=pickOrder (w.params.setOrder a ep) es:=by unfold wkN;rw[hbt];rfl
  show Q (((pickOrder (w.params.setOrder a ep) es)[i]?).map _) s;rw[<- ew];cases hg:(wkN w a es ep)[i]? with
  |none=>exact hn hg|some e=>exact hs e slot hg (λc=>by rw[hbt] at c;cases c)
 |false =>
  have ew:wkN w a es ep=es:=by unfold wkN;rw[hbt];rfl
  simp only[cg,jd];split
  . rename_i hd
    have hd:(!t.plain&&decide (es.size > 1))=true:=hd;rw[X.pla] at hd;cases hd
  . refine aa ?_
    have fin:Q (match es[below t.place slot]?,t.place[below t.place slot]? with|some (_,x),some j=>some (x,j+1)|_,_=>none) s:=by
     rw[hb hbt];cases hg:es[i]? with
     |none=>exact hn (by rw[ew];exact hg)
     |some e =>
      have li:i<t.place.size:=by rw[X.tab.Xf];exact(je.mp hg).1
      have hp:t.place[i]?=some t.place[i]:=by simp[li]
      rw[hp];exact hs e _ (by rw[ew];exact hg) (λ_=>aei X.tab.srt hp)
    have:wpAny (model prog w) A (if(!t.led&&!es.isEmpty)=true then unsupported "set:maker-not-led" else pure ()) (λ_ s'=>wpAny (model prog w) A (pure (match es[below t.place slot]?,t.place[below t.place slot]? with|some (_,x),some j=>some (x,j+1)|_,_=>none)) Q E s') E s:=by rw[X.led,hbt];simp only[yh,qj,Bool.false_and,cg,jd];exact aj (aj fin)
    exact this
set_option tactic.hygienic true in
def alg{I:Addr}(X:Jg w s.heap a xs o es ep t){slot:Nat}(hI:s.heap.get? I=some (itN a slot i es.size ep))(hb:bt w=false->below t.place slot=i)(he:(wkN w a es ep)[i]?=some e)(hQ:∀h' sl,h'.get? I=some (itN a sl (i+1) es.size ep)->(bt w=false->below t.place sl=i+1)->Heap.SameBut I s.heap h'->Q (some e.2) { s with heap:=h' }) :
 wpAny (model prog w) A (pyNext (.ref I)) Q E s:=by
 have hT:s.TypeIs (.ref I) "set_iterator" := ⟨_,hI,rfl⟩;unfold pyNext;refine aa (wpAny_attempt (j0 (name:=Str.ofString "__next__") hT An
  (jr An hT Ij ?_ (Jy _))))
 unfold Builtin.«set_iterator.__next__»;refine aa (m:=slotArgs "__next__" 0 _) (aj ?_);refine aa (wpAny_fieldsOf hI rfl ?_);show wpAny _ _ (setEntries a >>= _) _ _ s;refine aa (j9 X.get X.dat X.tab.fits ?_);rw[ye];simp only[cg,jd];show wpAny _ _ (setNext a slot i ep >>= _) _ _ s;refine aa (av1 X hb (λe' sl he' hsl=>?_) (λhn=>by rw[hn] at he;cases he));rw[he'] at he;cases he;dsimp only;refine aa (iw hI (by simp) λh1 g1 sb1=>?_);refine aa (iw (s:={ s with heap:=h1 }) g1 (by simp) λh2 g2 sb2=>?_);exact aj ⟨_,rfl,aj (hQ h2 sl (by rw[g2];rfl) hsl (sb1.trans sb2))⟩
set_option tactic.hygienic true in
def aq9{I:Addr}(hh:A.handled=none)(X:Jg w s.heap a xs o es ep t){slot:Nat}(hI:s.heap.get? I=some (itN a slot i es.size ep))(hb:bt w=false->below t.place slot=i)(he:(wkN w a es ep)[i]?=none)(hQ:∀h',Heap.ExtBut I s.heap h'->Q none { s with heap:=h' }) :
 wpAny (model prog w) A (pyNext (.ref I)) Q E s:=by
 have hT:s.TypeIs (.ref I) "set_iterator" := ⟨_,hI,rfl⟩;unfold pyNext;refine aa (wpAny_attempt (j0 (name:=Str.ofString "__next__") hT An
  (jr An hT Ij ?_ (Jy _))))
 unfold Builtin.«set_iterator.__next__»;refine aa (m:=slotArgs "__next__" 0 _) (aj ?_);refine aa (wpAny_fieldsOf hI rfl ?_);show wpAny _ _ (setEntries a >>= _) _ _ s;refine aa (j9 X.get X.dat X.tab.fits ?_);rw[ye];simp only[cg,jd];show wpAny _ _ (setNext a slot i ep >>= _) _ _ s;refine aa (av1 X hb (λe' sl he' hsl=>by rw[he'] at he;cases he) (λhn=>?_));dsimp only;refine aa (iw hI (by simp) λh1 g1 sb1=>?_);show wpAny _ _ (newExc (.type "StopIteration") [] >>= _) _ _ _;refine af5 (show A.in1.handled=none from hh) λh' x k z_=>?_
 obtain⟨o,e1,e2⟩:=z_;exact aa (m8 (T := "StopIteration") (b:=true) ⟨o,e1,e2⟩ isSubtype_stop (aj (hQ _ λb o n z=>k b o (sb1.extBut b o n z))))
def ItS(w:World)(a I:Addr)(xs:List (Int×Tok))(o:Obj)(es:Array (Int×Value))(ep:Nat)(t:SetTable)(i:Nat)(h:Heap):Prop :=
 Jg w h a xs o es ep t/\∃slot,h.get? I=some (itN a slot i es.size ep)/\(bt w=false->below t.place slot=i)
def Jg.at(X:Jg w h a xs o es ep t)(e:h'.get? a=some o):Jg w h' a xs o es ep t:=⟨e,X.exa,X.dat,X.tab,X.ent,X.nod,X.led,X.pla⟩
theorem Walks.bay{I:Addr}(hh:A.handled=none)(Sg:a≠I)(xs:List (Int×Tok))(o:Obj)(es:Array (Int×Value))(ep:Nat)(t:SetTable) :
 Walks prog w A I [I,a] [I] es.size (λi v=>((wkN w a es ep)[i]?).map (·.2)=some v) (ItS w a I xs o es ep t) where
 sub:=λb hb=>by simp at hb;simp[hb]
 frame:=λ_ _ _ st hk=>⟨st.1.at (hk a (by simp) o st.1.get),let ⟨sl,e,r⟩:=st.2;⟨sl,hk I (by simp) _ e,r⟩⟩
 item:=λi s Q E hi st hQ=>by
  obtain⟨X,slot,hI,hb⟩:=st;have he:(wkN w a es ep)[i]?=some ((wkN w a es ep)[i]'(by rw[U5];exact hi)):=by simp[U5,hi]
  refine alg X hI hb he λh' sl g r sb=>hQ _ h' s.toks (by rw[he];rfl) ⟨X.at ((sb.2 a Sg).trans X.get),sl,g,r⟩ λb o hb e=>(sb.2 b (λh=>hb (by simp[h]))).trans e
 done:=λs Q E st hQ=>by obtain⟨X,slot,hI,hb⟩:=st;exact aq9 hh X hI hb (by simp[U5]) λh' he'=>hQ h' s.toks λb o hb e=>he' b o (λh=>hb (by simp[h])) e
 self:=λ_ s _ _ st hQ=>by obtain⟨X,slot,hI,hb⟩:=st;have hT:s.TypeIs (.ref I) "set_iterator" := ⟨_,hI,rfl⟩;refine wpAny_pyIter_slot hT Jx (jr Jx hT Qy ?_ (Tw _));show wpAny _ _ (ret (.ref I)) _ _ s;exact aj ⟨_,rfl, "set_iterator",_,hT,An.lookup,hQ⟩
def a3r(X:Jg w s.heap a xs o es ep t)(hQ:Q (.ref s.heap.objs.size) { s with heap:=s.heap.push (itN a 0 0 es.size ep) }):wpAny (model prog w) A (pyIter (.ref a)) Q E s:=by
 have hT:s.TypeIs (.ref a) "set" := ⟨o,X.get,X.exa.1⟩;refine wpAny_pyIter_slot hT F.slot_set_iter (jr F.slot_set_iter hT U4 ?_ (F.args_set_iter_1 _));unfold Builtin.«frozenset.__iter__» Builtin.Frozenset.slot0 slotArgs;simp only[List.isEmpty_nil,qj,cg,↓reduceIte,bind_assoc,List.length_nil,ye];unfold Builtin.Frozenset.addrOf Builtin.Frozenset.sizeOf;refine aa (aj ?_)
 try dsimp only
 refine aa (aj ?_);refine aa (aa (j9 X.get X.dat X.tab.fits (aj ?_)));refine aa ?_;unfold setDrawn;refine aa (jo X.get X.dat X.tab.fits ?_);dsimp only;refine aa (Uc (aj ?_));have hd:(!bt w&&(!t.plain&&decide (es.size > 1)))=false:=by rw[X.pla];simp
 show wpAny _ _ (if(!bt w&&(!t.plain&&decide (es.size > 1)))=true then _ else _) _ _ s;rw[hd];simp only[cg,jd];refine aa (aj (aa (wpAny_setEpoch_of X.get X.dat X.tab.fits ?_)));exact aa (qw (aj ⟨_,rfl, "set_iterator",_,⟨_,bh _ rfl,rfl⟩,An.lookup,hQ⟩))
def a3s(hT:s.TypeIs (.ref a) "set")(h:Q false s):wpAny (model prog w) A (Builtin.List.listLengthHint (.ref a)) Q E s:=by
 unfold Builtin.List.listLengthHint;refine aa (wpAny_specialOf hT F.slot_set_len.lookup ?_)
 (generalize hid:("set.__len__" : String)=id0;(fail_if_success (clear hid id0));wp_delta;rw[show splitId id0=some ("set", "__len__") from by subst hid;decide+kernel];subst hid)
 refine aa (m8 (b:=true) hT sub_set_self ?_);refine aa (uh hT ?_);exact aj h
def alh(hh:A.handled=none)(X:Jg w s.heap a xs o es ep t)(hz:es.size<=sizeLine)(h:∀h' tk acc,(∀b o,s.heap.get? b=some o->h'.get? b=some o)->s.heap.objs.size<=h'.objs.size->ItemsOf (λi v=>((wkN w a es ep)[i]?).map (·.2)=some v) acc es.size->Q acc.toList { s with heap:=h',toks:=tk }) :
 wpAny (model prog w) A (collect (.ref a)) Q E s:=by
 have Ig:a<s.heap.objs.size:=az X.get
 have hSa:s.heap.objs.size≠a:=vg Ig;unfold collect;refine aa (wpAny_runValue (my F.entry_proto_collect ?_));rw[jz F.plain_proto_collect _];show wpAny _ A.in1 (newList [] >>= λl=>again (.builtin "list.__iadd__" ⟨[l,.ref a],[]⟩)) _ _ s;refine aa (qw ?_);refine aj ⟨plainId_quiet F.plain_list_iadd _,my F.entry_list_iadd ?_⟩;rw[jz F.plain_list_iadd _];have X1:Jg w (s.heap.push { cls:=.type "list",data:=.seq ([]:Zl).toArray }) a xs o es ep t:=X.at (aq _ X.get);have hT1:Shared.TypeIs { s with heap:=s.heap.push { cls:=.type "list",data:=.seq ([]:Zl).toArray } } (.ref a) "set" := ⟨o,X1.get,X1.exa.1⟩;have h1:Builtin.List.listSameRef (.ref s.heap.objs.size) (.ref a)=false:=by simp[Builtin.List.listSameRef,hSa]
 show wpAny _ A.in1 (Builtin.List.listExtendWith (.ref s.heap.objs.size) (.ref a) (.ref s.heap.objs.size)) _ _ _;unfold Builtin.List.listExtendWith;refine aa (uh hT1 ?_);rw[bw (by rw[h1];decide)];refine aa (a3r (s:={ s with heap:=s.heap.push { cls:=.type "list",data:=.seq ([]:Zl).toArray } }) X1 ?_);have sz1:(s.heap.push { cls:=.type "list",data:=.seq ([]:Zl).toArray }).objs.size=s.heap.objs.size+1:=ie ..;show wpAny _ A.in1 (holding [.ref (s.heap.push { cls:=.type "list",data:=.seq ([]:Zl).toArray }).objs.size] (Builtin.List.listLengthHint (.ref a)) >>= _) _ _ { s with heap:=(s.heap.push { cls:=.type "list",data:=.seq ([]:Zl).toArray }).push (itN a 0 0 es.size ep) };have gI:((s.heap.push { cls:=.type "list",data:=.seq ([]:Zl).toArray }).push (itN a 0 0 es.size ep)).get? (s.heap.push { cls:=.type "list",data:=.seq ([]:Zl).toArray }).objs.size=some (itN a 0 0 es.size ep):=bh _ rfl;have gS:((s.heap.push { cls:=.type "list",data:=.seq ([]:Zl).toArray }).push (itN a 0 0 es.size ep)).get? s.heap.objs.size=some { cls:=.type "list",data:=.seq ([]:Zl).toArray }:=aq _ (bh _ rfl);have axm:∀b o,s.heap.get? b=some o->((s.heap.push { cls:=.type "list",data:=.seq ([]:Zl).toArray }).push (itN a 0 0 es.size ep)).get? b=some o:=λb o e=>aq _ (aq _ e)
 have gsz:s.heap.objs.size<=((s.heap.push { cls:=.type "list",data:=.seq ([]:Zl).toArray }).push (itN a 0 0 es.size ep)).objs.size:=by rw[ie,sz1];exact a_ x_ x_
 generalize(s.heap.push { cls:=.type "list",data:=.seq ([]:Zl).toArray }).push (itN a 0 0 es.size ep)=hp at *;rw[sz1] at gI ⊢;have X2:Jg w hp a xs o es ep t:=X.at (axm a o X.get);refine aa (ji (a3s ⟨o,X2.get,X2.exa.1⟩ ?_));rw[cj (by decide+kernel)];refine aa (wpAny_rule ?_);refine aa ?_;show wpAny _ A.in1 (updateSeq s.heap.objs.size (·.push .none) >>= λ_=>updateSeq s.heap.objs.size (·.pop)) _ _ _;refine aa (wpAny_updateSeq gS rfl ?_);have hS₂:=lz (Obj.mapSeq (·.push Value.none)) gS rfl;refine wpAny_updateSeq (hz:=by seq_fits) hS₂ rfl ?_;have hS₃:=lz (Obj.mapSeq (·.pop)) hS₂ rfl;have oth:∀b o,b≠s.heap.objs.size->hp.get? b=some o->((hp.update s.heap.objs.size (Obj.mapSeq (·.push Value.none))).update s.heap.objs.size (Obj.mapSeq (·.pop))).get? b=some o :=
  λb o hb e=>(uf _ _ (jx hb)).trans ((uf _ _ (jx hb)).trans e)
 have sz3:((hp.update s.heap.objs.size (Obj.mapSeq (·.push Value.none))).update s.heap.objs.size (Obj.mapSeq (·.pop))).objs.size=hp.objs.size:=by rw[Heap.size_update,Heap.size_update]
 generalize(hp.update s.heap.objs.size (Obj.mapSeq (·.push Value.none))).update s.heap.objs.size (Obj.mapSeq (·.pop))=h3 at *;have W:=(Walks.bay (prog:=prog) (w:=w) (A:=A.in1) (I:=s.heap.objs.size+1) (a:=a) hh (fc (o5 Ig)) xs o es ep t).toS;refine aj ⟨plainId_quiet F.plain_extend_loop _,codeAny_extend_loopS W hz _ (by simp only[bx,wu,or_false,not_or];exact⟨fc (m9 _),hSa⟩) _ es.size 0 _ _ _ rfl (jt _)
  ⟨X.at (oth a o (jx hSa) (axm a o X.get)),0,oth _ _ (vg (m9 _)) gI,λ_=>aeh X.tab.srt⟩ hS₃ (ItemsOf.nil _) λs' acc' c' hm Uz Dq=>?_⟩
 show wpAny _ A (load s.heap.objs.size >>= _) _ _ s';refine aa (wpAny_load Uz ?_);obtain⟨h',g',d',tk',os'⟩:=s';have eg:g'=s.gens:=hm.gens;have ed:d'=s.drawn:=hm.drawn;have eo:os'=s.os:=hm.os;subst eg;subst ed;subst eo;refine aj (h h' tk' acc' (λb o e=>?_) ?_ Dq)
 . have hb:=az e
   exact hm.heap b o (by simp only[bx,wu,or_false,not_or];exact⟨fc hb,fc (o5 hb)⟩) (oth b o (fc hb) (axm b o e))
 . have:=az Uz
   exact xg this
def aej{s:Shared}(X:Jg w s.heap a xs o es ep t)(Dq:ItemsOf (λi v=>((wkN w a es ep)[i]?).map (·.2)=some v) acc es.size) :
 ∃ns:List Int,PyProof.Rows.IntsAre acc.toList ns/\ns.Perm (xs.map (·.1)):=by
 obtain⟨ys,ey,py⟩:=Cq (f:=enI) (aa7 (w:=w) (a:=a) (es:=es) (ep:=ep)) X.ent;have e1:acc.toList=ys.map λy=>Value.int y.1 y.2:=by
  apply v8;intro i;have hz:acc.toList.length=es.size:=by simpa using Dq.1
  have hy:ys.length=es.size:=by rw[py.length_eq,<- X.size]
  by_cases li:i<es.size
  . have e2:acc.toList[i]?=some (acc.toList[i]'(b_ li (g_ hz))):=by simp[hz,li]
    have e3:=Dq.2 i _ (by rw[<- nq];exact e2);rw[e2,<- e3,<- nq,ey,iz,iz];cases ys[i]?<;>rfl
  . rw[j6 (a_ (f_ hz) (s_ li)),j6 (by simp;exact a_ (f_ hy) (s_ li))]
 refine⟨ys.map (·.1),?_,py.map _⟩;rw[e1];clear e1 py ey Dq
 induction ys with
 |nil=>exact .nil|cons y ys ih=>exact .cons _ _ ih
def aa8(hh:A.handled=none)(hS:Dm w s.heap a S n)(hn:n<31)(h:∀(h':Heap) (tk:Nat) (p:Addr) (out:U1) (ns:Xs),(∀b o,s.heap.get? b=some o->h'.get? b=some o)->s.heap.objs.size<=p->PyProof.Rows.IntsAre out.toList ns->ns.Pairwise (·<=·)->ns.Nodup->(∀k,S k↔k∈ns) ->
 (∃c,h'.get? p=some (PyProof.Rows.seqObj "list" out c))->Q (.ref p) { s with heap:=h',toks:=tk }) :
 wpAny (model prog w) A (call (.builtin "sorted") [.ref a]) Q E s:=by
 obtain⟨xs,o,es,ep,t,X,hm,hl,nf⟩:=hS;have hsz:=X.size;refine Calls.call_function_entry PyProof.Rows.kind_sorted PyProof.Rows.plain_sorted PyProof.Rows.entry_sorted (PyProof.Rows.args_sorted1 _) ?_;unfold Builtin.«sorted»;refine aa (m:=checkCount "sorted" 1 1 _) (aj ?_);refine aa (alh (by simpa using hh) X (by rw[qg];exact e_ (c_ (f_ hsz) (c_ (f_ hl) (b_ hn (by decide))))) λh1 tk acc keep hz1 Dq=>?_);obtain⟨ns,hI,pn⟩:=aej X Dq;have hlen:acc.toList.length=n:=by have:=Dq.1;simp;exact u_ (a_ (f_ this) (a_ (f_ hsz) (f_ hl))) (a_ (g_ hl) (a_ (g_ hsz) (g_ this)))
 have eac:acc=acc.toList.toArray:=by simp
 refine aa (wpAny_newList ?_ (by rw[qg];exact e_ (c_ (f_ hlen) (b_ hn (by decide)))));have hoL:(h1.push (PyProof.Rows.seqObj "list" acc.toList.toArray 0)).get? h1.objs.size=some (PyProof.Rows.seqObj "list" acc.toList.toArray 0):=bh _ rfl;refine aa (ji (jr PyProof.Rows.slot_list_sort ⟨_,hoL,rfl⟩ PyProof.Rows.entry_list_sort (PyProof.Rows.list_sort_tree (s:={ s with heap:=h1.push (PyProof.Rows.seqObj "list" acc.toList.toArray 0),toks:=tk }) hoL hI (c_ (f_ hlen) (b_ hn (by decide))) λout ns' a1 a2 a3=>⟨_,rfl,?_⟩) (PyProof.Rows.args_list_sort _)));have p2:=a2.trans pn;refine aj ⟨_,rfl,h _ tk h1.objs.size out ns' (λb o e=>?_) hz1 a1 a3 (p2.nodup_iff.mpr X.nod) (λk=>(hm k).trans p2.mem_iff.symm) (PyProof.Rows.sortedHeap_at hoL)⟩;have hb1:=keep b o e;have Ig:=az hb1;rw[PyProof.Rows.sortedHeap_old (fc Ig) (by rw[ie];exact o5 Ig),Heap.get?_push_ne _ _ _ (fc Ig)];exact hb1
end Xc
namespace MW
open PySem (Str)
set_option genInjectivity true in
inductive D where
 |non|bl (b:Bool)|int (i:Int)|str (s:Str)|tup (ds:List D)|vl (ds:List D)|fz (ds:List D)|ref (n:Nat)
noncomputable abbrev Kx:=Sum Int Str
set_option genInjectivity true in
inductive MO where
 |lst (ds:List D)|dT (gw:List (List Kx×D))|dK (gw:List (Kx×D))|ins (c:Nat) (fs:List (Nat×D))
noncomputable abbrev cu:=List MO
noncomputable abbrev Env:=List (Option D)
set_option genInjectivity true in
inductive Res(α:Type) where
 |ok (a:α) (M:cu)|err (c:Nat) (M:cu)|bad
namespace Res
noncomputable def bind{α β:Type}(r:Res α)(f:α->cu->Res β):Res β :=
 match r with|ok a M=>f a M|err c M=>err c M|bad=>bad
@[simp] def yo(a:α)(M:cu)(f:α->cu->Res β):(ok a M).bind f=f a M:=rfl
@[simp] def a3v(c:Nat)(M:cu)(f:α->cu->Res β):(err c M:Res α).bind f=err c M:=rfl
@[simp] def a3w(f:α->cu->Res β):(bad:Res α).bind f=bad:=rfl
noncomputable def uv{α:Type}(o:Option α)(M:cu):Res α:=match o with|some a=>ok a M|none=>bad
@[simp] def Aw(a:α)(M:cu):uv (some a) M=ok a M:=rfl
@[simp] def axn(M:cu):uv (none:Option α) M=bad:=rfl
end Res
inductive Op2 where|add|ais|sub|mul|fdiv|mod|pow
inductive Cp where|eq|ne|lt|le|gt|ge|inn|O7
inductive Blt where
 |len|tuple|max|min|dict|all|isList|isTuple|isBool|isSeq|Ce
inductive Bm where|append|index|get|extend
inductive Tg where
 |name (i:Nat)|names (is:Y3)
mutual
inductive Ex where
 |var (i:Nat)|cst (d:D)
 |bin (op:Op2) (a b:Ex)|neg (a:Ex)
 |cmp (op:Cp) (a b:Ex)|chain (o1 o2:Cp) (a b c:Ex)
 |and (a b:Ex)|or (a b:Ex)|not (a:Ex)|ite (c a b:Ex)
 |tup (es:Bs)|lst (es:Bs)|Fz (es:Bs)|aa9|aek
 |ix (a b:Ex)|cut (a:Ex) (lo hi:OEx)
 |call (f:Nat) (es:Bs)|make (c:Nat) (es:Bs)|meth (o:Ex) (m:Nat) (es:Bs)|fld (o:Ex) (f:Nat)
 |blt (b:Blt) (es:Bs)|bm (m:Bm) (o:Ex) (es:Bs)
 |comp (v:Bool) (k:Nat) (t:Tg) (it:Og) (e:Ex)|Ax (v:Bool) (k:Nat) (t:Tg) (it:Og) (c:Ex) (e:Ex)
 |U6 (a b:Ex)|aem (e:Ex)|aen (e:Ex)
inductive Bs where
 |nil|cons (e:Ex) (es:Bs)
inductive OEx where
 |none|some (e:Ex)
inductive Og where
 |val (e:Ex)|Jz (e:Ex)|enm (e:Ex)|zip (es:Bs)
end
noncomputable abbrev Ex.v:=Ex.var
noncomputable abbrev Ex.i(n:Int):Ex:=.cst (.int n)
noncomputable abbrev Ex.l(e:Ex):Ex:=.blt .len (.cons e .nil)
noncomputable abbrev Bs.z:=Bs.nil
noncomputable abbrev Bs.c:=Bs.cons
noncomputable abbrev Bs.o(a:Ex):Bs:=.cons a .nil
noncomputable abbrev Bs.p(a b:Ex):Bs:=.cons a (.cons b .nil)
noncomputable abbrev Bs.q(a b c:Ex):Bs:=.cons a (.cons b (.cons c .nil))
inductive Lv where
 |tg (t:Tg)|sub (o i:Ex)|fld (o:Ex) (f:Nat)
mutual
inductive Bg where
 |asg (l:Lv) (e:Ex)|expr (e:Ex)|iff (c:Ex) (a b:m7)|whl (c:Ex) (b:m7)|for_ (t:Tg) (it:Og) (b:m7)
 |ret (e:Ex)|ara|brk|cont|pass|raise (c:Nat) (es:Bs)
inductive m7 where
 |nil|cons (s:Bg) (r:m7)
end
noncomputable abbrev Bg.a(i:Nat)(e:Ex):Bg:=.asg (.tg (.name i)) e
noncomputable abbrev Bg.f(c:Ex)(b:m7):Bg:=.iff c b .nil
noncomputable abbrev m7.z:=m7.nil
noncomputable abbrev m7.c:=m7.cons
noncomputable abbrev m7.o(a:Bg):m7:=.cons a .nil
noncomputable abbrev m7.p(a b:Bg):m7:=.cons a (.cons b .nil)
noncomputable abbrev m7.q(a b c:Bg):m7:=.cons a (.cons b (.cons c .nil))
structure Fn where
 np:Nat
 ns:Nat
 body:m7
structure Cl where
 init:Nat
 meths:List (Nat×Nat)
noncomputable def fu(M:cu):D->Option (List D)
 |.vl ds=>some ds|.ref n=>match M[n]? with|some (.lst ds)=>some ds|_=>none
 |_=>none
noncomputable def Aa(M:cu):D->Option (List D)
 |.tup ds=>some ds|d=>fu M d
noncomputable def Qz:D->Option Kx
 |.int i=>some (.inl i)|.str s=>some (.inr s)|_=>none
noncomputable def Y9:List D->Option (List Kx)
 |[]=>some []
 |d::ds=>match Qz d,Y9 ds with
  |some k,some ks=>some (k::ks)|_,_=>none
noncomputable def Q0:D->Option (List Kx)
 |.tup ds=>Y9 ds|_=>none
noncomputable def ali:Kx->D
 |.inl i=>.int i|.inr s=>.str s
noncomputable def alj(ks:List Kx):D:=.tup (ks.map ali)
noncomputable def Cr:List D->Option (List (List Kx))
 |[]=>some []
 |d::ds=>match Q0 d,Cr ds with
  |some k,some ks=>some (k::ks)|_,_=>none
noncomputable def Q3(f:D->D->Option Bool):List D->List D->Option Bool
 |[],[]=>some true
 |a::as,b::bs=>match f a b,Q3 f as bs with
  |some x,some y=>some (x&&y)|_,_=>none
 |_,_=>some false
instance:DecidableEq Kx:=inferInstanceAs (DecidableEq (Sum Int Str))
noncomputable def vz{κ:Type}[DecidableEq κ](gw:List (κ×D))(k:κ):Option D:=(gw.find? λp=>decide (p.1=k)).map (·.2)
noncomputable def Km(M:cu):Nat->D->D->Option Bool
 |0,_,_=>none
 |n+1,a,b=>match a,b with
  |.int i,.int j=>some (decide (i=j))|.bl i,.bl j=>some (i==j)|.str i,.str j=>some (decide (i=j))|.non,.non=>some true|.tup as,.tup bs=>Q3 (Km M n) as bs
  |a,b=>match fu M a,fu M b with
   |some as,some bs=>if as.length=bs.length then Q3 (Km M n) as bs else some false
   |_,_=>none
noncomputable def wz(M:cu)(a b:D):Option Bool:=Km M 6 a b
noncomputable def Oh(M:cu)(x:D):List D->Option (List Bool)
 |[]=>some []
 |y::ys=>match wz M y x,Oh M x ys with
  |some a,some b=>some (a::b)|_,_=>none
noncomputable def memD(M:cu)(x:D)(ds:List D):Option Bool:=(Oh M x ds).map (·.any id)
noncomputable def W3(M:cu)(x:D)(ds:List D):Option Nat:=(Oh M x ds).bind (·.findIdx? id)
noncomputable def Xj:List D->Option (List Int)
 |[]=>some []|.int i::r=>(Xj r).map (i::·)|_::_=>none
noncomputable def W4(n:Nat)(i:Int):Option Nat:=if 0<=i then(if i<n then some i.toNat else none) else if -(n:Int)<=i then some (i+n).toNat else none
noncomputable def clip(n:Nat)(d:Nat):Option Int->Nat
 |none=>d|some i=>if 0<=i then min i.toNat n else(i+n).toNat
noncomputable def aeo(ds:List D)(lo hi:Option Int):List D:=(ds.drop (clip ds.length 0 lo)).take (clip ds.length ds.length hi-clip ds.length 0 lo)
noncomputable def axo:List Int->Option Int
 |[]=>none|a::r=>some (r.foldl (λm x=>if m<x then x else m) a)
noncomputable def a3x:List Int->Option Int
 |[]=>none|a::r=>some (r.foldl (λm x=>if x<m then x else m) a)
noncomputable def insI(x:Int):List Int->List Int
 |[]=>[x]|y::ys=>if x<y then x::y::ys else y::insI x ys
noncomputable def sortI(xs:Xs):List Int:=xs.foldr insI []
noncomputable def zr:List Int->List Int
 |[]=>[]|x::xs=>if x∈xs then zr xs else x::zr xs
noncomputable def keysOf(M:cu)(d:D):Option (List D) :=
 match d with
 |.ref n=>match M[n]? with
  |some (.dT gw)=>some (gw.map λp=>alj p.1)
  |_=>fu M d
 |_=>fu M d
noncomputable def Bw{κ:Type}[DecidableEq κ](gw:List (κ×D))(k:κ)(v:D):List (κ×D) :=
 if(gw.any λkv=>decide (kv.1=k))=true then gw.map (λkv=>if kv.1=k then(kv.1,v) else kv) else gw++[(k,v)]
noncomputable def Cu(xs:List (List Kx)):Bool:=decide (xs.length<=30)&&xs.all λk=>k.all λx=>match x with|.inl _=>true|.inr _=>false
noncomputable def Hi(xs ys:List (List Kx)):Bool:=xs.all (λx=>ys.any λy=>decide (y=x))&&ys.all (λy=>xs.any λx=>decide (x=y))
noncomputable def new(o:MO)(M:cu):Res D:=.ok (.ref M.length) (M++[o])
noncomputable def alk(a b:D)(M:cu):Res D :=
 match a,b with
 |.int i,.int j=>.ok (.int (i+j)) M
 |x,y=>match fu M x,fu M y with
  |some xs,some ys=>if xs.length+ys.length<=100000 then .ok (.vl (xs++ys)) M else .bad
  |_,_=>.bad
noncomputable def aep(x y:D)(M:cu):Res D :=
 match fu M x,fu M y with
 |some xs,some ys=>if xs.length+ys.length<=100000 then new (.lst (xs++ys)) M else .bad
 |_,_=>.bad
noncomputable def ii{α:Type}(x y:D)(f:Int->Int->α)(z:α):α:=match x with|.int i=>(match y with|.int j=>f i j|_=>z)|_=>z
def aeq(h:ii x y f z=r)(hz:z≠r):∃i j,x=.int i/\y=.int j/\f i j=r:=by
 cases x with
 |int i=>cases y with
  |int j=>exact⟨i,j,rfl,rfl,h⟩|_=>exact absurd h hz
 |_=>exact absurd h hz
@[simp] def ba0(i j:Int)(f:Int->Int->α)(z:α):ii (.int i) (.int j) f z=f i j:=rfl
noncomputable def a3y(a b:D)(M:cu):Res D:=ii a b (λi j=>.ok (.int (i-j)) M) .bad
noncomputable def a3z(a b:D)(M:cu):Res D:=ii a b (λi j=>if(-(2 ^ 64)<i/\i<2 ^ 64)\/(-(2 ^ 64)<j/\j<2 ^ 64) then .ok (.int (i*j)) M else .bad) .bad
noncomputable def axp(a b:D)(M:cu):Res D:=ii a b (λi j=>if 0<j/\j<1073741824 then .ok (.int (i / j)) M else .bad) .bad
noncomputable def a4a(a b:D)(M:cu):Res D:=ii a b (λi j=>if 0<j then .ok (.int (i%j)) M else .bad) .bad
noncomputable def av2(a b:D)(M:cu):Res D:=ii a b (λi j=>if 0<=j/\j<=64/\i.natAbs<2 ^ 64 then .ok (.int (i ^ j.toNat)) M else .bad) .bad
noncomputable def Ey(op:Op2):D->D->cu->Res D :=
 match op with
 |.add=>alk|.ais=>aep|.sub=>a3y|.mul=>a3z|.fdiv=>axp|.mod=>a4a|.pow=>av2
noncomputable def Nt(M:cu)(a b:D):Option Bool :=
 match b with
 |.ref n=>match M[n]? with
  |some (.dT gw)=>(Q0 a).map λk=>(vz gw k).isSome
  |some (.dK gw)=>(Qz a).map λk=>(vz gw k).isSome
  |_=>(Aa M b).bind (memD M a)
 |_=>(Aa M b).bind (memD M a)
noncomputable def aba(f:Int->Int->Bool)(a b:D):Option Bool:=ii a b (λi j=>some (f i j)) none
noncomputable def Kr(op:Cp)(a b:D)(M:cu):Option Bool :=
 match op with
 |.lt=>aba (λi j=>decide (i<j)) a b
 |.le=>aba (λi j=>decide (i<=j)) a b
 |.gt=>aba (λi j=>decide (j<i)) a b
 |.ge=>aba (λi j=>decide (j<=i)) a b
 |.eq=>wz M a b|.ne=>(wz M a b).map not|.inn=>Nt M a b|.O7=>(Nt M a b).map not
noncomputable def zy(a b:D)(M:cu):Option D :=
 match a with
 |.ref n=>match M[n]? with
  |some (.dT gw)=>(Q0 b).bind (vz gw)|some (.dK gw)=>(Qz b).bind (vz gw)
  |_=>match fu M a,b with
   |some ds,.int i=>(W4 ds.length i).bind λj=>ds[j]?
   |_,_=>none
 |.fz ds=>match b with
  |.int i=>(W4 ds.length i).bind λj=>ds[j]?
  |_=>none
 |_=>match Aa M a,b with
  |some ds,.int i=>(W4 ds.length i).bind λj=>ds[j]?
  |_,_=>none
noncomputable def abb(a:D)(lo hi:Option Int)(M:cu):Option D:=(fu M a).map λds=>.vl (aeo ds lo hi)
noncomputable def allB:List D->Option Bool
 |[]=>some true|.bl b::r=>(allB r).map (b&&·)|_::_=>none
noncomputable def aer(gw:List (List Kx×D)):Bool:=gw.all λp=>match p.1 with
 |[.inl i,.inl j]=>decide (-1<=i)&&decide (i<9)&&decide (-1<=j)&&decide (j<9)|_=>false
noncomputable def Q4(M:cu):D->Res D
 |.ref n=>match M[n]? with
  |some (.lst ds)=>.ok (.int ds.length) M|_=>.bad
 |.fz ds=>.ok (.int ds.length) M|.tup ds=>.ok (.int ds.length) M|.vl ds=>.ok (.int ds.length) M|_=>.bad
noncomputable def Ud(M:cu):D->Res D
 |.ref n=>match M[n]? with
  |some (.dT gw)=>if aer gw then new (.dT gw) M else .bad
  |some (.dK gw)=>new (.dK gw) M|_=>.bad
 |_=>.bad
noncomputable def isX(bt bi:Option Bool)(d:D):Option Bool:=match d with
 |.tup _=>bt|.int _=>bi|_=>none
noncomputable def isR(bt bi:Option Bool)(M:cu)(d:D):Res D:=Res.uv ((isX bt bi d).map D.bl) M
noncomputable def two(ds:List D)(f:Int->Int->Int)(g:D->Option Int)(M:cu):Res D :=
 match ds with
 |[a,b]=>(match a,b with|.int i,.int j=>.ok (.int (f i j)) M|_,_=>.bad)
 |[d]=>Res.uv ((g d).map D.int) M|_=>.bad
noncomputable def O8(ds:List D)(g:D->Res D):Res D :=
 match ds with
 |[d]=>g d|_=>.bad
noncomputable def ud(b:Blt)(ds:List D)(M:cu):Res D :=
 match b with
 |.len=>O8 ds (Q4 M)|.tuple=>O8 ds λd=>Res.uv ((Aa M d).map D.tup) M
 |.max=>two ds (λi j=>if i<j then j else i) (λd=>((fu M d).bind Xj).bind axo) M
 |.min=>two ds (λi j=>if j<i then j else i) (λd=>((fu M d).bind Xj).bind a3x) M
 |.Ce=>O8 ds λd=>Res.uv (((fu M d).bind Xj).bind λis=>if is.length<31 then some (D.vl ((sortI (zr is)).map D.int)) else none) M
 |.dict=>O8 ds (Ud M)|.all=>O8 ds λd=>Res.uv (((fu M d).bind allB).map D.bl) M
 |.isList=>O8 ds (isR (some false) none M)|.isTuple=>O8 ds (isR (some true) (some false) M)|.isBool=>O8 ds (isR none (some false) M)|.isSeq=>O8 ds (isR (some true) (some false) M)
noncomputable def Ke(m:Bm)(x:D)(M:cu):Bool :=
 match m,x with
 |.append,.ref n=>match M[n]? with|some (.lst _)=>true|_=>false
 |.extend,.ref n=>match M[n]? with|some (.lst _)=>true|_=>false
 |.index,x=>(fu M x).isSome|.get,.ref n=>match M[n]? with|some (.dK _)=>true|_=>false
 |_,_=>false
noncomputable def Gi(m:Bm)(o:D)(ds:List D)(M:cu):Res D :=
 match m,o,ds with
 |.append,.ref n,[d]=>match M[n]? with
  |some (.lst xs)=>if xs.length<100000 then .ok .non (M.set n (.lst (xs++[d]))) else .bad
  |_=>.bad
 |.extend,.ref n,[.vl ys]=>match M[n]? with
  |some (.lst xs)=>if xs.length+ys.length<100000 then .ok .non (M.set n (.lst (xs++ys))) else .bad
  |_=>.bad
 |.index,o,[d]=>Res.uv (((Aa M o).bind (W3 M d)).map λj=>D.int (j:Int)) M
 |.get,.ref n,[k,d]=>match M[n]? with
  |some (.dK gw)=>Res.uv ((Qz k).map λq=>(vz gw q).getD d) M
  |_=>.bad
 |_,_,_=>.bad
noncomputable def setOp(o i v:D)(M:cu):Option cu :=
 match o with
 |.ref n=>match M[n]? with
  |some (.lst xs)=>match i with
   |.int j=>(W4 xs.length j).map λq=>M.set n (.lst (xs.set q v))
   |_=>none
  |some (.dT gw)=>(Q0 i).bind λk=>if gw.length<100000 then some (M.set n (.dT (Bw gw k v))) else none
  |some (.dK gw)=>(Qz i).bind λk=>if gw.length<100000 then some (M.set n (.dK (Bw gw k v))) else none
  |_=>none
 |_=>none
noncomputable def Sh(f:Nat)(v:D):List (Nat×D)->List (Nat×D)
 |[]=>[(f,v)]|(g,x)::r=>if g=f then(g,v)::r else(g,x)::Sh f v r
noncomputable def O9(o:D)(f:Nat)(M:cu):Option D :=
 match o with
 |.ref n=>match M[n]? with
  |some (.ins _ fs)=>fs.lookup f|_=>none
 |_=>none
noncomputable def Pa(o:D)(f:Nat)(v:D)(M:cu):Option cu :=
 match o with
 |.ref n=>match M[n]? with
  |some (.ins c fs)=>if fs.length<1000 then some (M.set n (.ins c (Sh f v fs))) else none
  |_=>none
 |_=>none
inductive Src where
 |con (ds:List D)|live (n:Nat) (len:Nat)
noncomputable def Src.len:Src->Nat
 |.con ds=>ds.length|.live _ k=>k
noncomputable def Src.item(s:Src)(i:Nat)(M:cu):Option D :=
 match s with
 |.con ds=>ds[i]?
 |.live n k=>match M[n]? with
  |some (.lst ds)=>if ds.length=k then ds[i]? else none
  |_=>none
noncomputable def Src.fin(s:Src)(M:cu):Bool :=
 match s with
 |.con _=>true
 |.live n k=>match M[n]? with
  |some (.lst ds)=>ds.length==k|_=>false
noncomputable def srcOf(M:cu)(d:D):Option Src :=
 match d with
 |.tup ds=>some (.con ds)|.vl ds=>some (.con ds)
 |.ref n=>match M[n]? with
  |some (.lst ds)=>some (.live n ds.length)|_=>none
 |_=>none
inductive Flow where
 |next|brk|cont|ret (d:D)
noncomputable def Oi:List Nat->List D->Env->Env
 |i::is,d::ds,ρ=>Oi is ds (ρ.set i (some d))|_,_,ρ=>ρ
noncomputable def Tg.put(t:Tg)(d:D)(ρ:Env):Option Env :=
 match t with
 |.name i=>some (ρ.set i (some d))
 |.names is=>match d with
  |.tup ds=>if ds.length=is.length then some (Oi is ds ρ) else none
  |_=>none
structure Ib where
 call:Nat->List D->cu->Res D
 cls:List Cl
noncomputable def Bb(fin:cu->Bool)(item:Nat->cu->Option D)(body:D->Env->cu->Res (Flow×Env)):Nat->Nat->Env->cu->Res (Flow×Env)
 |0,_,ρ,M=>if fin M then .ok (.next,ρ) M else .bad
 |k+1,i,ρ,M=>match item i M with
  |none=>.bad
  |some d=>(body d ρ M).bind λr M1=>match r.1 with
   |.next=>Bb fin item body k (i+1) r.2 M1|.cont=>Bb fin item body k (i+1) r.2 M1|.brk=>.ok (.next,r.2) M1|.ret v=>.ok (.ret v,r.2) M1
noncomputable def By(fin:cu->Bool)(item:Nat->cu->Option D)(body:D->cu->Res (Option D)):Nat->Nat->cu->Res (List D)
 |0,_,M=>if fin M then .ok [] M else .bad
 |k+1,i,M=>match item i M with
  |none=>.bad|some d=>(body d M).bind λo M1=>(By fin item body k (i+1) M1).bind λds M2=>.ok (match o with|some x=>x::ds|none=>ds) M2
noncomputable def zf(s:Src)(body:D->cu->Res (Option D))(M:cu):Res (List D):=if s.len<=100000 then By s.fin s.item body s.len 0 M else .bad
noncomputable def El(c:Env->cu->Res D)(body:Env->cu->Res (Flow×Env)):Nat->Env->cu->Res (Flow×Env)
 |0,_,_=>.bad
 |k+1,ρ,M=>(c ρ M).bind λb M1=>match b with
  |.bl false=>.ok (.next,ρ) M1
  |.bl true=>(body ρ M1).bind λr M2=>match r.1 with
   |.next=>El c body k r.2 M2|.cont=>El c body k r.2 M2|.brk=>.ok (.next,r.2) M2|.ret v=>.ok (.ret v,r.2) M2
  |_=>.bad
noncomputable def aes:Nat:=1000000
noncomputable def Oj:List D->Option (List (List D))
 |[]=>some []|.tup l::r=>(Oj r).map (l::·)|_::_=>none
noncomputable def Ol(ls:List (List D))(n:Nat):List D:=(List.range n).map λi=>.tup (ls.map λl=>l.getD i .non)
noncomputable def Al(ds:List D):Nat->List D:=λn=>(ds.zipIdx n).map λp=>D.tup [.int p.2,p.1]
mutual
noncomputable def Ex.den(W:Ib):Ex->Env->cu->Res D
 |.var i,ρ,M=>match ρ[i]? with
  |some (some d)=>.ok d M|_=>.bad
 |.cst d,_,M=>.ok d M|.bin op a b,ρ,M=>(a.den W ρ M).bind λx M1=>(b.den W ρ M1).bind λy M2=>Ey op x y M2
 |.neg a,ρ,M=>(a.den W ρ M).bind λx M1=>match x with|.int i=>.ok (.int (-i)) M1|_=>.bad
 |.cmp op a b,ρ,M=>(a.den W ρ M).bind λx M1=>(b.den W ρ M1).bind λy M2=>Res.uv ((Kr op x y M2).map D.bl) M2
 |.chain o1 o2 a b c,ρ,M=>(a.den W ρ M).bind λx M1=>(b.den W ρ M1).bind λy M2=>(Res.uv (Kr o1 x y M2) M2).bind λq M2=>if q then(c.den W ρ M2).bind λz M3=>Res.uv ((Kr o2 y z M3).map D.bl) M3 else .ok (.bl false) M2
 |.and a b,ρ,M=>(a.den W ρ M).bind λx M1=>match x with|.bl true=>b.den W ρ M1|.bl false=>.ok (.bl false) M1|_=>.bad
 |.or a b,ρ,M=>(a.den W ρ M).bind λx M1=>match x with|.bl true=>.ok (.bl true) M1|.bl false=>b.den W ρ M1|_=>.bad
 |.not a,ρ,M=>(a.den W ρ M).bind λx M1=>match x with|.bl b=>.ok (.bl !b) M1|_=>.bad
 |.ite c a b,ρ,M=>(c.den W ρ M).bind λx M1=>match x with|.bl true=>a.den W ρ M1|.bl false=>b.den W ρ M1|_=>.bad
 |.tup es,ρ,M=>(es.den W ρ M).bind λds M1=>.ok (.tup ds) M1
 |.lst es,ρ,M=>(es.den W ρ M).bind λds M1=>new (.lst ds) M1
 |.Fz es,ρ,M=>(es.den W ρ M).bind λds M1=>.ok (.vl ds) M1
 |.aa9,_,M=>new (.dT []) M|.aek,_,M=>new (.dK []) M|.ix a b,ρ,M=>(a.den W ρ M).bind λx M1=>(b.den W ρ M1).bind λy M2=>Res.uv (zy x y M2) M2
 |.cut a lo hi,ρ,M=>(a.den W ρ M).bind λx M1=>(lo.den W ρ M1).bind λl M2=>(hi.den W ρ M2).bind λh M3=>Res.uv (abb x l h M3) M3
 |.call f es,ρ,M=>(es.den W ρ M).bind λds M1=>W.call f ds M1
 |.make c es,ρ,M=>(es.den W ρ M).bind λds M1=>match W.cls[c]? with
  |some C=>(W.call C.init (.ref M1.length::ds) (M1++[.ins c []])).bind λr M2=>match r with|.non=>.ok (.ref M1.length) M2|_=>.bad
  |none=>.bad
 |.meth o m es,ρ,M=>(o.den W ρ M).bind λx M1=>(es.den W ρ M1).bind λds M2=>match x with
  |.ref n=>match M1[n]? with
   |some (.ins c _)=>match(W.cls[c]?).bind λC=>C.meths.lookup m with
    |some f=>W.call f (.ref n::ds) M2|none=>.bad
   |_=>.bad
  |_=>.bad
 |.fld o f,ρ,M=>(o.den W ρ M).bind λx M1=>Res.uv (O9 x f M1) M1
 |.blt b es,ρ,M=>(es.den W ρ M).bind λds M1=>ud b ds M1
 |.bm m o es,ρ,M=>(o.den W ρ M).bind λx M1=>if Ke m x M1 then(es.den W ρ M1).bind λds M2=>Gi m x ds M2 else .bad
 |.comp v k t it e,ρ,M=>(it.den W ρ M).bind λs M1 =>
  (zf s (λd M=>match t.put d (ρ++List.replicate k none) with
   |some ρ'=>(e.den W ρ' M).bind λx M'=>.ok (some x) M'
   | none=>.bad) M1).bind λds M2=>if v then .ok (.vl ds) M2 else new (.lst ds) M2
 |.Ax v k t it c e,ρ,M=>(it.den W ρ M).bind λs M1 =>
  (zf s (λd M=>match t.put d (ρ++List.replicate k none) with
   |some ρ'=>(c.den W ρ' M).bind λb M'=>match b with
    |.bl true=>(e.den W ρ' M').bind λx M''=>.ok (some x) M''
    |.bl false=>.ok none M'|_=>.bad
   | none=>.bad) M1).bind λds M2=>if v then .ok (.vl ds) M2 else new (.lst ds) M2
 |.U6 a b,ρ,M=>(a.den W ρ M).bind λx M1 =>
  match(keysOf M1 x).bind Cr with
  |some xs=>if Cu xs then(b.den W ρ M1).bind λy M2 =>
   match(keysOf M2 y).bind Cr with
   |some ys=>if Cu ys then .ok (.bl !Hi xs ys) M2 else .bad
   |none=>.bad
   else .bad
  |none=>.bad
 |.aem e,ρ,M=>(e.den W ρ M).bind λx M1=>match x with
  |.int i=>if i.natAbs<=100000 then .ok (.tup ((List.range i.toNat).map λ(k:Nat)=>D.int (k:Int))) M1 else .bad
  |_=>.bad
 |.aen e,ρ,M=>(e.den W ρ M).bind λx M1=>match x with
  |.int i=>if i.natAbs<=100000 then new (.lst ((List.range i.toNat).map λ(k:Nat)=>D.int (k:Int))) M1 else .bad
  |_=>.bad
noncomputable def Bs.den(W:Ib):Bs->Env->cu->Res (List D)
 |.nil,_,M=>.ok [] M|.cons e es,ρ,M=>(e.den W ρ M).bind λx M1=>(es.den W ρ M1).bind λxs M2=>.ok (x::xs) M2
noncomputable def OEx.den(W:Ib):OEx->Env->cu->Res (Option Int)
 |.none,_,M=>.ok none M|.some e,ρ,M=>(e.den W ρ M).bind λx M1=>match x with|.int i=>.ok (some i) M1|_=>.bad
noncomputable def Og.den(W:Ib):Og->Env->cu->Res Src
 |.val e,ρ,M=>(e.den W ρ M).bind λx M1=>Res.uv (srcOf M1 x) M1
 |.Jz e,ρ,M=>(e.den W ρ M).bind λx M1=>match x with
  |.int i=>if i.natAbs<=100000 then .ok (.con ((List.range i.toNat).map λ(k:Nat)=>D.int (k:Int))) M1 else .bad
  |_=>.bad
 |.enm e,ρ,M=>(e.den W ρ M).bind λx M1=>match x with
  |.tup ds=>.ok (.con (Al ds 0)) M1|.vl ds=>.ok (.con (Al ds 0)) M1|_=>.bad
 |.zip es,ρ,M=>(es.den W ρ M).bind λds M1=>match Oj ds with
  |some (l::r)=>if(r.all λx=>x.length==l.length)=true then .ok (.con (Ol (l::r) l.length)) M1 else .bad
  |_=>.bad
end
noncomputable def Lv.put(W:Ib)(l:Lv)(d:D)(ρ:Env)(M:cu):Res Env :=
 match l with
 |.tg t=>Res.uv (t.put d ρ) M|.sub o i=>(o.den W ρ M).bind λx M1=>(i.den W ρ M1).bind λy M2=>(Res.uv (setOp x y d M2) M2).bind λM3 _=>.ok ρ M3
 |.fld o f=>(o.den W ρ M).bind λx M1=>(Res.uv (Pa x f d M1) M1).bind λM2 _=>.ok ρ M2
mutual
noncomputable def Bg.den(W:Ib):Bg->Env->cu->Res (Flow×Env)
 |.asg l e,ρ,M=>(e.den W ρ M).bind λx M1=>(l.put W x ρ M1).bind fun ρ' M2=>.ok (.next,ρ') M2
 |.expr e,ρ,M=>(e.den W ρ M).bind λ_ M1=>.ok (.next,ρ) M1
 |.iff c a b,ρ,M=>(c.den W ρ M).bind λx M1=>match x with|.bl true=>a.den W ρ M1|.bl false=>b.den W ρ M1|_=>.bad
 |.whl c b,ρ,M=>El (c.den W) (b.den W) aes ρ M
 | .for_ t it b,ρ,M=>(it.den W ρ M).bind λs M1=>Bb s.fin s.item (λd ρ M=>match t.put d ρ with
  | some ρ'=>b.den W ρ' M|none=>.bad) s.len 0 ρ M1
 |.ret e,ρ,M=>(e.den W ρ M).bind λx M1=>.ok (.ret x,ρ) M1
 |.ara,ρ,M=>.ok (.ret .non,ρ) M|.brk,ρ,M=>.ok (.brk,ρ) M|.cont,ρ,M=>.ok (.cont,ρ) M|.pass,ρ,M=>.ok (.next,ρ) M|.raise c es,ρ,M=>(es.den W ρ M).bind λ_ M1=>.err c M1
noncomputable def m7.den(W:Ib):m7->Env->cu->Res (Flow×Env)
 |.nil,ρ,M=>.ok (.next,ρ) M
 |.cons s r,ρ,M=>(s.den W ρ M).bind λp M1=>match p.1 with
  |.next=>r.den W p.2 M1|.brk=>.ok (.brk,p.2) M1|.cont=>.ok (.cont,p.2) M1|.ret d=>.ok (.ret d,p.2) M1
end
structure Prog where
 fns:List Fn
 cls:List Cl
noncomputable def Fn.run(W:Ib)(f:Fn)(ds:List D)(M:cu):Res D :=
 if ds.length=f.np then
  (f.body.den W (ds.map some++List.replicate (f.ns-f.np) none) M).bind λp M1=>match p.1 with
   |.ret d=>.ok d M1|.next=>.ok .non M1|_=>.bad
 else .bad
noncomputable def Prog.call(P:Prog):Nat->Nat->List D->cu->Res D
 |0,_,_,_=>.bad
 |n+1,f,ds,M=>match P.fns[f]? with
  |some F=>F.run ⟨P.call n,P.cls⟩ ds M|none=>.bad
@[simp] def af7(i:Nat):(Ex.var i).den W ρ M=match ρ[i]? with|some (some d)=>.ok d M|_=>.bad:=rfl
@[simp high] theorem ba1(d:D)(r:Env):(Ex.var 0).den W (some d::r) M=.ok d M:=rfl
@[simp high] theorem ba2(a0:Option D)(d:D)(r:Env):(Ex.var 1).den W (a0::some d::r) M=.ok d M:=rfl
@[simp high] theorem ba3(a0 a1:Option D)(d:D)(r:Env):(Ex.var 2).den W (a0::a1::some d::r) M=.ok d M:=rfl
@[simp high] theorem ba4(a0 a1 a2:Option D)(d:D)(r:Env):(Ex.var 3).den W (a0::a1::a2::some d::r) M=.ok d M:=rfl
@[simp high] theorem ba5(a0 a1 a2 a3:Option D)(d:D)(r:Env):(Ex.var 4).den W (a0::a1::a2::a3::some d::r) M=.ok d M:=rfl
@[simp high] theorem ba6(a0 a1 a2 a3 a4:Option D)(d:D)(r:Env):(Ex.var 5).den W (a0::a1::a2::a3::a4::some d::r) M=.ok d M:=rfl
@[simp high] theorem ba7(a0 a1 a2 a3 a4 a5:Option D)(d:D)(r:Env):(Ex.var 6).den W (a0::a1::a2::a3::a4::a5::some d::r) M=.ok d M:=rfl
@[simp high] theorem ba8(a0 a1 a2 a3 a4 a5 a6:Option D)(d:D)(r:Env):(Ex.var 7).den W (a0::a1::a2::a3::a4::a5::a6::some d::r) M=.ok d M:=rfl
@[simp high] theorem ba9(a0 a1 a2 a3 a4 a5 a6 a7:Option D)(d:D)(r:Env):(Ex.var 8).den W (a0::a1::a2::a3::a4::a5::a6::a7::some d::r) M=.ok d M:=rfl
@[simp high] theorem bba(a0 a1 a2 a3 a4 a5 a6 a7 a8:Option D)(d:D)(r:Env):(Ex.var 9).den W (a0::a1::a2::a3::a4::a5::a6::a7::a8::some d::r) M=.ok d M:=rfl
@[simp high] theorem a81(a0 a1 a2 a3 a4 a5 a6 a7 a8 a9:Option D)(d:D)(r:Env):(Ex.var 10).den W (a0::a1::a2::a3::a4::a5::a6::a7::a8::a9::some d::r) M=.ok d M:=rfl
@[simp high] theorem a82(a0 a1 a2 a3 a4 a5 a6 a7 a8 a9 a10:Option D)(d:D)(r:Env):(Ex.var 11).den W (a0::a1::a2::a3::a4::a5::a6::a7::a8::a9::a10::some d::r) M=.ok d M:=rfl
@[simp high] theorem a83(a0 a1 a2 a3 a4 a5 a6 a7 a8 a9 a10 a11:Option D)(d:D)(r:Env):(Ex.var 12).den W (a0::a1::a2::a3::a4::a5::a6::a7::a8::a9::a10::a11::some d::r) M=.ok d M:=rfl
@[simp] def Pb(d:D):(Ex.cst d).den W ρ M=.ok d M:=rfl
@[simp] def arb(op:Op2)(a b:Ex):(Ex.bin op a b).den W ρ M=(a.den W ρ M).bind λx M1=>(b.den W ρ M1).bind λy M2=>Ey op x y M2:=rfl
@[simp] def arc(a:Ex):(Ex.neg a).den W ρ M=(a.den W ρ M).bind λx M1=>match x with|.int i=>.ok (.int (-i)) M1|_=>.bad:=rfl
@[simp] def ard(op:Cp)(a b:Ex):(Ex.cmp op a b).den W ρ M=(a.den W ρ M).bind λx M1=>(b.den W ρ M1).bind λy M2=>Res.uv ((Kr op x y M2).map D.bl) M2:=rfl
@[simp] def ait(o1 o2:Cp)(a b c:Ex):(Ex.chain o1 o2 a b c).den W ρ M=(a.den W ρ M).bind λx M1=>(b.den W ρ M1).bind λy M2=>(Res.uv (Kr o1 x y M2) M2).bind λq M2=>if q then(c.den W ρ M2).bind λz M3=>Res.uv ((Kr o2 y z M3).map D.bl) M3 else .ok (.bl false) M2:=rfl
def af8(a b:Ex):(Ex.and a b).den W ρ M=(a.den W ρ M).bind λx M1=>match x with|.bl true=>b.den W ρ M1|.bl false=>.ok (.bl false) M1|_=>.bad:=rfl
def alm(a b:Ex):(Ex.or a b).den W ρ M=(a.den W ρ M).bind λx M1=>match x with|.bl true=>.ok (.bl true) M1|.bl false=>b.den W ρ M1|_=>.bad:=rfl
@[simp] def af9(a:Ex):(Ex.not a).den W ρ M=(a.den W ρ M).bind λx M1=>match x with|.bl b=>.ok (.bl !b) M1|_=>.bad:=rfl
def arf(c a b:Ex):(Ex.ite c a b).den W ρ M=(c.den W ρ M).bind λx M1=>match x with|.bl true=>a.den W ρ M1|.bl false=>b.den W ρ M1|_=>.bad:=rfl
@[simp] def arh(es:Bs):(Ex.tup es).den W ρ M=(es.den W ρ M).bind λds M1=>.ok (.tup ds) M1:=rfl
@[simp] def ari(es:Bs):(Ex.lst es).den W ρ M=(es.den W ρ M).bind λds M1=>new (.lst ds) M1:=rfl
@[simp] def aln(es:Bs):(Ex.Fz es).den W ρ M=(es.den W ρ M).bind λds M1=>.ok (.vl ds) M1:=rfl
@[simp] def alo:Ex.aa9.den W ρ M=new (.dT []) M:=rfl
@[simp] def alp:Ex.aek.den W ρ M=new (.dK []) M:=rfl
@[simp] def axq(a b:Ex):(Ex.ix a b).den W ρ M=(a.den W ρ M).bind λx M1=>(b.den W ρ M1).bind λy M2=>Res.uv (zy x y M2) M2:=rfl
@[simp] def arj(a:Ex)(lo hi:OEx):(Ex.cut a lo hi).den W ρ M=(a.den W ρ M).bind λx M1=>(lo.den W ρ M1).bind λl M2=>(hi.den W ρ M2).bind λh M3=>Res.uv (abb x l h M3) M3:=rfl
@[simp] def alq(f:Nat)(es:Bs):(Ex.call f es).den W ρ M=(es.den W ρ M).bind λds M1=>W.call f ds M1:=rfl
@[simp] theorem abd{W:Ib}{ρ:Env}{M:cu}(c:Nat)(es:Bs):(Ex.make c es).den W ρ M=(es.den W ρ M).bind λds M1=>match W.cls[c]? with
 |some C=>(W.call C.init (.ref M1.length::ds) (M1++[.ins c []])).bind λr M2=>match r with|.non=>.ok (.ref M1.length) M2|_=>.bad
 |none=>.bad:=rfl
@[simp] theorem Pg{W:Ib}{ρ:Env}{M:cu}(o:Ex)(m:Nat)(es:Bs):(Ex.meth o m es).den W ρ M=(o.den W ρ M).bind λx M1=>(es.den W ρ M1).bind λds M2=>match x with
 |.ref n=>match M1[n]? with
  |some (.ins c _)=>match(W.cls[c]?).bind λC=>C.meths.lookup m with
   |some f=>W.call f (.ref n::ds) M2|none=>.bad
  |_=>.bad
 |_=>.bad:=rfl
@[simp] def ark(o:Ex)(f:Nat):(Ex.fld o f).den W ρ M=(o.den W ρ M).bind λx M1=>Res.uv (O9 x f M1) M1:=rfl
@[simp] def Ue(b:Blt)(es:Bs):(Ex.blt b es).den W ρ M=(es.den W ρ M).bind λds M1=>ud b ds M1:=rfl
@[simp] def axr(m:Bm)(o:Ex)(es:Bs):(Ex.bm m o es).den W ρ M=(o.den W ρ M).bind λx M1=>if Ke m x M1 then(es.den W ρ M1).bind λds M2=>Gi m x ds M2 else .bad:=rfl
@[simp] theorem alr{W:Ib}{ρ:Env}{M:cu}(e:Ex):(Ex.aem e).den W ρ M=(e.den W ρ M).bind λx M1=>match x with
 |.int i=>if i.natAbs<=100000 then .ok (.tup ((List.range i.toNat).map λ(k:Nat)=>D.int (k:Int))) M1 else .bad
 |_=>.bad:=rfl
@[simp] theorem als{W:Ib}{ρ:Env}{M:cu}(e:Ex):(Ex.aen e).den W ρ M=(e.den W ρ M).bind λx M1=>match x with
 |.int i=>if i.natAbs<=100000 then new (.lst ((List.range i.toNat).map λ(k:Nat)=>D.int (k:Int))) M1 else .bad
 |_=>.bad:=rfl
def Ks(v:Bool)(k:Nat)(t:Tg)(it:Og)(e:Ex):(Ex.comp v k t it e).den W ρ M=(it.den W ρ M).bind λs M1 =>
 (zf s (λd M=>match t.put d (ρ++List.replicate k none) with
  |some ρ'=>(e.den W ρ' M).bind λx M'=>.ok (some x) M'
  | none=>.bad) M1).bind λds M2=>if v then .ok (.vl ds) M2 else new (.lst ds) M2:=rfl
def U7(v:Bool)(k:Nat)(t:Tg)(it:Og)(c e:Ex):(Ex.Ax v k t it c e).den W ρ M=(it.den W ρ M).bind λs M1 =>
 (zf s (λd M=>match t.put d (ρ++List.replicate k none) with
  |some ρ'=>(c.den W ρ' M).bind λb M'=>match b with
   |.bl true=>(e.den W ρ' M').bind λx M''=>.ok (some x) M''
   |.bl false=>.ok none M'|_=>.bad
  | none=>.bad) M1).bind λds M2=>if v then .ok (.vl ds) M2 else new (.lst ds) M2:=rfl
@[simp] def Ku:Bs.nil.den W ρ M=.ok [] M:=rfl
@[simp] def Gf(e:Ex)(es:Bs):(Bs.cons e es).den W ρ M=(e.den W ρ M).bind λx M1=>(es.den W ρ M1).bind λxs M2=>.ok (x::xs) M2:=rfl
@[simp] def aiu:OEx.none.den W ρ M=.ok none M:=rfl
@[simp] def aiv(e:Ex):(OEx.some e).den W ρ M=(e.den W ρ M).bind λx M1=>match x with|.int i=>.ok (some i) M1|_=>.bad:=rfl
@[simp] def Hj(e:Ex):(Og.val e).den W ρ M=(e.den W ρ M).bind λx M1=>Res.uv (srcOf M1 x) M1:=rfl
@[simp] theorem Ng{W:Ib}{ρ:Env}{M:cu}(e:Ex):(Og.Jz e).den W ρ M=(e.den W ρ M).bind λx M1=>match x with
 |.int i=>if i.natAbs<=100000 then .ok (.con ((List.range i.toNat).map λ(k:Nat)=>D.int (k:Int))) M1 else .bad
 |_=>.bad:=rfl
@[simp] theorem Za{W:Ib}{ρ:Env}{M:cu}(e:Ex):(Og.enm e).den W ρ M=(e.den W ρ M).bind λx M1=>match x with
 |.tup ds=>.ok (.con (Al ds 0)) M1|.vl ds=>.ok (.con (Al ds 0)) M1|_=>.bad:=rfl
@[simp] theorem arl(es:Bs):(Og.zip es).den W ρ M=(es.den W ρ M).bind λds M1=>match Oj ds with
 |some (l::r)=>if(r.all λx=>x.length==l.length)=true then .ok (.con (Ol (l::r) l.length)) M1 else .bad
 |_=>.bad:=rfl
@[simp] def Zb(l:Lv)(e:Ex):(Bg.asg l e).den W ρ M=(e.den W ρ M).bind λx M1=>(l.put W x ρ M1).bind fun ρ' M2=>.ok (.next,ρ') M2:=rfl
@[simp] def arn(e:Ex):(Bg.expr e).den W ρ M=(e.den W ρ M).bind λ_ M1=>.ok (.next,ρ) M1:=rfl
def axs(c:Ex)(a b:m7):(Bg.iff c a b).den W ρ M=(c.den W ρ M).bind λx M1=>match x with|.bl true=>a.den W ρ M1|.bl false=>b.den W ρ M1|_=>.bad:=rfl
@[simp] def axt(e:Ex):(Bg.ret e).den W ρ M=(e.den W ρ M).bind λx M1=>.ok (.ret x,ρ) M1:=rfl
@[simp] def a84:Bg.ara.den W ρ M=.ok (.ret .non,ρ) M:=rfl
@[simp] def axu:Bg.brk.den W ρ M=.ok (.brk,ρ) M:=rfl
@[simp] def aro:Bg.cont.den W ρ M=.ok (.cont,ρ) M:=rfl
@[simp] def arp:Bg.pass.den W ρ M=.ok (.next,ρ) M:=rfl
@[simp] def alu(c:Nat)(es:Bs):(Bg.raise c es).den W ρ M=(es.den W ρ M).bind λ_ M1=>.err c M1:=rfl
def Zc(c:Ex)(b:m7):(Bg.whl c b).den W ρ M=El (c.den W) (b.den W) aes ρ M:=rfl
def Q5(t:Tg)(it:Og)(b:m7):(Bg.for_ t it b).den W ρ M=(it.den W ρ M).bind λs M1=>Bb s.fin s.item (λd ρ M=>match t.put d ρ with
 | some ρ'=>b.den W ρ' M|none=>.bad) s.len 0 ρ M1:=rfl
@[simp] def arq:m7.nil.den W ρ M=.ok (.next,ρ) M:=rfl
theorem alv{W:Ib}{ρ:Env}{M:cu}(s:Bg)(r:m7):(m7.cons s r).den W ρ M=(s.den W ρ M).bind λp M1=>match p.1 with
 |.next=>r.den W p.2 M1|.brk=>.ok (.brk,p.2) M1|.cont=>.ok (.cont,p.2) M1|.ret d=>.ok (.ret d,p.2) M1:=rfl
noncomputable def aiw(W:Ib)(r:m7)(x:Res (Flow×Env)):Res (Flow×Env):=x.bind λp M1=>match p.1 with
 |.next=>r.den W p.2 M1|.brk=>.ok (.brk,p.2) M1|.cont=>.ok (.cont,p.2) M1|.ret d=>.ok (.ret d,p.2) M1
@[simp] def a85(s:Bg)(r:m7):(m7.cons s r).den W ρ M=aiw W r (s.den W ρ M):=rfl
@[simp] def a4b(r:m7):aiw W r (.ok (.next,ρ) M)=r.den W ρ M:=rfl
@[simp] def a86(r:m7):aiw W r (.ok (.brk,ρ) M)=.ok (.brk,ρ) M:=rfl
@[simp] def a4c(r:m7):aiw W r (.ok (.cont,ρ) M)=.ok (.cont,ρ) M:=rfl
@[simp] def a87(r:m7)(d:D):aiw W r (.ok (.ret d,ρ) M)=.ok (.ret d,ρ) M:=rfl
@[simp] def a88(r:m7)(c:Nat):aiw W r (.err c M)=.err c M:=rfl
noncomputable def ifK{α:Type}(a b:cu->Res α)(x:Res D):Res α:=x.bind λx M1=>match x with|.bl true=>a M1|.bl false=>b M1|_=>.bad
@[simp] def a4d(c:Ex)(a b:m7):(Bg.iff c a b).den W ρ M=ifK (a.den W ρ) (b.den W ρ) (c.den W ρ M):=rfl
@[simp] def bbb(c a b:Ex):(Ex.ite c a b).den W ρ M=ifK (a.den W ρ) (b.den W ρ) (c.den W ρ M):=rfl
@[simp] def bbc(a b:Ex):(Ex.and a b).den W ρ M=ifK (b.den W ρ) (.ok (.bl false)) (a.den W ρ M):=rfl
@[simp] def bfe(a b:Ex):(Ex.or a b).den W ρ M=ifK (.ok (.bl true)) (b.den W ρ) (a.den W ρ M):=rfl
@[simp] def bff(a b:cu->Res α):ifK a b (.ok (.bl true) M)=a M:=rfl
@[simp] def bfg(a b:cu->Res α):ifK a b (.ok (.bl false) M)=b M:=rfl
@[simp] def bbd(a b:cu->Res α)(c:Nat):ifK a b (.err c M)=.err c M:=rfl
theorem Xk{W:Ib}{ρ:Env}{M:cu}(a b:Ex):(Ex.U6 a b).den W ρ M=(a.den W ρ M).bind λx M1 =>
 match(keysOf M1 x).bind Cr with
 |some xs=>if Cu xs then(b.den W ρ M1).bind λy M2 =>
  match(keysOf M2 y).bind Cr with
  |some ys=>if Cu ys then .ok (.bl !Hi xs ys) M2 else .bad
  |none=>.bad
  else .bad
 |none=>.bad:=rfl
@[simp] def alw(t:Tg)(d:D):(Lv.tg t).put W d ρ M=Res.uv (t.put d ρ) M:=rfl
@[simp] def ars(o i:Ex)(d:D):(Lv.sub o i).put W d ρ M=(o.den W ρ M).bind λx M1=>(i.den W ρ M1).bind λy M2=>(Res.uv (setOp x y d M2) M2).bind λM3 _=>.ok ρ M3:=rfl
@[simp] def art(o:Ex)(f:Nat)(d:D):(Lv.fld o f).put W d ρ M=(o.den W ρ M).bind λx M1=>(Res.uv (Pa x f d M1) M1).bind λM2 _=>.ok ρ M2:=rfl
@[simp] def axw(i:Nat)(d:D):(Tg.name i).put d ρ=some (ρ.set i (some d)):=rfl
@[simp] def av3(is:Y3)(ds:List D)(h:ds.length=is.length):(Tg.names is).put (.tup ds) ρ=some (Oi is ds ρ):=by simp[Tg.put,h]
@[simp] def av4(i:Nat)(is:Y3)(d:D)(ds:List D):Oi (i::is) (d::ds) ρ=Oi is ds (ρ.set i (some d)):=rfl
@[simp] def axx(ds:List D):Oi [] ds ρ=ρ:=by cases ds<;>rfl
@[simp] def a4e(i j:Int):Ey .add (.int i) (.int j) M=.ok (.int (i+j)) M:=rfl
@[simp] def a4f(i j:Int):Ey .sub (.int i) (.int j) M=.ok (.int (i-j)) M:=rfl
def Kv(i j:Int)(h:(-(2 ^ 64)<i/\i<2 ^ 64)\/(-(2 ^ 64)<j/\j<2 ^ 64)):Ey .mul (.int i) (.int j) M=.ok (.int (i*j)) M:=cj h
def Xl(i j:Int)(h:0<j)(h2:j<1073741824):Ey .fdiv (.int i) (.int j) M=.ok (.int (i / j)) M:=cj ⟨h,h2⟩
@[simp] def a4g(i j:Int)(h:0<j):Ey .mod (.int i) (.int j) M=.ok (.int (i%j)) M:=cj h
@[simp] def axy:Ey .pow (.int 10) (.int 18) M=.ok (.int (10 ^ 18)) M:=by simp[Ey,av2]
def Xm(xs ys:List D)(h:xs.length+ys.length<=100000):Ey .add (.vl xs) (.vl ys) M=.ok (.vl (xs++ys)) M:=cj h
def aix(xs ys:List D)(h:xs.length+ys.length<=100000):Ey .ais (.vl xs) (.vl ys) M=new (.lst (xs++ys)) M:=cj h
@[simp] def bbe(i j:Int):Kr .lt (.int i) (.int j) M=some (decide (i<j)):=rfl
@[simp] def bbf(i j:Int):Kr .le (.int i) (.int j) M=some (decide (i<=j)):=rfl
@[simp] def cmp_gt(i j:Int):Kr .gt (.int i) (.int j) M=some (decide (j<i)):=rfl
@[simp] def bbg(i j:Int):Kr .ge (.int i) (.int j) M=some (decide (j<=i)):=rfl
@[simp] def bbh(a b:D):Kr .eq a b M=wz M a b:=rfl
@[simp] def bbi(a b:D):Kr .ne a b M=(wz M a b).map not:=rfl
@[simp] def bbj(a b:D):Kr .inn a b M=Nt M a b:=rfl
@[simp] def a1z(a b:D):Kr .O7 a b M=(Nt M a b).map not:=rfl
def aga(n:Nat)(i j:Int):Km M (n+1) (.int i) (.int j)=some (decide (i=j)):=rfl
def Cv(h1:f a b=some x)(h2:Q3 f as bs=some y):Q3 f (a::as) (b::bs)=some (x&&y):=by simp[Q3,h1,h2]
@[simp] def eq_int(i j:Int):wz M (.int i) (.int j)=some (decide (i=j)):=rfl
@[simp] def bfh(i j:Bool):wz M (.bl i) (.bl j)=some (i==j):=rfl
@[simp] def aiy(ds:List D):fu M (.vl ds)=some ds:=rfl
@[simp] def a4h(ds:List D):Aa M (.vl ds)=some ds:=rfl
@[simp] def a2a(ds:List D):Aa M (.tup ds)=some ds:=rfl
def o6(h:M[n]?=some (.lst ds)):fu M (.ref n)=some ds:=by simp[fu,h]
def U8(h:fu M d=some ds):Aa M d=some ds:=by cases d<;>first|exact h|(simp[fu] at h)
set_option tactic.hygienic true in
def len_list(h:fu M d=some ds):ud .len [d] M=.ok (.int ds.length) M:=by
 show Q4 M d=_;cases d with
 |vl xs=>simp[fu] at h;subst h;rfl
 |ref n =>
  simp only[fu] at h;split at h<;>simp at h;rename_i xs hx;subst h;simp[Q4,hx]
 |_=>simp[fu] at h
@[simp] def a4i(d:D)(g:D->Res D):O8 [d] g=g d:=rfl
@[simp] def a4j(g:D->Res D):O8 [] g=.bad:=rfl
@[simp] def a2b(a b:D)(l:List D)(g:D->Res D):O8 (a::b::l) g=.bad:=rfl
@[simp] def bbk(i j:Int)(f:Int->Int->Int)(g:D->Option Int):two [.int i,.int j] f g M=.ok (.int (f i j)) M:=rfl
@[simp] def aru(d:D)(f:Int->Int->Int)(g:D->Option Int):two [d] f g M=Res.uv ((g d).map D.int) M:=rfl
@[simp] def axz(ds:List D):Q4 M (.tup ds)=.ok (.int ds.length) M:=rfl
@[simp] theorem av5{M:cu}(n:Nat):Ud M (.ref n)=match M[n]? with
 |some (.dT gw)=>if aer gw then new (.dT gw) M else .bad
 |some (.dK gw)=>new (.dK gw) M|_=>.bad:=rfl
def Bt(h:fu M d=some ds)(h0:0<=i)(hx:ds[i.toNat]?=some x):zy d (.int i) M=some x:=by
 obtain⟨hl,hxx⟩:=ak.mp hx;have hi:i<ds.length:=by lia
 cases d with
 |vl xs=>simp[fu] at h;subst h;simp[zy,Aa,W4,h0,hi,hl,hxx]
 |ref n =>
  simp only[fu] at h;cases e:M[n]? with
  |none=>rw[e] at h;simp at h|some o=>rw[e] at h;cases o<;>simp at h<;>subst h<;>simp[zy,fu,e,W4,h0,hi,hl,hxx]
 |_=>simp[fu] at h
def Hu(h0:0<=i)(hx:ds[i.toNat]?=some x):zy (.tup ds) (.int i) M=some x:=by
 obtain⟨hl,hxx⟩:=ak.mp hx;have hi:i<ds.length:=by lia
 simp[zy,Aa,W4,h0,hi,hl,hxx]
def a4k(h0:0<=i)(hx:ds[i.toNat]?=some x):zy (.fz ds) (.int i) M=some x:=by
 obtain⟨hl,hxx⟩:=ak.mp hx;have hi:i<ds.length:=by lia
 simp[zy,W4,h0,hi,hl,hxx]
def alx:ud .len [.fz ds] M=.ok (.int ds.length) M:=rfl
@[simp] def a89(x:D)(r:List D):zy (.tup (x::r)) (.int 0) M=some x:=Hu (by decide) rfl
@[simp] def a9a(x y:D)(r:List D):zy (.tup (x::y::r)) (.int 1) M=some y:=Hu (by decide) rfl
@[simp] def a9b(x y z:D)(r:List D):zy (.tup (x::y::z::r)) (.int 2) M=some z:=Hu (by decide) rfl
def abe(h:M[n]?=some (.dT gw))(hk:Q0 b=some k):zy (.ref n) b M=vz gw k:=by simp[zy,h,hk]
def av6(h:M[n]?=some (.dT gw))(hk:Q0 b=some k):Nt M b (.ref n)=some (vz gw k).isSome:=by simp[Nt,h,hk]
def a4l(h:M[n]?=some (.dK gw))(hk:Qz b=some k):zy (.ref n) b M=vz gw k:=by simp[zy,h,hk]
@[simp] def Xn(i j:Int):Q0 (.tup [.int i,.int j])=some [.inl i,.inl j]:=rfl
@[simp] def bfi(i:Int):Qz (.int i)=some (.inl i):=rfl
def Dr(h:M[n]?=some (.lst xs)):Ke .append (.ref n) M=true:=by simp[Ke,h]
def Cw(h:M[n]?=some (.lst xs))(hl:xs.length<100000):Gi .append (.ref n) [d] M=.ok .non (M.set n (.lst (xs++[d]))):=by simp[Gi,h,hl]
def Zd(h:M[n]?=some (.lst xs))(h0:0<=i)(hi:i<xs.length):setOp (.ref n) (.int i) d M=some (M.set n (.lst (xs.set i.toNat d))):=by simp[setOp,h,W4,h0,hi]
def aly(h:M[n]?=some (.dT gw))(hk:Q0 b=some k)(hs:gw.length<100000):setOp (.ref n) b d M=some (M.set n (.dT (Bw gw k d))):=by simp[setOp,h,hk,hs]
def wj{M:cu}(h:M[a]?=some o):a<M.length:=(ak.mp h).1
def uw{M:cu}(h:M[a]?=some p):(M.set a o)[a]?=some o:=by rw[yw (wj h)]
def qx{M:cu}(h:b≠a):(M.set b o)[a]?=M[a]?:=ur h
def o7{M:cu}{a:Nat}(h:M[a]?=some o):(M++X)[a]?=some o:=by rw[dz (wj h)];exact h
@[simp] def a9c{M:cu}:(M++[o])[M.length]?=some o:=by simp
theorem Ze{fin:cu->Bool}{item:Nat->cu->Option D}{body:D->Env->cu->Res (Flow×Env)}(I:Nat->Env->cu->Prop){n:Nat}
 (step:∀i ρ M,i<n->I i ρ M->∃d fl ρ' M',item i M=some d/\body d ρ M=.ok (fl,ρ') M'/\(fl=.next\/fl=.cont)/\I (i+1) ρ' M') (Om:∀ρ M,I n ρ M->fin M=true) :
 ∀(k i:Nat)(ρ:Env)(M:cu),i+k=n->I i ρ M->∃ρ' M',Bb fin item body k i ρ M=.ok (.next,ρ') M'/\I n ρ' M'
 |0,i,ρ,M,e,h=>by
  have q:i=n:=by lia
  rw[q] at h;exact⟨ρ,M,by simp[Bb,Om ρ M h],h⟩
 |k+1,i,ρ,M,e,h=>by
  obtain⟨d,fl,ρ1,M1,h1,h2,h3,h4⟩:=step i ρ M (by lia) h;obtain⟨ρ2,M2,g1,g2⟩:=Ze I step Om k (i+1) ρ1 M1 (by lia) h4;refine⟨ρ2,M2,?_,g2⟩;rcases h3 with rfl|rfl<;>simp[Bb,h1,h2,g1]
def Ug(I:Nat->Env->cu->Prop)(h0:I 0 ρ M)(step:∀i d ρ M,ds[i]?=some d->I i ρ M->∃fl ρ' M',body d ρ M=.ok (fl,ρ') M'/\(fl=.next\/fl=.cont)/\I (i+1) ρ' M') :
 ∃ρ' M',Bb (Src.con ds).fin (Src.con ds).item body (Src.con ds).len 0 ρ M=.ok (.next,ρ') M'/\I ds.length ρ' M':=by
 refine Ze I (λi ρ M hi h=>?_) (λ_ _ _=>rfl) ds.length 0 ρ M (uq _) h0;obtain⟨fl,ρ',M',a,b,c⟩:=step i ds[i] ρ M (by simp[hi]) h;exact⟨ds[i],fl,ρ',M',by simp[Src.item,hi],a,b,c⟩
def Zf(I:Nat->Env->cu->Prop)(h0:I 0 ρ M)(step:∀i ρ M,i<n->I i ρ M->∃fl ρ' M',body (.int i) ρ M=.ok (fl,ρ') M'/\(fl=.next\/fl=.cont)/\I (i+1) ρ' M') :
 ∃ρ' M',Bb (Src.con ((List.range n).map λ(k:Nat)=>D.int (k:Int))).fin (Src.con ((List.range n).map λ(k:Nat)=>D.int (k:Int))).item body (Src.con ((List.range n).map λ(k:Nat)=>D.int (k:Int))).len 0 ρ M=.ok (.next,ρ') M'/\I n ρ' M':=by
 have:=Ug (ds:=(List.range n).map λ(k:Nat)=>D.int (k:Int)) (body:=body) I h0 (λi d ρ M hd h=>by
  have hi:i<n:=by have:=(ak.mp hd).1;simpa using this
  rw[iz,uc hi] at hd;have hd:D.int (i:Int)=d:=by simpa using hd
  subst hd;exact step i ρ M hi h)
 simpa using this
def alz(I:Nat->Env->cu->Prop)(h0:I 0 ρ M)(stay:∀i ρ M,I i ρ M->M[p]?=some (.lst ds))(step:∀i d ρ M,ds[i]?=some d->I i ρ M->∃fl ρ' M',body d ρ M=.ok (fl,ρ') M'/\(fl=.next\/fl=.cont)/\I (i+1) ρ' M') :
 ∃ρ' M',Bb (Src.live p ds.length).fin (Src.live p ds.length).item body (Src.live p ds.length).len 0 ρ M=.ok (.next,ρ') M'/\I ds.length ρ' M':=by
 refine Ze I (λi ρ M hi h=>?_) (fun ρ M h=>by simp[Src.fin,stay _ ρ M h]) ds.length 0 ρ M (uq _) h0;obtain⟨fl,ρ',M',a,b,c⟩:=step i ds[i] ρ M (by simp[hi]) h;exact⟨ds[i],fl,ρ',M',by simp[Src.item,stay i ρ M h,hi],a,b,c⟩
theorem Gj{fin:cu->Bool}{item:Nat->cu->Option D}{body:D->cu->Res (Option D)}(I:Nat->List D->cu->Prop){n:Nat}
 (step:∀i xs M,i<n->I i xs M->∃d o M',item i M=some d/\body d M=.ok o M'/\I (i+1) (xs++o.toList) M') (Om:∀xs M,I n xs M->fin M=true) :
 ∀(k i:Nat)(xs:List D)(M:cu),i+k=n->I i xs M->∃ys M',By fin item body k i M=.ok ys M'/\I n (xs++ys) M'
 |0,i,xs,M,e,h=>by
  have q:i=n:=by lia
  rw[q] at h;exact⟨[],M,by simp[By,Om xs M h],by simpa using h⟩
 |k+1,i,xs,M,e,h=>by
  obtain⟨d,o,M1,h1,h2,h3⟩:=step i xs M (by lia) h;obtain⟨ys,M2,g1,g2⟩:=Gj I step Om k (i+1) (xs++o.toList) M1 (by lia) h3;refine⟨o.toList++ys,M2,?_,by rw[<- xu];exact g2⟩;cases o<;>simp[By,h1,h2,g1]
def Q6{s:Src}{ds:List D}(Om:s.fin M=true)(hl:s.len=ds.length)(hi:∀i,i<ds.length->s.item i M=ds[i]?)(h:∀d∈ds,body d M=.ok (g d) M) :
 By s.fin s.item body s.len 0 M=.ok (ds.filterMap g) M:=by
 obtain⟨ys,M',e,h1,h2⟩:=Gj (fin:=s.fin) (item:=s.item) (body:=body) (λi xs M'=>M'=M/\xs=(ds.take i).filterMap g) (n:=ds.length) (λi xs M' Ig hI=>by
  obtain⟨rfl,rfl⟩:=hI;refine⟨ds[i],g ds[i],M',by rw[hi i Ig];simp[Ig],h _ (p8 Ig),rfl,?_⟩;rw[List.take_succ,List.filterMap_append];simp[Ig];cases e:g ds[i]<;>simp[e]) (λxs M' h=>by rw[h.1];exact Om) ds.length 0 [] M (uq _) ⟨rfl,rfl⟩
 rw[hl,e,h1];simp at h2;rw[h2]
def al0(h:∀d∈ds,body d M=.ok (some (g d)) M) :
 By (Src.con ds).fin (Src.con ds).item body (Src.con ds).len 0 M=.ok (ds.map g) M:=by
 rw[Q6 (s:=.con ds) (ds:=ds) (g:=λd=>some (g d)) rfl rfl (λi _=>rfl) h,List.filterMap_eq_map']
end MW
namespace MW
theorem Nh{c:Env->cu->Res D}{body:Env->cu->Res (Flow×Env)}(I:Nat->Env->cu->Prop)(Q7:Env->cu->Prop)
 (step:∀m ρ M,I m ρ M->(∃M1,c ρ M=.ok (.bl false) M1/\Q7 ρ M1) \/
  ∃M1 fl ρ' M2 m',c ρ M=.ok (.bl true) M1/\body ρ M1=.ok (fl,ρ') M2/\(fl=.next\/fl=.cont)/\m'<m/\I m' ρ' M2) :
 ∀(k m:Nat)(ρ:Env)(M:cu),m<k->I m ρ M->∃ρ' M',El c body k ρ M=.ok (.next,ρ') M'/\Q7 ρ' M'
 |0,m,_,_,h,_=>absurd h (xq _)
 |k+1,m,ρ,M,h,hI=>by
  rcases step m ρ M hI with⟨M1,h1,h2⟩|⟨M1,fl,ρ1,M2,m',h1,h2,h3,h4,h5⟩
  . exact⟨ρ,M1,by simp[El,h1],h2⟩
  . obtain⟨ρ3,M3,g1,g2⟩:=Nh I Q7 step k m' ρ1 M2 (b_ h4 (z_ h)) h5
    refine⟨ρ3,M3,?_,g2⟩;rcases h3 with rfl|rfl<;>simp[El,h1,h2,g1]
end MW
namespace MW
noncomputable def Af(M M':cu):Prop:=∀(a:Nat)(o:MO),M[a]?=some o->M'[a]?=some o
def Af.refl(M:cu):Af M M:=λ_ _ h=>h
def Af.trans(a:Af M M1)(b:Af M1 M2):Af M M2:=λx o h=>b x o (a x o h)
def Af.app(M X:cu):Af M (M++X):=λ_ _ h=>o7 h
def Af.len(k:Af M M'):M.length<=M'.length:=by
 rcases Nat.eq_zero_or_pos M.length with h|h
 . exact a_ (f_ h) (jt _)
 . have:=wj (k (M.length-1) M[M.length-1] (by simp))
   lia
theorem Af.fu(k:Af M M')(h:fu M d=some ds):MW.fu M' d=some ds:=by
 cases d with
 |vl xs=>exact h
 |ref n =>
  simp only[MW.fu] at h ⊢;cases e:M[n]? with
  |none=>rw[e] at h;simp at h|some o=>rw[e] at h;rw[k n o e];exact h
 |_=>simp[MW.fu] at h
def U9(I:Nat->Env->cu->Prop)(hd:fu M d=some ds)(h0:I 0 ρ M)(stay:∀i ρ M,I i ρ M->fu M d=some ds)(step:∀i x ρ M,ds[i]?=some x->I i ρ M->∃fl ρ' M',body x ρ M=.ok (fl,ρ') M'/\(fl=.next\/fl=.cont)/\I (i+1) ρ' M') :
 ∃s,srcOf M d=some s/\∃ρ' M',Bb s.fin s.item body s.len 0 ρ M=.ok (.next,ρ') M'/\I ds.length ρ' M':=by
 cases d with
 |vl xs=>simp[fu] at hd;subst hd;exact⟨_,rfl,Ug I h0 step⟩
 |ref n =>
  cases e:M[n]? with
  |none=>simp[fu,e] at hd
  |some o =>
   cases o with
   |lst xs =>
    simp[fu,e] at hd;subst hd;refine⟨.live n xs.length,by simp[srcOf,e],alz I h0 (λi ρ M h=>?_) step⟩;have:=stay i ρ M h;simp only[fu] at this;split at this<;>simp_all
   |_=>simp[fu,e] at hd
 |_=>simp[fu] at hd
def agb(hl:ds.length<=100000)(h:∀d∈ds,body d M=.ok (some (g d)) M):zf (.con ds) body M=.ok (ds.map g) M:=by rw[zf,cj (show(Src.con ds).len<=100000 from hl)];exact al0 h
def Ph(hl:ds.length<=100000)(h:∀d∈ds,body d M=.ok (g d) M):zf (.con ds) body M=.ok (ds.filterMap g) M:=by rw[zf,cj (show(Src.con ds).len<=100000 from hl)];exact Q6 (s:=.con ds) rfl rfl (λ_ _=>rfl) h
def Sq(hd:fu M d=some ds)(hl:ds.length<=100000)(h:∀x∈ds,body x M=.ok (g x) M) :
 ∃s,srcOf M d=some s/\zf s body M=.ok (ds.filterMap g) M:=by
 cases d with
 |vl xs=>simp[fu] at hd;subst hd;exact⟨_,rfl,Ph hl h⟩
 |ref n =>
  cases e:M[n]? with
  |none=>simp[fu,e] at hd
  |some o =>
   cases o with
   |lst xs =>
    simp[fu,e] at hd;subst hd;exact⟨.live n xs.length,by simp[srcOf,e],by rw[zf,cj (show(Src.live n xs.length).len<=100000 from hl)];exact Q6 (s:=.live n xs.length) (by simp[Src.fin,e]) rfl (λi _=>by simp[Src.item,e]) h⟩
   |_=>simp[fu,e] at hd
 |_=>simp[fu] at hd
def Ik(v:Bool)(k:Nat)(t:Tg)(it:Og)(e:Ex):(Ex.comp v k t it e).den W ρ M=(it.den W ρ M).bind λs M1 =>
 (zf s (λd M=>(Res.uv (t.put d (ρ++List.replicate k none)) M).bind fun ρ' M=>(e.den W ρ' M).bind λx M'=>.ok (some x) M') M1).bind λds M2=>if v then .ok (.vl ds) M2 else new (.lst ds) M2:=by
 rw[Ks]
 congr 1;funext s M1;congr 2;funext d M
 cases t.put d (ρ++List.replicate k none)<;>rfl
def Hk(v:Bool)(k:Nat)(t:Tg)(it:Og)(c e:Ex):(Ex.Ax v k t it c e).den W ρ M=(it.den W ρ M).bind λs M1 =>
 (zf s (λd M=>(Res.uv (t.put d (ρ++List.replicate k none)) M).bind fun ρ' M=>(c.den W ρ' M).bind λb M' =>
  match b with
   |.bl true=>(e.den W ρ' M').bind λx M''=>.ok (some x) M''
   | .bl false=>.ok none M'|_=>.bad) M1).bind λds M2=>if v then .ok (.vl ds) M2 else new (.lst ds) M2:=by
 rw[U7]
 congr 1;funext s M1;congr 2;funext d M
 cases t.put d (ρ++List.replicate k none)<;>rfl
def Ni(t:Tg)(it:Og)(b:m7):(Bg.for_ t it b).den W ρ M=(it.den W ρ M).bind λs M1=>Bb s.fin s.item (λd ρ M=>(Res.uv (t.put d ρ) M).bind fun ρ' M=>b.den W ρ' M) s.len 0 ρ M1:=by
 rw[Q5]
 congr 1;funext s M1;congr 1;funext d ρ M
 cases t.put d ρ<;>rfl
def yt(hit:it.den W ρ M=.ok (.int (n:Int)) M1)(hn:n<=100000)(I:Nat->Env->cu->Prop)(h0:I 0 ρ M1)(step:∀i ρ M,i<n->I i ρ M->∃ρ1 fl ρ' M',t.put (.int i) ρ=some ρ1/\b.den W ρ1 M=.ok (fl,ρ') M'/\(fl=.next\/fl=.cont)/\I (i+1) ρ' M') :
 ∃ρ' M',(Bg.for_ t (.Jz it) b).den W ρ M=.ok (.next,ρ') M'/\I n ρ' M':=by
 rw[Ni,Ng,hit];have Nf:((n:Int)).natAbs<=100000:=by lia
 simp only[Res.yo,Nf,ju,t8];exact Zf I h0 (λi ρ M hi h=>by
  obtain⟨ρ1,fl,ρ',M',a,b,c,d⟩:=step i ρ M hi h;exact⟨fl,ρ',M',by rw[a];exact b,c,d⟩)
def Jh(hit:it.den W ρ M=.ok d M1)(hd:fu M1 d=some ds)(I:Nat->Env->cu->Prop)(h0:I 0 ρ M1)(stay:∀i ρ M,I i ρ M->fu M d=some ds)(step:∀i x ρ M,ds[i]?=some x->I i ρ M->∃ρ1 fl ρ' M',t.put x ρ=some ρ1/\b.den W ρ1 M=.ok (fl,ρ') M'/\(fl=.next\/fl=.cont)/\I (i+1) ρ' M') :
 ∃ρ' M',(Bg.for_ t (.val it) b).den W ρ M=.ok (.next,ρ') M'/\I ds.length ρ' M':=by
 rw[Ni,Hj,hit];obtain⟨s,h1,h2⟩:=U9 (body:=λd ρ M=>(Res.uv (t.put d ρ) M).bind fun ρ' M=>b.den W ρ' M) I hd h0 stay (λi x ρ M hx h=>by
  obtain⟨ρ1,fl,ρ',M',a,b,c,d⟩:=step i x ρ M hx h;exact⟨fl,ρ',M',by rw[a];exact b,c,d⟩)
 simp only[Res.yo,h1,Res.Aw];exact h2
def abf(hit:it.den W ρ M=.ok (.tup ds) M1)(I:Nat->Env->cu->Prop)(h0:I 0 ρ M1)(step:∀i x ρ M,ds[i]?=some x->I i ρ M->∃ρ1 fl ρ' M',t.put x ρ=some ρ1/\b.den W ρ1 M=.ok (fl,ρ') M'/\(fl=.next\/fl=.cont)/\I (i+1) ρ' M') :
 ∃ρ' M',(Bg.for_ t (.val it) b).den W ρ M=.ok (.next,ρ') M'/\I ds.length ρ' M':=by
 rw[Ni,Hj,hit];exact Ug I h0 (λi x ρ M hx h=>by
  obtain⟨ρ1,fl,ρ',M',a,b,c,d⟩:=step i x ρ M hx h;exact⟨fl,ρ',M',by rw[a];exact b,c,d⟩)
def Ss(hit:it.den W ρ M=.ok (.tup ds) M1)(I:Nat->Env->cu->Prop)(h0:I 0 ρ M1)(step:∀i x ρ M,ds[i]?=some x->I i ρ M->∃ρ1 fl ρ' M',t.put (.tup [.int i,x]) ρ=some ρ1/\b.den W ρ1 M=.ok (fl,ρ') M'/\(fl=.next\/fl=.cont)/\I (i+1) ρ' M') :
 ∃ρ' M',(Bg.for_ t (.enm it) b).den W ρ M=.ok (.next,ρ') M'/\I ds.length ρ' M':=by
 rw[Ni,Za,hit];have:=Ug (ds:=Al ds 0) (body:=λd ρ M=>(Res.uv (t.put d ρ) M).bind fun ρ' M=>b.den W ρ' M) I h0 (λi x ρ M hx h=>by
  have hil:i<ds.length:=by have:=(ak.mp hx).1;simpa[Al] using this
  have hx':x=.tup [.int i,ds[i]]:=by simp[Al,hil] at hx;exact hx.symm
  subst hx';obtain⟨ρ1,fl,ρ',M',a,b,c,d⟩:=step i ds[i] ρ M (by simp[hil]) h;exact⟨fl,ρ',M',by rw[a];exact b,c,d⟩)
 have e:(Al ds 0).length=ds.length:=by simp[Al]
 rw[e] at this;exact this
def yg(hit:it.den W ρ M=.ok d M1)(hd:fu M1 d=some ds)(hl:ds.length<=100000)(h:∀x∈ds,∃ρ1,t.put x (ρ++List.replicate k none)=some ρ1/\e.den W ρ1 M1=.ok (g x) M1) :
 (Ex.comp v k t (.val it) e).den W ρ M=if v then .ok (.vl (ds.map g)) M1 else new (.lst (ds.map g)) M1:=by
 rw[Ik,Hj,hit];obtain⟨s,h1,h2⟩:=Sq (g:=λx=>some (g x)) (body:=λd M=>(Res.uv (t.put d (ρ++List.replicate k none)) M).bind fun ρ' M=>(e.den W ρ' M).bind λx M'=>.ok (some x) M') hd hl (λx hx=>by
  obtain⟨ρ1,a,b⟩:=h x hx;rw[a];simp[b])
 simp only[Res.yo,h1,Res.Aw,h2,List.filterMap_eq_map']
def Zg(hit:it.den W ρ M=.ok (.tup ds) M1)(hl:ds.length<=100000)(h:∀x∈ds,∃ρ1,t.put x (ρ++List.replicate k none)=some ρ1/\e.den W ρ1 M1=.ok (g x) M1) :
 (Ex.comp v k t (.val it) e).den W ρ M=if v then .ok (.vl (ds.map g)) M1 else new (.lst (ds.map g)) M1:=by
 rw[Ik,Hj,hit];have h2:=agb (g:=g) (M:=M1) (body:=λd M=>(Res.uv (t.put d (ρ++List.replicate k none)) M).bind fun ρ' M=>(e.den W ρ' M).bind λx M'=>.ok (some x) M') hl (λx hx=>by
  obtain⟨ρ1,a,b⟩:=h x hx;rw[a];simp[b])
 show(zf (.con ds) _ M1).bind _=_;rw[h2];rfl
def Kw(hit:it.den W ρ M=.ok (.int (n:Int)) M1)(hl:n<=100000)(h:∀i,i<n->∃ρ1,t.put (.int i) (ρ++List.replicate k none)=some ρ1/\c.den W ρ1 M1=.ok (.bl (q i)) M1/\(q i=true->e.den W ρ1 M1=.ok (g i) M1)) :
 (Ex.Ax v k t (.Jz it) c e).den W ρ M=if v then .ok (.vl (((List.range n).filter q).map g)) M1 else new (.lst (((List.range n).filter q).map g)) M1:=by
 rw[Hk,Ng,hit];have Nf:((n:Int)).natAbs<=100000:=by lia
 simp only[Res.yo,Nf,ju,t8];rw[Ph (ds:=(List.range n).map λ(k:Nat)=>D.int (k:Int)) (g:=λd=>match d with|.int i=>if q i.toNat then some (g i.toNat) else none|_=>none) (by simpa using hl) (λx hx=>by
  obtain⟨i,hi,rfl⟩:=bf.mp hx;obtain⟨ρ1,a,b,c⟩:=h i (jn.mp hi);rw[a,Res.Aw,Res.yo,b,Res.yo];cases e:q i with
  | true=>simp[e,c e]|false=>simp[e])]
 have:(((List.range n).map λ(k:Nat)=>D.int (k:Int)).filterMap λd=>match d with|.int i=>if q i.toNat then some (g i.toNat) else none|_=>none)=((List.range n).filter q).map g:=by
  rw[List.filterMap_map]
  induction List.range n with
  |nil=>rfl|cons a l ih=>by_cases e:q a=true<;>simp[e,ih]
 rw[this];rfl
def Va(hit:it.den W ρ M=.ok (.tup ds) M1)(hl:ds.length<=100000)(h:∀(i:Nat) (x:D),ds[i]?=some x->∃ρ1,t.put (.tup [.int i,x]) (ρ++List.replicate k none)=some ρ1/\c.den W ρ1 M1=.ok (.bl (q i)) M1/\(q i=true->e.den W ρ1 M1=.ok (g i) M1)) :
 (Ex.Ax v k t (.enm it) c e).den W ρ M=if v then .ok (.vl (((List.range ds.length).filter q).map g)) M1 else new (.lst (((List.range ds.length).filter q).map g)) M1:=by
 rw[Hk,Za,hit];simp only[Res.yo];rw[Ph (ds:=Al ds 0) (g:=λd=>match d with|.tup [.int i,_]=>if q i.toNat then some (g i.toNat) else none|_=>none) (by simpa[Al] using hl) (λx hx=>by
  obtain⟨i,hi,ei⟩:=ou hx;have hil:i<ds.length:=by simpa[Al] using hi
  have hx':x=.tup [.int i,ds[i]]:=by rw[<- ei];simp[Al]
  subst hx';obtain⟨ρ1,a,b,c⟩:=h i ds[i] (by simp[hil]);rw[a,Res.Aw,Res.yo,b,Res.yo];cases e:q i with
  | true=>simp[e,c e]|false=>simp[e])]
 have:((Al ds 0).filterMap λd=>match d with|.tup [.int i,_]=>if q i.toNat then some (g i.toNat) else none|_=>none)=((List.range ds.length).filter q).map g:=by
  have aux:∀(l:List D)(s:Nat),((Al l s).filterMap λd=>match d with|.tup [.int i,_]=>if q i.toNat then some (g i.toNat) else none|_=>none)=((List.range' s l.length).filter q).map g:=by
   intro l
   induction l with
   |nil=>intro s;rfl
   |cons a l ih =>
    intro s;have e1:Al (a::l) s=.tup [.int s,a]::Al l (s+1):=by simp[Al]
    rw[e1,gn,List.range'_succ]
    by_cases e:q s=true<;>simp[e,ih]
  rw[aux,List.range_eq_range']
 rw[this];rfl
theorem agc{fin:cu->Bool}{item:Nat->cu->Option D}{body:D->Env->cu->Res (Flow×Env)}(I:Nat->Env->cu->Prop)(Q7:Env->cu->Prop){n:Nat}
 (step:∀i ρ M,i<n->I i ρ M->∃d fl ρ' M',item i M=some d/\body d ρ M=.ok (fl,ρ') M'/\(((fl=.next\/fl=.cont)/\I (i+1) ρ' M')\/(fl=.brk/\Q7 ρ' M'))) (Om:∀ρ M,I n ρ M->fin M=true/\Q7 ρ M) :
 ∀(k i:Nat)(ρ:Env)(M:cu),i+k=n->I i ρ M->∃ρ' M',Bb fin item body k i ρ M=.ok (.next,ρ') M'/\Q7 ρ' M'
 |0,i,ρ,M,e,h=>by
  have q:i=n:=by lia
  rw[q] at h;exact⟨ρ,M,by simp[Bb,(Om ρ M h).1],(Om ρ M h).2⟩
 |k+1,i,ρ,M,e,h=>by
  obtain⟨d,fl,ρ1,M1,h1,h2,⟨h3,h4⟩|⟨rfl,h4⟩⟩:=step i ρ M (by lia) h
  . obtain⟨ρ2,M2,g1,g2⟩:=agc I Q7 step Om k (i+1) ρ1 M1 (by lia) h4
    refine⟨ρ2,M2,?_,g2⟩;rcases h3 with rfl|rfl<;>simp[Bb,h1,h2,g1]
  . exact⟨ρ1,M1,by simp[Bb,h1,h2],h4⟩
def abg(hit:it.den W ρ M=.ok (.int (n:Int)) M1)(hn:n<=100000)(I:Nat->Env->cu->Prop)(Q7:Env->cu->Prop)(h0:I 0 ρ M1)(hp:∀ρ M,I n ρ M->Q7 ρ M)(step:∀i ρ M,i<n->I i ρ M->∃ρ1 fl ρ' M',t.put (.int i) ρ=some ρ1/\b.den W ρ1 M=.ok (fl,ρ') M'/\(((fl=.next\/fl=.cont)/\I (i+1) ρ' M')\/(fl=.brk/\Q7 ρ' M'))) :
 ∃ρ' M',(Bg.for_ t (.Jz it) b).den W ρ M=.ok (.next,ρ') M'/\Q7 ρ' M':=by
 rw[Ni,Ng,hit];have Nf:((n:Int)).natAbs<=100000:=by lia
 simp only[Res.yo,Nf,ju,t8];obtain⟨ρ',M',e,h⟩:=agc (fin:=(Src.con ((List.range n).map λ(k:Nat)=>D.int (k:Int))).fin) (item:=(Src.con ((List.range n).map λ(k:Nat)=>D.int (k:Int))).item) (body:=λd ρ M=>(Res.uv (t.put d ρ) M).bind fun ρ' M=>b.den W ρ' M) I Q7 (n:=n) (λi ρ M hi h=>by
  obtain⟨ρ1,fl,ρ',M',a,b,c⟩:=step i ρ M hi h;exact⟨.int i,fl,ρ',M',by simp[Src.item,hi],by rw[a];exact b,c⟩) (fun ρ M h=>⟨rfl,hp ρ M h⟩) n 0 ρ M1 (uq _) h0
 have hl:(Src.con ((List.range n).map λ(k:Nat)=>D.int (k:Int))).len=n:=by simp[Src.len]
 rw[hl];exact⟨ρ',M',e,h⟩
def Zh(hit:it.den W ρ M=.ok (.int (n:Int)) M1)(hn:n<=100000)(I:Nat->List D->cu->Prop)(h0:I 0 [] M1)(step:∀i xs M,i<n->I i xs M->∃ρ1 x M',t.put (.int i) (ρ++List.replicate k none)=some ρ1/\e.den W ρ1 M=.ok x M'/\I (i+1) (xs++[x]) M') :
 ∃ys M',(Ex.comp v k t (.Jz it) e).den W ρ M=(if v then .ok (.vl ys) M' else new (.lst ys) M')/\I n ys M':=by
 rw[Ik,Ng,hit];have Nf:((n:Int)).natAbs<=100000:=by lia
 simp only[Res.yo,Nf,ju,t8];obtain⟨ys,M',g,h⟩:=Gj (fin:=(Src.con ((List.range n).map λ(k:Nat)=>D.int (k:Int))).fin) (item:=(Src.con ((List.range n).map λ(k:Nat)=>D.int (k:Int))).item) (body:=λd M=>(Res.uv (t.put d (ρ++List.replicate k none)) M).bind fun ρ' M=>(e.den W ρ' M).bind λx M'=>.ok (some x) M') I (n:=n) (λi xs M hi h=>by
  obtain⟨ρ1,x,M',a,b,c⟩:=step i xs M hi h;exact⟨.int i,some x,M',by simp[Src.item,hi],by rw[a];simp[b],by simpa using c⟩) (λ_ _ _=>rfl) n 0 [] M1 (uq _) h0
 have hl:(Src.con ((List.range n).map λ(k:Nat)=>D.int (k:Int))).len=n:=by simp[Src.len]
 refine⟨ys,M',?_,by simpa using h⟩;rw[zf,hl,cj hn,g];rfl
set_option tactic.hygienic true in
def Em(hit:it.den W ρ M=.ok d M1)(hd:fu M1 d=some ds)(hn:ds.length<=100000)(I:Nat->List D->cu->Prop)(h0:I 0 [] M1)(stay:∀i xs M,I i xs M->fu M d=some ds)(step:∀i y xs M,ds[i]?=some y->I i xs M->∃ρ1 x M',t.put y (ρ++List.replicate k none)=some ρ1/\e.den W ρ1 M=.ok x M'/\I (i+1) (xs++[x]) M') :
 ∃ys M',(Ex.comp v k t (.val it) e).den W ρ M=(if v then .ok (.vl ys) M' else new (.lst ys) M')/\I ds.length ys M':=by
 rw[Ik,Hj,hit];obtain⟨s,hs,hl,hi,hf⟩:∃s,srcOf M1 d=some s/\s.len=ds.length/\(∀M i,fu M d=some ds->s.item i M=ds[i]?)/\∀M,fu M d=some ds->s.fin M=true:=by
  cases d with
  |vl zs=>cases hd;exact⟨.con ds,rfl,rfl,λ_ _ _=>rfl,λ_ _=>rfl⟩
  |ref p =>
   have get:∀{M:cu},fu M (.ref p)=some ds->M[p]?=some (.lst ds):=fun{M} h=>by
    simp only[fu] at h;split at h
    . rename_i z;cases h;exact z
    . cases h
   refine⟨.live p ds.length,by simp[srcOf,get hd],rfl,λM i h=>by simp[Src.item,get h],λM h=>by simp[Src.fin,get h]⟩
  |_=>cases hd
 simp only[Res.yo,hs,Res.Aw];obtain⟨ys,M',g,h⟩:=Gj (fin:=s.fin) (item:=s.item) (body:=λd M=>(Res.uv (t.put d (ρ++List.replicate k none)) M).bind fun ρ' M=>(e.den W ρ' M).bind λx M'=>.ok (some x) M') I (n:=ds.length) (λi xs M Ig h=>by
  obtain⟨ρ1,x,M',a,b,c⟩:=step i ds[i] xs M (by simp[Ig]) h;exact⟨ds[i],some x,M',by rw[hi M i (stay i xs M h)];simp[Ig],by rw[a];simp[b],by simpa using c⟩) (λxs M h=>hf M (stay _ xs M h)) ds.length 0 [] M1 (uq _) h0
 refine⟨ys,M',?_,by simpa using h⟩;rw[zf,hl,cj hn,g];rfl
noncomputable abbrev Goes(I:Nat->Env->cu->Prop)(R:D->cu->Prop)(i:Nat)(r:Res (Flow×Env)):Prop:=∃fl ρ' M',r=.ok (fl,ρ') M'/\((fl=.next/\I i ρ' M')\/∃v,fl=.ret v/\R v M')
theorem agd{fin:cu->Bool}{item:Nat->cu->Option D}{body:D->Env->cu->Res (Flow×Env)}(I:Nat->Env->cu->Prop)(R:D->cu->Prop){n:Nat}
 (step:∀i ρ M,i<n->I i ρ M->∃d,item i M=some d/\Goes I R (i+1) (body d ρ M)) (hf:∀ρ M,I n ρ M->fin M=true) :
 ∀k i ρ M,i+k=n->I i ρ M->Goes I R n (Bb fin item body k i ρ M)
 |0,i,ρ,M,e,h=>by
  obtain rfl:i=n:=by lia
  exact⟨_,ρ,M,by simp[Bb,hf ρ M h],.inl ⟨rfl,h⟩⟩
 |k+1,i,ρ,M,e,h=>by
  obtain⟨d,h1,fl,ρ',M',h2,⟨rfl,h4⟩|⟨v,rfl,h4⟩⟩:=step i ρ M (by lia) h
  . have:=agd I R step hf k (i+1) ρ' M' (by lia) h4
    simpa[Bb,h1,h2] using this
  . exact⟨.ret v,ρ',M',by simp[Bb,h1,h2],.inr ⟨v,rfl,h4⟩⟩
section
variable{W:Ib}{ρ:Env}{M M1:cu}{t:Tg}{b:m7}
def Nj{it:Og}{s:Src}{n:Nat}(hit:it.den W ρ M=.ok s M1)(hn:s.len=n)(I:Nat->Env->cu->Prop)(R:D->cu->Prop)(h0:I 0 ρ M1)(hf:∀ρ M,I n ρ M->s.fin M=true)
 (step:∀i ρ M,i<n->I i ρ M->∃d ρ1,s.item i M=some d/\t.put d ρ=some ρ1/\Goes I R (i+1) (b.den W ρ1 M)):Goes I R n ((Bg.for_ t it b).den W ρ M):=by
 rw[Ni,hit,Res.yo,hn];exact agd I R (λi ρ M hi h=>by
  obtain⟨d,ρ1,a,b,c⟩:=step i ρ M hi h;exact⟨d,a,by rw[b];exact c⟩) hf n 0 ρ M1 (uq n) h0
end
end MW
namespace K55
open MW
noncomputable def Il:m7:=.c (.expr (.call 9 (.p (.v 1) (.v 2)))) (.c (.expr (.call 10 (.p (.v 2) (.v 3)))) (.c (.expr (.call 11 (.p (.v 2) (.v 3)))) (.q (.asg (.fld (.v 0) 2) (.v 1)) (.asg (.fld (.v 0) 1) (.v 2)) (.asg (.fld (.v 0) 0) (.blt .dict (.o (.v 3)))))))
noncomputable def Im:Fn:=⟨4,4,Il⟩
noncomputable def Tz:m7:=.o (.ret (.fld (.v 0) 2))
noncomputable def T3:Fn:=⟨1,1,Tz⟩
noncomputable def Q8:m7:=.o (.ret (.fld (.v 0) 1))
noncomputable def Q9:Fn:=⟨1,1,Q8⟩
noncomputable def Ra:m7:=.o (.expr (.call 21 (.o (.i 0))))
noncomputable def Rb:Fn:=⟨3,3,Ra⟩
noncomputable def Dt:Ex:=.Ax true 2 (.names [2,3]) (.enm (.fld (.v 0) 1)) (.cmp .eq (.ix (.v 3) (.i 0)) (.v 1)) (.v 2)
noncomputable def Ky:m7:=.o (.ret (.bin .ais (.Fz (.o (.i (-1)))) Dt))
noncomputable def Kz:Fn:=⟨2,2,Ky⟩
noncomputable def Hv:m7:=.p (.f (.cmp .eq (.v 2) (.i (-1))) (.o (.ret (.v 1)))) (.ret (.ix (.ix (.fld (.v 0) 1) (.v 2)) (.i 1)))
noncomputable def Hw:Fn:=⟨3,3,Hv⟩
noncomputable def Hl:m7:=.q (.f (.cmp .eq (.v 1) (.i (-1))) (.o (.ret (.v 2)))) (.f (.cmp .eq (.v 2) (.i (-1))) (.o (.ret (.v 1)))) (.ret (.ix (.v 0) (.tup (.p (.v 1) (.v 2)))))
noncomputable def Hm:Fn:=⟨3,3,Hl⟩
noncomputable def Ao:m7:=.o (.f (.cmp .eq (.ix (.v 3) (.i 1)) (.ix (.v 5) (.i 0))) (.o (.expr (.bm .append (.v 1) (.o (.tup (.p (.v 2) (.v 4))))))))
noncomputable def Hn:Bg:=.for_ (.names [4,5]) (.enm (.v 0)) Ao
noncomputable def Cy:m7:=.o Hn
noncomputable def Ho:Bg:=.for_ (.names [2,3]) (.enm (.v 0)) Cy
noncomputable def J0:m7:=.q (.a 1 (.lst .z)) Ho (.ret (.v 1))
noncomputable def J1:Fn:=⟨1,6,J0⟩
noncomputable def Du:m7:=.p (.f (.cmp .eq (.v 1) (.i (-1))) (.o (.ret (.cmp .eq (.v 2) (.v 3))))) (.ret (.and (.chain .le .lt (.i 0) (.v 1) (.l (.v 0))) (.cmp .eq (.ix (.v 0) (.v 1)) (.tup (.p (.v 2) (.v 3))))))
noncomputable def Dw:Fn:=⟨4,4,Du⟩
noncomputable def Dy:m7:=.o (.f (.not (.and (.chain .le .lt (.i 0) (.ix (.v 2) (.i 0)) (.v 0)) (.chain .le .lt (.i 0) (.ix (.v 2) (.i 1)) (.v 0)))) (.o (.raise 1 (.o (.cst (.str (PySem.Str.ofString "a doing is from a kind to a kind")))))))
noncomputable def Ip:Bg:=.for_ (.name 2) (.val (.v 1)) Dy
noncomputable def K1:m7:=.q (.f (.not (.chain .le .le (.i 1) (.v 0) (.i 3))) (.o (.raise 1 (.o (.cst (.str (PySem.Str.ofString "a pattern has one to three kinds"))))))) (.f (.cmp .gt (.l (.v 1)) (.i 5)) (.o (.raise 1 (.o (.cst (.str (PySem.Str.ofString "a pattern has at most five doings"))))))) Ip
noncomputable def K3:Fn:=⟨2,3,K1⟩
noncomputable def Ez:m7:=.o (.f (.not (.call 8 (.c (.v 0) (.q (.ix (.v 1) (.tup (.p (.v 3) (.v 4)))) (.ix (.ix (.v 0) (.v 3)) (.i 0)) (.ix (.ix (.v 0) (.v 4)) (.i 1)))))) (.o (.raise 1 (.o (.cst (.str (PySem.Str.ofString "two doings come to a way of their own ends")))))))
noncomputable def J2:Bg:=.for_ (.names [3,4]) (.val (.v 2)) Ez
noncomputable def Nv:m7:=.q (.a 2 (.call 7 (.o (.v 0)))) (.f (.U6 (.v 1) (.v 2)) (.o (.raise 1 (.o (.cst (.str (PySem.Str.ofString "a table tells of just the pairs of doings that meet"))))))) J2
noncomputable def Nx:Fn:=⟨2,5,Nv⟩
noncomputable def Bu:m7:=.c (.f (.cmp .O7 (.tup (.p (.v 4) (.v 5))) (.v 1)) (.o .cont)) (.q (.a 6 (.call 6 (.q (.v 1) (.ix (.v 1) (.tup (.p (.v 3) (.v 4)))) (.v 5)))) (.a 7 (.call 6 (.q (.v 1) (.v 3) (.ix (.v 1) (.tup (.p (.v 4) (.v 5))))))) (.f (.cmp .ne (.v 6) (.v 7)) (.o (.raise 1 (.o (.cst (.str (PySem.Str.ofString "three doings come to one way, however they are taken together"))))))))
noncomputable def Ir:Bg:=.for_ (.name 5) (.Jz (.l (.v 0))) Bu
noncomputable def Dz:m7:=.o Ir
noncomputable def Iu:Bg:=.for_ (.names [3,4]) (.val (.v 2)) Dz
noncomputable def K4:m7:=.p (.a 2 (.call 7 (.o (.v 0)))) Iu
noncomputable def K5:Fn:=⟨2,8,K4⟩
noncomputable def Gk:m7:=.p (.f (.cmp .lt (.v 1) (.l (.v 0))) (.o (.ret (.ix (.v 0) (.v 1))))) (.ret (.i 0))
noncomputable def Gm:Fn:=⟨2,2,Gk⟩
noncomputable def Ji:m7:=.q (.a 2 (.call 12 (.p (.v 0) (.v 1)))) (.f (.cmp .ge (.v 2) (.bin .pow (.i 10) (.i 18))) (.o (.ret (.lst (.p (.bin .sub (.v 2) (.bin .pow (.i 10) (.i 18))) (.cst (.bl true))))))) (.ret (.lst (.p (.bin .mod (.v 2) (.i 2147483647)) (.cst (.bl false)))))
noncomputable def Jj:Fn:=⟨2,3,Ji⟩
noncomputable def K6:m7:=.c (.f (.ix (.v 0) (.i 1)) (.q (.a 2 (.bin .mod (.ix (.v 0) (.i 0)) (.v 1))) (.asg (.sub (.v 0) (.i 0)) (.bin .fdiv (.ix (.v 0) (.i 0)) (.v 1))) (.ret (.v 2)))) (.c (.asg (.sub (.v 0) (.i 0)) (.bin .mod (.bin .add (.bin .mul (.ix (.v 0) (.i 0)) (.i 48271)) (.i 29)) (.i 2147483647))) (.q (.a 3 (.bin .mod (.bin .add (.bin .add (.bin .mul (.ix (.v 0) (.i 0)) (.ix (.v 0) (.i 0))) (.bin .mul (.i 39373) (.ix (.v 0) (.i 0)))) (.i 7)) (.i 2147483629))) (.a 3 (.bin .mod (.bin .add (.bin .mul (.v 3) (.v 3)) (.bin .mul (.i 16807) (.v 3))) (.i 2147483587))) (.ret (.bin .mod (.bin .fdiv (.v 3) (.i 8)) (.v 1)))))
noncomputable def K7:Fn:=⟨2,4,K6⟩
noncomputable def Gn:Ex:=.comp true 1 (.name 12) (.Jz (.ix (.v 7) (.v 10))) (.call 14 (.p (.v 0) (.ix (.v 7) (.v 11))))
noncomputable def Cz:m7:=.q (.a 10 (.call 14 (.p (.v 0) (.v 6)))) (.a 11 (.call 14 (.p (.v 0) (.v 6)))) (.expr (.bm .append (.v 8) (.o (.tup (.q (.v 10) (.v 11) (.blt .tuple (.o Gn)))))))
noncomputable def Gp:Bg:=.for_ (.name 9) (.Jz (.call 14 (.p (.v 0) (.i 4)))) Cz
noncomputable def Gq:Ex:=.comp true 1 (.name 12) (.Jz (.v 6)) (.bin .add (.i 1) (.call 14 (.p (.v 0) (.i 3))))
noncomputable def Jk:m7:=.c (.a 1 (.call 14 (.p (.v 0) (.i 12)))) (.c (.f (.cmp .lt (.v 1) (.i 7)) (.c (.a 2 (.Fz (.p (.tup (.q (.i 0) (.i 1) (.tup (.p (.i 0) (.i 1))))) (.tup (.q (.i 0) (.i 1) (.tup (.p (.i 1) (.i 0)))))))) (.c (.a 3 (.Fz (.q (.tup (.q (.i 0) (.i 1) (.tup (.c (.i 0) (.q (.i 0) (.i 1) (.i 1)))))) (.tup (.q (.i 0) (.i 1) (.tup (.c (.i 0) (.q (.i 1) (.i 0) (.i 1)))))) (.tup (.q (.i 1) (.i 0) (.tup (.p (.i 0) (.i 3)))))))) (.q (.a 4 (.Fz (.o (.tup (.q (.i 0) (.i 0) (.tup (.p (.i 1) (.i 0)))))))) (.a 5 (.Fz (.c (.v 2) (.c (.v 3) (.c (.v 4) (.c (.Fz (.o (.tup (.q (.i 0) (.i 0) (.tup (.q (.i 1) (.i 2) (.i 0))))))) (.q (.Fz (.o (.tup (.q (.i 0) (.i 0) (.tup (.p (.i 0) (.i 0))))))) (.Fz .z) (.Fz (.p (.tup (.q (.i 0) (.i 1) (.tup (.p (.i 0) (.i 1))))) (.tup (.q (.i 1) (.i 2) (.tup (.q (.i 0) (.i 0) (.i 1)))))))))))))) (.ret (.ix (.v 5) (.v 1))))))) (.c (.a 6 (.bin .add (.i 1) (.call 14 (.p (.v 0) (.i 3))))) (.c (.a 7 Gq) (.q (.a 8 (.lst .z)) Gp (.ret (.v 8))))))
noncomputable def Bv:Fn:=⟨1,12,Jk⟩
noncomputable def Fb:Ex:=.comp true 1 (.name 10) (.val (.ix (.v 7) (.i 2))) (.ix (.ix (.v 8) (.i 2)) (.v 10))
noncomputable def Bc:m7:=.c (.a 4 (.tup .z)) (.q (.f (.cmp .eq (.ix (.v 7) (.i 1)) (.ix (.v 8) (.i 0))) (.o (.a 4 (.blt .tuple (.o Fb))))) (.a 9 (.tup (.q (.ix (.v 7) (.i 0)) (.ix (.v 8) (.i 1)) (.v 4)))) (.f (.and (.cmp .ne (.v 4) (.tup .z)) (.and (.cmp .O7 (.v 9) (.v 1)) (.or (.cmp .ne (.ix (.v 9) (.i 0)) (.ix (.v 9) (.i 1))) (.cmp .ne (.v 4) (.aem (.l (.v 4))))))) (.o (.expr (.bm .append (.v 1) (.o (.v 9)))))))
noncomputable def Fe:Bg:=.for_ (.names [7,8]) (.val (.Fz (.p (.tup (.p (.ix (.v 1) (.v 5)) (.ix (.v 1) (.v 6)))) (.tup (.p (.ix (.v 1) (.v 6)) (.ix (.v 1) (.v 5))))))) Bc
noncomputable def Ff:m7:=.o Fe
noncomputable def Fi:Bg:=.for_ (.name 6) (.Jz (.l (.v 1))) Ff
noncomputable def J5:m7:=.p Fi (.a 5 (.bin .add (.v 5) (.i 1)))
noncomputable def Fj:Bg:=.whl (.and (.cmp .lt (.v 5) (.l (.v 1))) (.cmp .lt (.l (.v 1)) (.i 6))) J5
noncomputable def yu:m7:=.o (.f (.and (.or (.cmp .ne (.v 2) (.v 3)) (.cmp .ne (.v 4) (.aem (.l (.v 4))))) (.cmp .O7 (.tup (.q (.v 2) (.v 3) (.v 4))) (.v 1))) (.o (.expr (.bm .append (.v 1) (.o (.tup (.q (.v 2) (.v 3) (.v 4))))))))
noncomputable def Fl:Bg:=.for_ (.names [2,3,4]) (.val (.v 0)) yu
noncomputable def Ny:m7:=.c (.a 1 (.lst .z)) (.c Fl (.q (.a 5 (.i 0)) Fj (.ret (.v 1))))
noncomputable def Nz:Fn:=⟨1,10,Ny⟩
noncomputable def Ea:Ex:=.comp true 3 (.names [8,9,10]) (.val (.v 2)) (.tup (.p (.v 8) (.v 9)))
noncomputable def Eb:Ex:=.comp true 1 (.name 8) (.val (.ix (.ix (.v 2) (.v 5)) (.i 2))) (.ix (.ix (.ix (.v 2) (.v 6)) (.i 2)) (.v 8))
noncomputable def Ag:m7:=.o (.f (.cmp .eq (.ix (.ix (.v 2) (.v 5)) (.i 1)) (.ix (.ix (.v 2) (.v 6)) (.i 0))) (.p (.a 7 (.tup (.q (.ix (.ix (.v 2) (.v 5)) (.i 0)) (.ix (.ix (.v 2) (.v 6)) (.i 1)) (.blt .tuple (.o Eb))))) (.asg (.sub (.v 4) (.tup (.p (.v 5) (.v 6)))) (.ite (.cmp .inn (.v 7) (.v 2)) (.bm .index (.v 2) (.o (.v 7))) (.neg (.i 1))))))
noncomputable def Iv:Bg:=.for_ (.name 6) (.Jz (.l (.v 2))) Ag
noncomputable def Ec:m7:=.o Iv
noncomputable def Ed:Bg:=.for_ (.name 5) (.Jz (.l (.v 2))) Ec
noncomputable def Ef:Ex:=.comp true 3 (.names [8,9,10]) (.val (.v 2)) (.blt .max (.p (.v 8) (.v 9)))
noncomputable def Iw:m7:=.p (.a 1 (.cut (.v 1) .none (.some (.neg (.i 1))))) (.a 2 (.call 16 (.o (.v 1))))
noncomputable def Eg:Bg:=.whl (.cmp .gt (.l (.v 2)) (.i 5)) Iw
noncomputable def K8:m7:=.c (.a 1 (.call 15 (.o (.v 0)))) (.c (.a 2 (.call 16 (.o (.v 1)))) (.c Eg (.c (.a 3 (.bin .add (.i 1) (.blt .max (.o (.bin .add Ef (.Fz (.o (.i 0)))))))) (.c (.f (.cmp .eq (.v 2) (.Fz .z)) (.o (.a 3 (.bin .add (.i 1) (.call 14 (.p (.v 0) (.i 3))))))) (.q (.a 4 .aa9) Ed (.ret (.tup (.q (.v 3) (.blt .tuple (.o Ea)) (.v 4)))))))))
noncomputable def K9:Fn:=⟨1,8,K8⟩
noncomputable def Hx:Ex:=.Ax true 1 (.name 2) (.Jz (.l (.ix (.v 0) (.i 1)))) (.cmp .eq (.ix (.ix (.ix (.v 0) (.i 1)) (.v 2)) (.i 0)) (.v 1)) (.v 2)
noncomputable def Su:m7:=.o (.ret (.bin .add (.Fz (.o (.neg (.i 1)))) Hx))
noncomputable def Sv:Fn:=⟨2,2,Su⟩
noncomputable def Oo:m7:=.o (.ret (.ite (.cmp .lt (.v 2) (.i 0)) (.v 1) (.ix (.ix (.ix (.v 0) (.i 1)) (.v 2)) (.i 1))))
noncomputable def Oq:Fn:=⟨3,3,Oo⟩
noncomputable def Eo:m7:=.p (.f (.or (.cmp .lt (.v 1) (.i 0)) (.cmp .lt (.v 2) (.i 0))) (.o (.ret (.bin .add (.bin .add (.v 1) (.v 2)) (.i 1))))) (.ret (.ix (.ix (.v 0) (.i 2)) (.tup (.p (.v 1) (.v 2)))))
noncomputable def Ep:Fn:=⟨3,3,Eo⟩
noncomputable def aiz:m7:=.o .pass
noncomputable def ai0:Bg:=.whl (.cst (.bl true)) aiz
noncomputable def arv:m7:=.o ai0
noncomputable def arw:Fn:=⟨1,1,arv⟩
noncomputable def al2:m7:=.p (.f (.cmp .eq (.v 2) (.i (-1))) (.o (.ret (.v 1)))) (.ret (.ix (.ix (.ix (.v 0) (.i 1)) (.v 2)) (.v 1)))
noncomputable def al3:Fn:=⟨3,3,al2⟩
noncomputable def Rc:Ex:=.comp true 1 (.name 4) (.Jz (.v 3)) (.tup (.p (.v 2) (.v 4)))
noncomputable def Rf:m7:=.o (.expr (.bm .extend (.v 1) (.o Rc)))
noncomputable def Xo:Bg:=.for_ (.names [2,3]) (.enm (.ix (.v 0) (.i 0))) Rf
noncomputable def age:m7:=.q (.a 1 (.lst .z)) Xo (.ret (.v 1))
noncomputable def agf:Fn:=⟨1,4,age⟩
noncomputable def La:Ex:=.comp true 1 (.name 4) (.val (.meth (.v 0) 3 (.o (.v 3)))) (.tup (.p (.meth (.v 0) 4 (.p (.v 3) (.v 4))) (.call 22 (.q (.v 1) (.ix (.v 2) (.i 1)) (.v 4)))))
noncomputable def Xp:m7:=.p (.a 3 (.ix (.v 2) (.i 0))) (.ret La)
noncomputable def Xq:Fn:=⟨3,4,Xp⟩
noncomputable def Lb:Ex:=.Ax true 1 (.name 5) (.Jz (.v 4)) (.cmp .inn (.tup (.p (.v 3) (.v 5))) (.v 1)) (.v 5)
noncomputable def Ld:m7:=.o (.expr (.bm .append (.v 2) (.o (.blt .tuple (.o Lb)))))
noncomputable def Sw:Bg:=.for_ (.names [3,4]) (.enm (.ix (.v 0) (.i 0))) Ld
noncomputable def Xr:m7:=.q (.a 2 (.lst .z)) Sw (.ret (.blt .tuple (.o (.v 2))))
noncomputable def Xu:Fn:=⟨2,5,Xr⟩
noncomputable def Vb:m7:=.o (.asg (.sub (.v 3) (.v 5)) (.cst (.bl true)))
noncomputable def Vc:Bg:=.for_ (.name 5) (.val (.call 24 (.q (.v 0) (.v 1) (.v 4)))) Vb
noncomputable def Vd:m7:=.o Vc
noncomputable def Lf:Bg:=.for_ (.name 4) (.val (.v 2)) Vd
noncomputable def Pj:m7:=.q (.a 3 .aa9) Lf (.ret (.call 25 (.p (.v 1) (.v 3))))
noncomputable def Pk:Fn:=⟨3,6,Pj⟩
noncomputable def Rg:Ex:=.comp true 1 (.name 7) (.val (.v 6)) (.call 28 (.p (.v 7) (.v 3)))
noncomputable def Rh:Ex:=.Ax true 1 (.name 7) (.val (.call 24 (.q (.v 0) (.v 1) (.v 5)))) (.call 28 (.p (.v 7) (.v 2))) (.v 7)
noncomputable def Iz:m7:=.p (.a 6 Rh) (.f (.blt .all (.o Rg)) (.o (.asg (.sub (.v 4) (.v 5)) (.cst (.bl true)))))
noncomputable def Xv:Bg:=.for_ (.name 5) (.val (.call 23 (.o (.v 1)))) Iz
noncomputable def agg:m7:=.q (.a 4 .aa9) Xv (.ret (.call 25 (.p (.v 1) (.v 4))))
noncomputable def agh:Fn:=⟨4,7,agg⟩
noncomputable def Xw:m7:=.o (.ret (.cmp .inn (.ix (.v 0) (.i 1)) (.ix (.v 1) (.ix (.v 0) (.i 0)))))
noncomputable def Xx:Fn:=⟨2,2,Xw⟩
noncomputable def agi:m7:=.o (.ret (.call 27 (.c (.v 0) (.q (.v 1) (.v 2) (.call 26 (.q (.v 0) (.v 1) (.Fz .z)))))))
noncomputable def agj:Fn:=⟨3,3,agi⟩
noncomputable def J6:Ex:=.comp true 1 (.name 13) (.val (.ix (.v 1) (.v 6))) (.ite (.cmp .eq (.v 13) (.v 12)) (.v 11) (.v 13))
noncomputable def Bd:m7:=.c (.a 9 (.ix (.ix (.v 1) (.v 5)) (.v 8))) (.q (.a 10 (.ix (.ix (.v 1) (.v 6)) (.ix (.ix (.v 2) (.v 4)) (.v 8)))) (.f (.cmp .ne (.bm .get (.v 7) (.p (.v 9) (.v 10))) (.v 10)) (.c (.a 11 (.blt .min (.p (.ix (.v 7) (.v 9)) (.v 10)))) (.c (.a 12 (.blt .max (.p (.ix (.v 7) (.v 9)) (.v 10)))) (.c (.asg (.sub (.v 1) (.v 6)) J6) (.q (.a 3 (.cst (.bl true))) (.a 7 .aek) .brk))))) (.asg (.sub (.v 7) (.v 9)) (.v 10)))
noncomputable def J7:Bg:=.for_ (.name 8) (.Jz (.l (.ix (.v 1) (.v 5)))) Bd
noncomputable def Cg:m7:=.q (.asg (.tg (.names [5,6])) (.ix (.ix (.v 0) (.i 1)) (.v 4))) (.a 7 .aek) J7
noncomputable def J8:Bg:=.for_ (.name 4) (.Jz (.l (.ix (.v 0) (.i 1)))) Cg
noncomputable def Fo:m7:=.p (.a 3 (.cst (.bl false))) J8
noncomputable def Fp:Bg:=.whl (.v 3) Fo
noncomputable def N5:m7:=.q (.a 3 (.cst (.bl true))) Fp (.ret (.v 1))
noncomputable def N6:Fn:=⟨3,13,N5⟩
noncomputable def Gr:Ex:=.comp true 1 (.name 19) (.val (.v 16)) (.l (.v 19))
noncomputable def Gu:Ex:=.comp true 1 (.name 19) (.val (.v 18)) (.bm .index (.ix (.v 16) (.v 12)) (.o (.v 19)))
noncomputable def Gv:Ex:=.comp true 1 (.name 19) (.val (.ix (.v 16) (.v 11))) (.ix (.ix (.v 13) (.v 12)) (.ix (.ix (.v 9) (.v 10)) (.v 19)))
noncomputable def Dc:m7:=.q (.asg (.tg (.names [11,12])) (.ix (.ix (.v 1) (.i 1)) (.v 10))) (.a 18 Gv) (.expr (.bm .append (.v 17) (.o (.blt .tuple (.o Gu)))))
noncomputable def Lg:Bg:=.for_ (.name 10) (.Jz (.l (.ix (.v 1) (.i 1)))) Dc
noncomputable def Gw:Ex:=.comp true 1 (.name 19) (.val (.v 13)) (.blt .Ce (.o (.v 19)))
noncomputable def Lh:Ex:=.comp true 1 (.name 19) (.val (.ix (.v 13) (.v 5))) (.ite (.cmp .eq (.v 19) (.v 15)) (.v 14) (.v 19))
noncomputable def Bl:m7:=.c (.a 5 (.call 14 (.p (.v 0) (.ix (.v 1) (.i 0))))) (.q (.a 11 (.call 14 (.p (.v 0) (.i 7)))) (.a 12 (.call 14 (.p (.v 0) (.i 7)))) (.f (.cmp .lt (.blt .max (.p (.v 11) (.v 12))) (.l (.ix (.v 13) (.v 5)))) (.c (.a 14 (.blt .min (.p (.ix (.ix (.v 13) (.v 5)) (.v 11)) (.ix (.ix (.v 13) (.v 5)) (.v 12))))) (.q (.a 15 (.blt .max (.p (.ix (.ix (.v 13) (.v 5)) (.v 11)) (.ix (.ix (.v 13) (.v 5)) (.v 12))))) (.asg (.sub (.v 13) (.v 5)) Lh) (.a 13 (.call 30 (.q (.v 1) (.v 13) (.v 9))))))))
noncomputable def Li:Bg:=.for_ (.name 10) (.Jz (.call 14 (.p (.v 0) (.i 4)))) Bl
noncomputable def Gx:Ex:=.comp false 1 (.name 19) (.val (.v 3)) (.aen (.l (.v 19)))
noncomputable def Gy:Ex:=.comp true 3 (.names [19,20,21]) (.val (.ix (.v 3) (.v 11))) (.bm .index (.ix (.v 3) (.v 12)) (.o (.tup (.q (.v 19) (.v 20) (.call 20 (.q (.v 1) (.v 21) (.v 10)))))))
noncomputable def Gz:m7:=.p (.asg (.tg (.names [11,12])) (.ix (.ix (.v 1) (.i 1)) (.v 10))) (.expr (.bm .append (.v 9) (.o Gy)))
noncomputable def Lj:Bg:=.for_ (.name 10) (.Jz (.l (.ix (.v 1) (.i 1)))) Gz
noncomputable def G3:Ex:=.comp true 1 (.name 19) (.val (.v 3)) (.l (.v 19))
noncomputable def Dd:m7:=.o (.expr (.bm .append (.ix (.v 3) (.v 7)) (.o (.tup (.q (.v 4) (.v 5) (.v 8))))))
noncomputable def Ln:Bg:=.for_ (.names [7,8]) (.val (.v 6)) Dd
noncomputable def G4:Ex:=.comp true 1 (.name 19) (.val (.call 18 (.p (.v 1) (.v 5)))) (.tup (.p (.call 19 (.q (.v 1) (.v 5) (.v 19))) (.v 19)))
noncomputable def Bo:m7:=.q (.a 5 (.call 14 (.p (.v 0) (.ix (.v 1) (.i 0))))) (.a 6 G4) (.f (.cmp .lt (.bin .add (.blt .max (.o G3)) (.l (.v 6))) (.i 8)) (.o Ln))
noncomputable def Lp:Bg:=.for_ (.name 4) (.Jz (.call 14 (.p (.v 0) (.bin .add (.v 2) (.i 1))))) Bo
noncomputable def J9:Ex:=.comp true 1 (.name 19) (.Jz (.ix (.v 1) (.i 0))) (.lst .z)
noncomputable def Pn:m7:=.c (.a 3 J9) (.c Lp (.c (.a 9 (.lst .z)) (.c Lj (.c (.a 13 Gx) (.c Li (.c (.a 16 Gw) (.q (.a 17 (.lst .z)) Lg (.ret (.tup (.p (.blt .tuple (.o Gr)) (.blt .tuple (.o (.v 17)))))))))))))
noncomputable def Pq:Fn:=⟨3,19,Pn⟩
noncomputable def Ot:m7:=.p (.f (.cmp .lt (.v 2) (.i 0)) (.o (.ret (.v 1)))) (.ret (.ix (.ix (.ix (.v 0) (.i 1)) (.v 2)) (.v 1)))
noncomputable def Ou:Fn:=⟨3,3,Ot⟩
noncomputable def Hy:Ex:=.comp true 2 (.names [2,3]) (.zip (.p (.v 0) (.v 1))) (.call 33 (.p (.v 2) (.v 3)))
noncomputable def Lq:m7:=.p (.f (.blt .isSeq (.o (.v 1))) (.q (.f (.or (.cmp .ne (.blt .isTuple (.o (.v 0))) (.blt .isTuple (.o (.v 1)))) (.cmp .ne (.blt .isList (.o (.v 0))) (.blt .isList (.o (.v 1))))) (.o (.ret (.cst (.bl false))))) (.f (.cmp .ne (.l (.v 0)) (.l (.v 1))) (.o (.ret (.cst (.bl false))))) (.ret (.blt .all (.o Hy))))) (.ret (.and (.cmp .eq (.v 0) (.v 1)) (.cmp .eq (.blt .isBool (.o (.v 0))) (.blt .isBool (.o (.v 1))))))
noncomputable def Lr:Fn:=⟨2,2,Lq⟩
noncomputable def Ls:Ex:=.comp true 1 (.name 8) (.val (.v 3)) (.blt .tuple (.o (.blt .Ce (.o (.v 8)))))
noncomputable def G5:m7:=.o (.expr (.bm .append (.ix (.v 3) (.call 19 (.q (.v 1) (.v 5) (.v 7)))) (.o (.call 32 (.q (.v 2) (.v 6) (.v 7))))))
noncomputable def Lw:Bg:=.for_ (.name 7) (.val (.call 18 (.p (.v 1) (.v 5)))) G5
noncomputable def De:m7:=.q (.a 5 (.call 14 (.p (.v 0) (.ix (.v 1) (.i 0))))) (.a 6 (.call 14 (.p (.v 0) (.i 8)))) (.f (.cmp .lt (.v 6) (.ix (.ix (.v 2) (.i 0)) (.v 5))) (.o Lw))
noncomputable def Lx:Bg:=.for_ (.name 4) (.Jz (.call 14 (.p (.v 0) (.i 4)))) De
noncomputable def Ly:Ex:=.comp true 1 (.name 8) (.Jz (.ix (.v 1) (.i 0))) (.lst .z)
noncomputable def Pr:m7:=.q (.a 3 Ly) Lx (.ret (.blt .tuple (.o Ls)))
noncomputable def Pu:Fn:=⟨3,8,Pr⟩
noncomputable def Hz:Ex:=.Ax true 1 (.name 6) (.val (.v 5)) (.cmp .inn (.call 32 (.q (.v 1) (.v 4) (.v 6))) (.ix (.v 2) (.call 19 (.q (.v 0) (.v 3) (.v 6))))) (.v 6)
noncomputable def Sx:m7:=.p (.a 5 (.call 18 (.p (.v 0) (.v 3)))) (.ret (.blt .tuple (.o Hz)))
noncomputable def Sy:Fn:=⟨5,6,Sx⟩
noncomputable def G6:Ex:=.Ax true 1 (.name 9) (.val (.call 35 (.c (.v 0) (.c (.v 1) (.q (.v 2) (.v 5) (.v 7)))))) (.cmp .O7 (.v 9) (.v 8)) (.v 9)
noncomputable def Bp:m7:=.p (.a 8 (.call 35 (.c (.v 0) (.c (.v 1) (.q (.v 3) (.v 5) (.v 7)))))) (.f (.cmp .eq G6 (.Fz .z)) (.o (.expr (.bm .append (.v 6) (.o (.v 7))))))
noncomputable def Lz:Bg:=.for_ (.name 7) (.Jz (.ix (.ix (.v 1) (.i 0)) (.v 5))) Bp
noncomputable def G7:m7:=.q (.a 6 (.lst .z)) Lz (.expr (.bm .append (.v 4) (.o (.blt .tuple (.o (.v 6))))))
noncomputable def Ma:Bg:=.for_ (.name 5) (.Jz (.ix (.v 0) (.i 0))) G7
noncomputable def Px:m7:=.q (.a 4 (.lst .z)) Ma (.ret (.blt .tuple (.o (.v 4))))
noncomputable def Py:Fn:=⟨4,9,Px⟩
noncomputable def Uh:m7:=.o (.f (.not (.call 33 (.p (.call 27 (.c (.v 3) (.q (.v 7) (.v 10) (.v 11)))) (.call 36 (.c (.v 2) (.q (.v 7) (.v 10) (.v 11))))))) (.o (.ret (.cst (.bl false)))))
noncomputable def agk:Bg:=.for_ (.names [10,11]) (.val (.Fz (.c (.tup (.p (.v 8) (.v 9))) (.q (.tup (.p (.v 9) (.v 8))) (.tup (.p (.v 8) (.v 8))) (.tup (.p (.v 8) (.v 5))))))) Uh
noncomputable def Ui:m7:=.c (.a 8 (.call 34 (.q (.v 1) (.v 2) (.v 7)))) (.q (.a 9 (.call 34 (.q (.v 1) (.v 2) (.v 7)))) agk (.f (.not (.call 33 (.p (.call 29 (.q (.v 3) (.v 7) (.v 9))) (.call 36 (.c (.v 2) (.q (.v 7) (.v 9) (.v 5))))))) (.o (.ret (.cst (.bl false))))))
noncomputable def agl:Bg:=.for_ (.name 7) (.val (.v 4)) Ui
noncomputable def Zi:m7:=.o agl
noncomputable def agm:Bg:=.for_ (.name 6) (.Jz (.i 4)) Zi
noncomputable def Zj:Ex:=.comp true 1 (.name 12) (.Jz (.ix (.v 2) (.i 0))) (.tup .z)
noncomputable def av8:m7:=.c (.a 1 (.call 13 (.p (.v 0) (.i 0)))) (.c (.a 2 (.call 17 (.o (.v 1)))) (.c (.a 3 (.make 2 (.q (.ix (.v 2) (.i 0)) (.ix (.v 2) (.i 1)) (.blt .dict (.o (.ix (.v 2) (.i 2))))))) (.c (.a 4 (.Fz (.p (.call 31 (.q (.v 1) (.v 2) (.i 3))) (.call 31 (.q (.v 1) (.v 2) (.i 3)))))) (.q (.a 5 (.blt .tuple (.o Zj))) agm (.ret (.cst (.bl true)))))))
noncomputable def al4:Fn:=⟨1,12,av8⟩
noncomputable def prog:Prog:=⟨[Im,T3,Q9,Rb,Kz,Hw,Hm,J1,Dw,K3,Nx,K5,Gm,Jj,K7,Bv,Nz,K9,Sv,Oq,Ep,arw,al3,agf,Xq,Xu,Pk,agh,Xx,agj,N6,Pq,Ou,Lr,Pu,Sy,Py,al4],[⟨0,[]⟩,⟨0,[]⟩,⟨0,[(0,1),(1,2),(2,3),(3,4),(4,5)]⟩]⟩
set_option genInjectivity true in
structure F where
 a:Nat
 b:Nat
 r:List Nat
 deriving DecidableEq
noncomputable def nD(x:Nat):D:=.int (x:Int)
noncomputable def Dk(r:Y3):D:=.tup (r.map nD)
noncomputable def F.toD(f:F):D:=.tup [.int f.a,.int f.b,Dk f.r]
def agn(x y:Nat):decide ((x:Int)=(y:Int))=decide (x=y):=by
 by_cases h:x=y
 . simp[h]
 . have:¬((x:Int)=(y:Int)):=by lia
   simp[h,this]
def Jl(M:cu)(n x y:Nat):Km M (n+1) (.int x) (.int y)=some (decide (x=y)):=by rw[aga,agn]
theorem Zk(M:cu)(n:Nat):∀r s:List Nat,Q3 (Km M (n+1)) (r.map nD) (s.map nD)=some (decide (r=s))
 |[],[]=>by simp[Q3]|[],_::_=>by simp[Q3]|_::_,[]=>by simp[Q3]
 |x::r,y::s=>by
  rw[gm,gm,Cv (a:=nD x) (b:=nD y) (Jl M n x y) (Zk M n r s)]
  by_cases h:x=y<;>simp[h]
def aet(M:cu)(r s:Y3):wz M (Dk r) (Dk s)=some (decide (r=s)):=Zk M 4 r s
def bbl(M:cu)(f g:F):wz M f.toD g.toD=some (decide (f=g)):=by obtain⟨a,b,r⟩:=f;obtain⟨c,d,s⟩:=g;have e:Km M 5 (Dk r) (Dk s)=some (decide (r=s)):=Zk M 3 r s;show Q3 (Km M 5) [.int a,.int b,Dk r] [.int c,.int d,Dk s]=_;rw[Cv (Jl M 4 a c) (Cv (Jl M 4 b d) (Cv e (show Q3 (Km M 5) [] []=some true from rfl)))];simp
theorem al5(M:cu)(g:F):∀fs:List F,Oh M g.toD (fs.map F.toD)=some (fs.map λf=>decide (f=g))
 |[]=>rfl|f::fs=>by simp only[gm,Oh,bbl,al5 M g fs]
def al6(M:cu)(g:F)(fs:List F):memD M g.toD (fs.map F.toD)=some (decide (g∈fs)):=by
 rw[memD,al5,u9]
 congr 1
 induction fs with
 |nil=>simp
 |cons f fs ih =>
  by_cases h:f=g
  . simp[h]
  . simp only[gm,List.any_cons,ih,bx,id]
    simp[h,jx h]
noncomputable def pos(g:F):List F->Nat
 |[]=>0|f::fs=>if f=g then 0 else pos g fs+1
def a4m(M:cu)(g:F)(fs:List F):W3 M g.toD (fs.map F.toD)=if g∈fs then some (pos g fs) else none:=by
 rw[W3,al5,uo]
 induction fs with
 |nil=>simp
 |cons f fs ih =>
  rw[gm,List.findIdx?_cons,ih,pos]
  by_cases h:f=g
  . simp[h]
  . by_cases h2:g∈fs<;>simp[h,jx h,h2]
theorem Zm(g:F):∀{fs:List F},g∈fs->fs[pos g fs]?=some g
 |f::fs,h=>by
  by_cases e:f=g
  . simp[pos,e]
  . have:g∈fs:=by
     rcases bx.mp h with q|q
     . exact absurd q.symm e
     . exact q
    simp[pos,e,Zm g this]
def aeu(nd:fs.Nodup)(h:fs[i]?=some f):pos f fs=i:=by have m:f∈fs:=au h;have g:=Zm f m;obtain⟨l1,e1⟩:=ak.mp h;obtain⟨l2,e2⟩:=ak.mp g;exact(zu nd).mp (e2.trans e1.symm)
noncomputable def F.comp(f g:F):F:=⟨f.a,g.b,f.r.map λx=>g.r.getD x 0⟩
noncomputable def F.Ov(f:F):Prop:=f.a=f.b/\f.r=List.range f.r.length
instance (f:F):Decidable f.Ov:=inferInstanceAs (Decidable (_/\_))
structure Wv(sz:Nat->Nat)(f:F):Prop where
 a:f.a<3
 b:f.b<3
 len:f.r.length=sz f.a
 ran:∀x∈f.r,x<sz f.b
noncomputable def Sz(sz:Nat->Nat):Prop:=∀k,1<=sz k/\sz k<=4
noncomputable def Good(sz:Nat->Nat)(fs:List F):Prop:=∀f∈fs,Wv sz f
def getD_mem{r:Y3}(h:x<r.length):r.getD x 0∈r:=by rw[dj,dh h];exact p8 h
theorem Wv.comp(hf:Wv sz f)(hg:Wv sz g)(h:f.b=g.a):Wv sz (f.comp g):=by
 refine⟨hf.a,hg.b,by simp[F.comp,hf.len],λx hx=>?_⟩;obtain⟨y,hy,rfl⟩:=bf.mp hx;have:y<g.r.length:=by rw[hg.len,<- h];exact hf.ran y hy
 exact hg.ran _ (getD_mem this)
def abh(r:Y3):(List.range r.length).map (λx=>r.getD x 0)=r:=by
 apply v8;intro i
 by_cases h:i<r.length
 . simp[h,uc h]
 . simp[Nat.le_of_not_lt h,j6]
def aev(hf:Wv sz f)(hg:Wv sz g)(e1:f.b=g.a):(f.comp g).comp h=f.comp (g.comp h):=by
 simp only[F.comp,yr,F.mk.injEq,true_and];apply qb;intro x hx;have:x<g.r.length:=by rw[hg.len,<- e1];exact hf.ran x hx
 simp[this]
noncomputable def idF(sz:Nat->Nat)(k:Nat):F:=⟨k,k,List.range (sz k)⟩
def Zn(hf:Wv sz f)(h:f.Ov):f=idF sz f.a:=by obtain⟨a,b,r⟩:=f;obtain⟨h1,h2⟩:=h;have:=hf.len;simp only[idF] at *;subst h1;rw[<- this,<- h2]
def id_comp(hf:Wv sz f):(idF sz f.a).comp f=f:=by obtain⟨a,b,r⟩:=f;have:=hf.len;simp only[idF,F.comp] at *;rw[<- this,abh]
def comp_id(hf:Wv sz f):f.comp (idF sz f.b)=f:=by
 obtain⟨a,b,r⟩:=f;have:=hf.ran;simp only[idF,F.comp,F.mk.injEq,true_and] at *
 conv=>rhs;rw[<- List.map_id r]
 apply qb;intro x hx;simp[uc (this x hx)]
noncomputable def Mf(fs:List F):Prop:=∀f∈fs,∀g∈fs,f.b=g.a->f.comp g∈fs\/(f.comp g).Ov
def call_of(hm:1<=m)(hf:prog.fns[f]?=some Fx):prog.call m f ds M=Fx.run ⟨prog.call (m-1),prog.cls⟩ ds M:=by obtain⟨n,rfl⟩:∃n,m=n+1:=⟨m-1,by lia⟩;simp[Prog.call,hf]
noncomputable def ax0(n:Int)(f:Bool):Prop:=0<=n/\(f=false->n<2147483647)
noncomputable def T4(t:Nat)(f:Bool)(M:cu):Prop:=∃n,M[t]?=some (.lst [.int n,.bl f])/\ax0 n f
structure St(t:Nat)(f:Bool)(M M':cu):Prop where
 len:M.length<=M'.length
 has:T4 t f M'
 keep:∀(a:Nat)(o:MO),a≠t->M[a]?=some o->M'[a]?=some o
def St.trans(a:St t f M M1)(b:St t f M1 M2):St t f M M2 :=
 ⟨gq a.len b.len,b.has,λx o n h=>b.keep x o n (a.keep x o n h)⟩
def St.of(h:T4 t f M)(k:Af M M'):St t f M M' :=
 ⟨k.len,let ⟨n,a,b⟩:=h;⟨n,k _ _ a,b⟩,λa o _ e=>k a o e⟩
def Aq(hm:1<=m)(hs:T4 t f M)(hp:0<many)(hq:many<1073741824) :
 ∃(v:Nat)(M':cu),prog.call m 14 [.ref t,.int many] M=.ok (.int v) M'/\(v:Int)<many/\St t f M M'/\M'.length=M.length:=by
 obtain⟨n,h,hn⟩:=hs;rw[call_of hm rfl];have hl:=o6 h;have g0:=Bt hl (i:=0) (by decide) rfl;have g1:=Bt hl (i:=1) (by decide) rfl;have fin:∀n':Int,ax0 n' f->St t f M (M.set t (.lst [.int n',.bl f])):=λn' o=>⟨by simp,⟨n',uw h,o⟩,λa u e q=>by rw[qx (jx e)];exact q⟩
 have hm0:many≠0:=by lia
 have c1:∀y:Int,∃v:Nat,y%many=(v:Int)/\(v:Int)<many:=λy=>by have a:=Ah y hm0;have b:=yx y hp;exact⟨(y%many).toNat,by lia,by lia⟩
 cases f with
 |true =>
  obtain⟨v,e,l⟩:=c1 n;refine⟨v,_,?_,l,fin (n / many) ⟨Int.ediv_nonneg hn.1 (by lia),by simp⟩,by simp⟩;simp[Fn.run,K7,K6,g0,g1,hp,Xl _ _ hp hq,Zd h,e]
 |false =>
  have h1:=hn.1;have h2:=hn.2 rfl;obtain⟨n',en⟩:∃n',(n*48271+29)%2147483647=n':=⟨_,rfl⟩;have e1:0<=n':=en▸Ah _ (by decide)
  have e2:n'<2147483647:=en▸yx _ (by decide)
  obtain⟨x,ex⟩:∃x,(n'*n'+39373*n'+7)%2147483629=x:=⟨_,rfl⟩;have x1:0<=x:=ex▸Ah _ (by decide)
  have x2:x<2147483629:=ex▸yx _ (by decide)
  obtain⟨y,ey⟩:∃y,(x*x+16807*x)%2147483587=y:=⟨_,rfl⟩;obtain⟨v,e,l⟩:=c1 (y / 8);refine⟨v,_,?_,l,fin n' ⟨e1,λ_=>e2⟩,by simp⟩;have k:=uw (o:=.lst [.int n',.bl false]) h;have k0:=Bt (o6 k) (i:=0) (by decide) rfl;simp[Fn.run,K7,K6,g0,g1,hp,Zd h,Kv n 48271 (.inr (by decide)),en,k0,Kv n' n' (.inl (by lia)),Kv 39373 n' (.inl (by decide)),ex,Kv x x (.inl (by lia)),Kv 16807 x (.inl (by decide)),ey,Xl _ 8 (by decide) (by decide),e]
def ago{k:Nat}{ns:Xs}(hm:1<=m):prog.call m 12 [.fz (ns.map D.int),.int k] M=.ok (.int (ns.getD k 0)) M:=by
 rw[call_of hm rfl]
 by_cases hk:k<ns.length
 . simp[Fn.run,Gm,Gk,alx,hk,a4k (ds:=ns.map D.int) (i:=k) (x:=.int (ns.getD k 0)) q_ (by simp[hk])]
 . simp[Fn.run,Gm,Gk,alx,hk]
def al7{k:Nat}{ns:Xs}(hm:2<=m):∃n f,prog.call m 13 [.fz (ns.map D.int),.int k] M=.ok (.ref M.length) (M++[.lst [.int n,.bl f]])/\ax0 n f:=by
 rw[call_of (a_ (by decide) hm) rfl]
 by_cases h:(10:Int) ^ 18<=ns.getD k 0
 . refine⟨ns.getD k 0-10 ^ 18,true,?_,by lia,by simp⟩
   have h':(1000000000000000000:Int)<=ns[k]?.getD 0:=by simpa using h
   simp[Fn.run,Jj,Ji,ago (show 1<=m-1 by exact r_ hm),h',MW.new]
 . refine⟨ns.getD k 0%2147483647,false,?_,Ah _ (by decide),λ_=>yx _ (by decide)⟩
   have h':¬(1000000000000000000:Int)<=ns[k]?.getD 0:=by simpa using h
   simp[Fn.run,Jj,Ji,ago (show 1<=m-1 by exact r_ hm),h',MW.new]
def agp(n:Nat)(i:Nat)(M:cu)(h:i<n):(Src.con ((List.range n).map λ(k:Nat)=>D.int (k:Int))).item i M=some (.int i):=by simp[Src.item,uc h]
def agq(n:Nat):(Src.con ((List.range n).map λ(k:Nat)=>D.int (k:Int))).len=n:=by simp[Src.len]
def al8{K:Nat}(hm:1<=m)(hs:T4 t f M)(hK:K<=3) :
 ∃(Ia:Y3)(M':cu),Gq.den ⟨prog.call m,prog.cls⟩ [D.ref t,a1,a2,a3,a4,a5,D.int K,a7,a8,a9,a10,a11] M=.ok (.vl (Ia.map nD)) M'/\Ia.length=K/\(∀x∈Ia,1<=x/\x<=3)/\St t f M M'/\M'.length=M.length:=by
 unfold Gq;rw[Ks];have hK':K<=100000:=a_ hK (by decide)
 simp[hK'];have h:=Gj (fin:=λ_=>true) (item:=(Src.con ((List.range K).map λ(k:Nat)=>D.int (k:Int))).item)
  (body:=λd M=>((prog.call m 14 [D.ref t,D.int 3] M).bind λy M2=>Ey .add (.int 1) y M2).bind λx M'=>Res.ok (some x) M')
  (λi xs M'=>∃Ia:List Nat,xs=Ia.map nD/\Ia.length=i/\(∀x∈Ia,1<=x/\x<=3)/\St t f M M'/\M'.length=M.length) (n:=K)
  (λi xs M' hi hI=>by
   obtain⟨Ia,rfl,rfl,h1,h2,h3⟩:=hI;obtain⟨v,M2,e,l,s2,l2⟩:=Aq hm h2.has (many:=3) (by decide) (by decide);refine⟨.int Ia.length,some (.int (1+v)),M2,agp K _ M' hi,by simp[e],Ia++[1+v],by simp[nD],by simp,λx hx=>?_,h2.trans s2,l2.trans h3⟩;rcases dw.mp hx with q|q
   . exact h1 x q
   . have:x=1+v:=by simpa using q
     lia) (λ_ _ _=>rfl) K 0 [] M (uq _) ⟨[],rfl,rfl,by simp,St.of hs (Af.refl M),rfl⟩
 obtain⟨ys,M',e,Ia,h1,h2,h3,h4,h5⟩:=h;refine⟨Ia,M',?_,h2,h3,h4,h5⟩;rw[zf,agq,cj hK',show(Src.con ((List.range _).map λ(k:Nat)=>D.int (k:Int))).fin=λ_=>true from rfl,e];simp at h1;simp[h1]
def ax1{Ia:Y3}(hm:1<=m)(hs:T4 t f M)(h3:∀x∈Ia,1<=x/\x<=3)(hi:i<Ia.length)(hj:j<Ia.length) :
 ∃(r:Y3)(M':cu),Gn.den ⟨prog.call m,prog.cls⟩ [D.ref t,a1,a2,a3,a4,a5,a6,D.vl (Ia.map nD),a8,a9,D.int i,D.int j] M=.ok (.vl (r.map nD)) M' /\
  r.length=Ia.getD i 0/\(∀x∈r,x<Ia.getD j 0)/\St t f M M'/\M'.length=M.length:=by
 unfold Gn;rw[Ks];have gi:=Bt (M:=M) (d:=.vl (Ia.map nD)) (i:=i) (x:=.int ((Ia.getD i 0:Nat):Int)) rfl q_ (by simp[hi,nD]);have gj:∀M',zy (.vl (Ia.map nD)) (.int j) M'=some (.int ((Ia.getD j 0:Nat):Int)):=λM'=>Bt rfl q_ (by simp[hj,nD])
 have bi:=h3 _ (getD_mem hi);have bj:=h3 _ (getD_mem hj);generalize ea:Ia.getD i 0=a at *;generalize eb:Ia.getD j 0=b at *;have ha:a<=100000:=a_ bi.2 (by decide)
 simp[gi,gj,ha];have h:=Gj (fin:=λ_=>true) (item:=(Src.con ((List.range a).map λ(k:Nat)=>D.int (k:Int))).item)
  (body:=λd M=>(prog.call m 14 [D.ref t,D.int b] M).bind λx M'=>Res.ok (some x) M')
  (λi xs M'=>∃r:List Nat,xs=r.map nD/\r.length=i/\(∀x∈r,x<b)/\St t f M M'/\M'.length=M.length) (n:=a)
  (λi xs M' hi hI=>by
   obtain⟨r,rfl,rfl,h1,h2,h3⟩:=hI;obtain⟨v,M2,e,l,s2,l2⟩:=Aq hm h2.has (many:=b) (m_ bj.1) (m_ (c_ bj.2 (by decide)));refine⟨.int r.length,some (.int v),M2,agp a _ M' hi,by simp[e],r++[v],by simp[nD],by simp,λx hx=>?_,h2.trans s2,l2.trans h3⟩;rcases dw.mp hx with q|q
   . exact h1 x q
   . have:x=v:=by simpa using q
     exact c_ (f_ this) (o_ l)) (λ_ _ _=>rfl) a 0 [] M (uq _) ⟨[],rfl,rfl,by simp,St.of hs (Af.refl M),rfl⟩
 obtain⟨ys,M',e,r,h1,h2,h3,h4,h5⟩:=h;refine⟨r,M',?_,h2,h3,h4,h5⟩;rw[zf,agq,cj ha,show(Src.con ((List.range _).map λ(k:Nat)=>D.int (k:Int))).fin=λ_=>true from rfl,e];simp at h1;simp[h1]
def Zo{v:Nat}{Ia:Y3}(hm:1<=m)(hs:T4 t f M)(hK:Ia.length=K)(hK1:1<=K)(hK3:K<=3)(h3:∀x∈Ia,1<=x/\x<=3)(hp:M[p]?=some (.lst []))(hpt:p≠t) :
 ∃(fs:List F)(ρ':Env)(M':cu),Gp.den ⟨prog.call m,prog.cls⟩ [D.ref t,D.int v,none,none,none,none,D.int K,D.vl (Ia.map nD),D.ref p,a9,a10,a11] M=.ok (.next,ρ') M' /\
  ρ'[8]?=some (some (.ref p))/\M'[p]?=some (.lst (fs.map F.toD))/\fs.length<=3/\Good (λk=>Ia.getD k 1) fs/\M.length<=M'.length/\T4 t f M'/\(∀(a:Nat)(o:MO),a≠t->a≠p->M[a]?=some o->M'[a]?=some o):=by
 obtain⟨w,M1,e1,l1,s1,ll1⟩:=Aq hm hs (many:=4) (by decide) (by decide);unfold Gp;rw[Q5];have hw:w<=100000:=e_ (b_ (o_ l1) (by decide))
 simp[e1,hw];obtain⟨ρ',M',e,fs,b9,b10,Ew,rfl,h1,h2,h4,h5,h6,h7⟩:=Zf (n:=w) (body:=λd ρ M=>Cz.den ⟨prog.call m,prog.cls⟩ (ρ.set 9 (some d)) M)
  (λi ρ M'=>∃(fs:List F)(b9 b10 Ew:Option D),ρ=[some (.ref t),some (.int v),none,none,none,none,some (.int K),some (.vl (Ia.map nD)),some (.ref p),b9,b10,Ew] /\
   M'[p]?=some (.lst (fs.map F.toD))/\fs.length=i/\Good (λk=>Ia.getD k 1) fs/\M.length<=M'.length/\T4 t f M'/\(∀(a:Nat)(o:MO),a≠t->a≠p->M[a]?=some o->M'[a]?=some o))
  (M:=M1) ⟨[],a9,a10,a11,rfl,by simpa using s1.keep p _ hpt hp,rfl,by intro f hf;simp at hf,s1.len,s1.has,λa o na _ h=>s1.keep a o na h⟩
  (λi ρ M2 hi hI=>by
   obtain⟨fs,b9,b10,Ew,rfl,g1,g2,g3,g4,g5,g6⟩:=hI;obtain⟨x,M3,ex,lx,sx,llx⟩:=Aq hm g5 (many:=K) (m_ hK1) (m_ (c_ hK3 (by decide)));obtain⟨y,M4,ey,ly,sy,lly⟩:=Aq hm sx.has (many:=K) (m_ hK1) (m_ (c_ hK3 (by decide)));obtain⟨r,M5,er,lr,rr,sr,llr⟩:=ax1 (a1:=some (.int v)) (a2:=none) (a3:=none) (a4:=none) (a5:=none) (a6:=some (.int K)) (a8:=some (.ref p)) (a9:=some (.int i)) (i:=x) (j:=y) hm sy.has h3 (b_ (o_ lx) (g_ hK)) (b_ (o_ ly) (g_ hK));have gp:=sr.keep p _ hpt (sy.keep p _ hpt (sx.keep p _ hpt g1));have hl:(fs.map F.toD).length<100000:=by rw[du];exact c_ (f_ g2) (b_ hi hw)
   refine⟨.next,_,M5.set p (.lst (fs.map F.toD++[F.toD ⟨x,y,r⟩])),?_,.inl rfl,fs++[⟨x,y,r⟩],some (.int i),some (.int x),some (.int y),rfl,?_,by simp[g2],?_,?_,?_,?_⟩
   . simp[Cz,ex,ey,er,Cw gp hl,Dr (sy.keep p _ hpt (sx.keep p _ hpt g1)),ud,F.toD,Dk]
   . rw[uw gp];simp
   . intro f hf
     rcases dw.mp hf with q|q
     . exact g3 f q
     . have:f=⟨x,y,r⟩:=by simpa using q
       subst this;refine⟨by show x<3;exact b_ (o_ lx) hK3,by show y<3;exact b_ (o_ ly) hK3,?_,?_⟩
       . show r.length=Ia.getD x 1
         rw[lr];simp[dj,dh (show x<Ia.length by exact b_ (o_ lx) (g_ hK))]
       . intro z hz
         have:=rr z hz;show z<Ia.getD y 1
         simp[dj,dh (show y<Ia.length by exact b_ (o_ ly) (g_ hK))] at this ⊢;exact this
   . have:=sr.len;have:=sy.len;have:=sx.len;simp;exact a_ g4 (a_ (g_ llx) (a_ (g_ lly) (g_ llr)))
   . obtain⟨n',q1,q2⟩:=sr.has
     exact⟨n',by rw[qx hpt];exact q1,q2⟩
   . intro a o na nb h
     rw[qx (jx nb)];exact sr.keep a o na (sy.keep a o na (sx.keep a o na (g6 a o na nb h))))
 have e':Bb (Src.con ((List.range w).map λ(k:Nat)=>D.int (k:Int))).fin (Src.con ((List.range w).map λ(k:Nat)=>D.int (k:Int))).item (λd ρ M=>Cz.den ⟨prog.call m,prog.cls⟩ (ρ.set 9 (some d)) M) (Src.con ((List.range w).map λ(k:Nat)=>D.int (k:Int))).len 0 [some (.ref t),some (.int v),none,none,none,none,some (.int K),some (.vl (Ia.map nD)),some (.ref p),a9,a10,a11] M1=_:=e;exact⟨fs,[some (.ref t),some (.int v),none,none,none,none,some (.int K),some (.vl (Ia.map nD)),some (.ref p),b9,b10,Ew],M',e',rfl,h1,by lia,h4,h5,h6,h7⟩
def al9(hm:2<=m)(hs:T4 t f M):∃(d:D)(M':cu)(fs:List F)(sz:Nat->Nat),prog.call m 15 [.ref t] M=.ok d M'/\fu M' d=some (fs.map F.toD)/\(∀n,d=.ref n->n≠t)/\Sz sz/\Good sz fs/\fs.length<=3/\St t f M M':=by
 have hm1:1<=m-1:=r_ hm
 obtain⟨v,M1,e1,l1,s1,ll1⟩:=Aq hm1 hs (many:=12) (by decide) (by decide);rw[call_of (a_ hm1 C_) rfl]
 by_cases hv:v<7
 . have hv':(v:Int)<7:=m_ hv
   have key:∀(fs:List F)(sz:Nat->Nat),Bv.run ⟨prog.call (m-1),prog.cls⟩ [.ref t] M=.ok (.vl (fs.map F.toD)) M1->Sz sz->Good sz fs->fs.length<=3 ->
    ∃(d:D)(M':cu)(fs:List F)(sz:Nat->Nat),Bv.run ⟨prog.call (m-1),prog.cls⟩ [.ref t] M=.ok d M'/\fu M' d=some (fs.map F.toD)/\(∀n,d=.ref n->n≠t)/\Sz sz/\Good sz fs/\fs.length<=3/\St t f M M' :=
    λfs sz a b c d=>⟨_,M1,fs,sz,a,rfl,λn h=>(by cases h),b,c,d,s1⟩
   have run:∀d,zy (.vl [.vl [.tup [.int 0,.int 1,.tup [.int 0,.int 1]],.tup [.int 0,.int 1,.tup [.int 1,.int 0]]],.vl [.tup [.int 0,.int 1,.tup [.int 0,.int 0,.int 1,.int 1]],.tup [.int 0,.int 1,.tup [.int 0,.int 1,.int 0,.int 1]],.tup [.int 1,.int 0,.tup [.int 0,.int 3]]],
    .vl [.tup [.int 0,.int 0,.tup [.int 1,.int 0]]],.vl [.tup [.int 0,.int 0,.tup [.int 1,.int 2,.int 0]]],.vl [.tup [.int 0,.int 0,.tup [.int 0,.int 0]]],.vl [],.vl [.tup [.int 0,.int 1,.tup [.int 0,.int 1]],.tup [.int 1,.int 2,.tup [.int 0,.int 0,.int 1]]]]) (.int v) M1=some d ->
    Bv.run ⟨prog.call (m-1),prog.cls⟩ [.ref t] M=.ok d M1:=λd hd=>by simp[Fn.run,Bv,Jk,e1,hv',hd]
   have cs:v=0\/v=1\/v=2\/v=3\/v=4\/v=5\/v=6:=by lia
   rcases cs with rfl|rfl|rfl|rfl|rfl|rfl|rfl
   . refine key [⟨0,1,[0,1]⟩,⟨0,1,[1,0]⟩] (λ_=>2) ?_ (λk=>by simp) (λf hf=>?_) (by decide)
     . exact run _ rfl
     . simp at hf;rcases hf with rfl|rfl<;>exact⟨by decide,by decide,by decide,by decide⟩
   . refine key [⟨0,1,[0,0,1,1]⟩,⟨0,1,[0,1,0,1]⟩,⟨1,0,[0,3]⟩] (λk=>if k=0 then 4 else 2) ?_ (λk=>by dsimp only;split<;>omega) (λf hf=>?_) (by decide)
     . exact run _ rfl
     . simp at hf;rcases hf with rfl|rfl|rfl<;>exact⟨by decide,by decide,by decide,by decide⟩
   . refine key [⟨0,0,[1,0]⟩] (λ_=>2) ?_ (λk=>by simp) (λf hf=>?_) (by decide)
     . exact run _ rfl
     . simp at hf;subst hf;exact⟨by decide,by decide,by decide,by decide⟩
   . refine key [⟨0,0,[1,2,0]⟩] (λ_=>3) ?_ (λk=>by simp) (λf hf=>?_) (by decide)
     . exact run _ rfl
     . simp at hf;subst hf;exact⟨by decide,by decide,by decide,by decide⟩
   . refine key [⟨0,0,[0,0]⟩] (λ_=>2) ?_ (λk=>by simp) (λf hf=>?_) (by decide)
     . exact run _ rfl
     . simp at hf;subst hf;exact⟨by decide,by decide,by decide,by decide⟩
   . refine key [] (λ_=>1) ?_ (λk=>by simp) (λf hf=>?_) (by decide)
     . exact run _ rfl
     . simp at hf
   . refine key [⟨0,1,[0,1]⟩,⟨1,2,[0,0,1]⟩] (λk=>if k=1 then 3 else 2) ?_ (λk=>by dsimp only;split<;>exact⟨by decide,by decide⟩) (λf hf=>?_) (by decide)
     . exact run _ rfl
     . simp at hf;rcases hf with rfl|rfl<;>exact⟨by decide,by decide,by decide,by decide⟩
 . have hv':¬(v:Int)<7:=by lia
   obtain⟨u,M2,e2,l2,s2,ll2⟩:=Aq hm1 s1.has (many:=3) (by decide) (by decide);obtain⟨K,eK,hKu⟩:∃K:Nat,(1:Int)+(u:Int)=(K:Int)/\K=1+u:=⟨1+u,by lia,rfl⟩;obtain⟨Ia,M3,e3,l3,r3,s3,ll3⟩:=al8 (a1:=some (.int v)) (a2:=none) (a3:=none) (a4:=none) (a5:=none) (a7:=none) (a8:=none) (a9:=none) (a10:=none) (a11:=none) (K:=K) hm1 s2.has (by lia);have htl:t<M3.length:=by obtain⟨n,h,_⟩:=s3.has;exact wj h
   have h4:T4 t f (M3++[.lst []]):=by obtain⟨n,h,o⟩:=s3.has;exact⟨n,o7 h,o⟩
   obtain⟨fs,ρ',M5,e5,q8,q1,q2,q3,q4,q5,q6⟩:=Zo (v:=v) (K:=K) (p:=M3.length) (a9:=none) (a10:=none) (a11:=none) hm1 h4 l3 (by lia) (by lia) r3 (by simp) (i_ htl);refine⟨.ref M3.length,M5,fs,λk=>Ia.getD k 1,?_,o6 q1,λn h=>by cases h;exact i_ htl,λk=>?_,q3,q2,?_⟩
   . simp[Fn.run,Bv,Jk,e1,hv',e2,eK,e3,MW.new,e5,q8]
   . show 1<=Ia.getD k 1/\Ia.getD k 1<=4
     by_cases h:k<Ia.length
     . have:=r3 _ (getD_mem h)
       simp[dj,h] at this ⊢;exact⟨this.1,a_ this.2 (by decide)⟩
     . simp[dj,h]
   . refine s1.trans (s2.trans (s3.trans ⟨?_,q5,λa o na h=>q6 a o na ?_ (o7 h)⟩))
     . have:=q4;simp at this;lia
     . have:=wj h;exact h_ this
structure Up(p:Nat)(M M':cu):Prop where
 len:M'.length=M.length
 oth:∀a:Nat,a≠p->M'[a]?=M[a]?
def Up.refl(p:Nat)(M:cu):Up p M M:=⟨rfl,λ_ _=>rfl⟩
theorem Up.trans(a:Up p M M1)(b:Up p M1 M2):Up p M M2:=⟨b.len.trans a.len,λx h=>(b.oth x h).trans (a.oth x h)⟩
theorem Up.set(p:Nat)(M:cu)(o:MO):Up p M (M.set p o):=⟨by simp,λa h=>qx (jx h)⟩
def Ow(h:M[p]?=some (.lst ds)):Nt M x (.ref p)=memD M x ds:=by simp[Nt,h,Aa,fu]
def S8(f:F)(M:cu):zy f.toD (.int 0) M=some (.int f.a):=rfl
def Tc(f:F)(M:cu):zy f.toD (.int 1) M=some (.int f.b):=rfl
def ama(f:F)(M:cu):zy f.toD (.int 2) M=some (Dk f.r):=rfl
def Mg(M:cu)(r:Y3)(n:Nat):wz M (Dk r) (.tup ((List.range n).map λ(k:Nat)=>D.int (k:Int)))=some (decide (r=List.range n)):=aet M r (List.range n)
def eq_nil(M:cu)(r:Y3):wz M (Dk r) (.tup [])=some (decide (r=[])):=aet M r []
def Ak(M:cu)(a b:Nat):wz M (.int a) (.int b)=some (decide (a=b)):=by rw[eq_int,agn]
def Hq(M:cu)(r:Y3):ud .len [Dk r] M=.ok (.int r.length) M:=by simp[ud,Aa,Dk]
def Mh(M:cu)(ds:List D):ud .tuple [.vl ds] M=.ok (.tup ds) M:=by simp[ud,Aa]
def Zq(M:cu)(r:Y3):ud .tuple [.vl (r.map nD)] M=.ok (Dk r) M:=Mh M _
def aew(hz:Sz sz)(h:Wv sz f):1<=f.r.length/\f.r.length<=4:=by rw[h.len];exact hz _
def ar0(M:cu)(r:Y3):srcOf M (Dk r)=some (.con (r.map nD)):=rfl
def amb(M:cu)(r:Y3)(h:x<r.length):zy (Dk r) (.int x) M=some (.int (r.getD x 0)):=Hu q_ (by simp[h,nD])
def amc(hz:Sz sz)(hf:Wv sz f)(hg:Wv sz g)(h:f.b=g.a) :
 Fb.den W [a0,a1,a2,a3,a4,a5,a6,some f.toD,some g.toD,a9] M=.ok (.vl ((f.comp g).r.map nD)) M:=by
 have hsm:(f.r.map nD).length<=100000:=by rw[du,hf.len];have:=hz f.a;exact a_ this.2 (by decide)
 unfold Fb;rw[Ks];simp[ama,ar0];have:=agb (M:=M) (ds:=f.r.map nD) (g:=λd=>match d with|.int i=>nD (g.r.getD i.toNat 0)|_=>.non)
  (body:=λd M=>((Res.uv (zy (Dk g.r) d M) M).bind λx M'=>Res.ok (some x) M')) hsm (λd hd=>by
   obtain⟨x,hx,rfl⟩:=bf.mp hd;have hx':x<g.r.length:=by rw[hg.len,<- h];exact hf.ran x hx
   rw[show nD x=D.int (x:Int) from rfl,amb M g.r hx'];simp[nD])
 rw[this];simp[F.comp,nD]
noncomputable def Jm(gs:List F)(f g:F):List F:=if f.b=g.a/\f.comp g∉gs/\¬(f.comp g).Ov then gs++[f.comp g] else gs
def aex(f g:F):D.tup [.int f.a,.int g.b,Dk (f.comp g).r]=(f.comp g).toD:=rfl
def Ve(hz:Sz sz)(hf:Wv sz f)(hg:Wv sz g)(hp:M[p]?=some (.lst (gs.map F.toD)))(hl:gs.length<100000) :
 ∃(b4 b9:Option D)(M':cu),Bc.den W [a0,D.ref p,a2,a3,a4,a5,a6,some f.toD,some g.toD,a9] M=.ok (.next,[a0,some (.ref p),a2,a3,b4,a5,a6,some f.toD,some g.toD,b9]) M' /\
  M'[p]?=some (.lst ((Jm gs f g).map F.toD))/\Up p M M':=by
 by_cases h:f.b=g.a
 . have hc:=amc (W:=W) (M:=M) (a0:=a0) (a1:=some (.ref p)) (a2:=a2) (a3:=a3) (a4:=some (.tup [])) (a5:=a5) (a6:=a6) (a9:=a9) hz hf hg h
   have hr:(f.comp g).r≠[]:=λe=>by have:=(aew hz (hf.comp hg h)).1;rw[e] at this;simp at this
   have hlen:(f.comp g).r.length<=100000:=by have:=(aew hz (hf.comp hg h)).2;exact a_ this (by decide)
   have Hf:=al6 M (f.comp g) gs;have e0:(f.comp g).a=f.a:=rfl;have e1:(f.comp g).b=g.b:=rfl;have ap:=Cw (d:=(f.comp g).toD) hp (by rw[du];exact hl);have key:∃T:Res (Flow×Env),Bc.den W [a0,D.ref p,a2,a3,a4,a5,a6,some f.toD,some g.toD,a9] M=T/\(f.comp g∈gs->T=.ok (.next,[a0,some (.ref p),a2,a3,some (Dk (f.comp g).r),a5,a6,some f.toD,some g.toD,some (f.comp g).toD]) M)/\(f.comp g∉gs->(f.comp g).Ov->T=.ok (.next,[a0,some (.ref p),a2,a3,some (Dk (f.comp g).r),a5,a6,some f.toD,some g.toD,some (f.comp g).toD]) M) /\
    (f.comp g∉gs->¬(f.comp g).Ov->T=.ok (.next,[a0,some (.ref p),a2,a3,some (Dk (f.comp g).r),a5,a6,some f.toD,some g.toD,some (f.comp g).toD]) (M.set p (.lst ((gs++[f.comp g]).map F.toD)))):=by
    refine⟨_,(by simp[-eq_int,Bc,S8,Tc,Ak,h,hc,Zq,aex,eq_nil,hr,Ow hp,Hf];exact rfl),?_,?_,?_⟩
    . intro m;simp[m]
    . intro m i;simp[-eq_int,m,S8,Tc,Ak,i.1,Hq,hlen,Mg,decide_eq_true i.2]
    . intro m i
      by_cases i1:(f.comp g).a=(f.comp g).b
      . have i2:¬(f.comp g).r=List.range (f.comp g).r.length:=λq=>i ⟨i1,q⟩
        simp[-eq_int,S8,Tc,Ak,m,i1,Hq,hlen,Mg,i2,Dr hp,ap]
      . simp[-eq_int,S8,Tc,Ak,m,i1,Hq,hlen,Mg,Dr hp,ap]
   obtain⟨T,e,k1,k2,k3⟩:=key
   by_cases m:f.comp g∈gs
   . exact⟨_,_,M,e.trans (k1 m),by rw[Jm,bw (λq=>q.2.1 m)];exact hp,Up.refl p M⟩
   . by_cases i:(f.comp g).Ov
     . exact⟨_,_,M,e.trans (k2 m i),by rw[Jm,bw (λq=>q.2.2 i)];exact hp,Up.refl p M⟩
     . exact⟨_,_,_,e.trans (k3 m i),by rw[Jm,cj ⟨h,m,i⟩,uw hp],Up.set _ _ _⟩
 . refine⟨some (.tup []),some (.tup [.int f.a,.int g.b,.tup []]),M,?_,by rw[Jm,bw (λq=>h q.1)];exact hp,Up.refl p M⟩
   have:=aet M [] [];simp[Dk] at this;simp[-eq_int,Bc,S8,Tc,Ak,h,this]
structure Inv(sz:Nat->Nat)(gs:List F):Prop where
 good:Good sz gs
 nd:gs.Nodup
 nid:∀f∈gs,¬f.Ov
def Inv.snoc{sz:Nat->Nat}(h:Inv sz gs)(hf:Wv sz f)(hm:f∉gs)(hi:¬f.Ov):Inv sz (gs++[f]):=by
 refine⟨λx hx=>?_,?_,λx hx=>?_⟩
 . rcases dw.mp hx with q|q
   . exact h.good x q
   . have:x=f:=by simpa using q
     exact this▸hf
 . rw[yd]
   refine⟨h.nd,by simp,λa ha b hb=>?_⟩;have:b=f:=by simpa using hb
   exact λe=>hm (by rw[<- this,<- e];exact ha)
 . rcases dw.mp hx with q|q
   . exact h.nid x q
   . have:x=f:=by simpa using q
     exact this▸hi
noncomputable def Cl2(gs:List F)(f g:F):Prop:=f.b=g.a->f.comp g∈gs\/(f.comp g).Ov
def Cl2.mono(h:Cl2 gs f g)(s:gs <+: hs):Cl2 hs f g:=λe=>(h e).imp (λm=>s.subset m) id
def Mi(gs:List F)(f g:F):gs <+: Jm gs f g:=by
 unfold Jm;split
 . exact List.prefix_append _ _
 . exact List.prefix_rfl
def Vf(gs:List F)(f g:F):(Jm gs f g).length<=gs.length+1:=by unfold Jm;split<;>simp
set_option tactic.hygienic true in
def abi(h:Inv sz gs)(hf:Wv sz f)(hg:Wv sz g):Inv sz (Jm gs f g):=by
 unfold Jm;split
 . rename_i q;exact h.snoc (hf.comp hg q.1) q.2.1 q.2.2
 . exact h
def agr(gs:List F)(f g:F):Cl2 (Jm gs f g) f g:=by
 intro e;unfold Jm
 by_cases m:f.comp g∈gs
 . left;split
   . exact yc _ m
   . exact m
 . by_cases i:(f.comp g).Ov
   . exact .inr i
   . left;rw[cj ⟨e,m,i⟩];simp
def Pz{gs:List F}{i:Nat}(s:gs <+: hs)(h:gs[i]?=some f):hs[i]?=some f:=by obtain⟨t,rfl⟩:=s;rw[dz (ak.mp h).1];exact h
def N7{gs:List F}{i:Nat}(hp:M[p]?=some (.lst (gs.map F.toD)))(h:gs[i]?=some f):zy (.ref p) (.int i) M=some f.toD:=Bt (o6 hp) q_ (by simp[h])
def Jo{gs:List F}(hp:M[p]?=some (.lst (gs.map F.toD))):ud .len [.ref p] M=.ok (.int gs.length) M:=by rw[len_list (o6 hp)];simp
def ax3{k j:Nat}(hz:Sz sz)(hi:Inv sz gs)(hp:M[p]?=some (.lst (gs.map F.toD)))(hl:gs.length<90000)(hk:gs[k]?=some f)(hj:gs[j]?=some g) :
 ∃(b4 b7 b8 b9:Option D)(M':cu),Fe.den W [a0,D.ref p,a2,a3,a4,D.int k,D.int j,a7,a8,a9] M=.ok (.next,[a0,some (.ref p),a2,a3,b4,some (.int k),some (.int j),b7,b8,b9]) M' /\
  M'[p]?=some (.lst ((Jm (Jm gs f g) g f).map F.toD))/\Up p M M':=by
 have hf:=hi.good f (au hk);have hg:=hi.good g (au hj);have l1:=Vf gs f g;obtain⟨b4,b9,M1,e1,p1,u1⟩:=Ve (W:=W) (M:=M) (a0:=a0) (a2:=a2) (a3:=a3) (a4:=a4) (a5:=some (.int k)) (a6:=some (.int j)) (a9:=a9) hz hf hg hp (b_ hl (by decide));obtain⟨c4,c9,M2,e2,p2,u2⟩:=Ve (W:=W) (M:=M1) (a0:=a0) (a2:=a2) (a3:=a3) (a4:=b4) (a5:=some (.int k)) (a6:=some (.int j)) (a9:=b9) hz hg hf p1 (by lia);refine⟨c4,some g.toD,some f.toD,c9,M2,?_,p2,u1.trans u2⟩;unfold Fe;rw[Q5];simp[N7 hp hk,N7 hp hj,srcOf,Src.len,Src.fin,Bb,Src.item,e1,e2]
def ar4{k:Nat}(hz:Sz sz)(hi:Inv sz gs)(hp:M[p]?=some (.lst (gs.map F.toD)))(hl:gs.length<10000)(hk:gs[k]?=some f) :
 ∃(hs:List F)(b4 b6 b7 b8 b9:Option D)(M':cu),Fi.den W [a0,D.ref p,a2,a3,a4,D.int k,a6,a7,a8,a9] M=.ok (.next,[a0,some (.ref p),a2,a3,b4,some (.int k),b6,b7,b8,b9]) M' /\
  M'[p]?=some (.lst (hs.map F.toD))/\Up p M M'/\gs <+: hs/\Inv sz hs/\hs.length<=3*gs.length/\∀(j:Nat)(g:F),gs[j]?=some g->Cl2 hs f g/\Cl2 hs g f:=by
 unfold Fi;rw[Q5];have hl':gs.length<=100000:=e_ (b_ hl (by decide))
 simp[Jo hp,hl'];obtain⟨ρ',M',e,hs,b4,b6,b7,b8,b9,rfl,h1,h2,h3,h4,h5,h6⟩:=Zf (n:=gs.length) (body:=λd ρ M=>Ff.den W (ρ.set 6 (some d)) M)
  (λi ρ M'=>∃(hs:List F)(b4 b6 b7 b8 b9:Option D),ρ=[a0,some (.ref p),a2,a3,b4,some (.int k),b6,b7,b8,b9]/\M'[p]?=some (.lst (hs.map F.toD))/\Up p M M'/\gs <+: hs/\Inv sz hs/\hs.length<=gs.length+2*i /\
   ∀(j:Nat)(g:F),j<i->gs[j]?=some g->Cl2 hs f g/\Cl2 hs g f) (ρ:=[a0,D.ref p,a2,a3,a4,D.int k,a6,a7,a8,a9]) (M:=M)
  ⟨gs,a4,a6,a7,a8,a9,rfl,hp,Up.refl p M,List.prefix_rfl,hi,x_,λj g h=>absurd h (xq _)⟩
  (λi ρ M2 Ig hI=>by
   obtain⟨hs,b4,b6,b7,b8,b9,rfl,g1,g2,g3,g4,g5,g6⟩:=hI;have gi:gs[i]?=some gs[i]:=by simp[Ig]
   obtain⟨c4,c7,c8,c9,M3,e3,p3,u3⟩:=ax3 (W:=W) (M:=M2) (a0:=a0) (a2:=a2) (a3:=a3) (a4:=b4) (a7:=b7) (a8:=b8) (a9:=b9) hz g4 g1 (by lia) (Pz g3 hk) (Pz g3 gi);have hf:=g4.good f (au (Pz g3 hk));have hg:=g4.good gs[i] (au (Pz g3 gi));refine⟨.next,_,M3,?_,.inl rfl,Jm (Jm hs f gs[i]) gs[i] f,c4,some (.int i),c7,c8,c9,rfl,p3,g2.trans u3,(g3.trans (Mi _ _ _)).trans (Mi _ _ _),abi (abi g4 hf hg) hg hf,?_,?_⟩
   . simp[Ff,e3]
   . have:=Vf hs f gs[i]
     have:=Vf (Jm hs f gs[i]) gs[i] f
     lia
   . intro j g hj hg'
     have pr:=(Mi hs f gs[i]).trans (Mi (Jm hs f gs[i]) gs[i] f);rcases Nat.lt_succ_iff_lt_or_eq.mp hj with q|q
     . exact⟨(g6 j g q hg').1.mono pr,(g6 j g q hg').2.mono pr⟩
     . subst q
       have:g=gs[j]:=by rw[gi] at hg';exact(jq hg').symm
       subst this;exact⟨(agr _ _ _).mono (Mi _ _ _),agr _ _ _⟩)
 refine⟨hs,b4,b6,b7,b8,b9,M',e,h1,h2,h3,h4,by lia,λj g hg=>h6 j g (ak.mp hg).1 hg⟩
def ame(f:F)(i j k:Nat)(ρ:Env):(Tg.names [i,j,k]).put f.toD ρ=some (((ρ.set i (some (.int f.a))).set j (some (.int f.b))).set k (some (Dk f.r))):=rfl
noncomputable def Zr(gs:List F)(f:F):List F:=if ¬f.Ov/\f∉gs then gs++[f] else gs
noncomputable def ClK(gs:List F)(k:Nat):Prop:=∀(i j:Nat)(f g:F),i<k->j<k->gs[i]?=some f->gs[j]?=some g->Cl2 gs f g
def ai1(hz:Sz sz)(hf:Wv sz f)(hp:M[p]?=some (.lst (gs.map F.toD)))(hl:gs.length<100000) :
 ∃M',yu.den W [a0,D.ref p,D.int f.a,D.int f.b,Dk f.r,a5,a6,a7,a8,a9] M=.ok (.next,[a0,some (.ref p),some (.int f.a),some (.int f.b),some (Dk f.r),a5,a6,a7,a8,a9]) M' /\
  M'[p]?=some (.lst ((Zr gs f).map F.toD))/\Up p M M':=by
 have hlen:f.r.length<=100000:=by have:=(aew hz hf).2;exact a_ this (by decide)
 have Hf:=al6 M f gs;have hD:D.tup [.int f.a,.int f.b,Dk f.r]=f.toD:=rfl;have ap:=Cw (d:=f.toD) hp (by rw[du];exact hl)
 by_cases i:f.Ov
 . refine⟨M,?_,by rw[Zr,bw (λq=>q.1 i)];exact hp,Up.refl p M⟩
   simp[-eq_int,yu,Ak,i.1,Hq,hlen,Mg,decide_eq_true i.2]
 . by_cases m:f∈gs
   . refine⟨M,?_,by rw[Zr,bw (λq=>q.2 m)];exact hp,Up.refl p M⟩
     by_cases i1:f.a=f.b
     . have i2:¬f.r=List.range f.r.length:=λq=>i ⟨i1,q⟩
       simp[i1] at hD;simp[-eq_int,yu,Ak,i1,i2,Hq,hlen,Mg,hD,Ow hp,Hf,m]
     . simp[-eq_int,yu,Ak,i1,Hq,hlen,Mg,hD,Ow hp,Hf,m]
   . refine⟨M.set p (.lst ((gs++[f]).map F.toD)),?_,by rw[Zr,cj ⟨i,m⟩,uw hp],Up.set _ _ _⟩
     by_cases i1:f.a=f.b
     . have i2:¬f.r=List.range f.r.length:=λq=>i ⟨i1,q⟩
       simp[i1] at hD;simp[-eq_int,yu,Ak,i1,i2,Hq,hlen,Mg,hD,Ow hp,Hf,m,Dr hp,ap]
     . simp[-eq_int,yu,Ak,i1,Hq,hlen,Mg,hD,Ow hp,Hf,m,Dr hp,ap]
set_option tactic.hygienic true in
def amf(h:Inv sz gs)(hf:Wv sz f):Inv sz (Zr gs f):=by
 unfold Zr;split
 . rename_i q;exact h.snoc hf q.2 q.1
 . exact h
def amg(gs:List F)(f:F):(Zr gs f).length<=gs.length+1:=by unfold Zr;split<;>simp
def ai2(hz:Sz sz)(hi:Inv sz gs)(hp:M[p]?=some (.lst (gs.map F.toD)))(hl:gs.length<=3) :
 ∃(ρ':Env)(M':cu),Fj.den W [a0,D.ref p,a2,a3,a4,D.int 0,a6,a7,a8,a9] M=.ok (.next,ρ') M'/\ρ'[1]?=some (some (.ref p))/\∃hs:List F,M'[p]?=some (.lst (hs.map F.toD))/\Up p M M'/\Inv sz hs/\hs.length<=15 /\
  (hs.length<6->Mf hs)/\(gs=[]->hs=[]):=by
 unfold Fj;rw[Zc];refine Nh (λm ρ M'=>∃(hs:List F)(k:Nat)(b4 b6 b7 b8 b9:Option D),ρ=[a0,some (.ref p),a2,a3,b4,some (.int k),b6,b7,b8,b9]/\M'[p]?=some (.lst (hs.map F.toD))/\Up p M M'/\Inv sz hs/\hs.length<=15/\ClK hs k/\k<=5/\m=10-k/\(gs=[]->hs=[]))
  (fun ρ' M'=>ρ'[1]?=some (some (.ref p))/\∃hs:List F,M'[p]?=some (.lst (hs.map F.toD))/\Up p M M'/\Inv sz hs/\hs.length<=15/\(hs.length<6->Mf hs)/\(gs=[]->hs=[])) ?_ aes 10 _ M (by decide)
  ⟨gs,0,a4,a6,a7,a8,a9,rfl,hp,Up.refl p M,hi,a_ hl (by decide),λi j f g h=>absurd h (xq _),jt _,rfl,id⟩
 intro m ρ M1 hI;obtain⟨hs,k,b4,b6,b7,b8,b9,rfl,g1,g2,g3,g4,g5,g6,g7,g8⟩:=hI
 by_cases c1:k<hs.length
 . have c1':(k:Int)<(hs.length:Int):=m_ c1
   by_cases c2:hs.length<6
   . have c2':(hs.length:Int)<6:=m_ c2
     right
     obtain⟨is,d4,d6,d7,d8,d9,M2,e,p2,u2,pr,inv2,l2,cl2⟩:=ar4 (W:=W) (M:=M1) (a0:=a0) (a2:=a2) (a3:=a3) (a4:=b4) (a6:=b6) (a7:=b7) (a8:=b8) (a9:=b9) (k:=k) hz g3 g1 (c_ g4 (by decide)) (show hs[k]?=some hs[k] by simp[c1]);refine⟨M1,.next,_,M2,10-(k+1),?_,?_,.inl rfl,by lia,is,k+1,d4,d6,d7,d8,d9,rfl,p2,g2.trans u2,inv2,by lia,?_,by lia,rfl,?_⟩
     . simp[Jo g1,c1',c2']
     . simp[J5,e]
     . intro i j f g hi' hj' hf hg
       have back:∀(i:Nat)(f:F),i<k+1->is[i]?=some f->hs[i]?=some f:=λi f hi hf=>by
        have Ig:i<hs.length:=b_ hi c1
        have:=Pz pr (show hs[i]?=some hs[i] by simp[Ig]);rw[hf] at this;rw[this];simp[Ig]
       have hf':=back i f hi' hf;have hg':=back j g hj' hg
       by_cases ei:i=k
       . subst ei
         have:f=hs[i]:=by have:=hf';simp[c1] at this;exact this.symm
         subst this;exact(cl2 j g hg').1
       . by_cases ej:j=k
         . subst ej
           have:g=hs[j]:=by have:=hg';simp[c1] at this;exact this.symm
           subst this;exact(cl2 i f hf').2
         . exact(g5 i j f g (by lia) (by lia) hf' hg').mono pr
     . intro e0
       have:=g8 e0;subst this;simp at c1
   . left
     have c2':¬(hs.length:Int)<6:=by lia
     exact⟨M1,by simp[Jo g1,c1',c2'],rfl,hs,g1,g2,g3,g4,λq=>absurd q c2,g8⟩
 . left
   have c1':¬(k:Int)<(hs.length:Int):=by lia
   refine⟨M1,by simp[Jo g1,c1'],rfl,hs,g1,g2,g3,g4,λ_=>?_,g8⟩;intro f hf g hg;obtain⟨i,hi',ei⟩:=ou hf;obtain⟨j,hj',ej⟩:=ou hg;exact g5 i j f g (b_ hi' (s_ c1)) (b_ hj' (s_ c1)) (by simp[hi',ei]) (by simp[hj',ej])
def Xy(hm:1<=m)(hz:Sz sz)(hg:Good sz fs)(hl:fs.length<=3)(hd:fu M d=some (fs.map F.toD)) :
 ∃(hs:List F)(M':cu),prog.call m 16 [d] M=.ok (.ref M.length) M'/\M'[M.length]?=some (.lst (hs.map F.toD))/\Af M M'/\M'.length=M.length+1/\Inv sz hs/\hs.length<=15/\(hs.length<6->Mf hs)/\(fs=[]->hs=[]):=by
 rw[call_of hm rfl];have hd1:fu (M++[.lst []]) d=some (fs.map F.toD):=(Af.app M _).fu hd;obtain⟨s,hs0,ρ1,M1,e1,gs,b2,b3,b4,rfl,h1,h2,h3,h4,h5⟩:=U9 (body:=λd ρ M=>match(Tg.names [2,3,4]).put d ρ with
  | some ρ'=>yu.den ⟨prog.call (m-1),prog.cls⟩ ρ' M|none=>.bad)
  (λi ρ M'=>∃(gs:List F)(b2 b3 b4:Option D),ρ=[some d,some (.ref M.length),b2,b3,b4,none,none,none,none,none]/\M'[M.length]?=some (.lst (gs.map F.toD))/\Up M.length (M++[.lst []]) M'/\Inv sz gs/\gs.length<=i/\(fs=[]->gs=[]))
  (ρ:=[some d,D.ref M.length,none,none,none,none,none,none,none,none]) (M:=M++[.lst []]) hd1
  ⟨[],none,none,none,rfl,by simp,Up.refl _ _,⟨λf hf=>by simp at hf,by simp,λf hf=>by simp at hf⟩,by simp,λ_=>rfl⟩
  (λi ρ M' hI=>by
   obtain⟨gs,b2,b3,b4,rfl,g1,g2,g3,g4,g5⟩:=hI;cases d with
   |vl xs=>exact hd
   |ref n =>
    have hn:n≠M.length:=by
     simp only[fu] at hd;cases e:M[n]? with
     |none=>rw[e] at hd;simp at hd|some o=>have:=wj e;exact h_ this
    simp only[fu] at hd1 ⊢;rw[g2.oth n hn];exact hd1
   | _=>simp[fu] at hd)
  (λi x ρ M' hx hI=>by
   obtain⟨gs,b2,b3,b4,rfl,g1,g2,g3,g4,g5⟩:=hI;obtain⟨f,hf,rfl⟩:∃f,fs[i]?=some f/\f.toD=x:=by simpa using hx
   have hfm:=au hf;have hil:=(ak.mp hf).1;obtain⟨M2,e2,p2,u2⟩:=ai1 (W:=⟨prog.call (m-1),prog.cls⟩) (M:=M') (a0:=some d) (a5:=none) (a6:=none) (a7:=none) (a8:=none) (a9:=none) hz (hg f hfm) g1 (c_ g4 (b_ hil (a_ hl (by decide))));refine⟨.next,_,M2,?_,.inl rfl,Zr gs f,some (.int f.a),some (.int f.b),some (Dk f.r),rfl,p2,g2.trans u2,amf g3 (hg f hfm),?_,λe=>?_⟩
   . rw[ame];exact e2
   . have:=amg gs f;exact a_ this (v_ g4)
   . subst e;simp at hf)
 have hgl:gs.length<=3:=by simp at h4;exact a_ h4 hl
 obtain⟨ρ2,M2,e2,q1,hs,p2,u2,inv2,l2,c2,z2⟩:=ai2 (W:=⟨prog.call (m-1),prog.cls⟩) (M:=M1) (a0:=some d) (a2:=b2) (a3:=b3) (a4:=b4) (a6:=none) (a7:=none) (a8:=none) (a9:=none) hz h3 h1 hgl;have up:=h2.trans u2;refine⟨hs,M2,?_,p2,λa o h=>?_,?_,inv2,l2,c2,λe=>z2 (h5 e)⟩
 . have e1':Fl.den ⟨prog.call (m-1),prog.cls⟩ [some d,D.ref M.length,none,none,none,none,none,none,none,none] (M++[.lst []])=.ok (.next,[some d,some (.ref M.length),b2,b3,b4,none,none,none,none,none]) M1:=by
    unfold Fl;rw[Q5];simp[hs0];exact e1
   simp[Fn.run,Nz,Ny,MW.new,e1',e2,q1]
 . have:=wj h
   rw[up.oth a (h_ this)];exact o7 h
 . rw[up.len];simp
noncomputable def eD(f:F):D:=.tup [.int f.a,.int f.b]
noncomputable def Hg(hs:List F):D:=.tup (hs.map eD)
noncomputable def ent(hs:List F)(f g:F):Int:=if f.comp g∈hs then(pos (f.comp g) hs:Int) else -1
noncomputable def ky(j k:Nat):List Kx:=[.inl (j:Int),.inl (k:Int)]
def Zt(h:ky j k=ky j' k'):j=j'/\k=k':=by simp[ky] at h;exact⟨D_ h.1,D_ h.2⟩
noncomputable def Xz(j k j' k':Nat):Prop:=j'<j\/(j'=j/\k'<k)
structure Tb(hs:List F)(j k:Nat)(gw:List (List Kx×D)):Prop where
 keys:∀p∈gw,∃(j' k':Nat)(f g:F),p=(ky j' k',.int (ent hs f g))/\hs[j']?=some f/\hs[k']?=some g/\f.b=g.a/\Xz j k j' k'
 look:∀(j' k':Nat)(f g:F),hs[j']?=some f->hs[k']?=some g->f.b=g.a->Xz j k j' k'->vz gw (ky j' k')=some (.int (ent hs f g))
 len:gw.length<=j*hs.length+k
def ai3{gw:List (List Kx×D)}(h:∀p∈gw,p.1≠q):vz gw q=none:=by unfold vz;rw[List.find?_eq_none.mpr (λp hp=>by simpa using h p hp)];rfl
def ai4{gw:List (List Kx×D)}(h:∀p∈gw,p.1≠q):Bw gw q v=gw++[(q,v)]:=by unfold Bw;rw[bw];simp only[vo,dg,not_exists,not_and];exact h
def Zu{gw:List (List Kx×D)}(h:q≠q'):vz (gw++[(q,v)]) q'=vz gw q':=by
 unfold vz;rw[List.find?_append];cases e:gw.find? (λp=>decide (p.1=q')) with
 |some p=>rfl|none=>simp[h]
def Zv{gw:List (List Kx×D)}(h:∀p∈gw,p.1≠q):vz (gw++[(q,v)]) q=some v:=by unfold vz;rw[List.find?_append,List.find?_eq_none.mpr (λp hp=>by simpa using h p hp)];simp
def Tb.skip(h:Tb hs j k gw)(hf:hs[j]?=some f)(hg:hs[k]?=some g)(n:f.b≠g.a):Tb hs j (k+1) gw:=by
 refine⟨λp hp=>?_,λj' k' f' g' a b c d=>?_,by have:=h.len;exact a_ this (w_ x_)⟩
 . obtain⟨j',k',f',g',e,a,b,c,d⟩:=h.keys p hp
   exact⟨j',k',f',g',e,a,b,c,by unfold Xz at *;lia⟩
 . by_cases q:j'=j/\k'=k
   . obtain⟨rfl,rfl⟩:=q
     rw[hf] at a;rw[hg] at b;cases a;cases b;exact absurd c n
   . exact h.look j' k' f' g' a b c (by unfold Xz at *;lia)
def Tb.fresh(h:Tb hs j k gw):∀p∈gw,p.1≠ky j k:=by
 intro p hp e;obtain⟨j',k',f',g',rfl,a,b,c,d⟩:=h.keys p hp;have:=Zt e;unfold Xz at d
 lia
def Tb.put(h:Tb hs j k gw)(hf:hs[j]?=some f)(hg:hs[k]?=some g)(n:f.b=g.a):Tb hs j (k+1) (Bw gw (ky j k) (.int (ent hs f g))):=by
 rw[ai4 h.fresh];refine⟨λp hp=>?_,λj' k' f' g' a b c d=>?_,by have:=h.len;simp;lia⟩
 . rcases dw.mp hp with q|q
   . obtain⟨j',k',f',g',e,a,b,c,d⟩:=h.keys p q
     exact⟨j',k',f',g',e,a,b,c,by unfold Xz at *;lia⟩
   . have:p=(ky j k,.int (ent hs f g)):=by simpa using q
     exact⟨j,k,f,g,this,hf,hg,n,by unfold Xz;lia⟩
 . by_cases q:j'=j/\k'=k
   . obtain⟨rfl,rfl⟩:=q
     rw[hf] at a;rw[hg] at b;cases a;cases b;exact Zv h.fresh
   . rw[Zu (λe=>q (by have:=Zt e;exact⟨this.1.symm,this.2.symm⟩))]
     exact h.look j' k' f' g' a b c (by unfold Xz at *;lia)
def Tb.next(h:Tb hs j hs.length gw):Tb hs (j+1) 0 gw:=by
 refine⟨λp hp=>?_,λj' k' f' g' a b c d=>?_,by have:=h.len;have e:(j+1)*hs.length=j*hs.length+hs.length:=Nat.succ_mul _ _;exact a_ this (a_ (g_ e) x_)⟩
 . obtain⟨j',k',f',g',e,a,b,c,d⟩:=h.keys p hp
   exact⟨j',k',f',g',e,a,b,c,by unfold Xz at *;lia⟩
 . have:=(ak.mp b).1
   exact h.look j' k' f' g' a b c (by unfold Xz at *;lia)
def amh{hs:List F}{j k:Nat}(hz:Sz sz)(hf:Wv sz f)(hg:Wv sz g)(h:f.b=g.a)(hq:M[q]?=some (.lst (hs.map F.toD)))(hj:hs[j]?=some f)(hk:hs[k]?=some g) :
 Eb.den W [a0,a1,D.ref q,a3,a4,D.int j,D.int k,a7] M=.ok (.vl ((f.comp g).r.map nD)) M:=by
 have hsm:(f.r.map nD).length<=100000:=by rw[du,hf.len];have:=hz f.a;exact a_ this.2 (by decide)
 unfold Eb;rw[Zg (ds:=f.r.map nD) (M1:=M) (g:=λd=>match d with|.int i=>nD (g.r.getD i.toNat 0)|_=>.non) (by simp[N7 hq hj,ama,Dk]) hsm (λx hx=>by
  obtain⟨y,hy,rfl⟩:=bf.mp hx;have hy':y<g.r.length:=by rw[hg.len,<- h];exact hf.ran y hy
  exact⟨_,rfl,by simp[N7 hq hk,ama,nD,amb M g.r hy']⟩)]
 simp[F.comp,nD]
def aey(hz:Sz sz)(hi:Inv sz hs)(hl:hs.length<=5)(hq:M[q]?=some (.lst (hs.map F.toD)))(hr:M[r]?=some (.dT gw))(hj:hs[j]?=some f)(hk:hs[k]?=some g)(ht:Tb hs j k gw) :
 ∃(b7:Option D)(M':cu)(kvs':List (List Kx×D)),Ag.den W [a0,a1,D.ref q,a3,D.ref r,D.int j,D.int k,a7] M=.ok (.next,[a0,a1,some (.ref q),a3,some (.ref r),some (.int j),some (.int k),b7]) M' /\
  M'[r]?=some (.dT kvs')/\Tb hs j (k+1) kvs'/\Up r M M':=by
 have hjl:=(ak.mp hj).1;have hkl:=(ak.mp hk).1;have hf:=hi.good f (au hj);have hg:=hi.good g (au hk)
 by_cases h:f.b=g.a
 . have hc:=amh (W:=W) (M:=M) (a0:=a0) (a1:=a1) (a3:=a3) (a4:=some (.ref r)) (a7:=a7) hz hf hg h hq hj hk
   have Hf:=al6 M (f.comp g) hs;have hkv:gw.length<100000:=by
    have:=ht.len;have:j*hs.length<=5*5:=Nat.mul_le_mul (e_ (b_ hjl hl)) hl
    lia
   have st:=aly (d:=.int (ent hs f g)) (b:=.tup [.int j,.int k]) hr rfl hkv;refine⟨some (f.comp g).toD,_,Bw gw (ky j k) (.int (ent hs f g)),?_,uw (o:=.dT (Bw gw (ky j k) (.int (ent hs f g)))) hr,ht.put hj hk h,Up.set _ _ _⟩
   by_cases m:f.comp g∈hs
   . have hix:Gi .index (.ref q) [(f.comp g).toD] M=.ok (.int (pos (f.comp g) hs)) M:=by simp[Gi,U8 (o6 hq),a4m,m]
     have hty:Ke .index (.ref q) M=true:=by simp[Ke,o6 hq]
     have he:ent hs f g=(pos (f.comp g) hs:Int):=cj m;rw[he] at st;simp[-eq_int,Ag,N7 hq hj,N7 hq hk,S8,Tc,Ak,h,hc,Zq,aex,Ow hq,Hf,m,hty,hix,st,he,ky]
   . have he:ent hs f g=-1:=bw m
     rw[he] at st;simp[-eq_int,Ag,N7 hq hj,N7 hq hk,S8,Tc,Ak,h,hc,Zq,aex,Ow hq,Hf,m,st,he,ky]
 . refine⟨a7,M,gw,?_,hr,ht.skip hj hk h,Up.refl r M⟩
   simp[-eq_int,Ag,N7 hq hj,N7 hq hk,S8,Tc,Ak,h]
def ax4(hz:Sz sz)(hi:Inv sz hs)(hl:hs.length<=5)(hq:M[q]?=some (.lst (hs.map F.toD)))(hr:M[r]?=some (.dT []))(hqr:q≠r) :
 ∃(ρ':Env)(M':cu)(gw:List (List Kx×D)),Ed.den W [a0,a1,D.ref q,a3,D.ref r,a5,a6,a7] M=.ok (.next,ρ') M'/\ρ'[2]?=some (some (.ref q))/\ρ'[3]?=some a3/\ρ'[4]?=some (some (.ref r))/\ρ'.length=8 /\
  M'[r]?=some (.dT gw)/\Tb hs hs.length 0 gw/\Up r M M':=by
 unfold Ed;have hlen:∀(M':cu),Up r M M'->ud .len [.ref q] M'=.ok (.int hs.length) M':=λM' u=>Jo (by rw[u.oth q hqr];exact hq)
 obtain⟨ρ',M',e,b5,b6,b7,gw,rfl,h1,h2,h3⟩:=yt (W:=W) (t:=.name 5) (b:=Ec) (it:=.blt .len (.o (.v 2))) (n:=hs.length) (ρ:=[a0,a1,D.ref q,a3,D.ref r,a5,a6,a7]) (M:=M) (M1:=M) (by simp[Jo hq]) (a_ hl (by decide))
  (λj ρ M'=>∃(b5 b6 b7:Option D)(gw:List (List Kx×D)),ρ=[a0,a1,some (.ref q),a3,some (.ref r),b5,b6,b7]/\M'[r]?=some (.dT gw)/\Tb hs j 0 gw/\Up r M M')
  ⟨a5,a6,a7,[],rfl,hr,⟨λp hp=>by simp at hp,λj' k' f g a b c d=>by unfold Xz at d;lia,by simp⟩,Up.refl r M⟩
  (λj ρ M1 hj hI=>by
   obtain⟨b5,b6,b7,gw,rfl,g1,g2,g3⟩:=hI;have hq1:M1[q]?=some (.lst (hs.map F.toD)):=by rw[g3.oth q hqr];exact hq
   obtain⟨ρ2,M2,e2,c6,c7,bbp,rfl,k1,k2,k3⟩:=yt (W:=W) (t:=.name 6) (b:=Ag) (it:=.blt .len (.o (.v 2))) (n:=hs.length) (ρ:=[a0,a1,D.ref q,a3,D.ref r,D.int j,b6,b7]) (M:=M1) (M1:=M1) (by simp[Jo hq1]) (a_ hl (by decide))
    (λk ρ M'=>∃(b6 b7:Option D)(gw:List (List Kx×D)),ρ=[a0,a1,some (.ref q),a3,some (.ref r),some (.int j),b6,b7]/\M'[r]?=some (.dT gw)/\Tb hs j k gw/\Up r M1 M')
    ⟨b6,b7,gw,rfl,g1,g2,Up.refl r M1⟩
    (λk ρ M2 hk hI=>by
     obtain⟨b6,b7,gw,rfl,k1,k2,k3⟩:=hI;have hq2:M2[q]?=some (.lst (hs.map F.toD)):=by rw[k3.oth q hqr];exact hq1
     obtain⟨c7,M3,bbq,e3,p3,t3,u3⟩:=aey (W:=W) (M:=M2) (a0:=a0) (a1:=a1) (a3:=a3) (a7:=b7) hz hi hl hq2 k1 (show hs[j]?=some hs[j] by simp[hj]) (show hs[k]?=some hs[k] by simp[hk]) k2;exact⟨_,.next,_,M3,rfl,e3,.inl rfl,_,c7,bbq,rfl,p3,t3,k3.trans u3⟩)
   exact⟨_,.next,_,M2,rfl,by simp[Ec,Iv,e2],  .inl rfl,some (.int j),c6,c7,bbp,rfl,k1,k2.next,g3.trans k3⟩)
 exact⟨_,M',gw,e,rfl,rfl,rfl,rfl,h1,h2,h3⟩
structure Kf(sz:Nat->Nat)(K:Nat)(hs:List F)(gw:List (List Kx×D)):Prop where
 hz:Sz sz
 inv:Inv sz hs
 cl:Mf hs
 len:hs.length<=5
 k1:1<=K
 k3:K<=3
 ami:∀f∈hs,f.a<K
 ai5:∀f∈hs,f.b<K
 tb:Tb hs hs.length 0 gw
theorem abj:∀(xs:Y3)(a:Nat),∃v:Nat,(xs.map λ(x:Nat)=>(x:Int)).foldl (λm x=>if m<x then x else m) (a:Int)=(v:Int)/\a<=v/\(∀x∈xs,x<=v)/\(v=a\/v∈xs)
 |[],a=>⟨a,rfl,bu _,by simp,.inl rfl⟩
 |x::xs,a=>by
  obtain⟨v,e,h1,h2,h3⟩:=abj xs (if a<x then x else a);refine⟨v,?_,?_,λy hy=>?_,?_⟩
  . rw[gm,List.foldl_cons,<- e]
    congr 1
    by_cases q:a<x
    . have:(a:Int)<(x:Int):=m_ q
      simp[q]
    . have:¬(a:Int)<(x:Int):=by lia
      simp[q]
  . split at h1<;>omega
  . rcases bx.mp hy with q|q
    . subst q;split at h1<;>omega
    . exact h2 y q
  . rcases h3 with q|q
    . by_cases w:a<x
      . right;rw[cj w] at q;subst q;simp
      . left;rw[bw w] at q;exact q
    . right;exact bc _ q
theorem abk:∀xs:List Nat,Xj (xs.map nD)=some (xs.map λ(x:Nat)=>(x:Int))
 |[]=>rfl|x::xs=>by simp[nD,Xj,show Xj (xs.map nD)=_ from abk xs]
def amj(h:xs≠[]):∃v:Nat,ud .max [.vl (xs.map nD)] M=.ok (.int v) M/\(∀x∈xs,x<=v)/\v∈xs:=by
 obtain⟨a,r,rfl⟩:∃a r,xs=a::r:=List.exists_cons_of_ne_nil h;obtain⟨v,e,h1,h2,h3⟩:=abj r a;refine⟨v,?_,λx hx=>?_,?_⟩
 . have:=abk (a::r)
   simp only[ud,aru,aiy,uo,this];simp only[gm,axo,uo,u9,Res.Aw,e]
 . rcases bx.mp hx with q|q
   . subst q;exact h1
   . exact h2 x q
 . rcases h3 with q|q
   . rw[q];simp
   . exact bc _ q
def max2(a b:Nat):ud .max [.int a,.int b] M=.ok (nD (max a b)) M:=by
 by_cases h:a<b
 . have h':(a:Int)<b:=m_ h
   have e:max a b=b:=by lia
   simp[ud,h,nD,e]
 . have h':¬(a:Int)<b:=by lia
   have e:max a b=a:=by lia
   simp[ud,h,nD,e]
noncomputable def toF:D->F
 |.tup [.int a,.int b,.tup r]=>⟨a.toNat,b.toNat,r.map λd=>match d with|.int i=>i.toNat|_=>0⟩
 |_=>⟨0,0,[]⟩
def Uj(f:F):toF f.toD=f:=by
 obtain⟨a,b,r⟩:=f;show F.mk a b ((r.map nD).map λd=>match d with|.int i=>i.toNat|_=>0)=F.mk a b r;rw[yr]
 conv=>rhs;rw[<- List.map_id r]
 exact p7 _ (qb λx _=>rfl)
def amk{hs:List F}(hl:hs.length<=100000)(hq:M[q]?=some (.lst (hs.map F.toD))) :
 Ef.den W [a0,a1,D.ref q,a3,a4,a5,a6,a7] M=.ok (.vl ((hs.map λf=>max f.a f.b).map nD)) M:=by
 unfold Ef;rw[yg (d:=.ref q) (ds:=hs.map F.toD) (M1:=M) (g:=λd=>nD (max (toF d).a (toF d).b)) (by simp) (o6 hq) (by simpa using hl) (λx hx=>by
  obtain⟨f,hf,rfl⟩:=bf.mp hx;exact⟨_,ame _ _ _ _ _,by simp[max2,Uj]⟩)]
 simp[Uj]
def ai6{hs:List F}(hρ:ρ[2]?=some (some (.ref q)))(hρl:ρ.length=8)(hl:hs.length<=100000)(hq:M[q]?=some (.lst (hs.map F.toD))) :
 Ea.den W ρ M=.ok (.vl (hs.map eD)) M:=by
 unfold Ea;rw[yg (d:=.ref q) (ds:=hs.map F.toD) (M1:=M) (g:=λd=>eD (toF d)) (by simp[hρ]) (o6 hq) (by simpa using hl) (λx hx=>by
  obtain⟨f,hf,rfl⟩:=bf.mp hx;refine⟨_,ame _ _ _ _ _,?_⟩;rw[Uj];simp[eD,List.getElem?_set,hρl])]
 simp[Uj]
def ai7(hm:1<=m)(hz:Sz sz)(hs0:T4 t f M)(hg:Good sz fs)(hl:fs.length<=3)(hd:fu M d=some (fs.map F.toD))(hq:M[q]?=some (.lst (hs.map F.toD)))(hqt:q≠t)(hi:Inv sz hs)(hhl:hs.length<=15)(hc:hs.length<6->Mf hs)(h0:fs=[]->hs=[]) :
 ∃(ρ':Env)(M':cu),Eg.den ⟨prog.call m,prog.cls⟩ [D.ref t,some d,D.ref q,a3,a4,a5,a6,a7] M=.ok (.next,ρ') M'/\∃(d':D)(q':Nat)(Nk:List F),ρ'=[some (.ref t),some d',some (.ref q'),a3,a4,a5,a6,a7] /\
  M'[q']?=some (.lst (Nk.map F.toD))/\q'≠t/\Inv sz Nk/\Nk.length<=5/\Mf Nk/\Af M M':=by
 unfold Eg;rw[Zc];refine Nh (λn ρ M'=>∃(d:D)(fs hs:List F)(q:Nat),ρ=[some (.ref t),some d,some (.ref q),a3,a4,a5,a6,a7]/\fs.length=n/\Good sz fs/\fs.length<=3/\fu M' d=some (fs.map F.toD)/\M'[q]?=some (.lst (hs.map F.toD))/\q≠t /\
  Inv sz hs/\hs.length<=15/\(hs.length<6->Mf hs)/\(fs=[]->hs=[])/\Af M M')
  (fun ρ' M'=>∃(d':D)(q':Nat)(Nk:List F),ρ'=[some (.ref t),some d',some (.ref q'),a3,a4,a5,a6,a7]/\M'[q']?=some (.lst (Nk.map F.toD))/\q'≠t/\Inv sz Nk/\Nk.length<=5/\Mf Nk/\Af M M') ?_ aes fs.length _ M (by unfold aes;exact c_ hl (by decide))
  ⟨d,fs,hs,q,rfl,rfl,hg,hl,hd,hq,hqt,hi,hhl,hc,h0,Af.refl M⟩
 intro n ρ M1 hI;obtain⟨d,fs,hs,q,rfl,rfl,g1,g2,g3,g4,g5,g6,g7,g8,g9,g10⟩:=hI
 by_cases c:5<hs.length
 . right
   have c':(5:Int)<(hs.length:Int):=m_ c
   have Sg:fs≠[]:=λe=>by rw[g9 e] at c;simp at c
   have bh4:1<=fs.length:=List.length_pos_iff.mpr Sg
   have bbr:abb d none (some (-1)) M1=some (.vl (fs.dropLast.map F.toD)):=by
    have hcl:aeo (fs.map F.toD) none (some (-1))=fs.dropLast.map F.toD:=by
     have e2:((-1:Int)+(fs.length:Int)).toNat=fs.length-1:=by lia
     simp[aeo,clip,e2,List.map_dropLast,List.dropLast_eq_take]
    cases d with
    |tup ds=>simp[fu] at g3|vl ds=>simp only[abb,g3,u9,hcl]|ref n=>simp only[abb,g3,u9,hcl]|_=>simp[fu] at g3
   have gd:Good sz fs.dropLast:=λf hf=>g1 f (List.dropLast_subset fs hf)
   obtain⟨Nk,M2,e,p2,k2,l2,i2,b2,c2,z2⟩:=Xy (M:=M1) (m:=m) (d:=.vl (fs.dropLast.map F.toD)) hm hz gd (by simp;exact a_ g2 (by decide)) rfl;have ht1:t<M1.length:=by obtain⟨n,h,_⟩:=hs0;exact wj (g10 t _ h)
   refine⟨M1,.next,_,M2,fs.length-1,?_,?_,.inl rfl,by lia,.vl (fs.dropLast.map F.toD),fs.dropLast,Nk,M1.length,rfl,by simp,gd,by simp;exact a_ g2 (by decide),rfl,p2,i_ ht1,i2,b2,c2,z2,g10.trans k2⟩
   . simp[Jo g4,c']
   . simp[-List.map_dropLast,Iw,bbr,e]
 . left
   have c':¬(5:Int)<(hs.length:Int):=by lia
   exact⟨M1,by simp[Jo g4,c'],d,q,hs,rfl,g4,g5,g6,s_ c,g8 (c_ (s_ c) (by decide)),g10⟩
def aez(hm:3<=m)(hs0:T4 t f M):∃(K r:Nat)(sz:Nat->Nat)(hs:List F)(gw:List (List Kx×D))(M':cu),prog.call m 17 [.ref t] M=.ok (.tup [.int K,Hg hs,.ref r]) M'/\M'[r]?=some (.dT gw)/\M.length<=r/\Kf sz K hs gw/\St t f M M':=by
 rw[call_of (a_ (by decide) hm) rfl];have ht0:t<M.length:=by obtain⟨n,h,_⟩:=hs0;exact wj h
 obtain⟨d,M1,fs,sz,e1,d1,n1,hz,g1,l1,s1⟩:=al9 (m:=m-1) (r_ hm) hs0;obtain⟨hs,M2,e2,p2,k2,ll2,i2,b2,c2,z2⟩:=Xy (M:=M1) (m:=m-1) (d:=d) (r_ (a_ (by decide) hm)) hz g1 l1 d1;have ht1:t<M1.length:=by obtain⟨n,h,_⟩:=s1.has;exact wj h
 have s2:St t f M1 M2:=St.of s1.has k2;obtain⟨ρ3,M3,e3,d',q,Nk,rfl,p3,q3,i3,l3,c3,k3⟩:=ai7 (M:=M2) (m:=m-1) (t:=t) (f:=f) (d:=d) (fs:=fs) (hs:=hs) (q:=M1.length) (a3:=none) (a4:=none) (a5:=none) (a6:=none) (a7:=none) (r_ (a_ (by decide) hm)) hz s2.has g1 l1 (k2.fu d1) p2 (i_ ht1) i2 b2 c2 z2;have s3:St t f M2 M3:=St.of s2.has k3;have s03:=s1.trans (s2.trans s3);have av9:=amk (W:=⟨prog.call (m-1),prog.cls⟩) (M:=M3) (a0:=some (.ref t)) (a1:=some d') (a3:=none) (a4:=none) (a5:=none) (a6:=none) (a7:=none) (by exact a_ l3 (by decide):Nk.length<=100000) p3;obtain⟨v,ev,hv1,hv2⟩:=amj (M:=M3) (xs:=(Nk.map λf:F=>max f.a f.b)++[0]) (by simp);have ax6:Ey .add (.vl ((Nk.map λf:F=>max f.a f.b).map nD)) (.vl [.int 0]) M3=.ok (.vl (((Nk.map λf:F=>max f.a f.b)++[0]).map nD)) M3:=by rw[Xm _ _ (by simp;exact a_ l3 (by decide))];simp[nD]
 generalize hX:(D.vl ((Nk.map λf:F=>max f.a f.b).map nD))=X at av9 ax6;generalize hY:(D.vl (((Nk.map λf:F=>max f.a f.b)++[0]).map nD))=Y at ev ax6;have hv3:v<=2:=by
  rcases dw.mp hv2 with w|w
  . obtain⟨x,hx,rfl⟩:=bf.mp w
    have:=(i3.good x hx).a;have:=(i3.good x hx).b;lia
  . simp at w;exact a_ (f_ w) (jt _)
 have heq:wz M3 (.ref q) (.vl [])=some (decide (Nk=[])):=by
  simp only[wz];cases Nk with
  |nil=>simp[Km,fu,p3,Q3]|cons a l=>simp[Km,fu,p3]
 obtain⟨K,M4,hK,k1,k3',ka,kb,p4,s4,l4⟩:∃(K:Nat)(M4:cu),
  (Bg.iff (.cmp .eq (.v 2) (.Fz .nil)) (.o (.asg (.tg (.name 3)) (.bin .add (.i 1) (.call 14 (.p (.v 0) (.i 3)))))) .nil).den ⟨prog.call (m-1),prog.cls⟩ [D.ref t,some d',D.ref q,D.int (1+(v:Int)),none,none,none,none] M3
   = .ok (.next,[some (.ref t),some d',some (.ref q),some (.int K),none,none,none,none]) M4/\1<=K/\K<=3/\(∀f∈Nk,f.a<K)/\(∀f∈Nk,f.b<K)/\M4[q]?=some (.lst (Nk.map F.toD))/\St t f M3 M4/\M4.length=M3.length:=by
  by_cases he:Nk=[]
  . obtain⟨w,M4,ew,lw,sw,llw⟩:=Aq (m:=m-1) (r_ (a_ (by decide) hm)) s3.has (many:=3) (by decide) (by decide)
    refine⟨1+w,M4,?_,x_,by lia,by simp[he],by simp[he],sw.keep q _ q3 p3,sw,llw⟩;simp[heq,he,ew]
  . refine⟨1+v,M3,?_,x_,by lia,λx hx=>?_,λx hx=>?_,p3,St.of s3.has (Af.refl _),rfl⟩
    . simp[heq,he]
    . have:=hv1 (max x.a x.b) (yc _ (bf.mpr ⟨x,hx,rfl⟩));lia
    . have:=hv1 (max x.a x.b) (yc _ (bf.mpr ⟨x,hx,rfl⟩));lia
 have p5:(M4++[.dT []])[q]?=some (.lst (Nk.map F.toD)):=o7 p4;have hql:=wj p4;obtain⟨ρ6,M6,gw,e6,r2,r3,r4,r8,p6,t6,u6⟩:=ax4 (W:=⟨prog.call (m-1),prog.cls⟩) (M:=M4++[.dT []]) (q:=q) (r:=M4.length) (a0:=some (.ref t)) (a1:=some d') (a3:=some (.int K)) (a5:=none) (a6:=none) (a7:=none) hz i3 l3 p5 (by simp) (h_ hql);have p6q:M6[q]?=some (.lst (Nk.map F.toD)):=by rw[u6.oth q (h_ hql)];exact p5
 have hc1:=ai6 (W:=⟨prog.call (m-1),prog.cls⟩) (M:=M6) r2 r8 (by exact a_ l3 (by decide):Nk.length<=100000) p6q;have s04:=s03.trans s4;refine⟨K,M4.length,sz,Nk,gw,M6,?_,p6,s04.len,⟨hz,i3,c3,l3,k1,k3',ka,kb,t6⟩,?_⟩
 . simp only[Fn.run,K9,K8]
   simp[-a4d,e1,e2,e3,av9,ax6,ev,hK,MW.new,e6,r3,r4,hc1,Mh,Hg]
 . refine s04.trans ⟨?_,?_,λa o na h=>?_⟩
   . rw[u6.len];simp
   . obtain⟨n,h,o⟩:=s4.has
     exact⟨n,by rw[u6.oth t (by have:=wj h;exact h_ this)];exact o7 h,o⟩
   . rw[u6.oth a (by have:=wj h;exact h_ this)];exact o7 h
noncomputable def pD(p:Nat×Nat):D:=.tup [.int p.1,.int p.2]
noncomputable def Meet(hs:List F)(j k:Nat):Prop:=∃f g,hs[j]?=some f/\hs[k]?=some g/\f.b=g.a
structure Ps(hs:List F)(j k:Nat)(ps:List (Nat×Nat)):Prop where
 all:∀p:Nat×Nat,p∈ps↔Meet hs p.1 p.2/\Xz j k p.1 p.2
 len:ps.length<=j*hs.length+k
def Ps.skip(h:Ps hs j k ps)(hf:hs[j]?=some f)(hg:hs[k]?=some g)(n:f.b≠g.a):Ps hs j (k+1) ps:=by
 refine⟨λp=>?_,by have:=h.len;exact a_ this (w_ x_)⟩;rw[h.all p];constructor
 . exact λq=>⟨q.1,by have:=q.2;unfold Xz at *;lia⟩
 . intro q
   refine⟨q.1,?_⟩;have hb:=q.2
   by_cases e:p.1=j/\p.2=k
   . obtain⟨f',g',a,b,c⟩:=q.1
     rw[e.1,hf] at a;rw[e.2,hg] at b;cases a;cases b;exact absurd c n
   . unfold Xz at *;lia
def Ps.put(h:Ps hs j k ps)(hf:hs[j]?=some f)(hg:hs[k]?=some g)(n:f.b=g.a):Ps hs j (k+1) (ps++[(j,k)]):=by
 refine⟨λp=>?_,by have:=h.len;simp;lia⟩;rw[dw,h.all p,q9];constructor
 . rintro(q|q)
   . exact⟨q.1,by have:=q.2;unfold Xz at *;lia⟩
   . subst q;exact⟨⟨f,g,hf,hg,n⟩,by unfold Xz;lia⟩
 . intro q
   by_cases e:p.1=j/\p.2=k
   . right;exact Prod.ext e.1 e.2
   . left;exact⟨q.1,by have:=q.2;unfold Xz at *;lia⟩
def Ps.next(h:Ps hs j hs.length ps):Ps hs (j+1) 0 ps:=by
 refine⟨λp=>?_,by have:=h.len;have e:(j+1)*hs.length=j*hs.length+hs.length:=Nat.succ_mul _ _;exact a_ this (a_ (g_ e) x_)⟩;rw[h.all p];constructor
 . exact λq=>⟨q.1,by have:=q.2;unfold Xz at *;lia⟩
 . intro q
   refine⟨q.1,?_⟩;obtain⟨f,g,a,b,c⟩:=q.1;have:=(ak.mp b).1;have:=q.2;unfold Xz at *;lia
def X3(f:F)(M:cu):zy (eD f) (.int 0) M=some (.int f.a):=rfl
def X4(f:F)(M:cu):zy (eD f) (.int 1) M=some (.int f.b):=rfl
def P0{i:Nat}(h:hs[i]?=some f):zy (Hg hs) (.int i) M=some (eD f):=Hu q_ (by simp[h])
def Ox:ud .len [Hg hs] M=.ok (.int hs.length) M:=by simp[ud,Aa,Hg]
def Ja(x y:D)(i j:Nat)(ρ:Env):(Tg.names [i,j]).put (.tup [x,y]) ρ=some ((ρ.set i (some x)).set j (some y)):=rfl
def abl(hl:hs.length<=5)(hq:M[q]?=some (.lst (ps.map pD)))(hj:hs[j]?=some f)(hk:hs[k]?=some g)(hp:Ps hs j k ps) :
 ∃(M':cu)(ps':List (Nat×Nat)),Ao.den W [a0,D.ref q,D.int j,eD f,D.int k,eD g] M=.ok (.next,[a0,some (.ref q),some (.int j),some (eD f),some (.int k),some (eD g)]) M' /\
  M'[q]?=some (.lst (ps'.map pD))/\Ps hs j (k+1) ps'/\Up q M M':=by
 have hjl:=(ak.mp hj).1;have hkl:=(ak.mp hk).1
 by_cases h:f.b=g.a
 . have Ge:(ps.map pD).length<100000:=by
    have:=hp.len;have:j*hs.length<=5*5:=Nat.mul_le_mul (e_ (b_ hjl hl)) hl
    rw[du];lia
   have ap:=Cw (d:=.tup [.int j,.int k]) hq Ge;refine⟨M.set q (.lst ((ps++[(j,k)]).map pD)),ps++[(j,k)],?_,uw hq,hp.put hj hk h,Up.set _ _ _⟩;simp[-eq_int,Ao,X3,X4,Ak,h,Dr hq,ap,pD]
 . refine⟨M,ps,?_,hq,hp.skip hj hk h,Up.refl q M⟩
   simp[-eq_int,Ao,X3,X4,Ak,h]
def abm(hm:1<=m)(hl:hs.length<=5) :
 ∃(M':cu)(ps:List (Nat×Nat)),prog.call m 7 [Hg hs] M=.ok (.ref M.length) M'/\M'[M.length]?=some (.lst (ps.map pD))/\Ps hs hs.length 0 ps/\Up M.length (M++[.lst []]) M':=by
 rw[call_of hm rfl];obtain⟨ρ',M',e,b2,b3,b4,b5,ps,rfl,h1,h2,h3⟩:=Ss (W:=⟨prog.call (m-1),prog.cls⟩) (t:=.names [2,3]) (b:=Cy) (it:=.v 0) (ds:=hs.map eD) (ρ:=[Hg hs,D.ref M.length,none,none,none,none]) (M:=M++[.lst []]) (M1:=M++[.lst []]) (by simp[Hg])
  (λj ρ M'=>∃(b2 b3 b4 b5:Option D)(ps:List (Nat×Nat)),ρ=[some (Hg hs),some (.ref M.length),b2,b3,b4,b5]/\M'[M.length]?=some (.lst (ps.map pD))/\Ps hs j 0 ps/\Up M.length (M++[.lst []]) M')
  ⟨none,none,none,none,[],rfl,by simp,⟨λp=>by simp[Xz],by simp⟩,Up.refl _ _⟩
  (λj x ρ M1 hj hI=>by
   obtain⟨b2,b3,b4,b5,ps,rfl,g1,g2,g3⟩:=hI;obtain⟨f,hf,rfl⟩:∃f,hs[j]?=some f/\eD f=x:=by simpa using hj
   obtain⟨ρ2,M2,e2,c4,c5,ps2,rfl,k1,k2,k3⟩:=Ss (W:=⟨prog.call (m-1),prog.cls⟩) (t:=.names [4,5]) (b:=Ao) (it:=.v 0) (ds:=hs.map eD) (ρ:=[Hg hs,D.ref M.length,D.int j,eD f,b4,b5]) (M:=M1) (M1:=M1) (by simp[Hg])
    (λk ρ M'=>∃(b4 b5:Option D)(ps:List (Nat×Nat)),ρ=[some (Hg hs),some (.ref M.length),some (.int j),some (eD f),b4,b5]/\M'[M.length]?=some (.lst (ps.map pD))/\Ps hs j k ps/\Up M.length M1 M')
    ⟨b4,b5,ps,rfl,g1,g2,Up.refl _ _⟩
    (λk y ρ M2 hk hI=>by
     obtain⟨b4,b5,ps,rfl,k1,k2,k3⟩:=hI;obtain⟨g,hg,rfl⟩:∃g,hs[k]?=some g/\eD g=y:=by simpa using hk
     obtain⟨M3,ps3,e3,p3,t3,u3⟩:=abl (W:=⟨prog.call (m-1),prog.cls⟩) (M:=M2) (a0:=some (Hg hs)) hl k1 hf hg k2;exact⟨_,.next,_,M3,Ja _ _ _ _ _,e3,.inl rfl,some (.int k),some (eD g),ps3,rfl,p3,t3,k3.trans u3⟩)
   rw[du] at k2;exact⟨_,.next,_,M2,Ja _ _ _ _ _,by simp[Cy,Hn,e2],.inl rfl,some (.int j),some (eD f),c4,c5,ps2,rfl,k1,k2.next,g3.trans k3⟩)
 rw[du] at h2;refine⟨M',ps,?_,h1,h2,h3⟩;simp[Fn.run,J1,J0,MW.new,Ho,e]
noncomputable def bothW(hs:List F)(gw:List (List Kx×D))(x y:Int):Option D:=if x=-1 then some (.int y) else if y=-1 then some (.int x) else vz gw [.inl x,.inl y]
def ags(hm:1<=m)(hr:M[r]?=some (.dT gw))(h:bothW hs gw x y=some v):prog.call m 6 [.ref r,.int x,.int y] M=.ok v M:=by
 rw[call_of hm rfl];unfold bothW at h
 by_cases hx:x=-1
 . rw[cj hx] at h;cases h
   simp[Fn.run,Hm,Hl,hx]
 . rw[bw hx] at h
   by_cases hy:y=-1
   . rw[cj hy] at h;cases h
     simp[Fn.run,Hm,Hl,hx,hy]
   . rw[bw hy] at h
     simp[Fn.run,Hm,Hl,hx,hy,abe hr (Xn x y),h]
noncomputable def ai8(hs:List F)(c:F):Int:=if c∈hs then(pos c hs:Int) else -1
def Oz(hs:List F)(f g:F):ent hs f g=ai8 hs (f.comp g):=rfl
def agt(nd:hs.Nodup){i:Nat}(h:hs[i]?=some f):ai8 hs f=i:=by have m:f∈hs:=au h;rw[ai8,cj m,aeu nd h]
def Ri:∀k:List Kx,Q0 (alj k)=some k:=by
 intro k;show Y9 (k.map ali)=some k
 induction k with
 |nil=>rfl|cons a l ih=>cases a<;>simp[Y9,ali,Qz,ih]
theorem abn:∀gw:List (List Kx×D),Cr (gw.map λp=>alj p.1)=some (gw.map (·.1))
 |[]=>rfl|p::l=>by simp[Cr,Ri,abn l]
theorem abo:∀ps:List (Nat×Nat),Cr (ps.map pD)=some (ps.map λp=>ky p.1 p.2)
 |[]=>rfl|p::l=>by simp[Cr,pD,abo l,ky]
def aml{gw:List (List Kx×D)}(h:vz gw q=some v):∃p∈gw,p.1=q:=by
 unfold vz at h;cases e:gw.find? (λp=>decide (p.1=q)) with
 |none=>rw[e] at h;cases h|some p=>exact⟨p,List.mem_of_find?_eq_some e,by simpa using List.find?_some e⟩
section
variable{sz:Nat->Nat}{K:Nat}{hs:List F}{gw:List (List Kx×D)}(P:Kf sz K hs gw)
include P
theorem Kf.look(hj:hs[j]?=some f)(hk:hs[k]?=some g)(h:f.b=g.a):vz gw (ky j k)=some (.int (ent hs f g)) :=
 P.tb.look j k f g hj hk h (.inl (ak.mp hj).1)
theorem Kf.no(h:¬Meet hs j k):vz gw (ky j k)=none:=by apply ai3;intro p hp e;obtain⟨j',k',f,g,rfl,a,b,c,_⟩:=P.tb.keys p hp;obtain⟨rfl,rfl⟩:=Zt e;exact h ⟨f,g,a,b,c⟩
theorem Kf.kl:gw.length<=25:=by
 have:=P.tb.len;have:hs.length*hs.length<=5*5:=Nat.mul_le_mul P.len P.len
 lia
theorem Kf.plain:Cu (gw.map (·.1))=true:=by have:=P.kl;simp only[Cu,du,ao,dg];refine⟨a_ this (by decide),?_⟩;rw[ik];intro k hk;obtain⟨p,hp,rfl⟩:=bf.mp hk;obtain⟨j,k,f,g,rfl,_⟩:=P.tb.keys p hp;simp[ky]
theorem Kf.sm:aer gw=true:=by
 unfold aer;rw[ik];intro p hp;obtain⟨j,k,f,g,rfl,a,b,_⟩:=P.tb.keys p hp;have:=(ak.mp a).1;have:=(ak.mp b).1;have:=P.len;simp[ky]
 lia
theorem Kf.same(h:Ps hs hs.length 0 ps):Hi (gw.map (·.1)) (ps.map λp=>ky p.1 p.2)=true:=by
 unfold Hi;rw[ao,ik,ik];constructor
 . intro x hx
   obtain⟨p,hp,rfl⟩:=bf.mp hx;obtain⟨j,k,f,g,rfl,a,b,c,d⟩:=P.tb.keys p hp;rw[vo];exact⟨ky j k,bf.mpr ⟨(j,k),(h.all (j,k)).mpr ⟨⟨f,g,a,b,c⟩,d⟩,rfl⟩,by simp⟩
 . intro y hy
   obtain⟨p,hp,rfl⟩:=bf.mp hy;obtain⟨⟨f,g,a,b,c⟩,d⟩:=(h.all p).mp hp;obtain⟨q,hq,e⟩:=aml (P.look a b c);rw[vo];exact⟨q.1,bf.mpr ⟨q,hq,rfl⟩,by simp[e]⟩
theorem Kf.G8(h:c∈hs\/c.Ov):(ai8 hs c=-1/\c.Ov)\/∃i:Nat,hs[i]?=some c/\ai8 hs c=i:=by
 by_cases m:c∈hs
 . exact .inr ⟨pos c hs,Zm c m,cj m⟩
 . exact .inl ⟨bw m,h.resolve_left m⟩
theorem Kf.ax7{j k l:Nat}(hj:hs[j]?=some f)(hk:hs[k]?=some g)(hl:hs[l]?=some h)(e1:f.b=g.a)(e2:g.b=h.a) :
 ∃v:Int,bothW hs gw (ent hs f g) l=some (.int v)/\bothW hs gw j (ent hs g h)=some (.int v):=by
 have mf:=au hj;have mg:=au hk;have mh:=au hl;have of:=P.inv.good f mf;have og:=P.inv.good g mg;have oh:=P.inv.good h mh;have as:=aev (h:=h) of og e1;rw[Oz,Oz];have nj:¬((j:Int)=-1):=by lia
 have nl:¬((l:Int)=-1):=by lia
 rcases P.G8 (P.cl f mf g mg e1) with⟨x1,i1⟩|⟨u,hu,x1⟩
 . have c1:=Zn (of.comp og e1) i1
   have ha:f.a=g.b:=i1.1;have left:(f.comp g).comp h=h:=by rw[c1];show(idF sz f.a).comp h=h;rw[ha,e2];exact id_comp oh
   rcases P.G8 (P.cl g mg h mh e2) with⟨x2,i2⟩|⟨w,hw,x2⟩
   . have c2:=Zn (og.comp oh e2) i2
     have right:f.comp (g.comp h)=f:=by rw[c2];show f.comp (idF sz g.a)=f;rw[<- e1];exact comp_id of
     have fh:f=h:=by rw[<- right,<- as,left]
     have jl:j=l:=by rw[<- aeu P.inv.nd hj,<- aeu P.inv.nd hl,fh]
     refine⟨l,by simp[bothW,x1],?_⟩;rw[x2,bothW,bw nj,cj rfl,jl]
   . have nw:¬((w:Int)=-1):=by lia
     refine⟨l,by simp[bothW,x1],?_⟩;rw[x2,bothW,bw nj,bw nw];have:=P.look hj hw (show f.b=(g.comp h).a from e1);rw[Oz,<- as,left,agt P.inv.nd hl] at this;exact this
 . have nu:¬((u:Int)=-1):=by lia
   have lu:=P.look hu hl (show(f.comp g).b=h.a from e2);rcases P.G8 (P.cl g mg h mh e2) with⟨x2,i2⟩|⟨w,hw,x2⟩
   . have c2:=Zn (og.comp oh e2) i2
     have right:f.comp (g.comp h)=f:=by rw[c2];show f.comp (idF sz g.a)=f;rw[<- e1];exact comp_id of
     refine⟨j,?_,?_⟩
     . rw[x1,bothW,bw nu,bw nl]
       rw[Oz,as,right,agt P.inv.nd hj] at lu;exact lu
     . rw[x2,bothW,bw nj,cj rfl]
   . have nw:¬((w:Int)=-1):=by lia
     refine⟨ai8 hs ((f.comp g).comp h),?_,?_⟩
     . rw[x1,bothW,bw nu,bw nl];exact lu
     . rw[x2,bothW,bw nj,bw nw]
       have:=P.look hj hw (show f.b=(g.comp h).a from e1);rw[Oz,<- as] at this;exact this
end
def ar6(hm:1<=m)(P:Kf sz K hs gw):prog.call m 9 [.int K,Hg hs] M=.ok .non M:=by
 rw[call_of hm rfl];obtain⟨ρ',M',e,⟨b2,rfl⟩,rfl⟩:=abf (W:=⟨prog.call (m-1),prog.cls⟩) (t:=.name 2) (b:=Dy) (it:=.v 1) (ds:=hs.map eD) (ρ:=[D.int K,Hg hs,none]) (M:=M) (M1:=M) (by simp[Hg])
  (λj ρ M'=>(∃b2:Option D,ρ=[some (.int K),some (Hg hs),b2])/\M'=M) ⟨⟨none,rfl⟩,rfl⟩
  (λj x ρ M1 hj hI=>by
   obtain⟨⟨b2,rfl⟩,rfl⟩:=hI;obtain⟨f,hf,rfl⟩:∃f,hs[j]?=some f/\eD f=x:=by simpa using hj
   have mf:=au hf;have h1:=P.ami f mf;have h2:=P.ai5 f mf;refine⟨_,.next,_,M1,rfl,?_,.inl rfl,⟨some (eD f),rfl⟩,rfl⟩;have h1':(f.a:Int)<K:=m_ h1
   have h2':(f.b:Int)<K:=m_ h2
   have z1:(0:Int)<=(f.a:Int):=q_
   have z2:(0:Int)<=(f.b:Int):=q_
   simp[Dy,X3,X4,h1,h2,h1',h2',z1,z2])
 have k1:(1:Int)<=K:=by have:=P.k1;exact n_ this
 have k3:(K:Int)<=3:=by have:=P.k3;exact n_ this
 have l5:¬(5:Int)<(hs.length:Int):=by have:=P.len;lia
 simp[Fn.run,K3,K1,k1,k3,Ox,l5,Ip,e]
def ax8{j k:Nat}(hm:1<=m)(P:Kf sz K hs gw)(hj:hs[j]?=some f)(hk:hs[k]?=some g)(h:f.b=g.a):prog.call m 8 [Hg hs,.int (ent hs f g),.int f.a,.int g.b] M=.ok (.bl true) M:=by
 rw[call_of hm rfl,Oz];have mf:=au hj;have mg:=au hk;rcases P.G8 (P.cl f mf g mg h) with⟨x1,i1⟩|⟨u,hu,x1⟩
 . have ha:f.a=g.b:=i1.1
   simp[Fn.run,Dw,Du,x1,ha]
 . have hul:=(ak.mp hu).1
   have nu:¬((u:Int)=-1):=by lia
   have z:(0:Int)<=(u:Int):=q_
   have bbs:(u:Int)<(hs.length:Int):=m_ hul
   have e:wz M (eD (f.comp g)) (.tup [.int f.a,.int g.b])=some true:=by show Q3 (Km M 5) [.int f.a,.int g.b] [.int f.a,.int g.b]=some true;rw[Cv (Jl M 4 _ _) (Cv (Jl M 4 _ _) (show Q3 (Km M 5) [] []=some true from rfl))];simp
   simp[Fn.run,Dw,Du,x1,nu,z,hul,bbs,Ox,P0 hu,e]
def ar7(hm:2<=m)(P:Kf sz K hs gw)(hr:M[r]?=some (.dT gw)):∃M',prog.call m 10 [Hg hs,.ref r] M=.ok .non M'/\Af M M'/\M'.length=M.length+1:=by
 rw[call_of (a_ (by decide) hm) rfl];obtain⟨M1,ps,e1,p1,t1,u1⟩:=abm (M:=M) (m:=m-1) (hs:=hs) (r_ hm) P.len;have k1:Af M M1:=λa o h=>by rw[u1.oth a (by have:=wj h;exact h_ this)];exact o7 h
 have r1:=k1 r _ hr;have hks:(keysOf M1 (.ref r)).bind Cr=some (gw.map (·.1)):=by simp only[keysOf,r1,uo,abn]
 have hkp:(keysOf M1 (.ref M.length)).bind Cr=some (ps.map λp=>ky p.1 p.2):=by simp only[keysOf,p1,fu,uo,abo]
 have Ge:Cu (ps.map λp=>ky p.1 p.2)=true:=by
  have:=t1.len;have:hs.length*hs.length<=5*5:=Nat.mul_le_mul P.len P.len
  simp only[Cu,du,ao,dg];refine⟨by lia,?_⟩;rw[ik];intro k hk;obtain⟨p,hp,rfl⟩:=bf.mp hk;simp[ky]
 have bbt:(Ex.U6 (.v 1) (.v 2)).den ⟨prog.call (m-1),prog.cls⟩ [Hg hs,D.ref r,D.ref M.length,none,none] M1=.ok (.bl false) M1:=by rw[Xk];simp only[af7,List.getElem?_cons_succ,List.getElem?_cons_zero,Res.yo,hks,P.plain,hkp,Ge,P.same t1,ju,qj]
 obtain⟨ρ',M',e,⟨b3,b4,rfl⟩,rfl⟩:=Jh (W:=⟨prog.call (m-1),prog.cls⟩) (t:=.names [3,4]) (b:=Ez) (it:=.v 2) (d:=.ref M.length) (ds:=ps.map pD) (ρ:=[Hg hs,D.ref r,D.ref M.length,none,none]) (M:=M1) (M1:=M1) (by simp) (o6 p1)
  (λj ρ M'=>(∃b3 b4:Option D,ρ=[some (Hg hs),some (.ref r),some (.ref M.length),b3,b4])/\M'=M1) ⟨⟨none,none,rfl⟩,rfl⟩ (λi ρ M h=>by rw[h.2];exact o6 p1)
  (λi x ρ M2 hx hI=>by
   obtain⟨⟨b3,b4,rfl⟩,rfl⟩:=hI;obtain⟨p,hp,rfl⟩:∃p,ps[i]?=some p/\pD p=x:=by simpa using hx
   obtain⟨⟨f,g,a,b,c⟩,d⟩:=(t1.all p).mp (au hp);refine⟨_,.next,_,M2,Ja _ _ _ _ _,?_,.inl rfl,⟨some (.int p.1),some (.int p.2),rfl⟩,rfl⟩;have lk:=abe r1 (Xn p.1 p.2);rw[show([.inl (p.1:Int),.inl (p.2:Int)]:List Kx)=ky p.1 p.2 from rfl,P.look a b c] at lk;simp[Ez,lk,P0 a,P0 b,X3,X4,ax8 (show 1<=m-1 by exact r_ hm) P a b c])
 refine⟨M',?_,k1,by rw[u1.len];simp⟩;simp[Fn.run,Nx,Nv,e1,bbt,J2,e]
def ar8(hm:2<=m)(P:Kf sz K hs gw)(hr:M[r]?=some (.dT gw)):∃M',prog.call m 11 [Hg hs,.ref r] M=.ok .non M'/\Af M M'/\M'.length=M.length+1:=by
 rw[call_of (a_ (by decide) hm) rfl];obtain⟨M1,ps,e1,p1,t1,u1⟩:=abm (M:=M) (m:=m-1) (hs:=hs) (r_ hm) P.len;have k1:Af M M1:=λa o h=>by rw[u1.oth a (by have:=wj h;exact h_ this)];exact o7 h
 have r1:=k1 r _ hr;have hl:=P.len;obtain⟨ρ',M',e,⟨b3,b4,b5,b6,b7,rfl⟩,rfl⟩:=Jh (W:=⟨prog.call (m-1),prog.cls⟩) (t:=.names [3,4]) (b:=Dz) (it:=.v 2) (d:=.ref M.length) (ds:=ps.map pD) (ρ:=[Hg hs,D.ref r,D.ref M.length,none,none,none,none,none]) (M:=M1) (M1:=M1) (by simp) (o6 p1)
  (λj ρ M'=>(∃b3 b4 b5 b6 b7:Option D,ρ=[some (Hg hs),some (.ref r),some (.ref M.length),b3,b4,b5,b6,b7])/\M'=M1) ⟨⟨none,none,none,none,none,rfl⟩,rfl⟩ (λi ρ M h=>by rw[h.2];exact o6 p1)
  (λi x ρ M2 hx hI=>by
   obtain⟨⟨b3,b4,b5,b6,b7,rfl⟩,rfl⟩:=hI;obtain⟨p,hp,rfl⟩:∃p,ps[i]?=some p/\pD p=x:=by simpa using hx
   obtain⟨⟨f,g,a,b,c⟩,d⟩:=(t1.all p).mp (au hp);obtain⟨ρ3,M3,e3,⟨c5,c6,c7,rfl⟩,rfl⟩:=yt (W:=⟨prog.call (m-1),prog.cls⟩) (t:=.name 5) (b:=Bu) (it:=.blt .len (.o (.v 0))) (n:=hs.length) (ρ:=[Hg hs,D.ref r,D.ref M.length,D.int p.1,D.int p.2,b5,b6,b7]) (M:=M2) (M1:=M2) (by simp[Ox]) (a_ hl (by decide))
    (λj ρ M'=>(∃b5 b6 b7:Option D,ρ=[some (Hg hs),some (.ref r),some (.ref M.length),some (.int p.1),some (.int p.2),b5,b6,b7])/\M'=M2) ⟨⟨b5,b6,b7,rfl⟩,rfl⟩
    (λl ρ M4 hll hI=>by
     obtain⟨⟨b5,b6,b7,rfl⟩,rfl⟩:=hI;have hl':hs[l]?=some hs[l]:=by simp[hll]
     have Wz:=av6 r1 (Xn p.2 l);rw[show([.inl (p.2:Int),.inl (l:Int)]:List Kx)=ky p.2 l from rfl] at Wz
     by_cases q:g.b=hs[l].a
     . rw[P.look b hl' q] at Wz
       obtain⟨v,v1,v2⟩:=P.ax7 a b hl' c q;have lk1:=abe r1 (Xn p.1 p.2);rw[show([.inl (p.1:Int),.inl (p.2:Int)]:List Kx)=ky p.1 p.2 from rfl,P.look a b c] at lk1;have lk2:=abe r1 (Xn p.2 l);rw[show([.inl (p.2:Int),.inl (l:Int)]:List Kx)=ky p.2 l from rfl,P.look b hl' q] at lk2;refine⟨_,.next,_,M4,rfl,?_,.inl rfl,⟨some (.int l),some (.int v),some (.int v),rfl⟩,rfl⟩;simp[Bu,Wz,lk1,lk2,ags (show 1<=m-1 by exact r_ hm) r1 v1,ags (show 1<=m-1 by exact r_ hm) r1 v2]
     . rw[P.no (λ⟨g',h',x,y,z⟩=>by rw[b] at x;rw[hl'] at y;cases x;cases y;exact q z)] at Wz
       refine⟨_,.cont,_,M4,rfl,?_,.inr rfl,⟨some (.int l),b6,b7,rfl⟩,rfl⟩;simp[Bu,Wz])
   refine⟨_,.next,_,M3,Ja _ _ _ _ _,?_,.inl rfl,⟨some (.int p.1),some (.int p.2),c5,c6,c7,rfl⟩,rfl⟩;simp[Dz,Ir,e3])
 refine⟨M',?_,k1,by rw[u1.len];simp⟩;simp[Fn.run,K5,K4,e1,Iu,e]
noncomputable def Made(n r K:Nat)(hs:List F)(gw:List (List Kx×D))(M:cu):Prop:=M[n]?=some (.ins 2 [(2,.int K),(1,Hg hs),(0,.ref r)])/\M[r]?=some (.dT gw)
def ar9(hm:3<=m)(P:Kf sz K hs gw)(hr:M[r]?=some (.dT gw))(hn:M[n]?=some (.ins 2 [])) :
 ∃M' r',prog.call m 0 [.ref n,.int K,Hg hs,.ref r] M=.ok .non M'/\Made n r' K hs gw M'/\M.length<=r'/\r'<M'.length/\(∀(a:Nat)(o:MO),a≠n->M[a]?=some o->M'[a]?=some o):=by
 rw[call_of (a_ (by decide) hm) rfl];have d1:=ar6 (M:=M) (m:=m-1) (r_ (a_ (by decide) hm)) P;obtain⟨M1,e1,k1,l1⟩:=ar7 (M:=M) (m:=m-1) (r_ hm) P hr;obtain⟨M2,e2,k2,l2⟩:=ar8 (M:=M1) (m:=m-1) (r_ hm) P (k1 r _ hr);have k:=k1.trans k2;have n2:=k n _ hn;have r2:=k r _ hr;have hrn:r≠n:=λe=>by rw[e,hn] at hr;cases hr
 have s1:Pa (.ref n) 2 (.int K) M2=some (M2.set n (.ins 2 [(2,.int K)])):=by simp[Pa,n2,Sh]
 have n3:=uw (o:=.ins 2 [(2,.int K)]) n2;have s2:Pa (.ref n) 1 (Hg hs) (M2.set n (.ins 2 [(2,.int K)]))=some (M2.set n (.ins 2 [(2,.int K),(1,Hg hs)])):=by simp[Pa,n3,Sh]
 have n4:=uw (o:=.ins 2 [(2,.int K),(1,Hg hs)]) n2;have r4:(M2.set n (.ins 2 [(2,.int K),(1,Hg hs)]))[r]?=some (.dT gw):=by rw[qx (jx hrn)];exact r2
 have dc:ud .dict [.ref r] (M2.set n (.ins 2 [(2,.int K),(1,Hg hs)]))=.ok (.ref M2.length) (M2.set n (.ins 2 [(2,.int K),(1,Hg hs)])++[.dT gw]):=by simp[ud,r4,P.sm,MW.new]
 have n5:(M2.set n (.ins 2 [(2,.int K),(1,Hg hs)])++[.dT gw])[n]?=some (.ins 2 [(2,.int K),(1,Hg hs)]):=o7 n4;have s3:Pa (.ref n) 0 (.ref M2.length) (M2.set n (.ins 2 [(2,.int K),(1,Hg hs)])++[.dT gw])=some ((List.set M2 n (MO.ins 2 [(2,.int K),(1,Hg hs)])++[MO.dT gw]).set n (MO.ins 2 [(2,.int K),(1,Hg hs),(0,.ref M2.length)])):=by simp[Pa,n5,Sh]
 have hnl:=wj n2;refine⟨_,M2.length,?_,⟨uw (o:=.ins 2 [(2,.int K),(1,Hg hs),(0,.ref M2.length)]) n5,?_⟩,by lia,by simp,λa o na h=>?_⟩
 . simp[Fn.run,Im,Il,d1,e1,e2,s1,s2,dc,s3]
 . rw[qx (h_ hnl)]
   rw[jf (by simp)];simp
 . rw[qx (jx na)]
   exact o7 (by rw[qx (jx na)];exact k a o h)
end K55
namespace L2
open PySem PySem.Spec PyProof.Rows
abbrev Key:=Sum Int Str
noncomputable def Vg:Key->Value->Bool
 |.inl k,v=>Value.isInt k v|.inr x,v=>Value.isStrOf x v
noncomputable def bbu(w:World):Key->Int
 |.inl k=>hashInt k|.inr x=>hashStr w x
theorem Ab:∀{k:Key}{v:Value},Vg k v=true->(∃i t,k=Sum.inl i/\v=Value.int i t)\/(∃x t,k=Sum.inr x/\v=Value.str x t)
 |.inl i,v,h=>by
  obtain⟨t,e⟩:=Value.isInt_shape (k:=i) (v:=v) h;exact .inl ⟨i,t,rfl,e⟩
 |.inr x,v,h=>by
  obtain⟨t,e⟩:=Value.isStrOf_shape (x:=x) (v:=v) h;exact .inr ⟨x,t,rfl,e⟩
def ai9(i:Int)(t:Tok):Vg (.inl i) (.int i t)=true:=by simp[Vg,Value.isInt]
def aja(x:Str)(t:Tok):Vg (.inr x) (.str x t)=true:=by simp[Vg,Value.isStrOf]
def ax9(a b:Int):decide ((Sum.inl a:Key)=Sum.inl b)=(a==b):=by
 by_cases e:a=b
 . subst e;simp
 . have h:¬(Sum.inl a:Key)=Sum.inl b:=λq=>e (Sum.inl.inj q)
   rw[v9 h];exact(qe.mpr e).symm
def aya(a b:Str):decide ((Sum.inr a:Key)=Sum.inr b)=decide (a=b):=by
 by_cases e:a=b
 . subst e;simp
 . have h:¬(Sum.inr a:Key)=Sum.inr b:=λq=>e (Sum.inr.inj q)
   rw[v9 h,v9 e]
def ayb(a:Int)(b:Str):decide ((Sum.inl a:Key)=Sum.inr b)=false:=v9 (λq=>nomatch q)
def ayc(a:Str)(b:Int):decide ((Sum.inr a:Key)=Sum.inl b)=false:=v9 (λq=>nomatch q)
noncomputable def m5(prog:Program)(w:World):PySem.KeyKind prog w Key where
 is:=Vg
 hash:=bbu w
 inj:=λv a b ha hb=>by
  rcases Ab ha with⟨i,t,rfl,rfl⟩|⟨x,t,rfl,rfl⟩
  . rcases Ab hb with⟨j,u,rfl,e⟩|⟨y,u,rfl,e⟩
    . injection e with e1 _;rw[e1]
    . exact nomatch e
  . rcases Ab hb with⟨j,u,rfl,e⟩|⟨y,u,rfl,e⟩
    . exact nomatch e
    . injection e with e1 _;rw[e1]
 byValue:=λk v h=>by rcases Ab h with⟨i,t,rfl,rfl⟩|⟨x,t,rfl,rfl⟩<;>rfl
 pyHash:=λhv h=>by
  rcases Ab hv with⟨i,t,rfl,rfl⟩|⟨x,t,rfl,rfl⟩
  . exact wpAny_pyHash_int h
  . exact wpAny_pyHash_str h
 eqBool:=λhu hv h=>by
  rcases Ab hu with⟨i,t,rfl,rfl⟩|⟨x,t,rfl,rfl⟩
  . rcases Ab hv with⟨j,u,rfl,rfl⟩|⟨y,u,rfl,rfl⟩
    . rw[ax9] at h;exact wpAny_eqBool_int h
    . rw[ayb] at h;exact SeqAt.EqAt.int_str i t y u _ _ _ _ h
  . rcases Ab hv with⟨j,u,rfl,rfl⟩|⟨y,u,rfl,rfl⟩
    . rw[ayc] at h;exact SeqAt.EqAt.str_int x t j u _ _ _ _ h
    . rw[aya] at h;exact wpAny_eqBool_str h
 «strs»:=λk x t v h=>by
  rcases Ab h with⟨i,u,rfl,e⟩|⟨y,u,rfl,e⟩
  . exact nomatch e
  . injection e with e1 _
    subst e1;cases v<;>rfl
def abp(prog:Program)(w:World)(i:Int)(t:Tok):(m5 prog w).is (.inl i) (.int i t)=true:=ai9 i t
def abq(prog:Program)(w:World)(x:Str)(t:Tok):(m5 prog w).is (.inr x) (.str x t)=true:=aja x t
end L2
namespace L2
open PySem PySem.Spec PyProof.Rows
set_option genInjectivity true in
inductive V where
 |non|bl (b:Bool)|int (i:Int)|str (x:Str)|byt (b:Array UInt8)|flt (b:UInt64)|ref (a:Addr)|ty (n:String)
 deriving DecidableEq
def RelV:V->Value->Prop
 |.non,u=>u=Value.none|.bl b,u=>u=Value.bool b|.int i,u=>∃t,u=Value.int i t|.str x,u=>∃t,u=Value.str x t|.byt b,u=>∃t,u=Value.bytes b t|.flt b,u=>∃t,u=Value.float b t|.ref a,u=>u=Value.ref a|.ty n,u=>u=Value.type n
abbrev Vals:List V->List Value->Prop:=Paired RelV
theorem Vals.length(r:Vals xs us):xs.length=us.length:=Paired.length r
theorem Vals.get:∀{xs:List V}{us:Zl}{i:Nat}{x:V},Vals xs us->xs[i]?=some x->∃u,us[i]?=some u/\RelV x u
 |_,_,_,_,.nil,e=>by simp at e|_,_,0,_,.cons r _,e=>by simp at e;subst e;exact⟨_,rfl,r⟩
 |_,_,i+1,x,.cons _ t,e=>by
  obtain⟨u,h1,h2⟩:=Vals.get (i:=i) (x:=x) t (by simpa using e);exact⟨u,by simpa using h1,h2⟩
theorem Vals.set{x:V}{u:Value}(r:RelV x u):∀{xs:List V}{us:Zl}(i:Nat),Vals xs us->Vals (xs.set i x) (us.set i u)
 |_,_,_,.nil=>.nil|_,_,0,.cons _ t=>.cons r t|_,_,i+1,.cons q t=>.cons q (Vals.set r i t)
theorem Vals.append:∀{xs ys:List V}{us ws:Zl},Vals xs us->Vals ys ws->Vals (xs++ys) (us++ws)
 |_,_,_,_,.nil,s=>s|_,_,_,_,.cons r t,s=>.cons r (Vals.append t s)
theorem Vals.take:∀{xs:List V}{us:Zl}(n:Nat),Vals xs us->Vals (xs.take n) (us.take n)
 |_,_,0,_=>.nil|_,_,_+1,.nil=>.nil|_,_,n+1,.cons r t=>.cons r (Vals.take n t)
theorem Vals.drop:∀{xs:List V}{us:Zl}(n:Nat),Vals xs us->Vals (xs.drop n) (us.drop n)
 |_,_,0,r=>r|_,_,_+1,.nil=>.nil|_,_,n+1,.cons _ t=>Vals.drop n t
def Kg:Option V->Option Value->Prop
 |some v,some u=>RelV v u|none,none=>True|_,_=>False
def KV{κ:Type}:List (κ×V)->List (κ×Value)->Prop:=Paired λ(p:κ×V) (q:κ×Value)=>p.1=q.1/\RelV p.2 q.2
noncomputable def kV:Key->V
 |.inl i=>.int i|.inr x=>.str x
inductive HO where
 |lst (xs:List V)
 |tup (xs:List V)
 |dK (gw:List (Key×V))|dT (gw:List (List Key×V))
 |set (S:Int->Bool) (n:Nat)
 |ins (C dx:Addr) (fs:List (Str×V))
 |own (x:Addr)
 |xd (fs:List (Str×V))
 |met (f x:Addr)
 |Jz (lo hi:Int)
 |Mj (o:Obj) (u:HO)
 |tbl (ps:U1)
 |ext (φ:Heap->Prop)
abbrev Hp:=Addr->Option HO
noncomputable def upd(H:Hp)(a:Addr)(o:HO):Hp:=λb=>if b=a then some o else H b
def v5:upd H a o a=some o:=by unfold upd;rw[cj rfl]
def j5(h:b≠a):upd H a o b=H b:=by unfold upd;rw[bw h]
def amm{H:Hp}(h:H a=some o)(h':H b=some u)(d:o≠u):a≠b:=by intro e;subst e;rw[h] at h';exact d (jq h')
def j8{H:Hp}(h:H a=some o)(h':H b=none):a≠b:=by intro e;subst e;rw[h] at h';cases h'
section
variable(P:Program)(w:World)
def Zw(h:Heap)(a:Addr)(items:U1):Prop:=∃o,h.get? a=some o/\o.cls=.type "tuple"/\∃n,o.data=.seq items n/\o.dict=none
def Zw.is(x:Zw h a items):IsTup h a items:=let ⟨o,h1,h2,n,h3,_⟩:=x;⟨o,h1,h2,n,h3⟩
def Zw.new(h:Heap)(items:U1):Zw (h.push { cls:=.type "tuple",data:=.seq items }) h.objs.size items:=⟨_,bh _ rfl,rfl,_,rfl,rfl⟩
def Ad(H:Hp)(h:Heap)(a:Addr):HO->Prop
 |.lst xs=>xs.length<=sizeLine/\∃(xr:Zl)(n:Nat),Vals xs xr/\h.get? a=some { cls:=.type "list",data:=.seq xr.toArray n }|.tup xs=>xs.length<=sizeLine/\∃xr:List Value,Vals xs xr/\Zw h a xr.toArray|.dK gw=>gw.length<=sizeLine/\(a==sysModules)=false/\∃vs,KV gw vs/\h.DictOf (m5 P w) a vs
 |.dT gw=>gw.length<=sizeLine/\(a==sysModules)=false/\∃xs:List (List Key×Addr×Value),
  Paired (λ(p:List Key×V) (q:List Key×Addr×Value)=>p.1=q.1/\H q.2.1=some (.tup (p.1.map kV))/\RelV p.2 q.2.2) gw xs /\
  ∃o es ep,h.get? a=some o/\o.ExactDict/\o.data=.dict es ep/\es.toList=xs.map (entryOfKey (tupleKind (m5 P w)))/\(xs.map (·.1)).Nodup
 |.set S n=>h.SetOf (intKind P w) a S n
 |.ins C dx fs=>H dx=some (.own a)/\fs.length<=1000/\dx≠a/\h.get? a=some (PySem.W.instObj C dx) /\
  ∃mA,h.Ns1 dx mA/\(∀f,Kg (fs.lookup f) (mA f))/\PySem.Within mA (fs.map (·.1))
 |.own _=>∃o,h.get? a=some o|.xd fs=>∃mA,h.Ns1 a mA/\∀f,Kg (fs.lookup f) (mA f)|.Jz lo hi=>∃t u v,h.get? a=some { cls:=.type "range",data:=.fields #[.int lo t,.int hi u,.int 1 v] }|.Mj o u=>h.get? a=some o/\Ad H h a u|.tbl ps=>h.get? a=some { cls:=.none,data:=.fields ps }|.met f x=>h.get? a=some (PySem.W.methodObj (.ref f) (.ref x))|.ext φ=>φ h/\(∃o,h.get? a=some o)/\∀h1 h2:Heap,φ h1->(∀o,h1.get? a=some o->h2.get? a=some o)->φ h2
def N8(H:Hp)(h:Heap):Prop:=∀a o,H a=some o->Ad P w H h a o
end
theorem Ad.lt(x:Ad P w H h a o):a<h.objs.size:=by
 cases o with
 |lst xs=>obtain⟨_,_,_,_,e⟩:=x;exact az e
 |tup xs=>obtain⟨_,_,_,p⟩:=x;exact(Zw.is p).lt
 |dK gw=>obtain⟨_,_,_,_,o,_,_,e,_⟩:=x;exact az e
 |dT gw=>obtain⟨_,_,_,_,o,_,_,e,_⟩:=x;exact az e
 |set S n=>obtain⟨o,_,_,_,e,_⟩:=x;exact az e
 |ins C dx fs=>obtain⟨_,_,_,e,_⟩:=x;exact az e
 |own y=>obtain⟨_,e⟩:=x;exact az e
 |xd fs=>obtain⟨_,⟨_,_,_,e,_⟩,_⟩:=x;exact az e
 |Jz lo hi=>obtain⟨_,_,_,e⟩:=x;exact az e
 |Mj ob u=>obtain⟨e,_⟩:=x;exact az e
 |tbl ps=>exact az (show h.get? a=some _ from x)
 |met f y=>exact az (show h.get? a=some _ from x)
 |ext φ=>obtain⟨_,⟨_,e⟩,_⟩:=x;exact az e
theorem Paired.aye{α β:Type}{F G:α->β->Prop}:∀{l₁:List α}{l₂:List β},Paired F l₁ l₂->(∀a b,F a b->G a b)->Paired G l₁ l₂
 |_,_,.nil,_=>.nil|_,_,.cons r t,f=>.cons (f _ _ r) (Paired.aye t f)
def Ad.stay(x:Ad P w H h a o)(k:∀b u,(b=a\/H b=some (.own a))->h.get? b=some u->h'.get? b=some u)(ho:∀b,H b=some (.own a)->H' b=some (.own a))(ht:∀b xs,H b=some (.tup xs)->H' b=some (.tup xs)):Ad P w H' h' a o:=by
 induction o with
 |lst xs=>obtain⟨z,xr,n,r,e⟩:=x;exact⟨z,xr,n,r,k _ _ (.inl rfl) e⟩
 |tup xs=>obtain⟨z,xr,r,ob,e,c⟩:=x;exact⟨z,xr,r,ob,k _ _ (.inl rfl) e,c⟩
 |dK gw=>obtain⟨z,y,vs,r,ob,es,ep,e,c⟩:=x;exact⟨z,y,vs,r,ob,es,ep,k _ _ (.inl rfl) e,c⟩
 |dT gw =>
  obtain⟨z,y,xs,r,ob,es,ep,e,c⟩:=x;exact⟨z,y,xs,Paired.aye r λp q z=>⟨z.1,ht _ _ z.2.1,z.2.2⟩,ob,es,ep,k _ _ (.inl rfl) e,c⟩
 |set S n=>obtain⟨ob,es,ep,t,e,c⟩:=x;exact⟨ob,es,ep,t,k _ _ (.inl rfl) e,c⟩
 |ins C dx fs =>
  obtain⟨d,z,ne,e,mA,⟨od,es,ep,e2,c⟩,r⟩:=x;exact⟨ho _ d,z,ne,k _ _ (.inl rfl) e,mA,⟨od,es,ep,k _ _ (.inr d) e2,c⟩,r⟩
 |own y=>obtain⟨ob,e⟩:=x;exact⟨ob,k _ _ (.inl rfl) e⟩
 |xd fs=>obtain⟨mA,⟨od,es,ep,e,c⟩,r⟩:=x;exact⟨mA,⟨od,es,ep,k _ _ (.inl rfl) e,c⟩,r⟩
 |Jz lo hi=>obtain⟨t,u,v,e⟩:=x;exact⟨t,u,v,k _ _ (.inl rfl) e⟩
 |Mj ob u ih=>obtain⟨e,q⟩:=x;exact⟨k _ _ (.inl rfl) e,ih q⟩
 |tbl ps =>
  have e:h.get? a=some { cls:=.none,data:=.fields ps }:=x;show h'.get? a=some { cls:=.none,data:=.fields ps };exact k a _ (.inl rfl) e
 |met f y =>
  have e:h.get? a=some (PySem.W.methodObj (.ref f) (.ref y)):=x;show h'.get? a=some (PySem.W.methodObj (.ref f) (.ref y));exact k a _ (.inl rfl) e
 |ext φ=>obtain⟨p,⟨o,e⟩,st⟩:=x;exact⟨st _ _ p λo q=>k _ _ (.inl rfl) q,⟨o,k _ _ (.inl rfl) e⟩,st⟩
theorem N8.lt(x:N8 P w H h)(e:H a=some o):a<h.objs.size:=(x a o e).lt
def N8.fresh(x:N8 P w H h)(e:h.objs.size<=a):H a=none:=by
 cases q:H a with
 |none=>rfl|some u=>exact absurd (gh (x.lt q) e) (lq _)
def N8.kept(x:N8 P w H h)(k:∀b u,h.get? b=some u->h'.get? b=some u):N8 P w H h':=λa o e =>
 (x a o e).stay (λb u _ q=>k b u q) (λ_ q=>q) λ_ _ q=>q
def N8.laid(x:N8 P w H h)(k:∀b u,h.get? b=some u->h'.get? b=some u)(hp:h.objs.size<=a)(new:Ad P w (upd H a o) h' a o):N8 P w (upd H a o) h':=λb u e=>by
 have hn:=x.fresh hp
 by_cases hb:b=a
 . subst hb;rw[v5] at e;cases e;exact new
 . rw[j5 hb] at e
   exact(x b u e).stay (λc v _ q=>k c v q) (λc q=>by rw[j5 (j8 q hn)];exact q) λc xs q=>by rw[j5 (j8 q hn)];exact q
def Rd(H:Hp)(a:Addr)(u:HO):Prop:=H a=some u\/∃o,H a=some (.Mj o u)
def Rd.ok(r:Rd H a u)(x:N8 P w H h):Ad P w H h a u:=by
 rcases r with r|⟨o,r⟩
 . exact x a u r
 . obtain⟨_,q⟩:=x a _ r
   exact q
def Mut:Option HO->Prop
 |some (.lst _)=>True|some (.dK _)=>True|some (.dT _)=>True|some (.set _ _)=>True|some (.ins _ _ _)=>True|some (.ext _)=>True|_=>False
def N8.write(ok:N8 P w H h)(mu:Mut (H x))(he:e=x\/H e=some (.own x))(k:∀b u,b≠e->h.get? b=some u->h'.get? b=some u)(heo:∃u,h'.get? e=some u)(new:Ad P w (upd H x o') h' x o'):N8 P w (upd H x o') h':=λb u q=>by
 have a4q:∀c y,H c=some (.own y)->c≠x:=λc y r z=>by subst z;rw[r] at mu;exact mu
 have bbv:∀c xs,H c=some (.tup xs)->c≠x:=λc xs r z=>by subst z;rw[r] at mu;exact mu
 by_cases hb:b=x
 . subst hb;rw[v5] at q;cases q;exact new
 . rw[j5 hb] at q
   by_cases hbe:b=e
   . have q':H b=some (.own x):=by
      rcases he with z|z
      . exact absurd (hbe.trans z) hb
      . rw[hbe];exact z
     rw[q] at q';cases q';obtain⟨v,hv⟩:=heo;exact⟨v,by rw[hbe];exact hv⟩
   . refine(ok b u q).stay (λc v hc r=>k c v ?_ r) (λc r=>by rw[j5 (a4q c b r)];exact r) λc xs r=>by rw[j5 (bbv c xs r)];exact r
     rcases hc with rfl|hc
     . exact hbe
     . rintro rfl
       rcases he with z|z
       . exact a4q c b hc z
       . rw[hc] at z;cases z;exact hb rfl
structure Un(fs ex:X9)(H H':Hp)(h h':Heap):Prop where
 keep:∀b o,h.get? b=some o->H b=none->b∉fs->b∉ex->h'.get? b=some o
 slot:∀b o,h.get? b=some o->H b=none->b∈fs->b∉ex->∃sl,h'.get? b=some { o with slots:=sl }
 free:∀b o,h.get? b=some o->H b=none->b∉ex->H' b=none
 there:∀b o,h.get? b=some o->b∉ex->∃o',h'.get? b=some o'
 Vh:∀b xs,H b=some (.tup xs)->H' b=some (.tup xs)
 Zx:∀b o u,H b=some (.Mj o u)->H' b=some (.Mj o u)
 abr:∀b ps,H b=some (.tbl ps)->∃more,H' b=some (.tbl (ps++more))
def Un.any(u:Un fs ex H H1 h h1)(q:h.get? b=some ob)(n:H b=none)(hx:b∉ex):∃sl,h1.get? b=some { ob with slots:=sl }:=by
 by_cases hb:b∈fs
 . exact u.slot b ob q n hb hx
 . exact⟨ob.slots,u.keep b ob q n hb hx⟩
def Un.kept(k:∀b u,h.get? b=some u->h'.get? b=some u):Un fs ex H H h h' :=
 ⟨λb ob q _ _ _=>k b ob q,λb ob q _ _ _=>⟨ob.slots,k b ob q⟩,λ_ _ _ n _=>n,λb ob q _=>⟨ob,k b ob q⟩,λ_ _ q=>q,λ_ _ _ q=>q,λ_ ps q=>⟨#[],by rw[q];simp⟩⟩
def Un.refl:Un fs ex H H h h:=Un.kept λ_ _ q=>q
theorem Un.laid(k:∀b u,h.get? b=some u->h'.get? b=some u)(hp:h.objs.size<=a)(hn:H a=none):Un fs ex H (upd H a o) h h' where
 keep:=λb u q _ _ _=>k b u q
 slot:=λb u q _ _ _=>⟨u.slots,k b u q⟩
 free:=λb u q n _=>by rw[j5 (fc (gh (az q) hp))];exact n
 there:=λb u q _=>⟨u,k b u q⟩
 Vh:=λb xs q=>by rw[j5 (j8 q hn)];exact q
 Zx:=λb u xs q=>by rw[j5 (j8 q hn)];exact q
 abr:=λb ps q=>⟨#[],by rw[j5 (j8 q hn),q];simp⟩
def Un.write(mu:Mut (H x))(he:e=x\/H e=some (.own x))(k:∀b u,b≠e->h.get? b=some u->h'.get? b=some u)(heo:∃u,h'.get? e=some u):Un fs ex H (upd H x o) h h':=by
 have hx:∀b,H b=none->b≠x:=λb n z=>by subst z;rw[n] at mu;exact mu
 have hb:∀b,H b=none->b≠e:=λb n z=>by
  subst z;rcases he with r|r
  . exact hx b n r
  . rw[n] at r;cases r
 have hm:∀b u,H b=some u->¬Mut (some u)->b≠x:=λb u q nm z=>by subst z;rw[q] at mu;exact nm mu
 refine⟨λb u q n _ _=>k b u (hb b n) q,λb u q n _ _=>⟨u.slots,k b u (hb b n) q⟩,λb u q n _=>by rw[j5 (hx b n)];exact n,λb u q _=>?_,
  λb xs q=>by rw[j5 (hm b _ q λz=>z)];exact q,λb u xs q=>by rw[j5 (hm b _ q λz=>z)];exact q,λb ps q=>⟨#[],by rw[j5 (hm b _ q λz=>z),q];simp⟩⟩
 by_cases hbe:b=e
 . subst hbe;exact heo
 . exact⟨u,k b u hbe q⟩
noncomputable def trk(h:Heap)(H:Hp):List Addr:=(List.range h.objs.size).filter λa=>(H a).isSome
noncomputable def Zy(h:Heap)(H:Hp):Heap:=PySem.W.hideAll h (trk h H)
def ajb(h:Heap)(H:Hp):(Zy h H).objs.size=h.objs.size:=PySem.W.hideAll_size _ _
def amn(e:h.get? b=some o)(n:H b=none):(Zy h H).get? b=some o :=
 PySem.W.hideAll_get _ e λhm=>by have q:(H b).isSome=true:=(kj.mp hm).2;rw[n] at q;simp at q
def asa(e:(Zy h H).get? b=some o):h.get? b=some o/\H b=none:=by
 have e':h.get? b=some o:=PySem.W.of_hideAll (trk h H) e;refine⟨e',?_⟩;cases q:H b with
 |none=>rfl
 |some x =>
  have hm:b∈trk h H:=kj.mpr ⟨jn.mpr (az e'),by simp[q]⟩;have z:(Zy h H).get? b=none:=PySem.W.hideAll_none (trk h H) hm;rw[z] at e;cases e
end L2
namespace L2
open PySem PySem.Spec PyProof.Rows
structure Mod(K:Fg)(mg:Zs)(base:Heap):Prop where
 kin:K.In base
 glob:base.Ns mainGlobals mg
 blt:∃mb,base.Ns builtinsNs mb/\∀x:Str,x≠"__name__" -> mb x=bootBuiltins x
 nolimit:base.NoLimit
structure Cx where
 prog:Program
 w:World
 K:Fg
 mg:Str->Option Value
 base:Heap
 A:Around
 N:List Str
 s₀:Shared
 H₀:Hp
 env:Env
 outer:List Env
 stack:List Env
 ex:List Addr
 fn:Str->Bool
 calm:Bool
 pn:List (Addr×Obj)
 xe:Value->Shared->Prop
noncomputable def frs(l:List Env):List Addr:=l.filterMap (·.frame)
noncomputable abbrev Cx.fs(X:Cx):List Addr:=frs X.outer
def Vis(sc:Scope)(x:Str):Prop:=sc.names.lookup x=some .local\/sc.names.lookup x=some .cell\/sc.names.lookup x=some .free
def Loc(sc:Scope)(x:Str):Prop:=sc.names.lookup x=some .local\/sc.names.lookup x=some .cell
def Look(env:Env)(h:Heap)(m:Zs)(x:Str)(u:Value):Prop :=
 (env.kindOf x=some .local/\m x=some u)\/((env.kindOf x=some .cell\/env.kindOf x=some .free)/\∃c,env.cells.lookup x=some c/\h.IsCell c (some u))
structure Cx.Ok(X:Cx):Prop where
 mod:Mod X.K X.mg X.base
 kind:X.env.scope.kind=.function
 glob:X.env.globals=mainGlobals
 blt:X.env.builtins=builtinsNs
 above:X.s₀.heap.objs.size<=X.env.locals
 inj:∀x y c,X.env.cells.lookup x=some c->X.env.cells.lookup y=some c->x=y
 has:∀x,(X.env.kindOf x=some .cell\/X.env.kindOf x=some .free)->∃c,X.env.cells.lookup x=some c
 cab:∀x c,X.fn x=true->X.env.cells.lookup x=some c->X.s₀.heap.objs.size<=c
 hd:X.calm=true->X.A.handled=none
 frames:X.A.frames=some X.stack
 stk:X.stack=X.outer\/(X.stack=X.env::X.outer/\X.env.frame=some X.env.locals)
 exf:∀b∈X.ex,b≠X.env.locals/\∀x c,X.env.cells.lookup x=some c->c≠b
 bs:∀b o,X.base.get? b=some o->X.s₀.heap.get? b=some o/\X.H₀ b=none
 bsz:X.base.objs.size<=X.s₀.heap.objs.size
 amq:∀b o,X.base.get? b=some o->b∉X.ex
 asd:∀b∈X.ex,b∉X.fs
 T5:X.s₀.heap.FunFrames X.base X.outer
 frf:∀b∈X.fs,X.H₀ b=none
structure Inv(X:Cx)(pins:Zp)(σ:List (Option V))(H:Hp)(s:Shared):Prop where
 ok:X.Ok
 os:s.os=X.s₀.os
 bare:AllBare s.gens
 base:Un X.fs X.ex X.H₀ H X.s₀.heap s.heap
 loc:∃m,s.heap.Ns X.env.locals m/\∀(i:Nat)(x:Str)(v:V),X.N[i]?=some x->σ[i]?=some (some v)->Vis X.env.scope x->∃u,RelV v u/\Look X.env s.heap m x u
 cell:∀x c,X.env.cells.lookup x=some c->∃v,s.heap.IsCell c v
 free:H X.env.locals=none
 Ml:∀x c,X.env.cells.lookup x=some c->H c=none
 pin:∀p∈X.pn++pins,s.heap.get? p.1=some p.2/\H p.1=none/\p.1≠X.env.locals/\p.1∉X.fs/\∀v,p.2.data≠.cell v
 zp:N8 X.prog X.w H s.heap
 len:σ.length=X.N.length
def Cx.Ok.bbw{X:Cx}(ok:X.Ok)(e:X.base.get? b=some o):b∉X.fs:=λhb=>by have:=(ok.T5.mem hb).1;rw[e] at this;cases this
theorem Inv.bs(I:Inv X pins σ H s):∀b o,X.base.get? b=some o->s.heap.get? b=some o/\H b=none:=λb o e =>
 ⟨I.base.keep b o (I.ok.bs b o e).1 (I.ok.bs b o e).2 (I.ok.bbw e) (I.ok.amq b o e),I.base.free b o (I.ok.bs b o e).1 (I.ok.bs b o e).2 (I.ok.amq b o e)⟩
def Inv.bk(I:Inv X pins σ H s):∀b o,X.base.get? b=some o->s.heap.get? b=some o:=λb o e=>(I.bs b o e).1
theorem Inv.mod(I:Inv X pins σ H s):Mod X.K X.mg X.base:=I.ok.mod
def Inv.Rj(I:Inv X pins σ H s):X.K.In s.heap:=I.ok.mod.kin.keeps I.bk
theorem Inv.lt(I:Inv X pins σ H s):X.env.locals<s.heap.objs.size:=let ⟨_,hn,_⟩:=I.loc;hn.lt
def Inv.sz(I:Inv X pins σ H s):X.s₀.heap.objs.size<=s.heap.objs.size:=gq I.ok.above (xg I.lt)
def Inv.ayi(I:Inv X pins σ H s)(h:s.heap.objs.size<=a):a∉X.fs:=λhb=>by obtain⟨_,o,ho,_⟩:=I.ok.T5.mem hb;exact absurd (gh (az ho) (gq I.sz h)) (lq _)
def Inv.cne(I:Inv X pins σ H s):∀x c,X.env.cells.lookup x=some c->c≠X.env.locals:=λx c e z=>by obtain⟨v,o,ho,hd⟩:=I.cell x c e;obtain⟨m,⟨o',es,ep,ho',hd',_⟩,_⟩:=I.loc;rw[z,ho'] at ho;cases ho;rw[hd'] at hd;cases hd
theorem Inv.T5(I:Inv X pins σ H s):s.heap.FunFrames X.base X.outer:=by
 have all:∀(l:List Env),(∀b∈frs l,b∈X.fs)->X.s₀.heap.FunFrames X.base l->s.heap.FunFrames X.base l:=by
  intro l
  induction l with
  |nil=>intro _ _;trivial
  |cons env r ih =>
   intro hs hl;obtain⟨hk,⟨L,o,hf,hn,ho,hd⟩,hr⟩:=hl;have hL:L∈X.fs:=hs L (by unfold frs;rw[List.filterMap_cons,hf];exact cz);obtain⟨sl,e⟩:=I.base.slot L o ho (I.ok.frf L hL) hL λz=>I.ok.asd L z hL
   exact⟨hk,⟨L,_,hf,hn,e,hd⟩,ih (λb hb=>hs b (by unfold frs;rw[List.filterMap_cons,hf];exact bc _ hb)) hr⟩
 exact all X.outer (λ_ hb=>hb) I.ok.T5
theorem Inv.stack(I:Inv X pins σ H s):s.heap.FunFrames X.base X.stack:=by
 rcases I.ok.stk with e|⟨e,hf⟩
 . rw[e];exact I.T5
 . rw[e]
   obtain⟨m,hn,_⟩:=I.loc;refine .cons (by rw[I.ok.kind];decide) hf hn ?_ I.T5;exact Heap.get?_none_of_le (gq I.ok.bsz I.ok.above)
def Inv.Zz(I:Inv X pins σ H s):∀b∈frs X.stack,b∈X.env.locals::X.fs:=λb hb=>by
 rcases I.ok.stk with e|⟨e,hf⟩
 . rw[e] at hb;exact bc _ hb
 . rw[e] at hb
   unfold frs at hb;rw[List.filterMap_cons,hf] at hb;exact hb
def Inv.agu(I:Inv X pins σ H s):∀b∈frs X.stack,H b=none:=λb hb=>by
 rcases bx.mp (I.Zz b hb) with e|hb
 . rw[e];exact I.free
 . obtain⟨_,o,ho,_⟩:=I.ok.T5.mem hb
   exact I.base.free b o ho (I.ok.frf b hb) λz=>I.ok.asd b z hb
def Inv.step{ch:X9}(I:Inv X pins σ H s)(hch:∀b∈ch,(b∈X.ex\/X.s₀.heap.objs.size<=b)/\b≠X.env.locals/\(∀x c,X.env.cells.lookup x=some c->c≠b)/\∀p∈X.pn++pins,p.1≠b)(keep:∀b o,b≠X.env.locals->b∉X.fs->b∉ch->s.heap.get? b=some o->H b=none->h'.get? b=some o)(slot:∀b o,b≠X.env.locals->b∈X.fs->b∉ch->s.heap.get? b=some o->H b=none->∃sl,h'.get? b=some { o with slots:=sl })(free:∀b o,b∉ch->s.heap.get? b=some o->H b=none->H' b=none)(there:∀b o,b∉ch->s.heap.get? b=some o->∃o',h'.get? b=some o')(Vh:∀b xs,H b=some (.tup xs)->H' b=some (.tup xs))(Zx:∀b o u,H b=some (.Mj o u)->H' b=some (.Mj o u))(abr:∀b ps,H b=some (.tbl ps)->∃more,H' b=some (.tbl (ps++more)))(ns:∀m,s.heap.Ns X.env.locals m->h'.Ns X.env.locals m)(zp:N8 X.prog X.w H' h')(hg:AllBare g') :
 Inv X pins σ H' { s with heap:=h',gens:=g',drawn:=d',toks:=t' }:=by
 have neL:∀b o,X.s₀.heap.get? b=some o->b≠X.env.locals:=λb o e=>fc (gh (az e) I.ok.above)
 have neC:∀b o,X.s₀.heap.get? b=some o->b∉X.ex->b∉ch:=λb o e hx hb=>by
  rcases(hch b hb).1 with z|z
  . exact hx z
  . exact absurd (gh (az e) z) (lq _)
 have cellK:∀x c,X.env.cells.lookup x=some c->∀v,s.heap.IsCell c v->h'.IsCell c v:=λx c e v ⟨o,ho,hd⟩=>by
  have nch:c∉ch:=λz=>(hch c z).2.2.1 x c e rfl
  by_cases hc:c∈X.fs
  . obtain⟨sl,q⟩:=slot c o (I.cne x c e) hc nch ho (I.Ml x c e)
    exact⟨_,q,hd⟩
  . exact⟨o,keep c o (I.cne x c e) hc nch ho (I.Ml x c e),hd⟩
 refine⟨I.ok,I.os,hg,⟨λb o e n hb hx=>?_,λb o e n hb hx=>?_,λb o e n hx=>?_,λb o e hx=>?_,λb xs e=>Vh b xs (I.base.Vh b xs e),λb o xs e=>Zx b o xs (I.base.Zx b o xs e),λb ps e=>?_⟩,?_,λx c e=>?_,?_,λx c e=>?_,λp hp=>?_,zp,I.len⟩
 . exact keep b o (neL b o e) hb (neC b o e hx) (I.base.keep b o e n hb hx) (I.base.free b o e n hx)
 . obtain⟨sl,e1⟩:=I.base.slot b o e n hb hx
   obtain⟨sl',e2⟩:=slot b _ (neL b o e) hb (neC b o e hx) e1 (I.base.free b o e n hx);exact⟨sl',e2⟩
 . obtain⟨o',e1⟩:=I.base.there b o e hx
   exact free b o' (neC b o e hx) e1 (I.base.free b o e n hx)
 . obtain⟨o',e1⟩:=I.base.there b o e hx
   exact there b o' (neC b o e hx) e1
 . obtain⟨m1,e1⟩:=I.base.abr b ps e
   obtain⟨m2,e2⟩:=abr b _ e1;exact⟨m1++m2,by rw[e2,Array.append_assoc]⟩
 . obtain⟨m,hn,hl⟩:=I.loc
   refine⟨m,ns m hn,λi x v e1 e2 e3=>?_⟩;obtain⟨u,r,l⟩:=hl i x v e1 e2 e3;refine⟨u,r,?_⟩;rcases l with l|⟨k,c,e,z⟩
   . exact .inl l
   . exact .inr ⟨k,c,e,cellK x c e _ z⟩
 . obtain⟨v,z⟩:=I.cell x c e
   exact⟨v,cellK x c e v z⟩
 . obtain⟨m,⟨o,_,_,ho,_⟩,_⟩:=I.loc
   exact free _ o (λz=>(hch _ z).2.1 rfl) ho I.free
 . obtain⟨v,o,ho,hd⟩:=I.cell x c e
   exact free c o (λz=>(hch c z).2.2.1 x c e rfl) ho (I.Ml x c e)
 . obtain⟨e,n,ne,nf,d⟩:=I.pin p hp
   have nch:p.1∉ch:=λz=>(hch p.1 z).2.2.2 p hp rfl
   exact⟨keep p.1 p.2 ne nf nch e n,free p.1 p.2 nch e n,ne,nf,d⟩
def Inv.un(I:Inv X pins σ H s)(u:Un X.fs [] H H' s.heap h')(zp:N8 X.prog X.w H' h'):Inv X pins σ H' { s with heap:=h',toks:=t' }:=by
 obtain⟨m,⟨o,es,ep,ho,r⟩,_⟩:=id I.loc;obtain⟨sl,hL⟩:=u.any ho I.free (by simp);exact I.step (g':=s.gens) (d':=s.drawn) (ch:=[]) (λ_ z=>nomatch z) (λb o _ hb _ e n=>u.keep b o e n hb (by simp)) (λb o _ hb _ e n=>u.slot b o e n hb (by simp)) (λb o _ e n=>u.free b o e n (by simp)) (λb o _ e=>u.there b o e (by simp)) u.Vh u.Zx u.abr (λm' hm=>by
  obtain⟨o',es',ep',ho',r'⟩:=hm;rw[ho] at ho';cases ho';exact⟨_,es',ep',hL,r'⟩) zp I.bare
def Inv.call(I:Inv X pins σ H s)(u:Un (frs X.stack) ch H H' s.heap h')(zp:N8 X.prog X.w H' h')(hg:AllBare g')(hch:∀b∈ch,(b∈X.ex\/X.s₀.heap.objs.size<=b)/\b≠X.env.locals/\(∀x c,X.env.cells.lookup x=some c->c≠b)/\∀p∈X.pn++pins,p.1≠b) :
 Inv X pins σ H' { s with heap:=h',gens:=g',drawn:=d',toks:=t' }:=by
 obtain⟨m,⟨o,es,ep,ho,r⟩,_⟩:=id I.loc;obtain⟨sl,hL⟩:=u.any ho I.free λz=>(hch _ z).2.1 rfl
 exact I.step (ch:=ch) hch (λb o hL hb hc e n=>u.keep b o e n (λz=>(bx.mp (I.Zz b z)).elim hL hb) hc) (λb o _ _ hc e n=>u.any e n hc) (λb o hc e n=>u.free b o e n hc) (λb o hc e=>u.there b o e hc) u.Vh u.Zx u.abr (λm' hm=>by
  obtain⟨o',es',ep',ho',r'⟩:=hm;rw[ho] at ho';cases ho';exact⟨_,es',ep',hL,r'⟩) zp hg
def Inv.turned(I:Inv X pins σ H s)(k:∀b o,b≠it->s.heap.get? b=some o->h'.get? b=some o)(hn:H it=none)(hL:it≠X.env.locals)(h1:it∈X.ex\/X.s₀.heap.objs.size<=it)(h2:∀x c,X.env.cells.lookup x=some c->c≠it)(h3:∀p∈X.pn++pins,p.1≠it):Inv X pins σ H { s with heap:=h',toks:=t' }:=by
 have nit:∀b u,H b=some u->b≠it:=λb u e z=>by rw[z,hn] at e;cases e
 refine I.step (g':=s.gens) (d':=s.drawn) (ch:=[it]) (λb hb=>?_) (λb o _ _ hc e _=>k b o (λz=>hc (by simp[z])) e) (λb o _ _ hc e _=>⟨o.slots,k b o (λz=>hc (by simp[z])) e⟩) (λ_ _ _ _ n=>n)
  (λb o hc e=>⟨o,k b o (λz=>hc (by simp[z])) e⟩) (λ_ _ e=>e) (λ_ _ _ e=>e) (λb ps e=>⟨#[],by rw[e];simp⟩) (λm hm=>?_) (λb u e=>?_) I.bare
 . have e:b=it:=by simpa using hb
   subst e;exact⟨h1,hL,h2,h3⟩
 . obtain⟨o,es,ep,ho,r⟩:=hm
   exact⟨o,es,ep,k _ o (jx hL) ho,r⟩
 . refine(I.zp b u e).stay (λc v hc q=>k c v ?_ q) (λ_ q=>q) λ_ _ q=>q
   rcases hc with z|z
   . rw[z];exact nit b u e
   . exact nit c _ z
def Inv.tok(I:Inv X pins σ H s)(t:Nat):Inv X pins σ H { s with toks:=t }:=I.un (h':=s.heap) (t':=t) Un.refl I.zp
theorem Inv.kept(I:Inv X pins σ H s)(k:∀b u,s.heap.get? b=some u->h'.get? b=some u):Inv X pins σ H { s with heap:=h',toks:=t' }:=I.un (Un.kept k) (I.zp.kept k)
theorem Inv.laid(I:Inv X pins σ H s)(k:∀b u,s.heap.get? b=some u->h'.get? b=some u)(hp:s.heap.objs.size<=a)(new:Ad X.prog X.w (upd H a o) h' a o) :
 Inv X pins σ (upd H a o) { s with heap:=h',toks:=t' }:=I.un (Un.laid k hp (I.zp.fresh hp)) (I.zp.laid k hp new)
theorem Inv.write(I:Inv X pins σ H s)(mu:Mut (H x))(he:e=x\/H e=some (.own x))(k:∀b u,b≠e->s.heap.get? b=some u->h'.get? b=some u)(heo:∃u,h'.get? e=some u)(new:Ad X.prog X.w (upd H x o) h' x o):Inv X pins σ (upd H x o) { s with heap:=h',toks:=t' }:=I.un (Un.write mu he k heo) (I.zp.write mu he k heo new)
def Inv.weak(I:Inv X pins σ H s)(hl:σ'.length=σ.length)(w:∀(i:Nat) v,σ'[i]?=some (some v)->σ[i]?=some (some v)):Inv X pins σ' H s :=
 ⟨I.ok,I.os,I.bare,I.base,let ⟨m,hn,hl'⟩:=I.loc;⟨m,hn,λi x v e1 e2 e3=>hl' i x v e1 (w i v e2) e3⟩,I.cell,I.free,I.Ml,I.pin,I.zp,hl.trans I.len⟩
def Inv.Qa(I:Inv X pins σ H s)(h:∀p∈agv,s.heap.get? p.1=some p.2/\H p.1=none/\p.1≠X.env.locals/\p.1∉X.fs/\∀v,p.2.data≠.cell v):Inv X agv σ H s :=
 ⟨I.ok,I.os,I.bare,I.base,I.loc,I.cell,I.free,I.Ml,λp hp=>(dw.mp hp).elim (λz=>I.pin p (yc _ z)) (h p),I.zp,I.len⟩
def abt{N:Yf}(hN:N.Nodup){i:Nat}(a:N[i]?=some x)(b:N[j]?=some x):i=j:=by obtain⟨h1,e1⟩:=ak.mp a;obtain⟨h2,e2⟩:=ak.mp b;exact(zu hN).mp (e1.trans e2.symm)
def ajc(I:Inv X pins σ H s)(hN:X.N.Nodup)(hi:X.N[i]?=some x)(hx:Loc X.env.scope x)(r:RelV v u)(h:∀s',Inv X pins (σ.set i (some v)) H s'->(∃a,Heap.SameBut a s.heap s'.heap/\(a=X.env.locals\/X.env.cells.lookup x=some a))->Q () s')(hf:X.fn x=true\/X.env.scope.names.lookup x=some .local:=by first|exact .inl rfl|exact .inr rfl|assumption):wpAny M A (storeName X.env x u) Q E s:=by
 obtain⟨m,hn,hl⟩:=id I.loc;have bbx:(X.env.scope.kind==.class||(X.env.scope.kind==.module&&X.env.locals != X.env.globals))=false:=by rw[I.ok.kind];rfl
 have hiσ:i < σ.length:=by rw[I.len];exact(ak.mp hi).1
 have cne:=I.cne;have tracked:∀{a:Addr}{h':Heap},(∃o,s.heap.get? a=some o/\H a=none)->Heap.SameBut a s.heap h'->N8 X.prog X.w H h':=fun{a h'} ha hs b ob e=>by
  obtain⟨_,_,Oa⟩:=ha;refine(I.zp b ob e).stay (λc w' hc q=>(hs.2 c ?_).trans q) (λ_ q=>q) λ_ _ q=>q
  rintro rfl;rcases hc with rfl|hc
  . rw[Oa] at e;cases e
  . rw[Oa] at hc;cases hc
 rcases hx with hk|hk
 . refine wpAny_storeName_local hk hn (λh' Nf hs=>?_) bbx
   obtain⟨oL,_,_,hoL,_⟩:=id hn;refine h _ ⟨I.ok,I.os,I.bare,⟨λb o e n hb hx=>?_,λb o e n hb hx=>?_,I.base.free,λb o e hx=>?_,I.base.Vh,I.base.Zx,I.base.abr⟩,⟨_,Nf,λj y v' e1 e2 e3=>?_⟩,λy c e=>?_,I.free,I.Ml,λp hp=>?_,tracked ⟨oL,hoL,I.free⟩ hs,by simpa using I.len⟩ ⟨_,hs,.inl rfl⟩
   . exact(hs.2 b (fc (gh (az e) I.ok.above))).trans (I.base.keep b o e n hb hx)
   . obtain⟨sl,e1⟩:=I.base.slot b o e n hb hx
     exact⟨sl,(hs.2 b (fc (gh (az e) I.ok.above))).trans e1⟩
   . obtain⟨o',e1⟩:=I.base.there b o e hx
     exact⟨o',(hs.2 b (fc (gh (az e) I.ok.above))).trans e1⟩
   . by_cases hj:j=i
     . subst hj
       rw[hi] at e1;cases e1;rw[yw hiσ] at e2;cases e2;exact⟨u,r,.inl ⟨hk,by simp⟩⟩
     . rw[ur (jx hj)] at e2
       obtain⟨u',r',q⟩:=hl j y v' e1 e2 e3;refine⟨u',r',?_⟩;rcases q with⟨k,e⟩|⟨k,c,e,z⟩
       . refine .inl ⟨k,?_⟩
         have:y≠x:=λe=>hj (abt hN e1 (e▸hi))
         simp[this,e]
       . exact .inr ⟨k,c,e,z.sameBut hs (cne y c e)⟩
   . obtain⟨w',z⟩:=I.cell y c e
     exact⟨w',z.sameBut hs (cne y c e)⟩
   . obtain⟨e,n,ne,nf,d⟩:=I.pin p hp
     exact⟨(hs.2 p.1 ne).trans e,n,ne,nf,d⟩
 . have hfn:X.fn x=true:=by
    rcases hf with z|z
    . exact z
    . rw[z] at hk;cases hk
   obtain⟨c,hc⟩:=I.ok.has x (.inl hk);obtain⟨w',z⟩:=I.cell x c hc;refine wpAny_storeName_cell I.ok.kind hk hc z (λh' hc' hs=>?_);obtain⟨oc,hoc,bbz⟩:=id z;refine h { s with heap:=h' } ⟨I.ok,I.os,I.bare,⟨λb o e n hb hx=>?_,λb o e n hb hx=>?_,I.base.free,λb o e hx=>?_,I.base.Vh,I.base.Zx,I.base.abr⟩,⟨m,hn.sameBut hs (jx (cne x c hc)),λj y v' e1 e2 e3=>?_⟩,λy c' e=>?_,I.free,I.Ml,λp hp=>?_,tracked ⟨oc,hoc,I.Ml x c hc⟩ hs,by simpa using I.len⟩ ⟨c,hs,.inr hc⟩
   . exact(hs.2 b (fc (gh (az e) (I.ok.cab x c hfn hc)))).trans (I.base.keep b o e n hb hx)
   . obtain⟨sl,e1⟩:=I.base.slot b o e n hb hx
     exact⟨sl,(hs.2 b (fc (gh (az e) (I.ok.cab x c hfn hc)))).trans e1⟩
   . obtain⟨o',e1⟩:=I.base.there b o e hx
     exact⟨o',(hs.2 b (fc (gh (az e) (I.ok.cab x c hfn hc)))).trans e1⟩
   . by_cases hj:j=i
     . subst hj
       rw[hi] at e1;cases e1;rw[yw hiσ] at e2;cases e2;exact⟨u,r,.inr ⟨.inl hk,c,hc,hc'⟩⟩
     . rw[ur (jx hj)] at e2
       obtain⟨u',r',q⟩:=hl j y v' e1 e2 e3;refine⟨u',r',?_⟩;rcases q with q|⟨k,c',e,z'⟩
       . exact .inl q
       . refine .inr ⟨k,c',e,z'.sameBut hs ?_⟩
         rintro rfl;exact hj (abt hN e1 (I.ok.inj _ _ _ e hc▸hi))
   . by_cases hcc:c'=c
     . subst hcc;exact⟨_,hc'⟩
     . obtain⟨w2,z2⟩:=I.cell y c' e
       exact⟨w2,z2.sameBut hs hcc⟩
   . obtain⟨e,n,ne,nf,d⟩:=I.pin p hp
     refine⟨(hs.2 p.1 ?_).trans e,n,ne,nf,d⟩;intro q;rw[q,hoc] at e;have q':oc=p.2:=jq e;exact d w' (by rw[<- q'];exact bbz)
def ams(I:Inv X pins σ H s)(hN:X.N.Nodup)(hi:X.N[i]?=some x)(hx:Loc X.env.scope x)(r:RelV v u)(h:∀s',Inv X pins (σ.set i (some v)) H s'->Q () s')(hf:X.fn x=true\/X.env.scope.names.lookup x=some .local:=by first|exact .inl rfl|exact .inr rfl|assumption):wpAny M A (storeName X.env x u) Q E s :=
 ajc I hN hi hx r (λs' I' _=>h s' I') hf
def Inv.call'(I:Inv X pins σ H s)(ho:s'.os=s.os)(u:Un (frs X.stack) ch H H' s.heap s'.heap)(zp:N8 X.prog X.w H' s'.heap)(hg:AllBare s'.gens)(hch:∀b∈ch,(b∈X.ex\/X.s₀.heap.objs.size<=b)/\b≠X.env.locals/\(∀x c,X.env.cells.lookup x=some c->c≠b)/\∀p∈X.pn++pins,p.1≠b):Inv X pins σ H' s':=by obtain⟨h',g',d',t',o'⟩:=s';have e:o'=s.os:=ho;subst e;exact I.call (g':=g') (t':=t') (d':=d') u zp hg hch
abbrev XK:=Value->Option Addr->Hp->Prop
abbrev St:=List (Option V)
abbrev VK:=V->Hp->Prop
abbrev TE:=St->Hp->VK->Prop
abbrev TT:=St->Hp->(Bool->Hp->Prop)->Prop
abbrev TA:=St->Hp->(List V->Hp->Prop)->Prop
structure Ends where
 nx:St->Hp->Prop
 rt:VK
 bk:St->Hp->Prop:=λ_ _=>False
 ct:St->Hp->Prop:=λ_ _=>False
abbrev TS:=Ends->St->Hp->Prop
def EP(X:Cx)(pins:Zp)(σ:St)(Q:VK)(u:Value)(s':Shared):Prop:=∃v H',Inv X pins σ H' s'/\RelV v u/\Q v H'
def TP(X:Cx)(pins:Zp)(σ:St)(Q:Bool->Hp->Prop)(b:Bool)(s':Shared):Prop:=∃H',Inv X pins σ H' s'/\Q b H'
def AP(X:Cx)(pins:Zp)(σ:St)(Q:List V->Hp->Prop)(us:Zl)(s':Shared):Prop:=∃vs H',Inv X pins σ H' s'/\Vals vs us/\Q vs H'
def SP(X:Cx)(pins:Zp)(D:Ends)(f:Flow)(s':Shared):Prop :=
 match f with
 |.next=>∃σ' H',Inv X pins σ' H' s'/\D.nx σ' H'|.brk=>∃σ' H',Inv X pins σ' H' s'/\D.bk σ' H'|.cont=>∃σ' H',Inv X pins σ' H' s'/\D.ct σ' H'|.ret u=>∃v σ' H',Inv X pins σ' H' s'/\RelV v u/\D.rt v H'
def PE(X:Cx)(e:Expr)(t:TE):Prop :=
 ∀(pins:Zp)(s:Shared)(σ:St)(H:Hp)(Q:VK),Inv X pins σ H s->t σ H Q->wpAny (model X.prog X.w) X.A (eval e X.env) (EP X pins σ Q) X.xe s
def PT(X:Cx)(e:Expr)(t:TT):Prop :=
 ∀(pins:Zp)(s:Shared)(σ:St)(H:Hp)(Q:Bool->Hp->Prop),Inv X pins σ H s->t σ H Q->wpAny (model X.prog X.w) X.A (isTrue e X.env (eval e X.env)) (TP X pins σ Q) X.xe s
def PW(X:Cx)(e:Expr)(t:TT):Prop :=
 ∀(whole:Sem Value)(pins:Zp)(s:Shared)(σ:St)(H:Hp)(Q:Bool->Hp->Prop),Inv X pins σ H s->t σ H Q->wpAny (model X.prog X.w) X.A (isTrue e X.env whole) (TP X pins σ Q) X.xe s
def PW.pt(h:PW X e t):PT X e t:=h _
def PA(X:Cx)(es:Ya)(t:TA):Prop :=
 ∀(pos:Pos)(pins:Zp)(s:Shared)(σ:St)(H:Hp)(Q:List V->Hp->Prop),Inv X pins σ H s->t σ H Q->wpAny (model X.prog X.w) X.A (spliced (backTo pos (starEach es X.env))) (AP X pins σ Q) X.xe s
def PS(X:Cx)(st:Stmt)(t:TS):Prop :=
 ∀(pins:Zp)(s:Shared)(σ:St)(H:Hp)(D:Ends),Inv X pins σ H s->t D σ H->wpAny (model X.prog X.w) X.A (exec st X.env) (SP X pins D) X.xe s
def Qc(X:Cx)(st:List Stmt)(t:TS):Prop :=
 ∀(pins:Zp)(s:Shared)(σ:St)(H:Hp)(D:Ends),Inv X pins σ H s->t D σ H->wpAny (model X.prog X.w) X.A (execs st X.env) (SP X pins D) X.xe s
def Ar(h:wpAny M A t Q E s)(hQ:∀a s,Q a s->Q' a s):wpAny M A t Q' E s:=lg h hQ λ_ _ x=>x
end L2
namespace L2
open PySem PySem.Spec PyProof.Rows
def bb0(i:Nat):TE:=fun σ H Q=>∃v,σ[i]?=some (some v)/\Q v H
def tC(v:V):TE:=λ_ H Q=>Q v H
def ayk(hN:X.N[i]?=some x)(hv:Vis X.env.scope x)(hd:(x==("__debug__" : Str))=false:=by decide)(hcd:(x==("__classdict__" : Str))=false:=by decide):PE X (.Name x pos) (bb0 i):=by
 intro pins s σ H Q I h;obtain⟨v,e,h⟩:=h;obtain⟨m,hn,hl⟩:=I.loc;obtain⟨u,r,l⟩:=hl i x v hN e hv;have fin:EP X pins σ Q u s:=⟨v,H,I,r,h⟩;rcases l with⟨hk,hm⟩|⟨hk,c,hc,awb⟩
 . exact wpAny_Name (wpAny_loadName_local I.ok.kind hk hn hm fin) hd
 . rcases hk with hk|hk
   . exact wpAny_Name (wpAny_loadName_cell I.ok.kind hk hc awb fin) hd
   . exact wpAny_Name (wpAny_loadName_free I.ok.kind hk hc awb fin hcd) hd
def ayl:PE X (.Constant (.int i) j pos) (tC (.int i)):=λ_ _ _ H _ I h=>wpAny_Constant_int ⟨.int i,H,I.tok _,⟨_,rfl⟩,h⟩
def a4s:PE X (.Constant (.bool b) j pos) (tC (.bl b)):=λ_ _ _ H _ I h=>Constant_bool ⟨.bl b,H,I,rfl,h⟩
def aym:PE X (.Constant .none j pos) (tC .non):=λ_ _ _ H _ I h=>Constant_none ⟨.non,H,I,rfl,h⟩
def ayn:PE X (.Constant (.str x) j pos) (tC (.str x)):=λ_ _ _ H _ I h=>Calls.Constant_str ⟨.str x,H,I.tok _,⟨_,rfl⟩,h⟩
def Gl(X:Cx)(x:Str):Prop:=X.env.kindOf x=some .globalImplicit
def Z0(I:Inv X pins σ H s)(hg:Gl X x)(hm:X.mg x=some u)(h:Q u s)(hd:(x==("__debug__" : Str))=false:=by decide):wpAny (model X.prog X.w) X.A (eval (.Name x pos) X.env) Q E s :=
 Calls.Name_function_global I.ok.kind hg (Calls.loadGlobal_global (by rw[I.ok.glob];exact I.mod.glob.keeps I.bk) hm h) hd
def Bj(I:Inv X pins σ H s)(hg:Gl X x)(hm:X.mg x=none)(hv:bootBuiltins x=some u)(h:Q u s)(hn:x≠"__name__" := by decide)(hd:(x==("__debug__" : Str))=false:=by decide):wpAny (model X.prog X.w) X.A (eval (.Name x pos) X.env) Q E s:=by obtain⟨mb,h1,h2⟩:=I.mod.blt;exact Calls.Name_function_global I.ok.kind hg (Calls.loadGlobal_builtin (by rw[I.ok.glob];exact I.mod.glob.keeps I.bk) hm (by rw[I.ok.blt];exact h1.keeps I.bk) ((h2 x hn).trans hv) h) hd
def ase(hg:Gl X x)(hm:X.mg x=some u)(r:RelV v u)(hd:(x==("__debug__" : Str))=false:=by decide):PE X (.Name x pos) (tC v) :=
 λ_ _ _ H _ I h=>Z0 I hg hm ⟨v,H,I,r,h⟩ hd
def PC(X:Cx)(op:CmpOp)(a b:Expr)(t:TE):Prop :=
 ∀(pins:Zp)(s:Shared)(σ:St)(H:Hp)(Q:VK),Inv X pins σ H s->t σ H Q ->
  wpAny (model X.prog X.w) X.A (eval a X.env) (λv s₁=>wpAny (model X.prog X.w) X.A (eval b X.env) (λu s₂=>wpAny (model X.prog X.w) X.A (compareOp op v u) (EP X pins σ Q) X.xe s₂) X.xe s₁) X.xe s
def abu(b:Expr)(h:op≠.In)(h2:op≠.NotIn):behindInMarks op b=false:=by
 have e1:(op==CmpOp.In)=false:=by cases op<;>first|rfl|exact absurd rfl h
 have e2:(op==CmpOp.NotIn)=false:=by cases op<;>first|rfl|exact absurd rfl h2
 cases b<;>simp[behindInMarks,e1,e2]
def tB(t:TE):TT:=fun σ H Q=>t σ H λx H1=>∃c,x=.bl c/\Q c H1
def ayo(h:PC X op a b t)(h1:behindInMarks op b=false:=by first|exact abu _ (by decide) (by decide)|rfl):PE X (.Compare a [op] [b] pos) t:=λpins s σ H Q I hw=>wpAny_Compare1 (h pins s σ H Q I hw) h1
def ayp(h:PC X op a b t)(h1:behindInMarks op b=false:=by first|exact abu _ (by decide) (by decide)|rfl):PT X (.Compare a [op] [b] pos) (tB t):=by intro pins s σ H Q I hw;refine wpAny_isTrue_Compare1 (Ar (h pins s σ H _ I hw) λv s1 h1=>Ar h1 λu s2 h2=>Ar h2 λc s3 ⟨x,H1,I1,r1,q1⟩=>?_) h1;obtain⟨d,rfl,q⟩:=q1;cases r1;exact j7 ⟨H1,I1,q⟩
def ayq(h:PE X e t)(he:∀whole,isTrue e X.env whole=(do let v <- whole;standAt e.pos;holding [v] (truthy v)):=by intro _;rfl):PT X e (tB t):=by intro pins s σ H Q I hw;refine isTrue_plain (Ar (h pins s σ H _ I hw) λv s1 ⟨x,H1,I1,r1,q1⟩=>?_) (he _);obtain⟨d,rfl,q⟩:=q1;cases r1;exact j7 ⟨H1,I1,q⟩
def bb1(t u:TT):TT:=fun σ H Q=>t σ H λc H1=>if c=true then u σ H1 Q else Q false H1
def tOr(t u:TT):TT:=fun σ H Q=>t σ H λc H1=>if c=true then Q true H1 else u σ H1 Q
def bb2(t:TT):TT:=fun σ H Q=>t σ H λc H1=>Q (!c) H1
def asf(ha:PT X a tA):PW X (.BoolOp .And [a] pos) tA:=by
 intro wh pins s σ H Q I h;refine isTrue_and (Ar (ha pins s σ H Q I h) λc s1 e=>?_);cases c with
 |true=>exact isTrue_and_nil e|false=>exact e
def ayr(ha:PT X a tA):PW X (.BoolOp .Or [a] pos) tA:=by
 intro wh pins s σ H Q I h;refine isTrue_or (Ar (ha pins s σ H Q I h) λc s1 e=>?_);cases c with
 |false=>exact isTrue_or_nil e|true=>exact e
def ays{rest:Ya}(ha:PT X a tA)(hb:PW X (.BoolOp .And (b::rest) pos) tB'):PW X (.BoolOp .And (a::b::rest) pos) (bb1 tA tB'):=by
 intro wh pins s σ H Q I h;refine isTrue_and (Ar (ha pins s σ H _ I h) λc s1 z_=>?_);obtain⟨H1,I1,q1⟩:=z_;cases c with
 |true=>exact hb wh pins s1 σ H1 Q I1 q1|false=>exact⟨H1,I1,q1⟩
def a4t{rest:Ya}(ha:PT X a tA)(hb:PW X (.BoolOp .Or (b::rest) pos) tB'):PW X (.BoolOp .Or (a::b::rest) pos) (tOr tA tB'):=by
 intro wh pins s σ H Q I h;refine isTrue_or (Ar (ha pins s σ H _ I h) λc s1 z_=>?_);obtain⟨H1,I1,q1⟩:=z_;cases c with
 |true=>exact⟨H1,I1,q1⟩|false=>exact hb wh pins s1 σ H1 Q I1 q1
def ayt(ha:PT X a tA):PT X (.UnaryOp .Not a pos) (bb2 tA):=by intro pins s σ H Q I h;exact isTrue_not (ha pins s σ H (λc H1=>Q (!c) H1) I h)
def a4u(ta tb:TE):TE:=fun σ H Q=>ta σ H λx H1=>∃c,x=.bl c/\if c=true then tb σ H1 Q else Q (.bl false) H1
def bb4(ta tb:TE):TE:=fun σ H Q=>ta σ H λx H1=>∃c,x=.bl c/\if c=true then Q (.bl true) H1 else tb σ H1 Q
def a4v(ta:TE):TE:=fun σ H Q=>ta σ H λx H1=>∃c,x=.bl c/\Q (.bl (!c)) H1
def ayu{rest:Ya}(ha:PE X a ta)(hb:PE X (.BoolOp .And (b::rest) pos) tb):PE X (.BoolOp .And (a::b::rest) pos) (a4u ta tb):=by
 intro pins s σ H Q I h;refine BoolOp_and (Ar (ha pins s σ H _ I h) λv s1 z_=>?_);obtain⟨x,H1,I1,r1,q1⟩:=z_;obtain⟨c,rfl,q1⟩:=q1;cases r1;refine j7 ?_;cases c with
 |true=>exact hb pins s1 σ H1 Q I1 q1|false=>exact⟨.bl false,H1,I1,rfl,q1⟩
def a4w{rest:Ya}(ha:PE X a ta)(hb:PE X (.BoolOp .Or (b::rest) pos) tb):PE X (.BoolOp .Or (a::b::rest) pos) (bb4 ta tb):=by
 intro pins s σ H Q I h;refine BoolOp_or (Ar (ha pins s σ H _ I h) λv s1 z_=>?_);obtain⟨x,H1,I1,r1,q1⟩:=z_;obtain⟨c,rfl,q1⟩:=q1;cases r1;refine j7 ?_;cases c with
 |false=>exact hb pins s1 σ H1 Q I1 q1|true=>exact⟨.bl true,H1,I1,rfl,q1⟩
def ayv(ha:PE X a ta):PE X (.UnaryOp .Not a pos) (a4v ta):=by intro pins s σ H Q I h;refine UnaryOp_ (Ar (ha pins s σ H _ I h) λv s1 z_=>?_);obtain⟨x,H1,I1,r1,q1⟩:=z_;obtain⟨c,rfl,q1⟩:=q1;cases r1;exact not_of (j7 ⟨.bl (!c),H1,I1,rfl,q1⟩)
def tIf(t:TT)(ta tb:TE):TE:=fun σ H Q=>t σ H λc H1=>if c=true then ta σ H1 Q else tb σ H1 Q
def amt(hc:PT X c tA)(ha:PE X a ta)(hb:PE X b tb):PE X (.IfExp c a b pos) (tIf tA ta tb):=by
 intro pins s σ H Q I h;refine wpAny_IfExp (Ar (hc pins s σ H _ I h) λd s1 z_=>?_);obtain⟨H1,I1,q1⟩:=z_;cases d with
 |true=>exact ha pins s1 σ H1 Q I1 q1|false=>exact hb pins s1 σ H1 Q I1 q1
end L2
namespace L2
open PySem PySem.Spec PyProof.Rows
def G9(K:Fg)(H:Hp)(a:Addr)(xs:List V):Prop :=
 Rd H a (.lst xs) \/
  ∃(o:Obj)(xr:U1)(n:Nat),K.lookup a=some o/\o.cls=.type "list"/\o.dict=none/\o.data=.seq xr n/\xr.size<=sizeLine/\Vals xs xr.toList
def Ie(K:Fg)(H:Hp)(a:Addr)(xs:List V):Prop :=
 Rd H a (.tup xs) \/
  ∃(o:Obj)(xr:U1)(n:Nat),K.lookup a=some o/\o.cls=.type "tuple"/\o.data=.seq xr n/\xr.size<=sizeLine/\Vals xs xr.toList
noncomputable def bb5:Value->Option V
 |.none=>some .non|.bool b=>some (.bl b)|.int i _=>some (.int i)|.str x _=>some (.str x)|.bytes b _=>some (.byt b)|.float b _=>some (.flt b)|.ref a=>some (.ref a)|.type n=>some (.ty n)|_=>none
def RelV.abs(r:RelV x u):bb5 u=some x:=by
 cases x with
 |non=>cases r;rfl|bl _=>cases r;rfl|int _=>obtain⟨t,rfl⟩:=r;rfl
 |str _=>obtain⟨t,rfl⟩:=r;rfl
 |byt _=>obtain⟨t,rfl⟩:=r;rfl
 |flt _=>obtain⟨t,rfl⟩:=r;rfl
 |ref _=>cases r;rfl|ty _=>cases r;rfl
def RelV.inj(r:RelV x u)(q:RelV y u):x=y:=jq (r.abs.symm.trans q.abs)
theorem Vals.inj:∀{xs ys:List V}{us:Zl},Vals xs us->Vals ys us->xs=ys
 |_,_,_,.nil,.nil=>rfl|_,_,_,.cons r t,.cons r' t'=>by rw[r.inj r',Vals.inj t t']
def G9.of{K:Fg}(h:H a=some (.lst xs)):G9 K H a xs:=.inl (.inl h)
def Ie.of{K:Fg}(h:H a=some (.tup xs)):Ie K H a xs:=.inl (.inl h)
def Inv.list(I:Inv X pins σ H s)(h:G9 X.K H a xs):∃xr:List Value,Vals xs xr/\PlainL s.heap a xr.toArray/\xs.length<=sizeLine:=by
 rcases h with h|⟨o,xr,n,hk,hc,hd,hs,hz,r⟩
 . obtain⟨z,xr,n,r,e⟩:=h.ok I.zp
   exact⟨xr,r,⟨_,n,e,rfl,rfl,rfl⟩,z⟩
 . refine⟨xr.toList,r,⟨o,n,I.Rj a o hk,hc,hd,by simpa using hs⟩,?_⟩
   have e:=r.length;simp only[u0] at e;exact a_ (f_ e) hz
def Inv.tuple(I:Inv X pins σ H s)(h:Ie X.K H a xs):∃xr:List Value,Vals xs xr/\IsTup s.heap a xr.toArray/\xs.length<=sizeLine:=by
 rcases h with h|⟨o,xr,n,hk,hc,hs,hz,r⟩
 . obtain⟨z,xr,r,p⟩:=h.ok I.zp
   exact⟨xr,r,p.is,z⟩
 . refine⟨xr.toList,r,⟨o,I.Rj a o hk,hc,n,by simpa using hs⟩,?_⟩
   have e:=r.length;simp only[u0] at e;exact a_ (f_ e) hz
def Inv.abv(I:Inv X pins σ H s)(h:G9 X.K H a xs)(h':G9 X.K H a ys):xs=ys:=by
 obtain⟨xr,r,⟨o,n,e,_,_,d⟩,_⟩:=I.list h;obtain⟨its',r',⟨o',n',e',_,_,d'⟩,_⟩:=I.list h';rw[e] at e';cases e';rw[d] at d';injection d' with d1 _
 have:xr=its':=by simpa using p7 Array.toList d1
 subst this;exact r.inj r'
def Inv.Rk(I:Inv X pins σ H s)(h:Ie X.K H a xs)(h':Ie X.K H a ys):xs=ys:=by
 obtain⟨xr,r,⟨o,e,_,n,d⟩,_⟩:=I.tuple h;obtain⟨its',r',⟨o',e',_,n',d'⟩,_⟩:=I.tuple h';rw[e] at e';cases e';rw[d] at d';injection d' with d1 _
 have:xr=its':=by simpa using p7 Array.toList d1
 subst this;exact r.inj r'
noncomputable abbrev Cx.W5(X:Cx)(E:Y1):Cx:={ X with xe:=E }
noncomputable abbrev Cx.nox(X:Cx):Cx:=X.W5 λ_ _=>False
theorem Cx.Ok.W5{X:Cx}(ok:X.Ok)(E:Y1):(X.W5 E).Ok :=
 ⟨ok.mod,ok.kind,ok.glob,ok.blt,ok.above,ok.inj,ok.has,ok.cab,ok.hd,ok.frames,ok.stk,ok.exf,ok.bs,ok.bsz,ok.amq,ok.asd,ok.T5,ok.frf⟩
def Cx.Ok.Mm{X:Cx}(ok:(X.W5 E).Ok):X.Ok :=
 ⟨ok.mod,ok.kind,ok.glob,ok.blt,ok.above,ok.inj,ok.has,ok.cab,ok.hd,ok.frames,ok.stk,ok.exf,ok.bs,ok.bsz,ok.amq,ok.asd,ok.T5,ok.frf⟩
theorem Inv.W5(I:Inv X pins σ H s)(E:Y1):Inv (X.W5 E) pins σ H s:=⟨I.ok.W5 E,I.os,I.bare,I.base,I.loc,I.cell,I.free,I.Ml,I.pin,I.zp,I.len⟩
theorem Inv.Mm(I:Inv (X.W5 E) pins σ H s):Inv X pins σ H s:=⟨I.ok.Mm,I.os,I.bare,I.base,I.loc,I.cell,I.free,I.Ml,I.pin,I.zp,I.len⟩
theorem SP.Mm(h:SP (X.W5 E) pins D f s'):SP X pins D f s':=by
 cases f with
 |next=>obtain⟨σ',H',I,q⟩:=h;exact⟨σ',H',I.Mm,q⟩
 |brk=>obtain⟨σ',H',I,q⟩:=h;exact⟨σ',H',I.Mm,q⟩
 |cont=>obtain⟨σ',H',I,q⟩:=h;exact⟨σ',H',I.Mm,q⟩
 |ret u=>obtain⟨v,σ',H',I,r,q⟩:=h;exact⟨v,σ',H',I.Mm,r,q⟩
theorem Qc.nox{st:List Stmt}(h:Qc X.nox st t):Qc X st t:=λpins s σ H D I hw =>
 lg (h pins s σ H D (I.W5 _) hw) (λ_ _ q=>q.Mm) λ_ _ z=>False.elim z
def awc:TS:=λD σ H=>D.nx σ H
def bb6(t u:TS):TS:=λD σ H=>t { D with nx:=u D } σ H
def ash:Qc X [] awc:=λ_ _ σ H _ I h=>wpAny_execs_nil ⟨σ,H,I,h⟩
def amu{st:Stmt}{rest:List Stmt}(h1:PS X st t)(h2:Qc X rest u):Qc X (st::rest) (bb6 t u):=by
 intro pins s σ H D I h;refine wpAny_execs_cons (Ar (h1 pins s σ H { D with nx:=u D } I h) λf s1 q=>?_);cases f with
 |next =>
  obtain⟨σ',H',I',q⟩:=q;exact h2 pins s1 σ' H' D I' q
 |ret v=>exact q|brk=>exact q|cont=>exact q
def ayw:TS:=λD σ H=>D.bk σ H
def a4y:TS:=λD σ H=>D.ct σ H
def asi:PS X (.Pass pos) awc:=λ_ _ σ H _ I h=>wpAny_Pass ⟨σ,H,I,h⟩
def amv:PS X (.Break pos) ayw:=λ_ _ σ H _ I h=>wpAny_Break ⟨σ,H,I,h⟩
def abw:PS X (.Continue pos) a4y:=λ_ _ σ H _ I h=>wpAny_Continue ⟨σ,H,I,h⟩
def Inv.quiet(I:Inv X pins σ H s):interactive X.env=false:=by simp[interactive,I.ok.kind]
def a4z(te:TE):TS:=λD σ H=>te σ H λ_ H1=>D.nx σ H1
def asj(he:PE X e te)(hs:swapsWith e none pos.line X.env=pure false:=by rfl):PS X (.Expr e pos) (a4z te):=by intro pins s σ H D I h;exact wpAny_Expr_any (Ar (he pins s σ H _ I h) λv s1 ⟨x,H1,I1,r1,q1⟩=>⟨σ,H1,I1,q1⟩) I.quiet hs
def bb7(te:TE):TS:=λD σ H=>te σ H D.rt
def ayx(he:PE X e te):PS X (.Return (some e) pos) (bb7 te):=by intro pins s σ H D I h;exact wpAny_Return_some (Ar (he pins s σ H _ I h) λv s1 ⟨x,H1,I1,r1,q1⟩=>⟨x,σ,H1,I1,r1,q1⟩)
def bb8(c:TT)(t u:TS):TS:=λD σ H=>c σ H λb H1=>if b=true then t D σ H1 else u D σ H1
def a5a(hc:PT X c tc)(ha:Qc X a t)(hb:Qc X b u):PS X (.If c a b pos) (bb8 tc t u):=by
 intro pins s σ H D I h;refine wpAny_If (Ar (hc pins s σ H _ I h) λd s1 z_=>?_);obtain⟨H1,I1,q1⟩:=z_;cases d with
 |true=>exact ha pins s1 σ H1 D I1 q1|false=>exact hb pins s1 σ H1 D I1 q1
abbrev TG:=V->St->Hp->(St->Hp->Prop)->Prop
abbrev TGs:=List V->St->Hp->(St->Hp->Prop)->Prop
def PG(X:Cx)(target:Expr)(t:TG):Prop :=
 ∀(pins:Zp)(s:Shared)(σ:St)(H:Hp)(v:V)(u:Value)(Q:St->Hp->Prop),Inv X pins σ H s->RelV v u->t v σ H Q ->
  wpAny (model X.prog X.w) X.A (assign target X.env u) (λ_ s'=>∃σ' H',Inv X pins σ' H' s'/\Q σ' H') X.xe s
def PGs(X:Cx)(ts:Ya)(t:TGs):Prop :=
 ∀(pins:Zp)(s:Shared)(σ:St)(H:Hp)(vs:List V)(us:Zl)(Q:St->Hp->Prop),Inv X pins σ H s->Vals vs us->t vs σ H Q ->
  wpAny (model X.prog X.w) X.A (assignInOrder ((assignEach ts X.env).map (·.2)) us) (λ_ s'=>∃σ' H',Inv X pins σ' H' s'/\Q σ' H') X.xe s
abbrev ayy:=V->V->V->Hp->(Hp->Prop)->Prop
def ayz(X:Cx)(t:ayy):Prop :=
 ∀(pins:Zp)(s:Shared)(σ:St)(H:Hp)(o i v:V)(ov iv u:Value)(Q:Hp->Prop),Inv X pins σ H s->RelV o ov->RelV i iv->RelV v u->t o i v H Q ->
  wpAny (model X.prog X.w) X.A (setItem ov iv u) (λ_ s'=>∃H',Inv X pins σ H' s'/\Q H') X.xe s
def agw(i:Nat):TG:=λv σ H Q=>Q (σ.set i (some v)) H
def Z3(hN:X.N.Nodup)(hi:X.N[i]?=some x)(hx:Loc X.env.scope x)(hf:X.fn x=true\/X.env.scope.names.lookup x=some .local:=by first|exact .inl rfl|exact .inr rfl|assumption):PG X (.Name x pos) (agw i):=by intro pins s σ H v u Q I r h;exact wpAny_assign_Name (ams I hN hi hx r (λs' I'=>⟨_,H,I',h⟩) hf)
def bb9:TGs:=λvs σ H Q=>vs=[]/\Q σ H
def a5d(t:TG)(u:TGs):TGs:=λvs σ H Q=>∃v r,vs=v::r/\t v σ H fun σ' H'=>u r σ' H' Q
def asl:PGs X [] bb9:=by intro pins s σ H vs us Q I r h;obtain⟨e,h⟩:=h;subst e;cases r;exact assignInOrder_nil ⟨σ,H,I,h⟩
def amw(h1:PG X e t)(h2:PGs X es u)(hs:(assignEach (e::es) X.env).map (·.2)=assign e X.env::(assignEach es X.env).map (·.2):=by rfl):PGs X (e::es) (a5d t u):=by
 intro pins s σ H vs us Q I r h;obtain⟨v,vr,e1,h⟩:=h;subst e1;cases r with
 |cons r rr =>
  rw[hs];refine assignInOrder_cons (Ar (h1 pins s σ H _ _ _ I r h) λ_ s1 z_=>?_);obtain⟨σ1,H1,I1,q1⟩:=z_;exact h2 pins s1 σ1 H1 _ _ Q I1 rr q1
def bca(K:Fg)(n:Nat)(t:TGs):TG:=λv σ H Q=>∃a xs,v=.ref a/\Ie K H a xs/\xs.length=n/\t xs σ H Q
def ay0(hc:X.calm=true)(h:PGs X es t)(hn:(assignEach es X.env).length=n:=by rfl)(W0:(assignEach es X.env).findIdx? (·.1)=none:=by rfl):PG X (.Tuple es k pos) (bca X.K n t):=by
 intro pins s σ H v u Q I r hw;obtain⟨a,xs,e1,hq,hl,hw⟩:=hw;subst e1;cases r;obtain⟨xr,rv,ht,hz⟩:=I.tuple hq;refine assign_Tuple_tuple (I.ok.hd hc) ht (by simp[hn,<- hl,rv.length]) W0 λh' hx=>?_
 have I1:Inv X pins σ H { s with heap:=h' }:=I.kept (t':=s.toks) λb o e=>hx b o (fc (az e)) e
 exact h pins _ σ H xs _ Q I1 (by simpa using rv) hw
def bcb(to ti:TE)(t:ayy):TG:=λv σ H Q=>to σ H λo H1=>ti σ H1 λi H2=>t o i v H2 λH3=>Q σ H3
def ay1(ho:PE X o to)(hi:PE X i ti)(hs:ayz X t)(ha:∀v,assign (.Subscript o i pos) X.env v=(do
 let ov <- holding [v] (eval o X.env)
 let iv <- holding [v,ov] (eval i X.env)
 standAt pos
 holding [v,ov,iv] (setItem ov iv v)
 release [v,ov,iv] []):=by intro _;rfl):PG X (.Subscript o i pos) (bcb to ti t):=by
 intro pins s σ H v u Q I r h;rw[ha];refine aa (ji (Ar (ho pins s σ H _ I h) λov s1 z_=>?_));obtain⟨x,H1,I1,r1,q1⟩:=z_;refine aa (ji (Ar (hi pins s1 σ H1 _ I1 q1) λiv s2 z_=>?_));obtain⟨y,H2,I2,r2,q2⟩:=z_;refine aa (wpAny_standAt (aa (ji (Ar (hs pins s2 σ H2 x y v ov iv u _ I2 r1 r2 r q2) λ_ s3 z_=>?_))));obtain⟨H3,I3,q3⟩:=z_;exact wpAny_release ⟨σ,H3,I3,q3⟩
def ay2(te:TE)(g:TG):TS:=λD σ H=>te σ H λx H1=>g x σ H1 D.nx
def amx(he:PE X e te)(hg:PG X tg g)(hs:swapsWithSole [tg] e pos.line X.env=pure false:=by rfl)(hw:swappedStores [tg] e X.env=pure none:=by rfl)(h1:(assignEach [tg] X.env).map (·.2)=[assign tg X.env]:=by rfl):PS X (.Assign [tg] e pos) (ay2 te g):=by intro pins s σ H D I h;refine wpAny_Assign_stores (Ar (he pins s σ H _ I h) λv s1 ⟨x,H1,I1,r1,q1⟩=>?_) hs hw;rw[h1];exact Ar (hg pins s1 σ H1 x v _ I1 r1 q1) λ_ s2 q=>q
def ay3(c:TT)(tb:TS):TS:=λD σ H=>∃W:Nat->St->Hp->Prop,(∃m,W m σ H)/\∀m σ H,W m σ H ->
 c σ H λb H1=>if b=true then ∃N:St->Hp->Prop,(∀σ' H',N σ' H'->∃m',m'<m/\W m' σ' H')/\tb { D with nx:=N,ct:=N,bk:=D.nx } σ H1 else D.nx σ H1
def amy(hp:PassesOwn (model X.prog X.w) X.A X.env X.xe)(hc:PT X c tc)(hb:Qc X body tb):PS X (.While c body [] pos) (ay3 tc tb):=by
 intro pins s σ H D I h;obtain⟨W,⟨m0,w0⟩,turn⟩:=h;refine wpAny_While (codeAny_whileLoop (λn s'=>∃σ' H',Inv X pins σ' H' s'/\W n σ' H') ?_ m0 ⟨σ,H,I,w0⟩);rintro n s1 ⟨σ1,H1,I1,w1⟩;refine ue hp (Ar (hc pins s1 σ1 H1 _ I1 (turn n σ1 H1 w1)) λb s2 z_=>?_);obtain⟨H2,I2,q2⟩:=z_;cases b with
 |true =>
  obtain⟨N,hN,q2⟩:=q2;rw[cj rfl];refine ue hp (Ar (hb pins s2 σ1 H2 _ I2 q2) λf s3 q3=>?_);cases f with
  |next =>
   obtain⟨σ3,H3,I3,n3⟩:=q3;obtain⟨m',hm,w3⟩:=hN σ3 H3 n3;exact⟨m',hm,σ3,H3,I3,w3⟩
  |cont =>
   obtain⟨σ3,H3,I3,n3⟩:=q3;obtain⟨m',hm,w3⟩:=hN σ3 H3 n3;exact⟨m',hm,σ3,H3,I3,w3⟩
  |brk=>exact q3|ret v=>exact q3
 |false =>
  rw[bw iu];exact wpAny_execs_nil ⟨σ1,H2,I2,q2⟩
structure It where
 go:Nat->Hp->Prop
 yld:Nat->Hp->V->Hp->Prop
 stop:Nat->Hp->Prop
def T6(X:Cx)(pins:Zp)(H:Hp)(b:Addr):Prop :=
 H b=none/\b≠X.env.locals/\b∉X.fs/\(b∈X.ex\/X.s₀.heap.objs.size<=b)/\(∀x c,X.env.cells.lookup x=some c->c≠b)/\∀p∈X.pn++pins,p.1≠b
def Inv.amz(I:Inv X pins σ H s)(hb:s.heap.objs.size<=b)(hn:H' b=none):T6 X pins H' b:=by
 refine⟨hn,vg (gh I.lt hb),I.ayi hb,.inr (gq I.sz hb),λx c e z=>?_,λp hp z=>?_⟩
 . obtain⟨v,q⟩:=I.cell x c e
   exact absurd (gh q.lt (by rw[z];exact hb)) (lq _)
 . exact absurd (gh (az (I.pin p hp).1) (by rw[z];exact hb)) (lq _)
structure Turn(P:Program)(w:World)(K:Fg)(tg:Expr)(J:It)(fp:X9)(it:Addr)(tn:Nat->Heap->Prop):Prop where
 mem:it∈fp
 obj:∀i h,tn i h->∀b∈fp,∃o,h.get? b=some o/\∀v,o.data≠.cell v
 keep:∀i h h',tn i h->(∀b∈fp,∀o,h.get? b=some o->h'.get? b=some o)->tn i h'
 item:∀(X:Cx),X.prog=P->X.w=w->X.K=K->X.calm=true->∀(i:Nat)(pins:Zp)(s:Shared)(σ:St)(H:Hp)(E:Y1),Inv X pins σ H s->(∀b∈fp,T6 X pins H b)->tn i s.heap->J.go i H ->
  wpAny (model P w) X.A (pyNext (.ref it)) (λr s1=>∃u,r=some u /\
   wpAny (model P w) X.A (letOwnedTupleGo tg (.ref it) u) (λ_ s2=>∃x H',Inv X pins σ H' s2/\RelV x u/\J.yld i H x H'/\tn (i+1) s2.heap/\∀b∈fp,H' b=none) E s1) E s
 done:∀(X:Cx),X.prog=P->X.w=w->X.K=K->X.calm=true->∀(i:Nat)(pins:Zp)(s:Shared)(σ:St)(H:Hp)(E:Y1),Inv X pins σ H s->(∀b∈fp,T6 X pins H b)->tn i s.heap->J.stop i H ->
  wpAny (model P w) X.A (pyNext (.ref it)) (λr s1=>r=none/\Inv X pins σ H s1) E s
 self:∀(A:Around)(i:Nat)(s:Shared)(Q:Y1)(E:Y1),tn i s.heap->Q (.ref it) s->wpAny (model P w) A (pyIter (.ref it)) Q E s
abbrev TI:=St->Hp->(It->Hp->Prop)->Prop
def PIE(X:Cx)(pins:Zp)(σ:St)(tg:Expr)(R:It->Hp->Prop)(itv:Value)(s2:Shared):Prop :=
 ∃(it:Addr)(fp:X9)(tn:Nat->Heap->Prop)(J:It)(H':Hp),itv=.ref it/\Inv X pins σ H' s2/\Turn X.prog X.w X.K tg J fp it tn/\tn 0 s2.heap/\(∀b∈fp,T6 X pins H' b)/\R J H'
def PI(X:Cx)(tg iter:Expr)(wi:TI):Prop :=
 ∀(pins:Zp)(s:Shared)(σ:St)(H:Hp)(R:It->Hp->Prop),Inv X pins σ H s->wi σ H R ->
  wpAny (model X.prog X.w) X.A (eval iter X.env) (λv s1=>wpAny (model X.prog X.w) X.A (pyIter v) (PIE X pins σ tg R) X.xe s1) X.xe s
def am0(ho:s.heap.get? it=some o)(hc:o.cls=.type n)(hd:o.data=.fields vs)(hn:["enumerate", "zip", "dict_itemiterator", "dict_reverseitemiterator", "odict_iterator", "itertools.zip_longest", "itertools.pairwise"].contains n=false)(hQ:Q () s):wpAny M A (letOwnedTupleGo tg (.ref it) u) Q E s:=by
 unfold letOwnedTupleGo;cases tg<;>first
  |exact aj hQ
  | (cases u<;>first
   |exact aj hQ
   | (refine aa (wpAny_load ho ?_)
      rw[hc,hd];show wpAny M A (if(["enumerate", "zip", "dict_itemiterator", "dict_reverseitemiterator", "odict_iterator", "itertools.zip_longest", "itertools.pairwise"].contains n&&vs[0]?==some (rawInt _))=true then _ else _) Q E s;rw[bw (by intro h;rw[hn,Bool.false_and] at h;cases h)];exact aj hQ))
noncomputable def Itl(K:Fg)(a:Addr):It :=
 ⟨λi H=>∃xs x,G9 K H a xs/\xs[i]?=some x,λi H x H'=>H'=H/\∀xs,G9 K H a xs->xs[i]?=some x,λi H=>∃xs,G9 K H a xs/\xs.length<=i⟩
noncomputable def Itt(K:Fg)(a:Addr):It :=
 ⟨λi H=>∃xs x,Ie K H a xs/\xs[i]?=some x,λi H x H'=>H'=H/\∀xs,Ie K H a xs->xs[i]?=some x,λi H=>∃xs,Ie K H a xs/\xs.length<=i⟩
noncomputable def Og(lo:Int)(n:Nat):It:=⟨λi _=>i<n,λi H x H'=>H'=H/\x=.int (lo+i),λi _=>n<=i⟩
theorem ajd{K:Fg}(a it:Addr):Turn P w K tg (Itl K a) [it] it (λi h=>h.IsListIter it a i) where
 mem:=by simp
 obj:=λi h st b hb=>by
  have e:b=it:=by simpa using hb
  subst e;obtain⟨o,e,c,d⟩:=st;exact⟨o,e,λv z=>by rw[d] at z;cases z⟩
 keep:=λi h h' st k=>st.at λo e=>k it (by simp) o e
 item:=by
  intro X hP hw hK hc i pins s σ H E I hf st hg;subst hP hw hK;obtain⟨xs,x,hq,hx⟩:=hg;obtain⟨xr,rv,p,hz⟩:=I.list hq;obtain⟨u,hu,ru⟩:=rv.get hx;obtain⟨f0,f1,f2,f3,f4,f5⟩:=hf it (by simp);refine wpAny_pyNext_list_item st p.isList (x:=u) (by simpa using hu) λh' st' sb=>?_
  have I1:Inv X pins σ H { s with heap:=h' }:=I.turned (t':=s.toks) (λb o hb e=>(sb.2 b hb).trans e) f0 f1 f3 f4 f5;obtain⟨o,e,c,d⟩:=id st';exact⟨u,rfl,am0 (s:={ s with heap:=h' }) e c d (by decide) ⟨x,H,I1,ru,⟨rfl,λys hy=>by rw[I.abv hy hq];exact hx⟩,st',λb hb=>(hf b hb).1⟩⟩
 done:=by intro X hP hw hK hc i pins s σ H E I hf st hg;subst hP hw hK;obtain⟨xs,hq,hx⟩:=hg;obtain⟨xr,rv,p,hz⟩:=I.list hq;obtain⟨f0,f1,f2,f3,f4,f5⟩:=hf it (by simp);have hl:=rv.length;exact wpAny_pyNext_list_end (I.ok.hd hc) st p.isList (by simp;exact a_ (g_ hl) hx) λh' eb=>⟨rfl,I.turned (t':=s.toks) (λb o hb e=>eb b o hb e) f0 f1 f3 f4 f5⟩
 self:=λ_ _ _ _ _ st h=>wpAny_pyIter_listiter st h
theorem ae0{K:Fg}(a it:Addr):Turn P w K tg (Itt K a) [it] it (λi h=>h.IsTupleIter it a i) where
 mem:=by simp
 obj:=λi h st b hb=>by
  have e:b=it:=by simpa using hb
  subst e;obtain⟨o,e,c,d⟩:=st;exact⟨o,e,λv z=>by rw[d] at z;cases z⟩
 keep:=λi h h' st k=>st.at λo e=>k it (by simp) o e
 item:=by
  intro X hP hw hK hc i pins s σ H E I hf st hg;subst hP hw hK;obtain⟨xs,x,hq,hx⟩:=hg;obtain⟨xr,rv,p,hz⟩:=I.tuple hq;obtain⟨u,hu,ru⟩:=rv.get hx;obtain⟨f0,f1,f2,f3,f4,f5⟩:=hf it (by simp);refine wpAny_pyNext_tuple_item st (show s.heap.IsTuple a xr.toArray from p) (x:=u) (by simpa using hu) λh' st' sb=>?_
  have I1:Inv X pins σ H { s with heap:=h' }:=I.turned (t':=s.toks) (λb o hb e=>(sb.2 b hb).trans e) f0 f1 f3 f4 f5;obtain⟨o,e,c,d⟩:=id st';exact⟨u,rfl,am0 (s:={ s with heap:=h' }) e c d (by decide) ⟨x,H,I1,ru,⟨rfl,λys hy=>by rw[I.Rk hy hq];exact hx⟩,st',λb hb=>(hf b hb).1⟩⟩
 done:=by intro X hP hw hK hc i pins s σ H E I hf st hg;subst hP hw hK;obtain⟨xs,hq,hx⟩:=hg;obtain⟨xr,rv,p,hz⟩:=I.tuple hq;obtain⟨f0,f1,f2,f3,f4,f5⟩:=hf it (by simp);have hl:=rv.length;exact wpAny_pyNext_tuple_end (I.ok.hd hc) st (show s.heap.IsTuple a xr.toArray from p) (by simp;exact a_ (g_ hl) hx) λh' eb=>⟨rfl,I.turned (t':=s.toks) (λb o hb e=>eb b o hb e) f0 f1 f3 f4 f5⟩
 self:=λ_ _ _ _ _ st h=>wpAny_pyIter_tupleiter st h
theorem ae1{K:Fg}(it:Addr)(lo:Int)(n:Nat):Turn P w K tg (Og lo n) [it] it (λi h=>IsRangeIter h it (lo+(i:Nat)*1) ((n:Int)-(i:Nat)) 1) where
 mem:=by simp
 obj:=λi h st b hb=>by
  have e:b=it:=by simpa using hb
  subst e;exact⟨_,st,λv z=>by
   have z':Data.fields _=Data.cell v:=z;cases z'⟩
 keep:=λi h h' st k=>k it (by simp) _ st
 item:=by
  intro X hP hw hK hc i pins s σ H E I hf st hg;subst hP hw hK;obtain⟨f0,f1,f2,f3,f4,f5⟩:=hf it (by simp);have W:=Walks.range (prog:=X.prog) (w:=X.w) (I.ok.hd hc) it lo 1 n;refine W.item i s _ _ hg st λv h' tk hv st' kk=>?_
  obtain⟨t,rfl⟩:=hv;have I1:Inv X pins σ H { s with heap:=h',toks:=tk }:=I.turned (λb o hb e=>kk b o (by simpa using hb) e) f0 f1 f3 f4 f5;refine⟨_,rfl,am0 (s:={ s with heap:=h',toks:=tk }) (n := "range_iterator") st' rfl rfl (by decide) ⟨.int (lo+i),H,I1,⟨t,?_⟩,⟨rfl,rfl⟩,st',λb hb=>(hf b hb).1⟩⟩;rw[Int.mul_one]
 done:=by intro X hP hw hK hc i pins s σ H E I hf st hg;subst hP hw hK;obtain⟨f0,f1,f2,f3,f4,f5⟩:=hf it (by simp);exact wpAny_pyNext_range_end (I.ok.hd hc) st (by have:n<=i:=hg;lia) λh' eb=>⟨rfl,I.turned (t':=s.toks) (λb o hb e=>eb b o hb e) f0 f1 f3 f4 f5⟩
 self:=λ_ _ _ _ _ st h=>wpAny_pyIter_rangeiter st h
end L2
namespace L2
open PySem PySem.Spec PyProof.Rows
def am1{lo:Int}(I:Inv X pins σ H s)(h1:-(2 ^ 62)<=lo)(h2:lo<2 ^ 62)(h3:-(2 ^ 62)<=hi)(h4:hi<2 ^ 62)(q:R (Og lo (hi-lo).toNat) H):wpAny (model X.prog X.w) X.A (pyIter (.ref s.heap.objs.size)) (PIE X pins σ tg R) E { s with heap:=s.heap.push { cls:=.type "range",data:=.fields #[.int lo t,.int hi u,.int 1 v] },toks:=tk }:=by
 refine wpAny_pyIter_range (IsRange.new ..) (small_one h1 h2 h3 h4) ?_;have I1:Inv X pins σ H { s with heap:=s.heap.push { cls:=.type "range",data:=.fields #[.int lo t,.int hi u,.int 1 v] },toks:=tk }:=I.kept λb o e=>aq _ e
 refine⟨(s.heap.push { cls:=.type "range",data:=.fields #[.int lo t,.int hi u,.int 1 v] }).objs.size,[(s.heap.push { cls:=.type "range",data:=.fields #[.int lo t,.int hi u,.int 1 v] }).objs.size],_,_,H,rfl,
  I1.kept (t':=tk) λb o e=>aq _ e,ae1 _ lo (hi-lo).toNat,?_,λb hb=>?_,q⟩
 . have e1:lo+((0:Nat):Int)*1=lo:=by simp
   have e2:(((hi-lo).toNat:Nat):Int)-((0:Nat):Int)=Builtin.Range.rangeSize lo hi 1:=by rw[rangeSize_one];split<;>lia
   show IsRangeIter _ _ (lo+((0:Nat):Int)*1) ((((hi-lo).toNat:Nat):Int)-((0:Nat):Int)) 1;rw[e1,e2];exact bh _ rfl
 . have e:b=(s.heap.push { cls:=.type "range",data:=.fields #[.int lo t,.int hi u,.int 1 v] }).objs.size:=by simpa using hb
   subst e;exact I1.amz (bu _) (I1.zp.fresh (bu _))
def a5f(ta:TA):TI:=fun σ H R=>ta σ H λvs H1=>∃j:Int,vs=[.int j]/\-(2 ^ 62)<=j/\j<2 ^ 62/\R (Og 0 j.toNat) H1
def aje{X:Cx}{tg:Expr}(hg:Gl X "range")(hm:X.mg "range" = none)(ha:PA X [a] ta)(hs:starEach [a] X.env=[(false,eval a X.env)]:=by rfl):PI X tg (.Call (.Name "range" p) [a] [] pos) (a5f ta):=by
 intro pins s σ H R I h;refine Call_ (Bj I hg hm boot_range (jc (Ar (ha pos pins s σ H _ I h) λus s1 ⟨vs,H1,I1,r1,q1⟩=>?_) hs rfl));obtain⟨j,e,q1,q2,q⟩:=q1;subst e;cases r1 with
 |cons r rr =>
  cases rr;obtain⟨t,rfl⟩:=r;exact call_range_1 (am1 I1 (by lia) (by lia) q1 q2 (by simpa using q))
def bcd(wi:TI)(g:TG)(tb:TS):TS:=λD σ H=>wi σ H λJ H1=>∃W:Nat->Nat->St->Hp->Prop,(∃m,W 0 m σ H1)/\∀i m σ H,W i m σ H ->
 (J.stop i H/\D.nx σ H)\/(J.go i H/\∃N:St->Hp->Prop,(∀σ' H',N σ' H'->∃m',m'<m/\W (i+1) m' σ' H')/\∀x H',J.yld i H x H'->g x σ H' fun σ2 H2=>tb { D with nx:=N,ct:=N,bk:=D.nx } σ2 H2)
noncomputable def Rm(fp:X9)(h:Heap):List (Addr×Obj):=fp.filterMap λb=>(h.get? b).map λo=>(b,o)
def Jp(hb:b∈fp)(e:h.get? b=some o):(b,o)∈Rm fp h:=List.mem_filterMap.mpr ⟨b,hb,by rw[e];rfl⟩
def ajf(hp:p∈Rm fp h):p.1∈fp/\h.get? p.1=some p.2:=by
 obtain⟨b,hb,e⟩:=List.mem_filterMap.mp hp;cases q:h.get? b with
 |none=>rw[q] at e;cases e
 |some o =>
  rw[q] at e;have e':(b,o)=p:=jq e;subst e';exact⟨hb,q⟩
def Inv.pinned{X:Cx}(I:Inv X pins σ H s)(hf:∀b∈fp,T6 X pins H b)(ho:∀b∈fp,∃o,s.heap.get? b=some o/\∀v,o.data≠.cell v):Inv X (pins++Rm fp s.heap) σ H s :=
 I.Qa λp hp=>(dw.mp hp).elim (λz=>I.pin p (il _ z)) λz=>by obtain⟨hb,e⟩:=ajf z;obtain⟨f0,f1,f2,_⟩:=hf p.1 hb;obtain⟨o,e',d⟩:=ho p.1 hb;rw[e] at e';cases e';exact⟨e,f0,f1,f2,d⟩
def Inv.Mp{X:Cx}(I:Inv X (pins++pl) σ H s):Inv X pins σ H s:=I.Qa λp hp=>I.pin p (il _ (yc _ hp))
def ay4{X:Cx}{tg:Expr}(hp:PassesOwn (model X.prog X.w) X.A X.env X.xe)(hc:X.calm=true)(hi:PI X tg iter wi)(hg:PG X tg g)(hb:Qc X body tb)(hs:∀x,foldedSetIterable iter X.env x=pure x:=by intro _;rfl):PS X (.For tg iter body [] pos) (bcd wi g tb):=by
 intro pins s σ H D I h;refine wpAny_For (Ar (hi pins s σ H _ I h) λv s1 h1=>Ar h1 λitv s2 h2=>?_) hs;obtain⟨it,fp,tn,J,H2,e,I2,T,st2,f2,W,⟨m0,w0⟩,turn⟩:=h2;subst e;have ae2:∀{H':Hp},(∀b∈fp,H' b=none)->∀b∈fp,T6 X pins H' b:=λhn b hb=>⟨hn b hb,(f2 b hb).2⟩
 refine codeAny_forLoop_any (λn s'=>∃i σ' H',Inv X pins σ' H' s'/\tn i s'.heap/\(∀b∈fp,H' b=none)/\W i n σ' H') ?_ m0 ⟨0,σ,H2,I2,st2,λb hb=>(f2 b hb).1,w0⟩;rintro n s3 ⟨i,σ3,H3,I3,st3,fr3,w3⟩;rcases turn i n σ3 H3 w3 with⟨stop,qn⟩|⟨go,N,hN,step⟩
 . refine ue hp (Ar (T.done X rfl rfl rfl hc i pins s3 σ3 H3 X.xe I3 (ae2 fr3) st3 stop) λr s4 z_=>?_)
   obtain⟨hr,I4⟩:=z_;subst hr;exact wpAny_execs_nil ⟨σ3,H3,I4,qn⟩
 . refine ue hp (Ar (T.item X rfl rfl rfl hc i pins s3 σ3 H3 X.xe I3 (ae2 fr3) st3 go) λr s4 z_=>?_)
   obtain⟨u,hr,h4⟩:=z_;subst hr;refine ue hp (Ar h4 λ_ s5 z_=>?_);obtain⟨x,H5,I5,r5,y5,st5,fr5⟩:=z_;have I5':=I5.pinned (ae2 fr5) (T.obj _ _ st5);refine ue hp (Ar (hg _ s5 σ3 H5 x u _ I5' r5 (step x H5 y5)) λ_ s6 z_=>?_);obtain⟨σ6,H6,I6,q6⟩:=z_;refine ue hp (Ar (hb _ s6 σ6 H6 _ I6 q6) λf s7 q7=>?_);have again:∀{σ7:St}{H7:Hp},Inv X (pins++Rm fp s5.heap) σ7 H7 s7->N σ7 H7->∃m,m<n/\∃i σ' H',Inv X pins σ' H' s7/\tn i s7.heap/\(∀b∈fp,H' b=none)/\W i m σ' H':=fun{σ7 H7} I7 n7=>by obtain⟨m',hm,w7⟩:=hN σ7 H7 n7;refine⟨m',hm,i+1,σ7,H7,I7.Mp,T.keep _ _ _ st5 λb hb o e=>(I7.pin (b,o) (il _ (il _ (Jp hb e)))).1,λb hb=>?_,w7⟩;obtain⟨o,e,d⟩:=T.obj _ _ st5 b hb;exact(I7.pin (b,o) (il _ (il _ (Jp hb e)))).2.1
   cases f with
   |next=>obtain⟨σ7,H7,I7,n7⟩:=q7;exact again I7 n7
   |cont=>obtain⟨σ7,H7,I7,n7⟩:=q7;exact again I7 n7
   |brk=>obtain⟨σ7,H7,I7,q7⟩:=q7;exact⟨σ7,H7,I7.Mp,q7⟩
   |ret v=>obtain⟨x7,σ7,H7,I7,r7,q7⟩:=q7;exact⟨x7,σ7,H7,I7.Mp,r7,q7⟩
end L2
namespace L2
open PySem PySem.Spec PyProof.Rows
abbrev R2:=V->V->Hp->VK->Prop
def Ca(X:Cx)(f:Value->Value->Sem Value)(r:R2):Prop :=
 ∀(pins:Zp)(s:Shared)(σ:St)(H:Hp)(x y:V)(v u:Value)(Q:VK),Inv X pins σ H s->RelV x v->RelV y u->r x y H Q ->
  wpAny (model X.prog X.w) X.A (f v u) (EP X pins σ Q) X.xe s
def UnR(X:Cx)(f:Value->Sem Value)(r:V->Hp->VK->Prop):Prop :=
 ∀(pins:Zp)(s:Shared)(σ:St)(H:Hp)(x:V)(v:Value)(Q:VK),Inv X pins σ H s->RelV x v->r x H Q ->
  wpAny (model X.prog X.w) X.A (f v) (EP X pins σ Q) X.xe s
def Bq(X:Cx)(f:Value)(r:List V->Hp->VK->Prop):Prop :=
 ∀(pins:Zp)(s:Shared)(σ:St)(H:Hp)(xs:List V)(us:Zl)(Q:VK),Inv X pins σ H s->Vals xs us->r xs H Q ->
  wpAny (model X.prog X.w) X.A (call f us) (EP X pins σ Q) X.xe s
def tOp(r:R2)(ta tb:TE):TE:=fun σ H Q=>ta σ H λx H1=>tb σ H1 λy H2=>r x y H2 Q
def tUn(r:V->Hp->VK->Prop)(ta:TE):TE:=fun σ H Q=>ta σ H λx H1=>r x H1 Q
def rI(C:Int->Int->Prop)(g:Int->Int->V):R2:=λx y H Q=>∃i j,x=.int i/\y=.int j/\C i j/\Q (g i j) H
def rI0(g:Int->Int->V):R2:=λx y H Q=>∃i j,x=.int i/\y=.int j/\Q (g i j) H
def rU(g:Int->V):V->Hp->VK->Prop:=λx H Q=>∃i,x=.int i/\Q (g i) H
def ay6{X:Cx}{a b:Expr}{ta tb:TE}(ha:PE X a ta)(hb:PE X b tb){pins:Zp}{s:Shared}{σ:St}{H:Hp}{R:V->V->Hp->Prop}(I:Inv X pins σ H s)
 (h:ta σ H λx H1=>tb σ H1 λy H2=>R x y H2) {Q:Y1} {f:Value->Value->Sem Value}
 (hf:∀v u s2 x y H2,Inv X pins σ H2 s2->RelV x v->RelV y u->R x y H2->wpAny (model X.prog X.w) X.A (f v u) Q X.xe s2) :
 wpAny (model X.prog X.w) X.A (eval a X.env) (λv s₁=>wpAny (model X.prog X.w) X.A (eval b X.env) (λu s₂=>wpAny (model X.prog X.w) X.A (f v u) Q X.xe s₂) X.xe s₁) X.xe s:=by
 refine Ar (ha pins s σ H _ I h) λv s1 z_=>?_
 obtain⟨x,H1,I1,r1,q1⟩:=z_;refine Ar (hb pins s1 σ H1 _ I1 q1) λu s2 z_=>?_
 obtain⟨y,H2,I2,r2,q2⟩:=z_;exact hf v u s2 x y H2 I2 r1 r2 q2
def a5h{X:Cx}{a b:Expr}{ta tb:TE}{pos:Pos}{op:Operator}{r:R2}(ho:Ca X (binaryOp op) r)(ha:PE X a ta)(hb:PE X b tb):PE X (.BinOp a op b pos) (tOp r ta tb):=by intro pins s σ H Q I h;exact wpAny_BinOp (ay6 ha hb I h λv u s2 x y H2 I2 rx ry q=>ho pins s2 σ H2 x y v u Q I2 rx ry q)
def a5i{X:Cx}{a:Expr}{ta:TE}{pos:Pos}{op:UnaryOp}{r:V->Hp->VK->Prop}(ho:UnR X (unaryOp op) r)(ha:PE X a ta):PE X (.UnaryOp op a pos) (tUn r ta):=by intro pins s σ H Q I h;exact UnaryOp_ (Ar (ha pins s σ H _ I h) λv s1 ⟨x,H1,I1,r1,q1⟩=>ho pins s1 σ H1 x v Q I1 r1 q1)
def opI{X:Cx}{f:Value->Value->Sem Value}{C:Int->Int->Prop}{g:Int->Int->Int}
 (rule:∀(i j:Int)(t u:Tok)(s:Shared)(Q:Y1)(E:Y1),C i j->Q (.int (g i j) s.toks) { s with toks:=s.toks+1 }->wpAny (model X.prog X.w) X.A (f (.int i t) (.int j u)) Q E s) :
 Ca X f (rI C λi j=>.int (g i j)):=by
 intro pins s σ H x y v u Q I rx ry h;obtain⟨i,j,rfl,rfl,hc,q⟩:=h;obtain⟨t,rfl⟩:=rx;obtain⟨t',rfl⟩:=ry;exact rule i j t t' s _ _ hc ⟨.int (g i j),H,I.tok _,⟨_,rfl⟩,q⟩
def a5j{X:Cx}{f:Value->Value->Sem Value}{g:Int->Int->Int}
 (rule:∀(i j:Int)(t u:Tok)(s:Shared)(Q:Y1)(E:Y1),Q (.int (g i j) s.toks) { s with toks:=s.toks+1 }->wpAny (model X.prog X.w) X.A (f (.int i t) (.int j u)) Q E s) :
 Ca X f (rI0 λi j=>.int (g i j)):=by
 intro pins s σ H x y v u Q I rx ry h;obtain⟨i,j,rfl,rfl,q⟩:=h;obtain⟨t,rfl⟩:=rx;obtain⟨t',rfl⟩:=ry;exact rule i j t t' s _ _ ⟨.int (g i j),H,I.tok _,⟨_,rfl⟩,q⟩
def asn{X:Cx}{f:Value->Value->Sem Value}{g:Int->Int->Bool}
 (rule:∀(i j:Int)(t u:Tok)(s:Shared)(Q:Y1)(E:Y1),Q (.bool (g i j)) s->wpAny (model X.prog X.w) X.A (f (.int i t) (.int j u)) Q E s) :
 Ca X f (rI0 λi j=>.bl (g i j)):=by
 intro pins s σ H x y v u Q I rx ry h;obtain⟨i,j,rfl,rfl,q⟩:=h;obtain⟨t,rfl⟩:=rx;obtain⟨t',rfl⟩:=ry;exact rule i j t t' s _ _ ⟨.bl (g i j),H,I,rfl,q⟩
def bci(i j:Int):Prop:=0<j/\j<1073741824
def bck(i j:Int):Prop:=0<=j/\j<=1000000/\i.natAbs<2 ^ 64
def ay7(i j:Int):Prop:=(-(2 ^ 64)<i/\i<2 ^ 64)\/(-(2 ^ 64)<j/\j<2 ^ 64)
def ay7.ok{i j:Int}(h:ay7 i j):IntMulOk i j:=by
 rcases h with⟨h1,h2⟩|⟨h1,h2⟩
 . exact .of_left (intBits_le_64 h1 h2)
 . exact .of_right (intBits_le_64 h1 h2)
def ay8{X:Cx}:Ca X (binaryOp .Add) (rI0 λi j=>.int (i+j)):=a5j λ_ _ _ _ _ _ _ q=>add_int q
def ay9{X:Cx}:Ca X (binaryOp .Sub) (rI0 λi j=>.int (i-j)):=a5j λ_ _ _ _ _ _ _ q=>sub_int q
def aza{X:Cx}:Ca X (binaryOp .Mult) (rI ay7 λi j=>.int (i*j)):=opI λ_ _ _ _ _ _ _ hc q=>mul_int q hc.ok
def aso{X:Cx}:Ca X (binaryOp .FloorDiv) (rI bci λi j=>.int (i / j)):=opI λi j _ _ _ _ _ hc q=>by
 have h1:(0:Int)<j:=hc.1
 have h2:j<1073741824:=hc.2
 exact floordiv_int (by lia) (by rw[Int.fdiv_eq_ediv_of_nonneg i (by lia)];exact q) (.inl (PyProof.noPylong_small (by omega)))
def azb{X:Cx}:Ca X (binaryOp .Mod) (rI (λ_ j=>0<j) λi j=>.int (i%j)):=opI λi j _ _ _ _ _ hc q=>by
 have h1:(0:Int)<j:=hc
 exact mod_int' (by lia) (by rw[Int.fmod_eq_emod_of_nonneg i (by lia)];exact q)
def azc{X:Cx}:Ca X (binaryOp .Pow) (rI bck λi j=>.int (i ^ j.toNat)):=opI λ_ _ _ _ _ _ _ hc q=>pow_int_small hc.1 hc.2.1 hc.2.2 q
def unI{X:Cx}{f:Value->Sem Value}{g:Int->Int}
 (rule:∀(i:Int)(t:Tok)(s:Shared)(Q:Y1)(E:Y1),Q (.int (g i) s.toks) { s with toks:=s.toks+1 }->wpAny (model X.prog X.w) X.A (f (.int i t)) Q E s) :
 UnR X f (rU λi=>.int (g i)):=by
 intro pins s σ H x v Q I rx h;obtain⟨i,rfl,q⟩:=h;obtain⟨t,rfl⟩:=rx;exact rule i t s _ _ ⟨.int (g i),H,I.tok _,⟨_,rfl⟩,q⟩
def azd{X:Cx}:UnR X (unaryOp .USub) (rU λi=>.int (-i)):=unI λ_ _ _ _ _ q=>neg_int q
noncomputable def aze:V->V->Bool
 |.non,.non=>true|.non,.int _=>true|.int _,.non=>true|.non,.bl _=>true|.bl _,.non=>true|.non,.str _=>true|.str _,.non=>true
 |.int _,.int _=>true|.bl _,.bl _=>true|.str _,.str _=>true|.byt _,.byt _=>true
 |.int _,.str _=>true|.str _,.int _=>true|.bl _,.str _=>true|.str _,.bl _=>true
 |_,_=>false
def rEq:R2:=λx y H Q=>aze x y=true/\Q (.bl (decide (x=y))) H
def rNe:R2:=λx y H Q=>aze x y=true/\Q (.bl (!decide (x=y))) H
def agx{i j:Int}:decide (V.int i=V.int j)=(i==j):=by rw[xm];simp
def am2{i j:Bool}:decide (V.bl i=V.bl j)=(i==j):=by rw[xm];simp
def agy{i j:Str}:decide (V.str i=V.str j)=(i==j):=by rw[xm];simp
def agz{i j:Array UInt8}:decide (V.byt i=V.byt j)=(i.toList==j.toList):=by rw[xm];cases i;cases j;simp
def yf{X:Cx}{pins:Zp}{σ:St}{H:Hp}{s:Shared}{Q:VK}{k k':Bool}(I:Inv X pins σ H s)(q:Q (.bl k) H)(e:k=k'):EP X pins σ Q (.bool k') s:=by subst e;exact⟨.bl k,H,I,rfl,q⟩
def a5k{X:Cx}:Ca X (compareOp .Eq) rEq:=by
 intro pins s σ H x y v u Q I rx ry h;obtain⟨hs,q⟩:=h;cases x with
 |non =>
  cases rx;cases y with
  |non=>cases ry;exact PySem.EqNone.eq_none_none (yf I q (by simp))|bl j=>cases ry;exact PySem.EqNone.eq_none_bool (yf I q (by simp))|int j=>obtain⟨t',rfl⟩:=ry;exact PySem.EqNone.eq_none_int (yf I q (by simp))
  |str j=>obtain⟨t',rfl⟩:=ry;exact PySem.EqNone.eq_none_str (yf I q (by simp))
  |_=>exact absurd (show false=true from hs) iu
 |bl i =>
  cases rx;cases y with
  |non=>cases ry;exact PySem.EqNone.eq_bool_none (yf I q (by simp))|bl j=>cases ry;exact eq_bool (yf I q am2)|str j=>obtain⟨t',rfl⟩:=ry;exact PySem.EqMixed.eq_bool_str (yf I q (by simp))
  |_=>exact absurd (show false=true from hs) iu
 |int i =>
  obtain⟨t,rfl⟩:=rx;cases y with
  |non=>cases ry;exact PySem.EqNone.eq_int_none (yf I q (by simp))|int j=>obtain⟨t',rfl⟩:=ry;exact eq_int (yf I q agx)
  |str j=>obtain⟨t',rfl⟩:=ry;exact PySem.EqMixed.eq_int_str (yf I q (by simp))
  |_=>exact absurd (show false=true from hs) iu
 |str i =>
  obtain⟨t,rfl⟩:=rx;cases y with
  |non=>cases ry;exact PySem.EqNone.eq_str_none (yf I q (by simp))|bl j=>cases ry;exact PySem.EqMixed.eq_str_bool (yf I q (by simp))|int j=>obtain⟨t',rfl⟩:=ry;exact PySem.EqMixed.eq_str_int (yf I q (by simp))
  |str j=>obtain⟨t',rfl⟩:=ry;exact eq_str (yf I q agy)
  |_=>exact absurd (show false=true from hs) iu
 |byt i =>
  obtain⟨t,rfl⟩:=rx;cases y with
  |byt j=>obtain⟨t',rfl⟩:=ry;exact PySem.W.eq_bytes (yf I q agz)
  |_=>exact absurd (show false=true from hs) iu
 |_=>cases y<;>exact absurd (show false=true from hs) iu
def a5l{X:Cx}:Ca X (compareOp .NotEq) rNe:=by
 intro pins s σ H x y v u Q I rx ry h;obtain⟨hs,q⟩:=h;cases x with
 |non =>
  cases rx;cases y with
  |non=>cases ry;exact PySem.EqNone.ne_none_none (yf I q (by simp))|bl j=>cases ry;exact PySem.EqNone.ne_none_bool (yf I q (by simp))|int j=>obtain⟨t',rfl⟩:=ry;exact PySem.EqNone.ne_none_int (yf I q (by simp))
  |str j=>obtain⟨t',rfl⟩:=ry;exact PySem.EqNone.ne_none_str (yf I q (by simp))
  |_=>exact absurd (show false=true from hs) iu
 |bl i =>
  cases rx;cases y with
  |non=>cases ry;exact PySem.EqNone.ne_bool_none (yf I q (by simp))|bl j=>cases ry;exact ne_bool (yf I q (p7 not am2))|str j=>obtain⟨t',rfl⟩:=ry;exact PySem.EqMixed.ne_bool_str (yf I q (by simp))
  |_=>exact absurd (show false=true from hs) iu
 |int i =>
  obtain⟨t,rfl⟩:=rx;cases y with
  |non=>cases ry;exact PySem.EqNone.ne_int_none (yf I q (by simp))|int j=>obtain⟨t',rfl⟩:=ry;exact ne_int (yf I q (p7 not agx))
  |str j=>obtain⟨t',rfl⟩:=ry;exact PySem.EqMixed.ne_int_str (yf I q (by simp))
  |_=>exact absurd (show false=true from hs) iu
 |str i =>
  obtain⟨t,rfl⟩:=rx;cases y with
  |non=>cases ry;exact PySem.EqNone.ne_str_none (yf I q (by simp))|bl j=>cases ry;exact PySem.EqMixed.ne_str_bool (yf I q (by simp))|int j=>obtain⟨t',rfl⟩:=ry;exact PySem.EqMixed.ne_str_int (yf I q (by simp))
  |str j=>obtain⟨t',rfl⟩:=ry;exact ne_str (yf I q (p7 not agy))
  |_=>exact absurd (show false=true from hs) iu
 |byt i =>
  obtain⟨t,rfl⟩:=rx;cases y with
  |byt j=>obtain⟨t',rfl⟩:=ry;exact PySem.W.ne_bytes (yf I q (p7 not agz))
  |_=>exact absurd (show false=true from hs) iu
 |_=>cases y<;>exact absurd (show false=true from hs) iu
def a5m{X:Cx}:Ca X (compareOp .Lt) (rI0 λi j=>.bl (decide (i<j))):=asn λ_ _ _ _ _ _ _ q=>lt_int q
def a5n{X:Cx}:Ca X (compareOp .LtE) (rI0 λi j=>.bl (decide (i<=j))):=asn λ_ _ _ _ _ _ _ q=>le_int q
def a5o{X:Cx}:Ca X (compareOp .Gt) (rI0 λi j=>.bl (decide (j<i))):=asn λ_ _ _ _ _ _ _ q=>gt_int q
def a5p{X:Cx}:Ca X (compareOp .GtE) (rI0 λi j=>.bl (decide (j<=i))):=asn λ_ _ _ _ _ _ _ q=>ge_int q
def Ca.or{X:Cx}{f:Value->Value->Sem Value}{r r':R2}(h:Ca X f r)(h':Ca X f r'):Ca X f (λx y H Q=>r x y H Q\/r' x y H Q):=by
 intro pins s σ H x y v u Q I rx ry q;rcases q with q|q
 . exact h pins s σ H x y v u Q I rx ry q
 . exact h' pins s σ H x y v u Q I rx ry q
def asp{X:Cx}{a b:Expr}{ta tb:TE}{pos:Pos}{op:CmpOp}{r:R2}(ho:Ca X (compareOp op) r)(ha:PE X a ta)(hb:PE X b tb)(hm:behindInMarks op b=false):PE X (.Compare a [op] [b] pos) (tOp r ta tb):=by intro pins s σ H Q I h;exact wpAny_Compare1 (ay6 ha hb I h λv u s2 x y H2 I2 rx ry q=>ho pins s2 σ H2 x y v u Q I2 rx ry q) hm
def awd(t:TE):TT:=fun σ H Q=>t σ H λx H'=>∃k,x=.bl k/\Q k H'
def asq{X:Cx}{a b:Expr}{ta tb:TE}{pos:Pos}{op:CmpOp}{r:R2}(ho:Ca X (compareOp op) r)(ha:PE X a ta)(hb:PE X b tb)(hm:behindInMarks op b=false):PT X (.Compare a [op] [b] pos) (awd (tOp r ta tb)):=by
 intro pins s σ H Q I h;refine wpAny_isTrue_Compare1 (Ar (ha pins s σ H _ I h) λv s1 ⟨x,H1,I1,r1,q1⟩=>Ar (hb pins s1 σ H1 _ I1 q1) λu s2 ⟨y,H2,I2,r2,q2⟩ =>
  Ar (ho pins s2 σ H2 x y v u _ I2 r1 r2 q2) λc s3 ⟨z,H3,I3,r3,k,e,q3⟩=>?_) hm
 subst e;cases r3;exact j7 ⟨H3,I3,q3⟩
def Z4(r r':R2)(ta tb tc:TE):TE:=fun σ H Q=>ta σ H λx H1=>tb σ H1 λy H2=>r x y H2 λz H3=>∃k,z=.bl k /\
 (if k=true then tc σ H3 λw' H4=>r' y w' H4 Q else Q (.bl false) H3)
def am3{X:Cx}{a b c:Expr}{ta tb tc:TE}{pos:Pos}{op op':CmpOp}{r r':R2}(ho:Ca X (compareOp op) r)(ho':Ca X (compareOp op') r')(ha:PE X a ta)(hb:PE X b tb)(hc:PE X c tc)
 (hm:lastMarks [op,op'] [b,c]=false:=by with_unfolding_all rfl):PE X (.Compare a [op,op'] [b,c] pos) (Z4 r r' ta tb tc):=by
 intro pins s σ H Q I h;refine Compare_chain (Ar (ha pins s σ H _ I h) λv s1 ⟨x,H1,I1,r1,q1⟩=>chain_link (Ar (hb pins s1 σ H1 _ I1 q1) λu s2 ⟨y,H2,I2,r2,q2⟩ =>
  Ar (ho pins s2 σ H2 x y v u _ I2 r1 r2 q2) λd s3 ⟨z,H3,I3,r3,k,e,q3⟩=>?_)) hm
 subst e;cases r3;refine j7 ?_;cases k with
 |false=>exact ite_ff ⟨.bl false,H3,I3,rfl,q3⟩|true=>exact ite_tt (chain_last (Ar (hc pins s3 σ H3 _ I3 q3) λw' s4 ⟨z',H4,I4,r4,q4⟩=>ho' pins s4 σ H4 y z' u w' Q I4 r2 r4 q4))
def am4{X:Cx}{a b c:Expr}{ta tb tc:TE}{pos:Pos}{op op':CmpOp}{r r':R2}(ho:Ca X (compareOp op) r)(ho':Ca X (compareOp op') r')(ha:PE X a ta)(hb:PE X b tb)(hc:PE X c tc)
 (hm:lastMarks [op,op'] [b,c]=false:=by with_unfolding_all rfl):PT X (.Compare a [op,op'] [b,c] pos) (awd (Z4 r r' ta tb tc)):=by
 intro pins s σ H Q I h;refine isTrue_chain (Ar (ha pins s σ H _ I h) λv s1 ⟨x,H1,I1,r1,q1⟩=>test_link (Ar (hb pins s1 σ H1 _ I1 q1) λu s2 ⟨y,H2,I2,r2,q2⟩ =>
  Ar (ho pins s2 σ H2 x y v u _ I2 r1 r2 q2) λd s3 ⟨z,H3,I3,r3,k,e,q3⟩=>?_)) hm
 subst e;cases r3;refine j7 ?_;cases k with
 |false =>
  obtain⟨k',e',q'⟩:=q3;cases e';exact ite_ff ⟨H3,I3,q'⟩
 |true =>
  refine ite_tt (test_last (Ar (hc pins s3 σ H3 _ I3 q3) λw' s4 ⟨z',H4,I4,r4,q4⟩=>Ar (ho' pins s4 σ H4 y z' u w' _ I4 r2 r4 q4) λd' s5 z_=>?_));obtain⟨z2,H5,I5,r5,k2,e2,q5⟩:=z_;subst e2;cases r5;exact j7 ⟨H5,I5,q5⟩
def Z5:(sizeLine:Nat)<2 ^ 63:=by rw[qg];decide
def vals1{x:V}{us:Zl}(r:Vals [x] us):∃u,us=[u]/\RelV x u:=by
 cases r with
 |cons r1 r2=>cases r2;exact⟨_,rfl,r1⟩
def vals2{x y:V}{us:Zl}(r:Vals [x,y] us):∃u w',us=[u,w']/\RelV x u/\RelV y w':=by
 cases r with
 |cons r1 r2 =>
  cases r2 with
  |cons r3 r4=>cases r4;exact⟨_,_,rfl,r1,r3⟩
def ajg{X:Cx}(hc:X.calm=true):Bq X (.builtin "max") (λxs H Q=>∃i j,xs=[.int i,.int j]/\Q (.int (if j > i then j else i)) H):=by
 intro pins s σ H xs us Q I r h;obtain⟨i,j,rfl,q⟩:=h;obtain⟨u,w',rfl,⟨t,rfl⟩,⟨t',rfl⟩⟩:=vals2 r;refine max_two_ints (I.ok.hd hc) λh' tk k=>⟨_,H,I.kept k,?_,q⟩
 by_cases hj:j > i
 . rw[cj hj,cj hj];exact⟨_,rfl⟩
 . rw[bw hj,bw hj];exact⟨_,rfl⟩
def ajh{X:Cx}(hc:X.calm=true):Bq X (.builtin "min") (λxs H Q=>∃i j,xs=[.int i,.int j]/\Q (.int (if j<i then j else i)) H):=by
 intro pins s σ H xs us Q I r h;obtain⟨i,j,rfl,q⟩:=h;obtain⟨u,w',rfl,⟨t,rfl⟩,⟨t',rfl⟩⟩:=vals2 r;refine min_two_ints (I.ok.hd hc) λh' tk k=>⟨_,H,I.kept k,?_,q⟩
 by_cases hj:j<i
 . rw[cj hj,cj hj];exact⟨_,rfl⟩
 . rw[bw hj,bw hj];exact⟨_,rfl⟩
end L2
namespace L2
open PySem PySem.Spec PyProof.Rows
structure ae3(h:Heap)(x dx C:Addr)(mA:Zs):Prop where
 obj:h.get? x=some (PySem.W.instObj C dx)
 ns:h.Ns1 dx mA
 ne:dx≠x
set_option tactic.hygienic true in
def aji{h:Heap}{dx:Addr}{mA:Zs}(n:h.Ns1 dx mA):∃od,h.get? dx=some od/\∀name,PySem.W.lookIn name od=some (mA name):=by
 obtain⟨o,es,ep,ho,hd,hk,_,hm⟩:=n;refine⟨o,ho,λname=>?_⟩;have e:=hm name;unfold nsFind findBy at e;rw[<- Array.find?_toList] at e;unfold PySem.W.lookIn;rw[hd];dsimp only;split
 . rename_i y q
   rw[q] at e;exact p7 some e
 . rename_i q
   rw[q] at e;have a:es.toList.any (·.refKey)=false:=by rw[List.any_eq_false];intro y hy;obtain⟨z,t,axl⟩:=hk y (Array.mem_toList_iff.mp hy);simp[DictEntry.refKey,axl]
   have a':¬es.toList.any (·.refKey)=true:=by rw[a];exact iu
   rw[bw a'];exact p7 some e
def ae3.look{h:Heap}{x dx C:Addr}{mA:Zs}(I:ae3 h x dx C mA):∃od,PySem.W.InstAt h x (PySem.W.instObj C dx) C (some od)/\∀name,PySem.W.lookIn name od=some (mA name) :=
 let ⟨od,ho,hl⟩:=aji I.ns
 ⟨od,⟨I.obj,rfl,rfl,ho⟩,hl⟩
def get_map{prog:Program}{w:World}{A:Around}{E:Y1}{s:Shared}{K:Fg}{x dx C:Addr}{mA:Zs}{name:Str}{v:Value}{expr:Bool}{Q:Y1}(X:K.In s.heap)(I:ae3 s.heap x dx C mA)(hg:PySem.W.plainGet K C name=true)(hh:PySem.W.hasDictIn K C=true)
 (ha:PySem.W.findIn K (.ref C) name=some none) (hv:mA name=some v) (hv':PySem.W.handedIn v=true) (h:Q v { s with toks:=s.toks+1 }) :
 wpAny (model prog w) A (getAttr (.ref x) name expr) Q E s:=by
 obtain⟨od,J,hl⟩:=I.look;exact PySem.W.get_value X J (PySem.W.plainGet_of hg).1 (PySem.W.findObj_own hh ha rfl (by rw[hl,hv])) hv' h
def am5{prog:Program}{w:World}{A:Around}{E:Y1}{s:Shared}{K:Fg}{x dx C f:Addr}{mA:Zs}{name:Str}{pl:Sem Bool}{Q:Value×List Value->Shared->Prop}(X:K.In s.heap)(I:ae3 s.heap x dx C mA)(hg:PySem.W.plainGet K C name=true)
 (hf:PySem.W.findIn K (.ref C) name=some (some (.ref f))) (ht:PySem.W.isFn K (.ref f)=true) (hv:mA name=none) (h:Q (.ref f,[.ref x]) s) :
 wpAny (model prog w) A (getMethod (.ref x) name pl) Q E s:=by
 obtain⟨od,J,hl⟩:=I.look;exact PySem.W.method_fn X J (PySem.W.plainGet_of hg).1 (PySem.W.plainGet_of hg).2 hf (beq_iff_eq.mp ht) (by show(PySem.W.lookIn name od).map (·.isSome)=some false;rw[hl,hv];rfl) h
def asr{prog:Program}{w:World}{A:Around}{E:Y1}{s:Shared}{K:Fg}{x dx C:Addr}{mA:Zs}{name:Str}{v:Value}{ns:Yf}{Q:Unit->Shared->Prop}(X:K.In s.heap)(I:ae3 s.heap x dx C mA)
 (hs:PySem.W.findIn K (.ref C) "__setattr__" = some (some (.builtin "object.__setattr__"))) (hp:PySem.W.plainOver K C=true) (ht:PySem.W.takerIn K C name=some none) (hh:PySem.W.hasDictIn K C=true)
 (hw:PySem.Within mA ns) (hsz:ns.length<=sizeLine)
 (h:∀h',ae3 h' x dx C (λy=>if y=name then some v else mA y)->Heap.SameBut dx s.heap h'->Q () { s with heap:=h',toks:=s.toks+2 }) :
 wpAny (model prog w) A (setAttr (.ref x) name v) Q E s:=by
 obtain⟨od,J,hl⟩:=I.look;refine PySem.W.set_plain X J hs (PySem.W.osa_open (s:={ s with toks:=s.toks+1 }) (r:=none) X J hp ht λb=>?_);obtain⟨cd,hc,hd'⟩:=PySem.W.any_some hh;have hx:s.heap.get? x=some ⟨.ref C,some dx,.plain,#[]⟩:=I.obj;refine aa (aj (aa (aa (wpAny_loadPart hx (aa (PySem.W.Looks.here (s:={ s with toks:=s.toks+1 }) (PySem.W.looks_clsIn X hc) ?_))))));rw[hd'];refine aj (a:=some dx) (aa (aj (aa ?_)));refine wpAny_nsSet1 (s:={ s with toks:=s.toks+1 }) I.ns λh' W2 hs2=>?_
 obtain⟨oD,esD,epD,hoD,hdD,hcD⟩:=W2.count (PySem.Within.cons name v hw);refine aa (wpAny_lookBehind hoD (by rw[hdD];exact pastItsLine_dict (gq hcD (by rw[gn];exact v_ hsz))) ?_);exact aj (h _ ⟨(hs2.2 _ (jx I.ne)).trans I.obj,W2,I.ne⟩ hs2)
def am6{prog:Program}{w:World}{A:Around}{s:Shared}{K:Fg}{C f:Addr}{R:Result->Shared->Prop}{vs:Zl}{kw:List (Str×Value)}(X:K.In s.heap)(hm:PySem.W.makesIn K C=true)
 (hi:PySem.W.findIn K (.ref C) "__init__" = some (some (.ref f))) (hf:PySem.W.typeIn K (.ref f)=some (.type "function"))
 (h:codeAny (model prog w) (A.under (.builtin "type.__call__" ⟨.ref C::vs,kw⟩)) (.call (.ref f) ⟨.ref (s.heap.objs.size+1)::vs,kw⟩) (PySem.W.InitBack (s.heap.objs.size+1) R)
  { s with heap:=(s.heap.push PySem.W.emptyDict).push (PySem.W.instObj C s.heap.objs.size) }) :
 codeAny (model prog w) A (.call (.ref C) ⟨vs,kw⟩) R s:=by
 obtain⟨hh,g,d,t,os⟩:=s;exact PySem.W.make_core (PySem.W.makes_of X hm) (PySem.W.looks_findIn X hi) (λself=>PySem.W.bind_fn X self hf) (.inl rfl) h
noncomputable def Hh(f:Str)(v:V):List (Str×V)->List (Str×V)
 |[]=>[(f,v)]|(g,x)::r=>if g=f then(g,v)::r else(g,x)::Hh f v r
theorem Td(f g:Str)(v:V):∀fs:List (Str×V),(Hh f v fs).lookup g=if g=f then some v else fs.lookup g
 |[]=>by
  show List.lookup g [(f,v)]=_
  by_cases h:g=f
  . have hb:(g==f)=true:=beq_iff_eq.mpr h
    simp only[List.lookup,hb,cj h]
  . have hb:(g==f)=false:=qe.mpr h
    simp only[List.lookup,hb,bw h]
 |(k,x)::r=>by
  have ih:=Td f g v r;rw[show Hh f v ((k,x)::r)=(if k=f then(k,v)::r else(k,x)::Hh f v r) from rfl]
  by_cases hk:k=f
  . rw[cj hk]
    by_cases h:g=k
    . have hb:(g==k)=true:=beq_iff_eq.mpr h
      simp only[List.lookup,hb,cj (h.trans hk)]
    . have hb:(g==k)=false:=qe.mpr h
      simp only[List.lookup,hb,bw (λe:g=f=>h (e.trans hk.symm))]
  . rw[bw hk]
    by_cases h:g=k
    . have hb:(g==k)=true:=beq_iff_eq.mpr h
      simp only[List.lookup,hb,bw (λe:g=f=>hk (h.symm.trans e))]
    . have hb:(g==k)=false:=qe.mpr h
      simp only[List.lookup,hb];exact ih
theorem Rn(f:Str)(v:V):∀fs:List (Str×V),f∈(Hh f v fs).map (·.1)/\∀g,g∈fs.map (·.1)->g∈(Hh f v fs).map (·.1)
 |[]=>⟨by simp[Hh],λg h=>by simp at h⟩
 |(k,x)::r=>by
  obtain⟨i1,i2⟩:=Rn f v r;rw[show Hh f v ((k,x)::r)=(if k=f then(k,v)::r else(k,x)::Hh f v r) from rfl]
  by_cases hk:k=f
  . rw[cj hk]
    subst hk;exact⟨by simp,λg h=>by simpa using h⟩
  . rw[bw hk]
    refine⟨?_,λg h=>?_⟩
    . rw[gm]
      exact bc _ i1
    . rw[gm] at h ⊢
      rcases bx.mp h with e|e
      . exact bx.mpr (.inl e)
      . exact bc _ (i2 g e)
theorem Te(f:Str)(v:V):∀fs:List (Str×V),(Hh f v fs).length<=fs.length+1
 |[]=>by simp[Hh]
 |(k,x)::r=>by
  have ih:=Te f v r;rw[show Hh f v ((k,x)::r)=(if k=f then(k,v)::r else(k,x)::Hh f v r) from rfl]
  by_cases hk:k=f
  . rw[cj hk,gn,gn];exact x_
  . rw[bw hk,gn,gn];exact v_ ih
def Kg.some_of{v:V}{o:Option Value}(r:Kg (some v) o):∃u,o=some u/\RelV v u:=by
 cases o with
 |none=>exact(show False from r).elim
 |some u=>exact⟨u,rfl,r⟩
def Kg.none_of{o:Option Value}(r:Kg none o):o=none:=by
 cases o with
 |none=>rfl|some u=>exact(show False from r).elim
def ajj{v:V}{u:Value}(r:RelV v u):PySem.W.handedIn u=true:=by
 cases v with
 |non=>cases(show u=Value.none from r);rfl
 |bl b=>cases(show u=Value.bool b from r);rfl
 |int i=>obtain⟨t,e⟩:=(show ∃t,u=Value.int i t from r);cases e;rfl
 |str x=>obtain⟨t,e⟩:=(show ∃t,u=Value.str x t from r);cases e;rfl
 |byt b=>obtain⟨t,e⟩:=(show ∃t,u=Value.bytes b t from r);cases e;rfl
 |flt b=>obtain⟨t,e⟩:=(show ∃t,u=Value.float b t from r);cases e;rfl
 |ref a=>cases(show u=Value.ref a from r);rfl
 |ty n=>cases(show u=Value.type n from r);rfl
def Jf{P:Program}{w:World}{H:Hp}{h:Heap}{a C dx:Addr}{fs:List (Str×V)}(zp:N8 P w H h)(e:H a=some (.ins C dx fs)):∃mA,ae3 h a dx C mA/\(∀f,Kg (fs.lookup f) (mA f))/\PySem.Within mA (fs.map (·.1))/\fs.length<=1000/\H dx=some (.own a):=by obtain⟨d,z,ne,ob,mA,n,r,q⟩:=(show Ad P w H h a (.ins C dx fs) from zp a _ e);exact⟨mA,⟨ob,n,ne⟩,r,q,z,d⟩
structure Cls(K:Fg)(C:Addr):Prop where
 pg:PySem.W.plainGet K C Str.empty=true
 hd:PySem.W.hasDictIn K C=true
 po:PySem.W.plainOver K C=true
 sa:PySem.W.findIn K (.ref C) "__setattr__" = some (some (.builtin "object.__setattr__"))
def Cls.get{K:Fg}{C:Addr}(c:Cls K C)(f:Str):PySem.W.plainGet K C f=true:=c.pg
def Fq(K:Fg)(C:Addr)(f:Str):Prop:=PySem.W.findIn K (.ref C) f=some none
def Fq.taker{K:Fg}{C:Addr}{f:Str}(n:Fq K C f):PySem.W.takerIn K C f=some none:=by unfold PySem.W.takerIn;rw[show PySem.W.findIn K (.ref C) f=some none from n];rfl
structure Meth(K:Fg)(C:Addr)(m:Str)(f:Addr):Prop where
 at_:PySem.W.findIn K (.ref C) m=some (some (.ref f))
 fn:PySem.W.isFn K (.ref f)=true
 kp:PySem.W.keepIn K (.ref f)=true
def ae4{X:Cx}{pins:Zp}{σ:St}{H:Hp}{s:Shared}{a C dx:Addr}{fs:List (Str×V)}{f:Str}{v:V}{A:Around}{E:Y1}{b:Bool}{Q:Y1}(I:Inv X pins σ H s)(e:H a=some (.ins C dx fs))(c:Cls X.K C)(n:Fq X.K C f)(l:fs.lookup f=some v)
 (h:∀u s',Inv X pins σ H s'->RelV v u->Q u s'):wpAny (model X.prog X.w) A (getAttr (.ref a) f b) Q E s:=by
 obtain⟨mA,O,r,_,_,_⟩:=Jf I.zp e;obtain⟨u,hu,ru⟩:=Kg.some_of (v:=v) (o:=mA f) (by rw[<- l];exact r f);exact get_map I.Rj O (c.get f) c.hd n hu (ajj ru) (h u _ (I.tok _) ru)
def Vi{X:Cx}{pins:Zp}{σ:St}{H:Hp}{s:Shared}{a C dx:Addr}{fs:List (Str×V)}{A:Around}{E:Y1}{m:Str}{g:Addr}{pl:Sem Bool}{Q:Value×List Value->Shared->Prop}(I:Inv X pins σ H s)(e:H a=some (.ins C dx fs))(c:Cls X.K C)(k:Meth X.K C m g)(l:fs.lookup m=none)
 (h:Q (.ref g,[.ref a]) s):wpAny (model X.prog X.w) A (getMethod (.ref a) m pl) Q E s:=by
 obtain⟨mA,O,r,_,_,_⟩:=Jf I.zp e;have hn:mA m=none:=Kg.none_of (by rw[<- l];exact r m);exact am5 I.Rj O (c.get m) k.at_ k.fn hn h
def ae5{X:Cx}{pins:Zp}{σ:St}{H:Hp}{s:Shared}{a C dx:Addr}{fs:List (Str×V)}{f:Str}{A:Around}{E:Y1}{y:V}{u:Value}{Q:Unit->Shared->Prop}(I:Inv X pins σ H s)(e:H a=some (.ins C dx fs))(c:Cls X.K C)(n:Fq X.K C f)(hl:fs.length<1000)(ry:RelV y u)
 (h:∀s',Inv X pins σ (upd H a (.ins C dx (Hh f y fs))) s'->Q () s'):wpAny (model X.prog X.w) A (setAttr (.ref a) f u) Q E s:=by
 obtain⟨mA,O,r,wi,_,ho⟩:=Jf I.zp e;have hz:(fs.map (·.1)).length<=sizeLine:=by rw[du,qg];exact e_ (b_ hl (by decide))
 refine asr I.Rj O c.sa c.po n.taker c.hd wi hz λh' O' sb=>h _ ?_
 have hd:∃o,h'.get? dx=some o:=let ⟨o,_,_,e',_⟩:=O'.ns;⟨o,e'⟩;refine I.write (x:=a) (e:=dx) (by rw[e];exact True.intro) (.inr ho) (λb q hb z=>(sb.2 b hb).trans z) hd ?_;refine⟨by rw[j5 O.ne];exact ho,?_,O.ne,O'.obj,_,O'.ns,λg=>?_,λg hg=>?_⟩
 . have:=Te f y fs;exact a_ this hl
 . show Kg ((Hh f y fs).lookup g) (if g=f then some u else mA g)
   rw[Td]
   by_cases q:g=f
   . rw[cj q,cj q];exact ry
   . rw[bw q,bw q];exact r g
 . by_cases q:g=f
   . rw[q];exact(Rn f y fs).1
   . refine(Rn f y fs).2 g (wi g λz=>hg ?_)
     show(if g=f then some u else mA g)=none;rw[bw q];exact z
def Inv.made{X:Cx}{pins:Zp}{σ:St}{H:Hp}{s:Shared}{C:Addr}(I:Inv X pins σ H s):Inv X pins σ (upd (upd H s.heap.objs.size (.own (s.heap.objs.size+1))) (s.heap.objs.size+1) (.ins C s.heap.objs.size []))
 { s with heap:=(s.heap.push PySem.W.emptyDict).push (PySem.W.instObj C s.heap.objs.size) }:=by
 have e1:(s.heap.push PySem.W.emptyDict).get? s.heap.objs.size=some PySem.W.emptyDict:=bh s.heap rfl;have e2:((s.heap.push PySem.W.emptyDict).push (PySem.W.instObj C s.heap.objs.size)).get? (s.heap.objs.size+1)=some (PySem.W.instObj C s.heap.objs.size):=by
  have:=bh (s.heap.push PySem.W.emptyDict) (o:=PySem.W.instObj C s.heap.objs.size) rfl
  rwa [ie] at this
 have e3:(s.heap.push PySem.W.emptyDict).Ns s.heap.objs.size (λ_=>none):=⟨PySem.W.emptyDict,#[],_,e1,rfl,(λe he=>absurd he (by simp)),λ_=>rfl⟩;have I1:=I.laid (a:=s.heap.objs.size) (o:=.own (s.heap.objs.size+1)) (h':=s.heap.push PySem.W.emptyDict) (t':=s.toks) (λb u q=>aq _ q) (bu _) ⟨_,e1⟩;refine I1.laid (a:=s.heap.objs.size+1) (o:=.ins C s.heap.objs.size []) (t':=s.toks) (λb u q=>aq _ q) (Nat.le_of_eq (ie _ _)) ?_;have ne:s.heap.objs.size≠s.heap.objs.size+1:=fc (m9 _);refine⟨by rw[j5 ne,v5],jt _,ne,e2,λ_=>none,(Heap.Ns1.of_empty e3).at λo q=>aq _ q,λ_=>True.intro,λy hy=>absurd rfl hy⟩
def ass{A:Around}{E:Y1}{prog:Program}{w:World}{env:Env}{e:Expr}{f:Str}{pos:Pos}{s:Shared}{Q:Y1}(hb:attributeBase e f env (eval e env)=eval e env)
 (h:wpAny (model prog w) A (eval e env) (λo s₁=>wpAny (model prog w) A (getAttr o f true) Q E s₁) E s):wpAny (model prog w) A (eval (.Attribute e f pos) env) Q E s :=
 Attribute_any_ h (by rw[arm_eval_Attribute,hb])
def bcl(K:Fg)(ta:TE)(f:Str):TE:=fun σ H Q=>ta σ H λx H1=>∃a C dx fs v,x=.ref a/\H1 a=some (.ins C dx fs)/\Cls K C/\Fq K C f/\fs.lookup f=some v/\Q v H1
def bcm(K:Fg)(ta tv:TE)(f:Str):TS:=λD σ H=>tv σ H λy H1=>ta σ H1 λx H2=>∃a C dx fs,x=.ref a/\H2 a=some (.ins C dx fs)/\Cls K C/\Fq K C f/\fs.length<1000 /\
 D.nx σ (upd H2 a (.ins C dx (Hh f y fs)))
def azf{X:Cx}{e:Expr}{f:Str}{pos:Pos}{ta:TE}(he:PE X e ta)(hb:attributeBase e f X.env (eval e X.env)=eval e X.env):PE X (.Attribute e f pos) (bcl X.K ta f):=by intro pins s σ H Q I h;refine ass hb (Ar (he pins s σ H _ I h) λu s1 z_=>?_);obtain⟨x,H1,I1,rx,a,C,dx,fs,v,ex,ea,c,n,l,q⟩:=z_;subst ex;obtain rfl:u=Value.ref a:=rx;exact ae4 I1 ea c n l λu' s2 I2 ru=>⟨v,H1,I2,ru,q⟩
def azg{X:Cx}{o value:Expr}{f:Str}{pos pos':Pos}{ta tv:TE}(ha:PE X o ta)(hv:PE X value tv)(hs:swapsWith value (some (.Attribute o f pos')) pos.line X.env=pure false):PS X (.Assign [.Attribute o f pos'] value pos) (bcm X.K ta tv f):=by intro pins s σ H D I h;refine plainObj_wpAny_Assign_Attribute (Ar (hv pins s σ H _ I h) λu s1 ⟨y,H1,I1,ry,q⟩=>Ar (ha pins s1 σ H1 _ I1 q) λov s2 ⟨x,H2,I2,rx,a,C,dx,fs,ex,ea,c,n,l,q2⟩=>?_) hs;subst ex;obtain rfl:ov=Value.ref a:=rx;exact ae5 I2 ea c n l ry λs3 I3=>⟨σ,_,I3,q2⟩
inductive T7(K:Fg)(H:Hp):V->Value->Prop where
 |non:T7 K H .non (.type "NoneType")
 |bl (x:Bool):T7 K H (.bl x) (.type "bool")
 |int (i:Int):T7 K H (.int i) (.type "int")
 |str (x:Str):T7 K H (.str x) (.type "str")
 |flt (x:UInt64):T7 K H (.flt x) (.type "float")
 |lst {a:Addr} {xs:List V} (e:H a=some (.lst xs)):T7 K H (.ref a) (.type "list")
 |Mj {a:Addr} {o:Obj} {xs:List V} (e:H a=some (.Mj o (.lst xs))):T7 K H (.ref a) (.type "list")
 |tup {a:Addr} {xs:List V} (e:H a=some (.tup xs)):T7 K H (.ref a) (.type "tuple")
 |dK {a:Addr} {gw:List (Key×V)} (e:H a=some (.dK gw)):T7 K H (.ref a) (.type "dict")
 |dT {a:Addr} {gw:List (List Key×V)} (e:H a=some (.dT gw)):T7 K H (.ref a) (.type "dict")
 |ins {a C dx:Addr} {fs:List (Str×V)} (e:H a=some (.ins C dx fs)) (cl:Cls K C) (ha:PySem.W.findIn K (.ref C) "__class__" = some (some (.builtin "object.__class__")))
  (hn:PySem.W.specialIn K (.builtin "object.__class__") "__get__" = some (some (.builtin "getset_descriptor.__get__"))) (htk:PySem.W.takesIn K (.builtin "object.__class__")=some true)
  (hm:PySem.W.mroIn K C (.type "object")=some true):T7 K H (.ref a) (.ref C)
def X5{X:Cx}{pins:Zp}{σ:St}{H:Hp}{s:Shared}{A:Around}{E Q:Y1}{c:Value}{b:Bool}{x:V}{u t:Value}(I:Inv X pins σ H s)(rx:RelV x u)(ty:T7 X.K H x t)(e:PySem.W.kitOne X.K t c=some b)(h:∀tk,Q (.bool b) { s with toks:=tk }) :
 wpAny (model X.prog X.w) A (call (.builtin "isinstance") [u,c]) Q E s:=by
 cases ty with
 |non=>cases(show u=Value.none from rx);exact qt PySem.W.kitx_none I.Rj True.intro e (λz=>nomatch z) h
 |bl y=>cases(show u=Value.bool y from rx);exact qt PySem.W.kitx_bool I.Rj True.intro e (λz=>nomatch z) h
 |int i=>obtain⟨t,q⟩:=(show ∃t,u=Value.int i t from rx);cases q;exact qt PySem.W.kitx_int I.Rj True.intro e (λz=>nomatch z) h
 |str y=>obtain⟨t,q⟩:=(show ∃t,u=Value.str y t from rx);cases q;exact qt PySem.W.kitx_str I.Rj True.intro e (λz=>nomatch z) h
 |flt y=>obtain⟨t,q⟩:=(show ∃t,u=Value.float y t from rx);cases q;exact qt PySem.W.kitx_float I.Rj True.intro e (λz=>nomatch z) h
 |@lst a xs ea =>
  cases(show u=Value.ref a from rx);obtain⟨_,_,n,_,h1⟩:=(show Ad X.prog X.w H s.heap a (.lst xs) from I.zp a _ ea);exact qt PySem.W.kitx_list I.Rj ⟨_,h1,rfl⟩ e (λz=>nomatch z) h
 |@Mj a ob xs ea =>
  cases(show u=Value.ref a from rx);obtain⟨_,_,_,n,_,h1⟩:=(show Ad X.prog X.w H s.heap a (.Mj ob (.lst xs)) from I.zp a _ ea);exact qt PySem.W.kitx_list I.Rj ⟨_,h1,rfl⟩ e (λz=>nomatch z) h
 |@tup a xs ea =>
  cases(show u=Value.ref a from rx);obtain⟨_,_,_,p⟩:=(show Ad X.prog X.w H s.heap a (.tup xs) from I.zp a _ ea);obtain⟨o,h1,h2,_⟩:=p;exact qt PySem.W.kitx_tuple I.Rj ⟨o,h1,h2⟩ e (λz=>nomatch z) h
 |@dK a gw ea =>
  cases(show u=Value.ref a from rx);obtain⟨_,_,vs,_,p⟩:=(show Ad X.prog X.w H s.heap a (.dK gw) from I.zp a _ ea);obtain⟨o,es,ep,h1,h2,_⟩:=p;exact qt PySem.W.kitx_dict I.Rj ⟨o,h1,h2.1⟩ e (λz=>nomatch z) h
 |@dT a gw ea =>
  cases(show u=Value.ref a from rx);obtain⟨_,_,xs,_,o,es,ep,h1,h2,_⟩:=(show Ad X.prog X.w H s.heap a (.dT gw) from I.zp a _ ea);exact qt PySem.W.kitx_dict I.Rj ⟨o,h1,h2.1⟩ e (λz=>nomatch z) h
 |@ins a C dx fs ea cl ha hn htk hm =>
  cases(show u=Value.ref a from rx);obtain⟨mA,O,_⟩:=Jf I.zp ea;obtain⟨od,J,_⟩:=O.look;exact qt (PySem.W.kitx_own (cl.get _) cl.hd ha hn htk hm) I.Rj J e (λz=>nomatch z) h
end L2
namespace L2
open PySem PySem.Spec PyProof.Rows
structure zm(k:Nat)(A:Around):Prop where
 hd:A.handled=none
 dp:A.depth+3*k+5<recursionLimit
 un:A.units+16*k+200<cLine
def zm.mono{j k:Nat}{A:Around}(r:zm k A)(h:j<=k):zm j A:=⟨r.hd,by have:=r.dp;lia,by have:=r.un;lia⟩
theorem zm.deeper{k:Nat}{A:Around}(r:zm (k+1) A)(env:Env):zm k (A.deeper env) :=
 ⟨r.hd,by have:=r.dp;show A.depth+1+3*k+5<_;lia,by have:=r.un;show A.units+3+16*k+200<_;lia⟩
theorem zm.in1{k:Nat}{A:Around}(r:zm (k+1) A):zm k A.in1 :=
 ⟨r.hd,by have:=r.dp;show A.depth+3*k+5<_;lia,by have:=r.un;show A.units+1+16*k+200<_;lia⟩
def ae6{A:Around}{C:Addr}{us:Zl}{kw:List (Str×Value)}:(A.under (.builtin "type.__call__" ⟨.ref C::us,kw⟩)).depth=A.depth+1:=by first|rfl|simp[Around.under,Code.weight,Code.isCreation,Code.isGuard,Code.isCaller,Code.frames,Code.isFrame,guardIds]
def ae7{A:Around}{C:Addr}{us:Zl}{kw:List (Str×Value)}:(A.under (.builtin "type.__call__" ⟨.ref C::us,kw⟩)).units=A.units+1:=by first|rfl|simp[Around.under,Code.cUnits,Code.frames,Code.isFrame]
def zm.make{k:Nat}{A:Around}(r:zm (k+1) A)(C:Addr)(us:Zl)(kw:List (Str×Value)):zm k (A.under (.builtin "type.__call__" ⟨.ref C::us,kw⟩)) :=
 ⟨r.hd,by have:=r.dp;rw[ae6];lia,by have:=r.un;rw[ae7];lia⟩
theorem zm.depth{k:Nat}{A:Around}(r:zm k A):A.depth<recursionLimit:=by have:=r.dp;lia
theorem zm.units{k:Nat}{A:Around}(r:zm k A):A.units+64<cLine:=by have:=r.un;lia
def zm.Vj{k:Nat}{A:Around}(r:zm k A):A.units<cLine:=by have:=r.un;lia
def a5q:TA:=λ_ H Q=>Q [] H
def a5r(ta:TE)(tr:TA):TA:=fun σ H Q=>ta σ H λx H1=>tr σ H1 λxs H2=>Q (x::xs) H2
def azh{X:Cx}:PA X [] a5q:=λ_ _ _ _ H Q I h=>qp ⟨[],H,I,.nil,h⟩
def asu{X:Cx}{e:Expr}{es:Ya}{te:TE}{t:TA}(ha:PE X e te)(hr:PA X es t)(hs:starEach (e::es) X.env=(false,eval e X.env)::starEach es X.env:=by rfl):PA X (e::es) (a5r te t):=by intro pos pins s σ H Q I h;rw[hs];show wpAny _ _ (spliced ((false,eval e X.env)::backTo pos (starEach es X.env))) _ _ s;refine jy (Ar (ha pins s σ H _ I h) λu s1 z_=>?_);obtain⟨x,H1,I1,r1,q1⟩:=z_;exact Ar (hr pos pins s1 σ H1 _ I1 q1) λus s2 ⟨xs,H2,I2,r2,q2⟩=>⟨x::xs,H2,I2,.cons r1 r2,q2⟩
def bcn(t:TA):TE:=fun σ H Q=>t σ H λxs H1=>xs.length<=sizeLine/\∀p,H1 p=none->Q (.ref p) (upd H1 p (.tup xs))
def bco(t:TA):TE:=fun σ H Q=>t σ H λxs H1=>xs.length<=sizeLine/\∀p,H1 p=none->Q (.ref p) (upd H1 p (.lst xs))
def azi{X:Cx}{es:Ya}{t:TA}{pos:Pos}{x1}(h:PA X es t):PE X (.Tuple es x1 pos) (bcn t):=by intro pins s σ H Q I hq;refine wpAny_Tuple_spliced (Ar (h pos pins s σ H _ I hq) λus s1 ⟨xs,H1,I1,r,z,q⟩=>⟨by rw[<- r.length];exact z,?_⟩);have hf:H1 s1.heap.objs.size=none:=I1.zp.fresh (bu _);refine⟨.ref s1.heap.objs.size,upd H1 s1.heap.objs.size (.tup xs),I1.laid (t':=s1.toks) (λb u e=>aq _ e) (bu _) ?_,rfl,q _ hf⟩;exact⟨z,us,r,Zw.new _ _⟩
def am7{X:Cx}{es:Ya}{t:TA}{pos:Pos}(h:PA X es t):PE X (.List es pos) (bco t):=by intro pins s σ H Q I hq;refine wpAny_List_spliced (Ar (h pos pins s σ H _ I hq) λus s1 ⟨xs,H1,I1,r,z,q⟩=>⟨by rw[<- r.length];exact z,?_⟩);have hf:H1 s1.heap.objs.size=none:=I1.zp.fresh (bu _);refine⟨.ref s1.heap.objs.size,upd H1 s1.heap.objs.size (.lst xs),I1.laid (t':=s1.toks) (λb u e=>aq _ e) (bu _) ?_,rfl,q _ hf⟩;exact⟨z,us,0,r,bh _ rfl⟩
abbrev Sp:=List V->Hp->VK->XK->Prop
abbrev CXT:=List Env->Hp->Shared->XK->Value->Shared->Prop
structure ae9(P:Program)(w:World)(K:Fg)(mg:Zs)(base:Heap)(A:Around)(outer:List Env)(s:Shared)(H:Hp):Prop where
 frames:A.frames=some outer
 mod:Mod K mg base
 bs:∀b o,base.get? b=some o->s.heap.get? b=some o/\H b=none
 bsz:base.objs.size<=s.heap.objs.size
 T5:s.heap.FunFrames base outer
 frf:∀b∈frs outer,H b=none
 zp:N8 P w H s.heap
 bare:AllBare s.gens
def CE(outer:List Env)(P:Program)(w:World)(H:Hp)(s:Shared)(Q:VK)(u:Value)(s':Shared):Prop :=
 ∃v H',s'.os=s.os/\AllBare s'.gens/\Un (frs outer) [] H H' s.heap s'.heap/\N8 P w H' s'.heap/\RelV v u/\Q v H'
def CR(CX:CXT)(outer:List Env)(P:Program)(w:World)(H:Hp)(s:Shared)(Q:VK)(E:XK)(r:Result)(s':Shared):Prop :=
 match r with
 |.ok (.ret u)=>CE outer P w H s Q u s'|.ok _=>False|.error e=>CX outer H s E e s'
structure Eh(P:Program)(w:World)(K:Fg)(mg:Zs)(base:Heap)(CX:CXT)(k:Nat)(f:Addr)(fd:FuncData)(ps:Yf)(sp:Sp):Prop where
 len:∀vs H Q E,sp vs H Q E->vs.length=ps.length
 run:∀(A:Around)(outer:List Env)(s:Shared)(H:Hp)(args:Args)(us:Zl)(vs:List V)(Q:VK)(E:XK),zm k A->ae9 P w K mg base A outer s H->BindsTo s fd args (ps.zip us)->Vals vs us->sp vs H Q E ->
  codeAny (model P w) A (.call (.ref f) args) (CR CX outer P w H s Q E) s
def Eh.imp{P:Program}{w:World}{K:Fg}{mg:Zs}{base:Heap}{CX:CXT}{k:Nat}{f:Addr}{fd:FuncData}{ps:Yf}{sp sp':Sp}(F:Eh P w K mg base CX k f fd ps sp)
 (h:∀vs H Q E,sp' vs H Q E->sp vs H Q E):Eh P w K mg base CX k f fd ps sp' :=
 ⟨λvs H Q E q=>F.len vs H Q E (h _ _ _ _ q),λA outer s H args us vs Q E hr he hb hv hs=>F.run A outer s H args us vs Q E hr he hb hv (h _ _ _ _ hs)⟩
def ae9.make{P:Program}{w:World}{K:Fg}{mg:Zs}{base:Heap}{A:Around}{outer:List Env}{s:Shared}{H:Hp}(e:ae9 P w K mg base A outer s H)(C:Addr)(us:Zl)(kw:List (Str×Value)) :
 ae9 P w K mg base (A.under (.builtin "type.__call__" ⟨.ref C::us,kw⟩)) outer s H:=⟨by first|exact e.frames|(simpa[Around.under,Code.envs,Code.isFrame,pushEnvs] using e.frames),e.mod,e.bs,e.bsz,e.T5,e.frf,e.zp,e.bare⟩
def Inv.env0{X:Cx}{pins:Zp}{σ:St}{H:Hp}{s:Shared}(I:Inv X pins σ H s):ae9 X.prog X.w X.K X.mg X.base X.A X.stack s H :=
 ⟨I.ok.frames,I.ok.mod,I.bs,gq I.ok.bsz I.sz,I.stack,I.agu,I.zp,I.bare⟩
def Inv.after{X:Cx}{pins:Zp}{σ:St}{H:Hp}{s s':Shared}{Q:VK}{u:Value}(I:Inv X pins σ H s)(h:CE X.stack X.prog X.w H s Q u s'):EP X pins σ Q u s':=by obtain⟨v,H',os,bare,un,zp,r,q⟩:=h;obtain⟨hh,g,d,t,os'⟩:=s';obtain rfl:os'=s.os:=os;exact⟨v,H',I.call (h':=hh) (g':=g) (d':=d) (t':=t) (ch:=[]) un zp bare (λb z=>absurd z (by simp)),r,q⟩
def a5s(sp:Sp)(Tf:List V)(E:XK)(t:TA):TE:=fun σ H Q=>t σ H λvs H1=>sp (vs++Tf) H1 Q E
def awe(C:Addr)(m:Str)(sp:Sp)(Tf:List V)(E:XK)(ta:TE)(t:TA):TE:=fun σ H Q=>ta σ H λx H1=>∃a dx fs,x=.ref a/\H1 a=some (.ins C dx fs)/\fs.lookup m=none /\
 t σ H1 λvs H2=>sp (x::(vs++Tf)) H2 Q E
def a5t(C:Addr)(sp:Sp)(Tf:List V)(E:XK)(t:TA):TE:=fun σ H Q=>t σ H λvs H1=>∀x dx,H1 x=none->H1 dx=none->dx≠x ->
 sp (.ref x::(vs++Tf)) (upd (upd H1 dx (.own x)) x (.ins C dx [])) (λv H2=>v=.non/\Q (.ref x) H2) E
def Binds(K:Fg)(fd:FuncData)(ps:Yf)(ds:Zl):Prop :=
 ∀(s:Shared)(us:Zl),K.In s.heap->(us++ds).length=ps.length->BindsTo s fd ⟨us,[]⟩ (ps.zip (us++ds))
def Binds.all{K:Fg}{fd:FuncData}{ps:Yf}(h:∀us:List Value,us.length=ps.length->bindArgs fd ⟨us,[]⟩=pure (ps.zip us)):Binds K fd ps []:=λs us _ hl=>by rw[Ai] at hl ⊢;exact .of_eq (h us hl)
def Passes(CX:CXT)(X:Cx)(E:XK):Prop:=∀(pins:Zp)(σ:St)(H:Hp)(s:Shared)(e:Value)(s':Shared),Inv X pins σ H s->CX X.stack H s E e s'->X.xe e s'
def afa{X:Cx}{CX:CXT}{k:Nat}{f:Addr}{fd:FuncData}{ps:Yf}{sp:Sp}{Tf:List V}{ds:Zl}{E:XK}{pins:Zp}{σ:St}{H:Hp}{s:Shared}{Q:VK}{us:Zl}{vs:List V}(F:Eh X.prog X.w X.K X.mg X.base CX k f fd ps sp)(hr:zm k X.A)(hb:Binds X.K fd ps ds)(hd:Vals Tf ds)(hx:Passes CX X E)
 (I:Inv X pins σ H s) (r:Vals vs us) (h:sp (vs++Tf) H Q E):wpAny (model X.prog X.w) X.A (call (.ref f) us) (EP X pins σ Q) X.xe s:=by
 have r2:Vals (vs++Tf) (us++ds):=r.append hd;have hl:(us++ds).length=ps.length:=by rw[<- r2.length];exact F.len _ _ _ _ h
 refine wpAny_call (vq (F.run X.A X.stack s H ⟨us,[]⟩ (us++ds) (vs++Tf) Q E hr I.env0 (hb s us I.Rj hl) r2 h) λr s' hq=>?_);cases r with
 |error e=>exact hx pins σ H s e s' I hq
 |ok fl =>
  cases fl with
  |ret u=>exact I.after hq|next=>exact False.elim hq|brk=>exact False.elim hq|cont=>exact False.elim hq
def asv{X:Cx}{CX:CXT}{k:Nat}{f:Addr}{fd:FuncData}{ps:Yf}{sp:Sp}{Tf:List V}{ds:Zl}{E:XK}{x:Str}{p pos:Pos}{e:Expr}{es:Ya}{t:TA}(F:Eh X.prog X.w X.K X.mg X.base CX k f fd ps sp)(hr:zm k X.A)(hg:Gl X x)(hm:X.mg x=some (.ref f))(hk:PySem.W.keepIn X.K (.ref f)=true)(hb:Binds X.K fd ps ds)(hd:Vals Tf ds)(hx:Passes CX X E)
 (ha:PA X (e::es) t) (Qq:(x==("__debug__" : Str))=false:=by decide) (he:starEach (e::es) X.env=(false,eval e X.env)::starEach es X.env:=by rfl) (Ge:(backTo pos (starEach es X.env)).any (·.1)=false:=by rfl) :
 PE X (.Call (.Name x p) (e::es) [] pos) (a5s sp Tf E t):=by
 intro pins s σ H Q I h;refine ig (Z0 I hg hm ?_ Qq);refine PySem.W.callWith_K (h₀:=X.base) I.ok.mod.kin hk (Ar (ha pos pins s σ H _ I h) λus s1 ⟨vs,H1,I1,r,q⟩=>⟨I1.Rj,?_⟩) he Ge;exact afa F hr hb hd hx I1 r q
def asw{X:Cx}{CX:CXT}{k:Nat}{f C:Addr}{fd:FuncData}{ps:Yf}{sp:Sp}{Tf:List V}{ds:Zl}{E:XK}{m:Str}{pos apos:Pos}{e o:Expr}{es:Ya}{ta:TE}{t:TA}{pl:Sem Bool}(he:PE X o ta)(c:Cls X.K C)(hm:Meth X.K C m f)(F:Eh X.prog X.w X.K X.mg X.base CX k f fd ps sp)(hr:zm k X.A)(hb:Binds X.K fd ps ds)(hd:Vals Tf ds)(hx:Passes CX X E)(ha:PA X (e::es) t)
 (W0:starEach (e::es) X.env=(false,eval e X.env)::starEach es X.env:=by rfl) (Ge:(backTo pos (starEach es X.env)).any (·.1)=false:=by rfl)
 (ht:eval (.Call (.Attribute o m apos) (e::es) [] pos) X.env=(do
  let ov <- eval o X.env
  standAt apos.atName
  let (f,first) <- holding [ov] (getMethod ov m pl)
  callWith pos f first (backTo pos (starEach (e::es) X.env)) (backToKw pos (keywordEach [] X.env))):=by rfl) :
 PE X (.Call (.Attribute o m apos) (e::es) [] pos) (awe C m sp Tf E ta t):=by
 intro pins s σ H Q I h;refine PySem.W.methodCall_KW (pl:=pl) (Ar (he pins s σ H _ I h) λu s1 ⟨x,H1,I1,rx,a,dx,fs,ex,ea,l,q⟩=>?_) ht;subst ex;obtain rfl:u=Value.ref a:=rx;refine Vi I1 ea c hm l ?_;refine PySem.W.callWith_K (first:=[.ref a]) (h₀:=X.base) I.ok.mod.kin hm.kp (Ar (ha pos pins s1 σ H1 _ I1 q) λus s2 ⟨vs,H2,I2,r,q2⟩=>⟨I2.Rj,?_⟩) W0 Ge;exact afa (us:=.ref a::us) (vs:=.ref a::vs) F hr hb hd hx I2 (.cons rfl r) q2
def am8{X:Cx}{CX:CXT}{k:Nat}{f C:Addr}{fd:FuncData}{ps:Yf}{sp:Sp}{Tf:List V}{ds:Zl}{E:XK}{m:Str}{pos apos:Pos}{o:Expr}{ta:TE}{pl:Sem Bool}(he:PE X o ta)(c:Cls X.K C)(hm:Meth X.K C m f)(F:Eh X.prog X.w X.K X.mg X.base CX k f fd ps sp)(hr:zm k X.A)(hb:Binds X.K fd ps ds)(hd:Vals Tf ds)(hx:Passes CX X E)
 (ht:eval (.Call (.Attribute o m apos) [] [] pos) X.env=(do
  let ov <- eval o X.env
  standAt apos.atName
  let (f,first) <- holding [ov] (getMethod ov m pl)
  callWith pos f first (backTo pos (starEach [] X.env)) (backToKw pos (keywordEach [] X.env))):=by rfl) :
 PE X (.Call (.Attribute o m apos) [] [] pos) (awe C m sp Tf E ta a5q):=by
 intro pins s σ H Q I h;refine PySem.W.methodCall_KW (pl:=pl) (Ar (he pins s σ H _ I h) λu s1 ⟨x,H1,I1,rx,a,dx,fs,ex,ea,l,q⟩=>?_) ht;subst ex;obtain rfl:u=Value.ref a:=rx;refine Vi I1 ea c hm l ?_;exact PySem.W.callWith_K0 (first:=[.ref a]) I1.Rj hm.kp (afa (us:=[.ref a]) (vs:=[.ref a]) F hr hb hd hx I1 (.cons rfl .nil) q)
structure Mk(K:Fg)(C f:Addr):Prop where
 makes:PySem.W.makesIn K C=true
 init:PySem.W.findIn K (.ref C) "__init__" = some (some (.ref f))
 fn:PySem.W.isFn K (.ref f)=true
 kp:PySem.W.keepIn K (.ref C)=true
def am9{X:Cx}{CX:CXT}{k:Nat}{f C:Addr}{fd:FuncData}{ps:Yf}{sp:Sp}{Tf:List V}{ds:Zl}{E:XK}{pins:Zp}{σ:St}{H:Hp}{s:Shared}{Q:VK}{us:Zl}{vs:List V}(M:Mk X.K C f)(F:Eh X.prog X.w X.K X.mg X.base CX k f fd ps sp)(hr:zm (k+1) X.A)(hb:Binds X.K fd ps ds)(hd:Vals Tf ds)
 (hx:Passes CX X E) (I:Inv X pins σ H s) (r:Vals vs us)
 (h:∀x dx,H x=none->H dx=none->dx≠x->sp (.ref x::(vs++Tf)) (upd (upd H dx (.own x)) x (.ins C dx [])) (λv H2=>v=.non/\Q (.ref x) H2) E) :
 wpAny (model X.prog X.w) X.A (call (.ref C) us) (EP X pins σ Q) X.xe s:=by
 have hq:=h (s.heap.objs.size+1) s.heap.objs.size (I.zp.fresh (vf _)) (I.zp.fresh (bu _)) (fc (m9 _));have I2:=Inv.made (C:=C) I;have r2:Vals (V.ref (s.heap.objs.size+1)::(vs++Tf)) (Value.ref (s.heap.objs.size+1)::(us++ds)):=.cons rfl (r.append hd);have hl:(Value.ref (s.heap.objs.size+1)::us++ds).length=ps.length:=by have e:=r2.length;rw[F.len _ _ _ _ hq] at e;exact e.symm
 refine wpAny_call (am6 (f:=f) I.Rj M.makes M.init (beq_iff_eq.mp M.fn) (vq (F.run _ X.stack _ _ ⟨Value.ref (s.heap.objs.size+1)::us,[]⟩ (Value.ref (s.heap.objs.size+1)::(us++ds)) _ _ E (hr.make C us [])
  (I2.env0.make C us []) (hb _ (Value.ref (s.heap.objs.size+1)::us) I2.Rj hl) r2 hq) λr s' hq'=>?_))
 cases r with
 |error e=>exact hx pins σ _ _ e s' I2 hq'
 |ok fl =>
  cases fl with
  |ret u =>
   obtain⟨v,H',I3,rv,ev,q3⟩:=I2.after hq';subst ev;exact⟨rv,⟨V.ref (s.heap.objs.size+1),H',I3,rfl,q3⟩⟩
  |next=>exact False.elim hq'|brk=>exact False.elim hq'|cont=>exact False.elim hq'
def asx{X:Cx}{CX:CXT}{k:Nat}{f C:Addr}{fd:FuncData}{ps:Yf}{sp:Sp}{Tf:List V}{ds:Zl}{E:XK}{x:Str}{p pos:Pos}{e:Expr}{es:Ya}{t:TA}(M:Mk X.K C f)(F:Eh X.prog X.w X.K X.mg X.base CX k f fd ps sp)(hr:zm (k+1) X.A)(hg:Gl X x)(hm:X.mg x=some (.ref C))(hb:Binds X.K fd ps ds)(hd:Vals Tf ds)(hx:Passes CX X E)
 (ha:PA X (e::es) t) (Qq:(x==("__debug__" : Str))=false:=by decide) (he:starEach (e::es) X.env=(false,eval e X.env)::starEach es X.env:=by rfl) (Ge:(backTo pos (starEach es X.env)).any (·.1)=false:=by rfl) :
 PE X (.Call (.Name x p) (e::es) [] pos) (a5t C sp Tf E t):=by
 intro pins s σ H Q I h;refine ig (Z0 I hg hm ?_ Qq);refine PySem.W.callWith_K (h₀:=X.base) I.ok.mod.kin M.kp (Ar (ha pos pins s σ H _ I h) λus s1 ⟨vs,H1,I1,r,q⟩=>⟨I1.Rj,?_⟩) he Ge;exact am9 M F hr hb hd hx I1 r q
structure Uk(N P:Yf)(sc:Scope):Prop where
 kind:sc.kind=.function
 co:sc.isCoroutine=false
 gen:sc.isGenerator=false
 nd:N.Nodup
 pre:N.take P.length=P
 par:∀x∈P,sc.names.lookup x=some .local\/sc.names.lookup x=some .cell
 azj:∀y∈sc.names,y.2≠.free
theorem X6{kindOf:Str->Option NameKind}{x:Str}:∀{binds:List (Str×Value)}{m:Zs},(∀v,(x,v)∉binds)->bindL kindOf binds m x=m x
 |[],_,_=>rfl
 |(n,v)::r,m,h=>by
  unfold bindL;rw[X6 λw hw=>h w (bc _ hw)];split
  . have:x≠n:=by rintro rfl;exact h v cz
    simp[this]
  . rfl
theorem X7{kindOf:Str->Option NameKind}{x:Str}:∀{binds:List (Str×Value)}{m:Zs},(∀v,(x,v)∉binds)->bindC kindOf binds m x=m x
 |[],_,_=>rfl
 |(n,v)::r,m,h=>by
  unfold bindC;rw[X7 λw hw=>h w (bc _ hw)];split
  . rfl
  . have:x≠n:=by rintro rfl;exact h v cz
    simp[this]
theorem X8{kindOf:Str->Option NameKind}{x:Str}{v:Value}:∀{P:Yf}{vs:Zl}{i:Nat}{m:Zs},P.Nodup->P[i]?=some x->vs[i]?=some v->kindOf x=some .local ->
 bindL kindOf (P.zip vs) m x=some v
 |[],_,_,_,_,h,_,_=>by simp at h|_::_,[],_,_,_,_,h,_=>by simp at h
 |p::P,w::vs,0,m,nd,h1,h2,hk=>by
  simp at h1 h2;subst h1;subst h2;show bindL kindOf ((p,w)::P.zip vs) m p=_;unfold bindL;rw[X6 λv hv=>(mz.mp nd).1 (List.of_mem_zip hv).1,cj hk];simp
 |p::P,w::vs,i+1,m,nd,h1,h2,hk=>by
  show bindL kindOf ((p,w)::P.zip vs) m x=_;unfold bindL;exact X8 (i:=i) (mz.mp nd).2 (by simpa using h1) (by simpa using h2) hk
theorem Yb{kindOf:Str->Option NameKind}{x:Str}{v:Value}:∀{P:Yf}{vs:Zl}{i:Nat}{m:Zs},P.Nodup->P[i]?=some x->vs[i]?=some v->kindOf x≠some .local ->
 bindC kindOf (P.zip vs) m x=some v
 |[],_,_,_,_,h,_,_=>by simp at h|_::_,[],_,_,_,_,h,_=>by simp at h
 |p::P,w::vs,0,m,nd,h1,h2,hk=>by
  simp at h1 h2;subst h1;subst h2;show bindC kindOf ((p,w)::P.zip vs) m p=_;unfold bindC;rw[X7 λv hv=>(mz.mp nd).1 (List.of_mem_zip hv).1,bw hk];simp
 |p::P,w::vs,i+1,m,nd,h1,h2,hk=>by
  show bindC kindOf ((p,w)::P.zip vs) m x=_;unfold bindC;exact Yb (i:=i) (mz.mp nd).2 (by simpa using h1) (by simpa using h2) hk
noncomputable def start(N:Yf)(vs:List V):St:=vs.map some++List.replicate (N.length-vs.length) none
noncomputable def afb(CX:CXT)(P:Program)(w:World)(K:Fg)(mg:Zs)(base:Heap)(N:Yf)(qual:Str)(scope:Scope)(f:Addr)(cd:Value)(A:Around)(outer:List Env)(s:Shared)(H:Hp)(E:XK):Cx where
 prog:=P
 w:=w
 K:=K
 mg:=mg
 base:=base
 A:=A.deeper (envOfC qual scope s.heap.objs.size f cd)
 N:=N
 s₀:=s
 H₀:=H
 env:=envOfC qual scope s.heap.objs.size f cd
 outer:=outer
 stack:=envOfC qual scope s.heap.objs.size f cd::outer
 ex:=[]
 calm:=true
 fn:=λ_=>true
 pn:=[]
 xe:=λe s'=>wpAny (model P w) (A.deeper (envOfC qual scope s.heap.objs.size f cd)) (leaving (envOfC qual scope s.heap.objs.size f cd) e) (λ_ s''=>CX outer H s E e s'') (λe' s''=>CX outer H s E e' s'') s'
def abx{sc:Scope}{n:Nat}{x:Str}(h:sc.names.lookup x=some .cell):∃c,(cellsFrom n sc.names []).lookup x=some c:=by have q:=PySem.W.cellsFrom_some sc.names n [] (.inl h);exact qd.mp q
def ajk{CX:CXT}{P:Program}{w:World}{K:Fg}{mg:Zs}{base:Heap}{N ps:Yf}{qual:Str}{scope:Scope}{f:Addr}{cd:Value}{A:Around}{outer:List Env}{s s1:Shared}{H:Hp}{E:XK}{us:Zl}{vs:List V}
 (S:Uk N ps scope) (hd:A.handled=none) (e0:ae9 P w K mg base A outer s H) (hl:vs.length=ps.length) (r:Vals vs us)
 (x:InCallC s s.heap.objs.size (bindL (envOfC qual scope s.heap.objs.size f cd).kindOf (ps.zip us) λ_=>none) (cellsFrom (s.heap.objs.size+1) scope.names []) (bindC (envOfC qual scope s.heap.objs.size f cd).kindOf (ps.zip us) λ_=>none) s1) :
 Inv (afb CX P w K mg base N qual scope f cd A outer s H E) [] (start N vs) H s1:=by
 have Ge:ps.length<=N.length:=by have:=p7 List.length S.pre;rw[List.length_take] at this;lia
 obtain⟨h1,tk,rfl,hk⟩:=x.done;have noA:∀b:Addr,b∉(afb CX P w K mg base N qual scope f cd A outer s H E).ex:=λb z=>absurd (show b∈([]:X9) from z) (by simp)
 refine⟨⟨e0.mod,S.kind,rfl,rfl,bu _,λy z c h1 h2=>?_,λy hy=>?_,λy c _ h=>?_,λ_=>hd,Around.frames_deeper e0.frames,.inr ⟨rfl,rfl⟩,λb z=>absurd z (noA b),e0.bs,e0.bsz,λb _ _=>noA b,λb z=>absurd z (noA b),e0.T5,e0.frf⟩,
  rfl,e0.bare,Un.kept hk,⟨_,x.toInCall.ns,λi y v h1 h2 h3=>?_⟩,λy c h=>⟨_,x.cell y c h⟩,e0.zp.fresh (bu _),λy c h=>?_,λp hp=>absurd (show p∈([]:Zp) from hp) (by simp),e0.zp.kept hk,?_⟩
 . exact name_of_addr x.apart (ym h1) (ym h2)
 . have hy:scope.names.lookup y=some .cell\/scope.names.lookup y=some .free:=hy
   rcases hy with hy|hy
   . exact abx hy
   . exact absurd rfl (S.azj _ (ym hy))
 . exact xg (x.above y c (ym h))
 . have hi:i<vs.length:=by
    unfold start at h2
    by_cases hi:i<vs.length
    . exact hi
    . rw[jf (by simpa using hi)] at h2
      rw[List.getElem?_replicate] at h2;split at h2<;>cases h2
   have ha:vs[i]?=some v:=by
    unfold start at h2;rw[dz (by simpa using hi),iz] at h2;cases e:vs[i]? with
    |none=>rw[e] at h2;cases h2|some a=>rw[e] at h2;cases h2;rfl
   obtain⟨u,hu,rv⟩:=r.get ha;have hp:ps[i]?=some y:=by rw[<- S.pre,List.getElem?_take_of_lt (b_ hi (f_ hl))];exact h1
   have ndP:ps.Nodup:=by rw[<- S.pre];exact S.nd.sublist (List.take_sublist _ _)
   refine⟨u,rv,?_⟩;rcases S.par y (au hp) with k|k
   . exact .inl ⟨k,X8 ndP hp hu k⟩
   . obtain⟨c,e⟩:=abx (n:=s.heap.objs.size+1) k
     refine .inr ⟨.inl k,c,e,?_⟩;have q:=x.cell y c e;rw[Yb ndP hp hu (by show scope.names.lookup y≠_;rw[k];decide)] at q;exact q
 . exact e0.zp.fresh (xg (x.above y c (ym h)))
 . unfold start
   show _=N.length;rw[qz,du,List.length_replicate]
   lia
def a5w{CX:CXT}{P:Program}{w:World}{K:Fg}{mg:Zs}{base:Heap}{k:Nat}{f:Addr}{name qual:Str}{params:Arguments}{body:List Stmt}{scope:Scope}{dV kV doc pm cdv ct oc:Value}{an od:Option Addr}
 {osl:Array (Option Value)} {N ps:Yf} {sp:Sp} (lk:K.lookup f=some ⟨oc,od,.func (PySem.W.fnOf name qual params body scope dV kV doc pm an cdv ct),osl⟩) (hcd:PySem.W.codeIn K cdv qual=true) (S:Uk N ps scope)
 (len:∀vs H Q E,sp vs H Q E->vs.length=ps.length)
 (ana:∀(A:Around)(outer:List Env)(s:Shared)(H:Hp)(vs:List V)(Q:VK)(E:XK),zm k (A.deeper (envOfC qual scope s.heap.objs.size f cdv))->sp vs H Q E ->
  ∃t,Qc (afb CX P w K mg base N qual scope f cdv A outer s H E) body t/\t { nx:=λ_ H'=>Q .non H',rt:=Q } (start N vs) H) :
 Eh P w K mg base CX (k+1) f (PySem.W.fnOf name qual params body scope dV kV doc pm an cdv ct) ps sp:=by
 refine⟨len,λA outer s H args us vs Q E hr e0 hb r hsp=>?_⟩;have hl:=len _ _ _ _ hsp;have KX:K.In s.heap:=e0.mod.kin.keeps λb o e=>(e0.bs b o e).1
 have lim:s.heap.NoLimit:=e0.mod.nolimit.keeps λb o e=>(e0.bs b o e).1
 have a5x:∀y∈ps.zip us,scope.names.lookup y.1=some .local\/(scope.names.lookup y.1=some .cell/\((cellsFrom (s.heap.objs.size+1) scope.names []).lookup y.1).isSome=true):=λ⟨n,v⟩ hy=>by
  rcases S.par n (List.of_mem_zip hy).1 with q|q
  . exact .inl q
  . exact .inr ⟨q,PySem.W.cellsFrom_some _ _ _ (.inl q)⟩
 refine codeAny_call_function hr.depth (KX _ _ lk) rfl S.co S.gen rfl (PySem.W.codeRec_of KX hcd) (hb _ _ _ _ ?_);refine wpAny_newFunctionEnv_cells S.kind a5x λenv he s1 x=>?_
 subst he;refine⟨lim.keeps x.toInCall.keep,codeAny_func ?_⟩;obtain⟨t,ht,hq⟩:=ana A outer s H vs Q E (hr.deeper _) hsp;have I:Inv (afb CX P w K mg base N qual scope f cdv A outer s H E) [] (start N vs) H s1:=ajk S hr.hd e0 hl r x;refine lg (ht [] s1 (start N vs) H _ I hq) (λfl s' hs=>?_) λe s' hs=>hs
 have fin:∀{σ':St}{H':Hp}{v:V}{u:Value},Inv (afb CX P w K mg base N qual scope f cdv A outer s H E) [] σ' H' s'->RelV v u->Q v H'->CE outer P w H s Q u s' :=
  fun{σ' H' v u} J rv q=>⟨v,H',J.os,J.bare,J.base,J.zp,rv,q⟩
 cases fl with
 |ret u =>
  obtain⟨v,σ',H',J,rv,q⟩:=hs;exact fin J rv q
 |next =>
  obtain⟨σ',H',J,q⟩:=hs;exact fin (v:=V.non) (u:=Value.none) J rfl q
 |brk =>
  obtain⟨_,_,_,q⟩:=hs;exact False.elim q
 |cont =>
  obtain⟨_,_,_,q⟩:=hs;exact False.elim q
end L2
namespace L2
open PySem PySem.Spec PyProof.Rows
def tCB(r:List V->Hp->VK->Prop)(t:TA):TE:=fun σ H Q=>t σ H λvs H1=>r vs H1 Q
def anb{X:Cx}{x:Str}{p pos:Pos}{e:Expr}{es:Ya}{t:TA}{id:String}{r:List V->Hp->VK->Prop}(hc:Bq X (.builtin id) r)(hg:Gl X x)(hm:X.mg x=none)(hv:bootBuiltins x=some (.builtin id))(ha:PA X (e::es) t)(hn:x≠"__name__" := by decide)(Qq:(x==("__debug__" : Str))=false:=by decide)
 (he:starEach (e::es) X.env=(false,eval e X.env)::starEach es X.env:=by rfl) (Ge:(backTo pos (starEach es X.env)).any (·.1)=false:=by rfl):PE X (.Call (.Name x p) (e::es) [] pos) (tCB r t):=by
 intro pins s σ H Q I h;refine ig (Bj I hg hm hv ?_ hn Qq);exact vh (Ar (ha pos pins s σ H _ I h) λus s1 ⟨vs,H1,I1,r1,q1⟩=>hc pins s1 σ H1 vs us Q I1 r1 q1) he Ge
def ajl{X:Cx}{x:Str}{p pos:Pos}{e:Expr}{es:Ya}{t:TA}{T:String}{r:List V->Hp->VK->Prop}(hc:Bq X (.type T) r)(hg:Gl X x)(hm:X.mg x=none)(hv:bootBuiltins x=some (.type T))(ha:PA X (e::es) t)(hn:x≠"__name__" := by decide)(Qq:(x==("__debug__" : Str))=false:=by decide)
 (he:starEach (e::es) X.env=(false,eval e X.env)::starEach es X.env:=by rfl) (Ge:(backTo pos (starEach es X.env)).any (·.1)=false:=by rfl):PE X (.Call (.Name x p) (e::es) [] pos) (tCB r t):=by
 intro pins s σ H Q I h;refine ig (Bj I hg hm hv ?_ hn Qq);exact jc (Ar (ha pos pins s σ H _ I h) λus s1 ⟨vs,H1,I1,r1,q1⟩=>hc pins s1 σ H1 vs us Q I1 r1 q1) he Ge
section
variable{κ:Type}[DecidableEq κ]
noncomputable def Qd(gw:List (κ×V))(k:κ):Option V:=(gw.find? λkv=>decide (kv.1=k)).map (·.2)
noncomputable def putK(gw:List (κ×V))(k:κ)(v:V):List (κ×V) :=
 if(gw.any λkv=>decide (kv.1=k))=true then gw.map (λkv=>if kv.1=k then(kv.1,v) else kv) else gw++[(k,v)]
def Qe{p:κ×V}(e:p.1=k):Qd (p::r) k=some p.2:=by simp[Qd,qm,e]
def Qf{p:κ×V}(e:¬p.1=k):Qd (p::r) k=Qd r k:=by simp[Qd,qm,e]
theorem aby(k:κ):∀gw:List (κ×V),(gw.any λkv=>decide (kv.1=k))=(Qd gw k).isSome
 |[]=>rfl
 |p::r=>by
  rw[List.any_cons]
  by_cases e:p.1=k
  . simp only[Qe e,decide_eq_true e,Bool.true_or,Option.isSome_some]
  . rw[Qf e,v9 e,Bool.false_or];exact aby k r
def Th(gw:List (κ×V))(k:κ)(v:V):(putK gw k v).length<=gw.length+1:=by
 unfold putK;split
 . rw[du];exact x_
 . rw[qz,gn,List.length_nil];exact bu _
def Kg.Jb(r:Kg o u):o.isSome=u.isSome:=by
 cases o with
 |none=>cases u with
  |none=>rfl|some _=>exact(show False from r).elim
 |some _=>cases u with
  |none=>exact(show False from r).elim
  |some _=>rfl
theorem Kg.getD(r:Kg o u)(rd:RelV d d'):RelV (o.getD d) (u.getD d'):=by
 cases o with
 |none=>cases u with
  |none=>exact rd|some _=>exact(show False from r).elim
 |some _=>cases u with
  |none=>exact(show False from r).elim
  |some _=>exact r
def KV.val(r:KV gw vs)(k:κ):Kg (Qd gw k) (valueAt vs k):=by
 unfold KV at r
 induction r with
 |nil=>exact True.intro
 |@cons p q ps qs h t ih =>
  obtain⟨h1,h2⟩:=h
  by_cases e:p.1=k
  . have e':q.1=k:=h1.symm.trans e
    have b:valueAt (q::qs) k=some q.2:=by simp[valueAt,qm,e']
    rw[Qe e,b];exact h2
  . have e':¬q.1=k:=λz=>e (h1.trans z)
    have b:valueAt (q::qs) k=valueAt qs k:=by simp[valueAt,qm,e']
    rw[Qf e,b];exact ih
theorem KV.any(r:KV gw vs)(k:κ):(gw.any λkv=>decide (kv.1=k))=vs.any λkv=>decide (kv.1=k):=by
 unfold KV at r
 induction r with
 |nil=>rfl|cons h t ih=>rw[List.any_cons,List.any_cons,ih,h.1]
def KV.Ha(r:KV gw vs)(k:κ)(ry:RelV y u) :
 KV (gw.map λkv=>if kv.1=k then(kv.1,y) else kv) (vs.map λkv=>if kv.1=k then(kv.1,u) else kv):=by
 unfold KV at r ⊢
 induction r with
 |nil=>exact .nil
 |@cons p q ps qs h t ih =>
  rw[gm,gm];refine .cons ?_ ih;obtain⟨h1,h2⟩:=h
  by_cases e:p.1=k
  . rw[cj e,cj (h1.symm.trans e)];exact⟨h1,ry⟩
  . rw[bw e,bw (λz=>e (h1.trans z))];exact⟨h1,h2⟩
def KV.put(r:KV gw vs)(k:κ)(ry:RelV y u):KV (putK gw k y) (stored vs k u):=by
 unfold putK stored;rw[r.any k]
 by_cases e:(vs.any λkv=>decide (kv.1=k))=true
 . rw[cj e,cj e];exact r.Ha k ry
 . rw[bw e,bw e];exact Paired.snoc r ⟨rfl,ry⟩
theorem KV.length{gw:List (κ×V)}{vs:List (κ×Value)}(r:KV gw vs):gw.length=vs.length:=Paired.length r
end
def Yc(r:RelV (kV k) u):(m5 P w).is k u=true:=by
 cases k with
 |inl i=>obtain⟨t,e⟩:=(show ∃t,u=Value.int i t from r);subst e;exact abp P w i t
 |inr x=>obtain⟨t,e⟩:=(show ∃t,u=Value.str x t from r);subst e;exact abq P w x t
theorem Yd{P:Program}{w:World}:∀{ks:List Key}{us:Zl},Vals (ks.map kV) us->ItemsAre (m5 P w) ks us
 |[],_,r=>by rw[List.map_nil] at r;cases r;exact .nil
 |k::ks,_,r=>by
  rw[gm] at r;cases r with
  |cons h t=>exact .cons (Yc h) (Yd t)
abbrev KT(H:Hp):List (List Key×V)->List (List Key×Addr×Value)->Prop:=Paired λp q=>p.1=q.1/\H q.2.1=some (.tup (p.1.map kV))/\RelV p.2 q.2.2
def KT.val(r:KT H gw xs)(k:List Key):Kg (Qd gw k) ((atKey xs k).map (·.2)):=by
 induction r with
 |nil=>exact True.intro
 |@cons p q ps qs h t ih =>
  obtain⟨h1,_,h2⟩:=h
  by_cases e:p.1=k
  . have e':q.1=k:=h1.symm.trans e
    have b:atKey (q::qs) k=some q.2:=by simp[atKey,qm,e']
    rw[Qe e,b];exact h2
  . have e':¬q.1=k:=λz=>e (h1.trans z)
    have b:atKey (q::qs) k=atKey qs k:=by simp[atKey,qm,e']
    rw[Qf e,b];exact ih
def KT.Ha(r:KT H gw xs)(k:List Key)(ry:RelV y u) :
 KT H (gw.map λkv=>if kv.1=k then(kv.1,y) else kv) (xs.map (putAt k u)):=by
 induction r with
 |nil=>exact .nil
 |@cons p q ps qs h t ih =>
  rw[gm,gm];refine .cons ?_ ih;obtain⟨h1,h2,h3⟩:=h;unfold putAt
  by_cases e:p.1=k
  . rw[cj e,cj (h1.symm.trans e)];exact⟨h1,h2,ry⟩
  . rw[bw e,bw (λz=>e (h1.trans z))];exact⟨h1,h2,h3⟩
def KT.put(r:KT H gw xs)(k:List Key)(hb:H b=some (.tup (k.map kV)))(ry:RelV y u) :
 KT H (putK gw k y) (storedH xs k b u):=by
 have e:(gw.any λkv=>decide (kv.1=k))=(atKey xs k).isSome:=by rw[aby,(r.val k).Jb,Option.isSome_map]
 unfold putK storedH;rw[e]
 by_cases q:(atKey xs k).isSome=true
 . rw[cj q,cj q];exact r.Ha k ry
 . rw[bw q,bw q];exact Paired.snoc r ⟨rfl,hb,ry⟩
def KT.keeps(r:KT H gw xs)(ht:∀b ys,H b=some (.tup ys)->H' b=some (.tup ys)):KT H' gw xs :=
 Paired.aye r λ_ _ z=>⟨z.1,ht _ _ z.2.1,z.2.2⟩
def awf(ok:N8 P w H h)(e:Rd H a u):Ad P w H h a u:=e.ok ok
def Vk(ok:N8 P w H h)(e:Rd H a (.dK gw)):gw.length<=sizeLine/\(a==sysModules)=false/\∃vs,KV gw vs/\h.DictOf (m5 P w) a vs :=
 show Ad P w H h a (.dK gw) from awf ok e
def a5y(ok:N8 P w H h)(e:H a=some (.dK gw)):gw.length<=sizeLine/\(a==sysModules)=false/\∃vs,KV gw vs/\h.DictOf (m5 P w) a vs:=Vk ok (.inl e)
def Mq(ok:N8 P w H h)(e:H a=some (.tup (ks.map kV))):(tupleKind (m5 P w)).is h ks a:=by obtain⟨_,xr,r,o,h1,h2,n,h3,_⟩:=(show Ad P w H h a (.tup (ks.map kV)) from ok a _ e);exact⟨o,xr.toArray,n,h1,h2,h3,by simpa using Yd r⟩
def Ye(ok:N8 P w H h)(e:Rd H a (.dT gw)):gw.length<=sizeLine/\(a==sysModules)=false /\
 ∃xs,KT H gw xs/\h.DictOfH (tupleKind (m5 P w)) a xs:=by
 obtain⟨z,y,xs,r,o,es,ep,h1,h2,h3,h4,h5⟩:=(show Ad P w H h a (.dT gw) from awf ok e);refine⟨z,y,xs,r,o,es,ep,h1,h2,h3,h4,λx hx=>?_,h5⟩;have all:∀{l:List (List Key×V)}{m:List (List Key×Addr×Value)},KT H l m->∀x∈m,(tupleKind (m5 P w)).is h x.1 x.2.1:=by
  intro l m q
  induction q with
  |nil=>intro x hx;exact nomatch hx
  |@cons p q ps qs hq t ih =>
   intro x hx;rcases bx.mp hx with e|hx
   . subst e
     exact Mq ok (by rw[<- hq.1];exact hq.2.1)
   . exact ih x hx
 exact all r x hx
def anc(ok:N8 P w H h)(e:H a=some (.dT gw)):gw.length<=sizeLine/\(a==sysModules)=false /\
 ∃xs,KT H gw xs/\h.DictOfH (tupleKind (m5 P w)) a xs:=Ye ok (.inl e)
def Mr(H:Hp)(a:Addr)(y:V)(r:Option V):Prop :=
 (∃gw k,Rd H a (.dK gw)/\y=kV k/\r=Qd gw k)\/∃gw k b,Rd H a (.dT gw)/\y=.ref b/\H b=some (.tup (k.map kV))/\r=Qd gw k
def afc(H:Hp)(a:Addr)(y v:V)(H':Hp):Prop :=
 (∃gw k,H a=some (.dK gw)/\y=kV k/\gw.length<sizeLine/\H'=upd H a (.dK (putK gw k v))) \/
 ∃gw k b,H a=some (.dT gw)/\y=.ref b/\H b=some (.tup (k.map kV))/\gw.length<sizeLine/\H'=upd H a (.dT (putK gw k v))
theorem Mr.k{k:Key}(e:H a=some (.dK gw)):Mr H a (kV k) (Qd gw k):=.inl ⟨gw,k,.inl e,rfl,rfl⟩
def Mr.t{k:List Key}(e:H a=some (.dT gw))(eb:H b=some (.tup (k.map kV))):Mr H a (.ref b) (Qd gw k):=.inr ⟨gw,k,b,.inl e,rfl,eb,rfl⟩
theorem afc.k{k:Key}(e:H a=some (.dK gw))(hl:gw.length<sizeLine):afc H a (kV k) v (upd H a (.dK (putK gw k v))):=.inl ⟨gw,k,e,rfl,hl,rfl⟩
def afc.t{k:List Key}(e:H a=some (.dT gw))(eb:H b=some (.tup (k.map kV)))(hl:gw.length<sizeLine) :
 afc H a (.ref b) v (upd H a (.dT (putK gw k v))):=.inr ⟨gw,k,b,e,rfl,eb,hl,rfl⟩
def Inv.big(I:Inv X pins σ H s):sysModules<s.heap.objs.size:=by
 have h:mainGlobals<s.heap.objs.size:=(I.mod.glob.keeps I.bk).lt
 exact Nat.lt_trans (by decide) h
def ajm(hu:A.units+1<cLine)(I:Inv X pins σ H s)(g:Mr H a y (some v))(ry:RelV y u)(h:∀w' s',Inv X pins σ H s'->RelV v w'->Q w' s') :
 wpAny (model X.prog X.w) A (getItem (.ref a) u) Q E s:=by
 rcases g with⟨gw,k,e,ey,l⟩|⟨gw,k,b,e,ey,eb,l⟩
 . subst ey
   obtain⟨z,hd,vs,rel,dd⟩:=Vk I.zp e;obtain⟨w',hw,rw'⟩:=Kg.some_of (v:=v) (o:=valueAt vs k) (by rw[l];exact rel.val k);exact wpAny_getItem_of (Yc ry) dd.mapOf hw (h w' _ (I.tok _) rw')
 . subst ey
   cases(show u=Value.ref b from ry);obtain⟨z,hd,xs,rel,dd⟩:=Ye I.zp e;obtain⟨w',hw,rw'⟩:=Kg.some_of (v:=v) (o:=(atKey xs k).map (·.2)) (by rw[l];exact rel.val k);obtain⟨p,hp,hp2⟩:=bz.mp hw;refine wpAny_getItem_heap (vy hu) (Mq I.zp eb) dd hp ?_;rw[hp2];exact h w' _ (I.tok _) rw'
def a5z(hu:A.units+1<cLine)(I:Inv X pins σ H s)(g:Mr H a y o)(ry:RelV y u)(h:∀s',Inv X pins σ H s'->Q (.bool o.isSome) s') :
 wpAny (model X.prog X.w) A (compareOp .In u (.ref a)) Q E s:=by
 rcases g with⟨gw,k,e,ey,l⟩|⟨gw,k,b,e,ey,eb,l⟩
 . subst ey
   obtain⟨z,hd,vs,rel,dd⟩:=Vk I.zp e;refine wpAny_in_of (Yc ry) hd dd.mapOf ?_;rw[<- (rel.val k).Jb,<- l];exact h _ (I.tok _)
 . subst ey
   cases(show u=Value.ref b from ry);obtain⟨z,hd,xs,rel,dd⟩:=Ye I.zp e;refine wpAny_in_heap (vy hu) (Mq I.zp eb) hd dd ?_;have q:=(rel.val k).Jb;rw[Option.isSome_map] at q;rw[<- q,<- l];exact h _ (I.tok _)
def ag0(hu:A.units+1<cLine)(I:Inv X pins σ H s)(g:Mr H a y o)(ry:RelV y u)(h:∀s',Inv X pins σ H s'->Q (.bool (!o.isSome)) s') :
 wpAny (model X.prog X.w) A (compareOp .NotIn u (.ref a)) Q E s:=by
 rcases g with⟨gw,k,e,ey,l⟩|⟨gw,k,b,e,ey,eb,l⟩
 . subst ey
   obtain⟨z,hd,vs,rel,dd⟩:=Vk I.zp e;refine wpAny_notIn_of (Yc ry) hd dd.mapOf ?_;rw[<- (rel.val k).Jb,<- l];exact h _ (I.tok _)
 . subst ey
   cases(show u=Value.ref b from ry);obtain⟨z,hd,xs,rel,dd⟩:=Ye I.zp e;refine wpAny_notIn_heap (vy hu) (Mq I.zp eb) hd dd ?_;have q:=(rel.val k).Jb;rw[Option.isSome_map] at q;rw[<- q,<- l];exact h _ (I.tok _)
def ag1(I:Inv X pins σ H s)(mu:Mut (H a))(hs:Heap.SameBut a s.heap h')(he:∃q,h'.get? a=some q)(new:Ad X.prog X.w (upd H a ob) h' a ob) :
 Inv X pins σ (upd H a ob) { s with heap:=h',toks:=t' } :=
 I.write (x:=a) (e:=a) mu (.inl rfl) (λb q hb z=>(hs.2 b hb).trans z) he new
def ane(z:gw.length<=sizeLine)(hd:(a==sysModules)=false)(rel:KV gw vs)(dd:h'.DictOf (m5 P w) a vs) :
 Ad P w H' h' a (.dK gw):=⟨z,hd,vs,rel,dd⟩
def Yg(hu:A.units+1<cLine)(I:Inv X pins σ H s)(g:afc H a y v H')(ry:RelV y u)(rv:RelV v r)(h:∀s',Inv X pins σ H' s'->Q () s') :
 wpAny (model X.prog X.w) A (setItem (.ref a) u r) Q E s:=by
 rcases g with⟨gw,k,e,ey,l,eH⟩|⟨gw,k,b,e,ey,eb,l,eH⟩
 . subst ey eH
   obtain⟨z,hd,vs,rel,dd⟩:=a5y I.zp e;have hz:vs.length<=sizeLine:=by rw[<- rel.length];exact z
   have hl:(putK gw k v).length<=sizeLine:=by have:=Th gw k v;exact a_ this l
   refine wpAny_setItem_pairs (hsz:=hz) (Yc ry) dd λh' dd' hs=>h _ ?_
   have he:∃q,h'.get? a=some q:=let ⟨q,_,_,hq,_⟩:=dd';⟨q,hq⟩;exact ag1 I (by rw[e];exact True.intro) hs he (ane hl hd (rel.put k rv) dd')
 . subst ey eH
   cases(show u=Value.ref b from ry);obtain⟨z,hd,xs,rel,dd⟩:=anc I.zp e;have hz:xs.length<=sizeLine:=by rw[<- Paired.length rel];exact z
   have hl:(putK gw k v).length<=sizeLine:=by have:=Th gw k v;exact a_ this l
   refine wpAny_setItem_heap (hsz:=hz) (vy hu) (Mq I.zp eb) dd λh' dd' hs=>h _ ?_
   obtain⟨q,es,ep,hq,h2,h3,h4,_,h5⟩:=dd';refine ag1 I (by rw[e];exact True.intro) hs ⟨q,hq⟩ ⟨hl,hd,_,(rel.put k eb rv).keeps λc ys ec=>?_,q,es,ep,hq,h2,h3,h4,h5⟩;rw[j5 (amm ec e (λz=>nomatch z))];exact ec
def abz(I:Inv X pins σ H s)(g:Mr H a y o):s.TypeIs (.ref a) "dict" := by
 rcases g with⟨gw,k,e,_,_⟩|⟨gw,k,b,e,_,_,_⟩
 . obtain⟨_,_,vs,_,dd⟩:=Vk I.zp e
   exact dd.typeIs
 . obtain⟨_,_,xs,_,dd⟩:=Ye I.zp e
   exact dd.typeIs
def anf(h:Heap)(hb:sysModules<h.objs.size):Ad P w H (h.push { cls:=.type "dict",data:=.dict #[] }) h.objs.size (.dK []) :=
 ⟨jt _,qe.mpr (jx (fc hb)),[],.nil,Heap.DictOf.new h⟩
def ang(h:Heap)(hb:sysModules<h.objs.size):Ad P w H (h.push { cls:=.type "dict",data:=.dict #[] }) h.objs.size (.dT []) :=
 ⟨jt _,qe.mpr (jx (fc hb)),[],.nil,_,#[],0,bh _ rfl,⟨rfl,rfl,rfl⟩,rfl,rfl,w5⟩
def azk:TE:=λ_ H Q=>∀p,H p=none->Q (.ref p) (upd H p (.dK []))
def azl:TE:=λ_ H Q=>∀p,H p=none->Q (.ref p) (upd H p (.dT []))
def anh:PE X (.Dict [] [] pos) azk:=λpins s σ H Q I h =>
 wpAny_Dict_empty ⟨.ref s.heap.objs.size,_,I.laid (a:=s.heap.objs.size) (o:=.dK []) (t':=s.toks) (λ_ _ q=>aq _ q) (bu _) (anf s.heap I.big),rfl,h _ (I.zp.fresh (bu _))⟩
def ani:PE X (.Dict [] [] pos) azl:=λpins s σ H Q I h =>
 wpAny_Dict_empty ⟨.ref s.heap.objs.size,_,I.laid (a:=s.heap.objs.size) (o:=.dT []) (t':=s.toks) (λ_ _ q=>aq _ q) (bu _) (ang s.heap I.big),rfl,h _ (I.zp.fresh (bu _))⟩
def azm(hu:A.units+1<cLine)(I:Inv X pins σ H s)(g:Mr H a y o)(ry:RelV y u)(rd:RelV d r)(h:∀w' s',Inv X pins σ H s'->RelV (o.getD d) w'->Q w' s') :
 wpAny (model X.prog X.w) A (call (.builtin "dict.get") [.ref a,u,r]) Q E s:=by
 rcases g with⟨gw,k,e,ey,l⟩|⟨gw,k,b,e,ey,eb,l⟩
 . subst ey
   obtain⟨z,hd,vs,rel,dd⟩:=Vk I.zp e;refine call_meetsIn PySem.F.slot_dict_get dd.typeIs PySem.F.entry_dict_get (PySem.F.args_dict_get_3 _ _ _) (meets_dict_get_default (m5 X.prog X.w) a (Yc ry) hd r) ⟨_,dd.mapOf,h _ _ (I.tok _) ?_⟩;rw[l];exact(rel.val k).getD rd
 . subst ey
   cases(show u=Value.ref b from ry);obtain⟨z,hd,xs,rel,dd⟩:=Ye I.zp e;refine call_meetsIn PySem.F.slot_dict_get dd.typeIs PySem.F.entry_dict_get (PySem.F.args_dict_get_3 _ _ _) (meetsH_dict_get_default (tupleKind (m5 X.prog X.w)) a b hd r) ⟨vy hu,k,xs,Mq I.zp eb,dd,h _ _ (I.tok _) ?_⟩;rw[l];exact(rel.val k).getD rd
def anj(I:Inv X pins σ H s)(e:Rd H a (.dK gw))(h:∀p s',H p=none->Inv X pins σ (upd H p (.dK gw)) s'->Q (.ref p) s'):wpAny (model X.prog X.w) A (call (.type "dict") [.ref a]) Q E s:=by
 obtain⟨z,hd,vs,rel,dd⟩:=Vk I.zp e;refine kt_call_dict hd dd (by rw[<- rel.length];exact z) λh' dd' hs=>?_
 refine h _ _ (I.zp.fresh (bu _)) (I.laid (a:=s.heap.objs.size) (o:=.dK gw) (t':=s.toks) (λb q hq=>?_) (bu _) (ane z (qe.mpr (jx (fc I.big))) rel dd'));exact(hs.2 b (fc (az hq))).trans (aq _ hq)
end L2
namespace HT
open PySem PyProof.Rows
noncomputable def sIx(n d:Nat):Option Int->Nat
 |none=>d|some v=>if v<0 then(v+(n:Int)).toNat else min v.toNat n
end HT
namespace L2
open PySem PySem.Spec PyProof.Rows
abbrev TO:=St->Hp->(Option Int->Hp->Prop)->Prop
def PO(X:Cx)(e:Option Expr)(t:TO):Prop :=
 ∀(pins:Zp)(s:Shared)(σ:St)(H:Hp)(Q:Option Int->Hp->Prop),Inv X pins σ H s->t σ H Q ->
  wpAny (model X.prog X.w) X.A (evalPart e X.env) (λu s'=>∃o H',Inv X pins σ H' s'/\IsPart u o/\Q o H') X.xe s
def as3:TO:=λ_ H Q=>Q none H
def a6a(t:TE):TO:=fun σ H Q=>t σ H λx H1=>∃i,x=.int i/\Q (some i) H1
def as4:PO X none as3:=by intro pins s σ H Q I h;rw[evalPart_none];exact aj ⟨none,H,I,.none,h⟩
def as5(h:PE X e te):PO X (some e) (a6a te):=by
 intro pins s σ H Q I hw;rw[evalPart_some];refine Ar (h pins s σ H _ I hw) λu s1 z_=>?_
 obtain⟨x,H1,I1,r1,q1⟩:=z_;obtain⟨i,rfl,q⟩:=q1;obtain⟨t,rfl⟩:=r1;exact⟨some i,H1,I1,.int i t,q⟩
def SlR(X:Cx)(r:V->Option Int->Option Int->Hp->VK->Prop):Prop :=
 ∀(pins:Zp)(s:Shared)(σ:St)(H:Hp)(x:V)(v vl vu:Value)(lo hi:Option Int)(sl:Addr)(Q:VK),Inv X pins σ H s->RelV x v->s.heap.IsSliceOf sl vl vu .none->IsPart vl lo->IsPart vu hi->r x lo hi H Q ->
  ∃T id,typeLookup (.type T) "__getitem__" = pure (some (.builtin id))/\s.TypeIs v T/\wpAny (model X.prog X.w) X.A (getItem v (.ref sl)) (EP X pins σ Q) X.xe s
def tSl(r:V->Option Int->Option Int->Hp->VK->Prop)(te:TE)(tl th:TO):TE:=fun σ H Q=>te σ H λx H1=>tl σ H1 λl H2=>th σ H2 λu H3=>r x l u H3 Q
def ank{lo:Option Expr}(hr:SlR X r)(he:PE X e te)(hl:PO X lo tl)(hu:PO X hi th):PE X (.Subscript e (.Slice lo hi none p2) pos) (tSl r te tl th):=by
 intro pins s σ H Q I h;refine Subscript_ (Ar (he pins s σ H _ I h) λv s1 z_=>?_);obtain⟨x,H1,I1,r1,q1⟩:=z_;refine wpAny_Slice (Ar (hl pins s1 σ H1 _ I1 q1) λvl s2 ⟨l,H2,I2,pl,q2⟩=>Ar (hu pins s2 σ H2 _ I2 q2) λvu s3 z_=>?_);obtain⟨u,H3,I3,pu,q3⟩:=z_;rw[evalPart_none];refine aj ?_;have I4:Inv X pins σ H3 { s3 with heap:=s3.heap.push { cls:=.type "slice",data:=.fields #[vl,vu,.none] } }:=I3.kept (t':=s3.toks) λb ob q=>aq _ q
 obtain⟨T,id,hT,ht,hg⟩:=hr pins { s3 with heap:=s3.heap.push { cls:=.type "slice",data:=.fields #[vl,vu,.none] } } σ H3 x v vl vu l u s3.heap.objs.size Q I4 r1 (Heap.IsSliceOf.new ..) pl pu q3;show wpAny (model X.prog X.w) X.A (subscriptTail e (.Slice lo hi none p2) v (.ref s3.heap.objs.size)) (EP X pins σ Q) X.xe { s3 with heap:=s3.heap.push { cls:=.type "slice",data:=.fields #[vl,vu,.none] } };exact tail_any (ops:=[.ref s3.heap.objs.size,v]) ht hT hg (by with_unfolding_all rfl)
noncomputable def ajn(xs:List V)(lo hi:Option Int):List V:=(xs.drop (HT.sIx xs.length 0 lo)).take (HT.sIx xs.length xs.length hi-HT.sIx xs.length 0 lo)
def ab0(xs:List V)(lo hi:Option Int):(ajn xs lo hi).length<=xs.length:=by
 unfold ajn;rw[List.length_take,List.length_drop]
 lia
end L2
namespace L2
open PySem PySem.Spec PyProof.Rows
noncomputable def ixN(n:Nat)(i:Int):Option Nat:=if 0<=i then(if i<n then some i.toNat else none) else if -(n:Int)<=i then some (i+n).toNat else none
noncomputable def atI{α:Type}(xs:List α)(i:Int):Option α:=(ixN xs.length i).bind λj=>xs[j]?
def ag2(h:ixN n i=some j):seqIndex? i n=some j/\j<n/\-(n:Int)<=i/\i<n:=by
 unfold ixN at h
 by_cases h0:0<=i
 . rw[cj h0] at h
   by_cases h1:i<n
   . rw[cj h1] at h
     have e:i.toNat=j:=jq h;exact⟨by rw[seqIndex_of h0 h1,e],by lia,by lia,h1⟩
   . rw[bw h1] at h;cases h
 . rw[bw h0] at h
   by_cases h1:-(n:Int)<=i
   . rw[cj h1] at h
     have e:(i+n).toNat=j:=jq h;exact⟨by rw[seqIndex_neg (by lia) h1,e],by lia,h1,by lia⟩
   . rw[bw h1] at h;cases h
def ag3(h:atI xs i=some v):∃j,seqIndex? i xs.length=some j/\xs[j]?=some v/\j<xs.length/\-(xs.length:Int)<=i/\i<xs.length:=by
 unfold atI at h;cases e:ixN xs.length i with
 |none=>rw[e] at h;cases h
 |some j =>
  rw[e] at h;obtain⟨h1,h2,h3,h4⟩:=ag2 e;exact⟨j,h1,h,h2,h3,h4⟩
def Z6(b:Expr):Prop:=∀o i,subscripted b false o i=operate [o,i] (getItem o i)
def IxR(X:Cx)(r:R2):Prop :=
 ∀(value slice:Expr)(pins:Zp)(s:Shared)(σ:St)(H:Hp)(x y:V)(v u:Value)(Q:VK),Inv X pins σ H s->RelV x v->RelV y u->r x y H Q ->
  subscripted slice false v u=operate [v,u] (getItem v u)->wpAny (model X.prog X.w) X.A (subscriptTail value slice v u) (EP X pins σ Q) X.xe s
def MtR(X:Cx)(id:String)(r:V->List V->Hp->VK->Prop):Prop :=
 ∀(pins:Zp)(s:Shared)(σ:St)(H:Hp)(x:V)(xs:List V)(v:Value)(us:Zl)(Q:VK),Inv X pins σ H s->RelV x v->Vals xs us->r x xs H Q ->
  wpAny (model X.prog X.w) X.A (call (.builtin id) (v::us)) (EP X pins σ Q) X.xe s
def a6c(hr:IxR X r)(ha:PE X a ta)(hb:PE X b tb)(hs:Z6 b):PE X (.Subscript a b pos) (tOp r ta tb):=by intro pins s σ H Q I h;exact Subscript_ (ay6 ha hb I h λv u s2 x y H2 I2 rx ry q=>hr a b pins s2 σ H2 x y v u Q I2 rx ry q (hs _ _))
def bcq(K:Fg):R2:=λx y H Q=>∃p xs i v,x=.ref p/\y=.int i/\G9 K H p xs/\atI xs i=some v/\Q v H
def bcr(K:Fg):R2:=λx y H Q=>∃p xs i v,x=.ref p/\y=.int i/\Ie K H p xs/\atI xs i=some v/\Q v H
def Bt:IxR X (bcq X.K):=by
 intro value slice pins s σ H x y v u Q I rx ry h hs;obtain⟨p,xs,i,z,rfl,rfl,hq,he,q⟩:=h;cases rx;obtain⟨t,rfl⟩:=ry;obtain⟨xr,r,pl,hz⟩:=I.list hq;obtain⟨j,h1,h2,h3,h4,h5⟩:=ag3 he;obtain⟨w,ew,rw'⟩:=r.get h2;have hl:=r.length;have hn:=Z5;have fin:EP X pins σ Q w s:=⟨z,H,I,rw',q⟩
 by_cases h0:0<=i
 . have hj:i.toNat=j:=by
    rw[seqIndex_of h0 h5] at h1;exact jq h1
   exact item_listR pl.isList h0 (by lia) (by rw[hj];simpa using ew) fin hs
 . have hj:(i+(xr.toArray.size:Int)).toNat=j:=by
    rw[seqIndex_neg (by lia) h4] at h1;rw[gr,<- hl];exact jq h1
   exact subscriptTail_builtinR (x:=w) pl.isList.typeIs slot_list_getitem.lookup
    (wpAny_getItem_list_neg (Q:=λr s'=>r=w/\EP X pins σ Q r s') pl.isList (by lia) (by rw[gr]<;>lia) (by lia) (by rw[hj];simpa using ew) ⟨rfl,fin⟩) hs
def Hu:IxR X (bcr X.K):=by
 intro value slice pins s σ H x y v u Q I rx ry h hs;obtain⟨p,xs,i,z,rfl,rfl,hq,he,q⟩:=h;cases rx;obtain⟨t,rfl⟩:=ry;obtain⟨xr,r,pl,hz⟩:=I.tuple hq;obtain⟨j,h1,h2,h3,h4,h5⟩:=ag3 he;obtain⟨w,ew,rw'⟩:=r.get h2;have hl:=r.length;have hn:=Z5;have fin:EP X pins σ Q w s:=⟨z,H,I,rw',q⟩;exact subscriptTail_builtinR (x:=w) pl.typeIs slot_tuple_getitem.lookup
  (getItem_tuple (j:=j) (Q:=λr s'=>r=w/\EP X pins σ Q r s') pl (by lia) (by lia) (by rw[gr,<- hl];exact h1) (by simpa using ew) ⟨rfl,fin⟩) hs
def afd(xr:Zl)(n j:Nat)(u:Value):Obj.mapSeq (·.setIfInBounds j u) { cls:=.type "list",data:=.seq xr.toArray n }={ cls:=.type "list",data:=.seq (xr.set j u).toArray n }:=by simp[Obj.mapSeq]
theorem Inv.lst{X:Cx}{pins:Zp}{σ:St}{H:Hp}{s:Shared}{p:Addr}{xs:List V}(I:Inv X pins σ H s)(h:H p=some (.lst xs)) :
 ∃(xr:Zl)(n:Nat),Vals xs xr/\s.heap.get? p=some { cls:=.type "list",data:=.seq xr.toArray n }/\xs.length<=sizeLine:=by
 obtain⟨z,xr,n,r,e⟩:=I.zp p _ h;exact⟨xr,n,r,e,z⟩
def Inv.azn{xr:Zl}(I:Inv X pins σ H s)(h:H p=some (.lst xs))(ho:s.heap.get? p=some { cls:=.type "list",data:=.seq xr.toArray n })(hf:f { cls:=.type "list",data:=.seq xr.toArray n }={ cls:=.type "list",data:=.seq its'.toArray n' })(r:Vals ys its')(hz:ys.length<=sizeLine)(t:Nat) :
 Inv X pins σ (upd H p (.lst ys)) { s with heap:=s.heap.update p f,toks:=t }:=by
 have e:(s.heap.update p f).get? p=some { cls:=.type "list",data:=.seq its'.toArray n' }:=by rw[lz f ho (by rw[hf]<;>rfl),hf]
 refine I.write (x:=p) (e:=p) (by rw[h];trivial) (.inl rfl) (λb u hb q=>(uf _ _ (jx hb)).trans q) ⟨_,e⟩ ?_;exact⟨hz,its',n',r,e⟩
def a6d:V->V->V->Hp->(Hp->Prop)->Prop:=λo i v H Q=>∃p xs k j,o=.ref p/\i=.int k/\H p=some (.lst xs)/\ixN xs.length k=some j/\Q (upd H p (.lst (xs.set j v)))
def set_list:ayz X a6d:=by
 intro pins s σ H o i v ov iv u Q I ro ri rv h;obtain⟨p,xs,k,j,rfl,rfl,hp,hj,q⟩:=h;cases ro;obtain⟨t,rfl⟩:=ri;obtain⟨xr,n,r,ho,hz⟩:=I.lst hp;obtain⟨h1,h2,h3,h4⟩:=ag2 hj;have hl:=r.length;have hn:=Z5;have I':Inv X pins σ (upd H p (.lst (xs.set j v))) { s with heap:=s.heap.update p (Obj.mapSeq (·.setIfInBounds j u)) } :=
  I.azn hp ho (afd xr n j u) (r.set rv j) (by rw[List.length_set];exact hz) s.toks
 by_cases h0:0<=k
 . have hk:k.toNat=j:=by
    rw[seqIndex_of h0 h4] at h1;exact jq h1
   exact PySem.W.ki_setAt ho h0 (by lia) (by rw[gr,<- hl];exact h4) (by rw[hk];exact⟨_,I',q⟩)
 . have hk:(k+(xr.toArray.size:Int)).toNat=j:=by
    rw[seqIndex_neg (by lia) h3] at h1;rw[gr,<- hl];exact jq h1
   exact PySem.W.ki_setBack ho (by lia) (by rw[gr,<- hl];exact h3) (by lia) (by rw[hk];exact⟨_,I',q⟩)
def Z7(lo hi:Option Int)(n:Nat):(sliceBounds lo hi none n).1=((HT.sIx n 0 lo:Nat):Int)/\(sliceBounds lo hi none n).2.1=((HT.sIx n n hi:Nat):Int)/\(sliceBounds lo hi none n).2.2=1:=by
 refine⟨?_,?_,rfl⟩
 . cases lo with
   |none=>simp[sliceBounds,HT.sIx]
   |some i =>
    simp only[sliceBounds,HT.sIx,Option.getD_none,show(1:Int) > 0 by decide,ju]
    by_cases h:i<0
    . simp only[h,ju]<;>lia
    . simp only[h,jd]<;>lia
 . cases hi with
   |none=>simp[sliceBounds,HT.sIx]
   |some i =>
    simp only[sliceBounds,HT.sIx,Option.getD_none,show(1:Int) > 0 by decide,ju]
    by_cases h:i<0
    . simp only[h,ju]<;>lia
    . simp only[h,jd]<;>lia
def W6(xr:Zl)(lo hi:Option Int):slicePick xr.toArray lo hi none=((xr.drop (HT.sIx xr.length 0 lo)).take (HT.sIx xr.length xr.length hi-HT.sIx xr.length 0 lo)).toArray:=by obtain⟨h1,h2,h3⟩:=Z7 lo hi xr.toArray.size;unfold slicePick;rw[h1,h2,h3];simp only[sliceRange_one,pick_run,gr]<;>rfl
def a6e(K:Fg):V->Option Int->Option Int->Hp->VK->Prop:=λx lo hi H Q=>∃a xs,x=.ref a/\G9 K H a xs/\∀p,H p=none->Q (.ref p) (upd H p (.lst (ajn xs lo hi)))
def as6:SlR X (a6e X.K):=by intro pins s σ H x v vl vu lo hi sl Q I rx hs pl pu h;obtain⟨a,xs,rfl,hx,q⟩:=h;cases rx;obtain⟨xr,r,ht,hz⟩:=I.list hx;have hlen:=r.length;refine⟨"list",_,slot_list_getitem.lookup,ht.isList.typeIs,?_⟩;refine wpAny_getItem_list_slice ht.isList hs pl pu .none (by simp) ?_ (by rw[gr]<;>exact a_ (g_ hlen) hz);rw[W6,<- hlen];refine⟨.ref s.heap.objs.size,_,I.laid (t':=s.toks) (o:=.lst (ajn xs lo hi)) (λb ob q=>aq _ q) (bu _) ?_,rfl,q _ (I.zp.fresh (bu _))⟩;exact⟨gq (ab0 xs lo hi) hz,_,0,(r.drop (HT.sIx xs.length 0 lo)).take (HT.sIx xs.length xs.length hi-HT.sIx xs.length 0 lo),bh _ rfl⟩
def Z8:Bq X (.builtin "len") (λxs H Q=>∃p ys,xs=[.ref p]/\(G9 X.K H p ys\/Ie X.K H p ys)/\Q (.int ys.length) H):=by
 intro pins s σ H xs us Q I r h;obtain⟨p,ys,rfl,hq,q⟩:=h;obtain⟨u,rfl,rx⟩:=vals1 r;cases rx;have hn:=Z5;rcases hq with hq|hq
 . obtain⟨xr,r',pl,hz⟩:=I.list hq
   have hlen:=r'.length;exact Calls.call_len_list pl.isList (by simp only[gr]<;>lia) ⟨.int ys.length,H,I.tok _,⟨s.toks+1,by rw[gr,hlen]⟩,q⟩
 . obtain⟨xr,r',pl,hz⟩:=I.tuple hq
   have hlen:=r'.length;exact len_tuple pl (by simp only[gr]<;>lia) ⟨.int ys.length,H,I.tok _,⟨s.toks+1,by rw[gr,hlen]⟩,q⟩
def W7:Bq X (.type "tuple") (λxs H Q=>∃p ys,xs=[.ref p]/\((G9 X.K H p ys/\∀l,H l=none->Q (.ref l) (upd H l (.tup ys)))\/(Ie X.K H p ys/\Q (.ref p) H))):=by
 intro pins s σ H xs us Q I r h;obtain⟨p,ys,rfl,h⟩:=h;obtain⟨u,rfl,rx⟩:=vals1 r;cases rx;rcases h with⟨hq,q⟩|⟨hq,q⟩
 . obtain⟨xr,r',pl,hz⟩:=I.list hq
   have hlen:=r'.length;refine call_tuple_list pl.isList (λh' kp=>?_) (by simp only[gr]<;>exact a_ (g_ hlen) hz);have I1:Inv X pins σ H { s with heap:=h' }:=I.kept (t':=s.toks) kp;have I2:Inv X pins σ (upd H h'.objs.size (.tup ys)) { s with heap:=h'.push { cls:=.type "tuple",data:=.seq xr.toArray } } :=
    I1.laid (t':=s.toks) (λb o e=>aq _ e) (bu _) (show Ad X.prog X.w _ _ _ (.tup ys) from⟨hz,xr,r',Zw.new _ _⟩)
   exact⟨.ref h'.objs.size,_,I2,rfl,q _ (I1.zp.fresh (bu _))⟩
 . obtain⟨xr,r',pl,hz⟩:=I.tuple hq
   exact call_tuple_same pl ⟨.ref p,H,I,rfl,q⟩
def tyV(K:Fg)(T:String)(x:V)(H:Hp):Prop:=match x with
 |.str _=>T = "str"|.int _=>T = "int"
 |.ref p=>(T = "list"/\∃xs,G9 K H p xs)\/(T = "tuple"/\∃o,K.lookup p=some o/\o.cls=.type "tuple"/\o.dict=none) \/
  (T = "dict"/\((∃gw,H p=some (.dK gw))\/∃gw,H p=some (.dT gw)))\/(T = "set"/\∃S n,H p=some (.set S n))
 |_=>False
def azo(I:Inv X pins σ H s)(r:RelV x v)(ty:tyV X.K T x H) :
 s.TypeIs v T/\∀a,v=.ref a->∃ob,s.heap.get? a=some ob/\ob.dict=none:=by
 cases x with
 |str z =>
  obtain⟨t,rfl⟩:=r;cases(show T = "str" from ty);exact⟨typeIs_str s z t,λ_ e=>nomatch e⟩
 |int i =>
  obtain⟨t,rfl⟩:=r;cases(show T = "int" from ty);exact⟨typeIs_int s i t,λ_ e=>nomatch e⟩
 |ref p =>
  cases r;rcases ty with⟨rfl,xs,hq⟩|⟨rfl,o,hk,hc,hd⟩|⟨rfl,hk⟩|⟨rfl,S,n,hk⟩
  . obtain⟨xr,_,pl,_⟩:=I.list hq
    refine⟨pl.isList.typeIs,λa e=>?_⟩;cases e;obtain⟨o,n,e,c,hd,_⟩:=pl;exact⟨o,e,hd⟩
  . refine⟨⟨o,I.Rj p o hk,hc⟩,λa e=>?_⟩
    cases e;exact⟨o,I.Rj _ o hk,hd⟩
  . have z:∃o,s.heap.get? p=some o/\o.ExactDict:=by
     rcases hk with⟨gw,hk⟩|⟨gw,hk⟩
     . obtain⟨_,_,_,_,o,_,_,e,ex,_⟩:=I.zp p _ hk
       exact⟨o,e,ex⟩
     . obtain⟨_,_,_,_,o,_,_,e,ex,_⟩:=I.zp p _ hk
       exact⟨o,e,ex⟩
    obtain⟨o,e,ex⟩:=z;refine⟨⟨o,e,ex.1⟩,λa e2=>?_⟩;cases e2;exact⟨o,e,ex.2.1⟩
  . obtain⟨o,_,_,_,e,ex,_⟩:=I.zp p _ hk
    refine⟨⟨o,e,ex.1⟩,λa e2=>?_⟩;cases e2;exact⟨o,e,ex.2.1⟩
 |_=>exact False.elim ty
def tBM(K:Fg)(T:String)(r:V->List V->Hp->VK->Prop)(to:TE)(t:TA):TE:=fun σ H Q=>to σ H λx H1=>tyV K T x H1/\t σ H1 λxs H2=>r x xs H2 Q
theorem a6f{id:String}(pa:PlainAttrs T)(slot:Slot T name id)(hty:typeOf (.builtin id)=pure (.type "method_descriptor"))(hm:MtR X id r)(ho:PE X o to)(ha:PA X (e::es) t)(anl:attributeBase o name X.env (eval o X.env)=eval o X.env:=by rfl)(azp:((backTo Vl (starEach (e::es) X.env)).all (λx=>!x.1)&&(backToKw Vl (keywordEach [] X.env)).all (λx=>x.1.isSome)
&&decide ((e::es).length+([]:List Keyword).length+(if([]:List Keyword).isEmpty then 0 else 1)<30))=true:=by rfl)(anm:(apos.endLine==Vl.line)=true:=by rfl)(hs:starEach (e::es) X.env=(false,eval e X.env)::starEach es X.env:=by rfl)(afe:(backTo Vl (starEach es X.env)).any (·.1)=false:=by rfl) :
 PE X (.Call (.Attribute o name apos) (e::es) [] Vl) (tBM X.K T r to t):=by
 intro pins s σ H Q I h;refine wpAny_Call_method_late anl azp anm rfl (Ar (ho pins s σ H _ I h) λv s1 z_=>?_);obtain⟨x,H1,I1,r1,ty,q1⟩:=z_;obtain⟨h1,h2⟩:=azo I1 r1 ty;refine⟨T,id,pa,slot,hty,h1,h2,?_⟩;have hA:=ha Vl pins s1 σ H1 _ I1 q1;rw[hs] at hA ⊢;refine Calls.callWith_builtin (by show(false||(backTo Vl (starEach es X.env)).any (·.1))=false;rw[afe]<;>rfl) (Calls.evalArgs_plain ?_);exact Ar hA λus s2 ⟨vs,H2,I2,r2,q2⟩=>hm pins s2 σ H2 x vs v us Q I2 r1 r2 q2
end L2
namespace L2
open PySem PySem.Spec PyProof.Rows
def MtM(X:Cx)(id:String)(r:V->List V->Hp->VK->Prop):Prop :=
 ∀(pins:Zp)(s:Shared)(σ:St)(H:Hp)(x:V)(xs:List V)(v:Value)(us:Zl)(Q:VK),Inv X pins σ H s->RelV x v->Vals xs us->r x xs H Q ->
  wpAny (model X.prog X.w) X.A (call (.builtin id) (v::us)) (EP X pins σ Q) X.xe s
theorem Vals.one:∀{x:V}{us:Zl},Vals [x] us->∃u,us=[u]/\RelV x u
 |_,_,.cons r .nil=>⟨_,rfl,r⟩
def Inv.a6g{xr:Zl}(I:Inv X pins σ H s)(hH:H l=some (.lst xs))(e:s.heap.get? l=some { cls:=.type "list",data:=.seq xr.toArray n })(hf:f xr.toArray=its'.toArray)(hv:Vals ys its')(hz:ys.length<=sizeLine) :
 Inv X pins σ (upd H l (.lst ys)) { s with heap:=s.heap.update l (Obj.mapSeq f),toks:=t' }:=by
 have q:=PySem.IsL.update e f;rw[hf] at q;refine I.write (x:=l) (e:=l) (by rw[hH];exact trivial) (.inl rfl) (λb' u hb hu=>(uf s.heap (Obj.mapSeq f) (jx hb)).trans hu) ⟨_,q⟩ ?_;exact⟨hz,its',_,hv,q⟩
def Inv.bcs(I:Inv X pins σ H s)(hv:Vals ys xr)(hz:ys.length<=sizeLine) :
 Inv X pins σ (upd H s.heap.objs.size (.lst ys)) { s with heap:=s.heap.push { cls:=.type "list",data:=.seq xr.toArray },toks:=t' } :=
 I.laid (λ_ _ q=>aq _ q) (bu _) ⟨hz,xr,0,hv,bh _ rfl⟩
theorem Inv.fresh(I:Inv X pins σ H s):H s.heap.objs.size=none:=I.zp.fresh (bu _)
def Inv.ajo(I:Inv X pins σ H s)(hH:H l=some (.lst xs)):xs.length<=sizeLine/\∃(xr:Zl)(n:Nat),Vals xs xr/\xs.length=xr.length/\s.heap.get? l=some { cls:=.type "list",data:=.seq xr.toArray n }:=by obtain⟨z,xr,n,r,e⟩:=I.zp l _ hH;exact⟨z,xr,n,r,r.length,e⟩
def ano(h:n<=sizeLine):Builtin.List.listTooLong n=false:=by unfold Builtin.List.listTooLong;exact v9 (j_ h)
def as7:V->List V->Hp->VK->Prop:=λx vs H Q=>∃l xs y,x=.ref l/\vs=[y]/\H l=some (.lst xs)/\xs.length<sizeLine/\Q .non (upd H l (.lst (xs++[y])))
def Yh:MtM X "list.append" as7:=by intro pins s σ H x vs v us Q I rx rv h;obtain⟨l,xs,y,rfl,rfl,hH,hz,q⟩:=h;cases rx;obtain⟨u,rfl,ru⟩:=rv.one;obtain⟨z,xr,n,r,hl,e⟩:=I.ajo hH;refine call_meets F.slot_list_append ⟨_,e,rfl⟩ F.entry_list_append (F.args_list_append_2 _ _) (PySem.list_append l xr.toArray n u (by rw[gr];exact e_ (c_ (g_ hl) hz))) ⟨e,?_⟩;refine⟨.non,_,I.a6g (its':=xr++[u]) hH e (by simp) (r.append (.cons ru .nil)) ?_,rfl,q⟩;rw[qz,List.length_singleton];exact hz
def as8:V->List V->Hp->VK->Prop:=λx vs H Q=>∃l b xs zs,x=.ref l/\vs=[.ref b]/\H l=some (.lst xs)/\H b=some (.lst zs)/\xs.length+zs.length<=sizeLine/\Q .non (upd H l (.lst (xs++zs)))
def ajp:MtM X "list.extend" as8:=by
 intro pins s σ H x vs v us Q I rx rv h;obtain⟨l,b,xs,zs,rfl,rfl,hH,hB,hz,q⟩:=h;cases rx;obtain⟨u,rfl,ru⟩:=rv.one;cases ru;obtain⟨z,xr,n,r,hl,e⟩:=I.ajo hH;obtain⟨z2,afg,n2,r2,hl2,e2⟩:=I.ajo hB;have hsz:xr.toArray.size+afg.toArray.size<=sizeLine:=by rw[gr,gr];lia
 have a6h:¬(!xr.toArray.isEmpty&&Builtin.List.listTooLong (xr.toArray.size+afg.toArray.size))=true:=by rw[ano hsz,Bool.and_false];exact iu
 refine call_meets F.slot_list_extend ⟨_,e,rfl⟩ F.entry_list_extend (F.args_list_extend_2 _ _)
  (AutoSeq1.list_extend_list_list_0 l xr.toArray n b afg.toArray n2 a6h (by rw[gr];exact a_ (g_ hl) z) (a_ hsz x_)) ⟨e,e2,?_⟩
 refine⟨.non,_,I.a6g (its':=xr++afg) hH e (by simp) (r.append r2) ?_,rfl,q⟩;rw[qz];exact hz
def a6i:R2:=λx y H Q=>∃l b xs zs,x=.ref l/\y=.ref b/\H l=some (.lst xs)/\H b=some (.lst zs)/\xs.length+zs.length<=sizeLine/\∀p,H p=none->Q (.ref p) (upd H p (.lst (xs++zs)))
def anp:Ca X (binaryOp .Add) a6i:=by
 intro pins s σ H x y v u Q I rx ry h;obtain⟨l,b,xs,zs,rfl,rfl,hH,hB,hz,q⟩:=h;cases rx;cases ry;obtain⟨z,xr,n,r,hl,e⟩:=I.ajo hH;obtain⟨z2,afg,n2,r2,hl2,e2⟩:=I.ajo hB;refine PySem.P.add_list e e2 ?_ (by rw[gr,gr];lia);have ea:xr.toArray++afg.toArray=(xr++afg).toArray:=by simp
 rw[ea];exact⟨.ref _,_,I.bcs (t':=s.toks) (r.append r2) (by rw[qz];exact hz),rfl,q _ I.fresh⟩
end L2
namespace Att
open PySem PySem.W PySem.Calls PyProof.Rows
def T8:∀(ns:Xs)(vs:Zl),WellAll P h vs (ns.map WData.int)->IntsAre vs ns:=by
 intro ns
 induction ns with
 |nil =>
  intro vs w;rw[List.map_nil] at w;cases w;exact .nil
 |cons n ns ih =>
  intro vs w;rw[gm] at w;cases w with
  |cons a b =>
   cases a;exact .cons _ _ (ih _ b)
def ajq{l:OpenLaw}(hn:l.most=some n)(as9:l.row.toRowW.claim.pre args=true)(hwl:WellAll P h vals args) :
 ∃a vs ns,vals=[Value.ref a]/\args=[WData.list (ns.map WData.int)]/\h.get? a=some { cls:=.type "list",data:=.seq vs.toArray }/\IntsAre vs ns/\ns.length<=n:=by
 have hsh:WShape.hasAll [] args [.list .int]=true:=(pre_splitW as9).1;have hc:l.pre.holds [] { args:=args }=true:=(pre_splitW as9).2;obtain⟨d,r,rfl,h1,h2⟩:=hasAllW_cons hsh;obtain rfl:=hasAllW_nil h2;obtain⟨xs,rfl,h3⟩:=hasW_list h1;obtain⟨ns,rfl⟩:=items_int h3;have hlen:ns.length<=n:=by
  unfold OpenLaw.pre at hc;have h4:(WTm.not (.lt (.lit (.int (n:Int))) (.len (.arg 0)))).holds [] { args:=[.list (ns.map .int)] }=true:=by have h4:=(holds_andW hc).1;rw[hn] at h4;exact h4
  have h5:=condW_of h4 (w_not (w_lt w_lit (w_len_list (w_arg rfl))));rw[du] at h5;refine Nat.le_of_not_lt λq=>?_
  have q':(n:Int)<((ns.length:Nat):Int):=m_ q
  first
   |(rw[decide_eq_true q'] at h5;exact absurd h5 (by decide))
   |(simp at h5;omega)
 cases hwl with
 |cons w1 w2 =>
  cases w2;cases w1 with
  |list ho Cm=>exact⟨_,_,ns,rfl,rfl,ho,T8 ns _ Cm,hlen⟩
def ajr(l:OpenLaw)(args:List WData):l.row.toRowW.claim.post args (.bool true) args=true :=
 postW_of (r:=l.row.toRowW) (X:=(true==true))
  (show WShape.has [] (.bool true) .bool=true by first|rfl|decide|simp[WShape.has,WShape.arms,WShape.armsAll])
  (show(WTm.eq .res (.lit (.bool true))).value [] { args:=args,res:=some (.bool true),after:=args }=some (.bool (true==true)) from w_eq_bool (w_res rfl) w_lit) rfl
def ab1{l:OpenLaw}(hn:l.most=some n)(hdf:d.params.defaults=[])(call:∀(w:World) (s₀ s₁:Shared) (mg mb:Zs) (fa:Addr) (o:Obj) (pm cd doc:Value) (a:Addr) (vs:Zl) (ns:Xs),
 Ground q loose [] XP w s₀ mg mb s₁.heap->YP w s₁.heap ->
 s₁.heap.get? fa=some o->o.data=.func (docDef d.name d.params d.body d.scope pm cd doc)->s₁.heap.CodeRec cd d.name->mg d.name=some (.ref fa) ->
 s₁.heap.get? a=some { cls:=.type "list",data:=.seq vs.toArray }->IntsAre vs ns->ns.length<=n->s₁.gens=#[] ->
 codeAny (model l.prog w) callerA (.call (.ref fa) ⟨[.ref a],[]⟩) (λr s'=>r=.ok (.ret (.bool true))/\OldK s₁.heap s'.heap/\s'.os=s₁.os/\AllBare s'.gens) s₁) :
 WalkO q loose XP YP l.row.toRowW d [] (λf vs=>PySem.call f vs):=by
 intro w s₀ s₁ mg mb G Y fa o pm cd doc dV kV ho hd hcd hD hmg hg args vals as as9 biv hrd hwl hlo;obtain rfl:dV=.none:=Dflts.none hD hdf;obtain rfl:kV=.none:=Dflts.noKw hD;obtain⟨a,vs,ns,rfl,rfl,azq,hints,hlen⟩:=ajq hn as9 hwl;refine enter_call (vq (call w s₀ s₁ mg mb fa o pm cd doc a vs ns G Y ho (fd_plain hd) hcd hmg azq hints hlen hg) λr s' hq=>?_);obtain⟨rfl,h2,h3,h4⟩:=hq;exact⟨.inl ⟨.bool true,.bool true,[],rfl,λ_=>rfl,.bool true,ajr l _,λ_=>⟨List.Pairwise.nil,λ_ hm=>(nomatch hm)⟩⟩,h2,h3,h4⟩
end Att
namespace L2
open PySem PySem.Spec PyProof.Rows
theorem Yi:∀{vs:Zl}{ns:Xs},IntsAre vs ns->Vals (ns.map V.int) vs
 |_,_,.nil=>.nil|_,_,.cons n t h=>.cons ⟨t,rfl⟩ (Yi h)
def Only(H:Hp):Prop:=∀b,H b=none\/∃o xs,H b=some (.Mj o (.lst xs))
def anq{K:Fg}(KX:K.In s₁.heap)(hns:s₁.heap.Ns mainGlobals mg)(hb:s₁.heap.Ns builtinsNs mb)(hbb:∀x:Str,x≠"__name__" -> mb x=bootBuiltins x)(bcv:s₁.heap.NoLimit)(hg:s₁.gens=#[])(ha:s₁.heap.get? a=some { cls:=.type "list",data:=.seq vs.toArray })(hi:IntsAre vs ns)(hl:ns.length<=sizeLine)(hr:zm k callerA)(F:∀base:Heap,K.In base->base.Ns mainGlobals mg->Eh P w K mg base CX k fa fd [x] sp)(a6l:∀(s:Shared) (u:Value),BindsTo s fd ⟨[u],[]⟩ [(x,u)])(hsp:∀H:Hp,Only H->G9 K H a (ns.map V.int)->sp [.ref a] H (λv _=>v=.bl true) λ_ _ _=>False)(hCX:∀H e s',CX [] H s₁ (λ_ _ _=>False) e s'->False) :
 codeAny (model P w) callerA (.call (.ref fa) ⟨[.ref a],[]⟩) (λr s'=>r=.ok (.ret (.bool true))/\OldK s₁.heap s'.heap/\s'.os=s₁.os/\AllBare s'.gens) s₁:=by
 have rv:=Yi hi;have lenV:=hi.length;have core:∀H:Hp,Only H->G9 K H a (ns.map V.int)->N8 P w H s₁.heap->(∀b,H b≠none->b=a)->(H a≠none->K.lookup a=none) ->
  codeAny (model P w) callerA (.call (.ref fa) ⟨[.ref a],[]⟩) (λr s'=>r=.ok (.ret (.bool true))/\OldK s₁.heap s'.heap/\s'.os=s₁.os/\AllBare s'.gens) s₁:=by
  intro H hO hS zp hA hK;have Ga:∀{b:Addr}{o:Obj},s₁.heap.get? b=some o->H b=none->(Zy s₁.heap H).get? b=some o:=λe n=>amn e n
  have noA:∀{b:Addr}{o:Obj}{es:Array DictEntry}{ep:Nat},s₁.heap.get? b=some o->o.data=.dict es ep->H b=none:=fun{b o es ep} e d=>by
   cases q:H b with
   |none=>rfl
   |some u =>
    have e':b=a:=hA b (by rw[q];simp);subst e';rw[ha] at e;cases e;have d':Data.seq vs.toArray _=Data.dict es ep:=d;cases d'
  have nsK:∀{b:Addr}{m:Zs},s₁.heap.Ns b m->(Zy s₁.heap H).Ns b m:=fun{b m} ⟨o,es,ep,e,d,r⟩=>⟨o,es,ep,Ga e (noA e d),d,r⟩
  have hKb:K.In (Zy s₁.heap H):=λb o e=>Ga (KX b o e) (by
   cases q:H b with
   |none=>rfl
   |some u =>
    have e':b=a:=hA b (by rw[q];simp);subst e';rw[hK (by rw[q];simp)] at e;cases e)
  have hM:Mod K mg (Zy s₁.heap H):=⟨hKb,nsK hns,⟨mb,nsK hb,hbb⟩,let ⟨mc,h1,h2⟩:=bcv;⟨mc,nsK h1,h2⟩⟩;have e0:ae9 P w K mg (Zy s₁.heap H) callerA [] s₁ H:=⟨rfl,hM,λb o e=>asa e,Nat.le_of_eq (ajb _ _),trivial,λb hb=>absurd (show b∈([]:X9) from hb) (by simp),zp,.of_eq hg⟩;refine vq ((F _ hKb (nsK hns)).run callerA [] s₁ H ⟨[.ref a],[]⟩ [.ref a] [.ref a] _ _ hr e0 (a6l s₁ (.ref a)) (.cons rfl .nil) (hsp H hO hS)) λr s' h=>?_
  cases r with
  |error e=>exact(hCX H e s' h).elim
  |ok fl =>
   cases fl with
   |next=>exact False.elim h|brk=>exact False.elim h|cont=>exact False.elim h
   |ret u =>
    obtain⟨v,H',os,bare,un,bcx,r',q⟩:=h;have q':v=.bl true:=q;subst q';obtain rfl:u=Value.bool true:=r';refine⟨rfl,OldK.of_keep λb o e=>?_,os,bare⟩;cases q:H b with
    |none=>exact un.keep b o e q (by intro z;exact absurd (show b∈([]:X9) from z) (by simp)) (by simp)
    |some u =>
     rcases hO b with z|⟨ob,xs,z⟩
     . rw[q] at z;cases z
     . have z2:=un.Zx b ob _ z
       obtain⟨e1,_⟩:=zp b _ z;obtain⟨e2,_⟩:=bcx b _ z2;rw[e] at e1;cases e1;exact e2
 cases hk:K.lookup a with
 |some o =>
  have e:=KX a o hk;rw[ha] at e;cases e;refine core (λ_=>none) (λ_=>.inl rfl) (.inr ⟨_,vs.toArray,_,hk,rfl,rfl,rfl,by rw[gr,lenV];exact hl,by simpa using rv⟩) (λb u z=>by have z':(none:Option HO)=some u:=z;cases z') (λb z=>absurd rfl z) λz=>absurd rfl z
 |none =>
  refine core (λb=>if b=a then some (.Mj { cls:=.type "list",data:=.seq vs.toArray } (.lst (ns.map V.int))) else none) (λb=>?_) (.inl (.inr ⟨{ cls:=.type "list",data:=.seq vs.toArray },cj rfl⟩)) (λb u z=>?_) (λb z=>?_) λ_=>hk
  . by_cases hb:b=a
    . exact .inr ⟨_,_,cj hb⟩
    . exact .inl (bw hb)
  . by_cases hb:b=a
    . have z':=(cj hb).symm.trans z
      cases z';subst hb;exact⟨ha,by rw[du];exact hl,vs,_,rv,ha⟩
    . have z':=(bw hb).symm.trans z
      cases z'
  . by_cases hb:b=a
    . exact hb
    . exact absurd (bw hb) z
end L2
namespace L2
open PySem PySem.Spec PyProof.Rows
def ata{l:PySem.W.OpenLaw}{K:Params->Fg}{CX:World->CXT}{sp:World->Sp}(hn:l.most=some n)(W2:n<=sizeLine)(hdf:d.params.defaults=[])(hr:zm k callerA)(hY:∀(w:World) (h:Heap),YP w h->(K w.params).In h)(F:∀(w:World) (mg:Zs) (fa:Addr) (h:Heap),(K w.params).In h->h.Ns mainGlobals mg->mg d.name=some (.ref fa) ->
 ∃fd:FuncData,(∀(s:Shared) (u:Value),BindsTo s fd ⟨[u],[]⟩ [(x,u)]) /\
  ∀base:Heap,(K w.params).In base->base.Ns mainGlobals mg->Eh l.prog w (K w.params) mg base (CX w) k fa fd [x] (sp w))(hsp:∀(w:World) (H:Hp) (a:Addr) (ns:Xs),ns.length<=n->Only H->G9 (K w.params) H a (ns.map V.int)->sp w [.ref a] H (λv _=>v=.bl true) λ_ _ _=>False)(hCX:∀(w:World) (H:Hp) (s:Shared) (e:Value) (s':Shared),CX w [] H s (λ_ _ _=>False) e s'->False) :
 PySem.W.WalkO q loose XP YP l.row.toRowW d [] (λf vs=>PySem.call f vs):=by
 refine Att.ab1 hn hdf λw s₀ s₁ mg mb fa o pm cd doc a vs ns G Y ho hd hcd hmg azq hints hlen hg=>?_
 have KX:=hY w _ Y;obtain⟨fd,hb,hF⟩:=F w mg fa _ KX G.T.g hmg;exact anq KX G.T.g G.T.b G.T.builtins G.T.nolimit hg azq hints (gq hlen W2) hr hF hb (λH hO hS=>hsp w H a ns hlen hO hS) λH e s'=>hCX w H s₁ e s'
end L2
namespace L2
open PySem PySem.Spec PyProof.Rows
noncomputable def inClass(s:Stmt)(j:Nat):Stmt:=match s with
 |.ClassDef _ _ _ body _ _ _ _ _ _ _=>body.getD j (.Pass ⟨0,0,0,0⟩)|_=>.Pass ⟨0,0,0,0⟩
noncomputable def Hr(s:Stmt):Arguments:=match s with
 |.FunctionDef _ a _ _ _ _ _ _ _ _=>a|_=>{ posonlyargs:=[],args:=[],vararg:=none,kwonlyargs:=[],kw_defaults:=[],kwarg:=none,defaults:=[] }
noncomputable def Er(s:Stmt):List Stmt:=match s with
 |.FunctionDef _ _ b _ _ _ _ _ _ _=>b|_=>[]
noncomputable def Aj(s:Stmt):Scope:=match s with
 |.FunctionDef _ _ _ _ _ _ sc _ _ _=>sc|_=>{ kind:=.function,names:=[],isGenerator:=false,isCoroutine:=false }
abbrev Z9:CXT:=λ_ _ _ _ _ _=>False
abbrev E0:XK:=λ_ _ _=>False
def ag5:Passes Z9 X E0:=λ_ _ _ _ _ _ _ h=>h.elim
structure Fun(K:Fg)(x qual:Str)(st:Stmt)(f:Addr)(fd:FuncData):Prop where
 ex:∃(oc:Value)(od:Option Addr)(kV doc pm:Value)(an:Option Addr)(cdv ct:Value)(osl:Array (Option Value)),
  fd=PySem.W.fnOf x qual (Hr st) (Er st) (Aj st) .none kV doc pm an cdv ct/\K.lookup f=some ⟨oc,od,.func fd,osl⟩/\PySem.W.codeIn K cdv qual=true
 kp:PySem.W.keepIn K (.ref f)=true
def Fun.ok{K:Fg}{st:Stmt}(F:Fun K x qual st f fd)(S:Uk N ps (Aj st))(len:∀vs H Q E,sp vs H Q E->vs.length=ps.length)(ana:∀(cdv:Value) (A:Around) (outer:List Env) (s:Shared) (H:Hp) (vs:List V) (Q:VK) (E:XK),zm k (A.deeper (envOfC qual (Aj st) s.heap.objs.size f cdv))->sp vs H Q E ->
 ∃t,Qc (afb Z9 P w K mg base N qual (Aj st) f cdv A outer s H E).nox (Er st) t/\t { nx:=λ_ H'=>Q .non H',rt:=Q } (start N vs) H):Eh P w K mg base Z9 (k+1) f fd ps sp:=by
 obtain⟨oc,od,kV,doc,pm,an,cdv,ct,osl,rfl,lk,hcd⟩:=F.ex;refine a5w lk hcd S len λA outer s H vs Q E hr hsp=>?_
 obtain⟨t,h,q⟩:=ana cdv A outer s H vs Q E hr hsp;exact⟨t,h.nox,q⟩
def Fun.binds{K:Fg}{st:Stmt}(F:Fun K x qual st f fd)(h:∀(kV doc pm:Value) (an:Option Addr) (cdv ct:Value) (us:Zl),us.length=ps.length->bindArgs (PySem.W.fnOf x qual (Hr st) (Er st) (Aj st) .none kV doc pm an cdv ct) ⟨us,[]⟩=pure (ps.zip us)):Binds K fd ps []:=by obtain⟨oc,od,kV,doc,pm,an,cdv,ct,osl,rfl,lk,hcd⟩:=F.ex;exact .all (h kV doc pm an cdv ct)
def anr{K:Fg}{st:Stmt}{f:Addr}{oc:Value}{od an:Option Addr}{osl:Array (Option Value)}{kV doc pm cdv ct:Value}(l:K.lookup f=some ⟨oc,od,.func (PySem.W.fnOf x qual (Hr st) (Er st) (Aj st) .none kV doc pm an cdv ct),osl⟩)(c:PySem.W.codeIn K cdv qual=true)(k:PySem.W.keepIn K (.ref f)=true):Fun K x qual st f (PySem.W.fnOf x qual (Hr st) (Er st) (Aj st) .none kV doc pm an cdv ct):=⟨⟨oc,od,kV,doc,pm,an,cdv,ct,osl,rfl,l,c⟩,k⟩
def ab2{A:Around}{k:Nat}(hr:zm k A):A.units+1<cLine:=Nat.lt_of_le_of_lt (Nat.add_le_add_left (by decide:1<=64) _) hr.units
end L2
namespace L2
open PySem PySem.Spec PyProof.Rows
noncomputable def Ci(cells:Xt):List (Str×NameKind)->List (Str×Addr)->List (Str×Addr)
 |[],cs=>cs|(n,k)::r,cs=>Ci cells r (if k==.free then(n,(cells.lookup n).getD 0)::cs else cs)
theorem Ti{α β:Type}{f:α->β->Sem (ForInStep β)}{g:α->β->β}:∀{l:List α}(c:β),(∀x∈l,∀c,f x c=pure (.yield (g x c)))->forIn l c f=pure (l.foldl (λc x=>g x c) c)
 |[],c,_=>rfl
 |x::l,c,h=>by
  rw[List.forIn_cons,h x cz,pure_bind];exact Ti (g x c) λy hy=>h y (bc _ hy)
theorem Tj(cells:Xt):∀(l:X0)(cs:Xt),Ci cells l cs=l.foldl (λc x=>if x.2==.free then(x.1,(cells.lookup x.1).getD 0)::c else c) cs
 |[],_=>rfl|(n,k)::r,cs=>Tj cells r _
def Vm(h:∀y∈scope.names,y.2=.free->∃c,env.cells.lookup y.1=some c):closureFor scope env=pure (Ci env.cells scope.names []):=by
 simp only[closureFor];rw[Ti (g:=λx c=>if x.2==.free then(x.1,(env.cells.lookup x.1).getD 0)::c else c) [] (λx hx c=>by
  obtain⟨n,k⟩:=x
  by_cases hk:k=.free
  . subst hk
    obtain⟨c',hc⟩:=h (n,.free) hx rfl;have hc:env.cells.lookup n=some c':=hc;simp[cellOf,hc]
  . have hb:(k==NameKind.free)=false:=by simpa using hk
    simp[hb]),Tj]
 rfl
theorem ab3(cells:Xt):∀(l:X0)(cs:Xt)(x:Str)(c:Addr),(∀y∈l,y.2=.free->∃c,cells.lookup y.1=some c)->(Ci cells l cs).lookup x=some c ->
 cs.lookup x=some c\/cells.lookup x=some c
 |[],cs,x,c,_,h=>.inl h
 |(n,k)::r,cs,x,c,hy,h=>by
  rcases ab3 cells r _ x c (λz hz=>hy z (bc _ hz)) h with q|q
  . by_cases hk:k=.free
    . subst hk
      simp only[yq,ju,m6] at q;cases e:x==n with
      |true =>
       rw[e] at q;obtain⟨c',hc⟩:=hy (n,.free) cz rfl;have hc:cells.lookup n=some c':=hc;simp only[hc,Option.getD_some,Option.some.injEq] at q;subst q;rw[eq_of_beq e];exact .inr hc
      |false=>rw[e] at q;exact .inl q
    . have hb:(k==NameKind.free)=false:=by simpa using hk
      simp only[hb,cg,jd] at q;exact .inl q
  . exact .inr q
theorem Vn(cells:Xt):∀(l:X0)(cs:Xt)(x:Str),(∃c,cs.lookup x=some c)->∃c,(Ci cells l cs).lookup x=some c
 |[],cs,x,h=>h
 |(n,k)::r,cs,x,h=>by
  refine Vn cells r _ x ?_
  by_cases hk:(k==NameKind.free)=true
  . rw[cj hk,m6]
    cases e:x==n with
    |true=>exact⟨_,rfl⟩|false=>exact h
  . rw[bw hk];exact h
theorem Ro(cells:Xt):∀(l:X0)(cs:Xt)(x:Str),(x,NameKind.free)∈l->∃c,(Ci cells l cs).lookup x=some c
 |(n,k)::r,cs,x,h=>by
  rcases bx.mp h with q|q
  . obtain⟨rfl,rfl⟩:=Prod.mk.inj q
    refine Vn cells r _ x ⟨(cells.lookup x).getD 0,?_⟩;rw[cj (by simp),m6,yq]
  . exact Ro cells r _ x q
theorem Ms{env:Env}:∀{names:X0}{x:Str},
 (names.map λ(y:Str×NameKind)=>if(y.2==NameKind.free&&env.scope.kind==.function&&env.kindOf y.1==some .cell) then(y.1,NameKind.cell) else(y.1,y.2)).lookup x
  = (names.lookup x).map λk=>if(k==NameKind.free&&env.scope.kind==.function&&env.kindOf x==some .cell) then NameKind.cell else k
 |[],_=>rfl
 |(n,k)::r,x=>by
  have ih:=@Ms env r x;rw[gm];cases hx:x==n with
  |true =>
   have e:=eq_of_beq hx;subst e;clear hx
   by_cases hc:(k==NameKind.free&&env.scope.kind==.function&&env.kindOf x==some .cell)=true
   . simp only[hc,ju,m6,yq,u9]
   . have hb:(k==NameKind.free&&env.scope.kind==.function&&env.kindOf x==some .cell)=false:=by simpa using hc
     simp only[hb,cg,jd,m6,yq,u9]
  |false =>
   by_cases hc:(k==NameKind.free&&env.scope.kind==.function&&env.kindOf n==some .cell)=true
   . simp only[hc,ju,m6,hx];exact ih
   . simp only[hc,m6,hx];simpa[m6,hx] using ih
theorem mem_of_lookup{α β:Type}[BEq α][LawfulBEq α]:∀{l:List (α×β)}{x:α}{y:β},l.lookup x=some y->(x,y)∈l
 |(a,b)::r,x,y,h=>by
  rw[m6] at h;cases e:x==a with
  |true=>rw[e] at h;cases h;rw[eq_of_beq e];exact cz|false=>rw[e] at h;exact bc _ (mem_of_lookup h)
def Cj{α:Type}{v:α}{r:List (Str×α)}:((k,v)::r).lookup x=if x=k then some v else r.lookup x:=by
 rw[m6]
 by_cases h:x=k
 . rw[cj h,show(x==k)=true from beq_iff_eq.mpr h]
 . rw[bw h,show(x==k)=false from qe.mpr h]
set_option tactic.hygienic true in
theorem ag6:∀(l:X0)(n:Nat)(acc:Xt)(x:Str)(c:Addr),(cellsFrom n l acc).lookup x=some c->((x,NameKind.cell)∈l/\n<=c)\/acc.lookup x=some c
 |[],_,_,_,_,h=>.inr h
 |(k,kd)::r,n,acc,x,c,h=>by
  unfold cellsFrom at h;split at h
  . rename_i e
    rcases ag6 r _ _ x c h with⟨q,l⟩|q
    . exact .inl ⟨bc _ q,by omega⟩
    . rw[Cj] at q
      split at q
      . rename_i z
        cases q;exact .inl ⟨by rw[z,eq_of_beq e];exact cz,bu _⟩
      . exact .inr q
  . rcases ag6 r _ _ x c h with⟨q,l⟩|q
    . exact .inl ⟨bc _ q,l⟩
    . exact .inr q
set_option tactic.hygienic true in
theorem aaa:∀(l:X0)(n:Nat)(acc:Xt)(x:Str),((x,NameKind.cell)∈l\/∃c,acc.lookup x=some c)->∃c,(cellsFrom n l acc).lookup x=some c
 |[],_,_,_,h=>by rcases h with q|q;cases q;exact q
 |(k,kd)::r,n,acc,x,h=>by
  unfold cellsFrom;split
  . refine aaa r _ _ x ?_
    by_cases z:x=k
    . exact .inr ⟨n,by rw[Cj,cj z]⟩
    . rcases h with q|q
      . rcases bx.mp q with q|q
        . cases q;exact absurd rfl z
        . exact .inl q
      . exact .inr (by rw[Cj,bw z];exact q)
  . rename_i e
    refine aaa r _ _ x ?_;rcases h with q|q
    . rcases bx.mp q with q|q
      . cases q;exact absurd rfl e
      . exact .inl q
    . exact .inr q
set_option tactic.hygienic true in
theorem ant:∀(l:X0)(n:Nat)(acc:Xt)(x:Str),(x,NameKind.cell)∉l->(cellsFrom n l acc).lookup x=acc.lookup x
 |[],_,_,_,_=>rfl
 |(k,kd)::r,n,acc,x,h=>by
  have h2:(x,NameKind.cell)∉r:=λq=>h (bc _ q)
  unfold cellsFrom;split
  . rename_i e
    rw[ant r _ _ x h2,Cj,bw];intro z;exact h (by rw[z,eq_of_beq e];exact cz)
  . exact ant r _ _ x h2
set_option tactic.hygienic true in
theorem afh:∀(l:X0)(n:Nat)(acc:Xt),(∀x c,acc.lookup x=some c->c<n)->(∀x y c,acc.lookup x=some c->acc.lookup y=some c->x=y)->∀x y c,(cellsFrom n l acc).lookup x=some c->(cellsFrom n l acc).lookup y=some c->x=y
 |[],_,_,_,h=>h
 |(k,kd)::r,n,acc,lt,h=>by
  unfold cellsFrom;split
  . refine afh r _ _ (λx c q=>?_) (λx y c q1 q2=>?_)
    . rw[Cj] at q
      split at q
      . cases q;exact m9 n
      . exact o5 (lt x c q)
    . rw[Cj] at q1 q2
      split at q1<;>split at q2
      . rename_i a b;rw[a,b]
      . cases q1;exact absurd (lt y _ q2) (lq _)
      . cases q2;exact absurd (lt x _ q1) (lq _)
      . exact h x y c q1 q2
  . exact afh r _ _ lt h
set_option tactic.hygienic true in
theorem aab:∀(l:X0)(h:Heap)(acc:Xt),(∀x c,acc.lookup x=some c->∃v,h.IsCell c v)->∀x c,(cellsFrom h.objs.size l acc).lookup x=some c->∃v,(pushCells h l).IsCell c v
 |[],_,_,k,x,c,q=>k x c q
 |(n,kd)::r,h,acc,k,x,c,q=>by
  unfold cellsFrom at q;unfold pushCells;split at q
  . rename_i e
    rw[cj e];have sz:(h.push { cls:=.type "cell",data:=.cell none }).objs.size=h.objs.size+1:=ie _ _;rw[<- sz] at q;refine aab r _ _ (λx c q=>?_) x c q;rw[Cj] at q;split at q
    . cases q;exact⟨none,_,bh _ rfl,rfl⟩
    . obtain⟨v,hv⟩:=k x c q
      exact⟨v,hv.keeps λb o e=>aq _ e⟩
  . rename_i e
    rw[bw e];exact aab r _ _ k x c q
set_option tactic.hygienic true in
theorem Vo(cells:Xt):∀(l:X0)(cs:Xt)(x:Str)(c:Addr),(Ci cells l cs).lookup x=some c->(x,NameKind.free)∈l\/cs.lookup x=some c
 |[],_,_,_,h=>.inr h
 |(k,kd)::r,cs,x,c,h=>by
  unfold Ci at h;rcases Vo cells r _ x c h with q|q
  . exact .inl (bc _ q)
  . split at q
    . rename_i e
      rw[Cj] at q;split at q
      . rename_i z
        exact .inl (by rw[z,eq_of_beq e];exact cz)
      . exact .inr q
    . exact .inr q
def ajs(h:Q { scope:=scope,locals:=s.heap.objs.size,globals:=globals,cells:=cellsFrom (s.heap.objs.size+1) scope.names cl,qual:=qual,func:=none,code:=around.code,frame:=around.frame,builtins:=around.builtins } { s with heap:=pushCells (s.heap.push { cls:=.type "dict",data:=.dict #[] }) scope.names }) :
 wpAny M A (newFunctionEnv scope globals cl [] qual none .none (some around)) Q E s:=by
 simp only[newFunctionEnv,Option.isSome_some,ju];refine aa (wpAny_alloc ?_);refine aa (wpAny_layCells _ (λname kind cells=>by cases hkc:kind==NameKind.cell<;>simp[hkc]) _ _ _ _ ?_);rw[show({ s with heap:=s.heap.push { cls:=.type "dict",data:=.dict #[] } }:Shared).heap.objs.size=s.heap.objs.size+1 from ie ..];exact aa (aj (aj h))
noncomputable def Ko(X:Cx)(N:Yf)(scope:Scope)(C:Addr)(fp:X9)(s:Shared)(H:Hp):Cx where
 prog:=X.prog
 w:=X.w
 K:=X.K
 mg:=X.mg
 base:=X.base
 A:=X.A
 N:=N
 s₀:=s
 H₀:=H
 env:=compEnvC scope (cellsFrom (C+1) scope.names (Ci X.env.cells scope.names [])) C X.env
 outer:=X.stack
 stack:=X.stack
 ex:=fp
 fn:=λx=>scope.names.lookup x==some .cell
 calm:=X.calm
 pn:=[]
 xe:=λ_ _=>False
structure Dn(X:Cx)(N:Yf)(scope:Scope):Prop where
 kind:scope.kind=.function
 locs:∀y∈scope.names,y.2=.local->scope.names.lookup y.1=some .local
 frees:∀y∈scope.names,y.2=.free->X.env.kindOf y.1=some .cell\/X.env.kindOf y.1=some .free
 uniq:∀x k,(x,k)∈scope.names->scope.names.lookup x=some k
 long:X.N.length<=N.length
 vis:∀i x,i<X.N.length->N[i]?=some x->Vis (relabel scope X.env) x->X.N[i]?=some x/\scope.names.lookup x=some .free
theorem Dn.cells(B:Dn X N scope)(ok:X.Ok):∀y∈scope.names,y.2=.free->∃c,X.env.cells.lookup y.1=some c:=λy hy hk=>ok.has y.1 (B.frees y hy hk)
def Dn.clos(B:Dn X N scope)(ok:X.Ok):closureFor scope X.env=pure (Ci X.env.cells scope.names []):=Vm (B.cells ok)
def Dn.inCells(B:Dn X N scope)(ok:X.Ok)(h:(Ci X.env.cells scope.names []).lookup x=some c):X.env.cells.lookup x=some c:=by
 rcases ab3 _ _ _ _ _ (B.cells ok) h with q|q
 . simp at q
 . exact q
def ab4{X:Cx}(x:Str):(compEnvC scope cl C X.env).kindOf x=(scope.names.lookup x).map λk=>if(k==NameKind.free&&X.env.scope.kind==.function&&X.env.kindOf x==some .cell) then NameKind.cell else k:=by show(relabel scope X.env).names.lookup x=_;exact Ms
def Dn.afi(B:Dn X N scope)(ok:X.Ok)(h:(cellsFrom (C+1) scope.names (Ci X.env.cells scope.names [])).lookup x=some c):(scope.names.lookup x=some .cell/\C+1<=c)\/X.env.cells.lookup x=some c:=by
 rcases ag6 _ _ _ _ _ h with⟨q,l⟩|q
 . exact .inl ⟨B.uniq _ _ q,l⟩
 . exact .inr (B.inCells ok q)
def ajt(B:Dn X N scope)(I:Inv X pins σ H s)(hf:∀b∈fp,T6 X pins H b)(hfo:∀b∈fp,∃o,s.heap.get? b=some o)(hns:h₁.Ns (s.heap.objs.size+1) λ_=>none)(hk:∀b o,s.heap.get? b=some o->h₁.get? b=some o)(Dq:h₁.get? s.heap.objs.size=some { cls:=.type "list",data:=.seq ([]:Zl).toArray })(hcl:∀x c,(cellsFrom (s.heap.objs.size+1+1) scope.names (Ci X.env.cells scope.names [])).lookup x=some c->∃v,h₁.IsCell c v) :
 Inv (Ko X N scope (s.heap.objs.size+1) fp s H) [] (σ++List.replicate (N.length-X.N.length) none) (upd H s.heap.objs.size (.lst [])) { s with heap:=h₁,toks:=t }:=by
 have ok:=I.ok;have hD:H s.heap.objs.size=none:=I.zp.fresh (bu _);have hC:H (s.heap.objs.size+1)=none:=I.zp.fresh (vf _);have hCD:s.heap.objs.size+1≠s.heap.objs.size:=Nat.succ_ne_self _;have lt:∀b∈fp,b<s.heap.objs.size:=λb hb=>by obtain⟨o,e⟩:=hfo b hb;exact az e
 have clt:∀x c,X.env.cells.lookup x=some c->c<s.heap.objs.size:=λx c e=>by obtain⟨v,o,ho,_⟩:=I.cell x c e;exact az ho
 refine⟨⟨ok.mod,B.kind,ok.glob,ok.blt,vf _,?_,?_,?_,ok.hd,ok.frames,.inl rfl,?_,λb o e=>I.bs b o e,gq ok.bsz I.sz,?_,?_,I.stack,I.agu⟩,rfl,I.bare,?_,?_,?_,?_,?_,?_,?_,?_⟩
 . intro x y c hx hy
   refine afh scope.names (s.heap.objs.size+1+1) (Ci X.env.cells scope.names []) (λx c q=>?_) (λx y c q1 q2=>ok.inj x y c (B.inCells ok q1) (B.inCells ok q2)) x y c hx hy;exact o5 (o5 (clt x c (B.inCells ok q)))
 . intro x hx
   rw[show(Ko X N scope (s.heap.objs.size+1) fp s H).env.kindOf x=_ from ab4 x] at hx;cases e:scope.names.lookup x with
   |none=>rw[e] at hx;rcases hx with q|q<;>simp at q
   |some k =>
    have Oa:k=.free\/k=.cell:=by
     rw[e] at hx;cases k with
     |free=>exact .inl rfl|cell=>exact .inr rfl|«local»=>rcases hx with q|q<;>simp at q
     |globalExplicit=>rcases hx with q|q<;>simp at q
     |globalImplicit=>rcases hx with q|q<;>simp at q
    rcases Oa with rfl|rfl
    . exact aaa _ _ _ _ (.inr (Ro _ _ _ _ (mem_of_lookup e)))
    . exact aaa _ _ _ _ (.inl (mem_of_lookup e))
 . intro x c h hc
   have h:scope.names.lookup x=some .cell:=eq_of_beq h;show s.heap.objs.size<=c
   rcases ag6 _ _ _ _ _ hc with⟨_,l⟩|q
   . exact gq (wy _ 2) l
   . rcases Vo _ _ _ _ _ q with z|z
     . rw[B.uniq _ _ z] at h;cases h
     . cases z
 . intro b hb
   refine⟨λe=>?_,λx c hc e=>?_⟩
   . have q:=lt b hb
     have e:b=s.heap.objs.size+1:=e;rw[e] at q;exact absurd q (Nat.not_lt.mpr (vf _))
   . obtain⟨_,_,_,_,f4,_⟩:=hf b hb
     rcases B.afi ok hc with⟨_,l⟩|hc
     . have q:=lt b hb
       rw[<- e] at q;exact absurd (gh (o5 (o5 q)) l) (lq _)
     . exact f4 x c hc e
 . intro b o e hb
   obtain⟨_,_,_,f3,_⟩:=hf b hb;rcases f3 with q|q
   . exact ok.amq b o e q
   . exact lq _ (gh (az e) (gq ok.bsz q))
 . intro b hb q
   obtain⟨_,f1,f2,_⟩:=hf b hb;rcases bx.mp (I.Zz b q) with z|z
   . exact f1 z
   . exact f2 z
 . exact Un.laid hk (bu _) hD
 . refine⟨_,hns,λi x v hN hσ hv=>?_⟩
   have hi:i<X.N.length:=by
    rcases xj i σ.length with q|q
    . rw[I.len] at q;exact q
    . rw[jf q] at hσ
      rw[List.getElem?_replicate] at hσ;split at hσ<;>simp at hσ
   rw[dz (by rw[I.len];exact hi)] at hσ;obtain⟨hx,Oa⟩:=B.vis i x hi hN hv;obtain⟨m,_,hl⟩:=I.loc;have hkx:=B.frees _ (mem_of_lookup Oa) rfl;have hvx:Vis X.env.scope x:=by
    rcases hkx with q|q
    . exact .inr (.inl q)
    . exact .inr (.inr q)
   obtain⟨u,ru,lu⟩:=hl i x v hx hσ hvx;refine⟨u,ru,.inr ⟨?_,?_⟩⟩
   . rw[show(Ko X N scope (s.heap.objs.size+1) fp s H).env.kindOf x=_ from ab4 x,Oa]
     simp only[u9];split
     . exact .inl rfl
     . exact .inr rfl
   . rcases lu with⟨q,_⟩|⟨_,c,hc,ic⟩
     . rcases hkx with z|z<;>rw[q] at z<;>cases z
     . obtain⟨c',hc'⟩:=Ro X.env.cells scope.names [] x (mem_of_lookup Oa)
       have:=B.inCells ok hc';rw[hc] at this;cases this;refine⟨c,?_,ic.keeps hk⟩;show(cellsFrom (s.heap.objs.size+1+1) scope.names (Ci X.env.cells scope.names [])).lookup x=some c;rw[ant _ _ _ _ λz=>by rw[B.uniq _ _ z] at Oa;cases Oa];exact hc'
 . exact hcl
 . show upd H s.heap.objs.size (.lst []) (s.heap.objs.size+1)=none
   rw[j5 hCD];exact hC
 . intro x c hc
   rcases B.afi ok hc with⟨_,l⟩|hc'
   . have l:s.heap.objs.size+1+1<=c:=l
     rw[j5 (vg (gh (o5 (m9 _)) l))];exact I.zp.fresh (gq (wy _ 2) l)
   . rw[j5 (fc (clt x c hc'))]
     exact I.Ml x c hc'
 . intro p hp;simp[Ko] at hp
 . exact N8.laid I.zp hk (bu _) ⟨jt _,[],0,.nil,Dq⟩
 . show(σ++List.replicate (N.length-X.N.length) none).length=N.length
   rw[qz,List.length_replicate,I.len];have:=B.long;omega
def Mt(I:Nat->Shared->Prop)(turn:∀n s,I n s->wpAny (model prog w) A (pyNext it) (λr s₁=>match r with
 |none=>R (.ok .next) s₁
 | some v=>wpAny (model prog w) A (letOwnedTupleGo target it v) (λ_ s₁'=>wpAny (model prog w) A (assign target env v) (λ_ s₂ =>
  wpAny (model prog w) A (forIn ifs true λc r=>if r=true then do let ok <- isTrue c env (eval c env);pure (ForInStep.yield ok) else pure (ForInStep.yield r)) (λok s₃ =>
   if ok=true then wpAny (model prog w) A (eval elt env) (λx s₄ =>
    wpAny (model prog w) A (call (.builtin "list.append") [acc,x]) (λ_ s₅=>∃m,m<n/\I m s₅) (λ_ _=>False) s₄) (λ_ _=>False) s₃
   else ∃m,m<n/\I m s₃) (λ_ _=>False) s₂) (λ_ _=>False) s₁') (λ_ _=>False) s₁) (λ_ _=>False) s)(n:Nat)(h:I n s) :
 codeAny (model prog w) A (.compLoop (.ListComp elt [⟨target,iter,ifs,0⟩] scope pos) 0 it acc env) R s:=by
 have nv:∀{α:Type}{t:Sem α}{Q:α->Shared->Prop}{E:Y1}{s:Shared},wpAny (model prog w) A t Q (λ_ _=>False) s->wpAny (model prog w) A t Q E s:=λh=>lg h (λ_ _ q=>q) λ_ _ f=>f.elim
 refine codeAny_loop rfl I (λn s hI=>?_) n h;show wpAny _ A ((compTurn (.ListComp elt [⟨target,iter,ifs,0⟩] scope pos) 0 it acc env).onRaise (λx=>do noteFrame x env;theTreesLotGoes x)) _ _ s;refine wpAny_noted ?_;rw[compTurn_list];refine aa (wpAny_standAt (aa (lg (turn n s hI) (λr s₁ h₁=>?_) λ_ _ h'=>h'.elim)));cases r with
 |none=>exact aj h₁
 |some v =>
  refine aa (lg h₁ (λ_ s₁' h₁'=>?_) λ_ _ h'=>h'.elim);refine aa (lg h₁' (λ_ s₂ h₂=>aa (lg h₂ (λok s₃ h₃=>?_) λ_ _ h'=>h'.elim)) λ_ _ h'=>h'.elim);cases ok with
  |false=>exact aj ⟨rfl,h₃⟩
  |true =>
   exact aa (aa (lg h₃ (λx s₄ h₄=>aa (lg h₄ (λ_ s₅ h₅=>aj (aj ⟨rfl,h₅⟩)) λ_ _ h'=>h'.elim)) λ_ _ h'=>h'.elim))
def ab5(k:Nat)(wi:TI)(g:TG)(tc:TT)(te:TE):TE:=fun σ H Q=>wi σ H λJ H1=>∀D,H1 D=none->∃W:Nat->Nat->Hp->Prop,(∃m,W 0 m (upd H1 D (.lst [])))/\∀i m H,W i m H ->
 (J.stop i H/\Q (.ref D) H)\/(J.go i H/\∀x H',J.yld i H x H'->g x (σ++List.replicate k none) H' fun σ2 H2=>σ2.length=(σ++List.replicate k none).length /\
  (∀(j:Nat) v,(σ++List.replicate k none)[j]?=some (some v)->σ2[j]?=some (some v))/\tc σ2 H2 λb H3 =>
   if b=true then te σ2 H3 λv H4=>∃xs m',H4 D=some (.lst xs)/\xs.length<sizeLine/\m'<m/\W (i+1) m' (upd H4 D (.lst (xs++[v]))) else ∃m',m'<m/\W (i+1) m' H3)
def PTs(X:Cx)(ifs:Ya)(tc:TT):Prop:=(ifs=[]/\tc=λ_ H Q=>Q true H)\/∃c,ifs=[c]/\PT X c tc
def Yj(I:Inv X pins σ H s)(hf:∀b∈fp,T6 X pins H b)(J:Inv (Ko X N scope (s.heap.objs.size+1) fp s H) [] σ3 H3 s3):Inv X pins σ H3 s3/\∃m,s3.heap.Ns (s.heap.objs.size+1) m:=by
 refine⟨I.call' J.os J.base J.zp J.bare λb hb=>?_,?_⟩
 . obtain⟨_,f1,_,f3,f4,f5⟩:=hf b hb
   exact⟨f3,f1,f4,f5⟩
 . obtain⟨m,hn,_⟩:=J.loc
   exact⟨m,hn⟩
def aju(I:Inv X pins σ H s)(I3:Inv X pins σ H3 s3)(hC:H3 (s.heap.objs.size+1)=none)(hs:Heap.SameBut (s.heap.objs.size+1) s3.heap h'):Inv X pins σ H3 { s3 with heap:=h' }:=by
 have big:∀b o,s.heap.get? b=some o->b≠s.heap.objs.size+1:=λb o e z=>by have:=az e;rw[z] at this;exact absurd this (Nat.not_lt.mpr (vf _))
 refine I3.turned (t':=s3.toks) (λb o hb e=>hs.extBut b o hb e) hC ?_ (.inr (gq I.sz (vf _))) ?_ ?_
 . intro e
   obtain⟨m,⟨o,_,_,ho,_⟩,_⟩:=I.loc;exact big _ o ho e.symm
 . intro x c hc
   obtain⟨v,o,ho,_⟩:=I.cell x c hc;exact big c o ho
 . intro p hp
   exact big p.1 p.2 (I.pin p hp).1
def Vp{RR:Value->Addr->Result->Shared->Prop}(B:Dn X N scope)(Hs:X.calm=true)(I:Inv X pins σ H s)(hf:∀b∈fp,T6 X pins H b)(T:Turn X.prog X.w X.K tg J fp it tn)(h0:tn 0 s.heap)(hg:∀C s H,PG (Ko X N scope C fp s H) tg g)(hc:∀C s H,PTs (Ko X N scope C fp s H) ifs tc)(he:∀C s H,PE (Ko X N scope C fp s H) elt te){Q:VK}(W:Nat->Nat->Hp->Prop)(w0:W 0 m0 (upd H s.heap.objs.size (.lst [])))(turn:∀i m H,W i m H->(J.stop i H/\Q (.ref s.heap.objs.size) H)\/(J.go i H/\∀x H',J.yld i H x H'->g x (σ++List.replicate (N.length-X.N.length) none) H' fun σ2 H2=>σ2.length=(σ++List.replicate (N.length-X.N.length) none).length /\
 (∀(j:Nat) v,(σ++List.replicate (N.length-X.N.length) none)[j]?=some (some v)->σ2[j]?=some (some v))/\tc σ2 H2 λb H3 =>
  if b=true then te σ2 H3 λv H4=>∃xs m',H4 s.heap.objs.size=some (.lst xs)/\xs.length<sizeLine/\m'<m/\W (i+1) m' (upd H4 s.heap.objs.size (.lst (xs++[v]))) else ∃m',m'<m/\W (i+1) m' H3))(hRR:∀σ3 H3 s3,Inv (Ko X N scope (s.heap.objs.size+1) fp s H) [] σ3 H3 s3->Q (.ref s.heap.objs.size) H3->RR (.ref s.heap.objs.size) (s.heap.objs.size+1) (.ok .next) s3) :
 wpAny (model X.prog X.w) X.A (newList []) (λacc s₃=>wpAny (model X.prog X.w) X.A (newFunctionEnv scope X.env.globals (Ci X.env.cells scope.names []) [] X.env.qual none .none (some X.env)) (λcenv s₄ =>
  codeAny (model X.prog X.w) X.A (.compStart (.ListComp elt [⟨tg,iter,ifs,0⟩] scope pos) 0 (.ref it) acc { cenv with scope:=relabel scope X.env }) (RR acc cenv.locals) s₄) E s₃) E s:=by
 refine qw (ajs ?_);have hsz:(s.heap.push { cls:=.type "list",dict:=none,data:=.seq ([]:Zl).toArray }).objs.size=s.heap.objs.size+1:=ie _ _;obtain⟨h₁,eh⟩:∃h₁,h₁=pushCells ((s.heap.push { cls:=.type "list",dict:=none,data:=.seq ([]:Zl).toArray }).push { cls:=.type "dict",data:=.dict #[] }) scope.names:=⟨_,rfl⟩;have up:∀b o,(s.heap.push { cls:=.type "list",dict:=none,data:=.seq ([]:Zl).toArray }).get? b=some o->h₁.get? b=some o:=λb o e=>by rw[eh];exact pushCells_keeps _ _ b o (aq _ e)
 have old:∀b o,s.heap.get? b=some o->h₁.get? b=some o:=λb o e=>up b o (aq _ e)
 have Dq:h₁.get? s.heap.objs.size=some { cls:=.type "list",data:=.seq ([]:Zl).toArray }:=up _ _ (bh _ rfl);have hns₁:h₁.Ns (s.heap.objs.size+1) λ_=>none:=by rw[eh,<- hsz];exact(Heap.Ns.new _ (.type "dict")).keeps (pushCells_keeps _ _)
 have hcl:∀x c,(cellsFrom (s.heap.objs.size+1+1) scope.names (Ci X.env.cells scope.names [])).lookup x=some c->∃v,h₁.IsCell c v:=by
  have sz2:((s.heap.push { cls:=.type "list",dict:=none,data:=.seq ([]:Zl).toArray }).push { cls:=.type "dict",data:=.dict #[] }).objs.size=s.heap.objs.size+1+1:=by rw[ie,hsz]
  rw[eh,<- sz2];refine aab _ _ _ λx c q=>?_
  obtain⟨v,hv⟩:=I.cell x c (B.inCells I.ok q);exact⟨v,hv.keeps λb o e=>aq _ (aq _ e)⟩
 have hfo:∀b∈fp,∃o,s.heap.get? b=some o:=λb hb=>let ⟨o,e,_⟩:=T.obj 0 _ h0 b hb;⟨o,e⟩
 have I0:=ajt (t:=s.toks) B I hf hfo hns₁ old Dq hcl;have ae2:∀{H':Hp},(∀b∈fp,H' b=none)->∀b∈fp,T6 (Ko X N scope (s.heap.objs.size+1) fp s H) [] H' b:=λhn b hb=>by
  obtain⟨f0,f1,f2,f3,f4,f5⟩:=hf b hb;refine⟨hn b hb,?_,?_,.inl hb,?_,λp hp=>(by simp[Ko] at hp)⟩
  . intro z
    obtain⟨o,e⟩:=hfo b hb;have:=az e;rw[show b=s.heap.objs.size+1 from z] at this;exact absurd this (Nat.not_lt.mpr (vf _))
  . intro q
    rcases bx.mp (I.Zz b q) with z|z
    . exact f1 z
    . exact f2 z
  . intro x c hc
    rcases B.afi I.ok hc with⟨_,l⟩|hc
    . intro z
      obtain⟨o,e⟩:=hfo b hb;have q:=az e;rw[<- z] at q;exact absurd (gh (o5 (o5 q)) l) (lq _)
    . exact f4 x c hc
 have fr0:∀b∈fp,upd H s.heap.objs.size (.lst []) b=none:=λb hb=>by obtain⟨o,e⟩:=hfo b hb;rw[j5 (fc (az e))];exact(hf b hb).1
 have loop:∀s':Shared,s'={ s with heap:=h₁ }->codeAny (model X.prog X.w) X.A (.compLoop (.ListComp elt [⟨tg,iter,ifs,0⟩] scope pos) 0 (.ref it) (.ref s.heap.objs.size) (compEnvC scope (cellsFrom (s.heap.objs.size+1+1) scope.names (Ci X.env.cells scope.names [])) (s.heap.objs.size+1) X.env))
  (RR (.ref s.heap.objs.size) (s.heap.objs.size+1)) s':=by
  rintro s' rfl;refine Mt (λn s'=>∃i σ' H',Inv (Ko X N scope (s.heap.objs.size+1) fp s H) [] σ' H' s'/\(∀(j:Nat) v,(σ++List.replicate (N.length-X.N.length) none)[j]?=some (some v)->σ'[j]?=some (some v))/\tn i s'.heap/\(∀b∈fp,H' b=none)/\W i n H') ?_ m0
   ⟨0,_,_,I0,λ_ _ z=>z,T.keep 0 _ _ h0 (λb _ o e=>old b o e),fr0,w0⟩
  rintro n s3 ⟨i,σ3,H3,I3,k3,st3,fr3,w3⟩;have I3':=I3.weak (σ':=σ++List.replicate (N.length-X.N.length) none) (by rw[I3.len];exact I0.len) k3;rcases turn i n H3 w3 with⟨stop,qn⟩|⟨go,step⟩
  . refine Ar (T.done (Ko X N scope (s.heap.objs.size+1) fp s H) rfl rfl rfl Hs i [] s3 _ H3 (λ_ _=>False) I3' (ae2 fr3) st3 stop) λr s4 z_=>?_
    obtain⟨hr,I4⟩:=z_;subst hr;exact hRR _ _ _ I4 qn
  . refine Ar (T.item (Ko X N scope (s.heap.objs.size+1) fp s H) rfl rfl rfl Hs i [] s3 _ H3 (λ_ _=>False) I3' (ae2 fr3) st3 go) λr s4 z_=>?_
    obtain⟨u,hr,h4⟩:=z_;subst hr;refine Ar h4 λ_ s5 z_=>?_
    obtain⟨x,H5,I5,r5,y5,st5,fr5⟩:=z_;have I5':=I5.pinned (ae2 fr5) (T.obj _ _ st5);refine Ar (hg _ _ _ _ s5 _ H5 x u _ I5' r5 (step x H5 y5)) λ_ s6 z_=>?_
    obtain⟨σ6,H6,I6,l6,k6,q6⟩:=z_;have again:∀{agv:Zp}{H7:Hp}{s7:Shared}{m:Nat},Inv (Ko X N scope (s.heap.objs.size+1) fp s H) ([]++Rm fp s5.heap) σ6 H7 s7->m<n->W (i+1) m H7 ->
     ∃m,m<n/\∃i σ' H',Inv (Ko X N scope (s.heap.objs.size+1) fp s H) [] σ' H' s7/\(∀(j:Nat) v,(σ++List.replicate (N.length-X.N.length) none)[j]?=some (some v)->σ'[j]?=some (some v))/\tn i s7.heap/\(∀b∈fp,H' b=none)/\W i m H':=fun{_ H7 s7 m} I7 hm w7=>by
     refine⟨m,hm,i+1,σ6,H7,I7.Mp,k6,T.keep _ _ _ st5 λb hb o e=>(I7.pin (b,o) (il _ (il _ (Jp hb e)))).1,λb hb=>?_,w7⟩;obtain⟨o,e,d⟩:=T.obj _ _ st5 b hb;exact(I7.pin (b,o) (il _ (il _ (Jp hb e)))).2.1
    have tests:wpAny (model X.prog X.w) X.A (forIn ifs true λc r=>if r=true then do let ok <- isTrue c (compEnvC scope (cellsFrom (s.heap.objs.size+1+1) scope.names (Ci X.env.cells scope.names [])) (s.heap.objs.size+1) X.env) (eval c (compEnvC scope (cellsFrom (s.heap.objs.size+1+1) scope.names (Ci X.env.cells scope.names [])) (s.heap.objs.size+1) X.env));pure (ForInStep.yield ok) else pure (ForInStep.yield r))
     (TP (Ko X N scope (s.heap.objs.size+1) fp s H) ([]++Rm fp s5.heap) σ6 λb H3 =>
      if b=true then te σ6 H3 λv H4=>∃xs m',H4 s.heap.objs.size=some (.lst xs)/\xs.length<sizeLine/\m'<n/\W (i+1) m' (upd H4 s.heap.objs.size (.lst (xs++[v]))) else ∃m',m'<n/\W (i+1) m' H3) (λ_ _=>False) s6:=by
     rcases hc (s.heap.objs.size+1) s H with⟨rfl,rfl⟩|⟨c,rfl,hpt⟩
     . exact wpAny_tests_nil ⟨H6,I6,q6⟩
     . exact wpAny_tests_one (hpt _ s6 σ6 H6 _ I6 q6)
    refine Ar tests λok s7 z_=>?_
    obtain⟨H7,I7,q7⟩:=z_;cases ok with
    |false =>
     obtain⟨m',hm,w7⟩:=(show ∃m',m'<n/\W (i+1) m' H7 from q7);exact again (agv:=[]) I7 hm w7
    |true =>
     show wpAny _ _ _ _ _ _;refine Ar (he _ _ _ _ s7 σ6 H7 _ I7 q7) λx s8 z_=>?_
     obtain⟨v,H8,I8,r8,xs,m',hD,hl,hm,w8⟩:=z_;refine Ar (Yh _ s8 σ6 H8 (.ref s.heap.objs.size) [v] (.ref s.heap.objs.size) [x] (λ_ H'=>W (i+1) m' H') I8 rfl (.cons r8 .nil) ⟨_,xs,v,rfl,rfl,hD,hl,w8⟩) λ_ s9 z_=>?_
     obtain⟨_,H9,I9,_,w9⟩:=z_;exact again (agv:=[]) I9 hm w9
 rw[<- eh,hsz];exact codeAny_compStart_list (loop _ rfl) (T.self _ 0 _ _ _ (T.keep 0 _ _ h0 (λb _ o e=>old b o e)) (loop _ rfl))
def ag7(B:Dn X N scope)(Hs:X.calm=true)(hi:PI X tg iter wi)(hg:∀C fp s H,PG (Ko X N scope C fp s H) tg g)(hc:∀C fp s H,PTs (Ko X N scope C fp s H) ifs tc)(he:∀C fp s H,PE (Ko X N scope C fp s H) elt te)(hs:∀x,foldedSetIterable iter X.env x=pure x):PE X (.ListComp elt [⟨tg,iter,ifs,0⟩] scope pos) (ab5 (N.length-X.N.length) wi g tc te):=by intro pins s σ H Q I h;rw[eval_ListComp];refine wpAny_comprehension_free (use:=none) rfl hs (B.clos I.ok) B.kind B.locs (Ar (hi pins s σ H _ I h) λv s1 h1=>Ar h1 λitv s2 h2=>?_);obtain⟨it,fp,tn,J,H2,rfl,I2,T,st2,f2,q2⟩:=h2;obtain⟨W,⟨m0,w0⟩,turn⟩:=q2 s2.heap.objs.size (I2.zp.fresh (bu _));refine Vp (RR:=λacc C=>compPost (model X.prog X.w) X.A X.xe none (EP X pins σ Q) acc C) B Hs I2 f2 T st2 (λC s H=>hg C fp s H) (λC s H=>hc C fp s H) (λC s H=>he C fp s H) W w0 turn ?_;intro σ3 H3 s3 I3 q3;obtain⟨J3,m,hn⟩:=Yj I2 f2 I3;exact⟨m,hn,λh' Nk=>⟨.ref s2.heap.objs.size,H3,aju I2 J3 I3.free Nk,rfl,q3⟩⟩
set_option tactic.hygienic true in
def ag8(B:Dn X N scope)(Hs:X.calm=true)(hi:PI X tg iter wi)(hg:∀C fp s H,PG (Ko X N scope C fp s H) tg g)(hc:∀C fp s H,PTs (Ko X N scope C fp s H) ifs tc)(he:∀C fp s H,PE (Ko X N scope C fp s H) elt te)(hs:∀x,foldedSetIterable iter X.env x=pure x)(hN:X.N.Nodup)(hy:X.N[i]?=some y)(hl:X.env.scope.names.lookup y=some .local)(hsw:swapsWith (.ListComp elt [⟨tg,iter,ifs,0⟩] scope pos) (some (.Name y py)) anu.line X.env=pure true) :
 PS X (.Assign [.Name y py] (.ListComp elt [⟨tg,iter,ifs,0⟩] scope pos) anu) (ay2 (ab5 (N.length-X.N.length) wi g tc te) (agw i)):=by
 intro pins s σ H D I h;rw[exec_Assign_Name_used _ _ _ _ hsw];refine aa (wpAny_standAt (aa ?_));show wpAny _ _ (do let _ <- comprehension (.ListComp elt [⟨tg,iter,ifs,0⟩] scope pos) scope X.env _ (newList []) false (eval iter X.env) (some (assign (.Name y py) X.env))) _ _ s;refine aa (lg (wpAny_comprehension_free (use:=some (assign (.Name y py) X.env)) (Q:=λ_ s'=>SP X pins D .next s') rfl hs (B.clos I.ok) B.kind B.locs
  (Ar (hi pins s σ H _ I h) λv s1 h1=>Ar h1 λitv s2 h2=>?_)) (λ_ s' hq=>aj (aj hq)) λ_ _ e=>e)
 obtain⟨it,fp,tn,J,H2,rfl,I2,T,st2,f2,q2⟩:=h2;obtain⟨W,⟨m0,w0⟩,turn⟩:=q2 s2.heap.objs.size (I2.zp.fresh (bu _));refine Vp (RR:=λacc C=>compPost (model X.prog X.w) X.A X.xe (some (assign (.Name y py) X.env)) (λ_ s'=>SP X pins D .next s') acc C) (Q:=λx H1=>agw i x σ H1 D.nx) B Hs I2 f2 T st2 (λC s H=>hg C fp s H) (λC s H=>hc C fp s H) (λC s H=>he C fp s H) W w0 turn ?_;intro σ3 H3 s3 I3 q3;obtain⟨J3,m,hn⟩:=Yj I2 f2 I3;have hC3:=I3.free;obtain⟨oC,_,_,hoC,hdC,_⟩:=id hn;have big:∀b o,s2.heap.get? b=some o->b≠s2.heap.objs.size+1:=λb o e z=>by have:=az e;rw[z] at this;exact absurd this (Nat.not_lt.mpr (vf _))
 have neL:s2.heap.objs.size+1≠X.env.locals:=λe=>by obtain⟨m,⟨o,_,_,ho,_⟩,_⟩:=I2.loc;exact big _ o ho e.symm
 have J4:Inv X (pins++[(s2.heap.objs.size+1,oC)]) σ H3 s3:=J3.Qa λp hp=>by
  rcases dw.mp hp with q|q
  . exact J3.pin p (il _ q)
  . have e:p=(s2.heap.objs.size+1,oC):=by simpa using q
    subst e;refine⟨hoC,hC3,neL,λhb=>?_,λv z=>by rw[hdC] at z;cases z⟩;exact I2.ayi (vf _) hb
 show wpAny (model X.prog X.w) X.A (assign (.Name y py) X.env (.ref s2.heap.objs.size)) _ _ s3;refine Ar (Z3 (pos:=py) hN hy (.inl hl) (.inr hl) (pins++[(s2.heap.objs.size+1,oC)]) s3 σ H3 (.ref s2.heap.objs.size) (.ref s2.heap.objs.size) D.nx J4 rfl q3) λ_ s4 z_=>?_
 obtain⟨σ4,H4,I4,q4⟩:=z_;have pC:=I4.pin (s2.heap.objs.size+1,oC) (il _ (il _ (by simp)));refine⟨m,hn.at' λo e=>by rw[hoC] at e;cases e;exact pC.1,λh' Nk=>⟨σ4,H4,?_,q4⟩⟩;refine(I4.Mp).turned (t':=s4.toks) (λb o hb e=>Nk.extBut b o hb e) pC.2.1 neL (.inr (gq I2.sz (vf _))) ?_ ?_
 . intro x c hc
   obtain⟨v,o,ho,_⟩:=I2.cell x c hc;exact big c o ho
 . intro p hp
   exact big p.1 p.2 (I2.pin p hp).1
end L2
namespace Sm
open PySem L2
open MW (Ex Bs OEx Og Bg m7 Lv Tg Res cu MO Ib Cp Op2 Blt Bm Kx)
abbrev Dv:=MW.D
abbrev En:=MW.Env
structure Io where
 l:List Addr
 δ:List Addr
noncomputable def Io.add(ι:Io)(p:Addr):Io:=⟨ι.l++[p],ι.δ⟩
noncomputable def Io.hide(ι:Io)(p:Addr):Io:=⟨ι.l,p::ι.δ⟩
def Io.off(ι:Io)(a:Addr):Prop:=a∉ι.l/\a∉ι.δ
def aac(K:Fg)(H:Hp)(a:Addr)(vs:List V):Prop :=
 (∃o,H a=some (.Mj o (.lst vs))) \/
  ∃(o:Obj)(xr:U1)(n:Nat),K.lookup a=some o/\o.cls=.type "list"/\o.dict=none/\o.data=.seq xr n/\xr.size<=sizeLine/\Vals vs xr.toList
def aac.sq(h:aac K H a vs):G9 K H a vs:=by
 rcases h with⟨o,h⟩|h
 . exact .inl (.inr ⟨o,h⟩)
 . exact .inr h
mutual
inductive Rep(K:Fg)(ι:Io)(H:Hp):Dv->V->Prop
 |non:Rep K ι H .non .non
 |bl (b:Bool):Rep K ι H (.bl b) (.bl b)
 |int (i:Int):Rep K ι H (.int i) (.int i)
 |str (s:Str):Rep K ι H (.str s) (.str s)
 |tup {a:Addr} {ds:List Dv} {vs:List V} (e:H a=some (.tup vs)) (r:mj K ι H ds vs):Rep K ι H (.tup ds) (.ref a)
 |vl {a:Addr} {ds:List Dv} {vs:List V} (e:H a=some (.lst vs)) (n:ι.off a) (r:mj K ι H ds vs):Rep K ι H (.vl ds) (.ref a)
 |fz {a:Addr} {ds:List Dv} {vs:List V} (e:aac K H a vs) (r:mj K ι H ds vs):Rep K ι H (.fz ds) (.ref a)
 |ref {n:Nat} {a:Addr} (e:ι.l[n]?=some a):Rep K ι H (.ref n) (.ref a)
inductive mj(K:Fg)(ι:Io)(H:Hp):List Dv->List V->Prop
 |nil:mj K ι H [] []
 |cons {d:Dv} {v:V} {ds:List Dv} {vs:List V} (h:Rep K ι H d v) (t:mj K ι H ds vs):mj K ι H (d::ds) (v::vs)
end
structure Le(ι:Io)(H:Hp)(ι':Io)(H':Hp):Prop where
 ext:∃Y,ι'.l=ι.l++Y/\∀a∈Y,H a=none
 del:ι'.δ=ι.δ
 tup:∀a vs,H a=some (.tup vs)->H' a=some (.tup vs)
 Mj:∀a o u,H a=some (.Mj o u)->H' a=some (.Mj o u)
 lst:∀a vs,a∉ι.l->H a=some (.lst vs)->H' a=some (.lst vs)
 dom:∀a,H' a=none->H a=none
def Le.refl(ι:Io)(H:Hp):Le ι H ι H:=⟨⟨[],by simp,by simp⟩,rfl,λ_ _ h=>h,λ_ _ _ h=>h,λ_ _ _ h=>h,λ_ h=>h⟩
def Gb{H H':Hp}(hk:∀a u,H a=some u->∃u',H' a=some u')(h:H' a=none):H a=none:=by
 cases e:H a with
 |none=>rfl|some u=>obtain⟨u',e'⟩:=hk a u e;rw[h] at e';cases e'
def Le.get(l:Le ι H ι' H'){n:Nat}(h:ι.l[n]?=some a):ι'.l[n]?=some a:=by obtain⟨Y,e,_⟩:=l.ext;rw[e,dz (ak.mp h).1];exact h
def Le.azr(l:Le ι H ι' H')(h:a∉ι.l)(ha:H a=some o):a∉ι'.l:=by
 obtain⟨Y,e,hy⟩:=l.ext;rw[e];intro m;rcases dw.mp m with q|q
 . exact h q
 . rw[hy a q] at ha;cases ha
def Le.out(l:Le ι H ι' H')(h:ι.off a)(ha:H a=some o):ι'.off a:=⟨l.azr h.1 ha,by rw[l.del];exact h.2⟩
theorem Le.trans(a:Le ι H ι1 H1)(b:Le ι1 H1 ι2 H2):Le ι H ι2 H2:=by
 obtain⟨Y,e1,h1⟩:=a.ext;obtain⟨Z,e2,h2⟩:=b.ext;refine⟨⟨Y++Z,by rw[e2,e1,xu],λx m=>?_⟩,b.del.trans a.del,λx vs h=>b.tup x vs (a.tup x vs h),λx o u h=>b.Mj x o u (a.Mj x o u h),λx vs n h=>b.lst x vs (a.azr n h) (a.lst x vs n h),λx h=>a.dom x (b.dom x h)⟩;rcases dw.mp m with q|q
 . exact h1 x q
 . exact a.dom x (h2 x q)
structure LeX(ι:Io)(H:Hp)(ι':Io)(H':Hp):Prop where
 ext:∃Y,ι'.l=ι.l++Y/\∀a∈Y,H a=none
 del:∀a∈ι'.δ,a∈ι.δ\/H a=none
 tup:∀a vs,H a=some (.tup vs)->H' a=some (.tup vs)
 Mj:∀a o u,H a=some (.Mj o u)->H' a=some (.Mj o u)
 lst:∀a vs,a∉ι.l->H a=some (.lst vs)->H' a=some (.lst vs)
def Le.toX(l:Le ι H ι' H'):LeX ι H ι' H':=⟨l.ext,λa h=>.inl (by rw[<- l.del];exact h),l.tup,l.Mj,l.lst⟩
def LeX.get(l:LeX ι H ι' H'){n:Nat}(h:ι.l[n]?=some a):ι'.l[n]?=some a:=by obtain⟨Y,e,_⟩:=l.ext;rw[e,dz (ak.mp h).1];exact h
def LeX.out(l:LeX ι H ι' H')(h:ι.off a)(ha:H a=some o):ι'.off a:=by
 obtain⟨Y,e,hy⟩:=l.ext;refine⟨λm=>?_,λm=>?_⟩
 . rw[e] at m
   rcases dw.mp m with q|q
   . exact h.1 q
   . rw[hy a q] at ha;cases ha
 . rcases l.del a m with q|q
   . exact h.2 q
   . rw[q] at ha;cases ha
structure Tr(K:Fg)(ι:Io)(H:Hp)(ι':Io)(H':Hp):Prop where
 tup:∀a vs,H a=some (.tup vs)->H' a=some (.tup vs)
 vl:∀a vs,H a=some (.lst vs)->ι.off a->H' a=some (.lst vs)/\ι'.off a
 fz:∀a vs,aac K H a vs->aac K H' a vs
 rf:∀(n:Nat) a,ι.l[n]?=some a->ι'.l[n]?=some a
mutual
theorem Rep.tr{K:Fg}{ι ι':Io}{H H':Hp}(l:Tr K ι H ι' H'):∀{d:Dv}{v:V},Rep K ι H d v->Rep K ι' H' d v
 |_,_,.non=>.non|_,_,.bl b=>.bl b|_,_,.int i=>.int i|_,_,.str s=>.str s|_,_,.tup e r=>.tup (l.tup _ _ e) (mj.tr l r)|_,_,.vl e n r=>.vl (l.vl _ _ e n).1 (l.vl _ _ e n).2 (mj.tr l r)|_,_,.fz e r=>.fz (l.fz _ _ e) (mj.tr l r)|_,_,.ref e=>.ref (l.rf _ _ e)
theorem mj.tr{K:Fg}{ι ι':Io}{H H':Hp}(l:Tr K ι H ι' H'):∀{ds:List Dv}{vs:List V},mj K ι H ds vs->mj K ι' H' ds vs
 |_,_,.nil=>.nil|_,_,.cons h t=>.cons (Rep.tr l h) (mj.tr l t)
end
def LeX.tr(l:LeX ι H ι' H'):Tr K ι H ι' H':=⟨l.tup,λa vs e n=>⟨l.lst _ _ n.1 e,l.out n e⟩,λa vs e=>by
 rcases e with⟨o,e⟩|e
 . exact .inl ⟨o,l.Mj _ _ _ e⟩
 . exact .inr e,λ_ _ e=>l.get e⟩
def Rep.Ka(l:LeX ι H ι' H')(r:Rep K ι H d v):Rep K ι' H' d v:=r.tr l.tr
def mj.Ka(l:LeX ι H ι' H')(r:mj K ι H ds vs):mj K ι' H' ds vs:=r.tr l.tr
def Rep.mono(l:Le ι H ι' H')(r:Rep K ι H d v):Rep K ι' H' d v:=r.Ka l.toX
def mj.mono(l:Le ι H ι' H')(r:mj K ι H ds vs):mj K ι' H' ds vs:=r.Ka l.toX
theorem mj.length{K:Fg}{ι:Io}{H:Hp}:∀{ds:List Dv}{vs:List V},mj K ι H ds vs->ds.length=vs.length
 |_,_,.nil=>rfl|_,_,.cons _ t=>by rw[gn,gn,mj.length t]
theorem mj.get{K:Fg}{ι:Io}{H:Hp}:∀{ds:List Dv}{vs:List V}{i:Nat}{d:Dv},mj K ι H ds vs->ds[i]?=some d->∃v,vs[i]?=some v/\Rep K ι H d v
 |_,_,_,_,.nil,e=>by simp at e|_,_,0,_,.cons h _,e=>by simp at e;subst e;exact⟨_,rfl,h⟩
 |_,_,i+1,d,.cons _ t,e=>by
  obtain⟨v,h1,h2⟩:=mj.get (i:=i) t (by simpa using e);exact⟨v,by simpa using h1,h2⟩
theorem mj.set{K:Fg}{ι:Io}{H:Hp}{d:Dv}{v:V}(r:Rep K ι H d v):∀{ds:List Dv}{vs:List V}(i:Nat),mj K ι H ds vs->mj K ι H (ds.set i d) (vs.set i v)
 |_,_,_,.nil=>.nil|_,_,0,.cons _ t=>.cons r t|_,_,i+1,.cons h t=>.cons h (mj.set r i t)
theorem mj.append{K:Fg}{ι:Io}{H:Hp}:∀{ds es:List Dv}{vs us:List V},mj K ι H ds vs->mj K ι H es us->mj K ι H (ds++es) (vs++us)
 |_,_,_,_,.nil,r=>r|_,_,_,_,.cons h t,r=>.cons h (mj.append t r)
theorem mj.drop{K:Fg}{ι:Io}{H:Hp}:∀{ds:List Dv}{vs:List V}(n:Nat),mj K ι H ds vs->mj K ι H (ds.drop n) (vs.drop n)
 |_,_,0,r=>r|_,_,_+1,.nil=>.nil|_,_,n+1,.cons _ t=>mj.drop n t
theorem mj.take{K:Fg}{ι:Io}{H:Hp}:∀{ds:List Dv}{vs:List V}(n:Nat),mj K ι H ds vs->mj K ι H (ds.take n) (vs.take n)
 |_,_,0,_=>.nil|_,_,_+1,.nil=>.nil|_,_,n+1,.cons h t=>.cons h (mj.take n t)
theorem mj.eraseIdx{K:Fg}{ι:Io}{H:Hp}:∀{ds:List Dv}{vs:List V}(n:Nat),mj K ι H ds vs->mj K ι H (ds.eraseIdx n) (vs.eraseIdx n)
 |_,_,_,.nil=>.nil|_,_,0,.cons _ t=>t|_,_,n+1,.cons h t=>.cons h (mj.eraseIdx n t)
theorem mj.ints{K:Fg}{ι:Io}{H:Hp}:∀(ns:Xs),mj K ι H (ns.map MW.D.int) (ns.map V.int)
 |[]=>.nil|n::r=>.cons (.int n) (mj.ints r)
structure Nm where
 cls:Nat->Option Addr
 fld:Nat->Str
 inj:∀i j,fld i=fld j->i=j
inductive su{κ κ':Type}(K:Fg)(ι:Io)(H:Hp)(f:κ->κ'->Prop):List (κ×Dv)->List (κ'×V)->Prop
 |nil:su K ι H f [] []
 |cons {k:κ} {k':κ'} {d:Dv} {v:V} {l:List (κ×Dv)} {l':List (κ'×V)} (hk:f k k') (h:Rep K ι H d v) (t:su K ι H f l l'):su K ι H f ((k,d)::l) ((k',v)::l')
theorem su.mono{κ κ':Type}{K:Fg}{ι ι':Io}{H H':Hp}{f:κ->κ'->Prop}(le:Le ι H ι' H'):∀{l:List (κ×Dv)}{l':List (κ'×V)},su K ι H f l l'->su K ι' H' f l l'
 |_,_,.nil=>.nil|_,_,.cons k h t=>.cons k (h.mono le) (su.mono le t)
def Ft(nm:Nm)(K:Fg)(ι:Io)(H:Hp)(o:MO)(a:Addr):Prop :=
 match o with
 |.lst ds=>∃vs,H a=some (.lst vs)/\mj K ι H ds vs|.dT gw=>∃l,H a=some (.dT l)/\su K ι H (λk k'=>k=k') gw l
 |.dK gw=>∃l,H a=some (.dK l)/\su K ι H (λk k'=>k=k') gw l
 |.ins c fs=>∃C dx l,nm.cls c=some C/\H a=some (.ins C dx l)/\su K ι H (λk k'=>k'=nm.fld k) fs l
structure mq(nm:Nm)(K:Fg)(ι:Io)(H:Hp)(M:cu):Prop where
 len:ι.l.length=M.length
 nd:ι.l.Nodup
 del:∀a∈ι.δ,a∉ι.l/\∃vs,H a=some (.lst vs)
 obj:∀(n:Nat)(o:MO)(a:Addr),M[n]?=some o->ι.l[n]?=some a->Ft nm K ι H o a
theorem Ft.some(h:Ft nm K ι H o a):∃u,H a=some u/\Mut (H a):=by
 cases o with
 |lst ds=>obtain⟨vs,e,_⟩:=h;exact⟨_,e,by rw[e];trivial⟩
 |dT gw=>obtain⟨vs,e,_⟩:=h;exact⟨_,e,by rw[e];trivial⟩
 |dK gw=>obtain⟨vs,e,_⟩:=h;exact⟨_,e,by rw[e];trivial⟩
 |ins c fs=>obtain⟨C,dx,l,_,e,_⟩:=h;exact⟨_,e,by rw[e];trivial⟩
def mq.addr(S:mq nm K ι H M){n:Nat}(h:M[n]?=some o):∃a,ι.l[n]?=some a/\Ft nm K ι H o a:=by
 have hl:n < ι.l.length:=by rw[S.len];exact MW.wj h
 exact⟨ι.l[n],by simp[hl],S.obj n o _ h (by simp[hl])⟩
def mq.mem(S:mq nm K ι H M)(h:a∈ι.l):∃u,H a=some u/\Mut (H a):=by
 obtain⟨n,hn,rfl⟩:=ou h;have hm:n<M.length:=by rw[<- S.len];exact hn
 exact(S.obj n M[n] ι.l[n] (by simp[hm]) (by simp[hn])).some
def mq.fresh(S:mq nm K ι H M)(h:H a=none):ι.off a:=by
 refine⟨λm=>?_,λm=>?_⟩
 . obtain⟨u,e,_⟩:=S.mem m
   rw[h] at e;cases e
 . obtain⟨_,vs,e⟩:=S.del a m
   rw[h] at e;cases e
def Ft.move(h:Ft nm K ι H o a)(le:Le ι H ι' H')(e:H' a=H a):Ft nm K ι' H' o a:=by
 cases o with
 |lst ds=>obtain⟨vs,q,r⟩:=h;exact⟨vs,e.trans q,r.mono le⟩
 |dT gw=>obtain⟨vs,q,r⟩:=h;exact⟨vs,e.trans q,r.mono le⟩
 |dK gw=>obtain⟨vs,q,r⟩:=h;exact⟨vs,e.trans q,r.mono le⟩
 |ins c fs=>obtain⟨C,dx,l,hc,q,r⟩:=h;exact⟨C,dx,l,hc,e.trans q,r.mono le⟩
def mq.laid(S:mq nm K ι H M)(h:H p=none)(o:HO):mq nm K ι (upd H p o) M/\Le ι H ι (upd H p o):=by
 have ne:∀a u,H a=some u->a≠p:=λa u e=>j8 e h
 have le:Le ι H ι (upd H p o):=⟨⟨[],by simp,by simp⟩,rfl,λa vs e=>by rw[j5 (ne a _ e)];exact e,λa _ u e=>by rw[j5 (ne a _ e)];exact e,λa vs _ e=>by rw[j5 (ne a _ e)];exact e,
  λa h'=>Gb (λb u e=>⟨u,by rw[j5 (ne b _ e)];exact e⟩) h'⟩
 refine⟨⟨S.len,S.nd,λa ha=>?_,λn o' a hn ha=>?_⟩,le⟩
 . obtain⟨h1,vs,h2⟩:=S.del a ha
   exact⟨h1,vs,le.lst a vs h1 h2⟩
 . have q:=S.obj n o' a hn ha
   obtain⟨u,e,_⟩:=q.some;exact q.move le (by rw[j5 (ne a u e)])
def Bh{α:Type}{l:List α}{x y:α}(h:(l++[x])[n]?=some y):(l[n]?=some y)\/(n=l.length/\y=x):=by
 rcases xj n l.length with q|q
 . rw[dz q] at h;exact .inl h
 . rw[jf q] at h
   have:n-l.length=0:=by
    rcases Nat.eq_zero_or_pos (n-l.length) with z|z
    . exact z
    . rw[j6 (by simp;exact z)] at h;cases h
   rw[this] at h;simp at h;exact .inr ⟨by lia,h.symm⟩
def mq.new(S:mq nm K ι H M)(h:H p=none)(hk:∀a u,H a=some u->H' a=some u)(ho:Le ι H (ι.add p) H'->Ft nm K (ι.add p) H' o p):mq nm K (ι.add p) H' (M++[o])/\Le ι H (ι.add p) H':=by
 have le:Le ι H (ι.add p) H':=⟨⟨[p],rfl,by simpa using h⟩,rfl,λa vs e=>hk _ _ e,λa _ u e=>hk _ _ e,λa vs _ e=>hk _ _ e,λa h'=>Gb (H:=H) (H':=H') (λb u e=>⟨u,hk b u e⟩) h'⟩;refine⟨⟨by simp[Io.add,S.len],?_,λa ha=>?_,λn o' a hn ha=>?_⟩,le⟩
 . exact yd.mpr ⟨S.nd,by simp,by
    intro x hx y hy;have:y=p:=by simpa using hy
    subst this;intro e;subst e;exact(S.fresh h).1 hx⟩
 . obtain⟨h1,vs,h2⟩:=S.del a ha
   exact⟨le.azr h1 h2,vs,hk _ _ h2⟩
 . rcases Bh hn with q|⟨q,rfl⟩
   . rcases Bh ha with r|⟨r,_⟩
     . have z:=S.obj n o' a q r
       obtain⟨u,e,_⟩:=z.some;exact z.move le ((hk a u e).trans e.symm)
     . exact absurd (MW.wj q) (by rw[r,S.len];exact lq _)
   . rcases Bh ha with r|⟨_,rfl⟩
     . exact absurd (ak.mp r).1 (by rw[q,S.len];exact lq _)
     . exact ho le
def mq.put(S:mq nm K ι H M)(hn:M[n]?=some o₀)(ha:ι.l[n]?=some a)(ho:Le ι H ι (upd H a u)->Ft nm K ι (upd H a u) o a):mq nm K ι (upd H a u) (M.set n o)/\Le ι H ι (upd H a u):=by
 obtain⟨u₀,e₀,m₀⟩:=(S.obj n o₀ a hn ha).some;have hm:a∈ι.l:=au ha;have le:Le ι H ι (upd H a u):=⟨⟨[],by simp,by simp⟩,rfl,λb vs e=>by rw[j5 (λz=>by subst z;rw[e] at m₀;exact m₀)];exact e,
  λb _ _ e=>by rw[j5 (λz=>by subst z;rw[e] at m₀;exact m₀)];exact e,λb vs nb e=>by rw[j5 (λz=>by subst z;exact nb hm)];exact e,λb h'=>Gb (λc w e=>by
   by_cases z:c=a
   . exact⟨u,by rw[z,v5]⟩
   . exact⟨w,by rw[j5 z];exact e⟩) h'⟩
 refine⟨⟨by rw[List.length_set];exact S.len,S.nd,λb hb=>?_,λm o' b hm' hb=>?_⟩,le⟩
 . obtain⟨h1,vs,h2⟩:=S.del b hb
   exact⟨h1,vs,le.lst b vs h1 h2⟩
 by_cases q:m=n
 . subst q
   rw[MW.uw hn] at hm';cases hm';rw[ha] at hb;cases hb;exact ho le
 . rw[MW.qx (jx q)] at hm'
   have z:=S.obj m o' b hm' hb;have nb:b≠a:=λe=>by subst e;obtain⟨l1,e1⟩:=ak.mp hb;obtain⟨l2,e2⟩:=ak.mp ha;exact q ((zu S.nd).mp (e1.trans e2.symm))
   exact z.move le (by rw[j5 nb])
mutual
theorem Rep.hide{K:Fg}{ι:Io}{H:Hp}{D:Addr}{o:HO}(hD:H D=none):∀{d:Dv}{v:V},Rep K ι H d v->Rep K (ι.hide D) (upd H D o) d v
 |_,_,.non=>.non|_,_,.bl b=>.bl b|_,_,.int i=>.int i|_,_,.str s=>.str s|_,_,.tup e r=>.tup (by rw[j5 (j8 e hD)];exact e) (mj.hide hD r)
 | _,_,.vl e n r=>.vl (by rw[j5 (j8 e hD)];exact e) ⟨n.1,λm=>by
  rcases bx.mp m with q|q
  . exact j8 e hD q
  . exact n.2 q⟩ (mj.hide hD r)
 | _,_,.fz e r=>.fz (by
  rcases e with⟨q,e⟩|e
  . exact .inl ⟨q,by rw[j5 (j8 e hD)];exact e⟩
  . exact .inr e) (mj.hide hD r)
 |_,_,.ref e=>.ref e
theorem mj.hide{K:Fg}{ι:Io}{H:Hp}{D:Addr}{o:HO}(hD:H D=none):∀{ds:List Dv}{vs:List V},mj K ι H ds vs->mj K (ι.hide D) (upd H D o) ds vs
 |_,_,.nil=>.nil|_,_,.cons h t=>.cons (Rep.hide hD h) (mj.hide hD t)
end
mutual
theorem Rep.grow{K:Fg}{ι:Io}{H:Hp}{D:Addr}{vs ws:List V}(hD:H D=some (.lst vs))(hm:D∈ι.δ):∀{d:Dv}{v:V},Rep K ι H d v->Rep K ι (upd H D (.lst ws)) d v
 |_,_,.non=>.non|_,_,.bl b=>.bl b|_,_,.int i=>.int i|_,_,.str s=>.str s|_,_,.tup e r=>.tup (by rw[j5 (amm e hD (by intro z;cases z))];exact e) (mj.grow hD hm r)|_,_,.vl e n r=>.vl (by rw[j5 (λz=>by subst z;exact n.2 hm)];exact e) n (mj.grow hD hm r)
 | _,_,.fz e r=>.fz (by
  rcases e with⟨q,e⟩|e
  . exact .inl ⟨q,by rw[j5 (amm e hD (by intro z;cases z))];exact e⟩
  . exact .inr e) (mj.grow hD hm r)
 |_,_,.ref e=>.ref e
theorem mj.grow{K:Fg}{ι:Io}{H:Hp}{D:Addr}{vs ws:List V}(hD:H D=some (.lst vs))(hm:D∈ι.δ):∀{ds:List Dv}{us:List V},mj K ι H ds us->mj K ι (upd H D (.lst ws)) ds us
 |_,_,.nil=>.nil|_,_,.cons h t=>.cons (Rep.grow hD hm h) (mj.grow hD hm t)
end
def Io.show(ι:Io)(H:Hp)(D:Addr):Tr K (ι.hide D) H ι H:=⟨λ_ _ e=>e,λ_ _ e n=>⟨e,n.1,λm=>n.2 (bc _ m)⟩,λ_ _ e=>e,λ_ _ e=>e⟩
theorem Rep.show(r:Rep K (ι.hide D) H d v):Rep K ι H d v:=r.tr (ι.show H D)
theorem mj.show(r:mj K (ι.hide D) H d v):mj K ι H d v:=r.tr (ι.show H D)
theorem su.map{κ κ':Type}{K:Fg}{ι ι':Io}{H H':Hp}{f:κ->κ'->Prop}(g:∀d v,Rep K ι H d v->Rep K ι' H' d v):∀{l:List (κ×Dv)}{l':List (κ'×V)},su K ι H f l l'->su K ι' H' f l l'
 |_,_,.nil=>.nil|_,_,.cons k h t=>.cons k (g _ _ h) (su.map g t)
theorem mj.map{K:Fg}{ι ι':Io}{H H':Hp}(g:∀d v,Rep K ι H d v->Rep K ι' H' d v):∀{l:List Dv}{l':List V},mj K ι H l l'->mj K ι' H' l l'
 |_,_,.nil=>.nil|_,_,.cons h t=>.cons (g _ _ h) (mj.map g t)
theorem Ft.map(g:∀d v,Rep K ι H d v->Rep K ι' H' d v)(h:Ft nm K ι H o a)(e:H' a=H a):Ft nm K ι' H' o a:=by
 cases o with
 |lst ds=>obtain⟨vs,q,r⟩:=h;exact⟨vs,e.trans q,r.map g⟩
 |dT gw=>obtain⟨vs,q,r⟩:=h;exact⟨vs,e.trans q,r.map g⟩
 |dK gw=>obtain⟨vs,q,r⟩:=h;exact⟨vs,e.trans q,r.map g⟩
 |ins c fs=>obtain⟨C,dx,l,hc,q,r⟩:=h;exact⟨C,dx,l,hc,e.trans q,r.map g⟩
theorem mq.hide(S:mq nm K ι H M)(hD:H D=none):mq nm K (ι.hide D) (upd H D (.lst [])) M:=by
 refine⟨S.len,S.nd,λa ha=>?_,λn o a hn ha=>?_⟩
 . rcases bx.mp ha with q|q
   . subst q;exact⟨(S.fresh hD).1,[],v5⟩
   . obtain⟨h1,vs,h2⟩:=S.del a q
     exact⟨h1,vs,by rw[j5 (j8 h2 hD)];exact h2⟩
 . have z:=S.obj n o a hn ha
   obtain⟨u,e,_⟩:=z.some;exact z.map (λd v r=>r.hide hD) (by rw[j5 (j8 e hD)])
theorem mq.grow(S:mq nm K ι H M)(hD:H D=some (.lst vs))(hm:D∈ι.δ):mq nm K ι (upd H D (.lst ws)) M:=by
 refine⟨S.len,S.nd,λa ha=>?_,λn o a hn ha=>?_⟩
 . obtain⟨h1,us,h2⟩:=S.del a ha
   by_cases z:a=D
   . subst z;exact⟨h1,ws,v5⟩
   . exact⟨h1,us,by rw[j5 z];exact h2⟩
 . have z:=S.obj n o a hn ha
   have ne:a≠D:=λe=>by subst e;exact(S.del a hm).1 (au ha)
   exact z.map (λd v r=>r.grow hD hm) (by rw[j5 ne])
theorem mq.show(S:mq nm K (ι.hide D) H M):mq nm K ι H M :=
 ⟨S.len,S.nd,λa ha=>S.del a (bc _ ha),λn o a hn ha=>(S.obj n o a hn ha).map (λd v r=>r.show) rfl⟩
structure LeD(D:Addr)(ι:Io)(H:Hp)(ι':Io)(H':Hp):Prop where
 ext:∃Y,ι'.l=ι.l++Y/\∀a∈Y,H a=none
 del:ι'.δ=D::ι.δ
 tup:∀a vs,H a=some (.tup vs)->H' a=some (.tup vs)
 Mj:∀a o u,H a=some (.Mj o u)->H' a=some (.Mj o u)
 lst:∀a vs,a∉ι.l->H a=some (.lst vs)->H' a=some (.lst vs)
 dom:∀a,H' a=none->H a=none
def LeD.toX(l:LeD D ι H ι' H')(hD:H D=none):LeX ι H ι' H':=⟨l.ext,λa h=>by
 rw[l.del] at h;rcases bx.mp h with q|q
 . exact .inr (by rw[q];exact hD)
 . exact .inl q,l.tup,l.Mj,l.lst⟩
def LeD.start(hD:H D=none)(o:HO):LeD D ι H (ι.hide D) (upd H D o) :=
 ⟨⟨[],by simp[Io.hide],by simp⟩,rfl,λa vs e=>by rw[j5 (j8 e hD)];exact e,λa _ _ e=>by rw[j5 (j8 e hD)];exact e,λa vs _ e=>by rw[j5 (j8 e hD)];exact e,
  λa h'=>Gb (λb u e=>⟨u,by rw[j5 (j8 e hD)];exact e⟩) h'⟩
def LeD.go(a:LeD D ι H ι1 H1)(b:Le ι1 H1 ι2 H2):LeD D ι H ι2 H2:=by
 obtain⟨Y,e1,h1⟩:=a.ext;obtain⟨Z,e2,h2⟩:=b.ext;have out:∀x o,x∉ι.l->H x=some o->x∉ι1.l:=λx o n h m=>by
  rw[e1] at m;rcases dw.mp m with q|q
  . exact n q
  . rw[h1 x q] at h;cases h
 refine⟨⟨Y++Z,by rw[e2,e1,xu],λx m=>?_⟩,b.del.trans a.del,λx vs h=>b.tup x vs (a.tup x vs h),λx o u h=>b.Mj x o u (a.Mj x o u h),λx vs n h=>b.lst x vs (out x _ n h) (a.lst x vs n h),λx h=>a.dom x (b.dom x h)⟩;rcases dw.mp m with q|q
 . exact h1 x q
 . exact a.dom x (h2 x q)
def LeD.grow(a:LeD D ι H ι1 H1)(h0:H D=none)(hD:H1 D=some (.lst vs)):LeD D ι H ι1 (upd H1 D (.lst ws)) :=
 ⟨a.ext,a.del,λx us h=>by rw[j5 (j8 h h0)];exact a.tup x us h,λx o u h=>by rw[j5 (j8 h h0)];exact a.Mj x o u h,λx us n h=>by rw[j5 (j8 h h0)];exact a.lst x us n h,
  λx h=>a.dom x (by
   by_cases z:x=D
   . rw[z,v5] at h;cases h
   . rw[j5 z] at h;exact h)⟩
def LeD.done(a:LeD D ι H ⟨ι1.l,D::ι1.δ⟩ H1):Le ι H ι1 H1 :=
 ⟨a.ext,(List.cons.inj a.del).2,a.tup,a.Mj,a.lst,a.dom⟩
inductive uz(K:Fg)(ι:Io)(H:Hp):En->St->Prop
 |nil:uz K ι H [] []
 |skp {y:Option V} {ρ:En} {σ:St} (t:uz K ι H ρ σ):uz K ι H (none::ρ) (y::σ)
 |has {d:Dv} {v:V} {ρ:En} {σ:St} (h:Rep K ι H d v) (t:uz K ι H ρ σ):uz K ι H (some d::ρ) (some v::σ)
theorem uz.Ka{K:Fg}{ι ι':Io}{H H':Hp}(le:LeX ι H ι' H'):∀{ρ:En}{σ:St},uz K ι H ρ σ->uz K ι' H' ρ σ
 |_,_,.nil=>.nil|_,_,.skp t=>.skp (uz.Ka le t)|_,_,.has h t=>.has (h.Ka le) (uz.Ka le t)
theorem uz.mono{K:Fg}{ι ι':Io}{H H':Hp}(le:Le ι H ι' H'):∀{ρ:En}{σ:St},uz K ι H ρ σ->uz K ι' H' ρ σ
 |_,_,.nil=>.nil|_,_,.skp t=>.skp (uz.mono le t)|_,_,.has h t=>.has (h.mono le) (uz.mono le t)
theorem uz.get{K:Fg}{ι:Io}{H:Hp}:∀{ρ:En}{σ:St}{i:Nat}{d:Dv},uz K ι H ρ σ->ρ[i]?=some (some d)->∃v,σ[i]?=some (some v)/\Rep K ι H d v
 |_,_,_,_,.nil,e=>by simp at e|_,_,0,_,.skp _,e=>by simp at e|_,_,0,_,.has h _,e=>by simp at e;subst e;exact⟨_,rfl,h⟩
 |_,_,i+1,d,.skp t,e=>by
  obtain⟨v,h1,h2⟩:=uz.get (i:=i) t (by simpa using e);exact⟨v,by simpa using h1,h2⟩
 |_,_,i+1,d,.has _ t,e=>by
  obtain⟨v,h1,h2⟩:=uz.get (i:=i) t (by simpa using e);exact⟨v,by simpa using h1,h2⟩
theorem uz.set{K:Fg}{ι:Io}{H:Hp}{d:Dv}{v:V}(r:Rep K ι H d v):∀{ρ:En}{σ:St}(i:Nat),uz K ι H ρ σ->uz K ι H (ρ.set i (some d)) (σ.set i (some v))
 |_,_,_,.nil=>.nil|_,_,0,.skp t=>.has r t|_,_,0,.has _ t=>.has r t|_,_,i+1,.skp t=>.skp (uz.set r i t)|_,_,i+1,.has h t=>.has h (uz.set r i t)
theorem uz.length{K:Fg}{ι:Io}{H:Hp}:∀{ρ:En}{σ:St},uz K ι H ρ σ->ρ.length=σ.length
 |_,_,.nil=>rfl|_,_,.skp t=>by rw[gn,gn,uz.length t]|_,_,.has _ t=>by rw[gn,gn,uz.length t]
theorem uz.append{K:Fg}{ι:Io}{H:Hp}:∀{ρ ρ':En}{σ σ':St},uz K ι H ρ σ->uz K ι H ρ' σ'->uz K ι H (ρ++ρ') (σ++σ')
 |_,_,_,_,.nil,r=>r|_,_,_,_,.skp t,r=>.skp (uz.append t r)|_,_,_,_,.has h t,r=>.has h (uz.append t r)
theorem uz.anv{K:Fg}{ι:Io}{H:Hp}:∀(k:Nat){σ:St},σ.length=k->uz K ι H (List.replicate k none) σ
 |0,[],_=>.nil|k+1,_::r,h=>.skp (uz.anv k (by simpa using h))
theorem uz.anw{K:Fg}{ι:Io}{H:Hp}:∀{ds:List Dv}{vs:List V},mj K ι H ds vs->uz K ι H (ds.map some) (vs.map some)
 |_,_,.nil=>.nil|_,_,.cons h t=>.has h (uz.anw t)
def gf{r:Res α}(h:r.bind f=.ok b M):∃a M1,r=.ok a M1/\f a M1=.ok b M:=by
 cases r with
 |ok a M1=>exact⟨a,M1,rfl,h⟩|err c M1=>cases h|bad=>cases h
def wk(h:Res.uv o M=.ok a M'):o=some a/\M'=M:=by
 cases o with
 |none=>cases h|some x=>cases h;exact⟨rfl,rfl⟩
def PE.weak(h:PE X e t)(w:∀σ H Q,t' σ H Q->t σ H Q):PE X e t':=λpins s σ H Q I q=>h pins s σ H Q I (w σ H Q q)
def PT.weak(h:PT X e t)(w:∀σ H Q,t' σ H Q->t σ H Q):PT X e t':=λpins s σ H Q I q=>h pins s σ H Q I (w σ H Q q)
def PA.weak(h:PA X es t)(w:∀σ H Q,t' σ H Q->t σ H Q):PA X es t':=λpos pins s σ H Q I q=>h pos pins s σ H Q I (w σ H Q q)
def PS.weak(h:PS X e t)(w:∀D σ H,t' D σ H->t D σ H):PS X e t':=λpins s σ H D I q=>h pins s σ H D I (w D σ H q)
def Qc.weak(h:Qc X e t)(w:∀D σ H,t' D σ H->t D σ H):Qc X e t':=λpins s σ H D I q=>h pins s σ H D I (w D σ H q)
def Ca.weak(h:Ca X f r)(w:∀x y H Q,r' x y H Q->r x y H Q):Ca X f r':=λpins s σ H x y v u Q I rx ry q=>h pins s σ H x y v u Q I rx ry (w x y H Q q)
section
variable(nm:Nm)(W:Ib)(K:Fg)
def tE(e:Ex):TE:=fun σ H Q=>∃ι ρ M d M',mq nm K ι H M/\uz K ι H ρ σ/\e.den W ρ M=.ok d M'/\∀ι' H' v,Le ι H ι' H'->mq nm K ι' H' M'->Rep K ι' H' d v->Q v H'
def tQ(e:Ex):TT:=fun σ H Q=>∃ι ρ M b M',mq nm K ι H M/\uz K ι H ρ σ/\e.den W ρ M=.ok (.bl b) M'/\∀ι' H',Le ι H ι' H'->mq nm K ι' H' M'->Q b H'
def Vq(es:Bs):TA:=fun σ H Q=>∃ι ρ M ds M',mq nm K ι H M/\uz K ι H ρ σ/\es.den W ρ M=.ok ds M'/\∀ι' H' vs,Le ι H ι' H'->mq nm K ι' H' M'->mj K ι' H' ds vs->Q vs H'
def Vr(D:Ends)(ι:Io)(H:Hp)(fl:MW.Flow)(ρ:En)(M:cu):Prop :=
 ∀ι' H' σ',Le ι H ι' H'->mq nm K ι' H' M->uz K ι' H' ρ σ' ->
  match fl with
  |.next=>D.nx σ' H'|.brk=>D.bk σ' H'|.cont=>D.ct σ' H'|.ret d=>∀v,Rep K ι' H' d v->D.rt v H'
def tS(st:Bg):TS:=λD σ H=>∃ι ρ M fl ρ' M',mq nm K ι H M/\uz K ι H ρ σ/\st.den W ρ M=.ok (fl,ρ') M'/\Vr nm K D ι H fl ρ' M'
def tSs(st:m7):TS:=λD σ H=>∃ι ρ M fl ρ' M',mq nm K ι H M/\uz K ι H ρ σ/\st.den W ρ M=.ok (fl,ρ') M'/\Vr nm K D ι H fl ρ' M'
end
def PE.of(h:PE X a t)(w:∀σ H Q ι ρ M d M',mq nm X.K ι H M->uz X.K ι H ρ σ->e'.den W ρ M=.ok d M'->(∀ι' H' v,Le ι H ι' H'->mq nm X.K ι' H' M'->Rep X.K ι' H' d v->Q v H')->t σ H Q):PE X a (tE nm W X.K e'):=PE.weak h fun σ H Q z_=>by obtain⟨ι,ρ,M,d,M',S,R,e,q⟩:=z_;exact w σ H Q ι ρ M d M' S R e q
def PT.of(h:PT X a t)(w:∀σ H Q ι ρ M b M',mq nm X.K ι H M->uz X.K ι H ρ σ->e'.den W ρ M=.ok (.bl b) M'->(∀ι' H',Le ι H ι' H'->mq nm X.K ι' H' M'->Q b H')->t σ H Q):PT X a (tQ nm W X.K e'):=PT.weak h fun σ H Q z_=>by obtain⟨ι,ρ,M,d,M',S,R,e,q⟩:=z_;exact w σ H Q ι ρ M d M' S R e q
def PA.of(h:PA X es t)(w:∀σ H Q ι ρ M ds M',mq nm X.K ι H M->uz X.K ι H ρ σ->es'.den W ρ M=.ok ds M'->(∀ι' H' vs,Le ι H ι' H'->mq nm X.K ι' H' M'->mj X.K ι' H' ds vs->Q vs H')->t σ H Q):PA X es (Vq nm W X.K es'):=PA.weak h fun σ H Q z_=>by obtain⟨ι,ρ,M,d,M',S,R,e,q⟩:=z_;exact w σ H Q ι ρ M d M' S R e q
def PS.of(h:PS X st t)(w:∀D σ H ι ρ M fl ρ' M',mq nm X.K ι H M->uz X.K ι H ρ σ->s'.den W ρ M=.ok (fl,ρ') M'->Vr nm X.K D ι H fl ρ' M'->t D σ H):PS X st (tS nm W X.K s'):=PS.weak h λD σ H z_=>by obtain⟨ι,ρ,M,fl,ρ',M',S,R,e,q⟩:=z_;exact w D σ H ι ρ M fl ρ' M' S R e q
def Qc.of(h:Qc X st t)(w:∀D σ H ι ρ M fl ρ' M',mq nm X.K ι H M->uz X.K ι H ρ σ->s'.den W ρ M=.ok (fl,ρ') M'->Vr nm X.K D ι H fl ρ' M'->t D σ H):Qc X st (tSs nm W X.K s'):=Qc.weak h λD σ H z_=>by obtain⟨ι,ρ,M,fl,ρ',M',S,R,e,q⟩:=z_;exact w D σ H ι ρ M fl ρ' M' S R e q
def one{X:Cx}{M1:cu}(S:mq nm X.K ι H M)(R:uz X.K ι H ρ σ)(ha:a'.den W ρ M=.ok x M1)(h:∀ι1 H1 v,Le ι H ι1 H1->mq nm X.K ι1 H1 M1->uz X.K ι1 H1 ρ σ->Rep X.K ι1 H1 x v->G v H1):tE nm W X.K a' σ H G :=
 ⟨ι,ρ,M,x,M1,S,R,ha,fun ι' H' v le S' r=>h ι' H' v le S' (R.mono le) r⟩
theorem two{X:Cx}{M1 M2:cu}{G:V->V->Hp->Prop}(S:mq nm X.K ι H M)(R:uz X.K ι H ρ σ)(ha:a'.den W ρ M=.ok x M1)(hb:b'.den W ρ M1=.ok y M2)(h:∀ι2 H2 v u,Le ι H ι2 H2->mq nm X.K ι2 H2 M2->uz X.K ι2 H2 ρ σ->Rep X.K ι2 H2 x v->Rep X.K ι2 H2 y u->G v u H2) :
 tE nm W X.K a' σ H λv H1=>tE nm W X.K b' σ H1 λu H2=>G v u H2 :=
 one S R ha fun ι1 H1 v Ul S1 R1 r1=>one S1 R1 hb fun ι2 H2 u zg S2 R2 r2=>h ι2 H2 v u (Ul.trans zg) S2 R2 (r1.mono zg) r2
set_option tactic.hygienic true in
def a6n(hN:X.N[i]?=some n)(hv:Vis X.env.scope n)(hd:(n==("__debug__" : Str))=false)(hcd:(n==("__classdict__" : Str))=false):PE X (.Name n pos) (tE nm W X.K (.var i)) :=
 PE.of (ayk hN hv hd hcd) fun σ H Q ι ρ M d M' S R e q=>by
  rw[MW.af7] at e;split at e
  . rename_i d' hd
    cases e;obtain⟨v,h1,h2⟩:=R.get hd;exact⟨v,h1,q ι H v (Le.refl _ _) S h2⟩
  . cases e
def a6o:PE X (.Constant (.int i) j pos) (tE nm W X.K (.cst (.int i))) :=
 PE.of ayl fun σ H Q ι ρ M d M' S R e q=>by rw[MW.Pb] at e;cases e;exact q ι H _ (Le.refl _ _) S (.int i)
def bcz:PE X (.Constant (.bool i) j pos) (tE nm W X.K (.cst (.bl i))) :=
 PE.of a4s fun σ H Q ι ρ M d M' S R e q=>by rw[MW.Pb] at e;cases e;exact q ι H _ (Le.refl _ _) S (.bl i)
def a6p:PE X (.Constant .none j pos) (tE nm W X.K (.cst .non)) :=
 PE.of aym fun σ H Q ι ρ M d M' S R e q=>by rw[MW.Pb] at e;cases e;exact q ι H _ (Le.refl _ _) S .non
def a6q:PE X (.Constant (.str i) j pos) (tE nm W X.K (.cst (.str i))) :=
 PE.of ayn fun σ H Q ι ρ M d M' S R e q=>by rw[MW.Pb] at e;cases e;exact q ι H _ (Le.refl _ _) S (.str i)
def azs(hg:Gl X n)(hm:X.mg n=some (.int i t))(hd:(n==("__debug__" : Str))=false):PE X (.Name n pos) (tE nm W X.K (.cst (.int i))) :=
 PE.of (ase (v:=.int i) hg hm ⟨t,rfl⟩ hd) fun σ H Q ι ρ M d M' S R e q=>by rw[MW.Pb] at e;cases e;exact q ι H _ (Le.refl _ _) S (.int i)
def rOp(nm:Nm)(K:Fg)(f:Dv->Dv->cu->Res Dv):R2:=λv u H Q=>∃ι M x y d M',mq nm K ι H M/\Rep K ι H x v/\Rep K ι H y u/\f x y M=.ok d M' /\
 ∀ι' H' w,Le ι H ι' H'->mq nm K ι' H' M'->Rep K ι' H' d w->Q w H'
def Ca.of(h:Ca X f r)(w:∀v u H Q ι M x y d M',mq nm X.K ι H M->Rep X.K ι H x v->Rep X.K ι H y u->g x y M=.ok d M'->(∀ι' H' w,Le ι H ι' H'->mq nm X.K ι' H' M'->Rep X.K ι' H' d w->Q w H')->r v u H Q):Ca X f (rOp nm X.K g) :=
 Ca.weak h λv u H Q z_=>by obtain⟨ι,M,x,y,d,M',S,rv,ru,e,q⟩:=z_;exact w v u H Q ι M x y d M' S rv ru e q
def a6r(ho:Ca X (binaryOp op) (rOp nm X.K (MW.Ey op')))(ha:PE X a (tE nm W X.K a'))(hb:PE X b (tE nm W X.K b')):PE X (.BinOp a op b pos) (tE nm W X.K (.bin op' a' b')) :=
 PE.of (a5h ho ha hb) fun σ H Q ι ρ M d M' S R e q=>by rw[MW.arb] at e;obtain⟨x,M1,e1,e⟩:=gf e;obtain⟨y,M2,e2,e⟩:=gf e;exact two S R e1 e2 fun ι2 H2 v u le S2 _ rv ru=>⟨ι2,M2,x,y,d,M',S2,rv,ru,e,fun ι' H' w Ww S' r=>q ι' H' w (le.trans Ww) S' r⟩
def a6s:Ca X (binaryOp .Sub) (rOp nm X.K (MW.Ey .sub)) :=
 Ca.of ay9 λv u H Q ι M x y d M' S rv ru e q=>by obtain⟨i,j,rfl,rfl,e2⟩:=MW.aeq e (by intro z;cases z);cases rv;cases ru;cases e2;exact⟨_,_,rfl,rfl,q ι H _ (Le.refl _ _) S (.int _)⟩
def atc{g:Int->Int->Int}{P:Int->Int->Prop}[∀i j,Decidable (P i j)](h:Ca X (binaryOp op) r)(hb:∀x y M,MW.Ey op' x y M=MW.ii x y (λi j=>if P i j then .ok (.int (g i j)) M else .bad) .bad)(w:∀i j H Q,P i j->Q (.int (g i j)) H->r (.int i) (.int j) H Q):Ca X (binaryOp op) (rOp nm X.K (MW.Ey op')) :=
 Ca.of h λv u H Q ι M x y d M' S rv ru e q=>by
  rw[hb] at e;obtain⟨i,j,rfl,rfl,e2⟩:=MW.aeq e (by intro z;cases z)
  by_cases hp:P i j
  . rw[cj hp] at e2
    cases rv;cases ru;cases e2;exact w i j H Q hp (q ι H _ (Le.refl _ _) S (.int _))
  . rw[bw hp] at e2;cases e2
def a6t:Ca X (binaryOp .Mod) (rOp nm X.K (MW.Ey .mod)):=atc azb (λ_ _ _=>rfl) λi j H Q h q=>⟨_,_,rfl,rfl,h,q⟩
def azt:Ca X (binaryOp .FloorDiv) (rOp nm X.K (MW.Ey .fdiv)):=atc aso (λ_ _ _=>rfl) λi j H Q h q=>⟨_,_,rfl,rfl,h,q⟩
def a6u:Ca X (binaryOp .Pow) (rOp nm X.K (MW.Ey .pow)):=atc azc (λ_ _ _=>rfl) λi j H Q h q=>⟨_,_,rfl,rfl,⟨h.1,by omega,h.2.2⟩,q⟩
set_option tactic.hygienic true in
def qy{X:Cx}(S:mq nm X.K ι H M)(r:Rep X.K ι H d v)(h:MW.fu M d=some ds):∃p vs,v=.ref p/\H p=some (.lst vs)/\mj X.K ι H ds vs:=by
 cases r with
 |vl e n r=>simp[MW.fu] at h;subst h;exact⟨_,_,rfl,e,r⟩
 |ref e =>
  rename_i n p;simp only[MW.fu] at h;split at h<;>simp at h;rename_i ds' hn;subst h;obtain⟨vs,h1,h2⟩:=S.obj n _ p hn e;exact⟨p,vs,rfl,h1,h2⟩
 |_=>simp[MW.fu] at h
def Jc{X:Cx}(S:mq nm X.K ι H M)(r:Rep X.K ι H d v)(h:MW.Aa M d=some ds):∃p vs,v=.ref p/\(H p=some (.lst vs)\/H p=some (.tup vs))/\mj X.K ι H ds vs:=by
 cases r with
 |tup e r=>simp[MW.Aa] at h;subst h;exact⟨_,_,rfl,.inr e,r⟩
 |vl e n r =>
  obtain⟨p,vs,h1,h2,h3⟩:=qy S (.vl e n r) (show MW.fu M _=_ from h);exact⟨p,vs,h1,.inl h2,h3⟩
 |ref e =>
  obtain⟨p,vs,h1,h2,h3⟩:=qy S (.ref e) (show MW.fu M _=_ from h);exact⟨p,vs,h1,.inl h2,h3⟩
 |_=>simp[MW.Aa,MW.fu] at h
def aad{X:Cx}(S:mq nm X.K ι H M)(hp:H p=none)(r:mj X.K ι H ds vs):mq nm X.K ι (upd H p (.lst vs)) M/\Le ι H ι (upd H p (.lst vs))/\Rep X.K ι (upd H p (.lst vs)) (.vl ds) (.ref p):=by obtain⟨S1,le⟩:=S.laid hp (.lst vs);exact⟨S1,le,.vl v5 (S.fresh hp) (r.mono le)⟩
def Qg{X:Cx}(S:mq nm X.K ι H M)(hp:H p=none)(r:mj X.K ι H ds vs):mq nm X.K ι (upd H p (.tup vs)) M/\Le ι H ι (upd H p (.tup vs))/\Rep X.K ι (upd H p (.tup vs)) (.tup ds) (.ref p):=by obtain⟨S1,le⟩:=S.laid hp (.tup vs);exact⟨S1,le,.tup v5 (r.mono le)⟩
def aae{X:Cx}(S:mq nm X.K ι H M)(hp:H p=none)(r:mj X.K ι H ds vs):mq nm X.K (ι.add p) (upd H p (.lst vs)) (M++[.lst ds])/\Le ι H (ι.add p) (upd H p (.lst vs))/\Rep X.K (ι.add p) (upd H p (.lst vs)) (.ref M.length) (.ref p):=by
 obtain⟨S1,le⟩:=S.new (H':=upd H p (.lst vs)) (o:=.lst ds) hp (λa u e=>by rw[j5 (j8 e hp)];exact e) λle=>⟨vs,v5,r.mono le⟩
 exact⟨S1,le,.ref (by show(ι.l++[p])[M.length]?=some p;rw[<- S.len];simp)⟩
def Vs:(100000:Nat)<=sizeLine:=by decide
set_option tactic.hygienic true in
def atd(h:MW.Ey .add x y M=.ok d M'):(∃i j,x=.int i/\y=.int j/\d=.int (i+j)/\M'=M) \/
 ∃xs ys,MW.fu M x=some xs/\MW.fu M y=some ys/\xs.length+ys.length<=100000/\d=.vl (xs++ys)/\M'=M:=by
 have h:MW.alk x y M=.ok d M':=h;unfold MW.alk at h;split at h<;>try cases h
 . exact .inl ⟨_,_,rfl,rfl,rfl,rfl⟩
 . split at h
   . split at h<;>cases h
     rename_i h1 h2 hl;exact .inr ⟨_,_,h1,h2,hl,rfl,rfl⟩
   . cases h
def a6v:Ca X (binaryOp .Mult) (rOp nm X.K (MW.Ey .mul)):=atc aza (λ_ _ _=>rfl) λi j H Q h q=>⟨_,_,rfl,rfl,h,q⟩
def a6w:Ca X (binaryOp .Add) (rOp nm X.K (MW.Ey .add)) :=
 Ca.of (ay8.or anp) λv u H Q ι M x y d M' S rv ru e q=>by
  have lists:∀xs ys,MW.fu M x=some xs->MW.fu M y=some ys->xs.length+ys.length<=100000->d=.vl (xs++ys)->M'=M->a6i v u H Q:=λxs ys h1 h2 hl hd hm=>by
   subst hd hm;obtain⟨p,vs,rfl,e1,r1⟩:=qy S rv h1;obtain⟨p2,vs2,rfl,e2,r2⟩:=qy S ru h2;refine⟨p,p2,vs,vs2,rfl,rfl,e1,e2,?_,λp3 h3=>?_⟩
   . rw[<- r1.length,<- r2.length];exact gq hl Vs
   . obtain⟨a,b,c⟩:=aad S h3 (r1.append r2)
     exact q ι _ _ b a c
  rcases atd e with⟨i,j,rfl,rfl,rfl,rfl⟩|⟨xs,ys,h1,h2,hl,h3,h4⟩
  . cases rv;cases ru
    exact .inl ⟨_,_,rfl,rfl,q ι H _ (Le.refl _ _) S (.int _)⟩
  . exact .inr (lists _ _ h1 h2 hl h3 h4)
def ate{t:TE}(h:PT X a (fun σ H Q=>t σ H λx H1=>∃c,x=.bl c/\Q c H1))(w:∀σ H Q,tE nm W X.K a' σ H Q->t σ H Q):PT X a (tQ nm W X.K a') :=
 PT.of h fun σ H Q ι ρ M b M' S R e q=>w σ H _ ⟨ι,ρ,M,_,M',S,R,e,fun ι' H' v le S' r=>by cases r;exact⟨b,rfl,q ι' H' le S'⟩⟩
def a6x(h:PE X a (tE nm W X.K a'))(he:∀whole,isTrue a X.env whole=(do let v <- whole;standAt a.pos;holding [v] (truthy v))):PT X a (tQ nm W X.K a') :=
 ate (ayq h he) λ_ _ _ q=>q
def Wx(nm:Nm)(K:Fg)(op:Cp):R2:=λv u H Q=>∃ι M x y b,mq nm K ι H M/\Rep K ι H x v/\Rep K ι H y u/\MW.Kr op x y M=some b/\Q (.bl b) H
def ab6{X:Cx}:∀σ H Q,tE nm W X.K (.cmp op' a' b') σ H Q->tOp (Wx nm X.K op') (tE nm W X.K a') (tE nm W X.K b') σ H Q:=fun σ H Q hh=>by obtain⟨ι,ρ,M,d,M',S,R,e,q⟩:=hh;rw[MW.ard] at e;obtain⟨x,M1,e1,e⟩:=gf e;obtain⟨y,M2,e2,e⟩:=gf e;obtain⟨e,rfl⟩:=wk e;obtain⟨b,e3,rfl⟩:=bz.mp e;exact two S R e1 e2 fun ι2 H2 v u le S2 _ rv ru=>⟨ι2,M',x,y,b,S2,rv,ru,e3,q ι2 H2 _ le S2 (.bl b)⟩
def a6y(ho:Ca X (compareOp op) (Wx nm X.K op'))(ha:PE X a (tE nm W X.K a'))(hb:PE X b (tE nm W X.K b'))(hm:behindInMarks op b=false):PE X (.Compare a [op] [b] pos) (tE nm W X.K (.cmp op' a' b')) :=
 PE.weak (asp ho ha hb hm) ab6
def a6z(ho:Ca X (compareOp op) (Wx nm X.K op'))(ha:PE X a (tE nm W X.K a'))(hb:PE X b (tE nm W X.K b'))(hm:behindInMarks op b=false):PT X (.Compare a [op] [b] pos) (tQ nm W X.K (.cmp op' a' b')) :=
 ate (t:=tOp (Wx nm X.K op') (tE nm W X.K a') (tE nm W X.K b')) (asq ho ha hb hm) ab6
def Vt{X:Cx}:∀σ H Q,tE nm W X.K (.chain op1 op2 a' b' c') σ H Q->Z4 (Wx nm X.K op1) (Wx nm X.K op2) (tE nm W X.K a') (tE nm W X.K b') (tE nm W X.K c') σ H Q:=fun σ H Q hh=>by
 obtain⟨ι,ρ,M,d,M',S,R,e,q⟩:=hh;rw[MW.ait] at e;obtain⟨x,M1,e1,e⟩:=gf e;obtain⟨y,M2,e2,e⟩:=gf e;obtain⟨k,M2',e3,e⟩:=gf e;obtain⟨e3,rfl⟩:=wk e3;refine two S R e1 e2 fun ι2 H2 v u le S2 R2 rv ru=>⟨ι2,M2',x,y,k,S2,rv,ru,e3,k,rfl,?_⟩
 cases k with
 |false =>
  have e:Res.ok (MW.D.bl false) M2'=.ok d M':=e;cases e;exact q ι2 H2 _ le S2 (.bl false)
 |true =>
  have e:((c'.den W ρ M2').bind λz M3=>Res.uv ((MW.Kr op2 y z M3).map MW.D.bl) M3)=.ok d M':=e;obtain⟨z,M3,e4,e⟩:=gf e;obtain⟨e,rfl⟩:=wk e;obtain⟨b,e5,rfl⟩:=bz.mp e;show tE nm W X.K c' σ H2 _;exact one S2 R2 e4 fun ι3 H3 w Yk S3 _ rw=>⟨ι3,M',y,z,b,S3,ru.mono Yk,rw,e5,q ι3 H3 _ (le.trans Yk) S3 (.bl b)⟩
def atf(h1:Ca X (compareOp o1) (Wx nm X.K op1))(h2:Ca X (compareOp o2) (Wx nm X.K op2))(ha:PE X a (tE nm W X.K a'))(hb:PE X b (tE nm W X.K b'))(hc:PE X c (tE nm W X.K c'))(hm:lastMarks [o1,o2] [b,c]=false) :
 PE X (.Compare a [o1,o2] [b,c] pos) (tE nm W X.K (.chain op1 op2 a' b' c')):=PE.weak (am3 h1 h2 ha hb hc hm) Vt
def atg(h1:Ca X (compareOp o1) (Wx nm X.K op1))(h2:Ca X (compareOp o2) (Wx nm X.K op2))(ha:PE X a (tE nm W X.K a'))(hb:PE X b (tE nm W X.K b'))(hc:PE X c (tE nm W X.K c'))(hm:lastMarks [o1,o2] [b,c]=false) :
 PT X (.Compare a [o1,o2] [b,c] pos) (tQ nm W X.K (.chain op1 op2 a' b' c')):=ate (t:=Z4 (Wx nm X.K op1) (Wx nm X.K op2) (tE nm W X.K a') (tE nm W X.K b') (tE nm W X.K c')) (am4 h1 h2 ha hb hc hm) Vt
def aaf(h:Ca X (compareOp op) (rI0 λi j=>.bl (f i j)))(e:∀x y M,MW.Kr op' x y M=MW.aba f x y):Ca X (compareOp op) (Wx nm X.K op') :=
 Ca.weak h λv u H Q hh=>by obtain⟨ι,M,x,y,b,S,rv,ru,e',q⟩:=hh;rw[e] at e';obtain⟨i,j,rfl,rfl,e2⟩:=MW.aeq e' (by intro z;cases z);cases rv;cases ru;cases e2;exact⟨_,_,rfl,rfl,q⟩
def bc1:Ca X (compareOp .Lt) (Wx nm X.K .lt):=aaf a5m λ_ _ _=>rfl
def bc2:Ca X (compareOp .LtE) (Wx nm X.K .le):=aaf a5n λ_ _ _=>rfl
def bc3:Ca X (compareOp .Gt) (Wx nm X.K .gt):=aaf a5o λ_ _ _=>rfl
def bc4:Ca X (compareOp .GtE) (Wx nm X.K .ge):=aaf a5p λ_ _ _=>rfl
set_option tactic.hygienic true in
def awi{rest:Ya}(ha:PE X a (tE nm W X.K a'))(hb:PE X (.BoolOp .And (b::rest) pos) (tE nm W X.K b')):PE X (.BoolOp .And (a::b::rest) pos) (tE nm W X.K (.and a' b')) :=
 PE.of (ayu ha hb) fun σ H Q ι ρ M d M' S R e q=>by
  rw[MW.af8] at e;obtain⟨x,M1,e1,e⟩:=gf e;refine one S R e1 fun ι1 H1 v le S1 R1 r=>?_
  cases r<;>try cases e
  rename_i k;refine⟨k,rfl,?_⟩;cases k with
  |false=>cases e;exact q ι1 H1 _ le S1 (.bl false)|true=>exact one S1 R1 e fun ι2 H2 w zg S2 _ r2=>q ι2 H2 w (le.trans zg) S2 r2
set_option tactic.hygienic true in
def a65{rest:Ya}(ha:PE X a (tE nm W X.K a'))(hb:PE X (.BoolOp .Or (b::rest) pos) (tE nm W X.K b')):PE X (.BoolOp .Or (a::b::rest) pos) (tE nm W X.K (.or a' b')) :=
 PE.of (a4w ha hb) fun σ H Q ι ρ M d M' S R e q=>by
  rw[MW.alm] at e;obtain⟨x,M1,e1,e⟩:=gf e;refine one S R e1 fun ι1 H1 v le S1 R1 r=>?_
  cases r<;>try cases e
  rename_i k;refine⟨k,rfl,?_⟩;cases k with
  |true=>cases e;exact q ι1 H1 _ le S1 (.bl true)|false=>exact one S1 R1 e fun ι2 H2 w zg S2 _ r2=>q ι2 H2 w (le.trans zg) S2 r2
def a66(ha:PE X a (tE nm W X.K a')):PE X (.UnaryOp .Not a pos) (tE nm W X.K (.not a')) :=
 PE.of (ayv ha) fun σ H Q ι ρ M d M' S R e q=>by
  rw[MW.af9] at e;obtain⟨x,M1,e1,e⟩:=gf e;refine one S R e1 fun ι1 H1 v le S1 R1 r=>?_
  cases r<;>try cases e
  exact⟨_,rfl,q ι1 H1 _ le S1 (.bl _)⟩
def W8{X:Cx}{M1:cu}(S:mq nm X.K ι H M)(R:uz X.K ι H ρ σ)(ha:a'.den W ρ M=.ok (.bl k) M1)(h:∀ι1 H1,Le ι H ι1 H1->mq nm X.K ι1 H1 M1->uz X.K ι1 H1 ρ σ->G k H1):tQ nm W X.K a' σ H G :=
 ⟨ι,ρ,M,k,M1,S,R,ha,fun ι' H' le S'=>h ι' H' le S' (R.mono le)⟩
set_option tactic.hygienic true in
def awj{rest:Ya}(ha:PT X a (tQ nm W X.K a'))(hb:PW X (.BoolOp .And (b::rest) pos) (tQ nm W X.K b')):PW X (.BoolOp .And (a::b::rest) pos) (tQ nm W X.K (.and a' b')) :=
 λwhole pins s σ H Q I ⟨ι,ρ,M,d,M',S,R,e,q⟩=>ays ha hb whole pins s σ H Q I (by
  rw[MW.af8] at e;obtain⟨x,M1,e1,e⟩:=gf e;cases x<;>try cases e
  rename_i k;refine W8 S R e1 fun ι1 H1 le S1 R1=>?_
  cases k with
  | false=>cases e;exact q ι1 H1 le S1|true=>exact W8 S1 R1 e fun ι2 H2 zg S2 _=>q ι2 H2 (le.trans zg) S2)
set_option tactic.hygienic true in
def a67{rest:Ya}(ha:PT X a (tQ nm W X.K a'))(hb:PW X (.BoolOp .Or (b::rest) pos) (tQ nm W X.K b')):PW X (.BoolOp .Or (a::b::rest) pos) (tQ nm W X.K (.or a' b')) :=
 λwhole pins s σ H Q I ⟨ι,ρ,M,d,M',S,R,e,q⟩=>a4t ha hb whole pins s σ H Q I (by
  rw[MW.alm] at e;obtain⟨x,M1,e1,e⟩:=gf e;cases x<;>try cases e
  rename_i k;refine W8 S R e1 fun ι1 H1 le S1 R1=>?_
  cases k with
  | true=>cases e;exact q ι1 H1 le S1|false=>exact W8 S1 R1 e fun ι2 H2 zg S2 _=>q ι2 H2 (le.trans zg) S2)
def a68(ha:PT X a (tQ nm W X.K a')):PT X (.UnaryOp .Not a pos) (tQ nm W X.K (.not a')) :=
 PT.of (ayt ha) fun σ H Q ι ρ M d M' S R e q=>by
  rw[MW.af9] at e;obtain⟨x,M1,e1,e⟩:=gf e;cases x<;>try cases e
  exact W8 S R e1 fun ι1 H1 le S1 R1=>q ι1 H1 le S1
set_option tactic.hygienic true in
def a69(hc:PT X c (tQ nm W X.K c'))(ha:PE X a (tE nm W X.K a'))(hb:PE X b (tE nm W X.K b')):PE X (.IfExp c a b pos) (tE nm W X.K (.ite c' a' b')) :=
 PE.of (amt hc ha hb) fun σ H Q ι ρ M d M' S R e q=>by
  rw[MW.arf] at e;obtain⟨x,M1,e1,e⟩:=gf e;cases x<;>try cases e
  rename_i k;refine W8 S R e1 fun ι1 H1 le S1 R1=>?_
  cases k with
  |true=>exact one S1 R1 e fun ι2 H2 w zg S2 _ r2=>q ι2 H2 w (le.trans zg) S2 r2
  |false=>exact one S1 R1 e fun ι2 H2 w zg S2 _ r2=>q ι2 H2 w (le.trans zg) S2 r2
def Tn:PA X [] (Vq nm W X.K .nil):=PA.of azh fun σ H Q ι ρ M ds M' S R e q=>by rw[MW.Ku] at e;cases e;exact q ι H _ (Le.refl _ _) S .nil
def Vu{X:Cx}{M1:cu}(S:mq nm X.K ι H M)(R:uz X.K ι H ρ σ)(ha:es'.den W ρ M=.ok ds M1)(h:∀ι1 H1 vs,Le ι H ι1 H1->mq nm X.K ι1 H1 M1->uz X.K ι1 H1 ρ σ->mj X.K ι1 H1 ds vs->G vs H1):Vq nm W X.K es' σ H G :=
 ⟨ι,ρ,M,ds,M1,S,R,ha,fun ι' H' v le S' r=>h ι' H' v le S' (R.mono le) r⟩
def Mu(ha:PE X a (tE nm W X.K a'))(hr:PA X es (Vq nm W X.K es'))(hs:starEach (a::es) X.env=(false,eval a X.env)::starEach es X.env):PA X (a::es) (Vq nm W X.K (.cons a' es')) :=
 PA.of (asu ha hr hs) fun σ H Q ι ρ M ds M' S R e q=>by rw[MW.Gf] at e;obtain⟨x,M1,e1,e⟩:=gf e;obtain⟨xs,M2,e2,e⟩:=gf e;cases e;exact one S R e1 fun ι1 H1 v le S1 R1 r1=>Vu S1 R1 e2 fun ι2 H2 vs zg S2 R2 r2=>q ι2 H2 _ (le.trans zg) S2 (.cons (r1.mono zg) r2)
noncomputable def Bs.len:Bs->Nat
 |.nil=>0|.cons _ r=>Bs.len r+1
theorem Es{W:Ib}:∀{es':Bs}{ρ:En}{M M1:cu}{ds:List Dv},es'.den W ρ M=.ok ds M1->ds.length=Bs.len es'
 |.nil,_,_,_,_,e=>by rw[MW.Ku] at e;cases e;rfl
 |.cons _ r,_,_,_,_,e=>by
  rw[MW.Gf] at e;obtain⟨x,M1,e1,e⟩:=gf e;obtain⟨xs,M2,e2,e⟩:=gf e;cases e;rw[gn,Es e2];rfl
def a7a(h:PA X es (Vq nm W X.K es'))(hl:Bs.len es'<=1000):PE X (.Tuple es k pos) (tE nm W X.K (.tup es')) :=
 PE.of (azi h) fun σ H Q ι ρ M d M' S R e q=>by
  rw[MW.arh] at e;obtain⟨ds,M1,e1,e⟩:=gf e;cases e;refine Vu S R e1 fun ι1 H1 vs le S1 R1 r=>⟨?_,λp hp=>?_⟩
  . rw[<- r.length,Es e1];exact gq hl (by decide)
  . obtain⟨S2,zg,r2⟩:=Qg S1 hp r
    exact q ι1 _ _ (le.trans zg) S2 r2
def azw(h:PA X es (Vq nm W X.K es'))(hl:Bs.len es'<=1000):PE X (.List es pos) (tE nm W X.K (.Fz es')) :=
 PE.of (am7 h) fun σ H Q ι ρ M d M' S R e q=>by
  rw[MW.aln] at e;obtain⟨ds,M1,e1,e⟩:=gf e;cases e;refine Vu S R e1 fun ι1 H1 vs le S1 R1 r=>⟨?_,λp hp=>?_⟩
  . rw[<- r.length,Es e1];exact gq hl (by decide)
  . obtain⟨S2,zg,r2⟩:=aad S1 hp r
    exact q ι1 _ _ (le.trans zg) S2 r2
def a7b(h:PA X es (Vq nm W X.K es'))(hl:Bs.len es'<=1000):PE X (.List es pos) (tE nm W X.K (.lst es')) :=
 PE.of (am7 h) fun σ H Q ι ρ M d M' S R e q=>by
  rw[MW.ari] at e;obtain⟨ds,M1,e1,e⟩:=gf e;cases e;refine Vu S R e1 fun ι1 H1 vs le S1 R1 r=>⟨?_,λp hp=>?_⟩
  . rw[<- r.length,Es e1];exact gq hl (by decide)
  . obtain⟨S2,zg,r2⟩:=aae S1 hp r
    exact q _ _ _ (le.trans zg) S2 r2
def a7c(ha:PE X a (tE nm W X.K a')):PE X (.UnaryOp .USub a pos) (tE nm W X.K (.neg a')) :=
 PE.of (a5i azd ha) fun σ H Q ι ρ M d M' S R e q=>by
  rw[MW.arc] at e;obtain⟨x,M1,e1,e⟩:=gf e;refine one S R e1 fun ι1 H1 v le S1 R1 r=>?_
  cases r<;>try cases e
  exact⟨_,rfl,q ι1 H1 _ le S1 (.int _)⟩
open PyProof.Rows (subscriptTail)
section
variable{κ:Type}[DecidableEq κ]{K:Fg}{ι:Io}{H:Hp}
theorem su.length{κ κ':Type}{f:κ->κ'->Prop}:∀{l:List (κ×Dv)}{l':List (κ'×V)},su K ι H f l l'->l.length=l'.length
 |_,_,.nil=>rfl|_,_,.cons _ _ t=>by rw[gn,gn,su.length t]
theorem su.look{k:κ}:∀{gw:List (κ×Dv)}{l:List (κ×V)},su K ι H (λk k'=>k=k') gw l->(∀d,MW.vz gw k=some d->∃v,Qd l k=some v/\Rep K ι H d v)/\(MW.vz gw k=none->Qd l k=none)
 |_,_,.nil=>⟨λd h=>by simp[MW.vz] at h,λ_=>rfl⟩
 |_,_,.cons (k:=q) (k':=q') hk h t=>by
  subst hk;obtain⟨a,b⟩:=su.look (k:=k) t
  by_cases e:q=k
  . refine⟨λd hd=>?_,λhd=>?_⟩
    . simp[MW.vz,qm,e] at hd
      subst hd;exact⟨_,Qe e,h⟩
    . simp[MW.vz,qm,e] at hd
  . have z:∀(d:Dv) r,MW.vz ((q,d)::r) k=MW.vz r k:=λd r=>by simp[MW.vz,qm,e]
    rw[z,Qf (by exact e)];exact⟨a,b⟩
theorem su.any{k:κ}:∀{gw:List (κ×Dv)}{l:List (κ×V)},su K ι H (λk k'=>k=k') gw l->(gw.any λkv=>decide (kv.1=k))=(l.any λkv=>decide (kv.1=k))
 |_,_,.nil=>rfl|_,_,.cons hk h t=>by subst hk;simp only[List.any_cons,su.any t]
theorem su.Ha{k:κ}{d:Dv}{v:V}(r:Rep K ι H d v):∀{gw:List (κ×Dv)}{l:List (κ×V)},su K ι H (λk k'=>k=k') gw l ->
 su K ι H (λk k'=>k=k') (gw.map λkv=>if kv.1=k then(kv.1,d) else kv) (l.map λkv=>if kv.1=k then(kv.1,v) else kv)
 |_,_,.nil=>.nil
 |_,_,.cons (k:=q) hk h t=>by
  subst hk;simp only[gm]
  by_cases e:q=k
  . simp only[e,ju];exact .cons rfl r (su.Ha r t)
  . simp only[e,jd];exact .cons rfl h (su.Ha r t)
theorem su.snoc{κ κ':Type}{f:κ->κ'->Prop}{k:κ}{k':κ'}{d:Dv}{v:V}(hk:f k k')(r:Rep K ι H d v):∀{l:List (κ×Dv)}{l':List (κ'×V)},su K ι H f l l'->su K ι H f (l++[(k,d)]) (l'++[(k',v)])
 |_,_,.nil=>.cons hk r .nil|_,_,.cons q h t=>.cons q h (su.snoc hk r t)
def su.put{k:κ}(r:Rep K ι H d v)(t:su K ι H (λk k'=>k=k') gw l):su K ι H (λk k'=>k=k') (MW.Bw gw k d) (putK l k v):=by
 unfold MW.Bw putK;rw[t.any (k:=k)]
 by_cases e:(l.any λkv=>decide (kv.1=k))=true
 . rw[cj e,cj e];exact t.Ha r
 . rw[bw e,bw e];exact t.snoc rfl r
theorem su.fld{nm:Nm}{f:Nat}:∀{fs:List (Nat×Dv)}{l:List (Str×V)},su K ι H (λk k'=>k'=nm.fld k) fs l->(∀d,fs.lookup f=some d->∃v,l.lookup (nm.fld f)=some v/\Rep K ι H d v)/\(fs.lookup f=none->l.lookup (nm.fld f)=none)
 |_,_,.nil=>⟨λd h=>by simp at h,λ_=>rfl⟩
 |_,_,.cons (k:=q) (k':=q') hk h t=>by
  subst hk;obtain⟨a,b⟩:=su.fld (nm:=nm) (f:=f) t;rw[m6,m6]
  by_cases e:f=q
  . subst e
    simp only[yq];exact⟨λd hd=>by cases hd;exact⟨_,rfl,h⟩,λhd=>by cases hd⟩
  . have e1:(f==q)=false:=by simpa using e
    have e2:(nm.fld f==nm.fld q)=false:=by
     cases z:nm.fld f==nm.fld q with
     |false=>rfl|true=>exact absurd (nm.inj _ _ (eq_of_beq z)) e
    rw[e1,e2];exact⟨a,b⟩
theorem su.Hh{nm:Nm}{f:Nat}{d:Dv}{v:V}(r:Rep K ι H d v):∀{fs:List (Nat×Dv)}{l:List (Str×V)},su K ι H (λk k'=>k'=nm.fld k) fs l->su K ι H (λk k'=>k'=nm.fld k) (MW.Sh f d fs) (L2.Hh (nm.fld f) v l)
 |_,_,.nil=>.cons rfl r .nil
 |_,_,.cons (k:=q) (k':=q') hk h t=>by
  subst hk;unfold MW.Sh L2.Hh
  by_cases e:q=f
  . subst e
    simp only[ju];exact .cons rfl r t
  . have e2:¬nm.fld q=nm.fld f:=λz=>e (nm.inj _ _ z)
    rw[bw e,bw e2];exact .cons rfl h (su.Hh r t)
def Rp(r:Rep K ι H d v)(h:MW.Qz d=some k):v=kV k:=by cases r<;>simp[MW.Qz] at h<;>subst h<;>rfl
set_option tactic.hygienic true in
theorem anz:∀{ds:List Dv}{vs:List V}{ks:List Kx},mj K ι H ds vs->MW.Y9 ds=some ks->vs=ks.map kV
 |_,_,_,.nil,h=>by simp[MW.Y9] at h;subst h;rfl
 |_,_,_,.cons r t,h=>by
  simp only[MW.Y9] at h;split at h
  . rename_i k ks' h1 h2
    cases h;rw[Rp r h1,anz t h2];rfl
  . cases h
def Vv(r:Rep K ι H d v)(h:MW.Q0 d=some ks):∃b,v=.ref b/\H b=some (.tup (ks.map kV)):=by
 cases r with
 |tup e r=>exact⟨_,rfl,by rw[<- anz r h];exact e⟩|_=>simp[MW.Q0] at h
end
def bc5(nm:Nm)(K:Fg):R2:=λv u H Q=>∃ι M x y d,mq nm K ι H M/\Rep K ι H x v/\Rep K ι H y u/\MW.zy x y M=some d/\∀w,Rep K ι H d w->Q w H
def aoa(hu:X.A.units+1<cLine):IxR X (λx y H Q=>∃a v,x=.ref a/\Mr H a y (some v)/\Q v H):=by intro value slice pins s σ H x y v u Q I rx ry h hs;obtain⟨p,z,rfl,g,q⟩:=h;cases rx;exact PyProof.Rows.tail_any (abz I g) PySem.F.slot_dict_getitem.lookup (ajm hu I g ry λw' s' I' r=>⟨z,H,I',r,q⟩) hs
set_option tactic.hygienic true in
def azx(hu:X.A.units+1<cLine):IxR X (bc5 nm X.K):=by
 intro value slice pins s σ H v u v' u' Q I rv ru ⟨ι,M,x,y,d,S,rx,ry,e,q⟩ hs;have seq:∀(p:Addr)(vs:List V)(ds:List Dv),v=.ref p->(G9 X.K H p vs\/Ie X.K H p vs)->mj X.K ι H ds vs->(match y with|.int i=>(MW.W4 ds.length i).bind λj=>ds[j]?|_=>none)=some d ->
  wpAny (model X.prog X.w) X.A (subscriptTail value slice v' u') (EP X pins σ Q) X.xe s:=λp vs ds hv hq r e=>by
  subst hv;obtain⟨i,hyi⟩:∃i,y=.int i:=by cases y<;>first|exact⟨_,rfl⟩|cases e
  subst hyi;cases ry;obtain⟨j,e1,e2⟩:=dm.mp e;obtain⟨z,h1,h2⟩:=r.get e2;have hat:atI vs i=some z:=by unfold atI;rw[show ixN vs.length i=some j from by rw[<- r.length];exact e1];exact h1
  rcases hq with hq|hq
  . exact L2.Bt value slice pins s σ H _ _ v' u' Q I rv ru ⟨p,vs,i,z,rfl,rfl,hq,hat,q z h2⟩ hs
  . exact L2.Hu value slice pins s σ H _ _ v' u' Q I rv ru ⟨p,vs,i,z,rfl,rfl,hq,hat,q z h2⟩ hs
 cases rx with
 |tup e1 r1=>exact seq _ _ _ rfl (.inr (Ie.of e1)) r1 (by cases ry<;>first|exact e|(simp[MW.zy,MW.Aa] at e))
 |vl e1 n1 r1=>exact seq _ _ _ rfl (.inl (G9.of e1)) r1 (by cases ry<;>first|exact e|(simp[MW.zy,MW.Aa,MW.fu] at e))
 |fz e1 r1=>exact seq _ _ _ rfl (.inl e1.sq) r1 (by cases ry<;>first|exact e|(simp[MW.zy] at e))
 |ref e1 =>
  rename_i n p;simp only[MW.zy] at e;split at e
  . rename_i gw hn
    obtain⟨l,h1,h2⟩:=S.obj n _ p hn e1;obtain⟨k,e2,e3⟩:=dm.mp e;obtain⟨z,h3,h4⟩:=(h2.look (k:=k)).1 d e3;obtain⟨b,rfl,hb⟩:=Vv ry e2;exact aoa hu value slice pins s σ H _ _ v' u' Q I rv ru ⟨p,z,rfl,by rw[<- h3];exact Mr.t h1 hb,q z h4⟩ hs
  . rename_i gw hn
    obtain⟨l,h1,h2⟩:=S.obj n _ p hn e1;obtain⟨k,e2,e3⟩:=dm.mp e;obtain⟨z,h3,h4⟩:=(h2.look (k:=k)).1 d e3;have hy:=Rp ry e2;subst hy;exact aoa hu value slice pins s σ H _ _ v' u' Q I rv ru ⟨p,z,rfl,by rw[<- h3];exact Mr.k h1,q z h4⟩ hs
  . cases hl:MW.fu M (.ref n) with
    |none=>rw[hl] at e;cases e
    |some ds =>
     obtain⟨p',vs,hp,h1,h2⟩:=qy S (.ref e1) hl;cases hp;rw[hl] at e;exact seq _ _ _ rfl (.inl (G9.of h1)) h2 (by cases ry<;>first|exact e|cases e)
 |_=>simp[MW.zy,MW.Aa,MW.fu] at e
def bc6(hu:X.A.units+1<cLine)(ha:PE X a (tE nm W X.K a'))(hb:PE X b (tE nm W X.K b'))(hs:Z6 b):PE X (.Subscript a b pos) (tE nm W X.K (.ix a' b')) :=
 PE.of (a6c (azx (nm:=nm) hu) ha hb hs) fun σ H Q ι ρ M d M' S R e q=>by rw[MW.axq] at e;obtain⟨x,M1,e1,e⟩:=gf e;obtain⟨y,M2,e2,e⟩:=gf e;obtain⟨e,rfl⟩:=wk e;exact two S R e1 e2 fun ι2 H2 v u le S2 _ rv ru=>⟨ι2,M',x,y,d,S2,rv,ru,e,λw r=>q ι2 H2 w le S2 r⟩
set_option tactic.hygienic true in
def a7d(hn:n=nm.fld f)(hcl:∀c C,nm.cls c=some C->Cls X.K C/\Fq X.K C n)(ha:PE X a (tE nm W X.K a'))(hb:attributeBase a n X.env (eval a X.env)=eval a X.env):PE X (.Attribute a n pos) (tE nm W X.K (.fld a' f)) :=
 PE.of (azf ha hb) fun σ H Q ι ρ M d M' S R e q=>by
  rw[MW.ark] at e;obtain⟨x,M1,e1,e⟩:=gf e;obtain⟨e,rfl⟩:=wk e;refine one S R e1 fun ι1 H1 v le S1 R1 r=>?_
  obtain⟨m,hxm⟩:∃m,x=.ref m:=by cases x<;>first|exact⟨_,rfl⟩|cases e
  subst hxm;obtain⟨p,rfl,hp⟩:∃p,v=.ref p/\ι1.l[m]?=some p:=by cases r with|ref z=>exact⟨_,rfl,z⟩
  simp only[MW.O9] at e;split at e
  . rename_i c fs hm
    obtain⟨C,dx,l,h1,h2,h3⟩:=S1.obj m _ p hm hp;obtain⟨z,h4,h5⟩:=(h3.fld (nm:=nm) (f:=f)).1 d e;subst hn;obtain⟨g1,g2⟩:=hcl c C h1;exact⟨p,C,dx,l,z,rfl,h2,g1,g2,h4,q ι1 H1 z le S1 h5⟩
  . cases e
open MW (Ex Bs OEx Og Bg m7 Lv Tg Res cu MO Ib Cp Op2 Blt Bm Kx Src)
noncomputable def Rq:Expr->Bool
 |.ListComp ..=>false|.SetComp ..=>false|.DictComp ..=>false|_=>true
def Mv(h:Rq e=true)(t:Option Expr)(l:Nat)(env:Env):swapsWith e t l env=pure false:=by cases e<;>first|rfl|(cases h)
noncomputable def Fw:Expr->Bool
 |.Set ..=>false|_=>true
def Df(h:Fw e=true)(env:Env)(x:Value):foldedSetIterable e env x=pure x:=by cases e<;>first|rfl|(cases h)
def Tp(h:Fw e=true)(op:CmpOp):behindInMarks op e=false:=by cases e<;>first|rfl|(cases h)
noncomputable def awk:Expr->Bool
 |.Tuple ..=>false|_=>true
noncomputable def noStar:Expr->Bool
 |.Starred ..=>false|_=>true
def km(h:noStar e=true)(es:Ya)(env:Env):starEach (e::es) env=(false,eval e env)::starEach es env:=by cases e<;>first|rfl|(cases h)
noncomputable def aag:Expr->Bool
 |.Slice ..=>false|_=>true
def aob(h:aag e=true):Z6 e:=by intro o i;cases e<;>first|rfl|(cases h)
noncomputable def Ba:Tg->List Nat
 |.name i=>[i]|.names is=>is
def tGt(nm:Nm)(K:Fg)(t:Tg):TG:=λv σ H Q=>∃ι ρ M d ρ',mq nm K ι H M/\uz K ι H ρ σ/\Rep K ι H d v/\t.put d ρ=some ρ'/\∀σ',uz K ι H ρ' σ'->σ'.length=σ.length->(∀j,j∉Ba t->σ'[j]?=σ[j]?)->Q σ' H
def PG.weak(h:PG X tg t)(w:∀v σ H Q,t' v σ H Q->t v σ H Q):PG X tg t':=λpins s σ H v u Q I r q=>h pins s σ H v u Q I r (w v σ H Q q)
def PG.of(h:PG X tg t)(w:∀v σ H Q ι ρ M d ρ',mq nm X.K ι H M->uz X.K ι H ρ σ->Rep X.K ι H d v->tt.put d ρ=some ρ'->(∀σ',uz X.K ι H ρ' σ'->σ'.length=σ.length->(∀j,j∉Ba tt->σ'[j]?=σ[j]?)->Q σ' H)->t v σ H Q):PG X tg (tGt nm X.K tt) :=
 PG.weak h λv σ H Q z_=>by obtain⟨ι,ρ,M,d,ρ',S,R,r,e,q⟩:=z_;exact w v σ H Q ι ρ M d ρ' S R r e q
def azy(hN:X.N.Nodup)(hi:X.N[i]?=some n)(hx:Loc X.env.scope n)(hf:X.fn n=true\/X.env.scope.names.lookup n=some .local):PG X (.Name n pos) (tGt nm X.K (.name i)) :=
 PG.of (Z3 hN hi hx hf) λv σ H Q ι ρ M d ρ' S R r e q=>by cases e;exact q _ (R.set r i) (by simp) λj hj=>ur (λz=>hj (by simp[Ba,z]))
noncomputable def Jq:List Nat->List V->St->St
 |i::is,v::vs,σ=>Jq is vs (σ.set i (some v))|_,_,σ=>σ
theorem Vw{ι:Io}{H:Hp}{K:Fg}:∀{is:Y3}{ds:List Dv}{vs:List V}{ρ:En}{σ:St},uz K ι H ρ σ->mj K ι H ds vs->uz K ι H (MW.Oi is ds ρ) (Jq is vs σ)
 |[],_,_,_,_,R,r=>by cases r<;>exact R|_::_,_,_,_,_,R,.nil=>R|i::is,_,_,_,_,R,.cons h t=>Vw (is:=is) (R.set h i) t
theorem Qh:∀{is:Y3}{vs:List V}{σ:St}{j:Nat},j∉is->(Jq is vs σ)[j]?=σ[j]?
 |[],vs,σ,j,_=>by cases vs<;>rfl|i::is,[],σ,j,_=>rfl
 |i::is,v::vs,σ,j,h=>by
  show(Jq is vs (σ.set i (some v)))[j]?=_;rw[Qh (λz=>h (bc _ z)),ur (λz=>h (by rw[z];exact cz))]
theorem Tq:∀{is:Y3}{vs:List V}{σ:St},(Jq is vs σ).length=σ.length
 |[],vs,σ=>by cases vs<;>rfl|_::_,[],σ=>rfl|i::is,v::vs,σ=>by show(Jq is vs (σ.set i (some v))).length=_;rw[Tq,List.length_set]
inductive Jr(X:Cx):List Expr->List Nat->Prop
 |nil:Jr X [] []
 |cons {n:Str} {p:Pos} {i:Nat} {ts:Ya} {is:Y3} (hi:X.N[i]?=some n) (hx:Loc X.env.scope n) (hf:X.fn n=true\/X.env.scope.names.lookup n=some .local) (t:Jr X ts is):Jr X (.Name n p::ts) (i::is)
theorem ab7{X:Cx}(hN:X.N.Nodup):∀{ts:Ya}{is:Y3},Jr X ts is->PGs X ts (λvs σ H Q=>vs.length=is.length/\Q (Jq is vs σ) H)
 |_,_,.nil=>λpins s σ H vs us Q I r q=>by
  obtain⟨h1,h2⟩:=q;have hv:vs=[]:=yl.mp h1;subst hv;exact asl pins s σ H [] us Q I r ⟨rfl,h2⟩
 |_,_,.cons hi hx hf t=>λpins s σ H vs us Q I r q=>by
  obtain⟨h1,h2⟩:=q;cases vs with
  |nil=>simp at h1|cons v vs=>exact amw (Z3 hN hi hx hf) (ab7 hN t) (by rfl) pins s σ H (v::vs) us Q I r ⟨v,vs,rfl,by simpa using h1,h2⟩
theorem Ei{X:Cx}{env:Env}:∀{ts:Ya}{is:Y3},Jr X ts is->(assignEach ts env).length=is.length/\(assignEach ts env).findIdx? (·.1)=none
 |_,_,.nil=>⟨rfl,rfl⟩
 |_,_,.cons hi hx hf t=>by
  obtain⟨g1,g2⟩:=Ei (env:=env) t;refine⟨by simp[assignEach,g1],?_⟩;simp[assignEach,List.findIdx?_cons];simpa using g2
set_option tactic.hygienic true in
def ath(hc:X.calm=true)(hN:X.N.Nodup)(h:Jr X ts is):PG X (.Tuple ts k pos) (tGt nm X.K (.names is)) :=
 PG.of (ay0 hc (ab7 hN h) (Ei h).1 (Ei h).2) λv σ H Q ι ρ M d ρ' S R r e q=>by
  cases r with
  |tup e1 r1 =>
   simp only[Tg.put] at e;split at e<;>cases e;rename_i hl;exact⟨_,_,rfl,Ie.of e1,by rw[<- r1.length];exact hl,by rw[<- r1.length];exact hl,q _ (Vw R r1) Tq λj hj=>Qh hj⟩
  |_=>simp[Tg.put] at e
def aoc(he:PE X a (tE nm W X.K a'))(hg:PG X tg (tGt nm X.K t))(hs:swapsWithSole [tg] a pos.line X.env=pure false)(hw:swappedStores [tg] a X.env=pure none)(h1:(assignEach [tg] X.env).map (·.2)=[assign tg X.env]) :
 PS X (.Assign [tg] a pos) (tS nm W X.K (.asg (.tg t) a')) :=
 PS.of (amx he hg hs hw h1) λD σ H ι ρ M fl ρ' M' S R e q=>by rw[MW.Zb] at e;obtain⟨x,M1,e1,e⟩:=gf e;obtain⟨ρ2,M2,e2,e⟩:=gf e;cases e;rw[MW.alw] at e2;obtain⟨e3,e4⟩:=wk e2;subst e4;exact one S R e1 fun ι1 H1 v le S1 R1 r=>⟨ι1,ρ,_,x,ρ',S1,R1,r,e3,fun σ' R' _ _=>q ι1 H1 σ' le S1 R'⟩
def azz(he:PE X a (tE nm W X.K a'))(hs:swapsWith a none pos.line X.env=pure false):PS X (.Expr a pos) (tS nm W X.K (.expr a')) :=
 PS.of (asj he hs) λD σ H ι ρ M fl ρ' M' S R e q=>by rw[MW.arn] at e;obtain⟨x,M1,e1,e⟩:=gf e;cases e;exact one S R e1 fun ι1 H1 v le S1 R1 r=>q ι1 H1 σ le S1 R1
def a7e(he:PE X a (tE nm W X.K a')):PS X (.Return (some a) pos) (tS nm W X.K (.ret a')) :=
 PS.of (ayx he) λD σ H ι ρ M fl ρ' M' S R e q=>by rw[MW.axt] at e;obtain⟨x,M1,e1,e⟩:=gf e;cases e;exact one S R e1 fun ι1 H1 v le S1 R1 r=>q ι1 H1 σ le S1 R1 v r
def az0:PS X (.Pass pos) (tS nm W X.K .pass) :=
 PS.of asi λD σ H ι ρ M fl ρ' M' S R e q=>by rw[MW.arp] at e;cases e;exact q ι H σ (Le.refl _ _) S R
def a7f:PS X (.Break pos) (tS nm W X.K .brk) :=
 PS.of amv λD σ H ι ρ M fl ρ' M' S R e q=>by rw[MW.axu] at e;cases e;exact q ι H σ (Le.refl _ _) S R
def az1:PS X (.Continue pos) (tS nm W X.K .cont) :=
 PS.of abw λD σ H ι ρ M fl ρ' M' S R e q=>by rw[MW.aro] at e;cases e;exact q ι H σ (Le.refl _ _) S R
def Vr.mono{X:Cx}(le:Le ι H ι' H')(q:Vr nm X.K D ι H fl ρ M):Vr nm X.K D ι' H' fl ρ M:=fun ι2 H2 σ2 zg S2 R2=>q ι2 H2 σ2 (le.trans zg) S2 R2
set_option tactic.hygienic true in
def a7g(hc:PT X c (tQ nm W X.K c'))(ht:Qc X ts (tSs nm W X.K ts'))(hf:Qc X fs (tSs nm W X.K fs')):PS X (.If c ts fs pos) (tS nm W X.K (.iff c' ts' fs')) :=
 PS.of (a5a hc ht hf) λD σ H ι ρ M fl ρ' M' S R e q=>by
  rw[MW.axs] at e;obtain⟨x,M1,e1,e⟩:=gf e;cases x<;>try cases e
  rename_i k;refine W8 S R e1 fun ι1 H1 le S1 R1=>?_
  cases k with
  |true=>exact⟨ι1,ρ,M1,fl,ρ',M',S1,R1,e,q.mono le⟩|false=>exact⟨ι1,ρ,M1,fl,ρ',M',S1,R1,e,q.mono le⟩
def az2:Qc X [] (tSs nm W X.K .nil):=Qc.of ash λD σ H ι ρ M fl ρ' M' S R e q=>by rw[MW.arq] at e;cases e;exact q ι H σ (Le.refl _ _) S R
def ati{rest:List Stmt}(h1:PS X st (tS nm W X.K st'))(h2:Qc X rest (tSs nm W X.K rest')):Qc X (st::rest) (tSs nm W X.K (.cons st' rest')) :=
 Qc.of (amu h1 h2) λD σ H ι ρ M fl ρ' M' S R e q=>by
  rw[MW.alv] at e;obtain⟨⟨fl1,ρ1⟩,M1,e1,e⟩:=gf e;refine⟨ι,ρ,M,fl1,ρ1,M1,S,R,e1,fun ι1 H1 σ1 le S1 R1=>?_⟩;cases fl1 with
  |next=>exact⟨ι1,ρ1,M1,fl,ρ',M',S1,R1,e,q.mono le⟩|brk=>cases e;exact q ι1 H1 σ1 le S1 R1|cont=>cases e;exact q ι1 H1 σ1 le S1 R1|ret d=>cases e;exact q ι1 H1 σ1 le S1 R1
set_option tactic.hygienic true in
def a7h(hp:PassesOwn (model X.prog X.w) X.A X.env X.xe)(hc:PT X c (tQ nm W X.K c'))(hb:Qc X body (tSs nm W X.K Vx)):PS X (.While c body [] pos) (tS nm W X.K (.whl c' Vx)) :=
 PS.of (amy hp hc hb) λD σ H ι ρ M fl ρ' M' S R e q=>by
  rw[MW.Zc] at e;refine⟨λm σ1 H1=>∃ι1 ρ1 M1,Le ι H ι1 H1/\mq nm X.K ι1 H1 M1/\uz X.K ι1 H1 ρ1 σ1/\MW.El (c'.den W) (Vx.den W) m ρ1 M1=.ok (fl,ρ') M',⟨MW.aes,ι,ρ,M,Le.refl _ _,S,R,e⟩,?_⟩;rintro m σ1 H1 ⟨ι1,ρ1,M1,Ul,S1,R1,e1⟩;cases m with
  |zero=>cases e1
  |succ m =>
   simp only[MW.El] at e1;obtain⟨x,M2,e2,e1⟩:=gf e1;cases x<;>try cases e1
   rename_i k;refine W8 S1 R1 e2 fun ι2 H2 zg S2 R2=>?_
   cases k with
   |false=>cases e1;exact q ι2 H2 σ1 (Ul.trans zg) S2 R2
   |true =>
    obtain⟨⟨fl3,ρ3⟩,M3,e3,e1⟩:=gf e1;refine⟨fun σ4 H4=>∃ι4 ρ4 M4,Le ι H ι4 H4/\mq nm X.K ι4 H4 M4/\uz X.K ι4 H4 ρ4 σ4/\MW.El (c'.den W) (Vx.den W) m ρ4 M4=.ok (fl,ρ') M',fun σ4 H4 h4=>⟨m,m9 _,h4⟩,ι2,ρ1,M2,fl3,ρ3,M3,S2,R2,e3,fun ι4 H4 σ4 le4 S4 R4=>?_⟩;cases fl3 with
    |next=>exact⟨ι4,ρ3,M3,(Ul.trans zg).trans le4,S4,R4,e1⟩|cont=>exact⟨ι4,ρ3,M3,(Ul.trans zg).trans le4,S4,R4,e1⟩|brk=>cases e1;exact q ι4 H4 σ4 ((Ul.trans zg).trans le4) S4 R4|ret d=>cases e1;exact q ι4 H4 σ4 ((Ul.trans zg).trans le4) S4 R4
def aod(nm:Nm)(K:Fg)(ι:Io)(H:Hp)(s:Src)(J:It):Prop:=∀ι1 H1 M1,LeX ι H ι1 H1->mq nm K ι1 H1 M1 ->
 (∀i d,i<s.len->s.item i M1=some d->J.go i H1/\∀v H2,J.yld i H1 v H2->Le ι1 H1 ι1 H2/\mq nm K ι1 H2 M1/\Rep K ι1 H2 d v)/\(s.fin M1=true->J.stop s.len H1)
def tI(nm:Nm)(W:Ib)(K:Fg)(it:Og):TI:=fun σ H R=>∃ι ρ M s M',mq nm K ι H M/\uz K ι H ρ σ/\it.den W ρ M=.ok s M'/\∀ι' H' J,Le ι H ι' H'->mq nm K ι' H' M'->aod nm K ι' H' s J->R J H'
set_option tactic.hygienic true in
def a7j(hp:PassesOwn (model X.prog X.w) X.A X.env X.xe)(hc:X.calm=true)(hi:PI X tg iter (tI nm W X.K it))(hg:PG X tg (tGt nm X.K t))(hb:Qc X body (tSs nm W X.K Vx))(hs:Fw iter=true):PS X (.For tg iter body [] pos) (tS nm W X.K (.for_ t it Vx)) :=
 PS.of (ay4 hp hc hi hg hb (Df hs X.env)) λD σ H ι ρ M fl ρ' M' S R e q=>by
  rw[MW.Q5] at e;obtain⟨s,M1,e1,e⟩:=gf e;refine⟨ι,ρ,M,s,M1,S,R,e1,fun ι1 H1 J Ul S1 sj=>?_⟩;refine⟨λi m σ2 H2=>m=s.len-i/\i<=s.len/\∃ι2 ρ2 M2,Le ι1 H1 ι2 H2/\mq nm X.K ι2 H2 M2/\uz X.K ι2 H2 ρ2 σ2/\MW.Bb s.fin s.item (λd ρ M=>match t.put d ρ with|some ρ'=>Vx.den W ρ' M|none=>.bad) m i ρ2 M2=.ok (fl,ρ') M',
   ⟨s.len,rfl,jt _,ι1,ρ,M1,Le.refl _ _,S1,R.mono Ul,e⟩,?_⟩
  rintro i m σ2 H2 ⟨hm,hil,ι2,ρ2,M2,zg,S2,R2,e2⟩;obtain⟨go,stop⟩:=sj ι2 H2 M2 zg.toX S2;cases m with
  |zero =>
   simp only[MW.Bb] at e2;split at e2<;>cases e2;rename_i Om;have hi:i=s.len:=by lia
   subst hi;exact .inl ⟨stop Om,q ι2 H2 σ2 (Ul.trans zg) S2 R2⟩
  |succ m =>
   simp only[MW.Bb] at e2;split at e2
   . cases e2
   . rename_i d hd
     obtain⟨⟨fl3,ρ3⟩,M3,e3,e2⟩:=gf e2;obtain⟨g1,g2⟩:=go i d (by omega) hd;refine .inr ⟨g1,fun σ4 H4=>∃ι4 ρ4 M4,Le ι1 H1 ι4 H4/\mq nm X.K ι4 H4 M4/\uz X.K ι4 H4 ρ4 σ4/\MW.Bb s.fin s.item (λd ρ M=>match t.put d ρ with|some ρ'=>Vx.den W ρ' M|none=>.bad) m (i+1) ρ4 M4=.ok (fl,ρ') M',
      fun σ4 H4 ⟨ι4,ρ4,M4,h4⟩=>⟨m,m9 _,by omega,by omega,ι4,ρ4,M4,h4⟩,λv H3 yv=>?_⟩
     obtain⟨Yk,S3,r3⟩:=g2 v H3 yv;split at e3
     . rename_i ρ5 afj
       refine⟨ι2,ρ2,M2,d,ρ5,S3,R2.mono Yk,r3,afj,fun σ5 R5 _ _=>⟨ι2,ρ5,M2,fl3,ρ3,M3,S3,R5,e3,fun ι4 H4 σ4 le4 S4 R4=>?_⟩⟩;have leA:=(zg.trans Yk).trans le4;cases fl3 with
       |next=>exact⟨ι4,ρ3,M3,leA,S4,R4,e2⟩|cont=>exact⟨ι4,ρ3,M3,leA,S4,R4,e2⟩|brk=>cases e2;exact q ι4 H4 σ4 (Ul.trans leA) S4 R4|ret d=>cases e2;exact q ι4 H4 σ4 (Ul.trans leA) S4 R4
     . cases e3
section
variable{nm:Nm}{W:Ib}{X:Cx}{a b c:Expr}{a' b' c':Ex}{pos pos':Pos}{ι:Io}{H:Hp}{σ:St}{ρ:En}{M M1 M2:cu}{x y:Dv}{es:Ya}{es':Bs}{tg iter elt:Expr}
def PI.weak(h:PI X tg iter wi)(w:∀σ H R,wi' σ H R->wi σ H R):PI X tg iter wi':=λpins s σ H R I q=>h pins s σ H R I (w σ H R q)
def PI.of(h:PI X tg iter wi)(w:∀σ H R' ι ρ M s M',mq nm X.K ι H M->uz X.K ι H ρ σ->it.den W ρ M=.ok s M'->(∀ι' H' J,Le ι H ι' H'->mq nm X.K ι' H' M'->aod nm X.K ι' H' s J->R' J H')->wi σ H R'):PI X tg iter (tI nm W X.K it) :=
 PI.weak h fun σ H R' z_=>by obtain⟨ι,ρ,M,s,M',S,R,e,q⟩:=z_;exact w σ H R' ι ρ M s M' S R e q
def az3(hl:PE X l tl):PI X tg l (fun σ H R=>tl σ H λx H1=>∃a,x=.ref a/\((∃xs,G9 X.K H1 a xs)/\R (Itl X.K a) H1\/(∃xs,Ie X.K H1 a xs)/\R (Itt X.K a) H1)):=by
 intro pins s σ H R I h;refine Ar (hl pins s σ H _ I h) λv s1 z_=>?_
 obtain⟨x,H1,I1,r1,q1⟩:=z_;obtain⟨a,e,⟨⟨xs,hq⟩,q⟩|⟨⟨xs,hq⟩,q⟩⟩:=q1
 . subst e
   cases r1;obtain⟨xr,rv,p,hz⟩:=I1.list hq;refine wpAny_pyIter_list p.isList ?_;refine⟨s1.heap.objs.size,[s1.heap.objs.size],_,_,H1,rfl,I1.kept (t':=s1.toks) λb o e=>aq _ e,ajd a _,⟨_,bh _ rfl,rfl,rfl⟩,λb hb=>?_,q⟩;have e:b=s1.heap.objs.size:=by simpa using hb
   subst e;exact I1.amz (bu _) (I1.zp.fresh (bu _))
 . subst e
   cases r1;obtain⟨xr,rv,p,hz⟩:=I1.tuple hq;refine wpAny_pyIter_tuple (show s1.heap.IsTuple a xr.toArray from p) ?_;refine⟨s1.heap.objs.size,[s1.heap.objs.size],_,_,H1,rfl,I1.kept (t':=s1.toks) λb o e=>aq _ e,ae0 a _,⟨_,bh _ rfl,rfl,rfl⟩,λb hb=>?_,q⟩;have e:b=s1.heap.objs.size:=by simpa using hb
   subst e;exact I1.amz (bu _) (I1.zp.fresh (bu _))
def Yl{p:Addr}{ds:List Dv}{s:Src}(hs:∀ι1 H1 M1,LeX ι H ι1 H1->mq nm X.K ι1 H1 M1->(∀i d,s.item i M1=some d->∃vs v,H1 p=some (.lst vs)/\vs[i]?=some v/\Rep X.K ι1 H1 d v)/\(s.fin M1=true->∃vs,H1 p=some (.lst vs)/\vs.length<=s.len)) :
 aod nm X.K ι H s (Itl X.K p):=fun ι1 H1 M1 le S1=>by
 obtain⟨a,b⟩:=hs ι1 H1 M1 le S1;refine⟨λi d hi hd=>?_,λhf=>?_⟩
 . obtain⟨vs,v,h1,h2,h3⟩:=a i d hd
   refine⟨⟨vs,v,G9.of h1,h2⟩,λu H2 ⟨e,y⟩=>?_⟩;subst e;have:=y vs (G9.of h1);rw[h2] at this;cases this;exact⟨Le.refl _ _,S1,h3⟩
 . obtain⟨vs,h1,h2⟩:=b hf
   exact⟨vs,G9.of h1,h2⟩
set_option tactic.hygienic true in
def a7k(ha:PE X a (tE nm W X.K a')):PI X tg a (tI nm W X.K (.val a')) :=
 PI.of (az3 ha) fun σ H R' ι ρ M s M' S R e q=>by
  rw[MW.Hj] at e;obtain⟨x,M1,e1,e⟩:=gf e;obtain⟨e,rfl⟩:=wk e;refine one S R e1 fun ι1 H1 v le S1 R1 r=>?_
  cases r with
  |@tup p ds vs h1 r1 =>
   simp only[MW.srcOf] at e;cases e;refine⟨p,rfl,.inr ⟨⟨vs,Ie.of h1⟩,q ι1 H1 _ le S1 fun ι2 H2 M2 zg S2=>⟨λi d hi hd=>?_,λ_=>⟨vs,Ie.of (zg.tup _ _ h1),by rw[<- r1.length];exact bu _⟩⟩⟩⟩;have hd:ds[i]?=some d:=hd;obtain⟨v,g1,g2⟩:=(r1.Ka zg).get hd;refine⟨⟨vs,v,Ie.of (zg.tup _ _ h1),g1⟩,λu H3 ⟨ee,yy⟩=>?_⟩;subst ee;have:=yy vs (Ie.of (zg.tup _ _ h1));rw[g1] at this;cases this;exact⟨Le.refl _ _,S2,g2⟩
  |@vl p ds vs h1 n1 r1 =>
   simp only[MW.srcOf] at e;cases e;refine⟨p,rfl,.inl ⟨⟨vs,G9.of h1⟩,q ι1 H1 _ le S1 (Yl (ds:=ds) fun ι2 H2 M2 zg S2=>⟨λi d hd=>?_,λ_=>⟨vs,zg.lst _ _ n1.1 h1,by rw[<- r1.length];exact bu _⟩⟩)⟩⟩;have hd:ds[i]?=some d:=hd;obtain⟨v,g1,g2⟩:=(r1.Ka zg).get hd;exact⟨vs,v,zg.lst _ _ n1.1 h1,g1,g2⟩
  |@ref n p h1 =>
   simp only[MW.srcOf] at e;obtain⟨ds,hn,rfl⟩:∃ds,M'[n]?=some (.lst ds)/\s=.live n ds.length:=by
    split at e
    . rename_i ds hn;cases e;exact⟨ds,hn,rfl⟩
    . cases e
   obtain⟨vs,g1,g2⟩:=S1.obj n _ p hn h1;refine⟨p,rfl,.inl ⟨⟨vs,G9.of g1⟩,q ι1 H1 _ le S1 (Yl (ds:=ds) fun ι2 H2 M2 zg S2=>⟨λi d hd=>?_,λhf=>?_⟩)⟩⟩
   . simp only[Src.item] at hd
     split at hd
     . rename_i ds2 W2
       split at hd
       . obtain⟨vs2,k1,k2⟩:=S2.obj n _ p W2 (zg.get h1)
         obtain⟨v,k3,k4⟩:=k2.get hd;exact⟨vs2,v,k1,k3,k4⟩
       . cases hd
     . cases hd
   . simp only[Src.fin] at hf
     split at hf
     . rename_i ds2 W2
       obtain⟨vs2,k1,k2⟩:=S2.obj n _ p W2 (zg.get h1);refine⟨vs2,k1,?_⟩;rw[<- k2.length];have:ds2.length=ds.length:=by simpa using hf
       rw[this];exact bu _
     . cases hf
  |_=>simp[MW.srcOf] at e
set_option tactic.hygienic true in
def a7l(hg:Gl X "range")(hm:X.mg "range" = none)(ha:PE X a (tE nm W X.K a'))(W0:noStar a=true):PI X tg (.Call (.Name "range" pr) [a] [] pos) (tI nm W X.K (.Jz a')) :=
 PI.of (aje hg hm (Mu ha Tn (km W0 _ _)) (km W0 _ _)) fun σ H R' ι ρ M s M' S R e q=>by
  rw[MW.Ng] at e;obtain⟨x,M1,e1,e⟩:=gf e;refine Vu (es':=.cons a' .nil) (ds:=[x]) (M1:=M1) S R (by rw[MW.Gf,e1];simp) fun ι1 H1 vs le S1 R1 r=>?_
  obtain⟨i,hx⟩:∃i,x=.int i:=by cases x<;>first|exact⟨_,rfl⟩|cases e
  subst hx;have e:(if i.natAbs<=100000 then Res.ok (Src.con ((List.range i.toNat).map λ(k:Nat)=>MW.D.int (k:Int))) M1 else .bad)=.ok s M':=e;split at e<;>cases e;rename_i hi;cases r with
  |cons r1 r2 =>
   cases r1;cases r2;refine⟨i,rfl,by lia,by omega,q ι1 H1 _ le S1 fun ι2 H2 M2 zg S2=>⟨λj d hj hd=>?_,λ_=>?_⟩⟩
   . have hl:j<i.toNat:=by simpa[Src.len] using hj
     have hd:((List.range i.toNat).map λ(k:Nat)=>MW.D.int (k:Int))[j]?=some d:=hd;rw[iz,uc hl] at hd;have hd:MW.D.int (j:Int)=d:=by simpa using hd
     subst hd;refine⟨hl,λu H3 ⟨ee,yy⟩=>?_⟩;subst ee yy;exact⟨Le.refl _ _,S2,by rw[Int.zero_add];exact .int _⟩
   . show i.toNat<=_
     simp[Src.len]
def ajw(R:uz K ι H ρ σ):uz K ι H (ρ++List.replicate k none) (σ++List.replicate k none):=R.append (uz.anv k (by simp))
def aoe{σ2:St}(hn:σ.length=n)(ho:∀i∈Ba t,n<=i)(h:∀j,j∉Ba t->σ2[j]?=(σ++List.replicate k none)[j]?):∀(j:Nat) v,(σ++List.replicate k none)[j]?=some (some v)->σ2[j]?=some (some v):=λj v e=>by
 by_cases hj:j∈Ba t
 . have:=ho j hj
   rw[jf (a_ (f_ hn) this),List.getElem?_replicate] at e;split at e<;>simp at e
 . rw[h j hj];exact e
noncomputable def awm(o:Option Dv):List Dv:=match o with|some x=>[x]|none=>[]
set_option tactic.hygienic true in
def ab8(h:MW.By fin item body (k+1) i M=.ok ds M') :
 ∃d o M1 rest,item i M=some d/\body d M=.ok o M1/\MW.By fin item body k (i+1) M1=.ok rest M'/\ds=awm o++rest:=by
 simp only[MW.By] at h;split at h
 . cases h
 . rename_i d hd
   obtain⟨o,M1,e1,h⟩:=gf h;obtain⟨rest,M2,e2,h⟩:=gf h;cases h;exact⟨d,o,M1,rest,hd,e1,e2,by cases o<;>rfl⟩
def mj.snoc(r:mj K ι H ds vs)(h:Rep K ι H d v):mj K ι H (ds++[d]) (vs++[v]):=r.append (.cons h .nil)
set_option tactic.hygienic true in
def Um(e:MW.zf s body M1=.ok ds M2):s.len<=100000/\MW.By s.fin s.item body s.len 0 M1=.ok ds M2:=by
 unfold MW.zf at e;split at e
 . rename_i hl
   exact⟨hl,e⟩
 . cases e
noncomputable def keptAs(v:Bool)(ds:List Dv)(M:cu):Res Dv:=if v=true then .ok (.vl ds) M else MW.new (.lst ds) M
def ajx(h:(Ex.comp v k t it e').den W ρ M=.ok d M'):∃s M1 ds M2,it.den W ρ M=.ok s M1/\s.len<=100000 /\
 MW.By s.fin s.item (λd M=>match t.put d (ρ++List.replicate k none) with|some ρ'=>(e'.den W ρ' M).bind λx M'=>.ok (some x) M'|none=>.bad) s.len 0 M1=.ok ds M2/\keptAs v ds M2=.ok d M':=by
 rw[MW.Ks] at h;obtain⟨s,M1,e1,h⟩:=gf h;obtain⟨ds,M2,e2,h⟩:=gf h;exact⟨s,M1,ds,M2,e1,(Um e2).1,(Um e2).2,h⟩
def Io.adopt(ι:Io)(H:Hp)(D:Addr):Tr K (ι.hide D) H (ι.add D) H:=⟨λ_ _ e=>e,λ_ _ e n=>⟨e,λm=>(dw.mp m).elim n.1 λz=>n.2 (by rw[q9.mp z];exact cz),λm=>n.2 (bc _ m)⟩,λ_ _ e=>e,λn a e=>by
 have e:ι.l[n]?=some a:=e;show(ι.l++[D])[n]?=_;rw[dz (ak.mp e).1];exact e⟩
theorem Rep.adopt(r:Rep K (ι.hide D) H d v):Rep K (ι.add D) H d v:=r.tr (ι.adopt H D)
theorem mj.adopt(r:mj K (ι.hide D) H d v):mj K (ι.add D) H d v:=r.tr (ι.adopt H D)
theorem mq.adopt(S:mq nm K (ι.hide D) H M)(hd:H D=some (.lst vs))(r:mj K (ι.hide D) H ds vs)(hδ:ι.off D):mq nm K (ι.add D) H (M++[.lst ds]):=by
 refine⟨by have:=S.len;simp only[Io.hide] at this;simp[Io.add,this],?_,λa ha=>?_,λn o a hn ha=>?_⟩
 . exact yd.mpr ⟨S.nd,by simp,by
    intro x hx y hy;have:y=D:=by simpa using hy
    subst this;intro e;subst e;exact hδ.1 hx⟩
 . obtain⟨h1,vs,h2⟩:=S.del a (bc _ ha)
   exact⟨λm=>(dw.mp m).elim h1 λz=>hδ.2 (by rw[<- q9.mp z];exact ha),vs,h2⟩
 . rcases Bh hn with q|⟨q,rfl⟩
   . rcases Bh ha with z|⟨z,_⟩
     . exact(S.obj n o a q z).map (λd v r=>r.adopt) rfl
     . exact absurd (MW.wj q) (by rw[z,<- S.len];exact lq _)
   . rcases Bh ha with z|⟨_,rfl⟩
     . exact absurd (ak.mp z).1 (by rw[q,<- S.len];exact lq _)
     . exact⟨vs,hd,r.adopt⟩
def aof(S:mq nm K (ι.hide D) H M)(hd:H D=some (.lst vs))(r:mj K (ι.hide D) H ds vs)(hδ:ι.off D)(le:Le ι0 H0 ι H)(h0:H0 D=none)(h:keptAs v ds M=.ok d M') :
 ∃ι',Le ι0 H0 ι' H/\mq nm K ι' H M'/\Rep K ι' H d (.ref D):=by
 unfold keptAs at h;split at h
 . cases h
   exact⟨ι,le,S.show,.vl hd hδ r.show⟩
 . cases h
   refine⟨ι.add D,⟨?_,le.del,le.tup,le.Mj,le.lst,le.dom⟩,S.adopt hd r hδ,.ref ?_⟩
   . obtain⟨Y,e,hY⟩:=le.ext
     exact⟨Y++[D],by show ι.l++[D]=_;rw[e,xu],λa ha=>(dw.mp ha).elim (hY a) λz=>by rw[q9.mp z];exact h0⟩
   . show(ι.l++[D])[M.length]?=some D
     rw[<- S.len];simp[Io.hide]
def BodyOk(nm:Nm)(K:Fg)(σ2:St)(tc:TT)(te:TE)(ρ2:En)(M:cu)(o:Option Dv)(M':cu):Prop:=∀ι H (G1:V->Hp->Prop) (G0:Hp->Prop),mq nm K ι H M->uz K ι H ρ2 σ2 ->
 (∀ι' H' v,Le ι H ι' H'->mq nm K ι' H' M'->(match o with|some x=>Rep K ι' H' x v->G1 v H'|none=>G0 H'))->tc σ2 H λb H3=>if b=true then te σ2 H3 λv H4=>G1 v H4 else G0 H3
set_option tactic.hygienic true in
def Ym{N:Yf}(hk:N.length-X.N.length=k)(ho:∀i∈Ba t,X.N.length<=i)(hσ:σ.length=X.N.length)(S:mq nm X.K ι H M)(R:uz X.K ι H ρ σ)(e1:it.den W ρ M=.ok s M1)(hlen:s.len<=100000)(e2:MW.By s.fin s.item body s.len 0 M1=.ok ds M')(ek:keptAs v0 ds M'=.ok d0 M0)(q:∀ι' H' v,Le ι H ι' H'->mq nm X.K ι' H' M0->Rep X.K ι' H' d0 v->Q v H')(hb:∀d M2 o M3,body d M2=.ok o M3->∃ρ5,t.put d (ρ++List.replicate k none)=some ρ5/\∀σ5,BodyOk nm X.K σ5 tc te ρ5 M2 o M3):ab5 (N.length-X.N.length) (tI nm W X.K it) (tGt nm X.K t) tc te σ H Q:=by
 refine⟨ι,ρ,M,s,M1,S,R,e1,fun ι1 H1 J Ul S1 sj D hD=>?_⟩;rw[hk];refine⟨λi m H2=>m=s.len-i/\i<=s.len/\∃ι2 M2 acc vs rest,LeD D ι1 H1 (Io.hide ι2 D) H2/\mq nm X.K (Io.hide ι2 D) H2 M2/\H2 D=some (.lst vs)/\mj X.K (Io.hide ι2 D) H2 acc vs/\acc.length<=i /\
  MW.By s.fin s.item body m i M2=.ok rest M'/\ds=acc++rest,?_,?_⟩
 . exact⟨s.len,rfl,jt _,ι1,M1,[],[],ds,LeD.start hD _,S1.hide hD,v5,.nil,bu _,e2,rfl⟩
 . rintro i m H2 ⟨hm,hil,ι2,M2,acc,vs,rest,zg,S2,hd2,az4,Dq,e3,hds⟩
   have leP:Le ι1 H1 ι2 H2:=LeD.done zg;have bc9:ι2.δ=ι1.δ:=leP.del;have bda:ι2.off D:=⟨(S2.del D cz).1,λz=>by rw[bc9] at z;exact(S1.fresh hD).2 z⟩;obtain⟨go,stop⟩:=sj (Io.hide ι2 D) H2 M2 (zg.toX hD) S2;cases m with
   |zero =>
    simp only[MW.By] at e3;split at e3<;>cases e3;rename_i Om;refine hG λ_ _k=>?_
    have hi:i=s.len:=by lia
    subst hi;rw[Ai] at hds;subst hds;obtain⟨ι9,le9,S9,r9⟩:=aof S2 hd2 az4 bda leP hD ek;apply _k;exact .inl ⟨stop Om,q ι9 H2 _ (Ul.trans le9) S9 r9⟩
   |succ m =>
    refine hG λ_ _k=>?_
    obtain⟨d,o,M3,rest',h1,h2,h3,h4⟩:=ab8 e3;obtain⟨g1,g2⟩:=go i d (by lia) h1;apply _k;refine .inr ⟨g1,λv H3 yv=>?_⟩;refine hG λ_ _k=>?_
    obtain⟨Yk,S3,r3⟩:=g2 v H3 yv;obtain⟨ρ5,afj,bok⟩:=hb d M2 o M3 h2;have R3:uz X.K (Io.hide ι2 D) H3 ρ σ:=((R.mono Ul).Ka (zg.toX hD)).mono Yk;apply _k;refine⟨Io.hide ι2 D,ρ++List.replicate k none,M2,d,ρ5,S3,ajw R3,r3,afj,fun σ5 R5 l5 k5=>⟨l5,aoe hσ ho k5,?_⟩⟩;have hd3:=Yk.lst D vs (S2.del D cz).1 hd2;refine bok σ5 (Io.hide ι2 D) H3 _ _ S3 R5 (fun ι6 H6 u le6 S6=>by
     have hd6:=le6.lst D vs (S2.del D cz).1 hd3;have az5:LeD D ι1 H1 ι6 H6:=(zg.go Yk).go le6;have ei:ι6=Io.hide ⟨ι6.l,ι2.δ⟩ D:=by have:=le6.del;obtain⟨l6,δ6⟩:=ι6;simp only[Io.hide] at this ⊢;rw[this]
     rw[ei] at az5 S6;have awn:mj X.K (Io.hide ⟨ι6.l,ι2.δ⟩ D) H6 acc vs:=by rw[<- ei];exact(az4.mono Yk).mono le6
     cases o with
     |none =>
      refine⟨m,m9 _,by lia,by lia,⟨ι6.l,ι2.δ⟩,M3,acc,vs,rest',az5,S6,hd6,awn,a_ Dq x_,h3,?_⟩;rw[hds,h4];rfl
     |some x =>
      intro r6;rw[ei] at r6;have Hf:D∈(Io.hide ⟨ι6.l,ι2.δ⟩ D).δ:=cz;refine⟨vs,m,hd6,?_,m9 _,by lia,by lia,⟨ι6.l,ι2.δ⟩,M3,acc++[x],vs++[u],rest',az5.grow hD hd6,S6.grow hd6 Hf,v5,(awn.snoc r6).grow hd6 Hf,by simp;exact Dq,h3,?_⟩
      . rw[<- az4.length]
        exact Nat.lt_of_le_of_lt (gq Dq (gq hil hlen)) (by decide)
      . rw[hds,h4];simp[awm])
set_option tactic.hygienic true in
def Yn{N:Yf}(hk:N.length-X.N.length=k)(ho:∀i∈Ba t,X.N.length<=i):∀σ H Q,σ.length=X.N.length->tE nm W X.K (.comp v0 k t it e') σ H Q ->
 ab5 (N.length-X.N.length) (tI nm W X.K it) (tGt nm X.K t) (λ_ H Q=>Q true H) (tE nm W X.K e') σ H Q:=fun σ H Q hσ hh=>by
 obtain⟨ι,ρ,M,d,M',S,R,e,q⟩:=hh;obtain⟨s,M1,ds,M2,e1,hlen,e2,ek⟩:=ajx e;refine Ym hk ho hσ S R e1 hlen e2 ek q λd M2 o M3 hb=>?_
 split at hb
 . rename_i ρ5 afj
   obtain⟨x,M4,e5,hb⟩:=gf hb;cases hb;refine⟨ρ5,afj,fun σ5 ι5 H5 G1 G0 S5 R5 g=>?_⟩;show if true=true then _ else _
   rw[cj rfl];exact one (X:=X) S5 R5 e5 fun ι6 H6 u le6 S6 R6 r6=>g ι6 H6 u le6 S6 r6
 . cases hb
def ab9(h:(Ex.Ax v k t it c' e').den W ρ M=.ok d M'):∃s M1 ds M2,it.den W ρ M=.ok s M1/\s.len<=100000 /\
 MW.By s.fin s.item (λd M=>match t.put d (ρ++List.replicate k none) with|some ρ'=>(c'.den W ρ' M).bind λb M'=>(match b with|.bl true=>(e'.den W ρ' M').bind λx M''=>.ok (some x) M''|.bl false=>.ok none M'|_=>.bad)|none=>.bad) s.len 0 M1=.ok ds M2/\keptAs v ds M2=.ok d M':=by
 rw[MW.U7] at h;obtain⟨s,M1,e1,h⟩:=gf h;obtain⟨ds,M2,e2,h⟩:=gf h;exact⟨s,M1,ds,M2,e1,(Um e2).1,(Um e2).2,h⟩
set_option tactic.hygienic true in
def Tt{N:Yf}(hk:N.length-X.N.length=k)(ho:∀i∈Ba t,X.N.length<=i):∀σ H Q,σ.length=X.N.length->tE nm W X.K (.Ax v0 k t it c' e') σ H Q ->
 ab5 (N.length-X.N.length) (tI nm W X.K it) (tGt nm X.K t) (tQ nm W X.K c') (tE nm W X.K e') σ H Q:=fun σ H Q hσ hh=>by
 obtain⟨ι,ρ,M,d,M',S,R,e,q⟩:=hh;obtain⟨s,M1,ds,M2,e1,hlen,e2,ek⟩:=ab9 e;refine Ym hk ho hσ S R e1 hlen e2 ek q λd M2 o M3 hb=>?_
 split at hb
 . rename_i ρ5 afj
   obtain⟨x,M4,e5,hb⟩:=gf hb;refine⟨ρ5,afj,fun σ5 ι5 H5 G1 G0 S5 R5 g=>?_⟩;split at hb
   . obtain⟨y,M6,e6,hb⟩:=gf hb
     cases hb;refine W8 (X:=X) S5 R5 e5 fun ι6 H6 le6 S6 R6=>?_
     rw[cj rfl];exact one (X:=X) S6 R6 e6 fun ι7 H7 u le7 S7 R7 r7=>g ι7 H7 u (le6.trans le7) S7 r7
   . cases hb
     refine W8 (X:=X) S5 R5 e5 fun ι6 H6 le6 S6 R6=>?_
     rw[bw (by simp)];exact g ι6 H6 .non le6 S6
   . cases hb
 . cases hb
def PE.aca(h:PE X e t)(w:∀σ H Q,σ.length=X.N.length->t' σ H Q->t σ H Q):PE X e t':=λpins s σ H Q I q=>h pins s σ H Q I (w σ H Q I.len q)
def PS.aca(h:PS X st t)(w:∀D σ H,σ.length=X.N.length->t' D σ H->t D σ H):PS X st t':=λpins s σ H D I q=>h pins s σ H D I (w D σ H I.len q)
def az6(B:Dn X N scope)(Hs:X.calm=true)(hi:PI X tg iter (tI nm W X.K it))(hg:∀C fp s H,PG (Ko X N scope C fp s H) tg (tGt nm X.K t))(he:∀C fp s H,PE (Ko X N scope C fp s H) elt (tE nm W X.K e'))(hs:Fw iter=true)(hk:N.length-X.N.length=k)(ho:∀i∈Ba t,X.N.length<=i):PE X (.ListComp elt [⟨tg,iter,[],0⟩] scope pos) (tE nm W X.K (.comp v0 k t it e')) :=
 PE.aca (ag7 B Hs hi hg (λ_ _ _ _=>.inl ⟨rfl,rfl⟩) he (Df hs X.env)) (Yn hk ho)
def aog(B:Dn X N scope)(Hs:X.calm=true)(hi:PI X tg iter (tI nm W X.K it))(hg:∀C fp s H,PG (Ko X N scope C fp s H) tg (tGt nm X.K t))(hc:∀C fp s H,PT (Ko X N scope C fp s H) c (tQ nm W X.K c'))(he:∀C fp s H,PE (Ko X N scope C fp s H) elt (tE nm W X.K e'))(hs:Fw iter=true)(hk:N.length-X.N.length=k)(ho:∀i∈Ba t,X.N.length<=i):PE X (.ListComp elt [⟨tg,iter,[c],0⟩] scope pos) (tE nm W X.K (.Ax v0 k t it c' e')) :=
 PE.aca (ag7 B Hs hi hg (λ_ _ _ _=>.inr ⟨c,rfl,hc _ _ _ _⟩) he (Df hs X.env)) (Tt hk ho)
def acb(h:∀σ H Q,σ.length=X.N.length->tE nm W X.K e' σ H Q->tt σ H Q):∀D σ H,σ.length=X.N.length->tS nm W X.K (.asg (.tg (.name i)) e') D σ H->ay2 tt (agw i) D σ H:=λD σ H hσ hh=>by obtain⟨ι,ρ,M,fl,ρ',M',S,R,e,q⟩:=hh;rw[MW.Zb] at e;obtain⟨x,M1,e1,e⟩:=gf e;obtain⟨ρ2,M2,e2,e⟩:=gf e;cases e;rw[MW.alw] at e2;obtain⟨e3,e4⟩:=wk e2;subst e4;cases e3;exact h σ H _ hσ (one S R e1 fun ι1 H1 v le S1 R1 r=>q ι1 H1 _ le S1 (R1.set r i))
def ajy{y:Str}(B:Dn X N scope)(Hs:X.calm=true)(hi:PI X tg iter (tI nm W X.K it))(hg:∀C fp s H,PG (Ko X N scope C fp s H) tg (tGt nm X.K t))(he:∀C fp s H,PE (Ko X N scope C fp s H) elt (tE nm W X.K e'))(hs:Fw iter=true)(hk:N.length-X.N.length=k)(ho:∀i∈Ba t,X.N.length<=i)(hN:X.N.Nodup)(hy:X.N[i]?=some y)(hl:X.env.scope.names.lookup y=some .local)(hsw:swapsWith (.ListComp elt [⟨tg,iter,[],0⟩] scope pos) (some (.Name y py)) anu.line X.env=pure true):PS X (.Assign [.Name y py] (.ListComp elt [⟨tg,iter,[],0⟩] scope pos) anu) (tS nm W X.K (.asg (.tg (.name i)) (.comp v0 k t it e'))) :=
 PS.aca (ag8 B Hs hi hg (λ_ _ _ _=>.inl ⟨rfl,rfl⟩) he (Df hs X.env) hN hy hl hsw) (acb (Yn hk ho))
def acd{y:Str}(B:Dn X N scope)(Hs:X.calm=true)(hi:PI X tg iter (tI nm W X.K it))(hg:∀C fp s H,PG (Ko X N scope C fp s H) tg (tGt nm X.K t))(hc:∀C fp s H,PT (Ko X N scope C fp s H) c (tQ nm W X.K c'))(he:∀C fp s H,PE (Ko X N scope C fp s H) elt (tE nm W X.K e'))(hs:Fw iter=true)(hk:N.length-X.N.length=k)(ho:∀i∈Ba t,X.N.length<=i)(hN:X.N.Nodup)(hy:X.N[i]?=some y)(hl:X.env.scope.names.lookup y=some .local)(hsw:swapsWith (.ListComp elt [⟨tg,iter,[c],0⟩] scope pos) (some (.Name y py)) anu.line X.env=pure true):PS X (.Assign [.Name y py] (.ListComp elt [⟨tg,iter,[c],0⟩] scope pos) anu) (tS nm W X.K (.asg (.tg (.name i)) (.Ax v0 k t it c' e'))) :=
 PS.aca (ag8 B Hs hi hg (λ_ _ _ _=>.inr ⟨c,rfl,hc _ _ _ _⟩) he (Df hs X.env) hN hy hl hsw) (acb (Tt hk ho))
end
def spF(nm:Nm)(W:Ib)(K:Fg)(n f:Nat):Sp:=λvs H Q _=>∃ι M ds d M',mq nm K ι H M/\mj K ι H ds vs/\ds.length=n/\W.call f ds M=.ok d M'/\∀ι' H' v,Le ι H ι' H'->mq nm K ι' H' M'->Rep K ι' H' d v->Q v H'
def s_call(F:Eh X.prog X.w X.K X.mg X.base Z9 k fa fd ps (spF nm W X.K n f))(hr:zm k X.A)(hg:Gl X x)(hm:X.mg x=some (.ref fa))(hk:PySem.W.keepIn X.K (.ref fa)=true)(hb:Binds X.K fd ps [])(hlen:Bs.len es'=n)(ha:PA X (a::es) (Vq nm W X.K es'))(Qq:(x==("__debug__" : Str))=false)(he:starEach (a::es) X.env=(false,eval a X.env)::starEach es X.env)(Ge:(backTo pos (starEach es X.env)).any (·.1)=false) :
 PE X (.Call (.Name x p) (a::es) [] pos) (tE nm W X.K (.call f es')) :=
 PE.of (asv (E:=E0) F hr hg hm hk hb .nil ag5 ha Qq he Ge) fun σ H Q ι ρ M d M' S R e q=>by
  rw[MW.alq] at e;obtain⟨ds,M1,e1,e⟩:=gf e;refine Vu S R e1 fun ι1 H1 vs le S1 R1 r=>?_
  rw[Ai];exact⟨ι1,M1,ds,d,M',S1,r,(Es e1).trans hlen,e,fun ι' H' v Ww S' r'=>q ι' H' v (le.trans Ww) S' r'⟩
def az7(Mk0:Mk X.K C fa)(F:Eh X.prog X.w X.K X.mg X.base Z9 k fa fd ps (spF nm W X.K (n+1) f))(hr:zm (k+1) X.A)(hg:Gl X x)(hm:X.mg x=some (.ref C))(hb:Binds X.K fd ps [])(hcl:W.cls[ci]?=some cl)(Wz:cl.init=f)(hnm:nm.cls ci=some C)(hlen:Bs.len es'=n)(ha:PA X (a::es) (Vq nm W X.K es'))(Qq:(x==("__debug__" : Str))=false)(he:starEach (a::es) X.env=(false,eval a X.env)::starEach es X.env)(Ge:(backTo pos (starEach es X.env)).any (·.1)=false) :
 PE X (.Call (.Name x p) (a::es) [] pos) (tE nm W X.K (.make ci es')) :=
 PE.of (asx (E:=E0) Mk0 F hr hg hm hb .nil ag5 ha Qq he Ge) fun σ H Q ι ρ M d M' S R e q=>by
  rw[MW.abd] at e;obtain⟨ds,M1,e1,e⟩:=gf e;rw[hcl] at e;have e:((W.call cl.init (.ref M1.length::ds) (M1++[.ins ci []])).bind λr M2=>match r with|.non=>.ok (.ref M1.length) M2|_=>.bad)=.ok d M':=e;obtain⟨r0,M2,e2,e⟩:=gf e;refine Vu S R e1 fun ι1 H1 vs le S1 R1 r=>λp dx hp hdx Sg=>?_
  rw[Ai];have keep:∀a u,H1 a=some u->upd (upd H1 dx (.own p)) p (.ins C dx []) a=some u:=λa u e=>by rw[j5 (j8 e hp),j5 (j8 e hdx)];exact e
  obtain⟨S2,zg⟩:=S1.new (o:=.ins ci []) hp keep λ_=>⟨C,dx,[],hnm,v5,.nil⟩
  have rp:Rep X.K (ι1.add p) (upd (upd H1 dx (.own p)) p (.ins C dx [])) (.ref M1.length) (.ref p):=.ref (by show(ι1.l++[p])[M1.length]?=some p;rw[<- S1.len];simp);refine⟨ι1.add p,M1++[.ins ci []],.ref M1.length::ds,r0,M2,S2,.cons rp (r.mono zg),by rw[gn,Es e1,hlen],by rw[<- Wz];exact e2,fun ι' H' v Ww S' r'=>?_⟩;cases r'<;>try cases e
  exact⟨rfl,q ι' H' _ (le.trans (zg.trans Ww)) S' (rp.mono Ww)⟩
theorem Vy{nm:Nm}{ι:Io}{H:Hp}{m:Str}{K:Fg}(hno:∀i,nm.fld i≠m):∀{fs:List (Nat×Dv)}{l:List (Str×V)},su K ι H (λk k'=>k'=nm.fld k) fs l->l.lookup m=none
 |_,_,.nil=>rfl
 |_,_,.cons (k:=kk) (k':=kk') hk h t=>by
  subst hk;rw[m6];have z:(m==nm.fld kk)=false:=by
   cases z:m==nm.fld kk with
   |false=>rfl|true=>exact absurd (eq_of_beq z).symm (hno kk)
  rw[z];exact Vy hno t
def az8{nm:Nm}{W:Ib}{X:Cx}{a o:Expr}{o':Ex}{pos apos:Pos}{es:Ya}{es':Bs}{k n f:Nat}{fa C:Addr}{fd:FuncData}{ps:Yf}{m:Str}{mi ci:Nat}{cl:MW.Cl}{pl:Sem Bool}(ho:PE X o (tE nm W X.K o'))(c0:Cls X.K C)(hme:Meth X.K C m fa)(F:Eh X.prog X.w X.K X.mg X.base Z9 k fa fd ps (spF nm W X.K (n+1) f))(hr:zm k X.A)(hb:Binds X.K fd ps [])
 (az9:∀c' cl',W.cls[c']?=some cl'->∀g,cl'.meths.lookup mi=some g->nm.cls c'=some C/\g=f) (hno:∀i,nm.fld i≠m)
 (hlen:Bs.len es'=n) (ha:PA X (a::es) (Vq nm W X.K es')) (he:starEach (a::es) X.env=(false,eval a X.env)::starEach es X.env) (Ge:(backTo pos (starEach es X.env)).any (·.1)=false)
 (ht:eval (.Call (.Attribute o m apos) (a::es) [] pos) X.env=(do
  let ov <- eval o X.env
  standAt apos.atName
  let (f,first) <- holding [ov] (getMethod ov m pl)
  callWith pos f first (backTo pos (starEach (a::es) X.env)) (backToKw pos (keywordEach [] X.env)))) :
 PE X (.Call (.Attribute o m apos) (a::es) [] pos) (tE nm W X.K (.meth o' mi es')) :=
 PE.of (asw (E:=E0) ho c0 hme F hr hb .nil ag5 ha he Ge ht) fun σ H Q ι ρ M d M' S R e q=>by
  rw[MW.Pg] at e;obtain⟨x,M1,e1,e⟩:=gf e;obtain⟨ds,M2,e2,e⟩:=gf e;refine one S R e1 fun ι1 H1 v le S1 R1 r=>?_
  obtain⟨j,hx⟩:∃j,x=.ref j:=by cases x<;>first|exact⟨_,rfl⟩|cases e
  subst hx;obtain⟨p,rfl,hp⟩:∃p,v=.ref p/\ι1.l[j]?=some p:=by cases r with|ref z=>exact⟨_,rfl,z⟩
  have e:(match M1[j]? with
   | some (.ins c _)=>(match(W.cls[c]?).bind λC=>C.meths.lookup mi with
    | some f=>W.call f (.ref j::ds) M2|none=>.bad)
   | _=>.bad)=Res.ok d M':=e
  cases hM:M1[j]? with
  |none=>rw[hM] at e;cases e
  |some ob =>
   rw[hM] at e;cases ob with
   |ins ci fs =>
    have e:(match(W.cls[ci]?).bind λC=>C.meths.lookup mi with|some f=>W.call f (.ref j::ds) M2|none=>.bad)=Res.ok d M':=e;cases hL:(W.cls[ci]?).bind λC=>C.meths.lookup mi with
    |none=>rw[hL] at e;cases e
    |some g =>
     rw[hL] at e;have e:W.call g (.ref j::ds) M2=.ok d M':=e;obtain⟨cl',h1,h2⟩:=dm.mp hL;obtain⟨h3,rfl⟩:=az9 ci cl' h1 g h2;obtain⟨C',dx,l,g1,g2,g3⟩:=S1.obj j _ p hM hp;rw[h3] at g1;cases g1;have a7n:l.lookup m=none:=Vy hno g3;refine⟨p,dx,l,rfl,g2,a7n,Vu S1 R1 e2 fun ι2 H2 vs zg S2 R2 r2=>?_⟩;rw[Ai];exact⟨ι2,M2,.ref j::ds,d,M',S2,.cons (r.mono zg) r2,by rw[gn,Es e2,hlen],e,fun ι' H' v Ww S' r'=>q ι' H' v ((le.trans zg).trans Ww) S' r'⟩
   |_=>cases e
def a0a:PE X (.Dict [] [] pos) (tE nm W X.K .aa9):=PE.of ani fun σ H Q ι ρ M d M' S R e q=>by
 rw[MW.alo] at e;cases e;intro p hp;obtain⟨S2,zg⟩:=S.new (o:=.dT []) (H':=upd H p (.dT [])) hp (λa u e=>by rw[j5 (j8 e hp)];exact e) λ_=>⟨[],v5,.nil⟩
 exact q _ _ _ zg S2 (.ref (by show(ι.l++[p])[M.length]?=some p;rw[<- S.len];simp))
def a0b:PE X (.Dict [] [] pos) (tE nm W X.K .aek):=PE.of anh fun σ H Q ι ρ M d M' S R e q=>by
 rw[MW.alp] at e;cases e;intro p hp;obtain⟨S2,zg⟩:=S.new (o:=.dK []) (H':=upd H p (.dK [])) hp (λa u e=>by rw[j5 (j8 e hp)];exact e) λ_=>⟨[],v5,.nil⟩
 exact q _ _ _ zg S2 (.ref (by show(ι.l++[p])[M.length]?=some p;rw[<- S.len];simp))
def bdd(nm:Nm)(K:Fg):ayy:=λo i v H Q=>∃ι M x y d M',mq nm K ι H M/\Rep K ι H x o/\Rep K ι H y i/\Rep K ι H d v/\MW.setOp x y d M=some M'/\∀H',Le ι H ι H'->mq nm K ι H' M'->Q H'
def Qi(h:n<100000):n<sizeLine:=gh h Vs
set_option tactic.hygienic true in
def atj(hu:X.A.units+1<cLine):ayz X (bdd nm X.K):=by
 intro pins s σ H o i v ov iv u Q I ro ri rv hh;obtain⟨ι,M,x,y,d,M',S,rx,ry,rd,e,q⟩:=hh;obtain⟨j,hx⟩:∃j,x=.ref j:=by cases x<;>first|exact⟨_,rfl⟩|cases e
 subst hx;obtain⟨p,rfl,hp⟩:∃p,o=.ref p/\ι.l[j]?=some p:=by cases rx with|ref z=>exact⟨_,rfl,z⟩
 simp only[MW.setOp] at e;split at e
 . rename_i xs hM
   split at e
   . rename_i k
     obtain⟨qq,e1,e2⟩:=bz.mp e;subst e2;cases ry;obtain⟨vs,h1,h2⟩:=S.obj j _ p hM hp;refine set_list pins s σ H _ _ v ov iv u Q I ro ri rv ⟨p,vs,k,qq,rfl,rfl,h1,by rw[<- h2.length];exact e1,?_⟩;obtain⟨S2,zg⟩:=S.put (u:=.lst (vs.set qq v)) (o:=.lst (xs.set qq d)) hM hp λle=>⟨_,v5,(h2.mono le).set (rd.mono le) qq⟩
     exact q _ zg S2
   . cases e
 . rename_i gw hM
   obtain⟨k,e1,e⟩:=dm.mp e;split at e<;>cases e;rename_i hl;obtain⟨l,h1,h2⟩:=S.obj j _ p hM hp;obtain⟨b,rfl,hb⟩:=Vv ry e1;cases ro;refine Yg (H':=upd H p (.dT (putK l k v))) (y:=.ref b) (v:=v) hu I (afc.t h1 hb (by rw[<- h2.length];exact Qi hl)) ri rv λs' I'=>⟨_,I',?_⟩
   obtain⟨S2,zg⟩:=S.put (u:=.dT (putK l k v)) (o:=.dT (MW.Bw gw k d)) hM hp λle=>⟨_,v5,(h2.mono le).put (rd.mono le)⟩
   exact q _ zg S2
 . rename_i gw hM
   obtain⟨k,e1,e⟩:=dm.mp e;split at e<;>cases e;rename_i hl;obtain⟨l,h1,h2⟩:=S.obj j _ p hM hp;have hy:=Rp ry e1;subst hy;cases ro;refine Yg (H':=upd H p (.dK (putK l k v))) (y:=kV k) (v:=v) hu I (afc.k h1 (by rw[<- h2.length];exact Qi hl)) ri rv λs' I'=>⟨_,I',?_⟩
   obtain⟨S2,zg⟩:=S.put (u:=.dK (putK l k v)) (o:=.dK (MW.Bw gw k d)) hM hp λle=>⟨_,v5,(h2.mono le).put (rd.mono le)⟩
   exact q _ zg S2
 . cases e
def Vz(h:Rq e=true)(t:Expr)(l:Nat)(env:Env):swapsWithSole [t] e l env=pure false:=by unfold swapsWithSole;exact Mv h _ _ _
def aoh(e o b:Expr)(p:Pos)(l:Nat)(env:Env):swapsWithSole [.Subscript o b p] e l env=pure false:=by cases e<;>rfl
def aoi(hu:X.A.units+1<cLine)(he:PE X a (tE nm W X.K a'))(ho:PE X o (tE nm W X.K o'))(hi:PE X b (tE nm W X.K b'))(ha:∀v,assign (.Subscript o b pos') X.env v=(do
 let ov <- holding [v] (eval o X.env)
 let iv <- holding [v,ov] (eval b X.env)
 standAt pos'
 holding [v,ov,iv] (setItem ov iv v)
 release [v,ov,iv] [])):PS X (.Assign [.Subscript o b pos'] a pos) (tS nm W X.K (.asg (.sub o' b') a')) :=
 PS.of (amx he (ay1 ho hi (atj (nm:=nm) hu) ha) (aoh _ _ _ _ _ _) (by rfl) (by rfl)) λD σ H ι ρ M fl ρ' M' S R e q=>by
  rw[MW.Zb] at e;obtain⟨x,M1,e1,e⟩:=gf e;obtain⟨ρ2,M2,e2,e⟩:=gf e;cases e;rw[MW.ars] at e2;obtain⟨y,M3,e3,e2⟩:=gf e2;obtain⟨z,M4,e4,e2⟩:=gf e2;obtain⟨M5,M6,e5,e6⟩:=gf e2;obtain⟨e7,e8⟩:=wk e5;subst e8;cases e6;refine one S R e1 fun ι1 H1 v le S1 R1 r=>?_
  refine one S1 R1 e3 fun ι2 H2 v2 zg S2 R2 r2=>one S2 R2 e4 fun ι3 H3 v3 Yk S3 R3 r3=>?_
  exact⟨ι3,_,y,z,x,_,S3,r2.mono Yk,r3,(r.mono zg).mono Yk,e7,λH' Ww S'=>q ι3 H' σ (((le.trans zg).trans Yk).trans Ww) S' (R3.mono Ww)⟩
set_option tactic.hygienic true in
def aoj(hn:n=nm.fld f)(hcl:∀c C,nm.cls c=some C->Cls X.K C/\Fq X.K C n)(he:PE X a (tE nm W X.K a'))(ho:PE X o (tE nm W X.K o'))(Ge:Rq a=true) :
 PS X (.Assign [.Attribute o n pos'] a pos) (tS nm W X.K (.asg (.fld o' f) a')) :=
 PS.of (azg ho he (Mv Ge _ _ _)) λD σ H ι ρ M fl ρ' M' S R e q=>by
  rw[MW.Zb] at e;obtain⟨x,M1,e1,e⟩:=gf e;obtain⟨ρ2,M2,e2,e⟩:=gf e;cases e;rw[MW.art] at e2;obtain⟨y,M3,e3,e2⟩:=gf e2;obtain⟨M5,M6,e5,e6⟩:=gf e2;obtain⟨e7,e8⟩:=wk e5;subst e8;cases e6;refine one S R e1 fun ι1 H1 v le S1 R1 r=>one S1 R1 e3 fun ι2 H2 v2 zg S2 R2 r2=>?_
  obtain⟨j,hx⟩:∃j,y=.ref j:=by cases y<;>first|exact⟨_,rfl⟩|cases e7
  subst hx;obtain⟨p,rfl,hp⟩:∃p,v2=.ref p/\ι2.l[j]?=some p:=by cases r2 with|ref z=>exact⟨_,rfl,z⟩
  simp only[MW.Pa] at e7;split at e7
  . rename_i c fs hM
    have hl:fs.length<1000:=by
     by_cases z:fs.length<1000
     . exact z
     . rw[bw z] at e7;cases e7
    rw[cj hl] at e7;cases e7;obtain⟨C,dx,l,h1,h2,h3⟩:=S2.obj j _ p hM hp;subst hn;obtain⟨g1,g2⟩:=hcl c C h1;refine⟨p,C,dx,l,rfl,h2,g1,g2,by rw[<- h3.length];exact hl,?_⟩;obtain⟨S3,Yk⟩:=S2.put (u:=.ins C dx (Hh (nm.fld f) v l)) (o:=.ins c (MW.Sh f x fs)) hM hp λWw=>⟨C,dx,_,h1,v5,(h3.mono Ww).Hh ((r.mono zg).mono Ww)⟩
    exact q ι2 _ σ ((le.trans zg).trans Yk) S3 (R2.mono Yk)
  . cases e7
def Bq.weak(h:Bq X f r)(w:∀xs H Q,r' xs H Q->r xs H Q):Bq X f r':=λpins s σ H xs us Q I rs q=>h pins s σ H xs us Q I rs (w xs H Q q)
def rB(nm:Nm)(K:Fg)(b:Blt):List V->Hp->VK->Prop:=λvs H Q=>∃ι M ds d M',mq nm K ι H M/\mj K ι H ds vs/\MW.ud b ds M=.ok d M'/\∀ι' H' v,Le ι H ι' H'->mq nm K ι' H' M'->Rep K ι' H' d v->Q v H'
def Bq.of(h:Bq X f r)(w:∀vs H Q ι M ds d M',mq nm X.K ι H M->mj X.K ι H ds vs->MW.ud bb ds M=.ok d M'->(∀ι' H' v,Le ι H ι' H'->mq nm X.K ι' H' M'->Rep X.K ι' H' d v->Q v H')->r vs H Q):Bq X f (rB nm X.K bb) :=
 Bq.weak h λvs H Q z_=>by obtain⟨ι,M,ds,d,M',S,r,e,q⟩:=z_;exact w vs H Q ι M ds d M' S r e q
def acf{X:Cx}:∀σ H Q,tE nm W X.K (.blt t es') σ H Q->tCB (rB nm X.K t) (Vq nm W X.K es') σ H Q:=fun σ H Q hh=>by obtain⟨ι,ρ,M,d,M',S,R,e,q⟩:=hh;rw[MW.Ue] at e;obtain⟨ds,M1,e1,e⟩:=gf e;exact Vu S R e1 fun ι1 H1 vs le S1 R1 r=>⟨ι1,M1,ds,d,M',S1,r,e,fun ι' H' v Ww S' r'=>q ι' H' v (le.trans Ww) S' r'⟩
def ahb{id:String}(hc:Bq X (.builtin id) (rB nm X.K t))(hg:Gl X x)(hm:X.mg x=none)(hv:bootBuiltins x=some (.builtin id))(ha:PA X (a::es) (Vq nm W X.K es'))(hn:x≠"__name__")(Qq:(x==("__debug__" : Str))=false)(he:starEach (a::es) X.env=(false,eval a X.env)::starEach es X.env)(Ge:(backTo pos (starEach es X.env)).any (·.1)=false):PE X (.Call (.Name x p) (a::es) [] pos) (tE nm W X.K (.blt t es')):=PE.weak (anb hc hg hm hv ha hn Qq he Ge) acf
def aok(hc:Bq X (.type T) (rB nm X.K t))(hg:Gl X x)(hm:X.mg x=none)(hv:bootBuiltins x=some (.type T))(ha:PA X (a::es) (Vq nm W X.K es'))(hn:x≠"__name__")(Qq:(x==("__debug__" : Str))=false)(he:starEach (a::es) X.env=(false,eval a X.env)::starEach es X.env)(Ge:(backTo pos (starEach es X.env)).any (·.1)=false):PE X (.Call (.Name x p) (a::es) [] pos) (tE nm W X.K (.blt t es')):=PE.weak (ajl hc hg hm hv ha hn Qq he Ge) acf
def Ht(r:mj K ι H ds vs)(h:ds=[d]):∃v,vs=[v]/\Rep K ι H d v:=by subst h;cases r with|cons h t=>cases t;exact⟨_,rfl,h⟩
def atk:Bq X (.type "tuple") (rB nm X.K .tuple):=Bq.of W7 λvs H Q ι M ds d M' S r e q=>by
 cases r with
 |nil=>simp[MW.ud] at e
 |@cons x v _ _ h t =>
  cases t with
  |cons h2 t2=>simp[MW.ud] at e
  |nil =>
   have e:Res.uv ((MW.Aa M x).map MW.D.tup) M=.ok d M':=e;obtain⟨e1,e2⟩:=wk e;subst e2;obtain⟨xs,e3,rfl⟩:=bz.mp e1;obtain⟨p,us,rfl,hp,ru⟩:=Jc S h e3;rcases hp with hp|hp
   . refine⟨p,us,rfl,.inl ⟨G9.of hp,λl hl=>?_⟩⟩
     obtain⟨S2,zg,r2⟩:=Qg S hl ru;exact q ι _ _ zg S2 r2
   . exact⟨p,us,rfl,.inr ⟨Ie.of hp,q ι H _ (Le.refl _ _) S (.tup hp ru)⟩⟩
set_option tactic.hygienic true in
def a7o:Bq X (.builtin "len") (rB nm X.K .len):=Bq.of Z8 λvs H Q ι M ds d M' S r e q=>by
 cases r with
 |nil=>simp[MW.ud] at e
 |@cons x v _ _ h t =>
  cases t with
  |cons h2 t2=>simp[MW.ud] at e
  |nil =>
   have fin:∀xs,(MW.Aa M x=some xs)->d=.int xs.length->M'=M->∃p ys,[v]=[V.ref p]/\(G9 X.K H p ys\/Ie X.K H p ys)/\Q (.int ys.length) H:=λxs e3 e1 e2=>by subst e1 e2;obtain⟨p,us,rfl,hp,ru⟩:=Jc S h e3;exact⟨p,us,rfl,hp.imp G9.of Ie.of,by rw[<- ru.length];exact q ι H _ (Le.refl _ _) S (.int _)⟩
   cases h with
   |fz e1 r1 =>
    cases e;exact⟨_,_,rfl,.inl e1.sq,by rw[<- r1.length];exact q ι H _ (Le.refl _ _) S (.int _)⟩
   |@ref n p e1 =>
    have e:(match M[n]? with|some (.lst ds)=>Res.ok (MW.D.int ds.length) M|_=>.bad)=Res.ok d M':=e;split at e
    . rename_i ds hM
      cases e;exact fin ds (by simp[MW.Aa,MW.fu,hM]) rfl rfl
    . cases e
   |tup e1 r1=>cases e;exact fin _ rfl rfl rfl|vl e1 n1 r1=>cases e;exact fin _ rfl rfl rfl|_=>cases e
open MW
noncomputable def Fy(f:Dv->Dv->Option Bool)(as bs:List Dv)(j:Nat):Bool:=match as[j]?,bs[j]? with
 |some a,some b=>(f a b).getD false|_,_=>false
set_option tactic.hygienic true in
theorem Hb{f:Dv->Dv->Option Bool}:∀{as bs:List Dv}{r:Bool},MW.Q3 f as bs=some r->(∀(j:Nat) a b,as[j]?=some a->bs[j]?=some b->∃c,f a b=some c) /\
 r=((List.range (min as.length bs.length)).all (Fy f as bs)&&as.length==bs.length)
 |[],[],r,h=>by cases h;exact⟨λj a b e=>by simp at e,by simp⟩
 |[],b::bs,r,h=>by cases h;exact⟨λj a b e=>by simp at e,by simp⟩
 |a::as,[],r,h=>by cases h;exact⟨λj a b _ e=>by simp at e,by simp⟩
 |a::as,b::bs,r,h=>by
  simp only[MW.Q3] at h;split at h
  . rename_i x y h1 h2
    cases h;obtain⟨g1,g2⟩:=Hb h2;refine⟨λj a' b' e1 e2=>?_,?_⟩
    . cases j with
      |zero=>simp at e1 e2;subst e1 e2;exact⟨x,h1⟩|succ j=>exact g1 j a' b' (by simpa using e1) (by simpa using e2)
    . rw[gn,gn,Nat.succ_min_succ,List.range_succ_eq_map,List.all_cons,List.all_map]
      have z:Fy f (a::as) (b::bs) 0=x:=by simp[Fy,h1]
      have z2:(Fy f (a::as) (b::bs) ∘ Nat.succ)=Fy f as bs:=by funext j;simp[Fy]
      rw[z,z2,g2];have z3:(as.length+1==bs.length+1)=(as.length==bs.length):=by
       by_cases q:as.length=bs.length
       . simp[q]
       . have:¬(as.length+1=bs.length+1):=by lia
         simp[q,this]
      rw[z3,Bool.and_assoc]
  . cases h
set_option tactic.hygienic true in
theorem Mw{ι:Io}{H:Hp}{K:Fg}{f:Dv->Dv->Option Bool}(hf:∀x y v r,Rep K ι H x v->Rep K ι H y v->f x y=some r->r=true):∀{as bs:List Dv}{vs:List V}{r:Bool},mj K ι H as vs->mj K ι H bs vs->MW.Q3 f as bs=some r->r=true
 |_,_,_,_,.nil,.nil,h=>by cases h;rfl
 |_,_,_,_,.cons h1 t1,.cons h2 t2,h=>by
  simp only[MW.Q3] at h;split at h
  . rename_i x y e1 e2
    cases h;rw[hf _ _ _ _ h1 h2 e1,Mw hf t1 t2 e2];rfl
  . cases h
inductive EqI(M:cu)(f:Dv->Dv->Option Bool):Dv->Dv->Bool->Prop
 |non:EqI M f .non .non true
 |bl (a b:Bool):EqI M f (.bl a) (.bl b) (a==b)
 |int (a b:Int):EqI M f (.int a) (.int b) (decide (a=b))
 |str (a b:Str):EqI M f (.str a) (.str b) (decide (a=b))
 |tup {as bs:List Dv} {r:Bool} (h:MW.Q3 f as bs=some r):EqI M f (.tup as) (.tup bs) r
 |lst {x y:Dv} {as bs:List Dv} {r:Bool} (h1:MW.fu M x=some as) (h2:MW.fu M y=some bs) (h:(if as.length=bs.length then MW.Q3 f as bs else some false)=some r):EqI M f x y r
set_option tactic.hygienic true in
def aah(h:MW.Km M (k+1) x y=some r):EqI M (MW.Km M k) x y r:=by
 unfold MW.Km at h;split at h
 . cases h;exact .int _ _
 . cases h;exact .bl _ _
 . cases h;exact .str _ _
 . cases h;exact .non
 . exact .tup h
 . split at h
   . rename_i h1 h2;exact .lst h1 h2 h
   . cases h
def acg{X:Cx}(S:mq nm X.K ι H M)(rx:Rep X.K ι H x v)(ry:Rep X.K ι H y v)(h1:MW.fu M x=some ds)(h2:MW.fu M y=some es):∃vs,mj X.K ι H ds vs/\mj X.K ι H es vs:=by obtain⟨p,vs,rfl,g1,g2⟩:=qy S rx h1;obtain⟨p',ws,hw,g3,g4⟩:=qy S ry h2;cases hw;rw[g1] at g3;cases g3;exact⟨vs,g2,g4⟩
theorem aai{nm:Nm}{ι:Io}{H:Hp}{M:cu}{X:Cx}(S:mq nm X.K ι H M):∀(k:Nat)(x y:Dv)(v:V)(r:Bool),Rep X.K ι H x v->Rep X.K ι H y v->MW.Km M k x y=some r->r=true
 |0,_,_,_,_,_,_,h=>by cases h
 |k+1,x,y,v,r,rx,ry,h=>by
  have ih:=aai S k;cases aah h with
  |non=>rfl|bl a b=>cases rx;cases ry;simp|int a b=>cases rx;cases ry;simp|str a b=>cases rx;cases ry;simp
  |tup h=>cases rx with
   |tup e1 r1=>cases ry with
    |tup e2 r2=>rw[e1] at e2;cases e2;exact Mw ih r1 r2 h
  |lst h1 h2 h3 =>
   obtain⟨vs,r1,r2⟩:=acg S rx ry h1 h2;rw[cj (r1.length.trans r2.length.symm)] at h3;exact Mw ih r1 r2 h3
def Vals.ach{j:Nat}(r:Vals xs us)(h1:xs[j]?=some v)(h2:us[j]?=some u):RelV v u:=by obtain⟨u',e1,e2⟩:=L2.Vals.get r h1;rw[h2] at e1;cases e1;exact e2
theorem O1{ι:Io}{H:Hp}{K:Fg}:∀{l:List (List Kx×Dv)}{l':List (List Key×V)},su K ι H (λk k'=>k=k') l l'->l'.map (·.1)=l.map (·.1)
 |_,_,.nil=>rfl|_,_,.cons k h t=>by simp[O1 t,k]
def ahc(r:KT H l xs):xs.map (·.1)=l.map (·.1)/\∀x∈xs,H x.2.1=some (.tup (x.1.map kV)):=by
 induction r with
 |nil=>exact⟨rfl,by simp⟩
 |@cons p q ps qs hq t ih =>
  refine⟨by simp[ih.1,hq.1],λx hx=>?_⟩;rcases bx.mp hx with rfl|hx
  . rw[<- hq.1];exact hq.2.1
  . exact ih.2 x hx
set_option tactic.hygienic true in
theorem V0{nm:Nm}{X:Cx}{ι:Io}{H:Hp}{σ:St}{M:cu}{pins:Zp}{s:Shared}(I:Inv X pins σ H s)(S:mq nm X.K ι H M):∀(k:Nat)(A:Around)(x y:Dv)(v u:V)(v' u':Value)(r:Bool),zm k A->Rep X.K ι H x v->Rep X.K ι H y u->RelV v v'->RelV u u'->MW.Km M k x y=some r->SeqAt.EqAt A s v' u' r
 |0,_,_,_,_,_,_,_,_,_,_,_,_,_,h=>by cases h
 |k+1,A,x,y,v,u,v',u',r,hr,rx,ry,rv,ru,h=>by
  have ih:=V0 I S k A.in1;have hr1:=hr.in1;have elems:∀(ds es:List Dv)(vs ws:List V)(is js:Zl)(rr:Bool),mj X.K ι H ds vs->mj X.K ι H es ws->Vals vs is->Vals ws js->MW.Q3 (MW.Km M k) ds es=some rr ->
   ∀j (h1:j<is.toArray.size) (h2:j<js.toArray.size),SeqAt.EqAt A.in1 s is.toArray[j] js.toArray[j] (Fy (MW.Km M k) ds es j):=λds es vs ws is js rr rd re V1 rws he j h1 h2=>by
   have l1:j<ds.length:=by rw[rd.length,V1.length];simpa using h1
   have l2:j<es.length:=by rw[re.length,rws.length];simpa using h2
   have g1:ds[j]?=some ds[j]:=by simp[l1]
   have g2:es[j]?=some es[j]:=by simp[l2]
   obtain⟨c,hc⟩:=(Hb he).1 j _ _ g1 g2;obtain⟨va,a1,a2⟩:=rd.get g1;obtain⟨wa,b1,b2⟩:=re.get g2;have q1:is[j]?=some is.toArray[j]:=by simp
   have q2:js[j]?=some js.toArray[j]:=by simp
   have:=ih _ _ va wa _ _ c hr1 a2 b2 (Vals.ach V1 a1 q1) (Vals.ach rws b1 q2) hc;have z:Fy (MW.Km M k) ds es j=c:=by simp[Fy,g1,g2,hc]
   rw[z];exact this
  have lists:∀(p p2:Addr)(ds es:List Dv),v=.ref p->u=.ref p2->MW.fu M x=some ds->MW.fu M y=some es->(if ds.length=es.length then MW.Q3 (MW.Km M k) ds es else some false)=some r->SeqAt.EqAt A s v' u' r:=λp p2 ds es hv hu h1 h2 h3=>by
   subst hv hu;cases rv;cases ru;obtain⟨_,vs,hv,g1,g2⟩:=qy S rx h1;cases hv;obtain⟨_,ws,hw,g3,g4⟩:=qy S ry h2;cases hw
   by_cases hpp:p=p2
   . subst hpp
     have:r=true:=by rw[g1] at g3;cases g3;rw[cj (g2.length.trans g4.length.symm)] at h3;exact Mw (λx y v r a b c=>aai S k x y v r a b c) g2 g4 h3
     rw[this];exact SeqAt.EqAt.same _
   . refine SeqAt.EqAt.of_refs hpp ?_
     obtain⟨is,r1,pl1,_⟩:=I.list (G9.of g1);obtain⟨js,r2,pl2,_⟩:=I.list (G9.of g3)
     by_cases hl:ds.length=es.length
     . rw[cj hl] at h3
       have hsz:is.toArray.size=js.toArray.size:=by simp[<- r1.length,<- r2.length,<- g2.length,<- g4.length,hl]
       have:=SeqAt.RcAt.lists (e:=Fy (MW.Km M k) ds es) pl1.isList pl2.isList hsz hr.Vj (elems ds es vs ws is js r g2 g4 r1 r2 h3);rw[(Hb h3).2];have e1:is.toArray.size=min ds.length es.length:=by simp[<- r1.length,<- g2.length,hl]
       rw[e1] at this;simpa[hl] using this
     . rw[bw hl] at h3
       cases h3;exact SeqAt.RcAt.lists_lengths pl1.isList pl2.isList (by simp[<- r1.length,<- r2.length,<- g2.length,<- g4.length,hl]) hr.Vj
  cases aah h with
  |non=>cases rx;cases ry;cases rv;cases ru;exact SeqAt.EqAt.same _|bl a b=>cases rx;cases ry;cases rv;cases ru;exact SeqAt.EqAt.bool_bool _ _
  |int a b =>
   cases rx;cases ry;obtain⟨t,rfl⟩:=rv;obtain⟨t2,rfl⟩:=ru;rw[<- Bool.beq_eq_decide_eq];exact SeqAt.EqAt.int_int _ _ _ _
  |str a b =>
   cases rx;cases ry;obtain⟨t,rfl⟩:=rv;obtain⟨t2,rfl⟩:=ru;rw[<- Bool.beq_eq_decide_eq];exact SeqAt.EqAt.str_str _ _ _ _
  |@tup ds es _ h=>cases rx with
   |@tup p _ vs e1 r1=>cases ry with
    |@tup p2 _ ws e2 r2 =>
     cases rv;cases ru
     by_cases hpp:p=p2
     . subst hpp
       have:r=true:=by rw[e1] at e2;cases e2;exact Mw (λx y v r a b c=>aai S k x y v r a b c) r1 r2 h
       rw[this];exact SeqAt.EqAt.same _
     . refine SeqAt.EqAt.of_refs hpp ?_
       obtain⟨is,g1,pl1,_⟩:=I.tuple (Ie.of e1);obtain⟨js,g2,pl2,_⟩:=I.tuple (Ie.of e2);have:=SeqAt.RcAt.tuples (e:=Fy (MW.Km M k) ds es) (show s.heap.IsTuple p is.toArray from pl1) (show s.heap.IsTuple p2 js.toArray from pl2) hr.Vj (elems ds es vs ws is js r r1 r2 g1 g2 h);rw[(Hb h).2];have z1:is.toArray.size=ds.length:=by simp[<- g1.length,<- r1.length]
       have z2:js.toArray.size=es.length:=by simp[<- g2.length,<- r2.length]
       rw[z1,z2] at this;exact this
  |lst h1 h2 h3 =>
   obtain⟨p,_,e1,_⟩:=qy S rx h1;obtain⟨p2,_,e2,_⟩:=qy S ry h2;exact lists p p2 _ _ e1 e2 h1 h2 h3
inductive aaj(A:Around)(s:Shared):Value->Value->Bool->Prop
 |Vh {p p2:Addr} {is js:U1} (e:Nat->Bool) (h1:s.heap.IsTuple p is) (h2:s.heap.IsTuple p2 js) (he:∀j (h1:j<is.size) (h2:j<js.size),SeqAt.EqAt A.in1 s is[j] js[j] (e j)):aaj A s (.ref p) (.ref p2) ((List.range (min is.size js.size)).all e&&is.size==js.size)
 |a7q {p p2:Addr} {is js:U1} (e:Nat->Bool) (h1:s.heap.IsList p is) (h2:s.heap.IsList p2 js) (hz:is.size=js.size) (he:∀j (h1:j<is.size) (h2:j<js.size),SeqAt.EqAt A.in1 s is[j] js[j] (e j)):aaj A s (.ref p) (.ref p2) ((List.range is.size).all e)
 |lens {p p2:Addr} {is js:U1} (h1:s.heap.IsList p is) (h2:s.heap.IsList p2 js) (hz:(is.size != js.size)=true):aaj A s (.ref p) (.ref p2) false
def Yo{A:Around}(I:Inv X pins σ H s)(S:mq nm X.K ι H M)(hr:zm k A.in1)(rd:mj X.K ι H ds vs)(re:mj X.K ι H es ws)(V1:Vals vs is)(rws:Vals ws js)(he:MW.Q3 (MW.Km M k) ds es=some rr) :
 ∀j (h1:j<is.toArray.size) (h2:j<js.toArray.size),SeqAt.EqAt A.in1 s is.toArray[j] js.toArray[j] (Fy (MW.Km M k) ds es j):=λj h1 h2=>by
 have l1:j<ds.length:=by rw[rd.length,V1.length];simpa using h1
 have l2:j<es.length:=by rw[re.length,rws.length];simpa using h2
 have g1:ds[j]?=some ds[j]:=by simp[l1]
 have g2:es[j]?=some es[j]:=by simp[l2]
 obtain⟨c,hc⟩:=(Hb he).1 j _ _ g1 g2;obtain⟨va,a1,a2⟩:=rd.get g1;obtain⟨wa,b1,b2⟩:=re.get g2;have q1:is[j]?=some is.toArray[j]:=by simp
 have q2:js[j]?=some js.toArray[j]:=by simp
 have:=V0 I S k A.in1 _ _ va wa _ _ c hr a2 b2 (Vals.ach V1 a1 q1) (Vals.ach rws b1 q2) hc;have z:Fy (MW.Km M k) ds es j=c:=by simp[Fy,g1,g2,hc]
 rw[z];exact this
def afk(I:Inv X pins σ H s)(S:mq nm X.K ι H M)(hr:zm k A.in1)(rx:Rep X.K ι H x v)(ry:Rep X.K ι H y u)(rv:RelV v v')(ru:RelV u u')(h1:MW.fu M x=some ds)(h2:MW.fu M y=some es)(h3:(if ds.length=es.length then MW.Q3 (MW.Km M k) ds es else some false)=some r):aaj A s v' u' r:=by
 obtain⟨p,vs,rfl,g1,g2⟩:=qy S rx h1;obtain⟨p2,ws,rfl,g3,g4⟩:=qy S ry h2;cases rv;cases ru;obtain⟨is,r1,pl1,_⟩:=I.list (G9.of g1);obtain⟨js,r2,pl2,_⟩:=I.list (G9.of g3)
 by_cases hl:ds.length=es.length
 . rw[cj hl] at h3
   have hsz:is.toArray.size=js.toArray.size:=by simp[<- r1.length,<- r2.length,<- g2.length,<- g4.length,hl]
   have z:=aaj.a7q (A:=A) (Fy (MW.Km M k) ds es) pl1.isList pl2.isList hsz (Yo I S hr g2 g4 r1 r2 h3);rw[(Hb h3).2];have e1:is.toArray.size=min ds.length es.length:=by simp[<- r1.length,<- g2.length,hl]
   rw[e1] at z;simpa[hl] using z
 . rw[bw hl] at h3
   cases h3;exact .lens pl1.isList pl2.isList (by simp[<- r1.length,<- r2.length,<- g2.length,<- g4.length,hl])
set_option tactic.hygienic true in
def aci(I:Inv X pins σ H s)(S:mq nm X.K ι H M)(hr:zm k A.in1)(rx:Rep X.K ι H x v)(ry:Rep X.K ι H y u)(rv:RelV v v')(ru:RelV u u')(h:MW.Km M (k+1) x y=some r) :
 aaj A s v' u' r\/(aze v u=true/\r=decide (v=u)):=by
 cases aah h with
 |non=>cases rx;cases ry;exact .inr ⟨rfl,by simp⟩|bl a b=>cases rx;cases ry;exact .inr ⟨rfl,by by_cases z:a=b<;>simp[z]⟩|int a b=>cases rx;cases ry;exact .inr ⟨rfl,by by_cases z:a=b<;>simp[z]⟩|str a b=>cases rx;cases ry;exact .inr ⟨rfl,by by_cases z:a=b<;>simp[z]⟩
 |@tup ds es _ h=>cases rx with
  |@tup p _ vs e1 r1=>cases ry with
   |@tup p2 _ ws e2 r2 =>
    cases rv;cases ru;obtain⟨is,g1,pl1,_⟩:=I.tuple (Ie.of e1);obtain⟨js,g2,pl2,_⟩:=I.tuple (Ie.of e2);have z:=aaj.Vh (A:=A) (Fy (MW.Km M k) ds es) (show s.heap.IsTuple p is.toArray from pl1) (show s.heap.IsTuple p2 js.toArray from pl2) (Yo I S hr r1 r2 g1 g2 h);rw[(Hb h).2];have z1:is.toArray.size=ds.length:=by simp[<- g1.length,<- r1.length]
    have z2:js.toArray.size=es.length:=by simp[<- g2.length,<- r2.length]
    rw[z1,z2] at z;exact .inl z
 |lst h1 h2 h3=>exact .inl (afk I S hr rx ry rv ru h1 h2 h3)
def aaj.rc(h:aaj A s v u r)(hu:A.units<cLine):SeqAt.RcAt A s v u r/\SeqAt.RcNeAt A s v u (!r):=by
 cases h with
 |Vh e h1 h2 he=>exact⟨SeqAt.RcAt.tuples h1 h2 hu he,SeqAt.RcNeAt.tuples h1 h2 hu he⟩|a7q e h1 h2 hz he=>exact⟨SeqAt.RcAt.lists h1 h2 hz hu he,SeqAt.RcNeAt.lists h1 h2 hz hu he⟩|lens h1 h2 hz=>exact⟨SeqAt.RcAt.lists_lengths h1 h2 hz hu,SeqAt.RcNeAt.lists_lengths h1 h2 hz hu⟩
def bde(hr:zm 6 X.A):Ca X (compareOp .Eq) (Wx nm X.K .eq):=λpins s σ H v u v' u' Q I rv ru hh=>by
 obtain⟨ι,M,x,y,b,S,rx,ry,e,q⟩:=hh;have e:MW.Km M 6 x y=some b:=e;rcases aci (A:=X.A) I S hr.in1 rx ry rv ru e with h|⟨h1,h2⟩
 . exact(h.rc hr.Vj).1 X.prog X.w X.xe _ ⟨.bl b,H,I,rfl,q⟩
 . subst h2
   exact a5k pins s σ H v u v' u' Q I rv ru ⟨h1,q⟩
def bdf(hr:zm 6 X.A):Ca X (compareOp .NotEq) (Wx nm X.K .ne):=λpins s σ H v u v' u' Q I rv ru hh=>by
 obtain⟨ι,M,x,y,b,S,rx,ry,e,q⟩:=hh;obtain⟨b',e1,e2⟩:=bz.mp (show(MW.wz M x y).map not=some b from e);subst e2;rcases aci (A:=X.A) I S hr.in1 rx ry rv ru (show MW.Km M 6 x y=_ from e1) with h|⟨h1,h2⟩
 . exact(h.rc hr.Vj).2 X.prog X.w X.xe _ ⟨.bl !b',H,I,rfl,q⟩
 . subst h2
   exact a5l pins s σ H v u v' u' Q I rv ru ⟨h1,q⟩
section
variable{nm:Nm}{W:Ib}{X:Cx}{a b c o:Expr}{a' b' c' o':Ex}{pos pos' apos:Pos}{ι:Io}{H:Hp}{σ:St}{ρ:En}{M M1 M2:cu}{x y:Dv}{es:Ya}{es':Bs}
set_option tactic.hygienic true in
theorem Ej:∀{ds:List Dv}{bs:List Bool},MW.Oh M x ds=some bs->bs.length=ds.length/\∀(j:Nat) d,ds[j]?=some d->∃b,bs[j]?=some b/\MW.wz M d x=some b
 |[],bs,h=>by cases h;exact⟨rfl,λj d e=>by simp at e⟩
 |y::ys,bs,h=>by
  simp only[MW.Oh] at h;split at h
  . rename_i a b h1 h2
    cases h;obtain⟨g1,g2⟩:=Ej h2;refine⟨by simp[g1],λj d e=>?_⟩;cases j with
    |zero=>simp at e;subst e;exact⟨a,rfl,h1⟩|succ j=>simpa using g2 j d (by simpa using e)
  . cases h
def Gd(I:Inv X pins σ H s)(e:aac X.K H p vs):(∃o,H p=some (.Mj o (.lst vs)))\/(H p=none/\∃(o:Obj)(xr:U1)(n:Nat),X.K.lookup p=some o/\o.data=.seq xr n/\Vals vs xr.toList):=by
 rcases e with h|⟨o,xr,n,h1,_,_,h2,_,h3⟩
 . exact .inl h
 . exact .inr ⟨(I.bs p o (I.mod.kin p o h1)).2,o,xr,n,h1,h2,h3⟩
def a0d(I:Inv X pins σ H s)(e:aac X.K H p vs)(e2:aac X.K H p ws):vs=ws:=by
 rcases Gd I e with⟨o,h⟩|⟨h,o,xr,n,h1,h2,h3⟩
 . rcases Gd I e2 with⟨o',h'⟩|⟨h',_⟩
   . rw[h] at h';cases h';rfl
   . rw[h] at h';cases h'
 . rcases Gd I e2 with⟨o',h'⟩|⟨_,o',its',n',h1',h2',h3'⟩
   . rw[h] at h';cases h'
   . rw[h1] at h1';cases h1'
     rw[h2] at h2';cases h2';exact Vals.inj h3 h3'
mutual
theorem ahd{pins:Zp}{s:Shared}(I:Inv X pins σ H s)(S:mq nm X.K ι H M):∀{d d':Dv}{v:V},Rep X.K ι H d v->Rep X.K ι H d' v->d=d'
 |_,_,_,.non,r=>by cases r;rfl|_,_,_,.bl b,r=>by cases r;rfl|_,_,_,.int i,r=>by cases r;rfl|_,_,_,.str z,r=>by cases r;rfl
 |_,_,_,.tup e1 r1,r=>by
  cases r with
  |tup e2 r2 =>
   rw[e1] at e2;cases e2;rw[Qj I S r1 r2]
  |vl e2 n2 r2=>rw[e1] at e2;cases e2
  |fz e2 r2 =>
   rcases Gd I e2 with⟨o,h⟩|⟨h,_⟩
   . rw[e1] at h;cases h
   . rw[e1] at h;cases h
  |ref e2 =>
   obtain⟨u,q,mu⟩:=S.mem (au e2);rw[e1] at mu;exact mu.elim
 |_,_,_,.vl e1 n1 r1,r=>by
  cases r with
  |tup e2 r2=>rw[e1] at e2;cases e2
  |vl e2 n2 r2 =>
   rw[e1] at e2;cases e2;rw[Qj I S r1 r2]
  |fz e2 r2 =>
   rcases Gd I e2 with⟨o,h⟩|⟨h,_⟩
   . rw[e1] at h;cases h
   . rw[e1] at h;cases h
  |ref e2=>exact absurd (au e2) n1.1
 |_,_,_,.fz e1 r1,r=>by
  cases r with
  |tup e2 r2 =>
   rcases Gd I e1 with⟨o,h⟩|⟨h,_⟩
   . rw[e2] at h;cases h
   . rw[e2] at h;cases h
  |vl e2 n2 r2 =>
   rcases Gd I e1 with⟨o,h⟩|⟨h,_⟩
   . rw[e2] at h;cases h
   . rw[e2] at h;cases h
  |fz e2 r2 =>
   have:=a0d I e1 e2;subst this;rw[Qj I S r1 r2]
  |ref e2 =>
   obtain⟨u,q,mu⟩:=S.mem (au e2);rcases Gd I e1 with⟨o,h⟩|⟨h,_⟩
   . rw[h] at mu;exact mu.elim
   . rw[h] at q;cases q
 |_,_,_,.ref e1,r=>by
  cases r with
  |tup e2 r2 =>
   obtain⟨u,q,mu⟩:=S.mem (au e1);rw[e2] at mu;exact mu.elim
  |vl e2 n2 r2=>exact absurd (au e1) n2.1
  |fz e2 r2 =>
   obtain⟨u,q,mu⟩:=S.mem (au e1);rcases Gd I e2 with⟨o,h⟩|⟨h,_⟩
   . rw[h] at mu;exact mu.elim
   . rw[h] at q;cases q
  |ref e2 =>
   obtain⟨l1,q1⟩:=ak.mp e1;obtain⟨l2,q2⟩:=ak.mp e2;rw[(zu S.nd).mp (q1.trans q2.symm)]
theorem Qj{pins:Zp}{s:Shared}(I:Inv X pins σ H s)(S:mq nm X.K ι H M):∀{ds ds':List Dv}{vs:List V},mj X.K ι H ds vs->mj X.K ι H ds' vs->ds=ds'
 |_,_,_,.nil,r=>by cases r;rfl
 |_,_,_,.cons h t,r=>by
  cases r with
  |cons h2 t2=>rw[ahd I S h h2,Qj I S t t2]
end
def Qk(I:Inv X pins σ H s)(S:mq nm X.K ι H M)(hr:zm 6 A)(rd:mj X.K ι H ds vs)(rv:Vals vs is)(rx:Rep X.K ι H x u)(ru:RelV u u')(h:MW.Oh M x ds=some bs):∃e:Value->Bool,(∀w,w∈is.toArray->SeqAt.EqAt A s w u' (e w))/\∀(j:Nat)(w:Value),is[j]?=some w->bs[j]?=some (e w):=by
 obtain⟨g1,g2⟩:=Ej h;have at':∀(j:Nat)(w:Value),is[j]?=some w->∃b,bs[j]?=some b/\SeqAt.EqAt A s w u' b:=λj w hw=>by
  have lj:j<ds.length:=by rw[rd.length,rv.length];exact(ak.mp hw).1
  have gd:ds[j]?=some ds[j]:=by simp[lj]
  obtain⟨b,e1,e2⟩:=g2 j _ gd;obtain⟨v,a1,a2⟩:=rd.get gd;exact⟨b,e1,V0 I S 6 A _ _ v u w u' b hr a2 rx (Vals.ach rv a1 hw) ru e2⟩
 classical
 refine⟨λw=>if hw:∃j:Nat,is[j]?=some w then(bs[hw.choose]?).getD false else false,λw hw=>?_,λj w hw=>?_⟩
 . obtain⟨j,hj,e⟩:=ou (by simpa using hw:w∈is)
   have hex:∃j:Nat,is[j]?=some w:=⟨j,by simp[hj,e]⟩;obtain⟨b,e1,e2⟩:=at' hex.choose w hex.choose_spec;simp only[dif_pos hex,e1,Option.getD_some];exact e2
 . have hex:∃j:Nat,is[j]?=some w:=⟨j,hw⟩
   obtain⟨b,e1,e2⟩:=at' j w hw;obtain⟨b',e3,e4⟩:=at' hex.choose w hex.choose_spec;simp only[dif_pos hex,e3,Option.getD_some];rw[e1]
   congr 1
   have lj:j<ds.length:=by rw[rd.length,rv.length];exact(ak.mp hw).1
   have lk:hex.choose<ds.length:=by rw[rd.length,rv.length];exact(ak.mp hex.choose_spec).1
   have gd:ds[j]?=some ds[j]:=by simp[lj]
   have gk:ds[hex.choose]?=some ds[hex.choose]:=by simp[lk]
   obtain⟨c1,q1,q2⟩:=g2 j _ gd;obtain⟨c2,q3,q4⟩:=g2 hex.choose _ gk;obtain⟨v1,p1,p2⟩:=rd.get gd;obtain⟨v2,p3,p4⟩:=rd.get gk;have hv:v1=v2:=RelV.inj (Vals.ach rv p1 hw) (Vals.ach rv p3 hex.choose_spec);subst hv;rw[e1] at q1;rw[e3] at q3;cases q1;cases q3;have hd:=ahd I S p2 p4;rw[hd,q4] at q2;exact(jq q2).symm
def Uo{is:Zl}{bs:List Bool}(hl:bs.length=is.length)(h:∀(j:Nat) (w:Value),is[j]?=some w->bs[j]?=some (e w)):bs=is.map e:=by
 apply v8;intro j;rw[iz];cases q:is[j]? with
 |none=>rw[j6 (by rw[hl];exact List.getElem?_eq_none_iff.mp q)];rfl|some w=>rw[h j w q];rfl
set_option tactic.hygienic true in
def bdg(hr:zm 8 X.A):Ca X (compareOp .In) (Wx nm X.K .inn):=λpins s σ H v u v' u' Q I rv ru hh=>by
 obtain⟨ι,M,x,y,b,S,rx,ry,e,q⟩:=hh;have e:MW.Nt M x y=some b:=e;have hu:X.A.units+1<cLine:=ab2 hr
 have seq:∀ds,MW.Aa M y=some ds->MW.memD M x ds=some b->wpAny (model X.prog X.w) X.A (compareOp .In v' u') (EP X pins σ Q) X.xe s:=λds h1 h2=>by
  obtain⟨bs,e1,e2⟩:=bz.mp (show(MW.Oh M x ds).map (·.any id)=some b from h2);obtain⟨p,vs,rfl,hp,r⟩:=Jc S ry h1;cases ru;rcases hp with hp|hp
  . obtain⟨is,r1,pl,_⟩:=I.list (G9.of hp)
    obtain⟨f,g1,g2⟩:=Qk (A:=X.A.in1) I S ((hr.mono (by decide:7<=8)).in1) r r1 rx rv e1;refine SeqAt.in_listAt f pl.isList g1 ?_;have:=Uo (by rw[(Ej e1).1,r.length,r1.length]) g2;rw[this] at e2;rw[show is.toArray.any f=b by rw[<- e2];simp[Am]];exact⟨.bl b,H,I,rfl,q⟩
  . obtain⟨is,r1,pl,_⟩:=I.tuple (Ie.of hp)
    obtain⟨f,g1,g2⟩:=Qk (A:=X.A.in1) I S ((hr.mono (by decide:7<=8)).in1) r r1 rx rv e1;refine SeqAt.in_tupleAt f (show s.heap.IsTuple p is.toArray from pl) g1 ?_;have:=Uo (by rw[(Ej e1).1,r.length,r1.length]) g2;rw[this] at e2;rw[show is.toArray.any f=b by rw[<- e2];simp[Am]];exact⟨.bl b,H,I,rfl,q⟩
 cases ry with
 |@ref n p e1 =>
  simp only[MW.Nt] at e;split at e
  . rename_i gw hM
    obtain⟨k,e2,e3⟩:=bz.mp e;obtain⟨l,h1,h2⟩:=S.obj n _ p hM e1;obtain⟨bb,rfl,hb⟩:=Vv rx e2;cases ru;refine a5z hu I (Mr.t h1 hb) rv λs' I'=>⟨.bl b,H,I',?_,q⟩
    rw[<- e3];cases hk:MW.vz gw k with
    |none=>rw[(h2.look (k:=k)).2 hk];rfl|some d=>obtain⟨z,h3,_⟩:=(h2.look (k:=k)).1 d hk;rw[h3];rfl
  . rename_i gw hM
    obtain⟨k,e2,e3⟩:=bz.mp e;obtain⟨l,h1,h2⟩:=S.obj n _ p hM e1;have hy:=Rp rx e2;subst hy;cases ru;refine a5z hu I (Mr.k h1) rv λs' I'=>⟨.bl b,H,I',?_,q⟩
    rw[<- e3];cases hk:MW.vz gw k with
    |none=>rw[(h2.look (k:=k)).2 hk];rfl|some d=>obtain⟨z,h3,_⟩:=(h2.look (k:=k)).1 d hk;rw[h3];rfl
  . obtain⟨ds,h1,h2⟩:=dm.mp e
    exact seq ds h1 h2
 |_ =>
  simp only[MW.Nt] at e;obtain⟨ds,h1,h2⟩:=dm.mp e;exact seq ds h1 h2
set_option tactic.hygienic true in
def atl(hr:zm 8 X.A):Ca X (compareOp .NotIn) (Wx nm X.K .O7):=λpins s σ H v u v' u' Q I rv ru hh=>by
 obtain⟨ι,M,x,y,b0,S,rx,ry,e,q⟩:=hh;obtain⟨b,e',eb⟩:=bz.mp (show(MW.Nt M x y).map not=some b0 from e);subst eb;have hu:X.A.units+1<cLine:=ab2 hr
 have seq:∀ds,MW.Aa M y=some ds->MW.memD M x ds=some b->wpAny (model X.prog X.w) X.A (compareOp .NotIn v' u') (EP X pins σ Q) X.xe s:=λds h1 h2=>by
  obtain⟨bs,e1,e2⟩:=bz.mp (show(MW.Oh M x ds).map (·.any id)=some b from h2);obtain⟨p,vs,rfl,hp,r⟩:=Jc S ry h1;cases ru;rcases hp with hp|hp
  . obtain⟨is,r1,pl,_⟩:=I.list (G9.of hp)
    obtain⟨f,g1,g2⟩:=Qk (A:=X.A.in1) I S ((hr.mono (by decide:7<=8)).in1) r r1 rx rv e1;refine SeqAt.notIn_listAt f pl.isList g1 ?_;have:=Uo (by rw[(Ej e1).1,r.length,r1.length]) g2;rw[this] at e2;rw[show is.toArray.any f=b by rw[<- e2];simp[Am]];exact⟨.bl !b,H,I,rfl,q⟩
  . obtain⟨is,r1,pl,_⟩:=I.tuple (Ie.of hp)
    obtain⟨f,g1,g2⟩:=Qk (A:=X.A.in1) I S ((hr.mono (by decide:7<=8)).in1) r r1 rx rv e1;refine SeqAt.notIn_tupleAt f (show s.heap.IsTuple p is.toArray from pl) g1 ?_;have:=Uo (by rw[(Ej e1).1,r.length,r1.length]) g2;rw[this] at e2;rw[show is.toArray.any f=b by rw[<- e2];simp[Am]];exact⟨.bl !b,H,I,rfl,q⟩
 cases ry with
 |@ref n p e1 =>
  clear e;simp only[MW.Nt] at e';split at e'
  . rename_i gw hM
    obtain⟨k,e2,e3⟩:=bz.mp e';obtain⟨l,h1,h2⟩:=S.obj n _ p hM e1;obtain⟨bb,rfl,hb⟩:=Vv rx e2;cases ru;refine ag0 hu I (Mr.t h1 hb) rv λs' I'=>⟨.bl !b,H,I',?_,q⟩
    rw[<- e3];cases hk:MW.vz gw k with
    |none=>rw[(h2.look (k:=k)).2 hk];rfl|some d=>obtain⟨z,h3,_⟩:=(h2.look (k:=k)).1 d hk;rw[h3];rfl
  . rename_i gw hM
    obtain⟨k,e2,e3⟩:=bz.mp e';obtain⟨l,h1,h2⟩:=S.obj n _ p hM e1;have hy:=Rp rx e2;subst hy;cases ru;refine ag0 hu I (Mr.k h1) rv λs' I'=>⟨.bl !b,H,I',?_,q⟩
    rw[<- e3];cases hk:MW.vz gw k with
    |none=>rw[(h2.look (k:=k)).2 hk];rfl|some d=>obtain⟨z,h3,_⟩:=(h2.look (k:=k)).1 d hk;rw[h3];rfl
  . obtain⟨ds,h1,h2⟩:=dm.mp e'
    exact seq ds h1 h2
 |_ =>
  simp only[MW.Nt] at e';obtain⟨ds,h1,h2⟩:=dm.mp e';exact seq ds h1 h2
end
open Xc (Bx Qw)
def KH(H:Hp)(x:List Key×Addr):Prop:=H x.2=some (.tup (x.1.map kV))/\∀k∈x.1,∃i,k=.inl i
def acj(P:Program)(w:World)(H:Hp):Xc.Qv (m5 P w) (KH H):=λx hx k hk v n hv=>by
 obtain⟨i,rfl⟩:=hx.2 k hk;rcases Ab (show Vg (Sum.inl i) v=true from hv) with⟨j,t,e,rfl⟩|⟨y,t,e,_⟩
 . unfold hashByValue;rfl
 . cases e
def Ri:∀ks:List Kx,MW.Q0 (MW.alj ks)=some ks:=λks=>by
 show MW.Y9 (ks.map MW.ali)=some ks
 induction ks with
 |nil=>rfl|cons k ks ih=>cases k<;>simp[MW.Y9,MW.ali,MW.Qz,ih]
theorem V2:∀{l:List (List Kx×Dv)},MW.Cr (l.map λp=>MW.alj p.1)=some (l.map (·.1))
 |[]=>rfl|p::l=>by simp[MW.Cr,Ri,V2]
set_option tactic.hygienic true in
theorem ahe{ι:Io}{H:Hp}{K:Fg}:∀{ds:List Dv}{vs:List V}{ks:List (List Kx)},mj K ι H ds vs->MW.Cr ds=some ks->∃bs:List Addr,vs=bs.map V.ref/\bs.length=ks.length/\∀x∈ks.zip bs,H x.2=some (.tup (x.1.map kV))
 |_,_,_,.nil,h=>by simp[MW.Cr] at h;subst h;exact⟨[],rfl,rfl,by simp⟩
 |_,_,_,.cons r t,h=>by
  simp only[MW.Cr] at h;split at h
  . rename_i k ks' h1 h2
    cases h;obtain⟨b,rfl,e⟩:=Vv r h1;obtain⟨bs,rfl,hl,hz⟩:=ahe t h2;refine⟨b::bs,rfl,by simp[hl],λx hx=>?_⟩;simp only[List.zip_cons_cons,bx] at hx;rcases hx with rfl|hx
    . exact e
    . exact hz x hx
  . cases h
def aj0(h:MW.Cu ks=true):ks.length<=30/\∀k∈ks,∀x∈k,∃i,x=Sum.inl i:=by
 simp only[MW.Cu,ao,dg,ik] at h;refine⟨h.1,λk hk x hx=>?_⟩;have:=h.2 k hk x hx;cases x with
 |inl i=>exact⟨i,rfl⟩|inr s=>cases this
set_option tactic.hygienic true in
def aon(hr:zm 8 X.A)(I:Inv X pins σ H s)(S:mq nm X.K ι H M)(rx:Rep X.K ι H x v)(ru:RelV v u)(hk:MW.keysOf M x=some ds)(hd:MW.Cr ds=some ks)(pl:MW.Cu ks=true)(h:∀p o n s',Inv X ((p,o)::pins) σ H s'->Bx (m5 X.prog X.w) (KH H) s'.heap p (λk=>k∈ks) n->s'.heap.get? p=some o->Q (.ref p) s') :
 wpAny (model X.prog X.w) X.A (call (.type "set") [u]) Q X.xe s:=by
 obtain⟨hlen,hint⟩:=aj0 pl;have hu:X.A.in1.in1.in1.units+1<cLine:=by have:=hr.un;show X.A.units+1+1+1+1<cLine;lia
 have kept:∀b o,s.heap.get? b=some o->(s.heap.push (Xc.zx X.w)).get? b=some o:=λb o e=>aq _ e
 have I1:Inv X pins σ H { s with heap:=s.heap.push (Xc.zx X.w) }:=I.kept (t':=s.toks) kept;have fr:Bx (m5 X.prog X.w) (KH H) (s.heap.push (Xc.zx X.w)) s.heap.objs.size (λ_=>False) 0:=Xc.aqz (bh _ rfl);have fin:∀(h':Heap)(tk n':Nat),(∀b o,b≠s.heap.objs.size->(s.heap.push (Xc.zx X.w)).get? b=some o->h'.get? b=some o)->Bx (m5 X.prog X.w) (KH H) h' s.heap.objs.size (λk=>k∈ks) n'->Q (.ref s.heap.objs.size) { s with heap:=h',toks:=tk }:=λh' tk n' hkp hS=>by
  have I2:Inv X pins σ H { s with heap:=h',toks:=tk }:=I.kept λb o e=>hkp b o (fc (az e)) (kept b o e)
  obtain⟨o,es,ep,t,hg,hc,hdt,_⟩:=hS.get;refine h _ o n' _ (I2.Qa λq hq=>?_) hS hg;rcases bx.mp hq with rfl|hq
  . refine⟨hg,I.zp.fresh (bu _),vg I.lt,I.ayi (bu _),λv hv=>?_⟩
    rw[show o.data=_ from hdt] at hv;cases hv
  . exact I2.pin q (il _ hq)
 have lst:∀p vs,v=.ref p->H p=some (.lst vs)->mj X.K ι H ds vs->wpAny (model X.prog X.w) X.A (call (.type "set") [u]) Q X.xe s:=λp vs ev hp r=>by
  subst ev;cases ru;obtain⟨is,rv,pll,_⟩:=I1.list (G9.of hp);obtain⟨bs,rfl,hbl,hz⟩:=ahe r hd;have his:is=(ks.zip bs).map λx=>Value.ref x.2:=by
   apply v8;intro j;rw[iz]
   by_cases hj:j<bs.length
   . have e1:(bs.map V.ref)[j]?=some (.ref bs[j]):=by simp[hj]
     have hj2:j<is.length:=by have:=rv.length;simp at this;exact b_ hj (f_ this)
     have e2:is[j]?=some is[j]:=by simp[hj2]
     have:=Vals.ach rv e1 e2;rw[e2,show is[j]=Value.ref bs[j] from this];have hj3:j<ks.length:=b_ hj (f_ hbl)
     have hz2:(ks.zip bs)[j]?=some (ks[j],bs[j]):=by rw[dh (by simp;lia)];simp
     rw[hz2];rfl
   . have hj2:¬j<is.length:=by have:=rv.length;simp at this;exact j_ (a_ (g_ this) (s_ hj))
     rw[j6 (s_ hj2),j6 (by simp;lia)];rfl
  refine Xc.Kq (R:=λs'=>Q (.ref s.heap.objs.size) s') ?_ λs' h=>h
  refine Xc.alb (acj _ _ H) (ks:=ks.zip bs) (items:=is.toArray) (by have:=hr.hd;exact this) hu fr pll.isList (by simpa using his) (λx hx=>Mq I1.zp (hz x hx)) (λx hx=>⟨hz x hx,λk hk=>hint x.1 (List.of_mem_zip (a:=x.1) (b:=x.2) hx).1 k hk⟩) (by simp;lia) λh' tk n' hkp hS=>?_
  refine fin h' tk n' hkp (hS.congr λk=>?_);rw[List.map_fst_zip (g_ hbl)]
 unfold MW.keysOf at hk;split at hk
 . rename_i n
   split at hk
   . rename_i gw hM
     cases hk;rw[V2] at hd;cases hd;cases rx with
     |@ref n p e1 =>
      obtain⟨l,h1,h2⟩:=S.obj n _ p hM e1;cases ru;obtain⟨_,hsm,xs,rel,dd⟩:=anc I1.zp h1;obtain⟨k1,k2⟩:=ahc rel;have k3:xs.map (·.1)=gw.map (·.1):=k1.trans (O1 h2);have hl:xs.length=gw.length:=by have:=p7 List.length k3;simpa using this
      refine Xc.Kq (R:=λs'=>Q (.ref s.heap.objs.size) s') ?_ λs' h=>h
      refine Xc.ak8 (acj _ _ H) (by have:=hr.un;show X.A.units+1+1<cLine;lia) fr dd hsm (λx hx=>⟨k2 x hx,λk hk=>?_⟩) (by simp at hlen;lia) λh' n' sb hS=>?_
      . have:x.1∈gw.map (·.1):=by rw[<- k3];exact bf.mpr ⟨x,hx,rfl⟩
        exact hint x.1 this k hk
      . refine fin h' s.toks n' (λb o hb e=>(sb.2 b hb).trans e) (hS.congr λk=>?_)
        rw[k3];simp
   . obtain⟨p,vs,e1,e2,r⟩:=qy S rx hk
     exact lst p vs e1 e2 r
 . obtain⟨p,vs,e1,e2,r⟩:=qy S rx hk
   exact lst p vs e1 e2 r
def a7r(hS:Bx (m5 P w) (KH H) h p T n)(hg:h.get? p=some o)(hg':h'.get? p=some o)(le:∀a vs,H a=some (.tup vs)->H' a=some (.tup vs))(ok:N8 P w H' h'):Bx (m5 P w) (KH H') h' p T n:=by obtain⟨xs,o',es,ep,t,D,r⟩:=hS;have e:o'=o:=jq (D.get.symm.trans hg);subst e;refine⟨xs,o',es,ep,t,⟨hg',D.exa,D.dat,D.tab,D.ent,λx hx=>?_,D.nod,D.led,D.pla⟩,r⟩;obtain⟨_,k1,k2⟩:=D.keys x hx;exact⟨Mq ok (le _ _ k1),le _ _ k1,k2⟩
def ack:MW.Hi xs ys=true↔∀k,k∈xs↔k∈ys:=by
 simp only[MW.Hi,ao,ik,vo,dg];constructor
 . rintro⟨h1,h2⟩ k
   exact⟨λh=>by obtain⟨y,hy,e⟩:=h1 k h;rw[<- e];exact hy,λh=>by obtain⟨y,hy,e⟩:=h2 k h;rw[<- e];exact hy⟩
 . exact λh=>⟨λx hx=>⟨x,(h x).mp hx,rfl⟩,λy hy=>⟨y,(h y).mpr hy,rfl⟩⟩
set_option tactic.hygienic true in
def atm(hr:zm 8 X.A)(hg:Gl X xn)(hm:X.mg xn=none)(hv:bootBuiltins xn=some (.type "set"))(hn:xn≠"__name__")(Qq:(xn==("__debug__" : Str))=false)(ha:PA X [a] (Vq nm W X.K (.cons a' .nil)))(hb:PA X [b] (Vq nm W X.K (.cons b' .nil)))(he:starEach [a] X.env=(false,eval a X.env)::starEach [] X.env)(he2:starEach [b] X.env=(false,eval b X.env)::starEach [] X.env)(Ge:(backTo q1 (starEach [] X.env)).any (·.1)=false)(afl:(backTo q2 (starEach [] X.env)).any (·.1)=false) :
 PC X .NotEq (.Call (.Name xn p1) [a] [] q1) (.Call (.Name xn p2) [b] [] q2) (tE nm W X.K (.U6 a' b')):=by
 intro pins s σ H Q I hh;obtain⟨ι,ρ,M,d,M',S,R,e,q⟩:=hh;rw[MW.Xk] at e;obtain⟨x,M1,e1,e⟩:=gf e;cases hk1:(MW.keysOf M1 x).bind MW.Cr with
 |none=>rw[hk1] at e;cases e
 |some ks =>
  rw[hk1] at e;simp only at e;split at e
  . rename_i pl1
    obtain⟨y,M2,e2,e⟩:=gf e;cases hk2:(MW.keysOf M2 y).bind MW.Cr with
    |none=>rw[hk2] at e;cases e
    |some ls =>
     rw[hk2] at e;simp only at e;split at e
     . rename_i pl2
       cases e;obtain⟨ds1,g1,g1'⟩:=dm.mp hk1;obtain⟨ds2,g2,g2'⟩:=dm.mp hk2;refine ig (Bj I hg hm hv ?_ hn Qq);refine jc (Ar (ha q1 pins s σ H (λvs H1=>∃ι1 v,vs=[v]/\Le ι H ι1 H1/\mq nm X.K ι1 H1 M1/\Rep X.K ι1 H1 x v) I ⟨ι,ρ,M,[x],M1,S,R,by simp[e1,Res.bind],fun ι1 H1 vs le S1 r=>?_⟩) λus s1 ⟨vs,H1,I1,r1,ι1,v,ev,Ul,S1,rx⟩=>?_) he Ge
       . obtain⟨v,ev,rv⟩:=Ht r rfl
         exact⟨ι1,v,ev,le,S1,rv⟩
       subst ev;cases r1 with
       |cons rv rn =>
        cases rn;refine aon hr I1 S1 rx rv g1 g1' pl1 λp o n s2 I2 hS hgp=>?_
        refine ig (Bj I2 hg hm hv ?_ hn Qq);refine jc (Ar (hb q2 _ s2 σ H1 (λvs H2=>∃ι2 v,vs=[v]/\Le ι1 H1 ι2 H2/\mq nm X.K ι2 H2 M'/\Rep X.K ι2 H2 y v) I2 ⟨ι1,ρ,M1,[y],M',S1,R.mono Ul,by simp[e2,Res.bind],fun ι2 H2 vs le S2 r=>?_⟩) λus s3 ⟨vs,H2,I3,r2,ι2,v2,ev2,zg,S2,ry⟩=>?_) he2 afl
        . obtain⟨v,ev,rv⟩:=Ht r rfl
          exact⟨ι2,v,ev,le,S2,rv⟩
        subst ev2;cases r2 with
        |cons rv2 rn2 =>
         cases rn2;refine aon hr I3 S2 ry rv2 g2 g2' pl2 λp' o' n' s4 I4 Uz bjm=>?_
         have hp:s4.heap.get? p=some o:=(I4.pin (p,o) (il _ (bc _ cz))).1;have hS4:=a7r (H':=H2) hS hgp hp zg.tup I4.zp;refine Xc.a3n (by have:=hr.un;show X.A.units+1<cLine;lia) (by have:=hr.un;lia) hS4 Uz λc hc=>?_
         have ec:c=!MW.Hi ks ls:=by have:=ack (xs:=ks) (ys:=ls);cases c<;>cases h:MW.Hi ks ls<;>simp_all
         refine⟨.bl c,H2,(I4.Qa λz hz=>I4.pin z (il _ (bc _ (bc _ hz)))),rfl,?_⟩;rw[ec];exact q ι2 H2 _ (Ul.trans zg) S2 (.bl _)
     . cases e
  . cases e
def rM(nm:Nm)(K:Fg)(m:Bm):V->List V->Hp->VK->Prop:=λv vs H Q=>∃ι M x ds d M',mq nm K ι H M/\Rep K ι H x v/\mj K ι H ds vs/\MW.Gi m x ds M=.ok d M'/\(∀ts,x=.tup ts->m≠.index) /\
 ∀ι' H' w,Le ι H ι' H'->mq nm K ι' H' M'->Rep K ι' H' d w->Q w H'
set_option tactic.hygienic true in
theorem ato{id:String}(hT:∀ι H M x v,mq nm X.K ι H M->Rep X.K ι H x v->MW.Ke m x M=true->tyV X.K T v H)(pa:PlainAttrs T)(slot:Slot T name id)(hty:typeOf (.builtin id)=pure (.type "method_descriptor"))(hm:MtR X id (rM nm X.K m))(ho:PE X o (tE nm W X.K o'))(ha:PA X (e::es) (Vq nm W X.K es'))(anl:attributeBase o name X.env (eval o X.env)=eval o X.env)(azp:((backTo Vl (starEach (e::es) X.env)).all (λx=>!x.1)&&(backToKw Vl (keywordEach [] X.env)).all (λx=>x.1.isSome)
&&decide ((e::es).length+([]:List Keyword).length+(if([]:List Keyword).isEmpty then 0 else 1)<30))=true)(anm:(apos.endLine==Vl.line)=true)(hs:starEach (e::es) X.env=(false,eval e X.env)::starEach es X.env)(afe:(backTo Vl (starEach es X.env)).any (·.1)=false) :
 PE X (.Call (.Attribute o name apos) (e::es) [] Vl) (tE nm W X.K (.bm m o' es')) :=
 PE.of (a6f pa slot hty hm ho ha anl azp anm hs afe) fun σ H Q ι ρ M d M' S R e q=>by
  rw[MW.axr] at e;obtain⟨x,M1,e1,e⟩:=gf e;split at e
  . rename_i ht
    obtain⟨ds,M2,e2,e⟩:=gf e;exact one S R e1 fun ι1 H1 v le S1 R1 r=>⟨hT ι1 H1 M1 x v S1 r ht,ι1,ρ,M1,ds,M2,S1,R1,e2,fun ι2 H2 vs zg S2 rs=>⟨ι2,M2,x,ds,d,M',S2,r.mono zg,rs,e,(λts hx hm=>by subst hx;subst hm;cases ht),fun ι' H' w Ww S' r'=>q ι' H' w ((le.trans zg).trans Ww) S' r'⟩⟩
  . cases e
set_option tactic.hygienic true in
def ty_list{X:Cx}(hm:m=.append\/m=.extend\/m=.index)(S:mq nm X.K ι H M)(r:Rep X.K ι H x v)(h:MW.Ke m x M=true):tyV X.K "list" v H:=by
 have go:∀ds,MW.fu M x=some ds->tyV X.K "list" v H:=λds hd=>by obtain⟨p,vs,rfl,e2,_⟩:=qy S r hd;exact .inl ⟨rfl,vs,G9.of e2⟩
 rcases hm with rfl|rfl|rfl
 . cases x<;>simp only[MW.Ke] at h<;>try cases h
   split at h
   . rename_i n ds hM
     exact go ds (by simp only[MW.fu,hM])
   . cases h
 . cases x<;>simp only[MW.Ke] at h<;>try cases h
   split at h
   . rename_i n ds hM
     exact go ds (by simp only[MW.fu,hM])
   . cases h
 . have h:(MW.fu M x).isSome=true:=h
   obtain⟨ds,hd⟩:=qd.mp h;exact go ds hd
set_option tactic.hygienic true in
def atp(e:MW.Gi .append x ds M=.ok d M'):∃n d0 xs,x=.ref n/\ds=[d0]/\M[n]?=some (.lst xs)/\xs.length<100000/\d=.non/\M'=M.set n (.lst (xs++[d0])):=by
 unfold MW.Gi at e;split at e
 . rename_i n d0
   split at e
   . rename_i xs hM
     split at e
     . rename_i hl
       cases e;exact⟨_,_,_,rfl,rfl,hM,hl,rfl,rfl⟩
     . cases e
   . cases e
 . rename_i h;cases h
 . rename_i h;cases h
 . rename_i h;cases h
 . cases e
def atq(e:MW.Gi .index x ds M=.ok d M'):∃d0 xs j,ds=[d0]/\MW.Aa M x=some xs/\MW.W3 M d0 xs=some j/\d=.int ((j:Nat):Int)/\M'=M:=by
 match ds,e with
 |[d0],e =>
  have e:Res.uv (((MW.Aa M x).bind (MW.W3 M d0)).map λj=>MW.D.int ((j:Nat):Int)) M=.ok d M':=by rw[<- e];cases x<;>simp only[MW.Gi]<;>first|rfl|(generalize(MW.Aa M _).bind (MW.W3 M d0)=z;cases z<;>rfl)
  obtain⟨e1,e2⟩:=wk e;obtain⟨j,e3,e4⟩:=bz.mp e1;obtain⟨xs,e6,e7⟩:=dm.mp e3;exact⟨d0,xs,j,rfl,e6,e7,e4.symm,e2⟩
 |[],e=>cases x<;>simp[MW.Gi] at e|_::_::_,e=>cases x<;>simp[MW.Gi] at e
def aoo:MtR X "list.append" (rM nm X.K .append):=λpins s σ H v vs u us Q I ru V1 hh=>by
 obtain⟨ι,M,x,ds,d,M',S,r,rs,e,_,q⟩:=hh;obtain⟨n,d0,xs,rfl,rfl,hM,hl,rfl,rfl⟩:=atp e;cases r with
 |ref ha =>
  obtain⟨ys,h3,h4⟩:=S.obj n _ _ hM ha;cases rs with
  |cons hd ht =>
   cases ht;refine Yh pins s σ H _ _ u us Q I ru V1 ⟨_,ys,_,rfl,rfl,h3,by rw[<- h4.length];exact Qi hl,?_⟩;obtain⟨S2,zg⟩:=S.put (u:=.lst (ys++[_])) (o:=.lst (xs++[_])) hM ha λle=>⟨_,v5,(h4.mono le).append (.cons (hd.mono le) .nil)⟩
   exact q _ _ _ zg S2 .non
def atr{ds:List Dv}(e:MW.Gi .extend x ds M=.ok d M'):∃n ys xs,x=.ref n/\ds=[.vl ys]/\M[n]?=some (.lst xs)/\xs.length+ys.length<100000/\d=.non/\M'=M.set n (.lst (xs++ys)):=by
 cases x with
 |ref n=>match ds,e with
  |[.vl ys],e =>
   have e:(match M[n]? with|some (.lst xs)=>if xs.length+ys.length<100000 then .ok .non (M.set n (.lst (xs++ys))) else .bad|_=>.bad)=Res.ok d M':=e;cases hM:M[n]? with
   |none=>rw[hM] at e;cases e
   |some o =>
    rw[hM] at e;cases o with
    |lst xs =>
     by_cases hl:xs.length+ys.length<100000
     . have e:(if xs.length+ys.length<100000 then .ok .non (M.set n (.lst (xs++ys))) else .bad)=Res.ok d M':=e
       rw[cj hl] at e;cases e;exact⟨n,ys,xs,rfl,rfl,hM,hl,rfl,rfl⟩
     . have e:(if xs.length+ys.length<100000 then .ok .non (M.set n (.lst (xs++ys))) else .bad)=Res.ok d M':=e
       rw[bw hl] at e;cases e
    |_=>cases e
 |_=>cases ds<;>cases e
def aop:MtR X "list.extend" (rM nm X.K .extend):=λpins s σ H v vs u us Q I ru V1 hh=>by
 obtain⟨ι,M,x,ds,d,M',S,r,rs,e,_,q⟩:=hh;obtain⟨n,zs,xs,rfl,rfl,hM,hl,rfl,rfl⟩:=atr e;cases r with
 |ref ha =>
  obtain⟨ys,h3,h4⟩:=S.obj n _ _ hM ha;cases rs with
  |cons hd ht =>
   cases ht;cases hd with
   |@vl b _ us h5 n5 h6 =>
    refine ajp pins s σ H _ _ u _ Q I ru V1 ⟨_,b,ys,us,rfl,rfl,h3,h5,by rw[<- h4.length,<- h6.length];exact xg (Qi hl),?_⟩;obtain⟨S2,zg⟩:=S.put (u:=.lst (ys++us)) (o:=.lst (xs++zs)) hM ha λle=>⟨_,v5,(h4.mono le).append (h6.mono le)⟩
    exact q _ _ _ zg S2 .non
def aak:∀{bs:List Bool}{j:Nat},bs.findIdx? id=some j->bs[j]?=some true/\∀m,m<j->bs[m]?=some false:=fun{bs j} h=>by obtain⟨h1,h2,h3⟩:=um.mp h;refine⟨by rw[dh h1];simpa using h2,λm hm=>?_⟩;have:=h3 m hm;rw[dh (d_ hm h1)];simpa using this
def atu(hr:zm 8 X.A):MtR X "list.index" (rM nm X.K .index):=λpins s σ H v vs u us Q I ru V1 hh=>by
 obtain⟨ι,M,x,ds,d,M',S,r,rs,e,nt,q⟩:=hh;obtain⟨d0,xs,j,rfl,e1,e2,rfl,rfl⟩:=atq e;cases rs with
 |cons hd ht =>
  cases ht;cases V1 with
  |cons hu ht2 =>
   cases ht2;obtain⟨bs,e3,e4⟩:=dm.mp (show(MW.Oh M' d0 xs).bind (·.findIdx? id)=some j from e2);obtain⟨p,ys,rfl,hp,rl⟩:=Jc S r e1;cases ru;rcases hp with hp|hp
   . obtain⟨z,is,n,rv,hl,hg⟩:=I.ajo hp
     obtain⟨f,g1,g2⟩:=Qk (A:=X.A.in1) I S ((hr.mono (by decide:7<=8)).in1) rl rv hd hu e3;obtain⟨f1,f2⟩:=aak e4;have hb:=(Ej e3).1;have hlen:is.length=bs.length:=by rw[hb,rl.length,hl]
     have lj:j<is.length:=by rw[hlen];exact(ak.mp f1).1
     have fa:∀m (hm:m<is.length),bs[m]?=some (f is[m]):=λm hm=>g2 m _ (dh hm)
     have hT:s.TypeIs (.ref p) "list" := ⟨_,hg,rfl⟩;have hsz:is.length<=sizeLine:=by rw[<- hl];exact z
     rw[qg] at hsz;refine call_meetsIn F.slot_list_index hT F.entry_list_index (F.args_list_index_2 _ _) (λA R s h=>SeqAt.list_indexAt p is.toArray n none #[] _ f j (by simpa using lj) (by lia) ?_ ?_ _ _ A R s h) ⟨hg,g1,?_⟩
     . have:=fa j lj;rw[f1] at this;simpa using(jq this).symm
     . intro m hm hmj
       have hm:m<is.length:=by simpa using hm
       have:=fa m hm;rw[f2 m hmj] at this;simpa using(jq this).symm
     . exact⟨.int j,H,I.tok _,⟨_,rfl⟩,q ι H _ (Le.refl _ _) S (.int _)⟩
   . cases r with
     |tup e r=>exact absurd rfl (nt _ rfl)|vl e n r=>rw[hp] at e;cases e|fz e r=>simp[MW.Aa,MW.fu] at e1
     |ref e =>
      obtain⟨u',q',mu⟩:=S.mem (au e);rw[hp] at mu;exact mu.elim
end Sm
namespace Xc
open PySem L2
def SmK(k:List Key):Prop:=∃i j:Int,-1<=i/\i<9/\-1<=j/\j<9/\k=[.inl i,.inl j]
noncomputable def ahf(i j:Int):Int:=reduceHash (Builtin.Tuple.tupleHashOf [hashInt i,hashInt j])
noncomputable def rgI:List Int:=[-1,0,1,2,3,4,5,6,7,8]
def aoq:(rgI.all λi=>rgI.all λj=>rgI.all λi'=>rgI.all λj'=>(ahf i j != ahf i' j')||(i==i'&&j==j'))=true:=by decide+kernel
def aal(h1:-1<=i)(h2:i<9):i∈rgI:=by
 have:i=-1\/i=0\/i=1\/i=2\/i=3\/i=4\/i=5\/i=6\/i=7\/i=8:=by lia
 unfold rgI;simp only[bx,wu,or_false];exact this
def aor{P:Program}(h:SmK k)(h':SmK k')(e:tupleKeyHash (m5 P w) k=tupleKeyHash (m5 P w) k'):k=k':=by obtain⟨i,j,a1,a2,a3,a4,rfl⟩:=h;obtain⟨i',j',b1,b2,b3,b4,rfl⟩:=h';have e:ahf i j=ahf i' j':=e;have:=ik.mp (ik.mp (ik.mp (ik.mp aoq i (aal a1 a2)) j (aal a3 a4)) i' (aal b1 b2)) j' (aal b3 b4);rw[e] at this;simp at this;rw[this.1,this.2]
def afm(hk:IsTupleKey (m5 prog w) s.heap ks a)(h:Q false s):wpAny (model prog w) A (Builtin.Dict.quietEq (.ref a)) Q E s:=by
 unfold Builtin.Dict.quietEq;refine aa (wpAny_specialOf hk.typeIs F.slot_tuple_eq.lookup ?_);refine aj ?_;have:(some (Value.builtin "tuple.__eq__")==some (Value.builtin "object.__eq__"))=false:=by decide
 rw[this];exact h
def aos{xs:List (List Key×Addr×Value)}(hn:(xs.map (·.1)).Nodup)(hs:∀x∈xs,SmK x.1)(hx:x∈xs) :
 ((xs.map (entryOfKey (tupleKind (m5 prog w)))).filter (·.hash==tupleKeyHash (m5 prog w) x.1)).length<=1:=by
 induction xs with
 |nil=>simp
 |cons y ys ih =>
  rw[gm,mz] at hn;rw[gm]
  by_cases hy:tupleKeyHash (m5 prog w) y.1=tupleKeyHash (m5 prog w) x.1
  . have e:=aor (hs y cz) (hs x hx) hy
    have none:(ys.map (entryOfKey (tupleKind (m5 prog w)))).filter (·.hash==tupleKeyHash (m5 prog w) x.1)=[]:=by rw[List.filter_eq_nil_iff];intro z hz hq;obtain⟨z',hz',rfl⟩:=bf.mp hz;have hq:tupleKeyHash (m5 prog w) z'.1=tupleKeyHash (m5 prog w) x.1:=eq_of_beq (show(tupleKeyHash (m5 prog w) z'.1==tupleKeyHash (m5 prog w) x.1)=true from hq);have:=aor (hs z' (bc _ hz')) (hs x hx) hq;exact hn.1 (bf.mpr ⟨z',hz',this.trans e.symm⟩)
    rw[List.filter_cons,none];split<;>simp
  . rw[List.filter_cons,bw (by show ¬((tupleKeyHash (m5 prog w) y.1==tupleKeyHash (m5 prog w) x.1)=true);simpa using hy)]
    rcases bx.mp hx with rfl|hx
    . exact absurd rfl hy
    . exact ih hn.2 (λz hz=>hs z (bc _ hz)) hx
def acn{id:String}{xs:List (List Key×Addr×Value)}(ho:s.heap.get? d=some o)(hd:o.data=.dict es ep)(he:es.toList=xs.map (entryOfKey (tupleKind (m5 prog w))))(hk:∀x∈xs,IsTupleKey (m5 prog w) s.heap x.1 x.2.1)(hn:(xs.map (·.1)).Nodup)(hs:∀x∈xs,SmK x.1)(h:Q es s) :
 wpAny (model prog w) A (Builtin.Dict.entriesForEmpty id d) Q E s:=by
 unfold Builtin.Dict.entriesForEmpty;refine aa (qu ho hd ?_);refine aa ?_;rw[<- Array.forIn_toList];refine pq _ (λrest _ s'=>s'=s/\∀e∈rest,∃x∈xs,e=entryOfKey (tupleKind (m5 prog w)) x) _ ?_ ?_ _ _ ⟨rfl,λe hm=>?_⟩
 . rintro e rest r s' ⟨rfl,Cm⟩
   obtain⟨x,hx,rfl⟩:=Cm e cz;show wpAny _ _ (Builtin.Dict.quietEq (.ref x.2.1) >>= _) _ _ _;refine aa (afm (hk x hx) ?_);simp only[yh,ju];have h1:=aos (prog:=prog) (w:=w) hn hs hx;rw[bw (by
    intro hc;have:(es.filter (·.hash==(entryOfKey (tupleKind (m5 prog w)) x).hash)).size=((xs.map (entryOfKey (tupleKind (m5 prog w)))).filter (·.hash==tupleKeyHash (m5 prog w) x.1)).length:=by rw[<- he,<- u0,Array.toList_filter];rfl
    exact l_ hc (a_ (f_ this) h1))]
   exact aj ⟨rfl,λe he=>Cm e (bc _ he)⟩
 . rintro b s' ⟨rfl,_⟩
   exact aj h
 . rw[he] at hm
   obtain⟨x,hx,rfl⟩:=bf.mp hm;exact⟨x,hx,rfl⟩
def a7t{prog:Program}{w:World}{h h':Heap}{ks:List Key}{p a:Addr}(x:IsTupleKey (m5 prog w) h ks p)(hs:∀b o,h.get? b=some o->h'.get? b=some o):IsTupleKey (m5 prog w) h' ks p :=
 let ⟨o,items,n,ho,r⟩:=x;⟨o,items,n,hs p o ho,r⟩
set_option tactic.hygienic true in
def a7u(hds:(d==sysModules)=false)(hd:s.heap.DictOfH (tupleKind (m5 prog w)) d xs)(hs:∀x∈xs,SmK x.1)(hsz:xs.length<=sizeLine)(h:∀h',h'.DictOfH (tupleKind (m5 prog w)) s.heap.objs.size xs->(∀b o,s.heap.get? b=some o->h'.get? b=some o)->Q (.ref s.heap.objs.size) { s with heap:=h' }) :
 wpAny (model prog w) A (call (.type "dict") [.ref d]) Q E s:=by
 refine callType_codes (Q₁:=λobj s₁=>obj=.ref s.heap.objs.size/\s₁={ s with heap:=s.heap.push { cls:=.type "dict",data:=.dict #[] } }) F.kt_called_dict (F.kt_typeCall_dict_1 _) F.entry_dict_init (kt_code_dict_new _ ⟨rfl,rfl⟩) ?_;rintro obj s₁ ⟨rfl,rfl⟩;have hdT:=hd.typeIs;obtain⟨od,esd,epd,hod,hcd,hdd,hed,hxd,hnd⟩:=hd;have keep:∀b o,s.heap.get? b=some o->(s.heap.push { cls:=.type "dict",data:=.dict #[] }).get? b=some o:=λb o e=>aq _ e
 have aot:(s.heap.push { cls:=.type "dict",data:=.dict #[] }).get? s.heap.objs.size=some { cls:=.type "dict",data:=.dict #[] }:=bh _ rfl;have hTn:Shared.TypeIs { s with heap:=s.heap.push { cls:=.type "dict",data:=.dict #[] } } (.ref s.heap.objs.size) "dict" := ⟨_,aot,rfl⟩;have hT':Shared.TypeIs { s with heap:=s.heap.push { cls:=.type "dict",data:=.dict #[] } } (.ref d) "dict" := ⟨od,keep _ _ hod,hcd.1⟩;have aef:=keep _ _ hod;have hdo:s.heap.objs.size≠d:=λe=>absurd (az hod) (by rw[e];exact lq _)
 have hlen:esd.size=xs.length:=size_of_entries hed;refine⟨hTn,F.args_dict_init_2 _ _,?_⟩;unfold Builtin.«dict.__init__»;refine aa ?_;unfold Builtin.Dict.selfAndRest;refine aa (wpAny_notOrdered_dict hTn ?_);show wpAny _ _ (pure (s.heap.objs.size,[Value.ref d])) _ _ _;refine aj ?_;show wpAny _ _ (Builtin.Dict.updateFrom "dict.__init__" s.heap.objs.size (.ref d) [] .none) _ _ _;unfold Builtin.Dict.updateFrom;refine aa (uh hT' ?_);rw[bw (by decide)];refine aa ?_;unfold Builtin.Dict.merge;refine aa ?_;unfold Builtin.Dict.readDirectly;refine aa (m8 hT' isSubtype_dict_dict ?_);simp only[qj,cg,jd];refine aa (wpAny_specialOf hT' F.slot_dict_iter.lookup (aj ?_));simp only[yq,ju];refine aa (aj ?_);unfold Builtin.Dict.mergeDict;rw[bw (by simpa using hdo)];unfold Builtin.Dict.showsAll;rw[bw (by rw[hds];exact iu)];refine aa (aj ?_);refine aa (qu aef hdd ?_);have kk:∀{h':Heap},(∀b o,s.heap.get? b=some o->h'.get? b=some o)->∀x∈xs,(tupleKind (m5 prog w)).is h' x.1 x.2.1:=λhk x hx=>a7t (a:=d) (hxd x hx) hk
 have emp:esd=#[]->∀s',s'={ s with heap:=s.heap.push { cls:=.type "dict",data:=.dict #[] } }->wpAny (model prog w) A.in1.in1 (Builtin.Dict.addKeywords s.heap.objs.size [] >>= λ_=>ret Value.none) (λfin s'=>match fin with|.done f=>wants (λr s₂=>r=Value.none/\Q (.ref s.heap.objs.size) s₂) E (.ok f) s'|.again c'=>c'.quiet=true/\codeAny (model prog w) A.in1 c' (wants (λr s₂=>r=Value.none/\Q (.ref s.heap.objs.size) s₂) E) s') (λe s'=>wants (λr s₂=>r=Value.none/\Q (.ref s.heap.objs.size) s₂) E (.error e) s') s':=λhe s' Nk=>by have hx0:xs=[]:=yl.mp (by rw[<- hlen,he];rfl);subst Nk;refine aa (aj (aj ⟨rfl,h _ ⟨_,#[],0,aot,⟨rfl,rfl,rfl⟩,rfl,?_,kk keep,hnd⟩ keep⟩));rw[hx0];rfl
 dsimp only;split
 . refine aa (qu aot rfl ?_)
   rw[cj (show(#[]:Array DictEntry).isEmpty=true from rfl)];refine aa (acn aef hdd hed (kk keep) hnd hs ?_);split
   . refine aa (wpAny_updateDictKeysTo aot rfl (aj ?_) (by show esd.size<=_;exact a_ (f_ hlen) (a_ hsz x_)))
     have ahg:∀b o,s.heap.get? b=some o->((s.heap.push { cls:=.type "dict",data:=.dict #[] }).update s.heap.objs.size (Obj.mapDictKeys λ_=>esd)).get? b=some o:=λb o e=>by rw[uf _ _ (jx (fc (az e)))];exact keep b o e
     refine aa (aj (aj ⟨rfl,h _ ⟨_,esd,0+1,lz _ aot (Obj.isFreed_of_dict (Obj.data_mapDictKeys rfl _)),⟨rfl,rfl,rfl⟩,Obj.data_mapDictKeys rfl _,hed,kk ahg,hnd⟩ ahg⟩))
   . rename_i Sg
     exact aj (emp (Array.isEmpty_iff.mp (by simpa using Sg)) _ rfl)
 . rename_i hf
   have he:esd=#[]:=by
    apply w6;intro Sg;have hx:xs≠[]:=λe=>Sg (Array.eq_empty_of_size_eq_zero (by rw[hlen,e];rfl))
    obtain⟨x,ys,rfl⟩:=List.exists_cons_of_ne_nil hx;have Cm:(esd.all λe=>(keyPart e.key).isSome)=true:=by simp only[Bool.not_eq_true',Bool.not_eq_false,ao] at hf;exact hf.2
    rw[<- Array.all_toList,hed,gm,List.all_cons,ao] at Cm;exact Bool.noConfusion (Cm.1:(keyPart (.ref x.2.1)).isSome=true)
   refine aa (wpAny_dictEpoch aef hdd ?_);refine aa (qu aef hdd ?_);refine aa ?_;rw[he,Std.Legacy.Range.forIn_eq_forIn_range'];simp only[Std.Legacy.Range.size,gr,List.length_nil,Nat.sub_zero,uq,Nat.sub_self,Nat.div_one,List.range'_zero,List.forIn_nil];exact aj (aj (emp he _ rfl))
end Xc
namespace Sm
open PySem L2
open MW (Ex Bs OEx Og Bg m7 Lv Tg Res cu MO Ib Cp Op2 Blt Bm Kx Src)
set_option tactic.hygienic true in
def atv(h:MW.aer l=true):∀k∈l.map (·.1),Xc.SmK k:=λk hk=>by
 obtain⟨p,hp,rfl⟩:=bf.mp hk;simp only[MW.aer,ik] at h;have:=h p hp;split at this
 . rename_i i j e
   simp only[ao,dg] at this;exact⟨i,j,this.1.1.1,this.1.1.2,this.1.2,this.2,e⟩
 . cases this
def a0e{X:Cx}(S:mq nm X.K ι H M)(hp:H p=none)(r:su X.K ι H (λk k'=>k=k') gw l) :
 mq nm X.K (ι.add p) (upd H p (.dT l)) (M++[.dT gw])/\Le ι H (ι.add p) (upd H p (.dT l))/\Rep X.K (ι.add p) (upd H p (.dT l)) (.ref M.length) (.ref p):=by
 obtain⟨S1,le⟩:=S.new (H':=upd H p (.dT l)) (o:=.dT gw) hp (λa u e=>by rw[j5 (j8 e hp)];exact e) λle=>⟨l,v5,r.mono le⟩
 exact⟨S1,le,.ref (by show(ι.l++[p])[M.length]?=some p;rw[<- S.len];simp)⟩
def a0f{X:Cx}(S:mq nm X.K ι H M)(hp:H p=none)(r:su X.K ι H (λk k'=>k=k') gw l) :
 mq nm X.K (ι.add p) (upd H p (.dK l)) (M++[.dK gw])/\Le ι H (ι.add p) (upd H p (.dK l))/\Rep X.K (ι.add p) (upd H p (.dK l)) (.ref M.length) (.ref p):=by
 obtain⟨S1,le⟩:=S.new (H':=upd H p (.dK l)) (o:=.dK gw) hp (λa u e=>by rw[j5 (j8 e hp)];exact e) λle=>⟨l,v5,r.mono le⟩
 exact⟨S1,le,.ref (by show(ι.l++[p])[M.length]?=some p;rw[<- S.len];simp)⟩
set_option tactic.hygienic true in
def a0g:Bq X (.type "dict") (rB nm X.K .dict):=λpins s σ H vs us Q I V1 hh=>by
 obtain⟨ι,M,ds,d,M',S,r,e,q⟩:=hh;cases r with
 |nil=>simp[MW.ud] at e
 |@cons x v _ _ h t =>
  cases t with
  |cons h2 t2=>cases x<;>simp[MW.ud] at e
  |nil =>
   cases V1 with
   |cons ru rn =>
    cases rn;cases h with
    |@ref n p hp =>
     cases ru;have e:(match M[n]? with|some (.dT gw)=>if MW.aer gw then MW.new (.dT gw) M else .bad|some (.dK gw)=>MW.new (.dK gw) M|_=>.bad)=.ok d M':=e;split at e
     . rename_i gw hM
       split at e
       . rename_i hs
         cases e;obtain⟨l,h1,h2⟩:=S.obj n _ p hM hp;obtain⟨z,hsm,xs,rel,dd⟩:=anc I.zp h1;obtain⟨k1,k2⟩:=ahc rel;have hl:xs.length=l.length:=by have:=p7 List.length k1;simpa using this
         refine Xc.a7u hsm dd (λx hx=>?_) (by rw[hl];exact z) λh' dd' keep=>?_
         . refine atv hs x.1 ?_
           rw[<- O1 h2,<- k1];exact bf.mpr ⟨x,hx,rfl⟩
         . have hf:H s.heap.objs.size=none:=I.zp.fresh (bu _)
           obtain⟨S2,zg,r2⟩:=a0e (X:=X) S hf h2;refine⟨.ref s.heap.objs.size,upd H s.heap.objs.size (.dT l),I.laid (a:=s.heap.objs.size) (o:=.dT l) (t':=s.toks) keep (bu _) ?_,rfl,q _ _ _ zg S2 r2⟩;obtain⟨o,es,ep,g1,g2,g3,g4,g5,g6⟩:=dd';exact⟨z,qe.mpr (jx (fc I.big)),xs,rel.keeps (λb ys e=>by rw[j5 (j8 e hf)];exact e),o,es,ep,g1,g2,g3,g4,g6⟩
       . cases e
     . rename_i gw hM
       cases e;obtain⟨l,h1,h2⟩:=S.obj n _ p hM hp;refine anj I (.inl h1) λp' s' hp' I'=>?_
       obtain⟨S2,zg,r2⟩:=a0f (X:=X) S hp' h2;exact⟨.ref p',_,I',rfl,q _ _ _ zg S2 r2⟩
     . cases e
    |_=>cases e
set_option tactic.hygienic true in
theorem ints_rep{ι:Io}{H:Hp}{K:Fg}:∀{ds:List Dv}{vs:List V}{is:Zl}{ns:Xs},mj K ι H ds vs->Vals vs is->MW.Xj ds=some ns->∃xs:Array (Int×Tok),is.toArray=intItems xs/\xs.toList.map (·.1)=ns
 |_,_,_,_,.nil,.nil,h=>by cases h;exact⟨#[],by simp[intItems],rfl⟩
 |_,_,_,_,.cons r t,.cons rv tv,h=>by
  cases r<;>simp only[MW.Xj] at h<;>try cases h
  rename_i i;obtain⟨ns',e1,e2⟩:=bz.mp h;obtain⟨xs,g1,g2⟩:=ints_rep t tv e1;obtain⟨tk,rfl⟩:=rv;refine⟨#[(i,tk)]++xs,?_,by simp[g2,e2]⟩;have h3:=p7 Array.toList g1;apply Array.toList_inj.mp;simp[intItems] at h3 ⊢;exact h3
theorem aco:∀(l:Xs)(z m:Int),(m=z\/m∈l)->z<=m->(∀a∈l,a<=m)->l.foldl (λm x=>if m<x then x else m) z=m
 |[],z,m,h,_,_=>by rcases h with h|h;exact h.symm;cases h
 |a::l,z,m,h,hz,Cm=>by
  rw[List.foldl_cons];have ha:=Cm a cz;refine aco l _ m ?_ (by split<;>lia) (λb hb=>Cm b (bc _ hb));rcases h with h|h
  . subst h;left;split<;>lia
  . rcases bx.mp h with h|h
    . subst h
      by_cases hc:z<m
      . left;rw[cj hc]
      . left;rw[bw hc];lia
    . exact .inr h
theorem acp:∀(l:Xs)(z m:Int),(m=z\/m∈l)->m<=z->(∀a∈l,m<=a)->l.foldl (λm x=>if x<m then x else m) z=m
 |[],z,m,h,_,_=>by rcases h with h|h;exact h.symm;cases h
 |a::l,z,m,h,hz,Cm=>by
  rw[List.foldl_cons];have ha:=Cm a cz;refine acp l _ m ?_ (by split<;>lia) (λb hb=>Cm b (bc _ hb));rcases h with h|h
  . subst h;left;split<;>lia
  . rcases bx.mp h with h|h
    . subst h
      by_cases hc:m<z
      . left;rw[cj hc]
      . left;rw[bw hc];lia
    . exact .inr h
def ahh(e:MW.two ds f g M=.ok d M'):M'=M/\((∃i j,ds=[.int i,.int j]/\d=.int (f i j))\/∃x m,ds=[x]/\g x=some m/\d=.int m):=by
 cases ds with
 |nil=>cases e
 |cons x r=>cases r with
  |nil =>
   obtain⟨e1,e2⟩:=wk (show Res.uv ((g x).map MW.D.int) M=.ok d M' from e);obtain⟨m,e3,e4⟩:=bz.mp e1;exact⟨e2,.inr ⟨x,m,rfl,e3,e4.symm⟩⟩
  |cons y r=>cases r with
   |nil =>
    cases x<;>try cases e
    cases y<;>cases e;exact⟨rfl,.inl ⟨_,_,rfl,rfl⟩⟩
   |cons _ _=>cases e
def Yp{h:List Int->Option Int}(e:((MW.fu M x).bind MW.Xj).bind h=some m):∃xs ns,MW.fu M x=some xs/\MW.Xj xs=some ns/\h ns=some m:=by obtain⟨ns,e5,e6⟩:=dm.mp e;obtain⟨xs,e7,e8⟩:=dm.mp e5;exact⟨xs,ns,e7,e8,e6⟩
def atw(e:MW.ud .max ds M=.ok d M'):M'=M/\((∃i j,ds=[.int i,.int j]/\d=.int (if i<j then j else i))\/∃x xs ns m,ds=[x]/\MW.fu M x=some xs/\MW.Xj xs=some ns/\MW.axo ns=some m/\d=.int m):=by
 obtain⟨h,h2|⟨x,m,h3,h4,h5⟩⟩:=ahh e
 . exact⟨h,.inl h2⟩
 . obtain⟨xs,ns,g1,g2,g3⟩:=Yp h4
   exact⟨h,.inr ⟨x,xs,ns,m,h3,g1,g2,g3,h5⟩⟩
def atx(e:MW.ud .min ds M=.ok d M'):M'=M/\((∃i j,ds=[.int i,.int j]/\d=.int (if j<i then j else i))\/∃x xs ns m,ds=[x]/\MW.fu M x=some xs/\MW.Xj xs=some ns/\MW.a3x ns=some m/\d=.int m):=by
 obtain⟨h,h2|⟨x,m,h3,h4,h5⟩⟩:=ahh e
 . exact⟨h,.inl h2⟩
 . obtain⟨xs,ns,g1,g2,g3⟩:=Yp h4
   exact⟨h,.inr ⟨x,xs,ns,m,h3,g1,g2,g3,h5⟩⟩
def Rr(h:Vals [v] us):∃u,us=[u]/\RelV v u:=L2.Vals.one h
def Np(h:i<xs.size):(xs.toList.map (·.1))[i]?=some (numAt xs i):=by simp[numAt,h]
def a7v(hc:X.calm=true):Bq X (.builtin "max") (rB nm X.K .max):=λpins s σ H vs us Q I V1 hh=>by
 obtain⟨ι,M,ds,d,M',S,r,e,q⟩:=hh;obtain⟨rfl,⟨i,j,rfl,rfl⟩|⟨x,xs,ns,m,rfl,e1,e2,e3,rfl⟩⟩:=atw e
 . cases r with
   |cons h1 t1 =>
    cases t1 with
    |cons h2 t2 =>
     cases t2;cases h1;cases h2;refine ajg hc pins s σ H _ us Q I V1 ⟨i,j,rfl,?_⟩;have:=q ι H _ (Le.refl _ _) S (.int (if i<j then j else i));exact this
 . obtain⟨v,rfl,rv⟩:=Ht r rfl
   obtain⟨u,rfl,ru⟩:=Rr V1;obtain⟨p,ws,rfl,hp,rl⟩:=qy S rv e1;cases ru;obtain⟨is,rvl,pl,_⟩:=I.list (G9.of hp);obtain⟨xa,g1,g2⟩:=ints_rep rl rvl e2;have Sg:0<xa.size:=by
    cases ns with
    |nil=>cases e3|cons n ns=>have:=p7 List.length g2;simp at this;lia
   refine max_intList (I.ok.hd hc) (by rw[<- g1];exact pl.isList) Sg λw h' tk hw keep=>?_
   obtain⟨t,rfl⟩:=intItems_at hw;obtain⟨b1,b2⟩:=argBest_gt (numAt xa) (xa.size-1);have hm:m=numAt xa (argBest (λi j=>decide (numAt xa i > numAt xa j)) (xa.size-1)):=by
    cases hns:ns with
    |nil=>rw[hns] at e3;cases e3
    |cons n ns' =>
     rw[hns] at e3;cases e3;have mem:∀i,i<xa.size->numAt xa i∈n::ns':=λi hi=>by rw[<- hns,<- g2];exact au (Np hi)
     have le:∀a∈n::ns',a<=numAt xa (argBest (λi j=>decide (numAt xa i > numAt xa j)) (xa.size-1)):=λa ha=>by
      rw[<- hns,<- g2] at ha;obtain⟨i,hi⟩:=vm.mp ha;have li:i<xa.size:=by have:=(ak.mp hi).1;simpa using this
      rw[Np li] at hi;cases hi;exact b2 i (by lia)
     exact aco ns' n _ (bx.mp (mem _ (by omega))) (le n cz) (λa ha=>le a (bc _ ha))
   subst hm;exact⟨.int _,H,I.kept keep,⟨t,rfl⟩,q ι H _ (Le.refl _ _) S (.int _)⟩
def acq(n d:Nat)(o:Option Int):HT.sIx n d o=MW.clip n d o:=by
 cases o with
 |none=>rfl
 |some i =>
  show(if i<0 then(i+(n:Int)).toNat else min i.toNat n)=(if 0<=i then min i.toNat n else(i+(n:Int)).toNat)
  by_cases h:i<0
  . rw[cj h,bw (by lia)]
  . rw[bw h,cj (by lia)]
def tO(nm:Nm)(W:Ib)(K:Fg)(o:OEx):TO:=fun σ H Q=>∃ι ρ M d M',mq nm K ι H M/\uz K ι H ρ σ/\o.den W ρ M=.ok d M'/\∀ι' H',Le ι H ι' H'->mq nm K ι' H' M'->Q d H'
def PO.weak(h:PO X e t)(w:∀σ H Q,t' σ H Q->t σ H Q):PO X e t':=λpins s σ H Q I q=>h pins s σ H Q I (w σ H Q q)
def PO.of(h:PO X e t)(w:∀σ H Q ι ρ M d M',mq nm X.K ι H M->uz X.K ι H ρ σ->o'.den W ρ M=.ok d M'->(∀ι' H',Le ι H ι' H'->mq nm X.K ι' H' M'->Q d H')->t σ H Q):PO X e (tO nm W X.K o'):=PO.weak h fun σ H Q z_=>by obtain⟨ι,ρ,M,d,M',S,R,e,q⟩:=z_;exact w σ H Q ι ρ M d M' S R e q
def aty:PO X none (tO nm W X.K .none):=PO.of as4 fun σ H Q ι ρ M d M' S R e q=>by rw[MW.aiu] at e;cases e;exact q ι H (Le.refl _ _) S
set_option tactic.hygienic true in
def atz(ha:PE X a (tE nm W X.K a')):PO X (some a) (tO nm W X.K (.some a')):=PO.of (as5 ha) fun σ H Q ι ρ M d M' S R e q=>by rw[MW.aiv] at e;obtain⟨x,M1,e1,e⟩:=gf e;split at e<;>cases e;rename_i i;exact one S R e1 fun ι1 H1 v le S1 R1 r=>by cases r;exact⟨i,rfl,q ι1 H1 le S1⟩
set_option tactic.hygienic true in
def a7w(ha:PE X a (tE nm W X.K a'))(hl:PO X lo (tO nm W X.K lo'))(hh:PO X hi (tO nm W X.K hi')):PE X (.Subscript a (.Slice lo hi none p2) pos) (tE nm W X.K (.cut a' lo' hi')) :=
 PE.of (ank as6 ha hl hh) fun σ H Q ι ρ M d M' S R e q=>by
  rw[MW.arj] at e;obtain⟨x,M1,e1,e⟩:=gf e;obtain⟨l,M2,e2,e⟩:=gf e;obtain⟨h,M3,e3,e⟩:=gf e;obtain⟨e4,e5⟩:=wk e;subst e5;refine one S R e1 fun ι1 H1 v le S1 R1 r=>⟨ι1,ρ,M1,l,M2,S1,R1,e2,fun ι2 H2 zg S2=>⟨ι2,ρ,M2,h,_,S2,R1.mono zg,e3,fun ι3 H3 Yk S3=>?_⟩⟩
  have r3:=(r.mono zg).mono Yk;have fin:=fun ι' H' w Ww S' r'=>q ι' H' w (((le.trans zg).trans Yk).trans Ww) S' r'
  have lst:∀ds,MW.fu M' x=some ds->d=.vl (MW.aeo ds l h)->a6e X.K v l h H3 Q:=λds hd ed=>by
   obtain⟨p,vs,rfl,hp,rl⟩:=qy S3 r3 hd;refine⟨p,vs,rfl,G9.of hp,λp' hp'=>?_⟩;have:mj X.K ι3 H3 (MW.aeo ds l h) (ajn vs l h):=by unfold MW.aeo ajn;rw[acq,acq,<- rl.length];exact(rl.drop _).take _
   obtain⟨S4,le4,r4⟩:=aad (X:=X) S3 hp' this;subst ed;exact fin _ _ _ le4 S4 r4
  obtain⟨ds,hd,ed⟩:=bz.mp (show(MW.fu M' x).map (λds=>MW.D.vl (MW.aeo ds l h))=some d from e4);exact lst ds hd ed.symm
def acr(K:Fg)(T:String):PySem.W.kitOne K (.type T) (.type T)=some true:=by unfold PySem.W.kitOne;rw[cj (by simp)]
def a7x{bt bi:Option Bool}(ht:∀b,bt=some b->PySem.W.kitOne X.K (.type "tuple") (.type T)=some b)(hi:∀b,bi=some b->PySem.W.kitOne X.K (.type "int") (.type T)=some b)(hb:∀d M,MW.ud t [d] M=MW.isR bt bi M d)(hg:Gl X n)(hm:X.mg n=none)(hv:bootBuiltins n=some (.builtin "isinstance"))(hn:n≠"__name__")(Qq:(n==("__debug__" : Str))=false)(hg2:Gl X tn)(hm2:X.mg tn=none)(hv2:bootBuiltins tn=some (.type T))(W2:tn≠"__name__")(afn:(tn==("__debug__" : Str))=false)(ha:PE X a (tE nm W X.K a'))(he:starEach [a,.Name tn p'] X.env=(false,eval a X.env)::starEach [.Name tn p'] X.env)(he2:starEach [.Name tn p'] X.env=(false,eval (.Name tn p') X.env)::starEach [] X.env)(Ge:(backTo pos (starEach [.Name tn p'] X.env)).any (·.1)=false):PE X (.Call (.Name n p) [a,.Name tn p'] [] pos) (tE nm W X.K (.blt t (.cons a' .nil))):=by
 intro pins s σ H Q I hh;obtain⟨ι,ρ,M,d,M',S,R,e,q⟩:=hh;rw[MW.Ue] at e;obtain⟨ds,M1,e1,e⟩:=gf e;rw[MW.Gf] at e1;obtain⟨x,M2,e2,e1⟩:=gf e1;rw[MW.Ku] at e1;cases e1;refine ig (Bj I hg hm hv ?_ hn Qq);refine vh (Q:=EP X pins σ Q) ?_ he Ge;rw[he];show wpAny _ _ (spliced ((false,eval a X.env)::backTo pos (starEach [.Name tn p'] X.env))) _ _ s;refine jy (Ar (ha pins s σ H (λv H1=>∃ι1,Le ι H ι1 H1/\mq nm X.K ι1 H1 M1/\Rep X.K ι1 H1 x v) I ⟨ι,ρ,M,x,M1,S,R,e2,fun ι1 H1 v le S1 r=>⟨ι1,le,S1,r⟩⟩) λu s1 z_=>?_);obtain⟨v,H1,I1,r1,ι1,le,S1,r⟩:=z_;rw[he2];show wpAny _ _ (spliced ((false,eval (.Name tn p') X.env)::backTo pos (starEach [] X.env))) _ _ s1;refine jy (Bj I1 hg2 hm2 hv2 ?_ W2 afn);refine qp ?_;have e:MW.ud t [x] M1=.ok d M':=e;rw[hb] at e;obtain⟨e4,rfl⟩:=wk e;obtain⟨b,e3,rfl⟩:=bz.mp e4;cases r with
 |tup h r=>exact X5 I1 r1 (.tup h) (ht b e3) λtk=>⟨.bl b,H1,I1.tok _,rfl,q ι1 H1 _ le S1 (.bl b)⟩
 |int i=>exact X5 I1 r1 (.int i) (hi b e3) λtk=>⟨.bl b,H1,I1.tok _,rfl,q ι1 H1 _ le S1 (.bl b)⟩
 |_=>cases e3
def a7y(hc:X.calm=true):Bq X (.builtin "min") (rB nm X.K .min):=λpins s σ H vs us Q I V1 hh=>by
 obtain⟨ι,M,ds,d,M',S,r,e,q⟩:=hh;obtain⟨rfl,⟨i,j,rfl,rfl⟩|⟨x,xs,ns,m,rfl,e1,e2,e3,rfl⟩⟩:=atx e
 . cases r with
   |cons h1 t1 =>
    cases t1 with
    |cons h2 t2 =>
     cases t2;cases h1;cases h2;refine ajh hc pins s σ H _ us Q I V1 ⟨i,j,rfl,?_⟩;have:=q ι H _ (Le.refl _ _) S (.int (if j<i then j else i));exact this
 . obtain⟨v,rfl,rv⟩:=Ht r rfl
   obtain⟨u,rfl,ru⟩:=Rr V1;obtain⟨p,ws,rfl,hp,rl⟩:=qy S rv e1;cases ru;obtain⟨is,rvl,pl,_⟩:=I.list (G9.of hp);obtain⟨xa,g1,g2⟩:=ints_rep rl rvl e2;have Sg:0<xa.size:=by
    cases ns with
    |nil=>cases e3|cons n ns=>have:=p7 List.length g2;simp at this;lia
   refine min_intList (I.ok.hd hc) (by rw[<- g1];exact pl.isList) Sg λw h' tk hw keep=>?_
   obtain⟨t,rfl⟩:=intItems_at hw;obtain⟨b1,b2⟩:=argBest_lt (numAt xa) (xa.size-1);have hm:m=numAt xa (argBest (λi j=>decide (numAt xa i<numAt xa j)) (xa.size-1)):=by
    cases hns:ns with
    |nil=>rw[hns] at e3;cases e3
    |cons n ns' =>
     rw[hns] at e3;cases e3;have mem:∀i,i<xa.size->numAt xa i∈n::ns':=λi hi=>by rw[<- hns,<- g2];exact au (Np hi)
     have le:∀a∈n::ns',numAt xa (argBest (λi j=>decide (numAt xa i<numAt xa j)) (xa.size-1))<=a:=λa ha=>by
      rw[<- hns,<- g2] at ha;obtain⟨i,hi⟩:=vm.mp ha;have li:i<xa.size:=by have:=(ak.mp hi).1;simpa using this
      rw[Np li] at hi;cases hi;exact b2 i (by lia)
     exact acp ns' n _ (bx.mp (mem _ (by omega))) (le n cz) (λa ha=>le a (bc _ ha))
   subst hm;exact⟨.int _,H,I.kept keep,⟨t,rfl⟩,q ι H _ (Le.refl _ _) S (.int _)⟩
def W9{n:Nat}(hh:A.handled=none)(hr:IsRange s.heap r a b c t u v)(V3:Builtin.Range.small a b c=true)(hn:Builtin.Range.rangeSize a b c=n)(hlen:n<=2 ^ 24)(hQ:∀(h':Heap) (tk:Nat) (acc:U1),(∀b o,s.heap.get? b=some o->h'.get? b=some o)->ItemsOf (λi v=>∃t,v=.int (a+i*c) t) acc n->Q acc.toList { s with heap:=h',toks:=tk }):wpAny (model prog w) A (collect (.ref r)) Q E s:=by
 unfold collect;refine aa (wpAny_runValue (my F.entry_proto_collect ?_));rw[jz F.plain_proto_collect _];show wpAny _ A.in1 (newList [] >>= λl=>again (.builtin "list.__iadd__" ⟨[l,.ref r],[]⟩)) _ _ s;refine aa (qw ?_);refine aj ⟨plainId_quiet F.plain_list_iadd _,my F.entry_list_iadd ?_⟩;rw[jz F.plain_list_iadd _];show wpAny _ A.in1 (Builtin.List.listExtendWith (.ref s.heap.objs.size) (.ref r) (.ref s.heap.objs.size)) _ _ _;have keep:∀b o,s.heap.get? b=some o->(s.heap.push { cls:=.type "list",data:=.seq ([]:Zl).toArray }).get? b=some o:=λb o e=>aq _ e
 have hS0:(s.heap.push { cls:=.type "list",data:=.seq ([]:Zl).toArray }).get? s.heap.objs.size=some { cls:=.type "list",data:=.seq #[] 0 }:=bh _ rfl;have ext:=wpAny_extend_range (prog:=prog) (w:=w) (A:=A) (R:=λr' s'=>∃(h':Heap)(tk:Nat)(acc:U1)(c':Nat),r'=.ok (.ret (.ref s.heap.objs.size))/\s'={ s with heap:=h',toks:=tk }/\(∀b o,s.heap.get? b=some o->h'.get? b=some o)
 /\h'.get? s.heap.objs.size=some { cls:=.type "list",dict:=none,data:=.seq acc c',slots:=#[] }/\ItemsOf (λi v=>∃t,v=.int (a+i*c) t) acc n)
  (s:={ s with heap:=s.heap.push { cls:=.type "list",data:=.seq ([]:Zl).toArray } }) hh (keep _ _ hr) V3 hn hlen s.heap.objs.size (.ref s.heap.objs.size) 0 hS0
  λh' tk acc c' hk hS Dq=>⟨h',tk,acc,c',rfl,rfl,λb o e=>hk b o (fc (az e)) (keep b o e),hS,Dq⟩
 have last:∀{r':Result}{s':Shared},(∃(h':Heap)(tk:Nat)(acc:U1)(c':Nat),r'=.ok (.ret (.ref s.heap.objs.size))/\s'={ s with heap:=h',toks:=tk }/\(∀b o,s.heap.get? b=some o->h'.get? b=some o)
 /\h'.get? s.heap.objs.size=some { cls:=.type "list",dict:=none,data:=.seq acc c',slots:=#[] }/\ItemsOf (λi v=>∃t,v=.int (a+i*c) t) acc n)->∃(h':Heap)(tk:Nat)(acc:U1)(c':Nat),r'=.ok (.ret (.ref s.heap.objs.size))/\s'={ s with heap:=h',toks:=tk }/\h'.get? s.heap.objs.size=some { cls:=.type "list",dict:=none,data:=.seq acc c',slots:=#[] }/\Q acc.toList s':=λ⟨h',tk,acc,c',e1,e2,e3,e4,e5⟩=>⟨h',tk,acc,c',e1,e2,e4,by rw[e2];exact hQ h' tk acc e3 e5⟩
 refine lg ext (λfin s' hf=>?_) (λe s' he=>?_)
 . cases fin with
   |done f =>
    obtain⟨h',tk,acc,c',e1,rfl,e4,e5⟩:=last hf;cases e1;exact aa (wpAny_load e4 (aj e5))
   |again c' =>
    refine⟨hf.1,vq hf.2 λr' s'' hr'=>?_⟩;obtain⟨h',tk,acc,c',e1,rfl,e4,e5⟩:=last hr';subst e1;exact aa (wpAny_load e4 (aj e5))
 . obtain⟨_,_,_,_,e1,_⟩:=last he
   cases e1
def Rt{n:Nat}(hh:A.handled=none)(hr:IsRange s.heap r a b c t u v)(V3:Builtin.Range.small a b c=true)(hn:Builtin.Range.rangeSize a b c=n)(hlen:n<=2 ^ 24)(h:∀(h':Heap) (tk:Nat) (acc:U1),(∀b o,s.heap.get? b=some o->h'.get? b=some o)->ItemsOf (λi v=>∃t,v=.int (a+i*c) t) acc n->Q₁ (.ref h'.objs.size) { s with heap:=h'.push { cls:=.type "tuple",data:=.seq acc },toks:=tk }) :
 codeAny (model prog w) A (.call (.builtin "tuple.__new__") ⟨[.type "tuple",.ref r],[]⟩) (wants Q₁ E) s:=by
 refine codeAny_of_tree ?_;show wpAny _ A.in1 (do checkBuiltinCall "tuple.__new__" ⟨[.type "tuple",.ref r],[]⟩;again (.builtin "tuple.__new__" ⟨[.type "tuple",.ref r],[]⟩)) _ _ s;refine aa (wpAny_of_eq (F.newCall_tuple_1 _) (aj ⟨plainId_quiet F.plain_tuple_new _,my F.entry_tuple_new ?_⟩));rw[jz F.plain_tuple_new _];have Y6:=sub_tuple_self;have bgf:=init_tuple_lookup;have hmh:=madeHere_tuple;have hTI:s.TypeIs (.ref r) "range" := ⟨_,hr,rfl⟩
 wp_walk using uh hTI,W9 (A:=A.in1) hh hr V3 hn hlen
 intro h' tk acc hk Dq;show wpAny _ _ (Builtin.Tuple.tupleExact acc.toList.toArray >>= λv=>ret v) _ _ _;unfold Builtin.Tuple.tupleExact;refine aa (qw ?_ (by show acc.toList.toArray.size<=sizeLine;simp only[Array.toArray_toList];rw[Dq.1,qg];exact hlen));refine aj ?_;have e:acc.toList.toArray=acc:=by simp
 rw[e];exact h h' tk acc hk Dq
def Ru{n:Nat}(hh:A.handled=none)(hr:IsRange s.heap r a b c t u v)(V3:Builtin.Range.small a b c=true)(hn:Builtin.Range.rangeSize a b c=n)(hlen:n<=2 ^ 24)(hQ:∀(h':Heap) (tk:Nat) (acc:U1),(∀b o,s.heap.get? b=some o->h'.get? b=some o)->ItemsOf (λi v=>∃t,v=.int (a+i*c) t) acc n->Q (.ref h'.objs.size) { s with heap:=h'.push { cls:=.type "tuple",data:=.seq acc },toks:=tk }) :
 wpAny (model prog w) A (call (.type "tuple") [.ref r]) Q E s:=by
 refine callType_codes (Q₁:=λobj s₁=>s₁.TypeIs obj "tuple"/\Q obj s₁) F.called_tuple (F.typeCall_tuple_1 _) F.entry_object_init
  (Rt (A:=A.in1) hh hr V3 hn hlen λh' tk acc hk Dq=>⟨⟨_,bh _ rfl,rfl⟩,hQ h' tk acc hk Dq⟩) λobj s₁ h₁=>?_
 exact⟨h₁.1,F.args_object_init_2 obj _,object_init_meets F.called_tuple.init.lookup F.called_tuple.made (by decide) prog w A.in1 _ s₁ ⟨h₁.1,rfl,h₁.2⟩⟩
def V4(h:ItemsOf (λi v=>∃t,v=.int (0+(i:Int)*1) t) acc n):Vals ((List.range n).map λ(k:Nat)=>V.int (k:Int)) acc.toList:=by
 have go:∀(l:Zl)(k:Nat),(∀(j:Nat)(v:Value),l[j]?=some v->∃t,v=Value.int ((k+j:Nat):Int) t)->Vals ((List.range' k l.length).map λ(k:Nat)=>V.int (k:Int)) l:=by
  intro l
  induction l with
  |nil=>intro k _;exact .nil
  |cons v l ih =>
   intro k hk;rw[gn,List.range'_succ,gm];refine .cons ?_ (ih (k+1) λj v hj=>?_)
   . exact hk 0 v rfl
   . obtain⟨t,e⟩:=hk (j+1) v (by simpa using hj)
     exact⟨t,by rw[e];congr 1;lia⟩
 have:=go acc.toList 0 (λj v hj=>by
  obtain⟨t,e⟩:=h.2 j v (by simpa using hj);exact⟨t,by rw[e];congr 1;lia⟩)
 rw[u0,h.1,<- List.range_eq_range'] at this;exact this
def V5(n:Nat):mj K ι H ((List.range n).map λ(k:Nat)=>MW.D.int (k:Int)) ((List.range n).map λ(k:Nat)=>V.int (k:Int)):=by
 generalize List.range n=l
 induction l with
 |nil=>exact .nil|cons k l ih=>exact .cons (.int _) ih
set_option tactic.hygienic true in
def a0i(hr:zm 8 X.A)(hg:Gl X n)(hm:X.mg n=none)(hv:bootBuiltins n=some (.type "tuple"))(hn:n≠"__name__")(Qq:(n==("__debug__" : Str))=false)(hg2:Gl X tn)(hm2:X.mg tn=none)(hv2:bootBuiltins tn=some (.type "range"))(W2:tn≠"__name__")(afn:(tn==("__debug__" : Str))=false)(ha:PA X [a] (Vq nm W X.K (.cons a' .nil)))(he:starEach [.Call (.Name tn p') [a] [] q2] X.env=(false,eval (.Call (.Name tn p') [a] [] q2) X.env)::starEach [] X.env)(Ge:(backTo q1 (starEach [] X.env)).any (·.1)=false)(he2:starEach [a] X.env=(false,eval a X.env)::starEach [] X.env)(afl:(backTo q2 (starEach [] X.env)).any (·.1)=false) :
 PE X (.Call (.Name n p) [.Call (.Name tn p') [a] [] q2] [] q1) (tE nm W X.K (.aem a')):=by
 intro pins s σ H Q I hh;obtain⟨ι,ρ,M,d,M',S,R,e,q⟩:=hh;rw[MW.alr] at e;obtain⟨x,M1,e1,e⟩:=gf e;split at e<;>try cases e
 rename_i i;split at e<;>cases e;rename_i hi;refine ig (Bj I hg hm hv ?_ hn Qq);refine jc (Q:=EP X pins σ Q) ?_ he Ge;rw[he];show wpAny _ _ (spliced ((false,eval (.Call (.Name tn p') [a] [] q2) X.env)::backTo q1 (starEach [] X.env))) _ _ s;refine jy ?_;refine ig (Bj I hg2 hm2 hv2 ?_ W2 afn);refine jc (Ar (ha q2 pins s σ H (λvs H1=>∃ι1,vs=[.int i]/\Le ι H ι1 H1/\mq nm X.K ι1 H1 M') I ⟨ι,ρ,M,[.int i],M',S,R,by simp[e1,Res.bind],fun ι1 H1 vs le S1 r=>?_⟩) λus s1 ⟨vs,H1,I1,r1,ι1,ev,Ul,S1⟩=>?_) he2 afl
 . obtain⟨v,ev,rv⟩:=Ht r rfl
   cases rv;exact⟨ι1,ev,le,S1⟩
 subst ev;obtain⟨u,rfl,ru⟩:=Rr r1;obtain⟨t,rfl⟩:=ru;refine call_range_1 ?_;show wpAny _ _ (spliced []) _ _ _;refine qp ?_;have keep:∀b o,s1.heap.get? b=some o->(s1.heap.push { cls:=.type "range",data:=.fields #[.int 0 s1.toks,.int i t,.int 1 (s1.toks+1)] }).get? b=some o:=λb o e=>aq _ e
 refine Ru (n:=i.toNat) hr.hd (bh _ rfl) (small_one (by lia) (by lia) (by lia) (by omega)) (by rw[rangeSize_one];split<;>lia) (by lia) λh' tk acc hk Dq=>?_
 have I2:Inv X pins σ H1 { s1 with heap:=h',toks:=tk }:=I1.kept λb o e=>hk b o (keep b o e)
 have hz:((List.range i.toNat).map λ(k:Nat)=>V.int (k:Int)).length<=sizeLine:=by simp[qg];omega
 have hf:H1 h'.objs.size=none:=I2.zp.fresh (bu _);have I3:Inv X pins σ (upd H1 h'.objs.size (.tup ((List.range i.toNat).map λ(k:Nat)=>V.int (k:Int)))) { s1 with heap:=h'.push { cls:=.type "tuple",data:=.seq acc },toks:=tk } :=
  I2.laid (a:=h'.objs.size) (t':=tk) (λb o e=>aq _ e) (bu _) (show Ad X.prog X.w _ _ _ (.tup _) from⟨hz,acc.toList,V4 Dq,by simpa using L2.Zw.new _ _⟩)
 obtain⟨S2,zg,r2⟩:=Qg (X:=X) S1 hf (V5 i.toNat);exact⟨.ref h'.objs.size,_,I3,rfl,q ι1 _ _ (Ul.trans zg) S2 r2⟩
end Sm
namespace EnT
open PySem PySem.Spec
open AutoSeq1 (wpAny_loadPart')
set_option tactic.hygienic true in
def acs(a:s.heap.IsTupleIter it t i)(b:s.heap.IsTuple t xs)(e:xs[i]?=some x)(q:∀h',h'.IsTupleIter it t (i+1)->Heap.SameBut it s.heap h'->Q x { s with heap:=h' }):wpAny (model prog w) A (Builtin.SmallTypes.nextOf (.ref it)) Q E s:=by obtain⟨o,o1,o2,o3⟩:=id a;obtain⟨ol,l1,l2,nl,l3⟩:=b;unfold Builtin.SmallTypes.nextOf;refine aa (j0 (name:=Str.ofString "__next__") a.typeIs ux (jr ux a.typeIs F.entry_tuple_iterator_next ?_ (F.args_tuple_iterator_next_1 _)));show wpAny _ _ (field (.ref it) 0 >>= _) _ _ s;refine aa (jb o1 o3 (x:=.ref t) rfl ?_);show wpAny _ _ (if(Value.ref t==Value.none)=true then _ else field (.ref it) 1 >>= _) _ _ s;rw[bw (show ¬((Value.ref t==Value.none)=true) by exact iu)];refine aa (jb o1 o3 (x:=.int i 0) rfl (aa (rm l1 l3 ?_)));simp only[t8,e];refine aa (wpAny_setField o1 o3 (by simp) (aj ⟨x,rfl,aj (q _ ⟨_,lz _ o1 (Obj.isFreed_of_fields (Obj.data_mapFields o3 _)),(Obj.cls_mapFields ..).trans o2,?_⟩ (jw ..))⟩));rw[Obj.data_mapFields o3];simp[rawInt]
set_option tactic.hygienic true in
def ahi(hd:A.handled=none)(a:s.heap.IsTupleIter it t i)(b:s.heap.IsTuple t xs)(e:xs[i]?=none)(q:∀h' x,Heap.ExtBut it s.heap h'->(∃o,h'.get? x=some o/\o.cls=.type "StopIteration")->E (.ref x) { s with heap:=h' }):wpAny (model prog w) A (Builtin.SmallTypes.nextOf (.ref it)) Q E s:=by obtain⟨o,o1,o2,o3⟩:=id a;obtain⟨ol,l1,l2,nl,l3⟩:=b;unfold Builtin.SmallTypes.nextOf;refine aa (j0 (name:=Str.ofString "__next__") a.typeIs ux (jr ux a.typeIs F.entry_tuple_iterator_next ?_ (F.args_tuple_iterator_next_1 _)));show wpAny _ _ (field (.ref it) 0 >>= _) _ _ s;refine aa (jb o1 o3 (x:=.ref t) rfl ?_);show wpAny _ _ (if(Value.ref t==Value.none)=true then _ else field (.ref it) 1 >>= _) _ _ s;rw[bw (show ¬((Value.ref t==Value.none)=true) by exact iu)];refine aa (jb o1 o3 (x:=.int i 0) rfl (aa (rm l1 l3 ?_)));simp only[t8,e];refine aa (wpAny_rule (aa (wpAny_setField o1 o3 (by simp) ?_)));show wpAny _ _ (newExc (.type "StopIteration") [] >>= raiseNew) _ _ _;exact Xc.af5 hd λh' x k e=>q h' x (λb o n z=>k b o ((jw ..).extBut b o n z)) e
def ItB(b:Bool)(h:Heap)(it a:Addr)(i:Nat):Prop:=cond b (h.IsTupleIter it a i) (h.IsListIter it a i)
def SqB(b:Bool)(h:Heap)(a:Addr)(xs:U1):Prop:=cond b (h.IsTuple a xs) (h.IsList a xs)
def ItB.at(x:ItB b h it a i)(k:∀o,h.get? it=some o->h'.get? it=some o):ItB b h' it a i:=by
 cases b with
 |true=>obtain⟨o,e,r⟩:=x;exact⟨o,k o e,r⟩
 |false=>obtain⟨o,e,r⟩:=x;exact⟨o,k o e,r⟩
def ItB.obj(x:ItB b h it a i):∃o,h.get? it=some o/\∀v,o.data≠.cell v:=by
 cases b with
 |true=>obtain⟨o,e,c,d⟩:=x;exact⟨o,e,λv z=>by rw[d] at z;cases z⟩
 |false=>obtain⟨o,e,c,d⟩:=x;exact⟨o,e,λv z=>by rw[d] at z;cases z⟩
def aou(a:ItB b s.heap it t i)(c:SqB b s.heap t xs)(e:xs[i]?=some x)(q:∀h',ItB b h' it t (i+1)->Heap.SameBut it s.heap h'->Q x { s with heap:=h' }):wpAny (model prog w) A (Builtin.SmallTypes.nextOf (.ref it)) Q E s:=by
 cases b with
 |true=>exact acs a c e q|false=>exact wpAny_nextOf_list_item a c e q
def at5(hd:A.handled=none)(a:ItB b s.heap it t i)(c:SqB b s.heap t xs)(e:xs[i]?=none)(q:∀h' x,Heap.ExtBut it s.heap h'->(∃o,h'.get? x=some o/\o.cls=.type "StopIteration")->E (.ref x) { s with heap:=h' }):wpAny (model prog w) A (Builtin.SmallTypes.nextOf (.ref it)) Q E s:=by
 cases b with
 |true=>exact ahi hd a c e q|false=>exact wpAny_nextOf_list_end hd a c e q
def at6{i:Nat}{Q:Y1}(he:IsEnum s.heap e it i old)(a:ItB b s.heap it t i)(c:SqB b s.heap t xs)(ex:xs[i]?=some x)(ne:e≠it)(q:∀h',IsEnumOut h' e it ((i:Int)+1) x s.heap.objs.size->ItB b h' it t (i+1)->h'.get? s.heap.objs.size=some { cls:=.type "tuple",data:=.seq #[.int i s.toks,x] }->h'.objs.size=s.heap.objs.size+1 ->
 (∀y o,y≠e->y≠it->s.heap.get? y=some o->h'.get? y=some o)->Q (.ref s.heap.objs.size) { s with heap:=h',toks:=s.toks+1 }) :
 wpAny (model prog w) A (Builtin.«enumerate.__next__» ⟨[.ref e],[]⟩) (λfin s'=>∃v,fin=.done (.ret v)/\Q v s') E s:=by
 obtain⟨hp,g,d,tk,os⟩:=s;show wpAny _ _ (field (.ref e) 2 >>= _) _ _ _;refine aa (jb he rfl (x:=.ref it) rfl (aa (aou a c ex λh1 a1 s1=>?_)));have s1:Heap.SameBut it hp h1:=s1;have e1:IsEnum h1 e it i old:=(s1.2 e ne).trans he;refine aa (jb e1 rfl (x:=rawInt i) rfl (aa (jb e1 rfl (x:=.none) rfl (aa (wpAny_mkInt ?_)))));show wpAny _ _ (setField (.ref e) 3 (rawInt ((i:Int)+1)) >>= _) _ _ ⟨h1,g,d,tk+1,os⟩;refine aa (iw e1 (by simp) λh2 e2 s2=>?_);have s2:Heap.SameBut e h1 h2:=s2;have e2:IsEnum h2 e it ((i:Int)+1) old:=e2;refine aa (iw e2 (by simp) λh3 e3 s3=>?_);have s3:Heap.SameBut e h2 h3:=s3;have e3:IsEnum h3 e it ((i:Int)+1) old:=e3;refine aa (wpAny_newTuple ?_);have n3:h3.objs.size=hp.objs.size:=by rw[s3.1,s2.1,s1.1]
 obtain⟨h4,d4⟩:∃h4,h4=h3.push { cls:=.type "tuple",data:=.seq #[.int i tk,x] }:=⟨_,rfl⟩;have e4:IsEnum h4 e it ((i:Int)+1) old:=by rw[d4];exact aq _ e3
 have t4:h4.get? hp.objs.size=some { cls:=.type "tuple",data:=.seq #[.int i tk,x] }:=by rw[d4,<- n3];exact bh _ rfl
 have n4:h4.objs.size=hp.objs.size+1:=by rw[d4,ie,n3]
 have k3:∀y o,y≠e->h1.get? y=some o->h4.get? y=some o:=λy o hy z=>by rw[d4];exact aq _ (s3.extBut y o hy (s2.extBut y o hy z))
 have a4:ItB b h4 it t (i+1):=a1.at λo z=>k3 it o (jx ne) z
 have lt:e<hp.objs.size:=az he
 show wpAny _ _ (Builtin.SmallTypes.ownedTupleIsFree (.ref e) >>= _) _ _ ⟨h3.push _,g,d,tk+1,os⟩;rw[n3,<- d4];refine aa ?_;unfold Builtin.SmallTypes.ownedTupleIsFree;refine aa (jb e4 rfl (x:=.none) rfl (aj ?_));simp only[ju];refine aa (wpAny_rule (aa (jb e4 rfl (x:=old) rfl (aa (iw e4 (by simp) λh5 e5 s5=>?_)))));have s5:Heap.SameBut e h4 h5:=s5;have e5:IsEnum h5 e it ((i:Int)+1) x:=e5;refine aa ?_;unfold Builtin.SmallTypes.ownedTupleHandOut;refine aa (iw e5 (by simp) λh6 e6 s6=>?_);have s6:Heap.SameBut e h5 h6:=s6;have e6:IsEnumOut h6 e it ((i:Int)+1) x hp.objs.size:=e6;refine iw e6 (by simp) λh7 e7 s7=>?_
 have s7:Heap.SameBut e h6 h7:=s7;have k7:∀y o,y≠e->h4.get? y=some o->h7.get? y=some o:=λy o hy z=>s7.extBut y o hy (s6.extBut y o hy (s5.extBut y o hy z))
 exact aa (wpAny_letGo (aj ⟨_,rfl,q h7 e7 (a4.at λo z=>k7 it o (jx ne) z) (k7 _ _ (vg lt) t4) (by rw[s7.1,s6.1,s5.1,n4]) λy o y1 y2 z=>k7 y o y1 (k3 y o y1 (s1.extBut y o y2 z))⟩))
set_option tactic.hygienic true in
def at7{i:Nat}(he:IsEnum s.heap e it i old)(a:ItB b s.heap it t i)(c:SqB b s.heap t xs)(ex:xs[i]?=some x)(ne:e≠it)(q:∀h',IsEnumOut h' e it ((i:Int)+1) x s.heap.objs.size->ItB b h' it t (i+1)->h'.get? s.heap.objs.size=some { cls:=.type "tuple",data:=.seq #[.int i s.toks,x] }->h'.objs.size=s.heap.objs.size+1 ->
 (∀y o,y≠e->y≠it->s.heap.get? y=some o->h'.get? y=some o)->Q (some (.ref s.heap.objs.size)) { s with heap:=h',toks:=s.toks+1 }):wpAny (model prog w) A (pyNext (.ref e)) Q E s:=by
 have ty:s.TypeIs (.ref e) "enumerate" := ⟨_,he,rfl⟩;unfold pyNext;refine aa (wpAny_attempt (j0 (name:=Str.ofString "__next__") ty wg (jr wg ty F.entry_enumerate_next ?_ (F.args_enumerate_next_1 _))));exact at6 he a c ex ne λh' y1 y2 y3 y4 y5=>aj (q h' y1 y2 y3 y4 y5)
set_option tactic.hygienic true in
def at8{i:Nat}(hd:A.handled=none)(he:IsEnum s.heap e it i old)(a:ItB b s.heap it t i)(c:SqB b s.heap t xs)(ex:xs[i]?=none)(q:∀h',Heap.ExtBut it s.heap h'->Q none { s with heap:=h' }):wpAny (model prog w) A (pyNext (.ref e)) Q E s:=by have ty:s.TypeIs (.ref e) "enumerate" := ⟨_,he,rfl⟩;unfold pyNext;refine aa (wpAny_attempt (j0 (name:=Str.ofString "__next__") ty wg (jr wg ty F.entry_enumerate_next ?_ (F.args_enumerate_next_1 _))));show wpAny _ _ (field (.ref e) 2 >>= _) _ _ _;refine aa (jb he rfl (x:=.ref it) rfl (aa (at5 hd a c ex λh' z k z_=>?_)));obtain⟨o,o1,o2⟩:=z_;exact aa (m8 (T := "StopIteration") (b:=true) ⟨o,o1,o2⟩ isSubtype_stop (aj (q _ k)))
set_option tactic.hygienic true in
def at9(t:Addr)(xs:U1)(n:Nat)(dct:Option Addr)(sl:Array (Option Value)) :
 Meets (Builtin.«enumerate.__new__» ⟨[.type "enumerate",.ref t],[]⟩) (λ_ R s=>s.heap.get? t=some { cls:=.type "tuple",dict:=dct,data:=.seq xs n,slots:=sl } /\
  R (.ok (.ret (.ref (s.heap.push { cls:=.type "tuple_iterator",data:=.fields #[.ref t,.int 0 0] }).objs.size)))
   { s with heap:=(s.heap.push { cls:=.type "tuple_iterator",data:=.fields #[.ref t,.int 0 0] }).push { cls:=.type "enumerate",data:=.fields #[.none,.bool false,.ref s.heap.objs.size,rawInt 0,.none,.none] } }) :=
 .of_wp λprog w A R s h=>by
  obtain⟨hp,g,d,tk,os⟩:=s;obtain⟨hl,h⟩:=h;have Y6:=sub_enumerate;have hT:Heap.IsTuple (Shared.heap ⟨hp,g,d,tk,os⟩) t xs:=⟨_,hl,rfl,n,rfl⟩
  wp_walk using wpAny_loadPart' hl
  refine wpAny_stack_any λst=>aj ?_
  split
  . rename_i c _ _ _ _ _
    cases(c==Value.type "enumerate")<;>(wp_walk using wpAny_loadPart' hl,wpAny_pyIter_tuple hT)<;>exact⟨_,rfl,h⟩
  . wp_walk using wpAny_loadPart' hl,wpAny_pyIter_tuple hT
    exact⟨_,rfl,h⟩
def aov(c:s.heap.IsTuple t xs)(q:∀h',IsEnum h' (s.heap.objs.size+1) s.heap.objs.size 0 .none->h'.IsTupleIter s.heap.objs.size t 0->h'.objs.size=s.heap.objs.size+2 ->
 (∀y o,s.heap.get? y=some o->h'.get? y=some o)->Q (.ref (s.heap.objs.size+1)) { s with heap:=h' }):wpAny (model prog w) A (call (.type "enumerate") [.ref t]) Q E s:=by
 obtain⟨⟨c0,dct,dt,sl⟩,hl,hc,n,hd⟩:=c;have hc:c0=.type "tuple" := hc;have hd:dt=.seq xs n:=hd;subst hc hd;have n1:(s.heap.push { cls:=.type "tuple_iterator",data:=.fields #[.ref t,.int 0 0] }).objs.size=s.heap.objs.size+1:=ie ..;refine callType_new F.called_enumerate (by decide) (F.typeCall_enumerate_1 _) (F.newCall_enumerate_1 _) (λobj=>F.args_object_init_2 obj _) F.entry_enumerate_new (at9 t xs n dct sl) ⟨hl,?_⟩;show _/\_;rw[n1];have e1:IsEnum ((s.heap.push { cls:=.type "tuple_iterator",data:=.fields #[.ref t,.int 0 0] }).push { cls:=.type "enumerate",data:=.fields #[.none,.bool false,.ref s.heap.objs.size,rawInt 0,.none,.none] }) (s.heap.objs.size+1) s.heap.objs.size 0 .none:=by rw[<- n1];exact bh _ rfl
 exact⟨⟨_,e1,rfl⟩,q _ e1 ⟨_,aq _ (bh _ rfl),rfl,rfl⟩ (by rw[ie,n1]) λy o z=>aq _ (aq _ z)⟩
end EnT
namespace L2
open PySem PySem.Spec EnT
def Inv.Yq{ch:X9}(I:Inv X pins σ H s)(hf:∀b∈ch,T6 X pins H b)(k:∀b o,b∉ch->s.heap.get? b=some o->h'.get? b=some o)(hn:s.heap.objs.size<=n)(new:Ad X.prog X.w (upd H n (.tup vs)) h' n (.tup vs)):Inv X pins σ (upd H n (.tup vs)) { s with heap:=h',toks:=t' }:=by
 have fr:H n=none:=I.zp.fresh hn;have nch:∀b u,H b=some u->b∉ch:=λb u e z=>by rw[(hf b z).1] at e;cases e
 have old:∀b o,s.heap.get? b=some o->b≠n:=λb o e=>fc (gh (az e) hn)
 refine I.step (g':=s.gens) (d':=s.drawn) (ch:=ch) (λb hb=>⟨(hf b hb).2.2.2.1,(hf b hb).2.1,(hf b hb).2.2.2.2.1,(hf b hb).2.2.2.2.2⟩) (λb o _ _ hc e _=>k b o hc e) (λb o _ _ hc e _=>⟨o.slots,k b o hc e⟩) (λb o _ e n0=>by rw[j5 (old b o e)];exact n0)
  (λb o hc e=>⟨o,k b o hc e⟩) (λb xs e=>by rw[j5 (j8 e fr)];exact e) (λb o u e=>by rw[j5 (j8 e fr)];exact e) (λb ps e=>⟨#[],by rw[j5 (j8 e fr),e];simp⟩) (λm hm=>?_) (λb u e=>?_) I.bare
 . obtain⟨o,es,ep,ho,r⟩:=hm
   exact⟨o,es,ep,k _ o (λz=>(hf _ z).2.1 rfl) ho,r⟩
 . by_cases z:b=n
   . subst z;rw[v5] at e;cases e;exact new
   . rw[j5 z] at e
     refine(I.zp b u e).stay (λc v hc q=>k c v ?_ q) (λc q=>by rw[j5 (j8 q fr)];exact q) λc xs q=>by rw[j5 (j8 q fr)];exact q
     rcases hc with y|y
     . rw[y];exact nch b u e
     . exact nch c _ y
def Inv.ahj{ch:X9}(I:Inv X pins σ H s)(hf:∀b∈ch,T6 X pins H b)(k:∀b o,b∉ch->s.heap.get? b=some o->h'.get? b=some o):Inv X pins σ H { s with heap:=h',toks:=t' }:=by
 have nch:∀b u,H b=some u->b∉ch:=λb u e z=>by rw[(hf b z).1] at e;cases e
 refine I.step (g':=s.gens) (d':=s.drawn) (ch:=ch) (λb hb=>⟨(hf b hb).2.2.2.1,(hf b hb).2.1,(hf b hb).2.2.2.2.1,(hf b hb).2.2.2.2.2⟩) (λb o _ _ hc e _=>k b o hc e) (λb o _ _ hc e _=>⟨o.slots,k b o hc e⟩) (λb o _ e n0=>n0)
  (λb o hc e=>⟨o,k b o hc e⟩) (λb xs e=>e) (λb o u e=>e) (λb ps e=>⟨#[],by rw[e];simp⟩) (λm hm=>?_) (λb u e=>?_) I.bare
 . obtain⟨o,es,ep,ho,r⟩:=hm
   exact⟨o,es,ep,k _ o (λz=>(hf _ z).2.1 rfl) ho,r⟩
 . refine(I.zp b u e).stay (λc v hc q=>k c v ?_ q) (λ_ q=>q) λ_ _ q=>q
   rcases hc with y|y
   . rw[y];exact nch b u e
   . exact nch c _ y
def SqX(b:Bool)(K:Fg)(H:Hp)(a:Addr)(xs:List V):Prop:=cond b (Ie K H a xs) (G9 K H a xs)
def Inv.a0j(I:Inv X pins σ H s)(h:SqX b X.K H a xs):∃xr,Vals xs xr/\SqB b s.heap a xr.toArray:=by
 cases b with
 |true=>obtain⟨xr,rv,p,hz⟩:=I.tuple h;exact⟨xr,rv,show s.heap.IsTuple a xr.toArray from p⟩
 |false=>obtain⟨xr,rv,p,hz⟩:=I.list h;exact⟨xr,rv,p.isList⟩
def Inv.aow(I:Inv X pins σ H s)(h:SqX b X.K H a xs)(g:SqX b X.K H a ys):xs=ys:=by
 cases b with
 |true=>exact I.Rk h g|false=>exact I.abv h g
noncomputable def Ien(b:Bool)(K:Fg)(a:Addr):It :=
 ⟨λi H=>∃xs x,SqX b K H a xs/\xs[i]?=some x,λi H v H'=>∃p x,v=.ref p/\H p=none/\H'=upd H p (.tup [.int (i:Nat),x])/\∀xs,SqX b K H a xs->xs[i]?=some x,λi H=>∃xs,SqX b K H a xs/\xs.length<=i⟩
set_option tactic.hygienic true in
theorem aua(a e it:Addr)(ne:e≠it):Turn P w K (.Tuple ts k0 pt) (Ien b K a) [e,it] e (λi h=>(∃old,IsEnum h e it ((i:Nat):Int) old)/\ItB b h it a i) where
 mem:=by simp
 obj:=λi h st c hc=>by
  obtain⟨⟨old,e1⟩,e2⟩:=st;rcases bx.mp hc with z|z
  . subst z;exact⟨_,e1,λv z=>by cases z⟩
  . have z:c=it:=by simpa using z
    subst z;exact e2.obj
 keep:=λi h h' st k=>by obtain⟨⟨old,e1⟩,e2⟩:=st;exact⟨⟨old,k e (by simp) _ e1⟩,e2.at λo z=>k it (by simp) o z⟩
 item:=by
  intro X hP hw hK hc i pins s σ H E I hf st hg;subst hP hw hK;obtain⟨xs,x,hq,hx⟩:=hg;obtain⟨xr,rv,p⟩:=I.a0j hq;obtain⟨u,hu,ru⟩:=rv.get hx;obtain⟨⟨old,e1⟩,e2⟩:=st;have lt:e<s.heap.objs.size:=az e1
  refine at7 e1 e2 p (x:=u) (by simpa using hu) ne λh1 o1 a1 t1 n1 k1=>⟨_,rfl,?_⟩
  refine wpAny_letOwnedTupleGo_enum o1 λh2 o2 s2=>?_
  have s2:Heap.SameBut e h1 h2:=s2;have t2:h2.get? s.heap.objs.size=some { cls:=.type "tuple",data:=.seq #[.int i s.toks,u] }:=(s2.2 _ (vg lt)).trans t1;refine⟨.ref s.heap.objs.size,upd H s.heap.objs.size (.tup [.int (i:Nat),x]),I.Yq (t':=s.toks+1) hf (λc o hc z=>?_) (bu _) ⟨by show 2<=sizeLine;decide,[.int i s.toks,u],.cons ⟨s.toks,rfl⟩ (.cons ru .nil),⟨_,t2,rfl,_,rfl,rfl⟩⟩,rfl,
   ⟨_,x,rfl,I.zp.fresh (bu _),rfl,λys hy=>by rw[I.aow hy hq];exact hx⟩,⟨⟨u,?_⟩,a1.at λo z=>s2.extBut it o (jx ne) z⟩,λc hc=>?_⟩
  . have c1:c≠e:=λz=>hc (by simp[z])
    have c2:c≠it:=λz=>hc (by simp[z])
    exact s2.extBut c o c1 (k1 c o c1 c2 z)
  . have q:((i+1:Nat):Int)=(i:Int)+1:=by push_cast;rfl
    rw[q];exact o2
  . have lt2:c<s.heap.objs.size:=by
     rcases bx.mp hc with z|z
     . rw[z];exact lt
     . have z:c=it:=by simpa using z
       obtain⟨o,z2,_⟩:=e2.obj;rw[z];exact az z2
    rw[j5 (fc lt2)];exact(hf c hc).1
 done:=by intro X hP hw hK hc i pins s σ H E I hf st hg;subst hP hw hK;obtain⟨xs,hq,hx⟩:=hg;obtain⟨xr,rv,p⟩:=I.a0j hq;obtain⟨⟨old,e1⟩,e2⟩:=st;have hl:=rv.length;refine at8 (I.ok.hd hc) e1 e2 p (by simp;exact a_ (g_ hl) hx) λh' eb=>⟨rfl,I.ahj (t':=s.toks) hf λc o hc z=>eb c o (λy=>hc (by simp[y])) z⟩
 self:=λ_ _ _ _ _ st h=>by obtain⟨⟨old,e1⟩,e2⟩:=st;exact wpAny_pyIter_enum e1 h
def a70(hg:Gl X "enumerate")(hm:X.mg "enumerate" = none)(ha:PA X [a] ta)(hs:starEach [a] X.env=[(false,eval a X.env)]) :
 PI X (.Tuple ts k0 pt) (.Call (.Name "enumerate" p) [a] [] pos) (fun σ H R=>ta σ H λvs H1=>∃b q,vs=[.ref q]/\(∃xs,SqX b X.K H1 q xs)/\R (Ien b X.K q) H1):=by
 intro pins s σ H R I h;refine PyProof.Rows.Call_ (Bj I hg hm (show bootBuiltins "enumerate" = some (.type "enumerate") by decide+kernel) (jc (Ar (ha pos pins s σ H _ I h) λus s1 ⟨vs,H1,I1,r1,q1⟩=>?_) hs rfl));obtain⟨b,q,rfl,⟨xs,hq⟩,hR⟩:=q1;cases r1 with
 |cons r rr =>
  cases rr;cases r;obtain⟨xr,rv,p⟩:=I1.a0j hq;have fin:∀h',IsEnum h' (s1.heap.objs.size+1) s1.heap.objs.size 0 .none->ItB b h' s1.heap.objs.size q 0->(∀y o,s1.heap.get? y=some o->h'.get? y=some o) ->
   wpAny (model X.prog X.w) X.A (pyIter (.ref (s1.heap.objs.size+1))) (PIE X pins σ (.Tuple ts k0 pt) R) X.xe { s1 with heap:=h' }:=λh' e1 e2 kk=>by
   refine wpAny_pyIter_enum e1 ?_;refine⟨s1.heap.objs.size+1,[s1.heap.objs.size+1,s1.heap.objs.size],_,_,H1,rfl,I1.kept (t':=s1.toks) kk,aua (b:=b) q _ _ (Nat.succ_ne_self _),⟨⟨.none,e1⟩,e2⟩,λc hc=>?_,hR⟩;have hle:s1.heap.objs.size<=c:=by
    rcases bx.mp hc with z|z
    . rw[z];exact vf _
    . have z:c=s1.heap.objs.size:=by simpa using z
      rw[z];exact bu _
   exact I1.amz hle (I1.zp.fresh hle)
  cases b with
  |true=>exact aov p λh' e1 e2 _ kk=>fin h' e1 e2 kk
  |false=>exact call_enumerate_list p λh' e1 e2 _ kk=>fin h' e1 e2 kk
end L2
namespace EnT
open PySem PySem.Spec
noncomputable def tpN(xs:Zl):Obj:={ cls:=.type "tuple",data:=.seq xs.toArray }
structure ZN(h0:Heap)(n:Nat)(ls:Y3)(f0:Value)(ov:Zl)(k d:Nat)(g:Heap):Prop where
 z:IsZip g (n+ls.length+2) (n+ls.length) (n+ls.length+1) f0
 o:g.get? (n+ls.length+1)=some (tpN ov)
 a:∀(j:Nat) l,ls[j]?=some l->g.IsTupleIter (n+j) l (if j<d then k+1 else k)
 low:∀c o,(c<n\/c=n+ls.length\/n+ls.length+2<c)->h0.get? c=some o->g.get? c=some o
def acv{h h':Heap}{i l k:Nat}(x:h.IsTupleIter i l k)(e:∀o,h.get? i=some o->h'.get? i=some o):h'.IsTupleIter i l k:=let ⟨o,a,b⟩:=x;⟨o,e o a,b⟩
def aox{h h':Heap}{a:Nat}{xs:U1}(x:h.IsTuple a xs)(e:∀o,h.get? a=some o->h'.get? a=some o):h'.IsTuple a xs:=let ⟨o,a,b⟩:=x;⟨o,e o a,b⟩
def acw{ls:Y3}{j:Nat}(h:ls[j]?=some l):j<ls.length:=(ak.mp h).1
def ZN.sz(H:ZN h0 n ls f0 ov k d g)(e:Heap.ExtBut (n+ls.length+2) g g')(z:IsZip g' (n+ls.length+2) (n+ls.length) (n+ls.length+1) f1):ZN h0 n ls f1 ov k d g' :=
 ⟨z,e _ _ (by lia) H.o,λj l h=>acv (H.a j l h) λo=>e _ o (by have:=acw h;lia),λc o hc z=>e _ _ (by lia) (H.low c o hc z)⟩
def ZN.so(H:ZN h0 n ls f0 ov k d g)(e:Heap.ExtBut (n+ls.length+1) g g')(z:g'.get? (n+ls.length+1)=some (tpN ow)):ZN h0 n ls f0 ow k d g' :=
 ⟨e _ _ (by lia) H.z,z,λj l h=>acv (H.a j l h) λo=>e _ o (by have:=acw h;lia),λc o hc z=>e _ _ (by lia) (H.low c o hc z)⟩
def ZN.sa(H:ZN h0 n ls f0 ov k d g)(hd:d<ls.length)(e:Heap.ExtBut (n+d) g g')(z:∀l,ls[d]?=some l->g'.IsTupleIter (n+d) l (k+1)):ZN h0 n ls f0 ov k (d+1) g' :=
 ⟨e _ _ (by lia) H.z,e _ _ (by lia) H.o,λj l h=>by
  by_cases c:j=d
  . subst c;rw[cj (by lia)];exact z l h
  . have:=H.a j l h
    have i:(if j<d+1 then k+1 else k)=if j<d then k+1 else k:=by
     by_cases q:j<d
     . rw[cj q,cj (by lia)]
     . rw[bw q,bw (by lia)]
    rw[i];exact acv this λo=>e _ o (by lia),λc o hc z=>e _ _ (by lia) (H.low c o hc z)⟩
def ZN.up(H:ZN h0 n ls f0 ov k d g)(e:∀c o,g.get? c=some o->g'.get? c=some o):ZN h0 n ls f0 ov k d g' :=
 ⟨e _ _ H.z,e _ _ H.o,λj l h=>acv (H.a j l h) (e _),λc o hc z=>e _ _ (H.low c o hc z)⟩
def ZN.nx(H:ZN h0 n ls f0 ov k ls.length g):ZN h0 n ls f0 ov (k+1) 0 g :=
 ⟨H.z,H.o,λj l h=>by have:=H.a j l h;rw[cj (acw h)] at this;exact this,H.low⟩
def aub{T:Addr}{Q:Unit->Shared->Prop}(hz:ov.length<=3)(hT:s.heap.get? T=some (tpN ov))(h:∀h',h'.get? T=some (tpN (ov.set k x))->Heap.ExtBut T s.heap h'->h'.objs.size=s.heap.objs.size->Q () { s with heap:=h' }) :
 wpAny (model prog w) A (updateSeq T (·.setIfInBounds k x)) Q E s:=by
 have sb:Heap.SameBut T s.heap (s.heap.update T (Obj.mapSeq (·.setIfInBounds k x))):=jw ..;refine wpAny_updateSeq hT rfl (h _ ?_ sb.extBut sb.1) (hz:=gq (by simpa using hz) (show 3<=sizeLine by decide)) (_hz':=gq (by simpa using hz) (show 3<=sizeLine+1 by decide));rw[lz _ hT rfl];simp[Obj.mapSeq,tpN]
noncomputable def Ek(n m:Nat):List Value:=(List.range m).map λj=>.ref (n+j)
def ahk(n m:Nat):(Ek n m).zipIdx=(List.range' 0 m).map λj=>(Value.ref (n+j),j):=by
 apply v8;intro i;rw[xx]
 by_cases h:i<m
 . simp[Ek,h]
 . simp[Ek,h]
def At(h:Heap)(ls:Y3)(k:Nat)(vs:Zl):Prop:=vs.length=ls.length/\∀(j:Nat) l,ls[j]?=some l->∃xs x,h.IsTuple l xs/\xs[k]?=some x/\vs[j]?=some x
def auc{n k:Nat}{Q:Y1}(Sg:ls≠[])(h3:ls.length<=3)(H:ZN s.heap n ls .none ov k 0 s.heap)(ho:ov.length=ls.length)(hI:s.heap.get? (n+ls.length)=some (tpN (Ek n ls.length)))(hl:∀l∈ls,l<n)(ha:At s.heap ls k vs)
 (hq:∀h',ZN s.heap n ls (rawInt s.heap.objs.size) vs (k+1) 0 h'->h'.get? s.heap.objs.size=some (tpN vs)->Q (.ref s.heap.objs.size) { s with heap:=h' }) :
 wpAny (model prog w) A (Builtin.«zip.__next__» ⟨[.ref (n+ls.length+2)],[]⟩) (λfin s'=>∃v,fin=.done (.ret v)/\Q v s') E s:=by
 have hz:=H.z;have ne:(Ek n ls.length).toArray.isEmpty=false:=by cases ls with|nil=>exact absurd rfl Sg|cons a l=>simp[Ek]
 show wpAny _ _ (field (.ref (n+ls.length+2)) 2 >>= _) _ _ _;refine aa (jb hz rfl (x:=.bool false) rfl (aa (jb hz rfl (x:=.ref (n+ls.length)) rfl (aa (rm hI rfl ?_)))));simp only[ne,cg,jd];unfold Builtin.SmallTypes.ownedTupleIsFree;refine aa (aa (jb hz rfl (x:=.none) rfl (aj ?_)));simp only[ju];refine aa (wpAny_rule (aa (jb hz rfl (x:=.ref (n+ls.length+1)) rfl (aa (iw hz (by simp) λg1 z1 s1=>?_)))));have H1:=H.sz s1.extBut (f1:=.ellipsis) z1;refine aa (pq _ (λrest b s'=>b=(none,())/\∃d ov g,rest=((List.range' d (ls.length-d)).map λj=>(Value.ref (n+j),j))/\d<=ls.length/\s'={ s with heap:=g }/\ZN s.heap n ls .ellipsis ov k d g/\ov.length=ls.length/\(∀i,i<d->ov[i]?=vs[i]?)/\g.objs.size=s.heap.objs.size) _ (λx rest b s' hI=>?_) (λb s' hI=>?_) _ _ ⟨rfl,0,ov,g1,?_,jt _,rfl,H1,ho,λi hi=>absurd hi (xq _),s1.1⟩)
 . obtain⟨rfl,d,ov,g,e,hd,rfl,H2,o2,v2,n2⟩:=hI
   have hd:d<ls.length:=by
    rcases xj d ls.length with h|h
    . exact h
    . rw[Nat.sub_eq_zero_of_le h] at e;cases e
   obtain⟨c,hc⟩:∃c,ls.length-d=c+1:=⟨ls.length-d-1,by lia⟩;rw[hc,List.range'_succ,gm] at e;injection e with e1 e2
   subst e1 e2;obtain⟨l,el⟩:∃l,ls[d]?=some l:=⟨ls[d],by simp[hd]⟩;obtain⟨xs,x,t1,t2,t3⟩:=ha.2 d l el;have i0:=H2.a d l el;rw[bw (lq _)] at i0;have ll:=hl l (au el);refine aa (wpAny_onRaise (aa (acs (s:={ s with heap:=g }) i0 (aox t1 λo=>H2.low _ o (by lia)) t2 λg2 i2 s2=>aj ?_)));have H3:=H2.sa hd s2.extBut λl' h=>by rw[el] at h;cases h;exact i2
   refine aa (rm H3.o rfl (aa (aub (by rw[o2];exact h3) H3.o λg3 o3 s3 n3=>?_)));have H4:=H3.so s3 o3;refine aa (wpAny_letGo (aj ⟨rfl,d+1,ov.set d x,g3,by rw[show ls.length-(d+1)=c by lia],hd,rfl,H4,by rw[List.length_set,o2],λi hi=>?_,by rw[n3,show g2.objs.size=g.objs.size from s2.1,n2]⟩))
   by_cases z:i=d
   . subst z
     rw[yw (by lia),t3]
   . rw[ur (jx z)];exact v2 i (by lia)
 . obtain⟨rfl,d,ov,g,e,hd,rfl,H2,o2,v2,n2⟩:=hI
   have hd:d=ls.length:=by
    rcases xj d ls.length with h|h
    . obtain⟨c,hc⟩:∃c,ls.length-d=c+1:=⟨ls.length-d-1,by lia⟩
      rw[hc,List.range'_succ] at e;cases e
    . exact Nat.le_antisymm hd h
   subst hd;obtain rfl:ov=vs:=by
    apply v8;intro i;rcases xj i ls.length with h|h
    . exact v2 i h
    . rw[j6 (by lia),j6 (by rw[ha.1];exact h)]
   refine aa (rm H2.o rfl (aa (wpAny_newTuple ?_)));have H8:=H2.nx.up (g':=g.push (tpN ov)) λc o e=>aq _ e
   refine aa ?_;unfold Builtin.SmallTypes.ownedTupleHandOut;refine aa (iw H8.z (by simp) λg9 z9 s9=>?_);have H9:=H8.sz s9.extBut (f1:=rawInt g.objs.size) z9;refine iw H9.z (by simp) λg10 z10 s10=>?_
   have H10:=H9.sz s10.extBut (f1:=rawInt g.objs.size) z10;have zl:n+ls.length+2<g.objs.size:=az H2.z
   have t10:g10.get? g.objs.size=some (tpN ov):=s10.extBut _ _ (vg zl) (s9.extBut _ _ (vg zl) (bh _ rfl));refine aj ⟨_,rfl,?_⟩;show Q (.ref g.objs.size) _;rw[n2] at H10 t10 ⊢;exact hq g10 H10 t10
 . show(Ek n ls.length).zipIdx=_
   rw[ahk];rfl
def a0k{n k:Nat}{ls:Y3}(hd:A.handled=none)(h0:ls[0]?=some l)(H:ZN s.heap n ls .none ov k 0 s.heap)(hI:s.heap.get? (n+ls.length)=some (tpN (Ek n ls.length)))(hl:l<n)(c1:s.heap.IsTuple l xs)(e1:xs[k]?=none)
 (hE:∀h' e,(∀c o,(c<n\/n+ls.length+2<c)->s.heap.get? c=some o->h'.get? c=some o)->(∃o,h'.get? e=some o/\o.cls=.type "StopIteration")->E (.ref e) { s with heap:=h' }) :
 wpAny (model prog w) A (Builtin.«zip.__next__» ⟨[.ref (n+ls.length+2)],[]⟩) Q E s:=by
 have hz:=H.z;obtain⟨c,hc⟩:∃c,ls.length=c+1:=⟨ls.length-1,by have:=acw h0;lia⟩;have ne:(Ek n ls.length).toArray.isEmpty=false:=by rw[hc];simp[Ek]
 show wpAny _ _ (field (.ref (n+ls.length+2)) 2 >>= _) _ _ _;refine aa (jb hz rfl (x:=.bool false) rfl (aa (jb hz rfl (x:=.ref (n+ls.length)) rfl (aa (rm hI rfl ?_)))));simp only[ne,cg,jd];unfold Builtin.SmallTypes.ownedTupleIsFree;refine aa (aa (jb hz rfl (x:=.none) rfl (aj ?_)));simp only[ju];refine aa (wpAny_rule (aa (jb hz rfl (x:=.ref (n+ls.length+1)) rfl (aa (iw hz (by simp) λg1 z1 s1=>?_)))));have H1:=H.sz s1.extBut (f1:=.ellipsis) z1;have i1:g1.IsTupleIter n l k:=H1.a 0 l h0;have er:(Ek n ls.length).zipIdx=(Value.ref n,0)::(List.range' 1 c).map λj=>(Value.ref (n+j),j):=by rw[ahk,hc];rfl
 rw[er,List.forIn_cons];refine aa (aa (aa (wpAny_onRaise (aa (ahi (s:={ s with heap:=g1 }) hd i1 (aox c1 λo=>H1.low _ o (by lia)) e1 λg2 x s2 z_=>?_)))));obtain⟨o,o1,o2⟩:=z_;have z2:IsZip g2 (n+ls.length+2) (n+ls.length) (n+ls.length+1) .ellipsis:=s2 _ _ (by lia) H1.z;have ne:x≠n+ls.length+2:=λy=>by subst y;rw[z2] at o1;cases o1;simp at o2
 exact iw z2 (by simp) λg3 _ s3=>hE g3 x (λc o y1 e=>s3.extBut _ _ (by lia) (s2 _ _ (by lia) (s1.extBut _ _ (by lia) e))) ⟨o,s3.extBut _ _ ne o1,o2⟩
noncomputable def zI(a:Addr):Obj:={ cls:=.type "tuple_iterator",data:=.fields #[.ref a,.int 0 0] }
noncomputable def pI(h:Heap)(ls:Y3):Heap:=ls.foldl (λh l=>h.push (zI l)) h
theorem aam:∀(ls:Y3)(h:Heap),(pI h ls).objs.size=h.objs.size+ls.length
 |[],h=>rfl
 |l::ls,h=>by
  have:=aam ls (h.push (zI l));rw[ie] at this;rw[gn,<- Nat.add_assoc,Nat.add_right_comm];exact this
theorem ahl:∀{ls:Y3}{h:Heap},h.get? c=some o->(pI h ls).get? c=some o
 |[],_,e=>e|x::ls,h,e=>ahl (ls:=ls) (h:=h.push (zI x)) (aq _ e)
theorem aoy:∀{ls:Y3}{h:Heap}{j:Nat},ls[j]?=some l->(pI h ls).get? (h.objs.size+j)=some (zI l)
 |x::ls,h,0,e=>by cases e;exact ahl (ls:=ls) (h:=h.push (zI l)) (bh _ rfl)
 |x::ls,h,j+1,e=>by
  have:=aoy (h:=h.push (zI x)) (ls:=ls) (j:=j) e;rw[ie] at this;rw[<- Nat.add_assoc,Nat.add_right_comm];exact this
def aud{Q:List Value->Shared->Prop}(ht:∀l∈ls,∃xs,s.heap.IsTuple l xs)(q:Q (Ek s.heap.objs.size ls.length) { s with heap:=pI s.heap ls }):wpAny (model prog w) A (Builtin.SmallTypes.iterAll (ls.map .ref)) Q E s:=by
 unfold Builtin.SmallTypes.iterAll;refine aa (pq _ (λrest xr s'=>∃d,d<=ls.length/\rest=(ls.drop d).map .ref/\xr=(Ek s.heap.objs.size d).toArray/\s'={ s with heap:=pI s.heap (ls.take d) }) _ (λx rest b s' hI=>?_) (λb s' hI=>?_) _ _ ⟨0,jt _,rfl,rfl,rfl⟩)
 . obtain⟨d,hd,e,rfl,rfl⟩:=hI
   have hd:d<ls.length:=by
    rcases xj d ls.length with h|h
    . exact h
    . rw[List.drop_of_length_le h] at e;cases e
   rw[List.drop_eq_getElem_cons hd,gm] at e;injection e with e1 e2
   subst e1 e2;obtain⟨xs,hx⟩:=ht ls[d] (p8 hd);refine aa (ji (wpAny_pyIter_tuple (aox hx λo e=>ahl e) (aj ⟨d+1,hd,rfl,?_,?_⟩)))
   . rw[aam,List.length_take,Nat.min_eq_left (xg hd)]
     simp[Ek,u5]
   . have:pI s.heap (ls.take (d+1))=(pI s.heap (ls.take d)).push (zI ls[d]):=by
      rw[List.take_succ,dh hd,pI,List.foldl_append];rfl
     rw[this];rfl
 . obtain⟨d,hd,e,rfl,rfl⟩:=hI
   have hd:d=ls.length:=by
    rcases xj d ls.length with h|h
    . rw[List.drop_eq_getElem_cons h] at e;cases e
    . exact Nat.le_antisymm hd h
   subst hd;rw[List.take_length];exact aj (by simpa using q)
noncomputable def zB(h:Heap)(ls:Y3):Heap:=(pI h ls).push (tpN (Ek h.objs.size ls.length))
noncomputable def zC(h:Heap)(ls:Y3):Heap:=(zB h ls).push (tpN ((Ek h.objs.size ls.length).map λ_=>.none))
noncomputable def zD(h:Heap)(ls:Y3):Heap:=(zC h ls).push { cls:=.type "zip",data:=.fields #[.none,.bool false,.bool false,.ref (pI h ls).objs.size,.ref (zB h ls).objs.size] }
def aoz(h3:ls.length<=3) :
 Meets (Builtin.«zip.__new__» ⟨.type "zip"::ls.map .ref,[]⟩) (λ_ R s=>(∀l∈ls,∃xs,s.heap.IsTuple l xs)/\R (.ok (.ret (.ref (zC s.heap ls).objs.size))) { s with heap:=zD s.heap ls }) :=
 .of_wp λprog w A R s h=>by
  obtain⟨hp,g,d,tk,os⟩:=s;obtain⟨ht,h⟩:=h;have Y6:=sub_zip;have f1:∀{Q:List Value->Shared->Prop}{A E},Q (Ek hp.objs.size ls.length) ⟨pI hp ls,g,d,tk,os⟩->wpAny (model prog w) A (Builtin.SmallTypes.iterAll (ls.map .ref)) Q E ⟨hp,g,d,tk,os⟩:=λq=>aud ht q
  have sz:∀(xs:Zl),xs.length<=3->xs.toArray.size<=sizeLine:=λxs h=>gq (by simpa using h) (show 3<=sizeLine by decide)
  have f2:∀{Q:Y1}{A E}{h:Heap},Q (.ref h.objs.size) ⟨h.push (tpN (Ek hp.objs.size ls.length)),g,d,tk,os⟩->wpAny (model prog w) A (newTuple (Ek hp.objs.size ls.length)) Q E ⟨h,g,d,tk,os⟩:=λq=>wpAny_newTuple q (sz _ (by simpa[Ek] using h3))
  have f3:∀{Q:Y1}{A E}{h:Heap},Q (.ref h.objs.size) ⟨h.push (tpN ((Ek hp.objs.size ls.length).map λ_=>.none)),g,d,tk,os⟩->wpAny (model prog w) A (newTuple ((Ek hp.objs.size ls.length).map λ_=>.none)) Q E ⟨h,g,d,tk,os⟩:=λq=>wpAny_newTuple q (sz _ (by simpa[Ek] using h3))
  wp_walk using f1,f2,f3
  exact⟨_,rfl,h⟩
def aue{n:Nat}(h3:ls.length<=3)(hn:s.heap.objs.size=n)(ct:checkTypeCall "zip" ⟨ls.map .ref,[]⟩=pure ())(cb:checkBuiltinCall "zip.__new__" ⟨.type "zip"::ls.map .ref,[]⟩=pure ())(ca:∀obj,argsOk "object.__init__" ⟨obj::ls.map .ref,[]⟩)(ht:∀l∈ls,∃xs,s.heap.IsTuple l xs)
 (h:∀h',ZN h' n ls .none ((Ek n ls.length).map λ_=>.none) 0 0 h'->h'.get? (n+ls.length)=some (tpN (Ek n ls.length))->(∀c o,s.heap.get? c=some o->h'.get? c=some o)->Q (.ref (n+ls.length+2)) { s with heap:=h' }):wpAny (model prog w) A (call (.type "zip") (ls.map .ref)) Q E s:=by
 refine callType_new F.called_zip (by decide) ct cb ca F.entry_zip_new (aoz h3) ⟨ht,?_⟩;have z3:(pI s.heap ls).objs.size=n+ls.length:=by rw[aam,hn]
 have z4:(zB s.heap ls).objs.size=n+ls.length+1:=by unfold zB;rw[ie,z3]
 have z5:(zC s.heap ls).objs.size=n+ls.length+2:=by unfold zC;rw[ie,z4]
 have up:∀{h:Heap}{o':Obj}{c:Addr}{o:Obj},h.get? c=some o->(h.push o').get? c=some o:=λe=>aq _ e
 have g6:(zD s.heap ls).get? (zC s.heap ls).objs.size=some _:=bh _ rfl;have g5:(zD s.heap ls).get? (zB s.heap ls).objs.size=some _:=up (bh _ rfl);have g4:(zD s.heap ls).get? (pI s.heap ls).objs.size=some _:=up (up (bh _ rfl));rw[z3,z4,z5] at g6;rw[z4,hn] at g5;rw[z3,hn] at g4;show _/\_;rw[z5];exact⟨⟨_,g6,rfl⟩,h _ ⟨g6,g5,λj l e=>⟨_,up (up (up (by rw[<- hn];exact aoy e))),rfl,rfl⟩,λ_ _ _ e=>e⟩ g4 λc o e=>up (up (up (ahl e)))⟩
def V6(a b c:Value):checkTypeCall "zip" ⟨[a,b,c],[]⟩=pure ():=by kernel_rfl
def Xa(a b c:Value):checkBuiltinCall "zip.__new__" ⟨[.type "zip",a,b,c],[]⟩=pure ():=by kernel_rfl
def acx(a b c d:Value):argsOk "object.__init__" ⟨[a,b,c,d],[]⟩:=by unfold argsOk;rw[signature?_of (id := "object.__init__") (n := "__tini__".toList) (o := "tcejbo".toList) (by kernel_rfl) F.owner_object];kernel_rfl
theorem aj1:∀vs:List Value,vs.length=2\/vs.length=3->checkTypeCall "zip" ⟨vs,[]⟩=pure ()/\checkBuiltinCall "zip.__new__" ⟨.type "zip"::vs,[]⟩=pure ()/\∀obj,argsOk "object.__init__" ⟨obj::vs,[]⟩
 |[a,b],_=>⟨F.typeCall_zip_2 _ _,F.newCall_zip_2 _ _,λobj=>F.args_object_init_3 obj _ _⟩
 |[a,b,c],_=>⟨V6 _ _ _,Xa _ _ _,λobj=>acx obj _ _ _⟩
 |[],h=>by simp at h|[_],h=>by simp at h|_::_::_::_::_,h=>by simp at h
end EnT
namespace L2
open PySem PySem.Spec EnT
noncomputable def IzN(K:Fg)(as:X9):It :=
 ⟨λi H=>∃vs:List V,vs.length=as.length/\∀(j:Nat) a,as[j]?=some a->∃xs x,Ie K H a xs/\xs[i]?=some x/\vs[j]?=some x,
  λi H v H'=>∃p vs,v=.ref p/\H p=none/\H'=upd H p (.tup vs)/\vs.length=as.length/\∀(j:Nat) a xs,as[j]?=some a->Ie K H a xs->vs[j]?=xs[i]?,
  λi H=>∃a xs,as[0]?=some a/\Ie K H a xs/\xs.length<=i⟩
def TN(n:Nat)(as:X9)(i:Nat)(h:Heap):Prop:=(∃ov,ZN h n as .none ov i 0 h/\ov.length=as.length)/\h.get? (n+as.length)=some (tpN (Ek n as.length))
noncomputable def FN(n m:Nat):List Addr:=List.range' n (m+3)
def FN.mem{n m c:Nat}:c∈FN n m↔n<=c/\c<n+m+3:=List.mem_range'_1
theorem at_of(I:Inv X pins σ H s):∀{as:X9}{vs:List V},vs.length=as.length->(∀(j:Nat) a,as[j]?=some a->∃xs x,Ie X.K H a xs/\xs[i]?=some x/\vs[j]?=some x)->∃us,Vals vs us/\At s.heap as i us
 |[],[],_,_=>⟨[],.nil,rfl,λj l h=>by simp at h⟩
 |a::as,v::vs,l,h=>by
  obtain⟨us,r,e,q⟩:=at_of I (as:=as) (vs:=vs) (by simpa using l) (λj a e=>h (j+1) a e);obtain⟨xs,x,q1,x1,hv⟩:=h 0 a rfl;cases hv;obtain⟨i1,r1,p1,_⟩:=I.tuple q1;obtain⟨v1,u1,w1⟩:=r1.get x1;refine⟨v1::us,.cons w1 r,by simp[e],λj l hj=>?_⟩;cases j with
  |zero=>cases hj;exact⟨i1.toArray,v1,p1,by simpa using u1,rfl⟩|succ j=>exact q j l hj
theorem auf{n:Nat}(h3:as.length<=3)(Sg:as≠[])(hl:∀a∈as,a<n):Turn P w K (.Tuple ts k0 pt) (IzN K as) (FN n as.length) (n+as.length+2) (TN n as) where
 mem:=FN.mem.mpr (by lia)
 obj:=λi h st e hc=>by
  obtain⟨⟨ov,H,_⟩,hI⟩:=st;obtain⟨c1,c2⟩:=FN.mem.mp hc
  by_cases z:e<n+as.length
  . have q:e-n<as.length:=by lia
    obtain⟨o,e1,d1,f1⟩:=H.a (e-n) as[e-n] (by simp[q]);rw[show n+(e-n)=e by lia] at e1;exact⟨_,e1,λv z=>by rw[f1] at z;cases z⟩
  . rcases(show e=n+as.length\/e=n+as.length+1\/e=n+as.length+2 by lia) with rfl|rfl|rfl
    . exact⟨_,hI,λv z=>by cases z⟩
    . exact⟨_,H.o,λv z=>by cases z⟩
    . exact⟨_,H.z,λv z=>by cases z⟩
 keep:=λi h h' st k=>by
  obtain⟨⟨ov,H,l⟩,hI⟩:=st;have kk:∀d o,n<=d->d<n+as.length+3->h.get? d=some o->h'.get? d=some o:=λd o h1 h2=>k d (FN.mem.mpr ⟨h1,h2⟩) o
  exact⟨⟨ov,⟨kk _ _ (by lia) (by lia) H.z,kk _ _ (by lia) (by lia) H.o,λj l h=>acv (H.a j l h) λo=>kk _ o (by lia) (by have:=acw h;lia),λ_ _ _ e=>e⟩,l⟩,kk _ _ (by lia) (by lia) hI⟩
 item:=by
  intro X hP hw hK hc i pins s σ H E I hf st hg;subst hP hw hK;obtain⟨⟨ov,Z,lo⟩,hI⟩:=st;have lt:n+as.length+2<s.heap.objs.size:=az Z.z
  obtain⟨vs,lv,hg⟩:=hg;obtain⟨us,r,ha⟩:=at_of I lv hg;have ty:s.TypeIs (.ref (n+as.length+2)) "zip" := ⟨_,Z.z,rfl⟩;unfold pyNext;refine aa (wpAny_attempt (j0 (name:=Str.ofString "__next__") ty F.slot_zip_next (jr F.slot_zip_next ty F.entry_zip_next ?_ (F.args_zip_next_1 _))));refine auc Sg h3 Z lo hI hl ha λh1 Z1 t1=>aj ⟨_,rfl,?_⟩
  refine wpAny_letOwnedTupleGo_zip Z1.z λh2 z2 s2=>?_
  have s2:Heap.SameBut (n+as.length+2) h1 h2:=s2;have Z2:=Z1.sz s2.extBut (f1:=.none) z2;have t2:h2.get? s.heap.objs.size=some (tpN us):=s2.extBut _ _ (vg lt) t1;refine⟨.ref s.heap.objs.size,upd H s.heap.objs.size (.tup vs),I.Yq (t':=s.toks) hf (λc o hc zz=>Z2.low c o (by rw[FN.mem] at hc;lia) zz) (bu _) ⟨by rw[lv];exact gq h3 (show 3<=sizeLine by decide),us,r,⟨_,t2,rfl,_,rfl,rfl⟩⟩,rfl,
   ⟨_,vs,rfl,I.zp.fresh (bu _),rfl,lv,λj a ys ja hy=>?_⟩,⟨⟨us,⟨Z2.z,Z2.o,Z2.a,λ_ _ _ e=>e⟩,ha.1⟩,Z2.low _ _ (by lia) hI⟩,λc hc=>?_⟩
  . obtain⟨xs,x,q1,q2,q3⟩:=hg j a ja
    rw[I.Rk hy q1,q2,q3]
  . rw[FN.mem] at hc
    rw[j5 (by lia)];exact(hf c (FN.mem.mpr hc)).1
 done:=by
  intro X hP hw hK hc i pins s σ H E I hf st hg;subst hP hw hK;obtain⟨⟨ov,Z,lo⟩,hI⟩:=st;obtain⟨a,xs,a0,q1,x1⟩:=hg;obtain⟨i1,r1,p1,_⟩:=I.tuple q1;have hl1:=r1.length;have ty:s.TypeIs (.ref (n+as.length+2)) "zip" := ⟨_,Z.z,rfl⟩;unfold pyNext;refine aa (wpAny_attempt (j0 (name:=Str.ofString "__next__") ty F.slot_zip_next (jr F.slot_zip_next ty F.entry_zip_next ?_ (F.args_zip_next_1 _))));refine a0k (I.ok.hd hc) a0 Z hI (hl a (au a0)) (xs:=i1.toArray) p1 (by simp;lia) λh' e k z_=>?_
  obtain⟨o,o1,o2⟩:=z_;exact aa (m8 (T := "StopIteration") (b:=true) ⟨o,o1,o2⟩ isSubtype_stop (aj ⟨rfl,I.ahj (t':=s.toks) hf λc o hc zz=>k c o (by rw[FN.mem] at hc;lia) zz⟩))
 self:=λ_ _ _ _ _ st h=>by obtain⟨⟨ov,Z,_⟩,_⟩:=st;exact wpAny_pyIter_zip Z.z h
theorem Yr:∀{as:X9}{us:Zl},Vals (as.map V.ref) us->us=as.map Value.ref
 |[],_,h=>by cases h;rfl|_::_,_,h=>by cases h with|cons r t=>cases r;rw[Yr t];rfl
def a71(hg:Gl X "zip")(hm:X.mg "zip" = none)(ha:PA X (a::es) ta)(hs:starEach (a::es) X.env=(false,eval a X.env)::starEach es X.env)(Ge:(backTo pos (starEach es X.env)).any (·.1)=false) :
 PI X (.Tuple ts k0 pt) (.Call (.Name "zip" p) (a::es) [] pos) (fun σ H R=>ta σ H λvs H1=>∃as:List Addr,vs=as.map V.ref/\(as.length=2\/as.length=3)/\(∀q∈as,∃xs,Ie X.K H1 q xs)/\R (IzN X.K as) H1):=by
 intro pins s σ H R I h;refine PyProof.Rows.Call_ (Bj I hg hm (show bootBuiltins "zip" = some (.type "zip") by decide+kernel) (jc (Ar (ha pos pins s σ H _ I h) λus s1 z=>?_) hs Ge));obtain⟨vs,H1,I1,r1,as,rfl,l,ht,hR⟩:=z;cases Yr r1;obtain⟨c1,c2,c3⟩:=aj1 (as.map Value.ref) (by simpa using l);have h3:as.length<=3:=by lia
 have tp:∀q∈as,∃xs,s1.heap.IsTuple q xs:=λq hq=>by obtain⟨xs,hx⟩:=ht q hq;obtain⟨i1,_,p1,_⟩:=I1.tuple hx;exact⟨_,p1⟩
 refine aue h3 rfl c1 c2 c3 tp λh' Z hI kk=>wpAny_pyIter_zip Z.z ?_
 refine⟨s1.heap.objs.size+as.length+2,_,_,_,H1,rfl,I1.kept (t':=s1.toks) kk,auf h3 (λz=>by subst z;simp at l) λq hq=>by obtain⟨xs,o,e,_⟩:=tp q hq;exact az e,⟨⟨_,Z,by simp[Ek]⟩,hI⟩,λc hc=>?_,hR⟩;have hle:=(FN.mem.mp hc).1;exact I1.amz hle (I1.zp.fresh hle)
end L2
namespace Sm
open PySem L2
open MW (Ex Bs OEx Og Bg m7 Lv Tg Res cu MO Ib Cp Op2 Blt Bm Kx Src)
def aj2{i:Nat}(h:(MW.Al ds 0)[i]?=some d):∃z,ds[i]?=some z/\d=.tup [.int (i:Nat),z]:=by
 unfold MW.Al at h;rw[iz,xx] at h;cases e:ds[i]? with
 |none=>rw[e] at h;simp at h|some z=>rw[e] at h;simp at h;exact⟨z,rfl,h.symm⟩
def ahm{X:Cx}(r:mj X.K ι H ds vs)(hk:∀ι1 H1,LeX ι H ι1 H1->SqX bb X.K H1 q vs):aod nm X.K ι H (.con (MW.Al ds 0)) (Ien bb X.K q):=fun ι1 H1 M1 le S1=>by
 refine⟨λi d hi hd=>?_,λ_=>⟨vs,hk ι1 H1 le,?_⟩⟩
 . obtain⟨z,e1,rfl⟩:=aj2 (show(MW.Al ds 0)[i]?=some d from hd)
   obtain⟨v,g1,g2⟩:=(r.Ka le).get e1;refine⟨⟨vs,v,hk ι1 H1 le,g1⟩,λu H2 ⟨p,x,e2,e3,e4,e5⟩=>?_⟩;have ex:x=v:=by have:=e5 vs (hk ι1 H1 le);rw[g1] at this;cases this;rfl
   subst ex e2 e4;obtain⟨S2,zg,r2⟩:=Qg (X:=X) S1 e3 (.cons (.int _) (.cons g2 .nil));exact⟨zg,S2,r2⟩
 . show vs.length<=(MW.Al ds 0).length
   rw[<- r.length];simp[MW.Al]
def a72(hg:Gl X "enumerate")(hm:X.mg "enumerate" = none)(ha:PE X a (tE nm W X.K a'))(W0:noStar a=true):PI X (.Tuple ts k0 pt) (.Call (.Name "enumerate" pr) [a] [] pos) (tI nm W X.K (.enm a')):=by
 intro pins s0 σ H R' I hh;obtain⟨ι,ρ,M,s,M',S,R,e,q⟩:=hh;rw[MW.Za] at e;obtain⟨x,M1,e1,e⟩:=gf e;refine PI.weak (a70 (ts:=ts) (k0:=k0) (pt:=pt) (p:=pr) (pos:=pos) hg hm (Mu ha Tn (km W0 _ _)) (km W0 _ _)) (wi':=fun σ0 H0 R0=>σ0=σ/\H0=H/\R0=R') (fun σ0 H0 R0 ⟨z1,z2,z3⟩=>?_) pins s0 σ H R' I ⟨rfl,rfl,rfl⟩;subst z1 z2 z3;refine Vu (es':=.cons a' .nil) (ds:=[x]) (M1:=M1) S R (by rw[MW.Gf,e1];simp) fun ι1 H1 vs le S1 R1 r=>?_
 cases r with
 |cons r1 r2 =>
  cases r2;cases r1 with
  |@tup p ds us h1 rr =>
   cases e;exact⟨true,p,rfl,⟨us,Ie.of h1⟩,q ι1 H1 _ le S1 (ahm rr fun ι2 H2 zg=>Ie.of (zg.tup _ _ h1))⟩
  |@vl p ds us h1 n1 rr =>
   cases e;exact⟨false,p,rfl,⟨us,G9.of h1⟩,q ι1 H1 _ le S1 (ahm rr fun ι2 H2 zg=>G9.of (zg.lst _ _ n1.1 h1))⟩
  |_=>cases e
set_option tactic.hygienic true in
def a0l:Ca X (binaryOp .Add) (rOp nm X.K (MW.Ey .ais)) :=
 Ca.of anp λv u H Q ι M x y d M' S rv ru e q=>by
  have e:MW.aep x y M=.ok d M':=e;unfold MW.aep at e;split at e<;>try cases e
  rename_i xs ys h1 h2
  by_cases hl:xs.length+ys.length<=100000
  case neg=>rw[bw hl] at e;cases e
  rw[cj hl] at e;obtain⟨p,vs,rfl,g1,r1⟩:=qy S rv h1;obtain⟨p2,vs2,rfl,g2,r2⟩:=qy S ru h2;refine⟨p,p2,vs,vs2,rfl,rfl,g1,g2,by rw[<- r1.length,<- r2.length];exact gq hl Vs,λp3 h3=>?_⟩;have e:Res.ok (MW.D.ref M.length) (M++[.lst (xs++ys)])=.ok d M':=e;cases e;obtain⟨z1,z2,z3⟩:=aae S h3 (r1.append r2);exact q _ _ _ z2 z1 z3
def auh{nm:Nm}{W:Ib}{X:Cx}{o:Expr}{o':Ex}{pos apos:Pos}{k f:Nat}{fa C:Addr}{fd:FuncData}{ps:Yf}{m:Str}{mi ci:Nat}{cl:MW.Cl}{pl:Sem Bool}(ho:PE X o (tE nm W X.K o'))(c0:Cls X.K C)(hme:Meth X.K C m fa)(F:Eh X.prog X.w X.K X.mg X.base Z9 k fa fd ps (spF nm W X.K 1 f))(hr:zm k X.A)(hb:Binds X.K fd ps [])
 (az9:∀c' cl',W.cls[c']?=some cl'->∀g,cl'.meths.lookup mi=some g->nm.cls c'=some C/\g=f) (hno:∀i,nm.fld i≠m)
 (ht:eval (.Call (.Attribute o m apos) [] [] pos) X.env=(do
  let ov <- eval o X.env
  standAt apos.atName
  let (f,first) <- holding [ov] (getMethod ov m pl)
  callWith pos f first (backTo pos (starEach [] X.env)) (backToKw pos (keywordEach [] X.env)))) :
 PE X (.Call (.Attribute o m apos) [] [] pos) (tE nm W X.K (.meth o' mi .nil)) :=
 PE.of (am8 (E:=E0) ho c0 hme F hr hb .nil ag5 ht) fun σ H Q ι ρ M d M' S R e q=>by
  rw[MW.Pg] at e;obtain⟨x,M1,e1,e⟩:=gf e;rw[MW.Ku] at e;refine one S R e1 fun ι1 H1 v le S1 R1 r=>?_
  obtain⟨j,hx⟩:∃j,x=.ref j:=by cases x<;>first|exact⟨_,rfl⟩|cases e
  subst hx;obtain⟨p,rfl,hp⟩:∃p,v=.ref p/\ι1.l[j]?=some p:=by cases r with|ref z=>exact⟨_,rfl,z⟩
  have e:(match M1[j]? with
   | some (.ins c _)=>(match(W.cls[c]?).bind λC=>C.meths.lookup mi with
    | some f=>W.call f [.ref j] M1|none=>.bad)
   | _=>.bad)=Res.ok d M':=e
  cases hM:M1[j]? with
  |none=>rw[hM] at e;cases e
  |some ob =>
   rw[hM] at e;cases ob with
   |ins ci fs =>
    have e:(match(W.cls[ci]?).bind λC=>C.meths.lookup mi with|some f=>W.call f [.ref j] M1|none=>.bad)=Res.ok d M':=e;cases hL:(W.cls[ci]?).bind λC=>C.meths.lookup mi with
    |none=>rw[hL] at e;cases e
    |some g =>
     rw[hL] at e;have e:W.call g [.ref j] M1=.ok d M':=e;obtain⟨cl',h1,h2⟩:=dm.mp hL;obtain⟨h3,rfl⟩:=az9 ci cl' h1 g h2;obtain⟨C',dx,l,g1,g2,g3⟩:=S1.obj j _ p hM hp;rw[h3] at g1;cases g1;exact⟨p,dx,l,rfl,g2,Vy hno g3,ι1,M1,[.ref j],d,M',S1,.cons r .nil,rfl,e,fun ι' H' v Ww S' r'=>q ι' H' v (le.trans Ww) S' r'⟩
   |_=>cases e
def aui:PS X st (tS nm W X.K (.raise ci es')):=λpins s σ H D I hh=>by obtain⟨ι,ρ,M,fl,ρ',M',S,R,e,q⟩:=hh;rw[MW.alu] at e;obtain⟨x,M1,e1,e⟩:=gf e;cases e
def awq(h:PE X a t):PE X (.BoolOp op [a] pos) t:=λpins s σ H Q I q=>PyProof.Rows.BoolOp_one (h pins s σ H Q I q)
theorem acy{K:Fg}{ι:Io}{H:Hp}:∀{ds:List Dv}{vs:List V}{dss:List (List Dv)},MW.Oj ds=some dss->mj K ι H ds vs->∃as:List Addr,vs=as.map V.ref/\as.length=dss.length/\∀(j:Nat) l,dss[j]?=some l->∃a us,as[j]?=some a/\H a=some (.tup us)/\mj K ι H l us
 |[],_,_,e,r=>by cases e;cases r;exact⟨[],rfl,rfl,λj l h=>by simp at h⟩
 |d::ds,_,_,e,r=>by
  cases r with
  |cons r1 r2 =>
   cases d with
   |tup l =>
    obtain⟨dss,e1,rfl⟩:=bz.mp (show(MW.Oj ds).map (l::·)=_ from e);obtain⟨as,rfl,h1,h2⟩:=acy e1 r2;cases r1 with
    |@tup p _ us hp ru =>
     refine⟨p::as,rfl,by simp[h1],λj l h=>?_⟩;cases j with
     |zero=>cases h;exact⟨p,us,rfl,hp,ru⟩|succ j=>exact h2 j l h
   |_=>cases e
theorem acz{K:Fg}{ι:Io}{H:Hp}:∀{dss:List (List Dv)}{as:X9},as.length=dss.length->(∀(j:Nat) l,dss[j]?=some l->i<l.length/\∃a us,as[j]?=some a/\Ie K H a us/\mj K ι H l us)->∃vs:List V,vs.length=as.length/\mj K ι H (dss.map λl=>l.getD i .non) vs/\∀(j:Nat) a,as[j]?=some a->∃xs x,Ie K H a xs/\xs[i]?=some x/\vs[j]?=some x
 |[],as,l,_=>by cases as with
  |nil=>exact⟨[],rfl,.nil,λj a h=>by simp at h⟩
  |cons _ _=>cases l
 |l::dss,as,hl,h=>by cases as with
  |nil=>cases hl
  |cons a as =>
   obtain⟨vs,g1,g2,g3⟩:=acz (i:=i) (dss:=dss) (as:=as) (by simpa using hl) (λj l e=>h (j+1) l e);obtain⟨lt,_,us,e1,q,r⟩:=h 0 l rfl;cases e1;obtain⟨v,x1,x2⟩:=r.get (dh lt);refine⟨v::vs,by simp[g1],.cons (by show Rep K ι H (l.getD i .non) v;rw[dj,dh lt];exact x2) g2,λj b hb=>?_⟩;cases j with
   |zero=>cases hb;exact⟨us,v,q,x1,rfl⟩|succ j=>exact g3 j b hb
def auj{X:Cx}{n:Nat}{l:List Dv}{r:List (List Dv)}(hn:∀(j:Nat) k,(l::r)[j]?=some k->k.length=n)(hl:as.length=(l::r).length)(h:∀(j:Nat) k,(l::r)[j]?=some k->∃a us,as[j]?=some a/\H a=some (.tup us)/\mj X.K ι H k us) :
 aod nm X.K ι H (.con (MW.Ol (l::r) n)) (IzN X.K as):=fun ι1 H1 M1 le S1=>by
 refine⟨λi d hi hd=>?_,λ_=>?_⟩
 . have hd:(MW.Ol (l::r) n)[i]?=some d:=hd
   have hi:i<n:=by simpa[MW.Ol] using(ak.mp hd).1
   have ed:d=.tup ((l::r).map λl=>l.getD i .non):=by rw[MW.Ol,iz,uc hi] at hd;cases hd;rfl
   subst ed;obtain⟨vs,g1,g2,g3⟩:=acz (i:=i) (K:=X.K) (ι:=ι1) (H:=H1) hl λj k e=>by obtain⟨a,us,a1,a2,a3⟩:=h j k e;exact⟨by rw[hn j k e];exact hi,a,us,a1,Ie.of (le.tup _ _ a2),a3.Ka le⟩
   refine⟨⟨vs,g1,g3⟩,λu' H2 z=>?_⟩;obtain⟨p,vs',e5,e6,e7,e8,e9⟩:=z;have:vs'=vs:=by
    apply v8;intro j;rcases xj j as.length with q|q
    . obtain⟨xs,x,x1,x2,x3⟩:=g3 j as[j] (by simp[q])
      rw[e9 j as[j] xs (by simp[q]) x1,x2,x3]
    . rw[j6 (by rw[e8];exact q),j6 (by rw[g1];exact q)]
   subst this e5 e7;obtain⟨S2,zg,r2⟩:=Qg (X:=X) S1 e6 g2;exact⟨zg,S2,r2⟩
 . obtain⟨a,us,a1,a2,a3⟩:=h 0 l rfl
   refine⟨a,us,a1,Ie.of (le.tup _ _ a2),?_⟩;show us.length<=(MW.Ol (l::r) n).length
   have:=a3.length;have:=hn 0 l rfl;simp[MW.Ol]
   lia
def a73(hg:Gl X "zip")(hm:X.mg "zip" = none)(ha:PA X (a::es) (Vq nm W X.K es'))(hs:starEach (a::es) X.env=(false,eval a X.env)::starEach es X.env)(Ge:(backTo pos (starEach es X.env)).any (·.1)=false)(h2:Bs.len es'=2\/Bs.len es'=3) :
 PI X (.Tuple ts k0 pt) (.Call (.Name "zip" pr) (a::es) [] pos) (tI nm W X.K (.zip es')):=by
 intro pins s0 σ H R' I hh;obtain⟨ι,ρ,M,s,M',S,R,e,q⟩:=hh;rw[MW.arl] at e;obtain⟨ds,N1,e1,e⟩:=gf e;have hd:=Es e1;cases et:MW.Oj ds with
 |none=>rw[et] at e;cases e
 |some dss=>cases dss with
  |nil=>rw[et] at e;cases e
  |cons l r =>
   rw[et] at e
   by_cases hc:(r.all λx=>x.length==l.length)=true
   . have e:(if(r.all λx=>x.length==l.length)=true then Res.ok (Src.con (MW.Ol (l::r) l.length)) N1 else .bad)=.ok s M':=e
     rw[cj hc] at e;cases e;refine PI.weak (a71 (ts:=ts) (k0:=k0) (pt:=pt) (p:=pr) (pos:=pos) hg hm ha hs Ge) (wi':=fun σ0 H0 R0=>σ0=σ/\H0=H/\R0=R') (fun σ0 H0 R0 z=>?_) pins s0 σ H R' I ⟨rfl,rfl,rfl⟩;obtain⟨rfl,rfl,rfl⟩:=z;refine Vu S R e1 fun ι1 H1 vs le S1 R1 rr=>?_
     obtain⟨as,rfl,g1,g2⟩:=acy et rr;have gl:=rr.length;rw[du] at gl;refine⟨as,rfl,by rw[<- gl,hd];exact h2,λa ha=>?_,q ι1 H1 _ le S1 (auj (λj k hk=>?_) g1 g2)⟩
     . obtain⟨j,hj⟩:=List.getElem?_of_mem ha
       have lt:=(ak.mp hj).1;rw[g1] at lt;obtain⟨a',us,x1,x2,_⟩:=g2 j _ (dh lt);rw[hj] at x1;cases x1;exact⟨us,Ie.of x2⟩
     . cases j with
       |zero=>cases hk;rfl|succ j=>simpa using ik.mp hc k (au hk)
   . have e:(if(r.all λx=>x.length==l.length)=true then Res.ok (Src.con (MW.Ol (l::r) l.length)) N1 else .bad)=.ok s M':=e
     rw[bw hc] at e;cases e
theorem ac0:∀{xs:List Dv}{b:Bool},MW.allB xs=some b->∃bs:List Bool,xs=bs.map MW.D.bl/\b=bs.all id
 |[],b,e=>by cases e;exact⟨[],rfl,rfl⟩
 |.bl k::r,b,e=>by
  obtain⟨c,e1,rfl⟩:=bz.mp (show(MW.allB r).map (k&&·)=some b from e);obtain⟨bs,rfl,rfl⟩:=ac0 e1;exact⟨k::bs,rfl,by simp⟩
theorem Ys{ι:Io}{H:Hp}{K:Fg}:∀{bs:List Bool}{vs:List V}{is:Zl},mj K ι H (bs.map MW.D.bl) vs->Vals vs is->is=bs.map Value.bool
 |[],_,_,r,h=>by cases r;cases h;rfl
 |k::bs,_,_,r,h=>by
  cases r with
  |cons r1 r2 =>
   cases h with
   |cons h1 h2 =>
    cases r1;cases h1;rw[Ys r2 h2];rfl
def a74(hc:X.calm=true):Bq X (.builtin "all") (rB nm X.K .all):=λpins s σ H vs us Q I V1 hh=>by
 obtain⟨ι,M,ds,d,M',S,r,e,q⟩:=hh;obtain⟨x,rfl,e⟩:∃x,ds=[x]/\Res.uv (((MW.fu M x).bind MW.allB).map MW.D.bl) M=.ok d M':=by
  cases ds with
  |nil=>cases e
  |cons x l=>cases l with
   |nil=>exact⟨x,rfl,e⟩|cons _ _=>cases e
 obtain⟨e1,rfl⟩:=wk e;obtain⟨b,e2,rfl⟩:=bz.mp e1;obtain⟨xs,e3,e4⟩:=dm.mp e2;obtain⟨bs,rfl,rfl⟩:=ac0 e4;obtain⟨v,rfl,rv⟩:=Ht r rfl;obtain⟨u,rfl,ru⟩:=Rr V1;obtain⟨p,ws,rfl,hp,rl⟩:=qy S rv e3;cases ru;obtain⟨is,rvl,pl,_⟩:=I.list (G9.of hp);have his:=Ys rl rvl;have Ig:p<s.heap.objs.size:=by obtain⟨_,e,_⟩:=pl.isList;exact az e
 refine call_all_walk (wpAny_pyIter_list pl.isList ?_);refine⟨_,_,_,_,_,_,λi=>bs.getD i true,rfl,Walks.list (A:=X.A.in1) (I.ok.hd hc) s.heap.objs.size p (fc Ig) is.toArray,⟨⟨_,bh _ rfl,rfl,rfl⟩,pl.isList.push _⟩,λi v s Q E hP hQ=>?_,λh' tk hk=>?_⟩
 . have hv:is[i]?=some v:=by simpa using hP
   rw[his,iz] at hv;obtain⟨k,hk,rfl⟩:=bz.mp hv;refine j7 ?_;have hQ:Q (bs.getD i true) s:=hQ;rw[dj,hk] at hQ;exact hQ
 . have ha:(List.range is.toArray.size).all (λi=>bs.getD i true)=bs.all id:=by
    rw[his];simp only[gr,du];rw[xm,ik,ik];constructor
    . intro h k hk
      obtain⟨i,hi,rfl⟩:=ou hk;have:=h i (jn.mpr hi);simpa[dj,hi] using this
    . intro h i hi
      have hi':=jn.mp hi;have:=h bs[i] (p8 hi');simpa[dj,hi'] using this
   rw[ha];exact⟨.bl _,H,I.kept (t':=tk) (old_kept hk),rfl,q ι H _ (Le.refl _ _) S (.bl _)⟩
def auk(hT:PySem.W.kitAny X.K (.type "tuple") [.type "tuple",.type "list"]=some true)(hno:PySem.W.kitAny X.K (.type "int") [.type "tuple",.type "list"]=some false)(hg:Gl X n)(hm:X.mg n=none)(hv:bootBuiltins n=some (.builtin "isinstance"))(hn:n≠"__name__")(Qq:(n==("__debug__" : Str))=false)(hg1:Gl X "tuple")(hm1:X.mg "tuple" = none)(hg2:Gl X "list")(hm2:X.mg "list" = none)(ha:PE X a (tE nm W X.K a'))(he:starEach [a,.Tuple [.Name "tuple" p1,.Name "list" p2] k pt] X.env=(false,eval a X.env)::starEach [.Tuple [.Name "tuple" p1,.Name "list" p2] k pt] X.env)(Ge:(backTo pos (starEach [.Tuple [.Name "tuple" p1,.Name "list" p2] k pt] X.env)).any (·.1)=false):PE X (.Call (.Name n p) [a,.Tuple [.Name "tuple" p1,.Name "list" p2] k pt] [] pos) (tE nm W X.K (.blt .isSeq (.cons a' .nil))):=by
 intro pins s σ H Q I hh;obtain⟨ι,ρ,M,d,M',S,R,e,q⟩:=hh;rw[MW.Ue] at e;obtain⟨ds,M1,e1,e⟩:=gf e;rw[MW.Gf] at e1;obtain⟨x,M2,e2,e1⟩:=gf e1;rw[MW.Ku] at e1;cases e1;refine ig (Bj I hg hm hv ?_ hn Qq);refine vh (Q:=EP X pins σ Q) ?_ he Ge;rw[he];show wpAny _ _ (spliced ((false,eval a X.env)::backTo pos (starEach [.Tuple [.Name "tuple" p1,.Name "list" p2] k pt] X.env))) _ _ s;refine jy (Ar (ha pins s σ H (λv H1=>∃ι1,Le ι H ι1 H1/\mq nm X.K ι1 H1 M1/\Rep X.K ι1 H1 x v) I ⟨ι,ρ,M,x,M1,S,R,e2,fun ι1 H1 v le S1 r=>⟨ι1,le,S1,r⟩⟩) λu s1 ⟨v,H1,I1,r1,ι1,le,S1,r⟩=>?_);show wpAny _ _ (spliced ((false,eval (.Tuple [.Name "tuple" p1,.Name "list" p2] k pt) X.env)::backTo pos (starEach [] X.env))) _ _ s1;refine jy (wpAny_Tuple ?_);show wpAny _ _ (spliced ((false,eval (.Name "tuple" p1) X.env)::backTo pt (starEach [.Name "list" p2] X.env))) _ _ s1;refine jy (Bj I1 hg1 hm1 (show bootBuiltins "tuple" = some (.type "tuple") by decide+kernel) ?_ (by decide+kernel) (by decide+kernel));show wpAny _ _ (spliced ((false,eval (.Name "list" p2) X.env)::backTo pt (starEach [] X.env))) _ _ s1;refine jy (Bj I1 hg2 hm2 (show bootBuiltins "list" = some (.type "list") by decide+kernel) ?_ (by decide+kernel) (by decide+kernel));refine qp ⟨by show 2<=sizeLine;decide,?_⟩;refine qp ?_;have I2:Inv X pins σ H1 { s1 with heap:=s1.heap.push { cls:=.type "tuple",data:=.seq #[.type "tuple",.type "list"] } }:=I1.kept (t':=s1.toks) λb u e=>aq _ e
 have htp:(s1.heap.push { cls:=.type "tuple",data:=.seq #[.type "tuple",.type "list"] }).get? s1.heap.objs.size=some { cls:=.type "tuple",data:=.seq #[.type "tuple",.type "list"] }:=bh _ rfl;have e:Res.uv ((MW.isX (some true) (some false) x).map MW.D.bl) M1=.ok d M':=e;obtain⟨e4,e5⟩:=wk e;subst e5;obtain⟨b,e3,rfl⟩:=bz.mp e4;have fin:∀tk,EP X pins σ Q (.bool b) { s1 with heap:=s1.heap.push { cls:=.type "tuple",data:=.seq #[.type "tuple",.type "list"] },toks:=tk }:=λtk=>⟨.bl b,H1,I2.tok _,rfl,q ι1 H1 _ le S1 (.bl b)⟩
 cases r with
 |int i=>cases e3;obtain⟨t,q⟩:=(show ∃t,u=Value.int i t from r1);cases q;exact PySem.W.kia_tup PySem.W.kitx_int I2.Rj True.intro htp hno (λz=>nomatch z) fin
 |@tup p ds us h1 rr =>
  cases e3;cases(show u=Value.ref p from r1);obtain⟨_,_,_,h1⟩:=(show Ad X.prog X.w H1 _ p (.tup us) from I2.zp p _ h1);obtain⟨o,g1,g2,_⟩:=h1;exact PySem.W.kia_tup PySem.W.kitx_tuple I2.Rj ⟨o,g1,g2⟩ htp hT (λz=>nomatch z) fin
 |_=>cases e3
set_option tactic.hygienic true in
def aum(e:MW.Gi .get x ds M=.ok d M'):∃n k d0,x=.ref n/\ds=[k,d0]/\M'=M/\∃gw q,M[n]?=some (.dK gw)/\MW.Qz k=some q/\d=(MW.vz gw q).getD d0:=by
 cases x with
 |ref n =>
  match ds,e with
  |[k,d0],e =>
   have e:(match M[n]? with
    |some (.dK gw)=>Res.uv ((MW.Qz k).map λq=>(MW.vz gw q).getD d0) M
    | _=>.bad)=.ok d M':=e
   refine⟨n,k,d0,rfl,rfl,?_⟩;split at e
   . rename_i gw hM
     obtain⟨e1,e2⟩:=wk e;obtain⟨q,h1,h2⟩:=bz.mp e1;exact⟨e2,gw,q,hM,h1,h2.symm⟩
   . cases e
  |[],e=>cases e|[_],e=>cases e|_::_::_::_,e=>cases e
 |_=>cases e
set_option tactic.hygienic true in
def ty_dict{X:Cx}(S:mq nm X.K ι H M)(r:Rep X.K ι H x v)(h:MW.Ke .get x M=true):tyV X.K "dict" v H:=by
 cases r with
 |@ref n p hp =>
  have h:(match M[n]? with|some (.dK _)=>true|_=>false)=true:=h;split at h
  . rename_i hM
    obtain⟨l,h1,_⟩:=S.obj n _ p hM hp;exact .inr (.inr (.inl ⟨rfl,.inl ⟨_,h1⟩⟩))
  . cases h
 |_=>cases h
def a75(hu:X.A.units+1<cLine):MtR X "dict.get" (rM nm X.K .get):=λpins s σ H v vs u us Q I ru V1 hh=>by
 obtain⟨ι,M,x,ds,d,M',S,r,rs,e,_,q⟩:=hh;obtain⟨n,k,d0,rfl,rfl,rfl,gw,k0,hM,hk,rfl⟩:=aum e;cases rs with
 |cons rk rt =>
  cases rt with
  |cons rd rt =>
   cases rt;cases V1 with
   |cons hk1 ht1 =>
    cases ht1 with
    |cons hd1 ht1 =>
     cases ht1;cases r with
     |ref ha =>
      cases ru;obtain⟨l,h1,h2⟩:=S.obj n _ _ hM ha;have hy:=Rp rk hk;subst hy;refine azm hu I (Mr.k h1) hk1 hd1 λw' s' I' rw'=>⟨_,H,I',rw',q ι H _ (Le.refl _ _) S ?_⟩
      cases hl:MW.vz gw k0 with
      |none=>rw[(h2.look (k:=k0)).2 hl];exact rd|some d=>obtain⟨z,h3,h4⟩:=(h2.look (k:=k0)).1 d hl;rw[h3];exact h4
set_option tactic.hygienic true in
def a0m(hr:zm 8 X.A)(hg:Gl X n)(hm:X.mg n=none)(hv:bootBuiltins n=some (.type "list"))(hn:n≠"__name__")(Qq:(n==("__debug__" : Str))=false)(hg2:Gl X tn)(hm2:X.mg tn=none)(hv2:bootBuiltins tn=some (.type "range"))(W2:tn≠"__name__")(afn:(tn==("__debug__" : Str))=false)(ha:PA X [a] (Vq nm W X.K (.cons a' .nil)))(he:starEach [.Call (.Name tn p') [a] [] q2] X.env=(false,eval (.Call (.Name tn p') [a] [] q2) X.env)::starEach [] X.env)(Ge:(backTo q1 (starEach [] X.env)).any (·.1)=false)(he2:starEach [a] X.env=(false,eval a X.env)::starEach [] X.env)(afl:(backTo q2 (starEach [] X.env)).any (·.1)=false) :
 PE X (.Call (.Name n p) [.Call (.Name tn p') [a] [] q2] [] q1) (tE nm W X.K (.aen a')):=by
 intro pins s σ H Q I hh;obtain⟨ι,ρ,M,d,M',S,R,e,q⟩:=hh;rw[MW.als] at e;obtain⟨x,M1,e1,e⟩:=gf e;split at e<;>try cases e
 rename_i i;split at e<;>cases e;rename_i hi;refine ig (Bj I hg hm hv ?_ hn Qq);refine jc (Q:=EP X pins σ Q) ?_ he Ge;rw[he];show wpAny _ _ (spliced ((false,eval (.Call (.Name tn p') [a] [] q2) X.env)::backTo q1 (starEach [] X.env))) _ _ s;refine jy ?_;refine ig (Bj I hg2 hm2 hv2 ?_ W2 afn);refine jc (Ar (ha q2 pins s σ H (λvs H1=>∃ι1,vs=[.int i]/\Le ι H ι1 H1/\mq nm X.K ι1 H1 M1) I ⟨ι,ρ,M,[.int i],M1,S,R,by simp[e1,Res.bind],fun ι1 H1 vs le S1 r=>?_⟩) λus s1 ⟨vs,H1,I1,r1,ι1,ev,Ul,S1⟩=>?_) he2 afl
 . obtain⟨v,ev,rv⟩:=Ht r rfl
   cases rv;exact⟨ι1,ev,le,S1⟩
 subst ev;obtain⟨u,rfl,ru⟩:=Rr r1;obtain⟨t,rfl⟩:=ru;refine call_range_1 ?_;show wpAny _ _ (spliced []) _ _ _;refine qp ?_;have keep:∀b o,s1.heap.get? b=some o->(s1.heap.push { cls:=.type "range",data:=.fields #[.int 0 s1.toks,.int i t,.int 1 (s1.toks+1)] }).get? b=some o:=λb o e=>aq _ e
 refine call_list_range (n:=i.toNat) hr.hd (bh _ rfl) (small_one (by lia) (by lia) (by lia) (by omega)) (by rw[rangeSize_one];split<;>lia) (by lia) λh' tk acc c' hk hS Dq=>?_
 have hsz:(s1.heap.push { cls:=.type "range",data:=.fields #[.int 0 s1.toks,.int i t,.int 1 (s1.toks+1)] }).objs.size=s1.heap.objs.size+1:=ie ..;have hS:h'.get? (s1.heap.push { cls:=.type "range",data:=.fields #[.int 0 s1.toks,.int i t,.int 1 (s1.toks+1)] }).objs.size=some { cls:=.type "list",dict:=none,data:=.seq acc c',slots:=#[] }:=hS;show EP X pins σ Q (.ref (s1.heap.push { cls:=.type "range",data:=.fields #[.int 0 s1.toks,.int i t,.int 1 (s1.toks+1)] }).objs.size) _;rw[hsz] at hS ⊢;have hz:((List.range i.toNat).map λ(k:Nat)=>V.int (k:Int)).length<=sizeLine:=by simp[qg];omega
 have hle:s1.heap.objs.size<=s1.heap.objs.size+1:=vf _
 have hf:H1 (s1.heap.objs.size+1)=none:=I1.zp.fresh hle;have I3:Inv X pins σ (upd H1 (s1.heap.objs.size+1) (.lst ((List.range i.toNat).map λ(k:Nat)=>V.int (k:Int)))) { s1 with heap:=h',toks:=tk } :=
  I1.laid (a:=s1.heap.objs.size+1) (t':=tk) (λb o e=>hk b o (keep b o e)) hle (show Ad X.prog X.w _ _ _ (.lst _) from⟨hz,acc.toList,c',V4 Dq,by simpa using hS⟩)
 obtain⟨S2,zg,r2⟩:=aae (X:=X) S1 hf (V5 i.toNat);exact⟨.ref (s1.heap.objs.size+1),_,I3,rfl,q _ _ _ (Ul.trans zg) S2 r2⟩
end Sm
namespace Sm
open PySem L2
open MW (Ex Bs OEx Og Bg m7 Lv Tg Res cu MO Ib Cp Op2 Blt Bm Kx Src)
theorem V7(x:Int):∀l,(MW.insI x l).Perm (x::l)
 |[]=>yj _
 |y::l=>by
  unfold MW.insI;split
  . exact yj _
  . exact((V7 x l).cons y).trans (List.Perm.swap x y l)
theorem Nq:∀l,(MW.sortI l).Perm l
 |[]=>yj _|x::l=>(V7 x _).trans ((Nq l).cons x)
theorem ao0(x:Int):∀{l:Xs},l.Pairwise (·<=·)->(MW.insI x l).Pairwise (·<=·)
 |[],_=>List.pairwise_singleton _ _
 |y::l,h=>by
  obtain⟨h1,h2⟩:=yz.mp h;unfold MW.insI;split
  . refine yz.mpr ⟨λz hz=>?_,h⟩
    rcases bx.mp hz with rfl|hz
    . lia
    . have:=h1 z hz;lia
  . refine yz.mpr ⟨λz hz=>?_,ao0 x h2⟩
    rcases bx.mp ((V7 x l).mem_iff.mp hz) with rfl|hz
    . lia
    . exact h1 z hz
theorem ahn:∀l,(MW.sortI l).Pairwise (·<=·)
 |[]=>List.Pairwise.nil|x::l=>ao0 x (ahn l)
set_option tactic.hygienic true in
theorem aan(k:Int):∀l,k∈MW.zr l↔k∈l
 |[]=>Iff.rfl
 |x::l=>by
  unfold MW.zr;split
  . rename_i h
    rw[aan k l,bx];exact⟨.inr,λz=>z.elim (λe=>e▸h) id⟩
  . rw[bx,bx,aan k l]
set_option tactic.hygienic true in
theorem afo:∀l,(MW.zr l).Nodup
 |[]=>w5
 |x::l=>by
  unfold MW.zr;split
  . exact afo l
  . rename_i h
    exact mz.mpr ⟨λz=>h ((aan x l).mp z),afo l⟩
theorem ao1:∀l,(MW.zr l).length<=l.length
 |[]=>bu _
 |x::l=>by
  have:=ao1 l;unfold MW.zr;split<;>simp<;>omega
theorem awr:∀{a b:Xs},a.Pairwise (·<=·)->b.Pairwise (·<=·)->a.Nodup->b.Nodup->(∀k,k∈a↔k∈b)->a=b
 |[],[],_,_,_,_,_=>rfl|[],y::b,_,_,_,_,h=>nomatch(h y).mpr cz|x::a,[],_,_,_,_,h=>nomatch(h x).mp cz
 |x::a,y::b,ha,hb,na,nb,h=>by
  obtain⟨a1,a2⟩:=yz.mp ha;obtain⟨b1,b2⟩:=yz.mp hb;obtain⟨c1,c2⟩:=mz.mp na;obtain⟨d1,d2⟩:=mz.mp nb;have e:x=y:=by
   rcases bx.mp ((h x).mp cz) with e|m
   . exact e
   . rcases bx.mp ((h y).mpr cz) with e|m'
     . exact e.symm
     . have:=b1 x m;have:=a1 y m';lia
  subst e
  congr 1
  refine awr a2 b2 c2 d2 λk=>⟨λm=>?_,λm=>?_⟩
  . rcases bx.mp ((h k).mp (bc _ m)) with rfl|m'
    . exact absurd m c1
    . exact m'
  . rcases bx.mp ((h k).mpr (bc _ m)) with rfl|m'
    . exact absurd m d1
    . exact m'
def aun(h1:ns.Pairwise (·<=·))(h2:ns.Nodup)(h3:∀k,k∈l↔k∈ns):ns=MW.sortI (MW.zr l) :=
 awr h1 (ahn _) h2 ((Nq _).nodup_iff.mpr (afo l)) λk=>by rw[(Nq _).mem_iff,aan,h3]
theorem ac8{ι:Io}{H:Hp}{K:Fg}:∀{ds:List Dv}{vs:List V}{is:Zl}{ns:Xs},mj K ι H ds vs->Vals vs is->MW.Xj ds=some ns->PyProof.Rows.IntsAre is ns
 |_,_,_,_,.nil,.nil,h=>by cases h;exact .nil
 |_,_,_,_,.cons r t,.cons rv tv,h=>by
  cases r<;>simp only[MW.Xj] at h<;>try cases h
  obtain⟨ns',e1,e2⟩:=bz.mp h;subst e2;obtain⟨tk,rfl⟩:=rv;exact .cons _ _ (ac8 t tv e1)
theorem ac9:∀{is:Zl}{ns:Xs},PyProof.Rows.IntsAre is ns->Vals (ns.map V.int) is
 |_,_,.nil=>.nil|_,_,.cons n t h=>.cons ⟨t,rfl⟩ (ac9 h)
theorem Yt{ι:Io}{H:Hp}{K:Fg}:∀ns:List Int,mj K ι H (ns.map MW.D.int) (ns.map V.int)
 |[]=>.nil|n::ns=>.cons (.int n) (Yt ns)
set_option tactic.hygienic true in
def ada(e:MW.ud .Ce ds M=.ok d M'):∃x xs ns,ds=[x]/\MW.fu M x=some xs/\MW.Xj xs=some ns/\ns.length<31/\d=.vl ((MW.sortI (MW.zr ns)).map MW.D.int)/\M'=M:=by
 match ds,e with
 |[x],e =>
  have e:Res.uv (((MW.fu M x).bind MW.Xj).bind λis=>if is.length<31 then some (MW.D.vl ((MW.sortI (MW.zr is)).map MW.D.int)) else none) M=.ok d M':=e;obtain⟨e1,e2⟩:=wk e;obtain⟨ns,e3,e4⟩:=dm.mp e1;obtain⟨xs,e5,e6⟩:=dm.mp e3;split at e4
  . rename_i hl
    exact⟨x,xs,ns,rfl,e5,e6,hl,(jq e4).symm,e2⟩
  . cases e4
 |[],e=>cases e|_::_::_,e=>cases e
def aj4(hr:zm 8 X.A)(hg:Gl X n)(hm:X.mg n=none)(hv:bootBuiltins n=some (.builtin "sorted"))(hn:n≠"__name__")(Qq:(n==("__debug__" : Str))=false)(hg2:Gl X tn)(hm2:X.mg tn=none)(hv2:bootBuiltins tn=some (.type "set"))(W2:tn≠"__name__")(afn:(tn==("__debug__" : Str))=false)(ha:PA X [a] (Vq nm W X.K (.cons a' .nil)))(he:starEach [.Call (.Name tn p') [a] [] q2] X.env=(false,eval (.Call (.Name tn p') [a] [] q2) X.env)::starEach [] X.env)(Ge:(backTo q1 (starEach [] X.env)).any (·.1)=false)(he2:starEach [a] X.env=(false,eval a X.env)::starEach [] X.env)(afl:(backTo q2 (starEach [] X.env)).any (·.1)=false) :
 PE X (.Call (.Name n p) [.Call (.Name tn p') [a] [] q2] [] q1) (tE nm W X.K (.blt .Ce (.cons a' .nil))):=by
 intro pins s σ H Q I hh;obtain⟨ι,ρ,M,d,M',S,R,e,q⟩:=hh;rw[MW.Ue] at e;obtain⟨ds,M1,e1,e⟩:=gf e;obtain⟨x,xs,ns,rfl,e2,e3,hl,rfl,rfl⟩:=ada e;refine ig (Bj I hg hm hv ?_ hn Qq);refine vh (Q:=EP X pins σ Q) ?_ he Ge;rw[he];show wpAny _ _ (spliced ((false,eval (.Call (.Name tn p') [a] [] q2) X.env)::backTo q1 (starEach [] X.env))) _ _ s;refine jy ?_;refine ig (Bj I hg2 hm2 hv2 ?_ W2 afn);refine jc (Ar (ha q2 pins s σ H (λvs H1=>∃ι1 v,vs=[v]/\Rep X.K ι1 H1 x v/\Le ι H ι1 H1/\mq nm X.K ι1 H1 M') I ⟨ι,ρ,M,[x],M',S,R,e1,fun ι1 H1 vs le S1 r=>?_⟩) λus s1 ⟨vs,H1,I1,r1,ι1,v,ev,rx,Ul,S1⟩=>?_) he2 afl
 . obtain⟨v,ev,rv⟩:=Ht r rfl
   exact⟨ι1,v,ev,rv,le,S1⟩
 subst ev;obtain⟨u,rfl,ru⟩:=Rr r1;obtain⟨p,ws,rfl,hp,rl⟩:=qy S1 rx e2;cases ru;obtain⟨is,rvl,pl,_⟩:=I1.list (G9.of hp);refine Xc.air hr.hd pl.isList (by simpa using ac8 rl rvl e3) hl λh' tk n' keep hS Nf=>?_
 show wpAny _ _ (spliced []) _ _ _;refine qp ?_;refine Xc.aa8 (s:={ s1 with heap:=h',toks:=tk }) hr.hd hS (c_ Nf hl) λh2 tk2 p2 out ms ahg hp2 hI2 so nd mem z_=>?_
 obtain⟨c,g⟩:=z_;obtain rfl:=aun so nd mem;obtain⟨o9,_,_,_,g9,_⟩:=hS.get;have hz1:s1.heap.objs.size<=p2:=gq (xg (az g9)) hp2
 have hf:H1 p2=none:=I1.zp.fresh hz1;have hzl:((MW.sortI (MW.zr ns)).map V.int).length<=sizeLine:=by rw[du,(Nq _).length_eq,qg];have:=ao1 ns;exact e_ (c_ this (b_ hl (by decide)))
 have I3:Inv X pins σ (upd H1 p2 (.lst ((MW.sortI (MW.zr ns)).map V.int))) { s1 with heap:=h2,toks:=tk2 } :=
  I1.laid (a:=p2) (t':=tk2) (λb o e=>ahg b o (keep b o e)) hz1 (show Ad X.prog X.w _ _ _ (.lst _) from⟨hzl,out.toList,c,ac9 hI2,by simpa using g⟩)
 obtain⟨S2,zg,r2⟩:=aad (X:=X) S1 hf (Yt _);exact⟨.ref p2,_,I3,rfl,q _ _ _ (Ul.trans zg) S2 r2⟩
end Sm
namespace Ck
open PySem L2 Sm
open MW (Ex Bs OEx Og Bg m7 Lv Tg Res cu MO Ib Cp Op2 Blt Bm Kx Src)
structure Tab where
 fns:List (Option (Str×Nat))
 cls:List (Option (Str×Nat))
 mts:List (Str×Nat)
 O2:List Str
 auo:List (Str×Int)
noncomputable def Mx:List Str:=["len", "tuple", "list", "dict", "max", "min", "isinstance", "range", "enumerate", "set", "zip", "all", "bool", "int", "sum", "sorted"]
structure ao2(T:Tab)(nm:Nm)(W:Ib)(k:Nat)(P:Program)(w:World)(K:Fg)(mg:Zs)(base:Heap):Prop where
 fn:∀f x n,T.fns[f]?=some (some (x,n))->∃fa fd ps,Eh P w K mg base Z9 k fa fd ps (spF nm W K n f)/\mg x=some (.ref fa)/\PySem.W.keepIn K (.ref fa)=true/\Binds K fd ps []
 cl:∀c x n,T.cls[c]?=some (some (x,n))->∃C fa fd ps cl,Mk K C fa/\Eh P w K mg base Z9 k fa fd ps (spF nm W K (n+1) cl.init)/\mg x=some (.ref C)/\Binds K fd ps []/\W.cls[c]?=some cl/\nm.cls c=some C
 mt:∀m x n,T.mts[m]?=some (x,n)->∃C fa fd ps f,Cls K C/\Meth K C x fa/\Eh P w K mg base Z9 k fa fd ps (spF nm W K (n+1) f)/\Binds K fd ps [] /\
  (∀c' cl',W.cls[c']?=some cl'->∀g,cl'.meths.lookup m=some g->nm.cls c'=some C/\g=f)/\∀i,nm.fld i≠x
 fl:∀f x,T.O2[f]?=some x->x=nm.fld f/\∀c C,nm.cls c=some C->Cls K C/\Fq K C x
 cs:∀x i,(x,i)∈T.auo->∃t,mg x=some (.int i t)
 bt:∀x∈Mx,mg x=none
structure Ctx where
 N:List Str
 sc:List (Str×NameKind)
 fn:Bool
 own:List Str
structure Dl(T:Tab)(nm:Nm)(W:Ib)(k:Nat)(c:Ctx)(X:Cx):Prop where
 N:X.N=c.N
 nd:c.N.Nodup
 sc:X.env.scope.names=c.sc
 kd:X.env.scope.kind=.function
 calm:X.calm=true
 room:zm (k+16) X.A
 fnl:c.fn=true->(∀n,X.fn n=true)/\PassesOwn (model X.prog X.w) X.A X.env X.xe
 tab:ao2 T nm W k X.prog X.w X.K X.mg X.base
 ow:∀n,c.own.contains n=true->X.fn n=true
def Rv{Ty U:String}(K:Fg)(h:(if(Value.type Ty==Value.type U)=true then some true else if PySem.W.kitMeta U=true then(fastBuiltinMro Ty).map (·.contains (.type U)) else none)=some b):PySem.W.kitOne K (.type Ty) (.type U)=some b:=h
def adb(h1:PySem.W.kitOne K (.type Ty) (.type "tuple")=some a)(h2:PySem.W.kitOne K (.type Ty) (.type "list")=some b):PySem.W.kitAny K (.type Ty) [.type "tuple",.type "list"]=some (a||b):=by cases a<;>cases b<;>simp[PySem.W.kitAny,h1,h2]
noncomputable def V8(n:Str):Bool:=!(n==("__debug__" : Str))&&(!(n==("__classdict__" : Str))&&!(n==("__name__" : Str)))
noncomputable def aj5(c:Ctx)(n:Str):Bool:=match c.sc.lookup n with|some .local=>true|some .cell=>true|some .free=>true|_=>false
noncomputable def a0n(c:Ctx)(n:Str):Bool:=match c.sc.lookup n with|some .local=>true|some .cell=>c.fn||c.own.contains n|_=>false
noncomputable def Qs(c:Ctx)(n:Str):Bool:=V8 n&&(match c.sc.lookup n with|some .globalImplicit=>true|_=>false)
noncomputable def ahp(c:Ctx)(i:Nat)(n:Str):Bool:=match c.N[i]? with|some m=>m==n|none=>false
noncomputable def zc:List Expr->Bool
 |[]=>true|e::r=>noStar e&&zc r
noncomputable def V9:Expr->Bool
 |.Name ..=>true|.Attribute ..=>true|.Subscript ..=>true|.Call (.Attribute ..) ..=>true|_=>false
def rz(h:V8 n=true):(n==("__debug__" : Str))=false/\(n==("__classdict__" : Str))=false/\n≠"__name__" := by simp only[V8,ao,Bool.not_eq_true'] at h;exact⟨h.1,h.2.1,λz=>by have:=h.2.2;rw[z] at this;simp at this⟩
set_option tactic.hygienic true in
def a0o(h:Dl T nm W k c X)(hv:aj5 c n=true):Vis X.env.scope n:=by unfold Vis;rw[h.sc];unfold aj5 at hv;split at hv<;>rename_i e<;>first|exact .inl e|exact .inr (.inl e)|exact .inr (.inr e)|cases hv
set_option tactic.hygienic true in
def a0p(h:Dl T nm W k c X)(hv:a0n c n=true):L2.Loc X.env.scope n/\(X.fn n=true\/X.env.scope.names.lookup n=some .local):=by
 unfold L2.Loc;rw[h.sc];unfold a0n at hv;split at hv
 . rename_i e;exact⟨.inl e,.inr e⟩
 . rename_i e;rcases(Bool.or_eq_true _ _).mp hv with z|z
   . exact⟨.inr e,.inl ((h.fnl z).1 n)⟩
   . exact⟨.inr e,.inl (h.ow n z)⟩
 . cases hv
set_option tactic.hygienic true in
def Dg(h:Dl T nm W k c X)(hv:Qs c n=true):Gl X n/\V8 n=true:=by
 unfold Qs at hv;rw[ao] at hv;refine⟨?_,hv.1⟩;have hv:=hv.2;unfold Gl Env.kindOf;rw[h.sc];split at hv
 . rename_i e;exact e
 . cases hv
set_option tactic.hygienic true in
def slot_of(h:Dl T nm W k c X)(hv:ahp c i n=true):X.N[i]?=some n:=by
 rw[h.N];unfold ahp at hv;split at hv
 . rename_i m e;rw[e,eq_of_beq hv]
 . cases hv
theorem Wa{env:Env}:∀{es:Ya},zc es=true->starEach es env=es.map λe=>(false,eval e env)
 |[],_=>rfl
 |e::r,h=>by
  simp only[zc,ao] at h;rw[km h.1,Wa h.2];rfl
def vd(h:zc es=true):(backTo pos (starEach es env)).any (·.1)=false:=by rw[Wa h];simp[backTo]
def Wb(h:zc es=true):(backTo pos (starEach es env)).all (λx=>!x.1)=true:=by rw[Wa h];simp[backTo]
set_option tactic.hygienic true in
def Ga(h:V9 o=true):attributeBase o n env (eval o env)=eval o env:=by
 cases o<;>try first|rfl|(cases h;done)
 rename_i f as kws p;cases f<;>first|rfl|(cases h)
def ahq(h:V9 o=true)(hs:zc es=true)(hl:es.length<29)(hp:(apos.endLine==pos.line)=true) :
 eval (.Call (.Attribute o m apos) es [] pos) env=(do
  let ov <- eval o env
  standAt apos.atName
  let (f,first) <- holding [ov] (getMethod ov m (do return (<- importBound o env).getD true))
  callWith pos f first (backTo pos (starEach es env)) (backToKw pos (keywordEach [] env))):=by
 have hf:methodCallForm (es.length+0) (backTo pos (starEach es env)) (backToKw pos (keywordEach [] env))=true:=by unfold methodCallForm;rw[Wb hs];simp[keywordEach,backToKw];exact b_ hl (by decide)
 show(do
  let ov <- attributeBase o m env (eval o env)
  standAt apos.atName
  methodCall o m apos pos env ov (es.length+0) (backTo pos (starEach es env)) (backToKw pos (keywordEach [] env)))=_
 rw[Ga h];unfold methodCall;rw[hf];have hq:methodCallPos true o env apos pos=pure pos:=by unfold methodCallPos;rw[hp];rfl
 rw[hq];simp only[calleeOf,ju,pure_bind]
noncomputable def Bk{α:Type}(o:Option α)(f:α->Bool):Bool:=match o with|some x=>f x|none=>false
def jk(h:Bk o f=true):∃x,o=some x/\f x=true:=by
 cases o with
 |none=>cases h|some x=>exact⟨x,rfl,h⟩
noncomputable def O3{α:Type}(l:List α):Option α:=match l with|[x]=>some x|_=>none
def Av(h:O3 l=some x):l=[x]:=by
 cases l with
 |nil=>cases h
 |cons y r=>cases r with
  |nil=>cases h;rfl|cons _ _=>cases h
def Wy{α:Type}{P:α->Prop}{o:Option {x // P x}}{q:α}(h:o.map Subtype.val=some q):P q:=by
 cases o with
 |none=>cases h|some x=>cases h;exact x.2
noncomputable def Kc(a:Expr):Option Str:=Option.map Subtype.val (α:={q:Str // ∃p,a=.Name q p}) (match a with|.Name n p=>some ⟨n,p,rfl⟩|_=>none)
noncomputable def ao3(a:Expr):Option Const:=Option.map Subtype.val (α:={q:Const // ∃k p,a=.Constant q k p}) (match a with|.Constant n k p=>some ⟨n,k,p,rfl⟩|_=>none)
noncomputable def a76(a:Expr):Option (Expr×Operator×Expr):=Option.map Subtype.val (α:={q:Expr×Operator×Expr // ∃p,a=.BinOp q.1 q.2.1 q.2.2 p}) (match a with|.BinOp l o r p=>some ⟨(l,o,r),p,rfl⟩|_=>none)
noncomputable def dUn(a:Expr):Option (UnaryOp×Expr):=Option.map Subtype.val (α:={q:UnaryOp×Expr // ∃p,a=.UnaryOp q.1 q.2 p}) (match a with|.UnaryOp o l p=>some ⟨(o,l),p,rfl⟩|_=>none)
noncomputable def aup(a:Expr):Option (Expr×List CmpOp×List Expr):=Option.map Subtype.val (α:={q:Expr×List CmpOp×List Expr // ∃p,a=.Compare q.1 q.2.1 q.2.2 p}) (match a with|.Compare l o r p=>some ⟨(l,o,r),p,rfl⟩|_=>none)
noncomputable def aws(a:Expr):Option (BoolOp×List Expr×Pos):=Option.map Subtype.val (α:={q:BoolOp×List Expr×Pos // a=.BoolOp q.1 q.2.1 q.2.2}) (match a with|.BoolOp o l p=>some ⟨(o,l,p),rfl⟩|_=>none)
noncomputable def a0q(a:Expr):Option (Expr×Expr×Expr):=Option.map Subtype.val (α:={q:Expr×Expr×Expr // ∃p,a=.IfExp q.1 q.2.1 q.2.2 p}) (match a with|.IfExp t l r p=>some ⟨(t,l,r),p,rfl⟩|_=>none)
noncomputable def ade(a:Expr):Option (List Expr):=Option.map Subtype.val (α:={q:List Expr // ∃k p,a=.Tuple q k p}) (match a with|.Tuple l k p=>some ⟨l,k,p,rfl⟩|_=>none)
noncomputable def a0r(a:Expr):Option (List Expr):=Option.map Subtype.val (α:={q:List Expr // ∃p,a=.List q p}) (match a with|.List l p=>some ⟨l,p,rfl⟩|_=>none)
noncomputable def a0s(a:Expr):Option (List (Option Expr)×List Expr):=Option.map Subtype.val (α:={q:List (Option Expr)×List Expr // ∃p,a=.Dict q.1 q.2 p}) (match a with|.Dict k v p=>some ⟨(k,v),p,rfl⟩|_=>none)
noncomputable def ao4(a:Expr):Option (Expr×Expr):=Option.map Subtype.val (α:={q:Expr×Expr // ∃p,a=.Subscript q.1 q.2 p}) (match a with|.Subscript l r p=>some ⟨(l,r),p,rfl⟩|_=>none)
noncomputable def dSl(a:Expr):Option (Option Expr×Option Expr×Option Expr):=Option.map Subtype.val (α:={q:Option Expr×Option Expr×Option Expr // ∃p,a=.Slice q.1 q.2.1 q.2.2 p}) (match a with|.Slice l r s p=>some ⟨(l,r,s),p,rfl⟩|_=>none)
noncomputable def ao5(a:Expr):Option (Expr×List Expr×List Keyword×Pos):=Option.map Subtype.val (α:={q:Expr×List Expr×List Keyword×Pos // a=.Call q.1 q.2.1 q.2.2.1 q.2.2.2}) (match a with|.Call f l k p=>some ⟨(f,l,k,p),rfl⟩|_=>none)
noncomputable def ao6(a:Expr):Option (Expr×Str×Pos):=Option.map Subtype.val (α:={q:Expr×Str×Pos // a=.Attribute q.1 q.2.1 q.2.2}) (match a with|.Attribute l n p=>some ⟨(l,n,p),rfl⟩|_=>none)
noncomputable def adf(a:Expr):Option (Expr×List Comprehension×Scope):=Option.map Subtype.val (α:={q:Expr×List Comprehension×Scope // ∃p,a=.ListComp q.1 q.2.1 q.2.2 p}) (match a with|.ListComp e g s p=>some ⟨(e,g,s),p,rfl⟩|_=>none)
def Et(h:Kc a=some n):∃p,a=.Name n p:=(Wy h :)
def Uq(h:ao3 a=some n):∃k p,a=.Constant n k p:=(Wy h :)
def auq(h:a76 a=some (l,o,r)):∃p,a=.BinOp l o r p:=(Wy h :)
def ao7(h:dUn a=some (o,l)):∃p,a=.UnaryOp o l p:=(Wy h :)
def aao(h:aup a=some (l,o,r)):∃p,a=.Compare l o r p:=(Wy h :)
def ao8(h:aws a=some (o,r,p)):a=.BoolOp o r p:=(Wy h :)
def aur(h:a0q a=some (t,l,r)):∃p,a=.IfExp t l r p:=(Wy h :)
def Nr(h:ade a=some l):∃k p,a=.Tuple l k p:=(Wy h :)
def ahr(h:a0r a=some l):∃p,a=.List l p:=(Wy h :)
def ahs(h:a0s a=some (k,l)):∃p,a=.Dict k l p:=(Wy h :)
def aap(h:ao4 a=some (l,r)):∃p,a=.Subscript l r p:=(Wy h :)
def a0t(h:dSl a=some (l,r,s)):∃p,a=.Slice l r s p:=(Wy h :)
def adg(h:ao5 a=some (f,l,k,p)):a=.Call f l k p:=(Wy h :)
def aaq(h:ao6 a=some (l,n,p)):a=.Attribute l n p:=(Wy h :)
def Wc(h:adf a=some (e,g,s)):∃p,a=.ListComp e g s p:=(Wy h :)
noncomputable def dCN(a:Expr):Option (Str×List Expr):=(ao5 a).bind λq=>if q.2.2.1.isEmpty then(Kc q.1).map λn=>(n,q.2.1) else none
set_option tactic.hygienic true in
def Fv(h:dCN a=some (n,l)):∃p p',a=.Call (.Name n p) l [] p':=by
 obtain⟨⟨f,l',k,p⟩,h1,h2⟩:=dm.mp h;split at h2
 . rename_i hk
   obtain⟨n',h3,h4⟩:=bz.mp h2;obtain⟨p',e⟩:=Et h3;have e:f=_:=e;have hk:k=[]:=tu.mp hk;cases h4;exact⟨p',p,by rw[adg h1,e,hk]⟩
 . cases h2
noncomputable def dCA(a:Expr):Option (Expr×Str×Pos×List Expr×Pos):=(ao5 a).bind λq=>if q.2.2.1.isEmpty then(ao6 q.1).map λn=>(n.1,n.2.1,n.2.2,q.2.1,q.2.2.2) else none
set_option tactic.hygienic true in
def ao9(h:dCA a=some (o,n,ap,l,p)):a=.Call (.Attribute o n ap) l [] p:=by
 obtain⟨⟨f,l',k,p'⟩,h1,h2⟩:=dm.mp h;split at h2
 . rename_i hk
   obtain⟨⟨o',n',ap'⟩,h3,h4⟩:=bz.mp h2;have e:f=_:=aaq h3;have hk:k=[]:=tu.mp hk;cases h4;rw[adg h1,e,hk]
 . cases h2
noncomputable def a77(l:Ya):List Str:=l.filterMap Kc
noncomputable def Dh(e:Expr):List Str:=match ade e with|some l=>a77 l|none=>a77 [e]
noncomputable def hid(i:Nat):Str:=⟨#[0,i]⟩
noncomputable def aj6(ts:Yf)(p:Str×Nat):Str:=if ts.contains p.1=true then hid p.2 else p.1
noncomputable def T9(N ts:Yf):List Str:=N.zipIdx.map (aj6 ts)++ts
noncomputable def aus(c:Ctx)(names:X0):List (Str×NameKind):=names.map λy=>if(y.2==NameKind.free&&c.sc.lookup y.1==some .cell) then(y.1,NameKind.cell) else(y.1,y.2)
noncomputable def adh(c:Ctx)(sc:Scope)(ts:Yf):Ctx:=⟨T9 c.N ts,aus c sc.names,false,(sc.names.filter λy=>y.2==NameKind.cell).map (·.1)⟩
noncomputable def a0u(c:Ctx)(sc:Scope)(ts:Yf):Bool :=
 decide (sc.kind=.function)&&(sc.names.all (λy=>sc.names.lookup y.1==some y.2) &&
 (sc.names.all (λy=>!(y.2==NameKind.free)||(c.sc.lookup y.1==some .cell||c.sc.lookup y.1==some .free))&&(decide ((T9 c.N ts).Nodup) &&
 c.N.zipIdx.all (λp=>!(aj5 (adh c sc ts) (aj6 ts p))||(aj6 ts p==p.1&&sc.names.lookup (aj6 ts p)==some .free)))))
noncomputable def a78:Op2->Operator
 |.add=>.Add|.ais=>.Add|.sub=>.Sub|.mul=>.Mult|.fdiv=>.FloorDiv|.mod=>.Mod|.pow=>.Pow
noncomputable def aut:Cp->Option CmpOp
 |.eq=>some .Eq|.ne=>some .NotEq|.lt=>some .Lt|.le=>some .LtE|.gt=>some .Gt|.ge=>some .GtE|.inn=>some .In|.O7=>some .NotIn
noncomputable def a0v:Blt->Option Str
 |.len=>some "len"|.tuple=>some "tuple"|.dict=>some "dict"|.max=>some "max"|.min=>some "min"
 |.all=>some "all"|_=>none
noncomputable def bmN:Bm->Option Str
 |.append=>some "append"|.extend=>some "extend"|.index=>some "index"|.get=>some "get"
noncomputable def a0w(T:Tab)(c:Ctx)(d:MW.D)(a:Expr):Bool :=
 match d with
 |.int i=>Bk (ao3 a) (λk=>decide (k=.int i))||Bk (Kc a) λn=>Qs c n&&T.auo.contains (n,i)
 |.bl i=>Bk (ao3 a) λk=>decide (k=.bool i)
 |.non=>Bk (ao3 a) λk=>decide (k=.none)
 |.str s=>Bk (ao3 a) λk=>decide (k=.str s)
 |_=>false
noncomputable def tg1(c:Ctx)(lo i:Nat)(e:Expr):Bool:=Bk (Kc e) λn=>ahp c i n&&(a0n c n&&decide (lo<=i))
noncomputable def aj7(c:Ctx)(lo:Nat):List Nat->List Expr->Bool
 |[],[]=>true|i::is,e::ts=>tg1 c lo i e&&aj7 c lo is ts|_,_=>false
noncomputable def tgB(c:Ctx)(lo:Nat)(t:Tg)(e:Expr):Bool :=
 match t with
 |.name i=>tg1 c lo i e|.names is=>Bk (ade e) λts=>aj7 c lo is ts
noncomputable def Ql(e:Expr):Bool:=(a0q e).isNone
noncomputable def fnB(l:List (Option (Str×Nat)))(f:Nat)(n:Str)(k:Nat):Bool:=decide (l[f]?=some (some (n,k)))
noncomputable def mtB(l:List (Str×Nat))(f:Nat)(n:Str)(k:Nat):Bool:=decide (l[f]?=some (n,k))
noncomputable def flB(l:Yf)(f:Nat)(n:Str):Bool:=decide (l[f]?=some n)
noncomputable def ahu(c:Ctx)(k:Nat)(t:Tg)(g:Comprehension)(sc:Scope):Bool :=
 a0u c sc (Dh g.target)&&((k==(Dh g.target).length)&&(tgB (adh c sc (Dh g.target)) c.N.length t g.target&&(Fw g.iter&&decide (g.is_async=0))))
noncomputable def apa(o:BoolOp)(a:Expr)(x y:Expr->Bool):Bool :=
 Bk (aws a) λq=>decide (q.1=o)&&(match q.2.1 with
  |l::r::rest=>(Ql l&&x l)&&(match rest with|[]=>Ql r&&y r|_::_=>y (.BoolOp o (r::rest) q.2.2))
  | _=>false)
noncomputable def apb(c:Ctx)(ty:Str)(a:Expr)(f:Expr->Bool):Bool:=Bk (dCN a) λq=>match q.2 with
 |[l,t]=>Bk (Kc t) λtn=>(decide (q.1 = "isinstance")&&decide (tn=ty))&&((Qs c q.1&&Qs c tn)&&(noStar l&&f l))
 |_=>false
noncomputable def a0x(c:Ctx)(a:Expr)(f:Expr->Bool):Bool:=Bk (dCN a) λq=>match q.2 with
 |[l,t]=>Bk (ade t) λtl=>match tl with
  |[u,v]=>Bk (Kc u) λn1=>Bk (Kc v) λn2=>(decide (q.1 = "isinstance")&&(decide (n1 = "tuple")&&decide (n2 = "list")))&&((Qs c q.1&&(Qs c n1&&Qs c n2))&&(noStar l&&f l))
  |_=>false
 |_=>false
def auu(h:apb c ty a f=true):∃l p p1 p2,a=.Call (.Name "isinstance" p) [l,.Name ty p1] [] p2/\Qs c "isinstance" = true/\Qs c ty=true/\noStar l=true/\f l=true:=by
 obtain⟨⟨n,ls⟩,h1,h0⟩:=jk h;clear h;obtain⟨p,p',rfl⟩:=Fv h1
 match ls,h1,h0 with
 |[l,t],h1,h =>
  replace h:=jk (f:=λtn=>(decide (n = "isinstance")&&decide (tn=ty))&&((Qs c n&&Qs c tn)&&(noStar l&&f l))) h;obtain⟨tn,h2,h⟩:=h;obtain⟨p2,rfl⟩:=Et h2;simp only[ao,dg] at h;obtain⟨⟨rfl,rfl⟩,⟨h3,h4⟩,h5,h6⟩:=h;exact⟨l,p,p2,p',rfl,h3,h4,h5,h6⟩
 |[],_,h=>cases h|[_],_,h=>cases h|_::_::_::_,_,h=>cases h
def auv(h:a0x c a f=true):∃l p p1 p2 p3 k p4,a=.Call (.Name "isinstance" p) [l,.Tuple [.Name "tuple" p1,.Name "list" p2] k p3] [] p4/\Qs c "isinstance" = true/\Qs c "tuple" = true/\Qs c "list" = true/\noStar l=true/\f l=true:=by
 obtain⟨⟨n,ls⟩,h1,h0⟩:=jk h;clear h;obtain⟨p,p',rfl⟩:=Fv h1
 match ls,h1,h0 with
 |[l,t],h1,h =>
  replace h:=jk (o:=ade t) h;obtain⟨tl,h2,h⟩:=h;obtain⟨k,p3,rfl⟩:=Nr h2
  match tl,h2,h with
  |[u,v],h2,h =>
   replace h:=jk (o:=Kc u) h;obtain⟨n1,h7,h⟩:=h;replace h:=jk (o:=Kc v) h;obtain⟨n2,h8,h⟩:=h;obtain⟨q1,rfl⟩:=Et h7;obtain⟨q2,rfl⟩:=Et h8;simp only[ao,dg] at h;obtain⟨⟨rfl,rfl,rfl⟩,⟨h3,h4,h9⟩,h5,h6⟩:=h;exact⟨l,p,q1,q2,p3,k,p',rfl,h3,h4,h9,h5,h6⟩
  |[],_,h=>cases h|[_],_,h=>cases h|_::_::_::_,_,h=>cases h
 |[],_,h=>cases h|[_],_,h=>cases h|_::_::_::_,_,h=>cases h
noncomputable def apc(c:Ctx)(ty tn:Str)(a:Expr)(f:Expr->Bool):Bool:=Bk (dCN a) λq=>Bk (O3 q.2) λr=>Bk (dCN r) λu=>Bk (O3 u.2) λl=>((decide (q.1=ty)&&decide (u.1=tn))&&(Qs c q.1&&Qs c u.1))&&(noStar l&&f l)
def aar(h:apc c ty tn a f=true):∃l p p1 p2 p3,a=.Call (.Name ty p) [.Call (.Name tn p1) [l] [] p2] [] p3/\Qs c ty=true/\Qs c tn=true/\noStar l=true/\f l=true:=by replace h:=jk h;obtain⟨⟨n,ls⟩,h1,h⟩:=h;obtain⟨p,p',rfl⟩:=Fv h1;replace h:=jk h;obtain⟨r,h2,h⟩:=h;cases Av h2;replace h:=jk h;obtain⟨⟨m,ms⟩,h3,h⟩:=h;obtain⟨p2,q2,rfl⟩:=Fv h3;replace h:=jk h;obtain⟨l,h4,h⟩:=h;cases Av h4;simp only[ao,dg] at h;obtain⟨⟨⟨rfl,rfl⟩,h5,h6⟩,h7,h8⟩:=h;exact⟨l,p,p2,q2,p',rfl,h5,h6,h7,h8⟩
mutual
noncomputable def za(T:Tab):Ex->Ctx->Expr->Bool
 |.var i,c,a=>Bk (Kc a) λn=>ahp c i n&&(aj5 c n&&V8 n)
 |.cst d,c,a=>a0w T c d a|.bin op x y,c,a=>Bk (a76 a) λq=>decide (q.2.1=a78 op)&&(za T x c q.1&&za T y c q.2.2)
 |.neg x,c,a=>Bk (dUn a) λq=>decide (q.1=.USub)&&za T x c q.2
 |.cmp op x y,c,a=>Bk (aup a) λq=>Bk (O3 q.2.1) λo=>Bk (O3 q.2.2) λr=>decide (aut op=some o)&&(Fw r&&(za T x c q.1&&za T y c r))
 |.chain o1 o2 x y z,c,a=>Bk (aup a) λq=>match q.2.1,q.2.2 with
  |[p1,p2],[r,s]=>(decide (aut o1=some p1)&&decide (aut o2=some p2))&&(Fw s&&(za T x c q.1&&(za T y c r&&za T z c s)))|_,_=>false
 |.and x y,c,a=>apa .And a (za T x c) (za T y c)|.or x y,c,a=>apa .Or a (za T x c) (za T y c)|.not x,c,a=>Bk (dUn a) λq=>decide (q.1=.Not)&&(Ql q.2&&za T x c q.2)
 |.ite t x y,c,a=>Bk (a0q a) λq=>Ql q.1&&(za T t c q.1&&(za T x c q.2.1&&za T y c q.2.2))
 |.tup es,c,a=>Bk (ade a) λl=>decide (Bs.len es<=1000)&&Hc T es c l
 |.lst es,c,a=>Bk (a0r a) λl=>decide (Bs.len es<=1000)&&Hc T es c l
 |.Fz es,c,a=>Bk (a0r a) λl=>decide (Bs.len es<=1000)&&Hc T es c l
 |.aa9,_,a=>Bk (a0s a) λq=>q.1.isEmpty&&q.2.isEmpty
 |.aek,_,a=>Bk (a0s a) λq=>q.1.isEmpty&&q.2.isEmpty
 |.ix x y,c,a=>Bk (ao4 a) λq=>aag q.2&&(za T x c q.1&&za T y c q.2)
 |.cut x lo hi,c,a=>Bk (ao4 a) λq=>Bk (dSl q.2) λs=>s.2.2.isNone&&(za T x c q.1&&(a0y T lo c s.1&&a0y T hi c s.2.1))
 |.call f es,c,a=>Bk (dCN a) λq=>(fnB T.fns f q.1 (Bs.len es)&&(Qs c q.1&&!q.2.isEmpty))&&Hc T es c q.2
 |.make f es,c,a=>Bk (dCN a) λq=>(fnB T.cls f q.1 (Bs.len es)&&(Qs c q.1&&!q.2.isEmpty))&&Hc T es c q.2
 |.meth o m es,c,a=>Bk (dCA a) λq=>((mtB T.mts m q.2.1 (Bs.len es)&&V9 q.1)&&(decide (q.2.2.2.1.length<29)&&(q.2.2.1.endLine==q.2.2.2.2.line)))&&(za T o c q.1&&Hc T es c q.2.2.2.1)
 |.fld o f,c,a=>Bk (ao6 a) λq=>(flB T.O2 f q.2.1&&V9 q.1)&&za T o c q.1
 |.blt .Ce (.cons x .nil),c,a=>apc c "sorted" "set" a (za T x c)|.blt .isTuple (.cons x .nil),c,a=>apb c "tuple" a (za T x c)|.blt .isList (.cons x .nil),c,a=>apb c "list" a (za T x c)|.blt .isBool (.cons x .nil),c,a=>apb c "bool" a (za T x c)|.blt .isSeq (.cons x .nil),c,a=>a0x c a (za T x c)|.blt b es,c,a=>Bk (dCN a) λq=>(decide (a0v b=some q.1)&&(Qs c q.1&&!q.2.isEmpty))&&Hc T es c q.2
 |.bm m o es,c,a=>Bk (dCA a) λq=>((decide (bmN m=some q.2.1)&&V9 q.1)&&(decide (q.2.2.2.1.length<29)&&((q.2.2.1.endLine==q.2.2.2.2.line)&&!q.2.2.2.1.isEmpty)))&&(za T o c q.1&&Hc T es c q.2.2.2.1)
 |.comp v k t it e,c,a=>Bk (adf a) λq=>Bk (O3 q.2.1) λg=>(ahu c k t g q.2.2&&g.ifs.isEmpty)&&(auw T it c g.target g.iter&&za T e (adh c q.2.2 (Dh g.target)) q.1)
 |.Ax v k t it i e,c,a=>Bk (adf a) λq=>Bk (O3 q.2.1) λg=>Bk (O3 g.ifs) λd=>(ahu c k t g q.2.2&&Ql d)&&(auw T it c g.target g.iter&&(za T i (adh c q.2.2 (Dh g.target)) d&&za T e (adh c q.2.2 (Dh g.target)) q.1))
 |.U6 x y,c,a=>Bk (aup a) λq=>Bk (O3 q.2.1) λo=>Bk (O3 q.2.2) λr=>Bk (dCN q.1) λu=>Bk (dCN r) λv=>Bk (O3 u.2) λl=>Bk (O3 v.2) λm =>
  ((decide (o=.NotEq)&&decide (u.1 = "set"))&&(decide (v.1 = "set")&&Qs c u.1))&&((noStar l&&noStar m)&&(za T x c l&&za T y c m))
 |.aem x,c,a=>apc c "tuple" "range" a (za T x c)|.aen x,c,a=>apc c "list" "range" a (za T x c)
noncomputable def Hc(T:Tab):Bs->Ctx->List Expr->Bool
 |.nil,_,a=>a.isEmpty|.cons e es,c,a=>match a with|l::ls=>noStar l&&(za T e c l&&Hc T es c ls)|_=>false
noncomputable def a0y(T:Tab):OEx->Ctx->Option Expr->Bool
 |.none,_,a=>a.isNone|.some e,c,a=>Bk a (za T e c)
noncomputable def auw(T:Tab):Og->Ctx->Expr->Expr->Bool
 |.val e,c,_,a=>za T e c a|.Jz e,c,_,a=>Bk (dCN a) λq=>Bk (O3 q.2) λl=>(decide (q.1 = "range")&&Qs c q.1)&&(noStar l&&za T e c l)
 |.enm e,c,tg,a=>Bk (dCN a) λq=>Bk (O3 q.2) λl=>((ade tg).isSome&&(decide (q.1 = "enumerate")&&Qs c q.1))&&(noStar l&&za T e c l)
 |.zip es,c,tg,a=>Bk (dCN a) λq=>((ade tg).isSome&&(decide (q.1 = "zip")&&(Qs c q.1&&!q.2.isEmpty)))&&(decide (Bs.len es=2\/Bs.len es=3)&&Hc T es c q.2)
end
def Ob(h:Dl T nm W k c X)(sc:Scope):(relabel sc X.env).names=aus c sc.names:=by
 unfold relabel aus;refine qb λy _=>?_
 obtain⟨n,kd⟩:=y;show(if(kd==NameKind.free&&X.env.scope.kind==.function&&X.env.kindOf n==some .cell)=true then _ else _)=_;have e:(kd==NameKind.free&&X.env.scope.kind==.function&&X.env.kindOf n==some .cell)=(kd==NameKind.free&&c.sc.lookup n==some .cell):=by unfold Env.kindOf;rw[h.kd,h.sc];simp
 rw[e]
def a0z(h:Dl T nm W k c X)(hb:a0u c sc ts=true):Dn X (T9 c.N ts) sc/\∀C fp s H,Dl T nm W k (adh c sc ts) (Ko X (T9 c.N ts) sc C fp s H):=by
 simp only[a0u,ao,dg,ik] at hb;obtain⟨h1,h3,h4,h5,h6⟩:=hb;have uniq:∀x kd,(x,kd)∈sc.names->sc.names.lookup x=some kd:=λx kd m=>by have:=h3 (x,kd) m;simpa using this
 refine⟨⟨h1,λy m e=>by rw[uniq y.1 y.2 m,e],λy m e=>?_,uniq,?_,λi x hi hx hv=>?_⟩,λC fp s H=>⟨rfl,h5,Ob h sc,h1,h.calm,h.room,(λz=>by cases z),h.tab,λn m=>?_⟩⟩
 . have:=h4 y m
   rw[e] at this;unfold Env.kindOf;rw[h.sc];simpa using this
 . rw[h.N];simp[T9]
 . rw[h.N] at hi
   have hl:i<(c.N.zipIdx.map (aj6 ts)).length:=by simpa using hi
   unfold T9 at hx;rw[dz hl,iz,xx] at hx;obtain⟨n,hn⟩:∃n,c.N[i]?=some n:=⟨c.N[i],by simp[hi]⟩;rw[hn] at hx;have hx:aj6 ts (n,i)=x:=by simpa using hx
   have m:(n,i)∈c.N.zipIdx:=by rw[vm];exact⟨i,by rw[xx,hn];simp⟩
   have q:=h6 (n,i) m;rw[hx] at q;have v:aj5 (adh c sc ts) x=true:=by unfold Vis at hv;rw[Ob h] at hv;unfold aj5;show(match(aus c sc.names).lookup x with|some .local=>true|some .cell=>true|some .free=>true|_=>false)=true;rcases hv with e|e|e<;>rw[e]
   rw[v] at q;simp only[qj,Bool.false_or,ao] at q;rw[h.N,hn];have e1:x=n:=eq_of_beq q.1;exact⟨by rw[e1],by have:=q.2;simpa using this⟩
 . obtain⟨y,hy,rfl⟩:=bf.mp (List.contains_iff_mem.mp m)
   obtain⟨h7,h8⟩:=kj.mp hy;show(sc.names.lookup y.1==some .cell)=true;rw[uniq y.1 y.2 h7,eq_of_beq h8];rfl
def a79(h:o=a78 op):Ca X (binaryOp o) (rOp nm X.K (MW.Ey op)):=by
 subst h;cases op with
 |add=>exact a6w|ais=>exact a0l|sub=>exact a6s|mul=>exact a6v|fdiv=>exact azt|mod=>exact a6t|pow=>exact a6u
def apd(hr:zm 8 X.A)(h:aut op=some o):Ca X (compareOp o) (Wx nm X.K op):=by
 have h6:zm 6 X.A:=hr.mono (by decide);cases op with
 |eq=>cases h;exact bde h6|ne=>cases h;exact bdf h6|lt=>cases h;exact bc1|le=>cases h;exact bc2|gt=>cases h;exact bc3|ge=>cases h;exact bc4|inn=>cases h;exact bdg hr|O7=>cases h;exact atl hr
def afp(h:Dl T nm W k c X)(hb:tg1 c lo i e=true):∃n p,e=.Name n p/\X.N[i]?=some n/\L2.Loc X.env.scope n/\(X.fn n=true\/X.env.scope.names.lookup n=some .local)/\lo<=i:=by obtain⟨n,h1,h2⟩:=jk hb;obtain⟨p,rfl⟩:=Et h1;simp only[ao,dg] at h2;obtain⟨l1,l2⟩:=a0p h h2.2.1;exact⟨n,p,rfl,slot_of h h2.1,l1,l2,h2.2.2⟩
theorem ape{T:Tab}{nm:Nm}{W:Ib}{k:Nat}{c:Ctx}{X:Cx}(h:Dl T nm W k c X){lo:Nat}:∀{is:Y3}{ts:Ya},aj7 c lo is ts=true->Jr X ts is/\∀i∈is,lo<=i
 |[],[],_=>⟨.nil,by simp⟩|[],_::_,e=>by cases e|_::_,[],e=>by cases e
 |i::is,a::ts,e=>by
  unfold aj7 at e;rw[ao] at e;obtain⟨n,p,rfl,e1,e2,e3,e4⟩:=afp h e.1;obtain⟨g1,g2⟩:=ape h e.2;refine⟨.cons e1 e2 e3 g1,λj hj=>?_⟩;rcases bx.mp hj with z|z
  . rw[z];exact e4
  . exact g2 j z
def ahv(h:Dl T nm W k c X)(hb:tgB c lo t e=true):PG X e (tGt nm X.K t)/\∀i∈Ba t,lo<=i:=by
 have nd:X.N.Nodup:=by rw[h.N];exact h.nd
 cases t with
 |name i =>
  obtain⟨n,p,rfl,e1,e2,e3,e4⟩:=afp h hb;exact⟨azy nd e1 e2 e3,λi hi=>by rw[q9.mp hi];exact e4⟩
 |names is =>
  obtain⟨ts,h1,h2⟩:=jk hb;obtain⟨k0,p,rfl⟩:=Nr h1;obtain⟨g1,g2⟩:=ape h h2;exact⟨ath h.calm nd g1,g2⟩
structure Got(nm:Nm)(W:Ib)(X:Cx)(a:Expr)(e:Ex):Prop where
 v:PE X a (tE nm W X.K e)
 q:Ql a=true->PT X a (tQ nm W X.K e)
 w:∀op ls p,a=.BoolOp op ls p->PW X a (tQ nm W X.K e)
noncomputable def a8a:Expr->Bool
 |.BoolOp ..=>false|.UnaryOp .Not _ _=>false|.IfExp ..=>false|.Compare ..=>false|_=>true
set_option tactic.hygienic true in
def v7(h:PE X a (tE nm W X.K e))(hv:a8a a=true):Got nm W X a e:=by
 refine⟨h,λhq=>a6x h λwhole=>?_,λop ls p z=>by subst z;cases hv⟩;cases a<;>first|rfl|(cases hv)|skip
 rename_i op x p;cases op<;>first|rfl|cases hv
def a00(h:Dl T nm W k c X)(hb:a0w T c d a=true):PE X a (tE nm W X.K (.cst d))/\a8a a=true:=by
 cases d with
 |int i =>
  simp only[a0w,Bool.or_eq_true] at hb;rcases hb with hb|hb
  . obtain⟨k,h1,h2⟩:=jk hb
    obtain⟨j,p,rfl⟩:=Uq h1;rw[j4 h2];exact⟨a6o,rfl⟩
  . obtain⟨n,h1,h2⟩:=jk hb
    obtain⟨p,rfl⟩:=Et h1;rw[ao] at h2;obtain⟨g1,g2⟩:=Dg h h2.1;obtain⟨t,ht⟩:=h.tab.cs _ _ (List.contains_iff_mem.mp h2.2);exact⟨azs g1 ht (rz g2).1,rfl⟩
 |bl i =>
  obtain⟨k,h1,h2⟩:=jk hb;obtain⟨j,p,rfl⟩:=Uq h1;rw[j4 h2];exact⟨bcz,rfl⟩
 |non =>
  obtain⟨k,h1,h2⟩:=jk hb;obtain⟨j,p,rfl⟩:=Uq h1;rw[j4 h2];exact⟨a6p,rfl⟩
 |str s =>
  obtain⟨k,h1,h2⟩:=jk hb;obtain⟨j,p,rfl⟩:=Uq h1;rw[j4 h2];exact⟨a6q,rfl⟩
 |_=>cases hb
section
variable{T:Tab}{nm:Nm}{W:Ib}{k:Nat}
def Dl.r8(h:Dl T nm W k c X):zm 8 X.A:=h.room.mono (by lia)
theorem Dl.mg(h:Dl T nm W k c X)(m:n∈Mx):X.mg n=none:=h.tab.bt n m
def aj8(h:Hc T es c []=true):es=.nil:=by
 cases es with
 |nil=>rfl|cons e es=>simp[Hc] at h
theorem Tu{c:Ctx}{lo:Nat}:∀{is:Y3}{ts:Ya},aj7 c lo is ts=true->∀i∈is,lo<=i
 |[],_,_=>by simp|_::_,[],e=>by cases e
 |i::is,a::ts,e=>by
  unfold aj7 at e;rw[ao] at e;intro j hj;rcases bx.mp hj with z|z
  . obtain⟨n,h1,h2⟩:=jk e.1
    simp only[ao,dg] at h2;rw[z];exact h2.2.2
  . exact Tu e.2 j z
def afq(h:tgB c lo t e=true):∀i∈Ba t,lo<=i:=by
 cases t with
 |name j =>
  obtain⟨n,h1,h2⟩:=jk h;simp only[ao,dg] at h2;intro i hi;rw[q9.mp hi];exact h2.2.2
 |names is =>
  obtain⟨ts,h1,h2⟩:=jk h;exact Tu h2
def apf:(T9 N ts).length-N.length=ts.length:=by simp[T9]
def Qm(hc:Dl T nm W k c X)(h:ahu c j t g sc=true) :
 Fw g.iter=true/\g.is_async=0/\Dn X (T9 c.N (Dh g.target)) sc/\(∀C fp s H,Dl T nm W k (adh c sc (Dh g.target)) (Ko X (T9 c.N (Dh g.target)) sc C fp s H)) /\
 (∀C fp s H,PG (Ko X (T9 c.N (Dh g.target)) sc C fp s H) g.target (tGt nm X.K t))/\(T9 c.N (Dh g.target)).length-X.N.length=j/\∀i∈Ba t,X.N.length<=i:=by
 simp only[ahu,ao,dg] at h;obtain⟨h2,h3,h4,h5,h6⟩:=h;obtain⟨B,hB⟩:=a0z hc h2;exact⟨h5,h6,B,hB,λC fp s H=>(ahv (hB C fp s H) h4).1,by rw[hc.N,apf];exact(eq_of_beq h3).symm,λi hi=>by rw[hc.N];exact afq h4 i hi⟩
def ahw(h:apa o a x y=true):(∃l r p,a=.BoolOp o [l,r] p/\Ql l=true/\x l=true/\Ql r=true/\y r=true) \/
 ∃l r s rest p,a=.BoolOp o (l::r::s::rest) p/\Ql l=true/\x l=true/\y (.BoolOp o (r::s::rest) p)=true:=by
 obtain⟨⟨o',ls,p⟩,h1,h2⟩:=jk h;cases ao8 h1;rw[ao] at h2;obtain⟨h3,h2⟩:=h2;cases j4 h3;cases ls with
 |nil=>cases h2
 |cons l ls=>cases ls with
  |nil=>cases h2
  |cons r rest =>
   cases rest with
   |nil =>
    have h2:((Ql l&&x l)&&(Ql r&&y r))=true:=h2;simp only[ao] at h2;exact .inl ⟨l,r,p,rfl,h2.1.1,h2.1.2,h2.2.1,h2.2.2⟩
   |cons s rest =>
    have h2:((Ql l&&x l)&&y (.BoolOp o' (r::s::rest) p))=true:=h2;simp only[ao] at h2;exact .inr ⟨l,r,s,rest,p,rfl,h2.1.1,h2.1.2,h2.2⟩
def a01(hc:Dl T nm W k c X)(hb:a0v b=some n)(hg:Qs c n=true)(e1:PA X (l::ls) (Vq nm W X.K es))(e2:zc (l::ls)=true):PE X (.Call (.Name n p) (l::ls) [] p') (tE nm W X.K (.blt b es)):=by
 obtain⟨g1,g2⟩:=Dg hc hg;obtain⟨d1,d2,d3⟩:=rz g2;simp only[zc,ao] at e2;have st:=km e2.1 ls X.env;have an:=vd (env:=X.env) (pos:=p') e2.2;have mg:n∈Mx->X.mg n=none:=hc.mg;cases b with
 |len=>cases hb;exact ahb (id := "len") a7o g1 (mg (by decide+kernel)) (by decide+kernel) e1 d3 d1 st an|max=>cases hb;exact ahb (id := "max") (a7v hc.calm) g1 (mg (by decide+kernel)) (by decide+kernel) e1 d3 d1 st an|all=>cases hb;exact ahb (id := "all") (a74 hc.calm) g1 (mg (by decide+kernel)) (by decide+kernel) e1 d3 d1 st an|min=>cases hb;exact ahb (id := "min") (a7y hc.calm) g1 (mg (by decide+kernel)) (by decide+kernel) e1 d3 d1 st an|tuple=>cases hb;exact aok (T := "tuple") atk g1 (mg (by decide+kernel)) (by decide+kernel) e1 d3 d1 st an|dict=>cases hb;exact aok (T := "dict") a0g g1 (mg (by decide+kernel)) (by decide+kernel) e1 d3 d1 st an|_=>cases hb
def Wd{α:Type}{l:List α}(h:(!l.isEmpty)=true):∃x r,l=x::r:=by
 cases l with
 |nil=>cases h|cons x r=>exact⟨x,r,rfl⟩
set_option maxHeartbeats 2000000 in
set_option tactic.hygienic true in
mutual
theorem jm:∀(e:Ex){c:Ctx}{X:Cx}{a:Expr},Dl T nm W k c X->za T e c a=true->Got nm W X a e
 |.var i,c,X,a,hc,h=>by
  replace h:=jk h;obtain⟨n,h1,h⟩:=h;obtain⟨p,rfl⟩:=Et h1;simp only[ao] at h;exact v7 (a6n (slot_of hc h.1) (a0o hc h.2.1) (rz h.2.2).1 (rz h.2.2).2.1) rfl
 |.cst d,c,X,a,hc,h=>by
  obtain⟨h1,h2⟩:=a00 hc h;exact v7 h1 h2
 |.bin op x y,c,X,a,hc,h=>by
  replace h:=jk h;obtain⟨⟨l,o,r⟩,h1,h⟩:=h;obtain⟨p,rfl⟩:=auq h1;simp only[ao,dg] at h;exact v7 (a6r (a79 h.1) (jm x hc h.2.1).v (jm y hc h.2.2).v) rfl
 |.neg x,c,X,a,hc,h=>by
  replace h:=jk h;obtain⟨⟨o,l⟩,h1,h⟩:=h;obtain⟨p,rfl⟩:=ao7 h1;simp only[ao,dg] at h;obtain⟨rfl,h⟩:=h;exact v7 (a7c (jm x hc h).v) rfl
 |.cmp op x y,c,X,a,hc,h=>by
  replace h:=jk h;obtain⟨⟨l,o,r⟩,h1,h⟩:=h;obtain⟨p,rfl⟩:=aao h1;replace h:=jk h;obtain⟨o1,h2,h⟩:=h;replace h:=jk h;obtain⟨r1,h3,h⟩:=h;cases Av h2;cases Av h3;simp only[ao,dg] at h;have g:=apd (nm:=nm) hc.r8 h.1;have m:=Tp h.2.1 o1;exact⟨a6y g (jm x hc h.2.2.1).v (jm y hc h.2.2.2).v m,λ_=>a6z g (jm x hc h.2.2.1).v (jm y hc h.2.2.2).v m,λ_ _ _ z=>by cases z⟩
 |.chain o1 o2 x y z,c,X,a,hc,h=>by
  replace h:=jk h;obtain⟨⟨l,o,r⟩,h1,h⟩:=h;obtain⟨p,rfl⟩:=aao h1;dsimp only at h;split at h
  . rename_i p1 p2 r s
    simp only[ao,dg] at h;have g1:=apd (nm:=nm) hc.r8 h.1.1;have g2:=apd (nm:=nm) hc.r8 h.1.2;have m:lastMarks [p1,p2] [r,s]=false:=Tp h.2.1 p2;exact⟨atf g1 g2 (jm x hc h.2.2.1).v (jm y hc h.2.2.2.1).v (jm z hc h.2.2.2.2).v m,λ_=>atg g1 g2 (jm x hc h.2.2.1).v (jm y hc h.2.2.2.1).v (jm z hc h.2.2.2.2).v m,λ_ _ _ z=>by cases z⟩
  . cases h
 |.and x y,c,X,a,hc,h=>by
  rcases ahw h with⟨l,r,p,rfl,h1,h2,h3,h4⟩|⟨l,r,s,rest,p,rfl,h1,h2,h3⟩
  . have g1:=jm x hc h2
    have g2:=jm y hc h4;have w:=awj (pos:=p) (rest:=[]) (g1.q h1) (asf (g2.q h3));exact⟨awi g1.v (awq g2.v),λ_=>w.pt,λ_ _ _ _=>w⟩
  . have g1:=jm x hc h2
    have g2:=jm y hc h3;have w:=awj (g1.q h1) (g2.w _ _ _ rfl);exact⟨awi g1.v g2.v,λ_=>w.pt,λ_ _ _ _=>w⟩
 |.or x y,c,X,a,hc,h=>by
  rcases ahw h with⟨l,r,p,rfl,h1,h2,h3,h4⟩|⟨l,r,s,rest,p,rfl,h1,h2,h3⟩
  . have g1:=jm x hc h2
    have g2:=jm y hc h4;have w:=a67 (pos:=p) (rest:=[]) (g1.q h1) (ayr (g2.q h3));exact⟨a65 g1.v (awq g2.v),λ_=>w.pt,λ_ _ _ _=>w⟩
  . have g1:=jm x hc h2
    have g2:=jm y hc h3;have w:=a67 (g1.q h1) (g2.w _ _ _ rfl);exact⟨a65 g1.v g2.v,λ_=>w.pt,λ_ _ _ _=>w⟩
 |.not x,c,X,a,hc,h=>by
  replace h:=jk h;obtain⟨⟨o,l⟩,h1,h⟩:=h;obtain⟨p,rfl⟩:=ao7 h1;simp only[ao,dg] at h;obtain⟨rfl,h⟩:=h;have g:=jm x hc h.2;exact⟨a66 g.v,λ_=>a68 (g.q h.1),λ_ _ _ z=>by cases z⟩
 |.ite t x y,c,X,a,hc,h=>by
  replace h:=jk h;obtain⟨⟨t',l,r⟩,h1,h⟩:=h;obtain⟨p,rfl⟩:=aur h1;simp only[ao] at h;exact⟨a69 ((jm t hc h.2.1).q h.1) (jm x hc h.2.2.1).v (jm y hc h.2.2.2).v,(λz=>by cases z),λ_ _ _ z=>by cases z⟩
 |.tup es,c,X,a,hc,h=>by
  replace h:=jk h;obtain⟨l,h1,h⟩:=h;obtain⟨k0,p,rfl⟩:=Nr h1;simp only[ao,dg] at h;exact v7 (a7a (Cd es hc h.2).1 h.1) rfl
 |.lst es,c,X,a,hc,h=>by
  replace h:=jk h;obtain⟨l,h1,h⟩:=h;obtain⟨p,rfl⟩:=ahr h1;simp only[ao,dg] at h;exact v7 (a7b (Cd es hc h.2).1 h.1) rfl
 |.Fz es,c,X,a,hc,h=>by
  replace h:=jk h;obtain⟨l,h1,h⟩:=h;obtain⟨p,rfl⟩:=ahr h1;simp only[ao,dg] at h;exact v7 (azw (Cd es hc h.2).1 h.1) rfl
 |.aa9,c,X,a,hc,h=>by
  replace h:=jk h;obtain⟨⟨q,l⟩,h1,h⟩:=h;obtain⟨p,rfl⟩:=ahs h1;simp only[ao,tu] at h;obtain⟨rfl,rfl⟩:=h;exact v7 a0a rfl
 |.aek,c,X,a,hc,h=>by
  replace h:=jk h;obtain⟨⟨q,l⟩,h1,h⟩:=h;obtain⟨p,rfl⟩:=ahs h1;simp only[ao,tu] at h;obtain⟨rfl,rfl⟩:=h;exact v7 a0b rfl
 |.ix x y,c,X,a,hc,h=>by
  replace h:=jk h;obtain⟨⟨l,r⟩,h1,h⟩:=h;obtain⟨p,rfl⟩:=aap h1;simp only[ao] at h;exact v7 (bc6 (ab2 hc.room) (jm x hc h.2.1).v (jm y hc h.2.2).v (aob h.1)) rfl
 |.cut x lo hi,c,X,a,hc,h=>by
  replace h:=jk h;obtain⟨⟨l,r⟩,h1,h⟩:=h;obtain⟨p,rfl⟩:=aap h1;replace h:=jk h;obtain⟨⟨u,v,st⟩,h2,h⟩:=h;obtain⟨p2,e⟩:=a0t h2;have e:r=_:=e;subst e;simp only[ao,Option.isNone_iff_eq_none] at h;obtain⟨rfl,h⟩:=h;exact v7 (a7w (jm x hc h.1).v (ahx lo hc h.2.1) (ahx hi hc h.2.2)) rfl
 |.call f es,c,X,a,hc,h=>by
  replace h:=jk h;obtain⟨⟨n,ls⟩,h1,h⟩:=h;obtain⟨p,p',rfl⟩:=Fv h1;simp only[ao] at h;obtain⟨⟨h2,h3,h4⟩,h5⟩:=h;obtain⟨l,ls,rfl⟩:=Wd h4;obtain⟨fa,fd,ps,F,m,kp,b⟩:=hc.tab.fn _ _ _ (j4 h2);obtain⟨g1,g2⟩:=Dg hc h3;obtain⟨e1,e2⟩:=Cd es hc h5;simp only[zc,ao] at e2;exact v7 (s_call F (hc.room.mono x_) g1 m kp b rfl e1 (rz g2).1 (km e2.1 _ _) (vd e2.2)) rfl
 |.make f es,c,X,a,hc,h=>by
  replace h:=jk h;obtain⟨⟨n,ls⟩,h1,h⟩:=h;obtain⟨p,p',rfl⟩:=Fv h1;simp only[ao] at h;obtain⟨⟨h2,h3,h4⟩,h5⟩:=h;obtain⟨l,ls,rfl⟩:=Wd h4;obtain⟨C,fa,fd,ps,cl,M0,F,m,b,d1,d2⟩:=hc.tab.cl _ _ _ (j4 h2);obtain⟨g1,g2⟩:=Dg hc h3;obtain⟨e1,e2⟩:=Cd es hc h5;simp only[zc,ao] at e2;exact v7 (az7 M0 F (hc.room.mono (w_ (by decide))) g1 m b d1 rfl d2 rfl e1 (rz g2).1 (km e2.1 _ _) (vd e2.2)) rfl
 |.meth o m es,c,X,a,hc,h=>by
  replace h:=jk h;obtain⟨⟨lo,n,ap,ls,p⟩,h0,h⟩:=h;cases ao9 h0;simp only[ao,dg] at h;obtain⟨⟨⟨h1,h2⟩,h3,h4⟩,h5,h6⟩:=h;obtain⟨C,fa,fd,ps,f,C0,Me,F,b,u,nf⟩:=hc.tab.mt _ _ _ (j4 h1);obtain⟨e1,e2⟩:=Cd es hc h6;have g:=jm o hc h5;cases ls with
  |nil =>
   have z:=aj8 h6;subst z;exact v7 (auh (ci:=0) (cl:=⟨0,[]⟩) g.v C0 Me F (hc.room.mono x_) b u nf (ahq h2 rfl h3 h4)) rfl
  |cons l ls =>
   have e3:=e2;simp only[zc,ao] at e3;exact v7 (az8 (ci:=0) (cl:=⟨0,[]⟩) g.v C0 Me F (hc.room.mono x_) b u nf rfl e1 (km e3.1 _ _) (vd e3.2) (ahq h2 e2 h3 h4)) rfl
 |.fld o f,c,X,a,hc,h=>by
  replace h:=jk h;obtain⟨⟨l,n,p⟩,h1,h⟩:=h;cases aaq h1;simp only[ao] at h;obtain⟨t1,t2⟩:=hc.tab.fl _ _ (j4 h.1.1);exact v7 (a7d t1 t2 (jm o hc h.2).v (Ga h.1.2)) rfl
 |.blt b es,c,X,a,hc,h=>by
  have gen:(Bk (dCN a) λq=>(decide (a0v b=some q.1)&&(Qs c q.1&&!q.2.isEmpty))&&Hc T es c q.2)=true->Got nm W X a (.blt b es):=λhh=>by clear h;replace hh:=jk hh;obtain⟨⟨n,ls⟩,h1,h⟩:=hh;obtain⟨p,p',rfl⟩:=Fv h1;simp only[ao] at h;obtain⟨⟨h2,h3,h4⟩,h5⟩:=h;obtain⟨l,ls,rfl⟩:=Wd h4;obtain⟨e1,e2⟩:=Cd es hc h5;exact v7 (a01 hc (j4 h2) h3 e1 e2) rfl
  have isi:∀{bb:Blt}{ty:Str}{T0:String}{x:Ex}{bt bi:Option Bool},(∀b,bt=some b->PySem.W.kitOne X.K (.type "tuple") (.type T0)=some b)->(∀b,bi=some b->PySem.W.kitOne X.K (.type "int") (.type T0)=some b)->(∀d M,MW.ud bb [d] M=MW.isR bt bi M d)->X.mg ty=none->bootBuiltins ty=some (.type T0)->(∀l,za T x c l=true->PE X l (tE nm W X.K x))->apb c ty a (za T x c)=true->Got nm W X a (.blt bb (.cons x .nil)):=λk1 k2 k3 hm hv rec hi=>by obtain⟨l,p,p1,p2,rfl,h3,h4,h5,h6⟩:=auu hi;obtain⟨g1,g2⟩:=Dg hc h3;obtain⟨g3,g4⟩:=Dg hc h4;exact v7 (a7x k1 k2 k3 g1 (hc.mg (by decide+kernel)) (by decide+kernel) (rz g2).2.2 (rz g2).1 g3 hm hv (rz g4).2.2 (rz g4).1 (rec l h6) (km h5 _ _) (km rfl _ _) (vd rfl)) rfl
  match b,es,h,gen with
  |.isList,.cons x .nil,h,_=>exact isi (T0 := "list") (bt:=some false) (bi:=none) (λ_ z=>by cases z;exact Rv _ (by decide+kernel)) (λ_ z=>by cases z) (λ_ _=>rfl) (hc.mg (by decide+kernel)) (by decide+kernel) (λl q=>(jm x hc q).v) h
  |.isTuple,.cons x .nil,h,_=>exact isi (T0 := "tuple") (bt:=some true) (bi:=some false) (λ_ z=>by cases z;exact acr _ _) (λ_ z=>by cases z;exact Rv _ (by decide+kernel)) (λ_ _=>rfl) (hc.mg (by decide+kernel)) (by decide+kernel) (λl q=>(jm x hc q).v) h
  |.isBool,.cons x .nil,h,_=>exact isi (T0 := "bool") (bt:=none) (bi:=some false) (λ_ z=>by cases z) (λ_ z=>by cases z;exact Rv _ (by decide+kernel)) (λ_ _=>rfl) (hc.mg (by decide+kernel)) (by decide+kernel) (λl q=>(jm x hc q).v) h
  |.isSeq,.cons x .nil,h,_ =>
   obtain⟨l,p,p1,p2,p3,k0,p4,rfl,h3,h4,h5,h6,h7⟩:=auv (show a0x c a (za T x c)=true from h);obtain⟨g1,g2⟩:=Dg hc h3;exact v7 (auk (adb (acr _ _) (b:=false) (Rv _ (by decide+kernel))) (adb (a:=false) (b:=false) (Rv _ (by decide+kernel)) (Rv _ (by decide+kernel))) g1 (hc.mg (by decide+kernel)) (by decide+kernel) (rz g2).2.2 (rz g2).1 (Dg hc h4).1 (hc.mg (by decide+kernel)) (Dg hc h5).1 (hc.mg (by decide+kernel)) (jm x hc h7).v (km h6 _ _) (vd rfl)) rfl
  |.isList,.nil,h,gen=>exact gen h|.isTuple,.nil,h,gen=>exact gen h|.isBool,.nil,h,gen=>exact gen h|.isSeq,.nil,h,gen=>exact gen h|.isList,.cons _ (.cons _ _),h,gen=>exact gen h|.isTuple,.cons _ (.cons _ _),h,gen=>exact gen h|.isBool,.cons _ (.cons _ _),h,gen=>exact gen h|.isSeq,.cons _ (.cons _ _),h,gen=>exact gen h|.len,_,h,gen=>exact gen h|.tuple,_,h,gen=>exact gen h|.max,_,h,gen=>exact gen h|.min,_,h,gen=>exact gen h|.dict,_,h,gen=>exact gen h|.all,_,h,gen=>exact gen h|.Ce,.nil,h,gen=>exact gen h|.Ce,.cons _ (.cons _ _),h,gen=>exact gen h
  |.Ce,.cons x .nil,h,_ =>
   obtain⟨l,p,p1,p2,p3,rfl,h5,h6,h7,h8⟩:=aar (show apc c "sorted" "set" a (za T x c)=true from h);obtain⟨g1,g2⟩:=Dg hc h5;obtain⟨g3,g4⟩:=Dg hc h6;exact v7 (aj4 hc.r8 g1 (hc.mg (by decide+kernel)) (by decide+kernel) (rz g2).2.2 (rz g2).1 g3 (hc.mg (by decide+kernel)) (by decide+kernel) (rz g4).2.2 (rz g4).1
    (Mu (jm x hc h8).v Tn (km h7 _ _)) (km rfl _ _) (vd rfl) (km h7 _ _) (vd rfl)) rfl
 |.bm m o es,c,X,a,hc,h=>by
  replace h:=jk h;obtain⟨⟨lo,n,ap,ls,p⟩,h0,h⟩:=h;cases ao9 h0;simp only[ao,dg] at h;obtain⟨⟨⟨h1,h2⟩,h3,h4,h4'⟩,h5,h6⟩:=h;obtain⟨l,ls,rfl⟩:=Wd h4';obtain⟨e1,e2⟩:=Cd es hc h6;have e3:=e2;simp only[zc,ao] at e3;have few:((backTo p (starEach (l::ls) X.env)).all (λx=>!x.1)&&(backToKw p (keywordEach [] X.env)).all (λx=>x.1.isSome)&&decide ((l::ls).length+([]:List Keyword).length+(if([]:List Keyword).isEmpty then 0 else 1)<30))=true:=by rw[Wb e2];simp[keywordEach,backToKw];simp at h3;exact b_ h3 (by decide)
  have g:=jm o hc h5;cases m with
  |append=>cases h1;exact v7 (ato (T := "list") (id := "list.append") (fun ι H M x v S r t=>ty_list (.inl rfl) S r t) PySem.F.plainAttrs_list PySem.F.slot_list_append PySem.F.type_list_append aoo g.v e1 (Ga h2) few h4 (km e3.1 _ _) (vd e3.2)) rfl
  |extend=>cases h1;exact v7 (ato (T := "list") (id := "list.extend") (fun ι H M x v S r t=>ty_list (.inr (.inl rfl)) S r t) PySem.F.plainAttrs_list PySem.F.slot_list_extend PySem.F.type_list_extend aop g.v e1 (Ga h2) few h4 (km e3.1 _ _) (vd e3.2)) rfl
  |index=>cases h1;exact v7 (ato (T := "list") (id := "list.index") (fun ι H M x v S r t=>ty_list (.inr (.inr rfl)) S r t) PySem.F.plainAttrs_list PySem.F.slot_list_index PySem.F.type_list_index (atu hc.r8) g.v e1 (Ga h2) few h4 (km e3.1 _ _) (vd e3.2)) rfl
  |get=>cases h1;exact v7 (ato (T := "dict") (id := "dict.get") (fun ι H M x v S r t=>ty_dict S r t) PySem.F.plainAttrs_dict PySem.F.slot_dict_get PySem.F.type_dict_get (a75 (ab2 hc.room)) g.v e1 (Ga h2) few h4 (km e3.1 _ _) (vd e3.2)) rfl
 |.comp v j t it e,c,X,a,hc,h=>by
  replace h:=jk h;obtain⟨⟨elt,gs,sc⟩,h1,h⟩:=h;obtain⟨p,rfl⟩:=Wc h1;replace h:=jk h;obtain⟨⟨tg,iter,ifs,as⟩,h2,h⟩:=h;cases Av h2;simp only[ao,tu] at h;obtain⟨⟨h3,rfl⟩,h4,h5⟩:=h;obtain⟨q1,q2,B,hB,hg,q3,q4⟩:=Qm hc h3;cases q2;exact v7 (az6 B hc.calm (Qn it hc h4) hg (λC fp s H=>(jm e (hB C fp s H) h5).v) q1 q3 q4) rfl
 |.Ax v j t it i e,c,X,a,hc,h=>by
  replace h:=jk h;obtain⟨⟨elt,gs,sc⟩,h1,h⟩:=h;obtain⟨p,rfl⟩:=Wc h1;replace h:=jk h;obtain⟨⟨tg,iter,ifs,as⟩,h2,h⟩:=h;cases Av h2;replace h:=jk h;obtain⟨d,h6,h⟩:=h;cases Av h6;simp only[ao] at h;obtain⟨⟨h3,h7⟩,h4,h8,h5⟩:=h;obtain⟨q1,q2,B,hB,hg,q3,q4⟩:=Qm hc h3;cases q2;exact v7 (aog B hc.calm (Qn it hc h4) hg (λC fp s H=>(jm i (hB C fp s H) h8).q h7) (λC fp s H=>(jm e (hB C fp s H) h5).v) q1 q3 q4) rfl
 |.U6 x y,c,X,a,hc,h=>by
  replace h:=jk h;obtain⟨⟨l0,o,r0⟩,h1,h⟩:=h;obtain⟨p,rfl⟩:=aao h1;replace h:=jk h;obtain⟨o1,h2,h⟩:=h;replace h:=jk h;obtain⟨r1,h3,h⟩:=h;cases Av h2;cases Av h3;replace h:=jk h;obtain⟨⟨n,ls⟩,h4,h⟩:=h;replace h:=jk h;obtain⟨⟨m,ms⟩,h5,h⟩:=h;replace h:=jk h;obtain⟨l,h6,h⟩:=h;replace h:=jk h;obtain⟨r,h7,h⟩:=h;cases Av h6;cases Av h7;obtain⟨p1,q1,e1⟩:=Fv h4;obtain⟨p2,q2,e2⟩:=Fv h5;have e1:l0=_:=e1;subst e1 e2;simp only[ao,dg] at h;obtain⟨⟨⟨rfl,rfl⟩,rfl,h8⟩,⟨h9,h10⟩,h11,h12⟩:=h;obtain⟨g1,g2⟩:=Dg hc h8;have z:=atm (nm:=nm) (W:=W) (p1:=p1) (p2:=p2) (q1:=q1) (q2:=q2) hc.r8 g1 (hc.mg (by decide+kernel)) (by decide+kernel) (rz g2).2.2 (rz g2).1 (Mu (jm x hc h11).v Tn (km h9 _ _)) (Mu (jm y hc h12).v Tn (km h10 _ _)) (km h9 _ _) (km h10 _ _) (vd rfl) (vd rfl);exact⟨ayo z,λ_=>ate (ayp z) λ_ _ _ q=>q,λ_ _ _ z=>by cases z⟩
 |.aem x,c,X,a,hc,h=>by
  obtain⟨l,p,p1,p2,p3,rfl,h5,h6,h7,h8⟩:=aar h;obtain⟨g1,g2⟩:=Dg hc h5;obtain⟨g3,g4⟩:=Dg hc h6;exact v7 (a0i hc.r8 g1 (hc.mg (by decide+kernel)) (by decide+kernel) (rz g2).2.2 (rz g2).1 g3 (hc.mg (by decide+kernel)) (by decide+kernel) (rz g4).2.2 (rz g4).1
   (Mu (jm x hc h8).v Tn (km h7 _ _)) (km rfl _ _) (vd rfl) (km h7 _ _) (vd rfl)) rfl
 |.aen x,c,X,a,hc,h=>by
  obtain⟨l,p,p1,p2,p3,rfl,h5,h6,h7,h8⟩:=aar h;obtain⟨g1,g2⟩:=Dg hc h5;obtain⟨g3,g4⟩:=Dg hc h6;exact v7 (a0m hc.r8 g1 (hc.mg (by decide+kernel)) (by decide+kernel) (rz g2).2.2 (rz g2).1 g3 (hc.mg (by decide+kernel)) (by decide+kernel) (rz g4).2.2 (rz g4).1
   (Mu (jm x hc h8).v Tn (km h7 _ _)) (km rfl _ _) (vd rfl) (km h7 _ _) (vd rfl)) rfl
theorem Cd:∀(es:Bs){c:Ctx}{X:Cx}{a:Ya},Dl T nm W k c X->Hc T es c a=true->PA X a (Vq nm W X.K es)/\zc a=true
 |.nil,c,X,a,hc,h=>by
  cases tu.mp h;exact⟨Tn,rfl⟩
 |.cons e es,c,X,a,hc,h=>by
  cases a with
  |nil=>cases h
  |cons l ls =>
   replace h:(noStar l&&(za T e c l&&Hc T es c ls))=true:=h;simp only[ao] at h;obtain⟨g1,g2⟩:=Cd es hc h.2.2;exact⟨Mu (jm e hc h.2.1).v g1 (km h.1 _ _),by simp only[zc,ao];exact⟨h.1,g2⟩⟩
theorem ahx:∀(e:OEx){c:Ctx}{X:Cx}{a:Option Expr},Dl T nm W k c X->a0y T e c a=true->PO X a (tO nm W X.K e)
 |.none,c,X,a,hc,h=>by
  cases Option.isNone_iff_eq_none.mp h;exact aty
 |.some e,c,X,a,hc,h=>by
  replace h:=jk h;obtain⟨l,rfl,h⟩:=h;exact atz (jm e hc h).v
theorem Qn:∀(it:Og){c:Ctx}{X:Cx}{tg a:Expr},Dl T nm W k c X->auw T it c tg a=true->PI X tg a (tI nm W X.K it)
 |.val e,c,X,tg,a,hc,h=>a7k (jm e hc h).v
 |.Jz e,c,X,tg,a,hc,h=>by
  replace h:=jk h;obtain⟨⟨n,ls⟩,h1,h⟩:=h;obtain⟨p,p',rfl⟩:=Fv h1;replace h:=jk h;obtain⟨l,h2,h⟩:=h;cases Av h2;simp only[ao,dg] at h;obtain⟨⟨rfl,h3⟩,h4,h5⟩:=h;exact a7l (Dg hc h3).1 (hc.mg (by decide+kernel)) (jm e hc h5).v h4
 |.enm e,c,X,tg,a,hc,h=>by
  replace h:=jk h;obtain⟨⟨n,ls⟩,h1,h⟩:=h;obtain⟨p,p',rfl⟩:=Fv h1;replace h:=jk h;obtain⟨l,h2,h⟩:=h;cases Av h2;simp only[ao,dg] at h;obtain⟨⟨h6,rfl,h3⟩,h4,h5⟩:=h;obtain⟨ts,h7⟩:=qd.mp h6;obtain⟨k0,pt,rfl⟩:=Nr h7;exact a72 (Dg hc h3).1 (hc.mg (by decide+kernel)) (jm e hc h5).v h4
 |.zip es,c,X,tg,a,hc,h=>by
  replace h:=jk h;obtain⟨⟨n,ls⟩,h1,h⟩:=h;obtain⟨p,p',rfl⟩:=Fv h1;simp only[ao,dg] at h;obtain⟨⟨h6,rfl,h3,h4⟩,h5,h7⟩:=h;obtain⟨l,ls,rfl⟩:=Wd h4;obtain⟨e1,e2⟩:=Cd es hc h7;obtain⟨ts,h9⟩:=qd.mp h6;obtain⟨k0,pt,rfl⟩:=Nr h9;simp only[zc,ao] at e2;obtain⟨f1,f2⟩:=e2;exact a73 (Dg hc h3).1 (hc.mg (by decide+kernel)) e1 (km f1 _ _) (vd f2) h5
end
end
noncomputable def a8b(e:Ex):Option {b:Bool // (∃v j t it x,e=.comp v j t it x)\/∃v j t it i x,e=.Ax v j t it i x}:=match e with|.comp ..=>some ⟨true,.inl ⟨_,_,_,_,_,rfl⟩⟩|.Ax ..=>some ⟨true,.inr ⟨_,_,_,_,_,_,rfl⟩⟩|_=>none
noncomputable def a02(T:Tab)(c:Ctx)(l:Lv)(e:Ex)(tg v:Expr):Bool :=
 match l with
 |.tg t=>(tgB c 0 t tg&&((Rq v&&((Kc tg).isSome||awk v))||(match t with|.name _=>(adf v).isSome&&(a8b e).isSome|_=>false)))&&za T e c v
 |.sub o i=>Bk (ao4 tg) λq=>aag q.2&&(za T e c v&&(za T o c q.1&&za T i c q.2))
 |.fld o f=>Bk (ao6 tg) λq=>(Rq v&&flB T.O2 f q.2.1)&&(za T e c v&&za T o c q.1)
noncomputable def a8c(a:Stmt):Option (List Expr×Expr):=Option.map Subtype.val (α:={q:List Expr×Expr // ∃p,a=.Assign q.1 q.2 p}) (match a with|.Assign t v p=>some ⟨(t,v),p,rfl⟩|_=>none)
noncomputable def a8d(a:Stmt):Option Expr:=Option.map Subtype.val (α:={q:Expr // ∃p,a=.Expr q p}) (match a with|.Expr v p=>some ⟨v,p,rfl⟩|_=>none)
noncomputable def a8e(a:Stmt):Option (Expr×List Stmt×List Stmt):=Option.map Subtype.val (α:={q:Expr×List Stmt×List Stmt // ∃p,a=.If q.1 q.2.1 q.2.2 p}) (match a with|.If t l r p=>some ⟨(t,l,r),p,rfl⟩|_=>none)
noncomputable def a8f(a:Stmt):Option (Expr×List Stmt×List Stmt):=Option.map Subtype.val (α:={q:Expr×List Stmt×List Stmt // ∃p,a=.While q.1 q.2.1 q.2.2 p}) (match a with|.While t l r p=>some ⟨(t,l,r),p,rfl⟩|_=>none)
noncomputable def a8g(a:Stmt):Option (Expr×Expr×List Stmt×List Stmt):=Option.map Subtype.val (α:={q:Expr×Expr×List Stmt×List Stmt // ∃p,a=.For q.1 q.2.1 q.2.2.1 q.2.2.2 p}) (match a with|.For t i l r p=>some ⟨(t,i,l,r),p,rfl⟩|_=>none)
noncomputable def a8h(a:Stmt):Option (Option Expr):=Option.map Subtype.val (α:={q:Option Expr // ∃p,a=.Return q p}) (match a with|.Return v p=>some ⟨v,p,rfl⟩|_=>none)
noncomputable def auy(a:Stmt):Option Nat:=Option.map Subtype.val (α:={n:Nat // (n=0/\∃p,a=.Break p)\/(n=1/\∃p,a=.Continue p)\/(n=2/\∃p,a=.Pass p)}) (match a with|.Break p=>some ⟨0,.inl ⟨rfl,p,rfl⟩⟩|.Continue p=>some ⟨1,.inr (.inl ⟨rfl,p,rfl⟩)⟩|.Pass p=>some ⟨2,.inr (.inr ⟨rfl,p,rfl⟩)⟩|_=>none)
def auz(h:a8c a=some (t,v)):∃p,a=.Assign t v p:=(Wy h :)
def au0(h:a8d a=some v):∃p,a=.Expr v p:=(Wy h :)
def au1(h:a8e a=some (t,l,r)):∃p,a=.If t l r p:=(Wy h :)
def au2(h:a8f a=some (t,l,r)):∃p,a=.While t l r p:=(Wy h :)
def au3(h:a8g a=some (t,i,l,r)):∃p,a=.For t i l r p:=(Wy h :)
def au4(h:a8h a=some v):∃p,a=.Return v p:=(Wy h :)
def aas(h:auy a=some n):(n=0/\∃p,a=.Break p)\/(n=1/\∃p,a=.Continue p)\/(n=2/\∃p,a=.Pass p):=(Wy h :)
mutual
noncomputable def a03(T:Tab):Bg->Ctx->Stmt->Bool
 |.asg l e,c,a=>Bk (a8c a) λq=>Bk (O3 q.1) λt=>a02 T c l e t q.2
 |.expr e,c,a=>Bk (a8d a) λv=>Rq v&&za T e c v
 |.iff t x y,c,a=>Bk (a8e a) λq=>Ql q.1&&(za T t c q.1&&(Tv T x c q.2.1&&Tv T y c q.2.2))
 |.whl t x,c,a=>Bk (a8f a) λq=>(Ql q.1&&q.2.2.isEmpty)&&(za T t c q.1&&Tv T x c q.2.1)
 |.for_ t it x,c,a=>Bk (a8g a) λq=>(tgB c 0 t q.1&&(Fw q.2.1&&q.2.2.2.isEmpty))&&(auw T it c q.1 q.2.1&&Tv T x c q.2.2.1)
 |.ret e,c,a=>Bk (a8h a) λv=>Bk v (za T e c)
 |.ara,_,_=>false|.brk,_,a=>decide (auy a=some 0)|.cont,_,a=>decide (auy a=some 1)|.pass,_,a=>decide (auy a=some 2)|.raise _ _,_,_=>true
noncomputable def Tv(T:Tab):m7->Ctx->List Stmt->Bool
 |.nil,_,a=>a.isEmpty|.cons s r,c,a=>match a with|st::rest=>a03 T s c st&&Tv T r c rest|_=>false
end
noncomputable def swB(c:Ctx)(t:Str)(pt vp:Pos)(sc:Scope):Bool:=(c.sc.lookup t==some NameKind.local&&pt.line==vp.line)&&!(sc.names.any λy=>y.1==t&&(y.2==.local||y.2==.cell))
def afr(hc:Dl T nm W k c X):swapsWith (.ListComp elt gs sc vp) (some (.Name t pt)) l X.env=pure (swB c t pt vp sc):=by
 have b:X.env.blockKind=.function:=by unfold Env.blockKind;rw[hc.kd];rfl
 show(pure (X.env.blockKind==.function&&X.env.kindOf t==some .local&&pt.line==vp.line&&!(sc.names.any λ(n,k)=>n==t&&(k==.local||k==.cell))):Sem Bool)=_;rw[b];unfold Env.kindOf;rw[hc.sc];simp[swB]
def apg(hc:Dl T nm W k c X)(ht:tgB c 0 (.name i) tg=true)(hv:(adf v).isSome=true)(hw:(a8b e).isSome=true)(h:za T e c v=true):PS X (.Assign [tg] v p) (tS nm W X.K (.asg (.tg (.name i)) e)):=by
 have nd:X.N.Nodup:=by rw[hc.N];exact hc.nd
 obtain⟨⟨elt,gs,sc⟩,hq⟩:=qd.mp hv;obtain⟨y,py,rfl,hy,_⟩:=afp (nm:=nm) (W:=W) (k:=k) (T:=T) hc ht;obtain⟨⟨_,co⟩,_⟩:=qd.mp hw;obtain⟨vp,rfl⟩:=Wc hq;have sw:=λl=>afr (T:=T) (nm:=nm) (W:=W) (k:=k) hc (elt:=elt) (gs:=gs) (sc:=sc) (vp:=vp) (pt:=py) (t:=y) (l:=l)
 cases hs:swB c y py vp sc with
 |false =>
  rw[hs] at sw;exact aoc (jm e hc h).v (ahv hc ht).1 (sw p.line) rfl rfl
 |true =>
  rw[hs] at sw;simp only[swB,ao] at hs;have hl:X.env.scope.names.lookup y=some .local:=by rw[hc.sc];have:=hs.1.1;simpa using this
  rcases co with⟨v,j,t,it,x,rfl⟩|⟨v,j,t,it,i',x,rfl⟩
  . replace h:=jk h
    obtain⟨⟨bds,gs',sc'⟩,h1,h⟩:=h;cases h1;replace h:=jk h;obtain⟨⟨tg,iter,ifs,as⟩,h2,h⟩:=h;cases Av h2;simp only[ao,tu] at h;obtain⟨⟨h3,rfl⟩,h4,h5⟩:=h;obtain⟨q1,q2,B,hB,hg,q3,q4⟩:=Qm hc h3;cases q2;exact ajy B hc.calm (Qn it hc h4) hg (λC fp s H=>(jm x (hB C fp s H) h5).v) q1 q3 q4 nd hy hl (sw p.line)
  . replace h:=jk h
    obtain⟨⟨bds,gs',sc'⟩,h1,h⟩:=h;cases h1;replace h:=jk h;obtain⟨⟨tg,iter,ifs,as⟩,h2,h⟩:=h;cases Av h2;replace h:=jk h;obtain⟨d,h6,h⟩:=h;cases Av h6;simp only[ao] at h;obtain⟨⟨h3,h7⟩,h4,h8,h5⟩:=h;obtain⟨q1,q2,B,hB,hg,q3,q4⟩:=Qm hc h3;cases q2;exact acd B hc.calm (Qn it hc h4) hg (λC fp s H=>(jm i' (hB C fp s H) h8).q h7) (λC fp s H=>(jm x (hB C fp s H) h5).v) q1 q3 q4 nd hy hl (sw p.line)
section
variable{T:Tab}{nm:Nm}{W:Ib}{k:Nat}
def au5(hc:Dl T nm W k c X)(h:a02 T c l e tg v=true):PS X (.Assign [tg] v p) (tS nm W X.K (.asg l e)):=by
 cases l with
 |tg t =>
  simp only[a02,ao,Bool.or_eq_true] at h;obtain⟨⟨h1,h2⟩,h3⟩:=h;rcases h2 with⟨h4,h5⟩|h4
  . have g:=ahv (nm:=nm) hc h1
    have sh:(∃n q,tg=.Name n q)\/∃ts k0 q,tg=.Tuple ts k0 q:=by
     cases t with
     |name i =>
      obtain⟨n,z1,_⟩:=jk h1;exact .inl ⟨n,Et z1⟩
     |names is =>
      obtain⟨ts,z1,_⟩:=jk h1;exact .inr ⟨ts,Nr z1⟩
    rcases sh with⟨n,q,rfl⟩|⟨ts,k0,q,rfl⟩
    . exact aoc (jm e hc h3).v g.1 (Vz h4 _ _ _) rfl rfl
    . have w:awk v=true:=by
       rcases h5 with h5|h5
       . cases h5
       . exact h5
      have w2:swappedStores [.Tuple ts k0 q] v X.env=pure none:=by cases v<;>first|rfl|(cases w;done)
      exact aoc (jm e hc h3).v g.1 (Vz h4 _ _ _) w2 rfl
  . cases t with
    |name i=>rw[ao] at h4;exact apg hc h1 h4.1 h4.2 h3|names _=>cases h4
 |sub o i =>
  replace h:=jk (show Bk (ao4 tg) _=true from h);obtain⟨⟨lo,li⟩,h0,h⟩:=h;obtain⟨p',rfl⟩:=aap h0;simp only[ao] at h;obtain⟨h2,h3,h4,h5⟩:=h;refine aoi (ab2 hc.room) (jm e hc h3).v (jm o hc h4).v (jm i hc h5).v λv=>?_
  cases li<;>first|rfl|(cases h2;done)
 |fld o f =>
  replace h:=jk (show Bk (ao6 tg) _=true from h);obtain⟨⟨lo,n,p'⟩,h0,h⟩:=h;cases aaq h0;simp only[ao] at h;obtain⟨⟨h1,h2⟩,h3,h4⟩:=h;obtain⟨t1,t2⟩:=hc.tab.fl _ _ (j4 h2);exact aoj t1 t2 (jm e hc h3).v (jm o hc h4).v h1
mutual
theorem au6:∀(s:Bg){c:Ctx}{X:Cx}{a:Stmt},Dl T nm W k c X->c.fn=true->a03 T s c a=true->PS X a (tS nm W X.K s)
 |.asg l e,c,X,a,hc,hf,h=>by
  replace h:=jk h;obtain⟨⟨ts,v⟩,h1,h⟩:=h;obtain⟨p,rfl⟩:=auz h1;replace h:=jk h;obtain⟨t,h2,h⟩:=h;cases Av h2;exact au5 hc h
 |.expr e,c,X,a,hc,hf,h=>by
  replace h:=jk h;obtain⟨v,h1,h⟩:=h;obtain⟨p,rfl⟩:=au0 h1;simp only[ao] at h;exact azz (jm e hc h.2).v (Mv h.1 _ _ _)
 |.iff t x y,c,X,a,hc,hf,h=>by
  replace h:=jk h;obtain⟨⟨q,l,r⟩,h1,h⟩:=h;obtain⟨p,rfl⟩:=au1 h1;simp only[ao] at h;exact a7g ((jm t hc h.2.1).q h.1) (Jd x hc hf h.2.2.1) (Jd y hc hf h.2.2.2)
 |.whl t x,c,X,a,hc,hf,h=>by
  replace h:=jk h;obtain⟨⟨q,l,r⟩,h1,h⟩:=h;obtain⟨p,rfl⟩:=au2 h1;simp only[ao,tu] at h;obtain⟨⟨h2,rfl⟩,h3,h4⟩:=h;exact a7h (hc.fnl hf).2 ((jm t hc h3).q h2) (Jd x hc hf h4)
 |.for_ t it x,c,X,a,hc,hf,h=>by
  replace h:=jk h;obtain⟨⟨tg,iter,l,r⟩,h1,h⟩:=h;obtain⟨p,rfl⟩:=au3 h1;simp only[ao,tu] at h;obtain⟨⟨h2,h3,rfl⟩,h4,h5⟩:=h;exact a7j (hc.fnl hf).2 hc.calm (Qn it hc h4) (ahv hc h2).1 (Jd x hc hf h5) h3
 |.ret e,c,X,a,hc,hf,h=>by
  replace h:=jk h;obtain⟨v,h1,h⟩:=h;obtain⟨p,rfl⟩:=au4 h1;replace h:=jk h;obtain⟨w,rfl,h⟩:=h;exact a7e (jm e hc h).v
 |.ara,c,X,a,hc,hf,h=>by cases h
 |.brk,c,X,a,hc,hf,h=>by
  rcases aas (j4 h) with⟨_,p,rfl⟩|⟨z,_⟩|⟨z,_⟩
  . exact a7f
  . cases z
  . cases z
 |.cont,c,X,a,hc,hf,h=>by
  rcases aas (j4 h) with⟨z,_⟩|⟨_,p,rfl⟩|⟨z,_⟩
  . cases z
  . exact az1
  . cases z
 |.pass,c,X,a,hc,hf,h=>by
  rcases aas (j4 h) with⟨z,_⟩|⟨z,_⟩|⟨_,p,rfl⟩
  . cases z
  . cases z
  . exact az0
 |.raise _ _,c,X,a,hc,hf,h=>aui
theorem Jd:∀(s:m7){c:Ctx}{X:Cx}{a:List Stmt},Dl T nm W k c X->c.fn=true->Tv T s c a=true->Qc X a (tSs nm W X.K s)
 |.nil,c,X,a,hc,hf,h=>by
  cases tu.mp h;exact az2
 |.cons s r,c,X,a,hc,hf,h=>by
  cases a with
  |nil=>cases h
  |cons st rest =>
   replace h:(a03 T s c st&&Tv T r c rest)=true:=h;simp only[ao] at h;exact ati (au6 s hc hf h.1) (Jd r hc hf h.2)
end
end
structure Def where
 x:Str
 qual:Str
 N:List Str
 ps:List Str
noncomputable def scB(N ps:Yf)(sc:Scope):Bool :=
 (decide (sc.kind=.function)&&(!sc.isCoroutine&&!sc.isGenerator))&&((decide N.Nodup&&decide (N.take ps.length=ps)) &&
 (ps.all (λx=>sc.names.lookup x==some .local||sc.names.lookup x==some .cell)&&sc.names.all (λy=>!(y.2==NameKind.free))))
def a04(h:scB N ps sc=true):Uk N ps sc:=by simp only[scB,ao,dg,Bool.not_eq_true',ik] at h;obtain⟨⟨h1,h2,h3⟩,⟨h4,h5⟩,h6,h7⟩:=h;exact⟨h1,h2,h3,h4,h5,λx m=>by have:=h6 x m;simpa using this,λy m=>by have:=h7 y m;simpa using this⟩
noncomputable def aj9(T:Tab)(d:Def)(F:MW.Fn)(st:Stmt):Bool :=
 (scB d.N d.ps (Aj st)&&(decide (F.np=d.ps.length)&&decide (F.ns=d.N.length)))&&Tv T F.body ⟨d.N,(Aj st).names,true,[]⟩ (Er st)
set_option tactic.hygienic true in
def au7{F:MW.Fn}(h:F.run W ds M=.ok d M'):ds.length=F.np/\∃fl ρ',F.body.den W (ds.map some++List.replicate (F.ns-F.np) none) M=.ok (fl,ρ') M'/\(fl=.ret d\/(fl=.next/\d=.non)):=by
 unfold MW.Fn.run at h;split at h
 . rename_i hl
   obtain⟨⟨fl,ρ'⟩,M1,e1,e⟩:=gf h;refine⟨hl,fl,ρ',?_⟩;cases fl with
   |ret z=>cases e;exact⟨e1,.inl rfl⟩|next=>cases e;exact⟨e1,.inr ⟨rfl,rfl⟩⟩|brk=>cases e|cont=>cases e
 . cases h
def a05{IR:MW.Prog}(U:Fun K d.x d.qual st f fd)(hF:IR.fns[i]?=some F)(h:aj9 T d F st=true)(hT:ao2 T nm ⟨IR.call n,IR.cls⟩ k P w K mg base):Eh P w K mg base Z9 (k+17) f fd d.ps (spF nm ⟨IR.call (n+1),IR.cls⟩ K F.np i):=by
 simp only[aj9,ao,dg] at h;obtain⟨⟨h1,h2,h3⟩,h4⟩:=h;have S:=a04 h1;have go:∀ds M d' M',MW.Ib.call ⟨IR.call (n+1),IR.cls⟩ i ds M=.ok d' M'->F.run ⟨IR.call n,IR.cls⟩ ds M=.ok d' M':=λds M d' M' e=>by have e:IR.call (n+1) i ds M=.ok d' M':=e;unfold MW.Prog.call at e;rw[hF] at e;exact e
 refine U.ok (k:=k+16) S (λvs H Q E ⟨ι,M,ds,d',M',_,r,l,e,_⟩=>by rw[<- r.length,l,h2]) (λcdv A outer s H vs Q E hr z_=>?_);obtain⟨ι,M,ds,d',M',SM,r,l,e,q⟩:=z_;have hc:Dl T nm ⟨IR.call n,IR.cls⟩ k ⟨d.N,(Aj st).names,true,[]⟩ (afb Z9 P w K mg base d.N d.qual (Aj st) f cdv A outer s H E).nox :=
  ⟨rfl,S.nd,rfl,S.kind,rfl,hr,λ_=>⟨λ_=>rfl,PassesOwn.never⟩,hT,λn h=>by cases h⟩
 refine⟨_,Jd F.body hc rfl h4,?_⟩;obtain⟨hl,fl,ρ',e1,e2⟩:=au7 (go _ _ _ _ e);refine⟨ι,_,M,fl,ρ',M',SM,?_,e1,fun ι' H' σ' le S' R'=>?_⟩
 . unfold L2.start
   exact(uz.anw r).append (uz.anv _ (by rw[List.length_replicate,h3,<- r.length,l]))
 . rcases e2 with rfl|⟨rfl,rfl⟩
   . exact λv rv=>q ι' H' v le S' rv
   . exact q ι' H' _ le S' .non
theorem ahy{nm:Nm}{P:Program}{w:World}{K:Fg}{mg:Zs}{base:Heap}{IR:MW.Prog}{T:Tab}{D:Nat->Def}{st:Nat->Stmt}{fa:Nat->Addr}{fd:Nat->FuncData}
 (U:∀i,i<IR.fns.length->Fun K (D i).x (D i).qual (st i) (fa i) (fd i)) (h:∀i F,IR.fns[i]?=some F->aj9 T (D i) F (st i)=true)
 (mk:∀n,(∀i F,IR.fns[i]?=some F->Eh P w K mg base Z9 (17*n) (fa i) (fd i) (D i).ps (spF nm ⟨IR.call n,IR.cls⟩ K F.np i))->ao2 T nm ⟨IR.call n,IR.cls⟩ (17*n) P w K mg base) :
 ∀n i F,IR.fns[i]?=some F->Eh P w K mg base Z9 (17*n) (fa i) (fd i) (D i).ps (spF nm ⟨IR.call n,IR.cls⟩ K F.np i)
 |0,i,F,hF=>⟨(λvs H Q E ⟨ι,M,ds,d',M',_,r,l,e,_⟩=>by cases e),λA outer s H args us vs Q E hr he hb hv ⟨ι,M,ds,d',M',_,r,l,e,_⟩=>by cases e⟩
 |n+1,i,F,hF=>a05 (U i (ak.mp hF).1) hF (h i F hF) (mk n (ahy U h mk n))
noncomputable def a06(s:Str):Bool:=s.cps[0]?==some 0
noncomputable def aph(O2:Yf):Bool:=decide O2.Nodup&&O2.all λs=>!a06 s
noncomputable def adi(O2:Yf)(i:Nat):Str:=match O2[i]? with|some s=>s|none=>⟨#[0,0,i]⟩
def api(h:aph O2=true)(i j:Nat)(e:adi O2 i=adi O2 j):i=j:=by
 simp only[aph,ao,dg,ik] at h;have own:∀k,a06 ⟨#[0,0,k]⟩=true:=λk=>rfl
 unfold adi at e;cases hi:O2[i]? with
 |some a =>
  rw[hi] at e;cases hj:O2[j]? with
  |some b =>
   rw[hj] at e;have e:a=b:=e;subst e;obtain⟨l1,e1⟩:=ak.mp hi;obtain⟨l2,e2⟩:=ak.mp hj;exact(zu h.1).mp (e1.trans e2.symm)
  |none =>
   rw[hj] at e;have e:a=⟨#[0,0,j]⟩:=e;have:=h.2 a (au hi);rw[e,own] at this;cases this
 |none =>
  rw[hi] at e;cases hj:O2[j]? with
  |some b =>
   rw[hj] at e;have e:(⟨#[0,0,i]⟩:Str)=b:=e;have:=h.2 b (au hj);rw[<- e,own] at this;cases this
  |none =>
   rw[hj] at e;have e:(⟨#[0,0,i]⟩:Str)=⟨#[0,0,j]⟩:=e;simpa using e
noncomputable def a07(cas:List (Option Addr))(O2:Yf)(h:aph O2=true):Nm:=⟨λc=>(cas[c]?).join,adi O2,api h⟩
noncomputable def apj(O2:Yf)(x:Str):Bool:=!(O2.contains x)&&!a06 x
def apk(h:apj O2 x=true)(i:Nat):adi O2 i≠x:=λe=>by
 simp only[apj,ao,Bool.not_eq_true'] at h;unfold adi at e;cases hi:O2[i]? with
 |some a =>
  rw[hi] at e;have e:a=x:=e;rw[<- e] at h;have:=List.contains_iff_mem.mpr (au hi);rw[this] at h;cases h.1
 |none =>
  rw[hi] at e;have e:(⟨#[0,0,i]⟩:Str)=x:=e;rw[<- e] at h;cases h.2
section
variable(K:Fg)(mg:Zs)
noncomputable def aat:List Def->List Stmt->List Addr->List FuncData->Prop
 |d::ds,s::ss,a::as,f::fs=>(Fun K d.x d.qual s a f/\Binds K f d.ps [])/\aat ds ss as fs|[],[],[],[]=>True|_,_,_,_=>False
noncomputable def Rx:List (Option (Str×Nat))->List Addr->Prop
 |some p::r,a::as=>mg p.1=some (.ref a)/\Rx r as|none::r,_::as=>Rx r as|_,_=>True
noncomputable def adk(C:Addr)(mts:List (Str×Nat))(Kh:X9):List (Nat×Nat)->Prop
 |q::r=>(∃p a,mts[q.1]?=some p/\Kh[q.2]?=some a/\Meth K C p.1 a)/\adk C mts Kh r|[]=>True
noncomputable def aau(C:Addr):List Str->Prop
 |x::r=>Fq K C x/\aau C r|[]=>True
structure ClF(T:Tab)(Kh:X9)(x:Str)(C:Addr)(cl:MW.Cl):Prop where
 mg:mg x=some (.ref C)
 cs:Cls K C
 ini:∃f,Kh[cl.init]?=some f/\Mk K C f
 me:adk K C T.mts Kh cl.meths
 na:aau K C T.O2
noncomputable def My(T:Tab)(Kh:X9):List (Option (Str×Nat))->List (Option Addr)->List MW.Cl->Prop
 |some p::r,some C::cs,cl::cls=>ClF K mg T Kh p.1 C cl/\My T Kh r cs cls|none::r,none::cs,_::cls=>My T Kh r cs cls|[],[],[]=>True|_,_,_=>False
noncomputable def aav:List (Str×Int)->Prop
 |p::r=>(∃t,mg p.1=some (.int p.2 t))/\aav r|[]=>True
noncomputable def AllB:List Str->Prop
 |x::r=>mg x=none/\AllB r|[]=>True
end
theorem aat.get{K:Fg}:∀{ds:List Def}{ss:List Stmt}{as:X9}{fs:List FuncData}{i:Nat}{d:Def},aat K ds ss as fs->ds[i]?=some d->∃s a f,ss[i]?=some s/\as[i]?=some a/\fs[i]?=some f/\Fun K d.x d.qual s a f/\Binds K f d.ps []
 |d::ds,s::ss,a::as,f::fs,0,d',h,e=>by cases e;exact⟨s,a,f,rfl,rfl,rfl,h.1⟩
 |d::ds,s::ss,a::as,f::fs,i+1,d',h,e=>by
  obtain⟨s',a',f',h1,h2,h3,h4⟩:=aat.get (i:=i) h.2 (by simpa using e);exact⟨s',a',f',by simpa using h1,by simpa using h2,by simpa using h3,h4⟩
theorem Rx.get{mg:Zs}:∀{l:List (Option (Str×Nat))}{as:X9}{i:Nat}{p:Str×Nat}{a:Addr},Rx mg l as->l[i]?=some (some p)->as[i]?=some a->mg p.1=some (.ref a)
 |some q::l,b::as,0,p,a,h,e,e2=>by cases e;cases e2;exact h.1|none::l,b::as,0,p,a,h,e,e2=>by cases e|some q::l,b::as,i+1,p,a,h,e,e2=>Rx.get (i:=i) h.2 (by simpa using e) (by simpa using e2)|none::l,b::as,i+1,p,a,h,e,e2=>Rx.get (i:=i) (l:=l) (as:=as) h (by simpa using e) (by simpa using e2)
theorem adk.get{K:Fg}{C:Addr}{mts:List (Str×Nat)}{Kh:X9}:∀{l:List (Nat×Nat)}{q:Nat×Nat},adk K C mts Kh l->q∈l->∃p a,mts[q.1]?=some p/\Kh[q.2]?=some a/\Meth K C p.1 a
 |q'::l,q,h,m=>by
  rcases bx.mp m with z|z
  . rw[z];exact h.1
  . exact adk.get h.2 z
theorem aau.get{K:Fg}{C:Addr}:∀{l:Yf}{x:Str},aau K C l->x∈l->Fq K C x
 |y::l,x,h,m=>by
  rcases bx.mp m with z|z
  . rw[z];exact h.1
  . exact aau.get h.2 z
theorem My.get{K:Fg}{mg:Zs}{T:Tab}{Kh:X9}:∀{l:List (Option (Str×Nat))}{cs:List (Option Addr)}{cls:List MW.Cl}{c:Nat}{p:Str×Nat},My K mg T Kh l cs cls->l[c]?=some (some p)->∃C cl,cs[c]?=some (some C)/\cls[c]?=some cl/\ClF K mg T Kh p.1 C cl
 |some q::l,some C::cs,cl::cls,0,p,h,e=>by cases e;exact⟨C,cl,rfl,rfl,h.1⟩
 |some q::l,some C::cs,cl::cls,c+1,p,h,e=>by
  obtain⟨C',cl',h1,h2,h3⟩:=My.get (c:=c) h.2 (by simpa using e);exact⟨C',cl',by simpa using h1,by simpa using h2,h3⟩
 |none::l,none::cs,cl::cls,0,p,h,e=>by cases e
 |none::l,none::cs,cl::cls,c+1,p,h,e=>by
  obtain⟨C',cl',h1,h2,h3⟩:=My.get (l:=l) (cs:=cs) (cls:=cls) (c:=c) h (by simpa using e);exact⟨C',cl',by simpa using h1,by simpa using h2,h3⟩
theorem My.at{K:Fg}{mg:Zs}{T:Tab}{Kh:X9}:∀{l:List (Option (Str×Nat))}{cs:List (Option Addr)}{cls:List MW.Cl}{c:Nat}{C:Addr},My K mg T Kh l cs cls->cs[c]?=some (some C)->Cls K C/\aau K C T.O2
 |some q::l,some C::cs,cl::cls,0,p,h,e=>by cases e;exact⟨h.1.cs,h.1.na⟩|some q::l,some C::cs,cl::cls,c+1,p,h,e=>My.at (c:=c) h.2 (by simpa using e)|none::l,none::cs,cl::cls,0,p,h,e=>by cases e|[],[],_,_,_,_,e=>by simp at e|[],_::_,[],_,_,h,_=>h.elim|[],_::_,_::_,_,_,h,_=>h.elim|none::l,none::cs,cl::cls,c+1,p,h,e=>My.at (l:=l) (cs:=cs) (cls:=cls) (c:=c) h (by simpa using e)
theorem aav.get{mg:Zs}:∀{l:List (Str×Int)}{x:Str}{i:Int},aav mg l->(x,i)∈l->∃t,mg x=some (.int i t)
 |q::l,x,i,h,m=>by
  rcases bx.mp m with z|z
  . rw[<- z] at h;exact h.1
  . exact aav.get h.2 z
theorem AllB.get{mg:Zs}:∀{l:Yf}{x:Str},AllB mg l->x∈l->mg x=none
 |q::l,x,h,m=>by
  rcases bx.mp m with z|z
  . rw[z];exact h.1
  . exact AllB.get h.2 z
noncomputable def au8(T:Tab):List MW.Fn->List Def->List Stmt->Bool
 |F::Fs,d::ds,s::ss=>aj9 T d F s&&au8 T Fs ds ss|[],[],[]=>true|_,_,_=>false
noncomputable def npB(fns:List MW.Fn)(f n:Nat):Bool:=match fns[f]? with|some F=>F.np==n|none=>false
noncomputable def tfB(fns:List MW.Fn)(l:List (Option (Str×Nat))):Bool:=l.zipIdx.all λq=>match q.1 with|some p=>npB fns q.2 p.2|none=>true
noncomputable def tcB(IR:MW.Prog)(l:List (Option (Str×Nat))):Bool:=l.zipIdx.all λq=>match q.1 with|some p=>(match IR.cls[q.2]? with|some cl=>npB IR.fns cl.init (p.2+1)|none=>false)|none=>true
noncomputable def bdv(cls:List MW.Cl)(m c f:Nat):Bool:=cls.zipIdx.all λq=>match q.1.meths.lookup m with|none=>true|some g=>q.2==c&&g==f
noncomputable def tmB(IR:MW.Prog)(T:Tab)(mcs:List (Nat×Nat)):Bool:=T.mts.zipIdx.all λq=>match mcs[q.2]? with
 |some cf=>(bdv IR.cls q.2 cf.1 cf.2&&(npB IR.fns cf.2 (q.1.2+1)&&apj T.O2 q.1.1))&&((match T.cls[cf.1]? with|some (some _)=>true|_=>false)&&(match IR.cls[cf.1]? with|some cl=>cl.meths.lookup q.2==some cf.2|none=>false))
 |none=>false
def Js{α:Type}{l:List α}{g:α×Nat->Bool}(h:l.zipIdx.all g=true){x:α}(e:l[i]?=some x):g (x,i)=true:=by rw[ik] at h;exact h (x,i) (by rw[vm];exact⟨i,by rw[xx,e];simp⟩)
set_option tactic.hygienic true in
def afs(h:npB fns f n=true):∃F,fns[f]?=some F/\F.np=n:=by
 unfold npB at h;split at h
 . rename_i F e;exact⟨F,e,eq_of_beq h⟩
 . cases h
theorem We{T:Tab}:∀{Fs:List MW.Fn}{ds:List Def}{ss:List Stmt}{i:Nat}{F:MW.Fn},au8 T Fs ds ss=true->Fs[i]?=some F->∃d s,ds[i]?=some d/\ss[i]?=some s/\aj9 T d F s=true
 |F::Fs,d::ds,s::ss,0,F',h,e=>by
  replace h:=Bool.and_eq_true_iff.mp h;cases e;exact⟨d,s,rfl,rfl,h.1⟩
 |F::Fs,d::ds,s::ss,i+1,F',h,e=>by
  replace h:=Bool.and_eq_true_iff.mp h;obtain⟨d',s',h1,h2,h3⟩:=We (i:=i) h.2 (by simpa using e);exact⟨d',s',by simpa using h1,by simpa using h2,h3⟩
 |[],_,_,_,_,_,e=>by simp at e|_::_,[],_,_,_,h,_=>by cases h|_::_,_::_,[],_,_,h,_=>by cases h
set_option tactic.hygienic true in
def a08(hfl:aph T.O2=true)(hP:au8 T IR.fns Ds ss=true)(h1:tfB IR.fns T.fns=true)(h2:tcB IR T.cls=true)(h3:tmB IR T mcs=true)(aF:aat K Ds ss Kh fds)(aG:Rx mg T.fns Kh)(aC:My K mg T Kh T.cls cas IR.cls)(aV:aav mg T.auo)(aB:AllB mg Mx)(hF:IR.fns[i]?=some F) :
 ∃d a f,Ds[i]?=some d/\Kh[i]?=some a/\fds[i]?=some f/\Binds K f d.ps []/\Eh P w K mg base Z9 (17*n) a f d.ps (spF (a07 cas T.O2 hfl) ⟨IR.call n,IR.cls⟩ K F.np i):=by
 let dd:Def:=⟨Str.empty,Str.empty,[],[]⟩
 let sd:Stmt:=.Pass ⟨0,0,0,0⟩
 obtain⟨d,s,g1,g2,g3⟩:=We hP hF;have all:∀(i:Nat)(F:MW.Fn),IR.fns[i]?=some F->∃d s a f,Ds[i]?=some d/\ss[i]?=some s/\Kh[i]?=some a/\fds[i]?=some f/\Fun K d.x d.qual s a f/\Binds K f d.ps []/\aj9 T d F s=true:=λi F e=>by
  refine hG λ_ _k=>?_
  obtain⟨d,s,g1,g2,g3⟩:=We hP e;obtain⟨s',a,f,k1,k2,k3,k4,k5⟩:=aF.get g1;rw[g2] at k1;cases k1;apply _k;exact⟨d,s,a,f,g1,g2,k2,k3,k4,k5,g3⟩
 have df:∀{j:Nat}{a:Addr}{f:FuncData}{d:Def},Kh[j]?=some a->fds[j]?=some f->Ds[j]?=some d->(Kh[j]?).getD 0=a/\Ds[j]?.getD dd=d:=λe1 e2 e3=>⟨by rw[e1];rfl,by rw[e3];rfl⟩
 obtain⟨fd0,bj3⟩:∃fd0:FuncData,True:=by obtain⟨s',a,f,_⟩:=aF.get g1;exact⟨f,trivial⟩
 have main:=ahy (nm:=a07 cas T.O2 hfl) (P:=P) (w:=w) (K:=K) (mg:=mg) (base:=base) (IR:=IR) (T:=T) (D:=λi=>Ds[i]?.getD dd) (st:=λi=>ss[i]?.getD sd) (fa:=λi=>(Kh[i]?).getD 0) (fd:=λi=>(fds[i]?).getD fd0)
  (λi hi=>by
   refine hG λ_ _k=>?_
   obtain⟨d,s,a,f,k1,k2,k3,k4,k5,k6,k7⟩:=all i IR.fns[i] (by simp[hi]);apply _k;rw[k1,k2,k3,k4];exact k5)
  (λi F e=>by
   refine hG λ_ _k=>?_
   obtain⟨d,s,a,f,k1,k2,k3,k4,k5,k6,k7⟩:=all i F e;apply _k;rw[k1,k2];exact k7)
  (λn G=>?_) n i F hF
 . refine hG λ_ _k=>?_
   obtain⟨d',s',a,f,k1,k2,k3,k4,k5,k6,k7⟩:=all i F hF;apply _k;refine⟨d',a,f,k1,k3,k4,k6,?_⟩;have:=main;rw[k1,k3,k4] at this;exact this
 ·
  have at_:∀{j:Nat}{F:MW.Fn}{a:Addr},IR.fns[j]?=some F->Kh[j]?=some a->∃(f:FuncData)(d:Def),Binds K f d.ps []/\Eh P w K mg base Z9 (17*n) a f d.ps (spF (a07 cas T.O2 hfl) ⟨IR.call n,IR.cls⟩ K F.np j)/\PySem.W.keepIn K (.ref a)=true:=fun{j F a} e1 e2=>by
   refine hG λ_ _k=>?_
   obtain⟨d,s,a',f,k1,k2,k3,k4,k5,k6,k7⟩:=all j F e1;rw[e2] at k3;cases k3;have g:=G j F e1;rw[k1,e2,k4] at g;apply _k;exact⟨f,d,k6,g,k5.kp⟩
  have addr:∀{j:Nat}{F:MW.Fn},IR.fns[j]?=some F->∃a,Kh[j]?=some a:=fun{j F} e=>by
   refine hG λ_ _k=>?_
   obtain⟨d,s,a',f,k1,k2,k3,_⟩:=all j F e;apply _k;exact⟨a',k3⟩
  refine⟨λf x m e=>?_,λc x m e=>?_,λm x j e=>?_,λf x e=>?_,λx i m=>aV.get m,λx m=>aB.get m⟩
  . refine hG λ_ _k=>?_
    obtain⟨F,e1,e2⟩:=afs (Js h1 e);obtain⟨a,e3⟩:=addr e1;obtain⟨fd,d,b,g,kp⟩:=at_ e1 e3;rw[e2] at g;apply _k;exact⟨a,fd,d.ps,g,aG.get e e3,kp,b⟩
  . refine hG λ_ _k=>?_
    obtain⟨C,cl,q1,q2,q3⟩:=aC.get e;have z:=Js h2 e;simp only[q2] at z;obtain⟨F,e1,e2⟩:=afs z;obtain⟨f,f1,f2⟩:=q3.ini;obtain⟨fd,d,b,g,kp⟩:=at_ e1 f1;rw[e2] at g;apply _k;exact⟨C,f,fd,d.ps,cl,f2,g,q3.mg,b,q2,by show(cas[c]?).join=some C;rw[q1];rfl⟩
  . have z:=Js h3 e
    simp only at z;split at z
    . rename_i cf hcf
      simp only[ao] at z;refine hG λ_ _k=>?_
      obtain⟨⟨z1,z2,z3⟩,z4,z5⟩:=z;obtain⟨F,e1,e2⟩:=afs z2;apply _k;split at z4
      . rename_i p hp
        refine hG λ_ _k=>?_
        obtain⟨C,cl,q1,q2,q3⟩:=aC.get hp;rw[q2] at z5;simp only at z5;have mem:(m,cf.2)∈cl.meths:=mem_of_lookup (eq_of_beq z5);obtain⟨p',a,r1,r2,r3⟩:=q3.me.get mem;rw[e] at r1;cases r1;obtain⟨fd,d,b,g,kp⟩:=at_ e1 r2;rw[e2] at g;apply _k;refine⟨C,a,fd,d.ps,cf.2,q3.cs,r3,g,b,λc' cl' hc' g' hg'=>?_,apk z3⟩;have y:=Js z1 hc';simp only[hg',ao] at y;have y1:c'=cf.1:=eq_of_beq y.1;exact⟨by show(cas[c']?).join=some C;rw[y1,q1];rfl,eq_of_beq y.2⟩
      . cases z4
    . cases z
  . refine⟨by show x=adi T.O2 f;unfold adi;rw[e],λc C hC=>?_⟩
    have hC:(cas[c]?).join=some C:=hC;have hC2:cas[c]?=some (some C):=by
     cases q:cas[c]? with
     |none=>rw[q] at hC;cases hC
     |some o=>rw[q] at hC;cases o with
      |none=>cases hC|some C'=>cases hC;rfl
    obtain⟨y1,y2⟩:=aC.at hC2;exact⟨y1,y2.get (au e)⟩
def fN:aat K [] [] [] []:=trivial
def gN:Rx mg [] as:=trivial
def gS(h:mg p.1=some (.ref a))(t:Rx mg r as):Rx mg (some p::r) (a::as):=⟨h,t⟩
def gO(t:Rx mg r as):Rx mg (none::r) (a::as):=t
def mN:adk K C mts Kh []:=trivial
def mC(h1:mts[q.1]?=some p)(h2:Kh[q.2]?=some a)(m:Meth K C p.1 a)(t:adk K C mts Kh r):adk K C mts Kh (q::r):=⟨⟨p,a,h1,h2,m⟩,t⟩
def nN:aau K C []:=trivial
def nC(h:Fq K C x)(t:aau K C r):aau K C (x::r):=⟨h,t⟩
def cN:My K mg T Kh [] [] []:=trivial
def cO(t:My K mg T Kh r cs cls):My K mg T Kh (none::r) (none::cs) (cl::cls):=t
def cS(h:ClF K mg T Kh p.1 C cl)(t:My K mg T Kh r cs cls):My K mg T Kh (some p::r) (some C::cs) (cl::cls):=⟨h,t⟩
def vN:aav mg []:=trivial
def vC(h:mg p.1=some (.int p.2 t))(q:aav mg r):aav mg (p::r):=⟨⟨t,h⟩,q⟩
def bN:AllB mg []:=trivial
def bC(h:mg x=none)(q:AllB mg r):AllB mg (x::r):=⟨h,q⟩
noncomputable abbrev Lk(K:Fg)(f:Addr)(x q:Str)(st:Stmt)(oc:Value)(od:Option Addr)(kV dc pm:Value)(an:Option Addr)(cd ct:Value)(sl:Array (Option Value)):Prop :=
 K.lookup f=some ⟨oc,od,.func (PySem.W.fnOf x q (Hr st) (Er st) (Aj st) .none kV dc pm an cd ct),sl⟩/\PySem.W.codeIn K cd q=true/\PySem.W.keepIn K (.ref f)=true
def bdx{α:Type}{us:List α}(h:us.length=1):∃a,us=[a]:=match us,h with|[a],_=>⟨a,rfl⟩
def bdz{α:Type}{us:List α}(h:us.length=2):∃a b,us=[a,b]:=match us,h with|[a,b],_=>⟨a,b,rfl⟩
def bd1{α:Type}{us:List α}(h:us.length=3):∃a b c,us=[a,b,c]:=match us,h with|[a,b,c],_=>⟨a,b,c,rfl⟩
def bd2{α:Type}{us:List α}(h:us.length=4):∃a b c d,us=[a,b,c,d]:=match us,h with|[a,b,c,d],_=>⟨a,b,c,d,rfl⟩
def bd3{α:Type}{us:List α}(h:us.length=5):∃a b c d e,us=[a,b,c,d,e]:=match us,h with|[a,b,c,d,e],_=>⟨a,b,c,d,e,rfl⟩
def bd4{α:Type}{us:List α}(h:us.length=6):∃a b c d e f,us=[a,b,c,d,e,f]:=match us,h with|[a,b,c,d,e,f],_=>⟨a,b,c,d,e,f,rfl⟩
def bd5{α:Type}{us:List α}(h:us.length=7):∃a b c d e f g,us=[a,b,c,d,e,f,g]:=match us,h with|[a,b,c,d,e,f,g],_=>⟨a,b,c,d,e,f,g,rfl⟩
def fE{kV:Value}(l:Lk K a d.x d.qual s oc od kV dc pm an cd ct sl)(r:aat K ds ss as fs)
 (b:∀(kV doc pm:Value)(an:Option Addr)(cdv ct:Value)(us:Zl),us.length=d.ps.length->bindArgs (PySem.W.fnOf d.x d.qual (Hr s) (Er s) (Aj s) .none kV doc pm an cdv ct) ⟨us,[]⟩=pure (d.ps.zip us):=by intro _ _ _ _ _ _ us hl;first|(obtain⟨_,rfl⟩:=Ck.bdx hl;rfl)|(obtain⟨_,_,rfl⟩:=Ck.bdz hl;rfl)|(obtain⟨_,_,_,rfl⟩:=Ck.bd1 hl;rfl)|(obtain⟨_,_,_,_,rfl⟩:=Ck.bd2 hl;rfl)|(obtain⟨_,_,_,_,_,rfl⟩:=Ck.bd3 hl;rfl)|(obtain⟨_,_,_,_,_,_,rfl⟩:=Ck.bd4 hl;rfl)|(obtain⟨_,_,_,_,_,_,_,rfl⟩:=Ck.bd5 hl;rfl)) :
 aat K (d::ds) (s::ss) (a::as) (PySem.W.fnOf d.x d.qual (Hr s) (Er s) (Aj s) .none kV dc pm an cd ct::fs):=⟨⟨anr l.1 l.2.1 l.2.2,(anr l.1 l.2.1 l.2.2).binds b⟩,r⟩
noncomputable def ahz(K:Fg):Sp:=λvs H Q _=>∃(a:Addr)(ns:Xs),vs=[.ref a]/\Only H/\G9 K H a (ns.map V.int)/\ns.length<=63/\∀H',Q (.bl true) H'
def au9(o:Only H)(h:G9 K H a vs):aac K H a vs:=by
 rcases h with(h|h)|h
 . rcases o a with z|⟨ob,xs,z⟩<;>rw[z] at h<;>cases h
 . exact .inl h
 . exact .inr h
def ava(run:∀(ns:Xs),ns.length<=63->∃M',W.call i [.fz (ns.map MW.D.int)] []=.ok (.bl true) M')(h:ahz K vs H Q E):spF nm W K 1 i vs H Q E:=by obtain⟨a,ns,rfl,o,hS,hl,k⟩:=h;obtain⟨M',e⟩:=run ns hl;refine⟨⟨[],[]⟩,[],_,_,M',⟨rfl,w5,by simp,λn o a h=>by simp at h⟩,.cons (.fz (au9 o hS) (mj.ints ns)) .nil,rfl,e,fun ι' H' v le S' r=>?_⟩;cases r;exact k H'
def walk{l:PySem.W.OpenLaw}{K:Params->Fg}(hn:l.most=some 63)(hdf:d.params.defaults=[])(hY:∀(w:World) (h:Heap),YP w h->(K w.params).In h)(F:∀(w:World) (mg:Zs) (fa:Addr) (h:Heap),(K w.params).In h->h.Ns mainGlobals mg->mg d.name=some (.ref fa) ->
 ∃fd:FuncData,(∀(s:Shared) (u:Value),BindsTo s fd ⟨[u],[]⟩ [("script",u)])/\∀base:Heap,(K w.params).In base->base.Ns mainGlobals mg->Eh l.prog w (K w.params) mg base Z9 170 fa fd ["script"] (ahz (K w.params))) :
 PySem.W.WalkO q loose XP YP l.row.toRowW d [] (λf vs=>PySem.call f vs) :=
 L2.ata (n:=63) (k:=170) (x := "script") (CX:=λ_=>Z9) (sp:=λw=>ahz (K w.params)) hn (by decide) hdf ⟨rfl,by decide,by decide⟩ hY F (λ_ _ a ns hl ho hS=>⟨a,ns,rfl,ho,hS,hl,λ_=>rfl⟩) λ_ _ _ _ _ z=>z
end Ck
namespace K55
open PySem L2
noncomputable def top(i:Nat):Stmt:=PySem.Challenge.pw_mapwright_k55_leads_and_lacks.main.body.getD i (.Pass ⟨0,0,0,0⟩)
noncomputable def sts:List Stmt:=[inClass (top 8) 0,inClass (top 8) 1,inClass (top 8) 2,inClass (top 8) 3,inClass (top 8) 4,inClass (top 8) 5,top 9,top 10,top 11,top 12,top 13,top 14,top 27,top 28,top 29,top 30,top 31,top 32,top 33,top 34,top 35,top 0,top 16,top 17,top 18,top 20,top 22,top 23,top 24,top 25,top 36,top 37,top 38,top 39,top 40,top 41,top 42,top 43]
noncomputable def Ds:List Ck.Def:=[⟨"__init__", "Pattern.__init__",["self", "kinds", "doings", "table"],["self", "kinds", "doings", "table"]⟩,⟨"kinds", "Pattern.kinds",["self"],["self"]⟩,⟨"doings", "Pattern.doings",["self"],["self"]⟩,⟨"behind", "Pattern.behind",["self", "one", "other"],["self", "one", "other"]⟩,⟨"ways", "Pattern.ways",["self", "kind"],["self", "kind"]⟩,⟨"end", "Pattern.end",["self", "kind", "way"],["self", "kind", "way"]⟩,⟨"both_ways", "both_ways",["table", "one", "other"],["table", "one", "other"]⟩,⟨"meeting_pairs", "meeting_pairs",["doings", "pairs", "one", "ends", "other", "more"],["doings"]⟩,⟨"is_way_between", "is_way_between",["doings", "way", "start", "goal"],["doings", "way", "start", "goal"]⟩,⟨"check_doings", "check_doings",["kinds", "doings", "ends"],["kinds", "doings"]⟩,⟨"check_table", "check_table",["doings", "table", "pairs", "one", "other"],["doings", "table"]⟩,⟨"check_threes", "check_threes",["doings", "table", "pairs", "one", "other", "last", "ahead", "after"],["doings", "table"]⟩,⟨"_law_cell_at", "_law_cell_at",["script", "k"],["script", "k"]⟩,⟨"_law_state", "_law_state",["script", "k", "cell"],["script", "k"]⟩,⟨"_law_take", "_law_take",["state", "many", "found", "mixed"],["state", "many"]⟩,⟨"_law_begun", "_law_begun",["state", "way", "graph", "loops", "swap", "known", "kinds", "sizes", "found", "k", "one", "other"],["state"]⟩,⟨"_law_closed", "_law_closed",["begun", "found", "one", "other", "row", "k", "j", "first", "second", "more"],["begun"]⟩,⟨"_law_pattern", "_law_pattern",["state", "begun", "closed", "kinds", "table", "j", "k", "more"],["state"]⟩,⟨"_law_ways", "_law_ways",["pat", "kind"],["pat", "kind"]⟩,⟨"_law_end", "_law_end",["pat", "kind", "way"],["pat", "kind", "way"]⟩,⟨"_law_behind", "_law_behind",["pat", "one", "other"],["pat", "one", "other"]⟩,⟨"_wall", "_wall",["k"],["k"]⟩,⟨"led", "led",["world", "thing", "way"],["world", "thing", "way"]⟩,⟨"spots", "spots",["world", "told", "kind", "size"],["world"]⟩,⟨"reached", "reached",["pattern", "world", "spot", "kind"],["pattern", "world", "spot"]⟩,⟨"as_part", "as_part",["world", "members", "rows", "kind", "size"],["world", "members"]⟩,⟨"least_part", "least_part",["pattern", "world", "some", "members", "spot", "below"],["pattern", "world", "some"]⟩,⟨"leads", "leads",["pattern", "world", "one", "other", "members", "spot", "inside"],["pattern", "world", "one", "other"]⟩,⟨"lies_in", "lies_in",["spot", "part"],["spot", "part"]⟩,⟨"lacks", "lacks",["pattern", "world", "part"],["pattern", "world", "part"]⟩,⟨"_law_merged", "_law_merged",["pat", "marks", "acts", "changed", "k", "one", "other", "first", "thing", "mark", "end", "low", "high"],["pat", "marks", "acts"]⟩,⟨"_law_world", "_law_world",["state", "pat", "most", "rows", "number", "kind", "some", "end", "way", "acts", "k", "one", "other", "marks", "low", "high", "heads", "told", "row"],["state", "pat", "most"]⟩,⟨"_law_led", "_law_led",["world", "thing", "way"],["world", "thing", "way"]⟩,⟨"_law_same", "_law_same",["found", "due"],["found", "due"]⟩,⟨"_law_grown", "_law_grown",["state", "pat", "world", "rows", "turn", "kind", "thing", "way"],["state", "pat", "world"]⟩,⟨"_law_into", "_law_into",["pat", "world", "part", "kind", "thing", "ways"],["pat", "world", "part", "kind", "thing"]⟩,⟨"_law_leads", "_law_leads",["pat", "world", "one", "other", "found", "kind", "row", "thing", "goal"],["pat", "world", "one", "other"]⟩,⟨"law", "law",["script", "state", "pat", "pattern", "worlds", "empty", "turn", "world", "one", "other", "here", "there"],["script"]⟩]
noncomputable def tab:Ck.Tab:=⟨[none,none,none,none,none,none,(some ("both_ways",3):Y2),(some ("meeting_pairs",1):Y2),(some ("is_way_between",4):Y2),(some ("check_doings",2):Y2),(some ("check_table",2):Y2),(some ("check_threes",2):Y2),(some ("_law_cell_at",2):Y2),(some ("_law_state",2):Y2),(some ("_law_take",2):Y2),(some ("_law_begun",1):Y2),(some ("_law_closed",1):Y2),(some ("_law_pattern",1):Y2),(some ("_law_ways",2):Y2),(some ("_law_end",3):Y2),(some ("_law_behind",3):Y2),(some ("_wall",1):Y2),(some ("led",3):Y2),(some ("spots",1):Y2),(some ("reached",3):Y2),(some ("as_part",2):Y2),(some ("least_part",3):Y2),(some ("leads",4):Y2),(some ("lies_in",2):Y2),(some ("lacks",3):Y2),(some ("_law_merged",3):Y2),(some ("_law_world",3):Y2),(some ("_law_led",3):Y2),(some ("_law_same",2):Y2),(some ("_law_grown",3):Y2),(some ("_law_into",5):Y2),(some ("_law_leads",4):Y2),(some ("law",1):Y2)],[none,none,some ("Pattern",3)],[("kinds",0),("doings",0),("behind",2),("ways",1),("end",2)],["together", "doing_ends", "kind_count"],[("STAYING",-1),("MOST_KINDS",3),("MOST_DOINGS",5)]⟩
noncomputable def mcs:List (Nat×Nat):=[(2,1),(2,2),(2,3),(2,4),(2,5)]
def chk:Ck.au8 tab prog.fns Ds sts=true:=by decide+kernel
def bd6:Ck.aph tab.O2=true:=by decide+kernel
def bd7:Ck.tfB prog.fns tab.fns=true:=by decide+kernel
def bd8:Ck.tcB prog tab.cls=true:=by decide+kernel
def bd9:Ck.tmB prog tab mcs=true:=by decide+kernel
open MW
noncomputable def Di(hs:List F)(k i:Nat):Bool:=match hs[i]? with|some f=>decide (f.a=k)|none=>false
noncomputable def o8(hs:List F)(k:Nat):List D:=.int (-1)::((List.range hs.length).filter (Di hs k)).map nD
def Hd(h:d∈o8 hs k):d=.int (-1)\/∃(i:Nat)(f:F),d=.int i/\hs[i]?=some f/\f.a=k:=by
 rcases bx.mp h with q|q
 . exact .inl q
 . obtain⟨i,hi,rfl⟩:=bf.mp q
   obtain⟨h1,h2⟩:=kj.mp hi;have hil:=jn.mp h1;have e:hs[i]?=some hs[i]:=by simp[hil]
   rw[Di,e] at h2;exact .inr ⟨i,hs[i],rfl,e,by simpa using h2⟩
def Mz(h:d∈o8 hs k):∃i:Int,d=.int i:=by rcases Hd h with rfl|⟨i,f,rfl,_⟩<;>exact⟨_,rfl⟩
def Eu(hl:hs.length<=5):(o8 hs k).length<=6:=by have:=o4 (Di hs k) (List.range hs.length);simp at this;simp[o8];exact a_ this hl
noncomputable def ql(K r:Nat)(hs:List F):D:=.tup [.int K,Hg hs,.ref r]
def M9(K r:Nat)(hs:List F)(M:cu):zy (ql K r hs) (.int 0) M=some (.int K):=rfl
def Oc(K r:Nat)(hs:List F)(M:cu):zy (ql K r hs) (.int 1) M=some (Hg hs):=rfl
def awt(K r:Nat)(hs:List F)(M:cu):zy (ql K r hs) (.int 2) M=some (.ref r):=rfl
def Made.keep(h:Made n r K hs gw M)(k:Af M M'):Made n r K hs gw M':=⟨k _ _ h.1,k _ _ h.2⟩
def Made.f2(h:Made n r K hs gw M):O9 (.ref n) 2 M=some (.int K):=by simp[O9,h.1,List.lookup]
def Made.f1(h:Made n r K hs gw M):O9 (.ref n) 1 M=some (Hg hs):=by simp[O9,h.1,List.lookup]
def Made.f0(h:Made n r K hs gw M):O9 (.ref n) 0 M=some (.ref r):=by simp[O9,h.1,List.lookup]
def avb(hm:1<=m)(h:Made n r K hs gw M)(hl:hs.length<=5){k:Nat}:prog.call m 4 [.ref n,.int k] M=.ok (.ref M.length) (M++[.lst (o8 hs k)]):=by
 rw[call_of hm rfl];have hc:Dt.den ⟨prog.call (m-1),prog.cls⟩ [some (.ref n),some (.int k)] M=.ok (.vl (((List.range hs.length).filter (Di hs k)).map nD)) M:=by
  unfold Dt;rw[Va (ds:=hs.map eD) (M1:=M) (q:=Di hs k) (g:=nD) (by simp[h.f1,Hg]) (by simp;exact a_ hl (by decide)) (λi x hx=>by
   obtain⟨f,hf,rfl⟩:∃f,hs[i]?=some f/\eD f=x:=by simpa using hx
   refine⟨_,Ja _ _ _ _ _,?_,λ_=>?_⟩
   . simp[-eq_int,X3,Ak,Di,hf]
   . simp[nD])]
  simp
 have:=aix (M:=M) [.int (-1)] (((List.range hs.length).filter (Di hs k)).map nD) (by
  have:=o4 (Di hs k) (List.range hs.length);simp at this ⊢
  lia)
 simp[Fn.run,Kz,Ky,hc,this,MW.new,o8]
def a09(hm:1<=m)(h:Made n r K hs gw M){k i:Nat}(hf:hs[i]?=some f):prog.call m 5 [.ref n,.int k,.int i] M=.ok (.int f.b) M:=by
 rw[call_of hm rfl];have ni:¬((i:Int)=-1):=by lia
 simp[Fn.run,Hw,Hv,ni,h.f1,P0 hf,X4]
def apl(hm:1<=m)(h:Made n r K hs gw M){k:Nat}:prog.call m 5 [.ref n,.int k,.int (-1)] M=.ok (.int k) M:=by rw[call_of hm rfl];simp[Fn.run,Hw,Hv]
def Wf(hm:1<=m)(hl:hs.length<=5){k:Nat}:prog.call m 18 [ql K r hs,.int k] M=.ok (.vl (o8 hs k)) M:=by
 rw[call_of hm rfl];have hc:Hx.den ⟨prog.call (m-1),prog.cls⟩ [some (ql K r hs),some (.int k)] M=.ok (.vl (((List.range hs.length).filter (Di hs k)).map nD)) M:=by
  unfold Hx;rw[Kw (n:=hs.length) (M1:=M) (q:=Di hs k) (g:=nD) (by simp[Oc,Ox]) (a_ hl (by decide)) (λi hi=>by
   have e:hs[i]?=some hs[i]:=by simp[hi]
   refine⟨_,rfl,?_,λ_=>?_⟩
   . simp[-eq_int,Oc,P0 e,X3,Ak,Di,hi]
   . simp[nD])]
  simp
 have:=Xm (M:=M) [.int (-1)] (((List.range hs.length).filter (Di hs k)).map nD) (by
  have:=o4 (Di hs k) (List.range hs.length);simp at this ⊢
  lia)
 simp[Fn.run,Sv,Su,hc,this,o8]
def avc(hm:1<=m){k i:Nat}(hf:hs[i]?=some f):prog.call m 19 [ql K r hs,.int k,.int i] M=.ok (.int f.b) M:=by
 rw[call_of hm rfl];have ni:¬((i:Int)<0):=by lia
 simp[Fn.run,Oq,Oo,ni,Oc,P0 hf,X4]
def aka(hm:1<=m){k:Nat}:prog.call m 19 [ql K r hs,.int k,.int (-1)] M=.ok (.int k) M:=by rw[call_of hm rfl];simp[Fn.run,Oq,Oo]
def aft(hm:1<=m)(hr:M[r']?=some (.dT gw))(hx:-1<=x)(hy:-1<=y)(hv:bothW hs gw x y=some v):prog.call m 20 [ql K r' hs,.int x,.int y] M=.ok v M:=by
 rw[call_of hm rfl];unfold bothW at hv
 by_cases ex:x=-1
 . rw[cj ex] at hv;cases hv
   subst ex;have:(-1:Int)+y+1=y:=by lia
   simp[Fn.run,Ep,Eo,this]
 . rw[bw ex] at hv
   have nx:¬x<0:=by lia
   by_cases ey:y=-1
   . rw[cj ey] at hv;cases hv
     subst ey;have:x+(-1:Int)+1=x:=by lia
     simp[Fn.run,Ep,Eo,nx,this]
   . rw[bw ey] at hv
     have ny:¬y<0:=by lia
     simp[Fn.run,Ep,Eo,nx,ny,awt,abe hr (Xn x y),hv]
def ah0(ho:o.den W ρ M=.ok (.ref n) M)(he:es.den W ρ M=.ok ds M)(hn:M[n]?=some (.ins c fs))(hm:(W.cls[c]?).bind (λC=>C.meths.lookup mm)=some fi) :
 (Ex.meth o mm es).den W ρ M=W.call fi (.ref n::ds) M:=by
 rw[Pg,ho,Res.yo,he,Res.yo];simp only[hn,hm]
end K55
namespace MW
def Kd(hit:it.den W ρ M=.ok d M1)(hd:fu M1 d=some ds)(hl:ds.length<=100000)(h:∀x∈ds,∃ρ1,t.put x (ρ++List.replicate k none)=some ρ1/\c.den W ρ1 M1=.ok (.bl (q x)) M1/\(q x=true->e.den W ρ1 M1=.ok (g x) M1)) :
 (Ex.Ax v k t (.val it) c e).den W ρ M=if v then .ok (.vl ((ds.filter q).map g)) M1 else new (.lst ((ds.filter q).map g)) M1:=by
 rw[Hk,Hj,hit];obtain⟨s,h1,h2⟩:=Sq (g:=λx=>if q x then some (g x) else none) (body:=λd M=>(Res.uv (t.put d (ρ++List.replicate k none)) M).bind fun ρ' M=>(c.den W ρ' M).bind λb M' =>
  match b with
   |.bl true=>(e.den W ρ' M').bind λx M''=>.ok (some x) M''
   |.bl false=>.ok none M'|_=>.bad) hd hl (λx hx=>by
  obtain⟨ρ1,a,b,c⟩:=h x hx;rw[a,Res.Aw,Res.yo,b,Res.yo];cases e:q x with
  | true=>simp[c e]|false=>simp)
 have:ds.filterMap (λx=>if q x then some (g x) else none)=(ds.filter q).map g:=by
  clear h2 h hl hd
  induction ds with
  |nil=>rfl|cons a l ih=>by_cases e:q a=true<;>simp[e,ih]
 rw[this] at h2;simp only[Res.yo,h1,Res.Aw];exact p7 (λr=>Res.bind r λds M2=>if v=true then Res.ok (D.vl ds) M2 else new (MO.lst ds) M2) h2
end MW
namespace K55
open MW
noncomputable def Ay(hs:List F)(k:Nat):D->Nat
 |.int i=>if i=-1 then k else match hs[i.toNat]? with|some f=>f.b|none=>0
 |_=>0
noncomputable def wT(hs:List F)(k g:Nat):List D:=(o8 hs k).filter λd=>decide (Ay hs k d=g)
def apm(h:d∈wT hs k g):d∈o8 hs k/\Ay hs k d=g:=by have:=kj.mp h;exact⟨this.1,by simpa using this.2⟩
def Qo{i:Nat}(h:hs[i]?=some f):Ay hs k (.int i)=f.b:=by
 have:¬((i:Int)=-1):=by lia
 simp[Ay,this,h]
def a1a{i:Nat}(h:hs[i]?=some f)(e:f.a=k):.int i∈o8 hs k:=by refine bc _ (bf.mpr ⟨i,kj.mpr ⟨jn.mpr (ak.mp h).1,?_⟩,rfl⟩);simp[Di,h,e]
def awu{i:Nat}(h:hs[i]?=some f)(e:f.a=k):.int i∈wT hs k f.b :=
 kj.mpr ⟨a1a h e,by simp[Qo h]⟩
def a1b(h:d∈wT hs k g):∃i:Int,d=.int i:=Mz (apm h).1
noncomputable def bv(hs:List F)(gw:List (List Kx×D))(j:Nat):D->Int
 |.int x=>match bothW hs gw x j with|some (.int v)=>v|_=>0
 |_=>0
def avd(P:Kf sz K hs gw){j:Nat}(hj:hs[j]?=some f)(hd:d∈wT hs k f.a) :
 ∃x:Int,d=.int x/\-1<=x/\bothW hs gw x j=some (.int (bv hs gw j d))/\.int (bv hs gw j d)∈wT hs k f.b:=by
 obtain⟨h1,h2⟩:=apm hd;have nj:¬((j:Int)=-1):=by lia
 rcases Hd h1 with rfl|⟨i,g,rfl,hg,e⟩
 . have e:k=f.a:=by simpa[Ay] using h2
   have:bothW hs gw (-1) j=some (.int j):=by simp[bothW]
   refine⟨-1,rfl,by lia,by simp[bv,this],?_⟩;simp only[bv,this];exact awu hj e.symm
 . rw[Qo hg] at h2
   have ni:¬((i:Int)=-1):=by lia
   have:bothW hs gw i j=some (.int (ent hs g f)):=by rw[bothW,bw ni,bw nj];exact P.look hg hj h2
   refine⟨i,rfl,by lia,by simp[bv,this],?_⟩;simp only[bv,this];have mg:=au hg;have mf:=au hj;rw[Oz];rcases P.G8 (P.cl g mg f mf h2) with⟨x1,i1⟩|⟨u,hu,x1⟩
   . rw[x1]
     refine kj.mpr ⟨by simp[o8],?_⟩;have:g.a=f.b:=i1.1;simp[Ay,<- e,this]
   . rw[x1]
     exact awu (f:=g.comp f) hu e
noncomputable def ixI(v:Int)(ds:List D):Nat:=(ds.findIdx? λd=>match d with|.int i=>decide (i=v)|_=>false).getD 0
theorem Wg(M:cu)(v:Int):∀ds:List D,(∀d∈ds,∃i:Int,d=.int i)->Oh M (.int v) ds=some (ds.map λd=>match d with|.int i=>decide (i=v)|_=>false)
 |[],_=>rfl
 |d::l,h=>by
  obtain⟨i,rfl⟩:=h d (by simp);simp[Oh,Wg M v l (λx hx=>h x (bc _ hx))]
theorem adl{α:Type}(f:α->Bool):∀l:List α,(l.map f).findIdx? id=l.findIdx? f
 |[]=>rfl|a::l=>by simp[List.findIdx?_cons,adl f l]
def apn(hi:∀d∈ds,∃i:Int,d=.int i)(h:.int v∈ds):Gi .index (.vl ds) [.int v] M=.ok (.int (ixI v ds)) M:=by
 have e:W3 M (.int v) ds=some (ixI v ds):=by
  rw[W3,Wg M v ds hi,uo,adl];unfold ixI;cases q:ds.findIdx? (λd=>match d with|.int i=>decide (i=v)|_=>false) with
  |some j=>rfl
  |none =>
   rw[xf] at q;have:=q _ h;simp at this
 simp[Gi,e]
end K55
namespace K55
open MW
def Wh(hm:1<=m)(hd:d∈o8 hs k):prog.call m 19 [ql K r hs,.int k,d] M=.ok (.int (Ay hs k d)) M:=by
 rcases Hd hd with rfl|⟨i,f,rfl,hf,_⟩
 . rw[aka hm];simp[Ay]
 . rw[avc hm hf,Qo hf]
noncomputable def RS(p K:Nat)(rs:Nat->List D)(M:cu):Prop:=∀i,i<K->M[p+i]?=some (.lst (rs i))
noncomputable def uy(p K:Nat):List D:=(List.range K).map λi=>.ref (p+i)
theorem RS.keep(h:RS p K rs M)(s:St t f M M')(ht:t<p):RS p K rs M':=λi hi=>s.keep _ _ (i_ (b_ ht x_)) (h i hi)
def Ur(hi:i<K):zy (.vl (uy p K)) (.int i) M=some (.ref (p+i)):=Bt rfl q_ (by simp[uy,hi])
def adm(hy:y=ρ.length)(he:e.den W ρ M=.ok (.int K) M)(hK:K<=100000) :
 (Ex.comp true 1 (.name y) (.Jz e) (.lst .nil)).den W ρ M=.ok (.vl (uy M.length K)) (M++List.replicate K (.lst [])):=by
 subst hy;obtain⟨ys,M',g,h1,h2⟩:=Zh (v:=true) (k:=1) (t:=.name ρ.length) (e:=.lst .nil) he hK (λi xs M'=>xs=uy M.length i/\M'=M++List.replicate i (.lst [])) ⟨rfl,by simp⟩
  (λi xs M' hi hI=>by
   obtain⟨rfl,rfl⟩:=hI;refine⟨_,.ref (M.length+i),M++List.replicate i (MO.lst [])++[MO.lst []],rfl,by simp[MW.new],?_,?_⟩
   . simp[uy,u5]
   . simp[List.replicate_succ'])
 rw[g,h1,h2];rfl
noncomputable def rowsOf(hs:List F)(ad:List (Nat×Nat))(e:Nat):List D:=ad.flatMap λp=>(wT hs p.2 e).map λw=>.tup [.int p.1,.int p.2,w]
def Wi(hs:List F)(ad:List (Nat×Nat))(p:Nat×Nat)(e:Nat):rowsOf hs (ad++[p]) e=rowsOf hs ad e++(wT hs p.2 e).map λw=>.tup [.int p.1,.int p.2,w]:=by simp[rowsOf]
def Us(P:Kf sz K hs gw)(hk:k<K)(hd:d∈o8 hs k):Ay hs k d<K:=by
 rcases Hd hd with rfl|⟨i,f,rfl,hf,_⟩
 . simpa[Ay] using hk
 . rw[Qo hf];exact P.ai5 f (au hf)
def ave(hm:1<=m)(hl:hs.length<=5)(h1:ρ[1]?=some (some (ql K r hs)))(h5:ρ[5]?=some (some (.int k)))(hy:ρ.length=19) :
 G4.den ⟨prog.call m,prog.cls⟩ ρ M=.ok (.vl ((o8 hs k).map λw=>.tup [.int (Ay hs k w),w])) M:=by
 unfold G4;rw[yg (d:=.vl (o8 hs k)) (ds:=o8 hs k) (M1:=M) (g:=λw=>.tup [.int (Ay hs k w),w]) (by simp[h1,h5,Wf hm hl]) rfl (gq (Eu hl) (by decide)) (λx hx=>by
  refine⟨_,rfl,?_⟩;have e1:(ρ++List.replicate 1 none).set 19 (some x)=ρ++[some x]:=by rw[List.set_append];simp[hy]
  rw[e1];have g1:(ρ++[some x])[1]?=some (some (ql K r hs)):=by rw[dz (b_ (by decide) (g_ hy))];exact h1
  have g5:(ρ++[some x])[5]?=some (some (.int k)):=by rw[dz (b_ (by decide) (g_ hy))];exact h5
  have g9:(ρ++[some x])[19]?=some (some x):=by rw[<- hy];simp
  simp[g1,g5,g9,Wh hm hx])]
 rfl
noncomputable def Ut(p:Nat)(M M':cu):Prop:=∀(a:Nat)(o:MO),a<p->M[a]?=some o->M'[a]?=some o
def Ut.refl(p:Nat)(M:cu):Ut p M M:=λ_ _ _ h=>h
def Ut.trans(a:Ut p M M1)(b:Ut p M1 M2):Ut p M M2:=λx o h e=>b x o h (a x o h e)
theorem Ut.set(h:p<=q):Ut p M (M.set q o):=λa u ha e=>by rw[qx (i_ (b_ ha h))];exact e
noncomputable def trD(n k:Nat)(w:D):D:=.tup [.int n,.int k,w]
def awv(n k:Nat)(w:D):D.tup [.int n,.int k,w]=trD n k w:=rfl
noncomputable def aaw(hs:List F)(rs:Nat->List D)(n k j:Nat)(e:Nat):List D:=rs e++(((o8 hs k).take j).filter λw=>decide (Ay hs k w=e)).map (trD n k)
def apo(hs:List F)(rs:Nat->List D)(n k e:Nat):aaw hs rs n k (o8 hs k).length e=rs e++(wT hs k e).map (trD n k):=by unfold aaw wT;rw[List.take_length]
def apq(hl:hs.length<=5)(h7:(rs e).length<=7):(aaw hs rs n k j e).length<=13:=by
 have h1:=o4 (λw=>decide (Ay hs k w=e)) ((o8 hs k).take j);have h2:=Eu (k:=k) hl;have h3:((o8 hs k).take j).length<=(o8 hs k).length:=by simp;lia
 simp only[aaw,qz,du]
 lia
def Y5(P:Kf sz K hs gw)(hk:k<K)(h:RS p K rs M)(h7:∀e,e<K->(rs e).length<=7)(hr:rest.length=10) :
 ∃b7 b8 M',Ln.den W ([a0,a1,a2,some (.vl (uy p K)),some (.int n),some (.int k),some (.vl ((o8 hs k).map λw=>.tup [.int (Ay hs k w),w])),b7',b8']++rest) M
  = .ok (.next,[a0,a1,a2,some (.vl (uy p K)),some (.int n),some (.int k),some (.vl ((o8 hs k).map λw=>.tup [.int (Ay hs k w),w])),b7,b8]++rest) M'/\RS p K (λe=>rs e++(wT hs k e).map (trD n k)) M'/\Ut p M M'/\M'.length=M.length:=by
 have hl:=P.len;obtain⟨ρ',M',e,⟨c7,c8,rfl⟩,r1,r2,r3⟩:=Jh (W:=W) (t:=.names [7,8]) (b:=Dd) (it:=.v 6) (d:=.vl ((o8 hs k).map λw=>.tup [.int (Ay hs k w),w])) (ds:=(o8 hs k).map λw=>.tup [.int (Ay hs k w),w])
  (ρ:=[a0,a1,a2,some (.vl (uy p K)),some (.int n),some (.int k),some (.vl ((o8 hs k).map λw=>.tup [.int (Ay hs k w),w])),b7',b8']++rest) (M:=M) (M1:=M) (by simp) rfl
  (λj ρ M'=>(∃b7 b8:Option D,ρ=[a0,a1,a2,some (.vl (uy p K)),some (.int n),some (.int k),some (.vl ((o8 hs k).map λw=>.tup [.int (Ay hs k w),w])),b7,b8]++rest)/\RS p K (aaw hs rs n k j) M'/\Ut p M M'/\M'.length=M.length)
  ⟨⟨b7',b8',rfl⟩,λi hi=>by rw[h i hi];simp[aaw],Ut.refl _ _,rfl⟩ (λ_ _ _ _=>rfl)
  (λj x ρ M1 hx hI=>by
   obtain⟨⟨c7,c8,rfl⟩,q1,q2,q3⟩:=hI;obtain⟨w,hw,rfl⟩:∃w,(o8 hs k)[j]?=some w/\D.tup [.int (Ay hs k w),w]=x:=by simpa using hx
   have hwm:=au hw;have he:=Us P hk hwm;have g:=q1 _ he;have ap:=Cw (d:=trD n k w) g (by have:=apq (n:=n) (k:=k) (j:=j) hl (h7 _ he);exact c_ this (by decide));refine⟨_,.next,_,M1.set (p+Ay hs k w) (.lst (aaw hs rs n k j (Ay hs k w)++[trD n k w])),Ja _ _ _ _ _,?_,.inl rfl,⟨some (.int (Ay hs k w)),some w,rfl⟩,?_,q2.trans (Ut.set x_),by simp[q3]⟩
   . show Dd.den W (a0::a1::a2::some (.vl (uy p K))::some (.int n)::some (.int k)::some (.vl ((o8 hs k).map λw=>.tup [.int (Ay hs k w),w]))::some (.int (Ay hs k w))::some w::rest) M1=_
     simp[Dd,Ur he,Dr g,awv,ap]
   . intro i hi
     have e1:(o8 hs k).take (j+1)=(o8 hs k).take j++[w]:=by rw[List.take_succ,hw];rfl
     by_cases z:i=Ay hs k w
     . subst z
       rw[uw g];simp[aaw,e1,List.filter_append]
     . rw[qx (by lia),q1 i hi]
       simp[aaw,e1,List.filter_append,jx z])
 refine⟨c7,c8,M',e,λi hi=>?_,r2,r3⟩;rw[r1 i hi];simp only[du];rw[apo]
structure Gs(t:Nat)(f:Bool)(p:Nat)(M M':cu):Prop where
 has:T4 t f M'
 low:∀(a:Nat)(o:MO),a<p->a≠t->M[a]?=some o->M'[a]?=some o
 len:M.length<=M'.length
def Gs.trans(a:Gs t f p M M1)(b:Gs t f p M1 M2):Gs t f p M M2:=⟨b.has,λx o h n e=>b.low x o h n (a.low x o h n e),gq a.len b.len⟩
def Gs.Wj(s:St t f M M1):Gs t f p M M1:=⟨s.has,λa o _ n e=>s.keep a o n e,s.len⟩
def Ut.has(h:T4 t f M)(l:Ut p M M1)(ht:t<p):T4 t f M1:=by obtain⟨n,e,o⟩:=h;exact⟨n,l _ _ ht e,o⟩
def Gs.afu(h:T4 t f M)(l:Ut p M M1)(ht:t<p)(hl:M.length<=M1.length):Gs t f p M M1:=⟨l.has h ht,λa o x _ e=>l a o x e,hl⟩
def Gs.refl(h:T4 t f M):Gs t f p M M:=⟨h,λ_ _ _ _ e=>e,bu _⟩
def Gs.st(g:Gs t f M.length M M1):St t f M M1:=⟨g.len,g.has,λa o n e=>g.low a o (wj e) n e⟩
def Gs.app(h:T4 t f M)(hp:p<=M.length)(X:cu):Gs t f p M (M++X):=⟨by obtain⟨n,e,o⟩:=h;exact⟨n,o7 e,o⟩,λa o _ _ e=>o7 e,by simp⟩
def avf(hy:ρ.length=y)(h3:ρ[3]?=some (some (.vl (uy p K))))(h:RS p K rs M)(hK:K<=3) :
 (Ex.comp true 1 (.name y) (.val (.v 3)) (.blt .len (.o (.var y)))).den W ρ M=.ok (.vl (((List.range K).map λi=>(rs i).length).map nD)) M:=by
 subst hy;rw[yg (d:=.vl (uy p K)) (ds:=uy p K) (M1:=M) (g:=λd=>match ud .len [d] M with|.ok x _=>x|_=>.non) (by simp[h3]) rfl (by simp[uy];exact a_ hK (by decide)) (λd hd=>by
  obtain⟨i,hi,rfl⟩:=bf.mp hd;refine⟨_,rfl,?_⟩;simp[len_list (o6 (h i (jn.mp hi)))])]
 simp only[ju,uy,yr]
 congr 2
 apply qb;intro i hi;simp[len_list (o6 (h i (jn.mp hi))),nD]
structure Rw(hs:List F)(K p:Nat)(ad:List (Nat×Nat))(M:cu):Prop where
 rs:RS p K (rowsOf hs ad) M
 kd:∀q∈ad,q.2<K
 le:∀e,e<K->(rowsOf hs ad e).length<=7
 nd:(ad.map (·.1)).Nodup
def avh(hm:1<=m)(P:Kf sz K hs gw)(hh:T4 t f M)(ht:t<p)(h:Rw hs K p ad M)(hn:∀q∈ad,q.1<n)(hr:rest.length=10) :
 ∃c5 c6 c7 c8 ad' M',Bo.den ⟨prog.call m,prog.cls⟩ ([some (.ref t),some (ql K r hs),some (.int 3),some (.vl (uy p K)),some (.int n),b5,b6,b7,b8]++rest) M
  = .ok (.next,[some (.ref t),some (ql K r hs),some (.int 3),some (.vl (uy p K)),some (.int n),c5,c6,c7,c8]++rest) M'/\Rw hs K p ad' M'/\(∀q∈ad',q.1<n+1)/\Gs t f p M M'/\M'.length=M.length:=by
 have hl:=P.len;have h3:=P.k3;obtain⟨k,M1,e1,l1,s1,n1⟩:=Aq (many:=K) hm hh (by have:=P.k1;exact m_ this) (m_ (c_ h3 (by decide)));have hk:k<K:=o_ l1
 have r1:=h.rs.keep s1 ht;have c9:=ave (M:=M1) (r:=r) (K:=K) (hs:=hs) (ρ:=[some (.ref t),some (ql K r hs),some (.int 3),some (.vl (uy p K)),some (.int n),some (.int k),b6,b7,b8]++rest) (k:=k) hm hl rfl rfl (by simp[hr]);have c8:=avf (W:=⟨prog.call m,prog.cls⟩) (M:=M1) (ρ:=[some (.ref t),some (ql K r hs),some (.int 3),some (.vl (uy p K)),some (.int n),some (.int k),some (.vl ((o8 hs k).map λw=>.tup [.int (Ay hs k w),w])),b7,b8]++rest) (y:=19) (by simp[hr]) rfl r1 h3;obtain⟨v,e3,v1,v2⟩:=amj (M:=M1) (xs:=(List.range K).map λi=>(rowsOf hs ad i).length) (by have:=P.k1;intro z;have:=p7 List.length z;simp at this;exact l_ (o_ l1) (a_ (f_ this) (jt _)));generalize hL:(D.vl (((List.range K).map λi=>(rowsOf hs ad i).length).map nD))=L at e3 c8;have hlen:ud .len [.vl ((o8 hs k).map λw=>D.tup [.int (Ay hs k w),w])] M1=.ok (.int (o8 hs k).length) M1:=by simp[ud,Q4]
 by_cases q:v+(o8 hs k).length<8
 . have q':(v:Int)+((o8 hs k).length:Int)<8:=by lia
   obtain⟨d7,d8,M2,e4,r2,lo,n2⟩:=Y5 (W:=⟨prog.call m,prog.cls⟩) (M:=M1) P (n:=n) hk r1 h.le (a0:=some (.ref t)) (a1:=some (ql K r hs)) (a2:=some (.int 3)) (b7':=b7) (b8':=b8) (rest:=rest) hr;refine⟨some (.int k),some (.vl ((o8 hs k).map λw=>D.tup [.int (Ay hs k w),w])),d7,d8,ad++[(n,k)],M2,?_,⟨λi hi=>?_,λq hq=>?_,λe he=>?_,?_⟩,λq hq=>?_,(Gs.Wj s1).trans (Gs.afu s1.has lo ht (g_ n2)),n2.trans n1⟩
   . simp only[yp,zb] at c9 c8 e4 ⊢
     simp[Bo,M9,e1,c9,G3,c8,e3,hlen,q',e4]
   . rw[r2 i hi,Wi];rfl
   . rcases dw.mp hq with z|z
     . exact h.kd q z
     . have:q=(n,k):=by simpa using z
       rw[this];exact hk
   . rw[Wi,qz,du]
     have a1:=v1 (rowsOf hs ad e).length (bf.mpr ⟨e,jn.mpr he,rfl⟩);have a2:(wT hs k e).length<=(o8 hs k).length:=o4 _ _
     simp only
     lia
   . rw[ph]
     refine yd.mpr ⟨h.nd,by simp,λa ha b hb=>?_⟩;obtain⟨q,hq,rfl⟩:=bf.mp ha;have:b=n:=by simpa using hb
     have:=hn q hq
     lia
   . rcases dw.mp hq with z|z
     . have:=hn q z;exact A_ (e_ this)
     . have:q=(n,k):=by simpa using z
       rw[this];exact m9 n
 . have q':¬(v:Int)+((o8 hs k).length:Int)<8:=by lia
   refine⟨some (.int k),some (.vl ((o8 hs k).map λw=>D.tup [.int (Ay hs k w),w])),b7,b8,ad,M1,?_,⟨r1,h.kd,h.le,h.nd⟩,λq hq=>by have:=hn q hq;exact A_ (e_ this),Gs.Wj s1,n1⟩;simp only[yp,zb] at c9 c8 ⊢;simp[Bo,M9,e1,c9,G3,c8,e3,hlen,q']
theorem ah1{M:cu}{x:D}:∀{ds:List D},(∀y∈ds,∃b,wz M y x=some b)->∃bs:List Bool,Oh M x ds=some bs/\bs.length=ds.length/\∀(i:Nat)(y:D),ds[i]?=some y->(bs[i]?).map some=some (wz M y x)
 |[],_=>⟨[],rfl,rfl,λi y h=>by simp at h⟩
 |y::l,h=>by
  obtain⟨b,hb⟩:=h y (by simp);obtain⟨bs,h1,h2,h3⟩:=ah1 (λz hz=>h z (bc _ hz));refine⟨b::bs,by simp[Oh,hb,h1],by simp[h2],λi z hz=>?_⟩;cases i with
  |zero=>simp at hz;subst hz;simp[hb]|succ i=>simpa using h3 i z (by simpa using hz)
def a1d(h:∀y∈ds,∃b,wz M y x=some b)(hx:x∈ds)(he:wz M x x=some true):∃j y,W3 M x ds=some j/\ds[j]?=some y/\wz M y x=some true:=by
 obtain⟨bs,h1,h2,h3⟩:=ah1 h;obtain⟨i,hi,ei⟩:=ou hx;have h4:=h3 i x (by simp[hi,ei]);rw[he] at h4;obtain⟨b,e1,e2⟩:=bz.mp h4;cases e2;rw[W3,h1,uo];cases q:bs.findIdx? id with
 |some j =>
  obtain⟨g1,g2,_⟩:=um.mp q;have g3:ds[j]?=some (ds[j]'(b_ g1 (f_ h2))):=dh (b_ g1 (f_ h2));have g4:=h3 j _ g3;rw[dh g1] at g4;simp only[u9,Option.some.injEq] at g4;exact⟨j,_,rfl,g3,by rw[<- g4];simpa using g2⟩
 |none =>
  rw[xf] at q;have:=q true (au e1);simp at this
def avi(hp:M[p]?=some (.lst ds))(h:∀y∈ds,∃b,wz M y x=some b)(hx:x∈ds)(he:wz M x x=some true):∃(j:Nat)(y:D),Gi .index (.ref p) [x] M=.ok (.int j) M/\ds[j]?=some y/\wz M y x=some true:=by obtain⟨j,y,h1,h2,h3⟩:=a1d h hx he;exact⟨j,y,by simp[Gi,U8 (o6 hp),h1],h2,h3⟩
def avj(hp:M[p]?=some (.lst ds)):Ke .index (.ref p) M=true:=by simp[Ke,o6 hp]
def apr(M:cu)(n k n' k':Nat)(a a':Int):wz M (trD n k (.int a)) (trD n' k' (.int a'))=some (decide (n=n')&&(decide (k=k')&&(decide (a=a')&&true))):=by show Q3 (Km M 5) [.int n,.int k,.int a] [.int n',.int k',.int a']=_;rw[Cv (Jl M 4 n n') (Cv (Jl M 4 k k') (Cv (aga 4 a a') (show Q3 (Km M 5) [] []=some true from rfl)))]
def Jt(h:d∈rowsOf hs ad e):∃(n k:Nat)(x:Int),(n,k)∈ad/\.int x∈wT hs k e/\d=trD n k (.int x):=by obtain⟨q,hq,hd⟩:=List.mem_flatMap.mp h;obtain⟨w,hw,rfl⟩:=bf.mp hd;obtain⟨x,rfl⟩:=a1b hw;exact⟨q.1,q.2,x,hq,hw,rfl⟩
def akb(h:(n,k)∈ad)(hw:w∈wT hs k e):trD n k w∈rowsOf hs ad e :=
 List.mem_flatMap.mpr ⟨(n,k),h,bf.mpr ⟨w,hw,rfl⟩⟩
structure Ae(hs:List F)(gw:List (List Kx×D))(ad:List (Nat×Nat))(j:Nat)(g:F)(js:Y3):Prop where
 len:js.length=(rowsOf hs ad g.a).length
 go:∀(i n k:Nat)(x:Int),(rowsOf hs ad g.a)[i]?=some (trD n k (.int x))->(rowsOf hs ad g.b)[js.getD i 0]?=some (trD n k (.int (bv hs gw j (.int x))))
def aps(h:i<l.length):(l++[x]).getD i 0=l.getD i 0:=by rw[dj,dz h,dj]
def Ae.lt(h:Ae hs gw ad j g js):∀x∈js,x<(rowsOf hs ad g.b).length:=λx hx=>by
 obtain⟨i,hi,rfl⟩:=ou hx;have hi2:i<(rowsOf hs ad g.a).length:=by rw[<- h.len];exact hi
 obtain⟨n,k,y,_,_,e⟩:=Jt (p8 hi2);have:=h.go i n k y (by rw[dh hi2,e]);rw[dj,dh hi] at this;exact(ak.mp this).1
def a1e(hm:1<=m)(P:Kf sz K hs gw)(hr:M[r]?=some (.dT gw)){j:Nat}(h:Rw hs K p ad M)(hj:hs[j]?=some g)(a8j:rest.length=6) :
 ∃js:List Nat,Gy.den ⟨prog.call m,prog.cls⟩ ([a0,some (ql K r hs),a2,some (.vl (uy p K)),a4,a5,a6,a7,a8,a9,some (.int j),some (.int g.a),some (.int g.b)]++rest) M=.ok (.vl (js.map nD)) M /\
  Ae hs gw ad j g js:=by
 have hg:=au hj;have ha:=P.ami g hg;have hb:=P.ai5 g hg;have ga:=h.rs _ ha;have gb:=h.rs _ hb;unfold Gy;obtain⟨ys,M',e,hI⟩:=Em (W:=⟨prog.call m,prog.cls⟩) (v:=true) (k:=3) (t:=.names [19,20,21]) (it:=.ix (.v 3) (.v 11)) (e:=.bm .index (.ix (.v 3) (.v 12)) (.o (.tup (.q (.v 19) (.v 20) (.call 20 (.q (.v 1) (.v 21) (.v 10)))))))
  (ρ:=[a0,some (ql K r hs),a2,some (.vl (uy p K)),a4,a5,a6,a7,a8,a9,some (.int j),some (.int g.a),some (.int g.b)]++rest) (M:=M) (M1:=M) (d:=.ref (p+g.a)) (ds:=rowsOf hs ad g.a) (by simp[Ur ha]) (o6 ga) (by have:=h.le _ ha;exact a_ this (by decide))
  (λi xs M'=>M'=M/\∃js:List Nat,xs=js.map nD/\js.length=i/\∀(i' n k:Nat)(x:Int),i'<i->(rowsOf hs ad g.a)[i']?=some (trD n k (.int x))->(rowsOf hs ad g.b)[js.getD i' 0]?=some (trD n k (.int (bv hs gw j (.int x))))) ⟨rfl,[],rfl,rfl,by simp⟩ (λi xs M' h=>by rw[h.1];exact o6 ga)
  (λi y xs M' hy hI=>by
   obtain⟨rfl,js,rfl,q1,q2⟩:=hI;obtain⟨n,k,x,h1,h2,rfl⟩:=Jt (au hy);obtain⟨x',z,hx,hv,Wz⟩:=avd P hj h2;cases z;obtain⟨jj,yy,e1,e2,e3⟩:=avi (x:=trD n k (.int (bv hs gw j (.int x)))) gb (λy hy=>by obtain⟨n',k',x'',_,_,rfl⟩:=Jt hy;exact⟨_,apr _ _ _ _ _ _ _⟩) (akb h1 Wz) (by rw[apr];simp);refine⟨_,.int jj,M',rfl,?_,rfl,js++[jj],by simp[nD],by simp[q1],λi' n' k' x' hi' hx'=>?_⟩
   . have hl:rest.length=6:=a8j
     match rest,hl with
     |[r0,r1,r2,r3,r4,r5],_ =>
      show(Ex.bm .index (.ix (.v 3) (.v 12)) (.o (.tup (.q (.v 19) (.v 20) (.call 20 (.q (.v 1) (.v 21) (.v 10))))))).den _ [a0,ql K r hs,a2,D.vl (uy p K),a4,a5,a6,a7,a8,a9,D.int j,D.int g.a,D.int g.b,r0,r1,r2,r3,r4,r5,D.int n,D.int k,D.int x] M'=_;simp[Ur hb,avj gb,aft hm hr hx (show(-1:Int)<=j by lia) hv,awv,e1]
   . by_cases z:i'<i
     . rw[aps (b_ z (g_ q1))];exact q2 i' n' k' x' z hx'
     . have z:i'=i:=u_ (z_ hi') (s_ z)
       subst z;rw[hy] at hx';simp only[trD,Option.some.injEq,D.tup.injEq,List.cons.injEq,D.int.injEq,Int.ofNat_inj,and_true] at hx';obtain⟨rfl,rfl,rfl⟩:=hx';have ej:(js++[jj]).getD i' 0=jj:=by rw[<- q1];simp[dj]
       rw[ej,e2];obtain⟨n3,k3,x3,_,_,rfl⟩:=Jt (au e2);rw[apr] at e3;simp only[Option.some.injEq,ao,dg,and_true] at e3;obtain⟨rfl,rfl,rfl⟩:=e3;rfl)
 obtain⟨rfl,js,rfl,q1,q2⟩:=hI;exact⟨js,by rw[e];rfl,q1,λi n k x h=>q2 i n k x (ak.mp h).1 h⟩
noncomputable def up(ms:Nat->List Nat)(i:Nat)(ns:Y3):Nat->List Nat:=λe=>if e=i then ns else ms e
noncomputable def Ha(lo hi:Nat)(l:Y3):List Nat:=l.map λo=>if o=hi then lo else o
theorem ah2{lo hi:Nat}(h:lo<hi):∀l:List Nat,(Ha lo hi l).sum<=l.sum
 |[]=>bu _
 |a::l=>by
  have:=ah2 h l;simp only[Ha,gm,List.sum_cons] at this ⊢;split<;>omega
theorem ah3{lo hi:Nat}(h:lo<hi):∀{l:Y3},hi∈l->(Ha lo hi l).sum<l.sum
 |a::l,hm=>by
  have h1:=ah2 h l;simp only[Ha,gm,List.sum_cons] at h1 ⊢
  by_cases z:a=hi
  . rw[cj z];exact b_ (G_ h) (a_ (v_ (g_ z)) (w_ h1))
  . have:=ah3 h (show hi∈l from by simpa[jx z] using hm)
    simp only[Ha] at this;rw[bw z];exact H_ this
noncomputable def Xb(K:Nat)(ms:Nat->List Nat):Nat:=((List.range K).map λi=>(ms i).sum).sum
theorem apt{ms:Nat->List Nat}{b:Nat}{ns:Y3}(h:ns.sum<(ms b).sum):∀K,Xb K (up ms b ns)<=Xb K ms/\(b<K->Xb K (up ms b ns)<Xb K ms)
 |0=>⟨bu _,λz=>absurd z (xq _)⟩
 |K+1=>by
  obtain⟨h1,h2⟩:=apt h K;simp only[Xb,u5,ph,List.sum_append,gm,List.map_nil,List.sum_cons,List.sum_nil] at h1 h2 ⊢
  by_cases z:K=b
  . subst z
    have e:up ms K ns K=ns:=by simp[up]
    rw[e];constructor
    . exact e_ (c_ (v_ h1) (H_ (G_ h)))
    . intro _;exact c_ (v_ h1) (H_ (G_ h))
  . have e:up ms b ns K=ms K:=by simp[up,z]
    rw[e];constructor
    . exact v_ h1
    . intro q;have:=h2 (by lia);exact G_ this
structure Mk(t pm K:Nat)(L:Nat->Nat)(ms:Nat->List Nat)(M:cu):Prop where
 ex:∃mds:List D,M[pm]?=some (.lst mds)/\mds.length=K/\∀i,i<K->∃d,mds[i]?=some d/\fu M d=some ((ms i).map nD)/\∀a,d=.ref a->t<a/\a<pm
 len:∀i,i<K->(ms i).length=L i
 lt:∀i,i<K->∀x∈ms i,x<L i
 fx:∀i,i<K->∀x∈ms i,(ms i).getD x 0=x
def Wk(h:fu M d=some ds)(k:∀a o,d=.ref a->M[a]?=some o->M'[a]?=some o):fu M' d=some ds:=by
 cases d with
 |ref a =>
  simp only[fu] at h ⊢;cases e:M[a]? with
  |none=>rw[e] at h;cases h|some o=>rw[e] at h;rw[k a o rfl e];exact h
 |vl xs=>exact h|_=>cases h
def Mk.frame(h:Mk t pm K L ms M)(k:∀(a:Nat) (o:MO),t<a->a<=pm->M[a]?=some o->M'[a]?=some o)(ht:t<pm):Mk t pm K L ms M':=by obtain⟨mds,h1,h2,h3⟩:=h.ex;refine⟨⟨mds,k _ _ ht (bu _) h1,h2,λi hi=>?_⟩,h.len,h.lt,h.fx⟩;obtain⟨d,g1,g2,g3⟩:=h3 i hi;exact⟨d,g1,Wk g2 λa o e q=>k a o (g3 a e).1 (xg (g3 a e).2) q,g3⟩
def Mk.row(h:Mk t pm K L ms M)(hi:i<K):∃d,zy (.ref pm) (.int i) M=some d/\fu M d=some ((ms i).map nD):=by obtain⟨mds,h1,h2,h3⟩:=h.ex;obtain⟨d,g1,g2,_⟩:=h3 i hi;exact⟨d,Bt (o6 h1) q_ (by simpa using g1),g2⟩
def O4{l:Y3}(h:fu M d=some (l.map nD))(hx:x<l.length):zy d (.int x) M=some (.int (l.getD x 0)) :=
 Bt h q_ (by simp[hx,nD])
def getD_mem'{l:Y3}(hx:x<l.length):l.getD x 0∈l:=by rw[dj,dh hx];exact p8 hx
set_option tactic.hygienic true in
theorem Mk.set(h:Mk t pm K L ms M)(hi:i<K)(h1:ns.length=L i)(h2:∀x∈ns,x<L i)(h4:∀x∈ns,ns.getD x 0=x)(ht:t<pm) :
 ∃o,setOp (.ref pm) (.int i) (.vl (ns.map nD)) M=some (M.set pm o)/\Mk t pm K L (up ms i ns) (M.set pm o):=by
 obtain⟨mds,g1,g2,g3⟩:=h.ex;refine⟨.lst (mds.set i (.vl (ns.map nD))),?_,⟨mds.set i (.vl (ns.map nD)),uw g1,by simp[g2],λe he=>?_⟩,λe he=>?_,λe he x hx=>?_,λe he x hx=>?_⟩
 . have:=Zd (d:=.vl (ns.map nD)) (i:=i) g1 q_ (m_ (b_ hi (g_ g2)))
   simpa using this
 . by_cases z:e=i
   . subst z
     exact⟨.vl (ns.map nD),by simp[g2,he],by simp[up],λa q=>by cases q⟩
   . obtain⟨d,k1,k2,k3⟩:=g3 e he
     refine⟨d,by rw[ur (jx z)];exact k1,?_,k3⟩;have:up ms i ns e=ms e:=by simp[up,z]
     rw[this];exact Wk k2 λa o q w=>by rw[qx (by have:=(k3 a q).2;exact i_ this)];exact w
 . unfold up;split
   . rename_i z;rw[z];exact h1
   . exact h.len e he
 . unfold up at hx;split at hx
   . rename_i z;rw[z];exact h2 x hx
   . exact h.lt e he x hx
 . unfold up at hx ⊢;split at hx
   . rename_i z;rw[cj z];exact h4 x hx
   . rename_i z;rw[bw z];exact h.fx e he x hx
def getD_map{α:Type}{l:Y3}{f:Nat->Nat}{x:Nat}(h:x<l.length):(l.map f).getD x 0=f (l.getD x 0):=by simp[dj,iz,dh h]
set_option tactic.hygienic true in
def ah4(fx:∀x∈l,l.getD x 0=x)(lt:∀x∈l,x<l.length)(hlo:lo∈l):∀x∈Ha lo hi l,(Ha lo hi l).getD x 0=x:=λx hx=>by
 obtain⟨o,ho,e⟩:=bf.mp hx;have h1:x∈l:=by
  split at e
  . rw[<- e];exact hlo
  . rw[<- e];exact ho
 unfold Ha;rw[getD_map (α:=Nat) (lt x h1),fx x h1]
 by_cases z:x=hi
 . rw[cj z]
   split at e
   . exact e
   . rename_i w;exact absurd (e.trans z) w
 . rw[bw z]
structure Ac(q:Nat)(hs:List F)(L:Nat->Nat)(as:List (List Nat))(M:cu):Prop where
 at_:M[q]?=some (.lst (as.map λjs=>.vl (js.map nD)))
 len:as.length=hs.length
 ok:∀(j:Nat)(g:F)(js:Y3),hs[j]?=some g->as[j]?=some js->js.length=L g.a/\∀x∈js,x<L g.b
def Ac.get(h:Ac q hs L as M){j:Nat}(hj:hs[j]?=some g):∃js,as[j]?=some js/\zy (.ref q) (.int j) M=some (.vl (js.map nD))/\js.length=L g.a/\∀x∈js,x<L g.b:=by
 have hl:=(ak.mp hj).1;have hl2:j<as.length:=by rw[h.len];exact hl
 have e:as[j]?=some as[j]:=dh hl2;exact⟨_,e,Bt (o6 h.at_) q_ (by simp[e]),h.ok j g _ hj e⟩
def a1f(h:M[n]?=some (.dK kv)):Gi .get (.ref n) [.int k,d] M=.ok ((vz kv (.inl k)).getD d) M:=by simp[Gi,h]
def a8k(h:M[n]?=some (.dK kv)):Ke .get (.ref n) M=true:=by simp[Ke,h]
def a1g(h:M[n]?=some (.dK kv))(hl:kv.length<100000):setOp (.ref n) (.int k) d M=some (M.set n (.dK (Bw kv (.inl k) d))):=by simp[setOp,h,hl]
def apv[DecidableEq κ]{kv:List (κ×D)}(h:vz kv k=some v):∃p∈kv,p.2=v:=by unfold vz at h;obtain⟨p,h1,h2⟩:=bz.mp h;exact⟨p,List.mem_of_find?_eq_some h1,h2⟩
def avk[DecidableEq κ]{kv:List (κ×D)}(h:p∈Bw kv k v):p∈kv\/p.2=v:=by
 unfold Bw at h;split at h
 . obtain⟨q,h1,h2⟩:=bf.mp h
   split at h2
   . rw[<- h2];exact .inr rfl
   . rw[<- h2];exact .inl h1
 . rcases dw.mp h with z|z
   . exact .inl z
   . have:p=(k,v):=by simpa using z
     rw[this];exact .inr rfl
def Je[DecidableEq κ](p:κ×D)(r:List (κ×D))(k:κ):vz (p::r) k=if p.1=k then some p.2 else vz r k:=by
 unfold vz
 by_cases h:p.1=k
 . simp[qm,h]
 . simp[qm,h]
theorem Wl{κ:Type}[DecidableEq κ]{k k':κ}{v:D}:∀{kv:List (κ×D)},(∃p∈kv,p.1=k)->vz (kv.map λp=>if p.1=k then(p.1,v) else p) k'=if k'=k then some v else vz kv k'
 |p::r,h=>by
  rw[gm,Je,Je]
  by_cases a:p.1=k
  . rw[cj a]
    by_cases b:k'=k
    . simp[a,b]
    . have c:¬p.1=k':=λz=>b (z.symm.trans a)
      rw[bw c,bw b,bw c]
      by_cases d:∃p∈r,p.1=k
      . rw[Wl d,bw b]
      . congr 1
        conv=>rhs;rw[<- List.map_id r]
        apply qb;intro q hq;rw[bw λz=>d ⟨q,hq,z⟩];rfl
  . rw[bw a]
    have d:∃p∈r,p.1=k:=by
     obtain⟨q,h1,h2⟩:=h;rcases bx.mp h1 with rfl|h1
     . exact absurd h2 a
     . exact⟨q,h1,h2⟩
    rw[Wl d]
    by_cases b:k'=k
    . have c:¬p.1=k':=λz=>a (z.trans b)
      rw[bw c];simp[b]
    . simp[b]
theorem adn{κ:Type}[DecidableEq κ]{k k':κ}{v:D}:∀{kv:List (κ×D)},(∀p∈kv,p.1≠k)->vz (kv++[(k,v)]) k'=if k'=k then some v else vz kv k'
 |[],_=>by
  rw[zb,Je]
  by_cases b:k'=k
  . simp[b]
  . simp[b,jx b]
 |p::r,h=>by
  rw[yp,Je,Je,adn (λq hq=>h q (bc _ hq))];have a:=h p (by simp)
  by_cases b:k'=k
  . have c:¬p.1=k':=λz=>a (z.trans b)
    rw[bw c];simp[b]
  . simp[b]
def apw[DecidableEq κ](kv:List (κ×D))(k k':κ)(v:D):vz (Bw kv k v) k'=if k'=k then some v else vz kv k':=by
 unfold Bw
 by_cases h:(kv.any λp=>decide (p.1=k))=true
 . rw[cj h]
   exact Wl (by simpa using h)
 . rw[bw h]
   exact adn (λp hp z=>h (vo.mpr ⟨p,hp,by simpa using z⟩))
def ah5[DecidableEq κ](kv:List (κ×D))(k:κ)(v:D):(Bw kv k v).length<=kv.length+1:=by unfold Bw;split<;>simp
def aax(M:cu)(a b:Nat):wz M (.int a) (.int b)=some (decide (a=b)):=Ak M a b
noncomputable def Fm(pm n:Nat)(M M':cu):Prop:=∀(a:Nat)(o:MO),a≠pm->a<n->M[a]?=some o->M'[a]?=some o
def ah6(M:cu)(a b:Nat):ud .min [.int a,.int b] M=.ok (.int (min a b:Nat)) M:=by
 show Res.ok (D.int (if(b:Int)<(a:Int) then(b:Int) else(a:Int))) M=_
 by_cases h:b<a
 . rw[cj (m_ h),Nat.min_eq_right (e_ h)]
 . rw[bw (by lia),Nat.min_eq_left (s_ h)]
def aay(M:cu)(a b:Nat):ud .max [.int a,.int b] M=.ok (.int (max a b:Nat)) M:=by
 show Res.ok (D.int (if(a:Int)<(b:Int) then(b:Int) else(a:Int))) M=_
 by_cases h:a<b
 . rw[cj (m_ h),Nat.max_eq_right (e_ h)]
 . rw[bw (by lia),Nat.max_eq_left (s_ h)]
def ado(hx:(Ex.ix (.var v) (.var x)).den W ρ M=.ok d M)(hd:fu M d=some (l.map nD))(hl:l.length<=100000)(hy:y=ρ.length)(h1:ρ[a]?=some (some (.int lo)))(h2:ρ[b]?=some (some (.int hi))) :
 (Ex.comp true 1 (.name y) (.val (.ix (.var v) (.var x))) (.ite (.cmp .eq (.var y) (.var b)) (.var a) (.var y))).den W ρ M=.ok (.vl ((Ha lo hi l).map nD)) M:=by
 subst hy;have ha:=(ak.mp h1).1;have hb:=(ak.mp h2).1;rw[yg (d:=d) (ds:=l.map nD) (M1:=M) (g:=λd=>match d with|.int o=>nD (if o.toNat=hi then lo else o.toNat)|_=>.non) hx hd (by simpa using hl) (λz hz=>by
  obtain⟨o,ho,rfl⟩:=bf.mp hz;refine⟨_,rfl,?_⟩;have e1:(ρ++List.replicate 1 none).set ρ.length (some (nD o))=ρ++[some (.int o)]:=by rw[List.set_append];simp[nD]
  have g1:(ρ++[some (D.int o)])[a]?=some (some (.int lo)):=by rw[dz ha];exact h1
  have g2:(ρ++[some (D.int o)])[b]?=some (some (.int hi)):=by rw[dz hb];exact h2
  have g3:(ρ++[some (D.int o)])[ρ.length]?=some (some (.int o)):=by simp
  rw[e1]
  by_cases z:o=hi
  . subst z;simp[-eq_int,g1,g2,g3,aax,nD]
  . simp[-eq_int,g1,g2,g3,aax,z,nD])]
 simp[Ha,nD]
def avl(hx:(Ex.ix (.v 1) (.var x)).den W ρ M=.ok d M)(hd:fu M d=some (l.map nD))(hl:l.length<=100000)(hy:y=ρ.length)(hy1:12<y)(h1:ρ[11]?=some (some (.int lo)))(h2:ρ[12]?=some (some (.int hi))) :
 (Ex.comp true 1 (.name y) (.val (.ix (.v 1) (.var x))) (.ite (.cmp .eq (.var y) (.v 12)) (.v 11) (.var y))).den W ρ M=.ok (.vl ((Ha lo hi l).map nD)) M:=ado hx hd hl hy h1 h2
structure Fd(dd:Nat)(b:Y3)(n:Nat)(M:cu):Prop where
 ex:∃kv:List (Kx×D),M[dd]?=some (.dK kv)/\kv.length<=n/\(∀p∈kv,∃e:Nat,p.2=.int e/\e∈b)
def apx{j:Nat}(mk:Mk t pm K L ms M)(ac:Ac q hs L as M)(hj:hs[j]?=some g)(ga:g.a<K)(gb:g.b<K)(hd:M[dd]?=some (.dK []))(hpd:pm<dd)(hqd:q<dd)(hqp:q≠pm)(ht:t<pm)(hL:∀e,e<K->L e<=7) :
 ∃ρ' M',J7.den W [ql K r hs,D.ref pm,D.ref q,b3,D.int j,D.int g.a,D.int g.b,D.ref dd,b8,b9,b10,Ew,Ry] M=.ok (.next,ρ') M' /\
  ∃c3 c7 c8 c9 Ua Ub c12,ρ'=[some (ql K r hs),some (.ref pm),some (.ref q),c3,some (.int j),some (.int g.a),some (.int g.b),c7,c8,c9,Ua,Ub,c12]/\Fm pm dd M M'/\M.length<=M'.length /\
   ((c3=b3/\Mk t pm K L ms M')\/(c3=some (.bl true)/\∃Nu,Mk t pm K L Nu M'/\Xb K Nu<Xb K ms)):=by
 obtain⟨js,ej,_,lj,rj⟩:=ac.get hj;obtain⟨da,fa,la⟩:=mk.row ga;have hla:=mk.len _ ga;have hLa:=hL _ ga;refine abg (W:=W) (t:=.name 8) (b:=Bd) (it:=.blt .len (.o (.ix (.v 1) (.v 5)))) (n:=L g.a) (M1:=M) ?_ (a_ hLa (by decide))
  (λi ρ M'=>(∃b8 b9 b10,ρ=[some (ql K r hs),some (.ref pm),some (.ref q),b3,some (.int j),some (.int g.a),some (.int g.b),some (.ref dd),b8,b9,b10,Ew,Ry])/\Mk t pm K L ms M'/\Fd dd (ms g.b) i M'/\Ut dd M M'/\M'.length=M.length)
  (fun ρ' M'=>∃c3 c7 c8 c9 Ua Ub c12,ρ'=[some (ql K r hs),some (.ref pm),some (.ref q),c3,some (.int j),some (.int g.a),some (.int g.b),c7,c8,c9,Ua,Ub,c12]/\Fm pm dd M M'/\M.length<=M'.length /\
   ((c3=b3/\Mk t pm K L ms M')\/(c3=some (.bl true)/\∃Nu,Mk t pm K L Nu M'/\Xb K Nu<Xb K ms)))
  ⟨⟨b8,b9,b10,rfl⟩,mk,⟨[],hd,bu _,by simp⟩,Ut.refl _ _,rfl⟩ (fun ρ M' h=>?_) (λi ρ M1 hi hI=>?_)
 . have e:=len_list la
   simp only[du,hla] at e;simp[fa,e]
 . obtain⟨⟨c8,c9,Ua,rfl⟩,h1,_,h3,h4⟩:=h
   exact⟨b3,_,c8,c9,Ua,Ew,Ry,rfl,λa o _ x e=>h3 a o x e,g_ h4,.inl ⟨rfl,h1⟩⟩
 . obtain⟨⟨c8,c9,Ua,rfl⟩,h1,⟨kv,k1,k2,k3⟩,h3,h4⟩:=hI
   obtain⟨da,fa,la⟩:=h1.row ga;obtain⟨db,fb,lb⟩:=h1.row gb;have ac1:Ac q hs L as M1:=⟨h3 _ _ hqd ac.at_,ac.len,ac.ok⟩;obtain⟨js',ej',fj,_,_⟩:=ac1.get hj;rw[ej] at ej';cases ej';have fa2:=O4 la (show i<(ms g.a).length by rw[hla];exact hi);have fj2:zy (.vl (js.map nD)) (.int i) M1=some (.int (js.getD i 0)):=O4 rfl (b_ hi (g_ lj));have hy:js.getD i 0<(ms g.b).length:=by rw[h1.len _ gb];exact rj _ (getD_mem' (b_ hi (g_ lj)))
   generalize hy0:js.getD i 0=y at fj2 hy;have fb2:=O4 lb hy;have hz:=getD_mem' hy;generalize hx0:(ms g.a).getD i 0=x at fa2;generalize hz0:(ms g.b).getD y 0=z at fb2 hz;have gt:=a1f (k:=(x:Int)) (d:=.int z) k1;have ty:=a8k k1;have goOn:((vz kv (.inl (x:Int))).getD (.int z)=.int z)->∃ρ1 fl ρ' M',(Tg.name 8).put (.int i) [some (ql K r hs),some (.ref pm),some (.ref q),b3,some (.int j),some (.int g.a),some (.int g.b),some (.ref dd),c8,c9,Ua,Ew,Ry]=some ρ1/\Bd.den W ρ1 M1=.ok (fl,ρ') M' /\
    (((fl=.next\/fl=.cont)/\(∃b8 b9 b10,ρ'=[some (ql K r hs),some (.ref pm),some (.ref q),b3,some (.int j),some (.int g.a),some (.int g.b),some (.ref dd),b8,b9,b10,Ew,Ry])/\Mk t pm K L ms M'/\Fd dd (ms g.b) (i+1) M'/\Ut dd M M'/\M'.length=M.length) \/
      (fl=.brk/\∃c3 c7 c8 c9 Ua Ub c12,ρ'=[some (ql K r hs),some (.ref pm),some (.ref q),c3,some (.int j),some (.int g.a),some (.int g.b),c7,c8,c9,Ua,Ub,c12]/\Fm pm dd M M'/\M.length<=M'.length /\
       ((c3=b3/\Mk t pm K L ms M')\/(c3=some (.bl true)/\∃Nu,Mk t pm K L Nu M'/\Xb K Nu<Xb K ms)))):=λhg=>by
    rw[hg] at gt;have st:=a1g (k:=(x:Int)) (d:=.int z) k1 (by have:=hL _ ga;exact c_ k2 (b_ hi (a_ hLa (by decide))));refine⟨_,.next,_,M1.set dd (.dK (Bw kv (.inl (x:Int)) (.int z))),rfl,?_,.inl ⟨.inl rfl,⟨some (.int i),some (.int x),some (.int z),rfl⟩,h1.frame (λa o _ ha e=>by rw[qx (i_ (c_ ha hpd))];exact e) ht,⟨_,uw k1,?_,?_⟩,h3.trans (Ut.set (bu _)),by simp[h4]⟩⟩
    . simp[-eq_int,Bd,fa,fa2,fb,fj,fj2,fb2,ty,gt,aax,st]
    . have:=ah5 kv (.inl (x:Int)) (.int z);exact a_ this (v_ k2)
    . intro p hp
      rcases avk hp with w|w
      . exact k3 p w
      . exact⟨z,w,hz⟩
   cases hlk:vz kv (.inl (x:Int)) with
   |none=>exact goOn (by rw[hlk];rfl)
   |some v =>
    obtain⟨p,hp,rfl⟩:=apv hlk;obtain⟨e,he,hem⟩:=k3 p hp;rw[he] at hlk
    by_cases hez:e=z
    . exact goOn (by rw[hlk,hez];rfl)
    . rw[hlk] at gt
      have ix:=a4l (b:=.int x) k1 rfl;rw[show(Sum.inl (x:Int):Kx)=.inl (x:Int) from rfl,hlk] at ix;have lh:min e z<max e z:=by lia
      have hm:max e z∈ms g.b:=by
       rcases Nat.le_total e z with w|w
       . rw[Nat.max_eq_right w];exact hz
       . rw[Nat.max_eq_left w];exact hem
      have hlo:min e z∈ms g.b:=by
       rcases Nat.le_total e z with w|w
       . rw[Nat.min_eq_left w];exact hem
       . rw[Nat.min_eq_right w];exact hz
      have rp:=avl (W:=W) (M:=M1) (ρ:=[ql K r hs,D.ref pm,D.ref q,b3,D.int j,D.int g.a,D.int g.b,D.ref dd,D.int i,D.int x,D.int z,D.int (min e z:Nat),D.int (max e z:Nat)]) (x:=6) (y:=13) (lo:=min e z) (hi:=max e z) (by simp[fb]) lb (by rw[h1.len _ gb];have:=hL _ gb;exact a_ this (by decide)) rfl (by decide) rfl rfl;obtain⟨o,so,mk2⟩:=h1.set gb (ns:=Ha (min e z) (max e z) (ms g.b)) (by simp[Ha,h1.len _ gb]) (λy hy=>by
       obtain⟨w,hw,rfl⟩:=bf.mp hy;split
       . exact h1.lt _ gb _ hlo
       . exact h1.lt _ gb _ hw) (ah4 (h1.fx _ gb) (λx hx=>by rw[h1.len _ gb];exact h1.lt _ gb x hx) hlo) ht
      have ne:¬((e:Nat)=z):=hez;refine⟨_,.brk,_,M1.set pm o++[.dK []],rfl,?_,.inr ⟨rfl,some (.bl true),some (.ref (M1.set pm o).length),some (.int i),some (.int x),some (.int z),some (.int (min e z:Nat)),some (.int (max e z:Nat)),rfl,λa u na ha q=>?_,by simp;exact a_ (g_ h4) x_,.inr ⟨rfl,_,mk2.frame (λa u _ _ q=>o7 q) ht,(apt (ah3 lh hm) K).2 gb⟩⟩⟩
      . simp only[Option.getD_some] at gt
        simp[-eq_int,Bd,fa,fa2,fb,fj,fj2,fb2,ty,gt,aax,ne,ix,ah6,aay,J6,rp,so,MW.new]
      . refine o7 ?_
        rw[qx (jx na)];exact h3 a u ha q
def Fm.trans(a:Fm pm n M M1)(b:Fm pm n M1 M2):Fm pm n M M2:=λx o h l e=>b x o h l (a x o h l e)
def Fm.le(a:Fm pm n M M1)(h:n'<=n):Fm pm n' M M1:=λx o q l e=>a x o q (b_ l h) e
theorem afv:∀{l:Y3}{c:Nat},(∀x∈l,x<=c)->l.sum<=l.length*c
 |[],_,_=>by simp
 |a::l,c,h=>by
  have h1:=h a (by simp);have h2:=afv (λx hx=>h x (bc _ hx));simp only[List.sum_cons,gn,Nat.succ_mul]
  lia
def a1i(mk:Mk t pm K L ms M)(hL:∀e,e<K->L e<=7)(hK:K<=3):Xb K ms<=200:=by
 have:∀x∈(List.range K).map λi=>(ms i).sum,x<=49:=λx hx=>by
  obtain⟨i,hi,rfl⟩:=bf.mp hx;have hi:=jn.mp hi;have h1:=afv (l:=ms i) (c:=7) (λx hx=>by have:=mk.lt i hi x hx;have:=hL i hi;lia);have h2:=mk.len i hi;have h3:=hL i hi;have h4:(ms i).length*7<=7*7:=Nat.mul_le_mul_right 7 (a_ (f_ h2) h3)
  lia
 have h:=afv this;simp only[du,List.length_range] at h;have h5:K*49<=3*49:=Nat.mul_le_mul_right 49 hK
 unfold Xb
 lia
def apz(P:Kf sz K hs gw)(mk:Mk t pm K L ms M)(ac:Ac q hs L as M)(hpd:pm<M.length)(hqd:q<M.length)(hqp:q≠pm)(ht:t<pm)(hL:∀e,e<K->L e<=7) :
 ∃ρ' M',J8.den W [ql K r hs,D.ref pm,D.ref q,b3,b4,b5,b6,b7,b8,b9,b10,Ew,Ry] M=.ok (.next,ρ') M' /\
  ∃c3 c4 c5 c6 c7 c8 c9 Ua Ub c12 Nu,ρ'=[some (ql K r hs),some (.ref pm),some (.ref q),c3,c4,c5,c6,c7,c8,c9,Ua,Ub,c12]/\Fm pm M.length M M'/\M.length<=M'.length/\Mk t pm K L Nu M'/\((c3=b3/\Nu=ms)\/(c3=some (.bl true)/\Xb K Nu<Xb K ms)):=by
 have hl:=P.len;refine yt (W:=W) (t:=.name 4) (b:=Cg) (it:=.blt .len (.o (.ix (.v 0) (.i 1)))) (n:=hs.length) (M1:=M) (by simp[Oc,Ox]) (a_ hl (by decide))
  (λn ρ' M'=>∃c3 c4 c5 c6 c7 c8 c9 Ua Ub c12 Nu,ρ'=[some (ql K r hs),some (.ref pm),some (.ref q),c3,c4,c5,c6,c7,c8,c9,Ua,Ub,c12]/\Fm pm M.length M M'/\M.length<=M'.length/\Mk t pm K L Nu M'/\((c3=b3/\Nu=ms)\/(c3=some (.bl true)/\Xb K Nu<Xb K ms)))
  ⟨b3,b4,b5,b6,b7,b8,b9,b10,Ew,Ry,ms,rfl,λ_ _ _ _ e=>e,bu _,mk,.inl ⟨rfl,rfl⟩⟩ (λj ρ M1 hj hI=>?_)
 obtain⟨c3,c4,c5,c6,c7,c8,c9,Ua,Ub,c12,m1,rfl,f1,l1,k1,o1⟩:=hI;have hjg:hs[j]?=some hs[j]:=by simp[hj]
 have hg:=au hjg;have k2:Mk t pm K L m1 (M1++[.dK []]):=k1.frame (λa o _ _ e=>o7 e) ht;have ac2:Ac q hs L as (M1++[.dK []]):=⟨o7 (f1 _ _ hqp hqd ac.at_),ac.len,ac.ok⟩;obtain⟨ρ2,M2,e2,d3,d7,d8,d9,d10,d11,d12,rfl,f2,l2,o2⟩:=apx (W:=W) (r:=r) (dd:=M1.length) (b3:=c3) (b8:=c8) (b9:=c9) (b10:=Ua) (Ew:=Ub) (Ry:=c12) k2 ac2 hjg (P.ami _ hg) (P.ai5 _ hg) (by simp) (b_ hpd l1) (b_ hqd l1) hqp ht hL;have f3:Fm pm M.length M M2:=λa o na ha e=>f2 a o na (b_ ha l1) (o7 (f1 a o na ha e))
 have l3:M.length<=M2.length:=by simp at l2;lia
 have pe:∀ρ,(Tg.names [5,6]).put (eD hs[j]) ρ=some ((ρ.set 5 (some (.int hs[j].a))).set 6 (some (.int hs[j].b))):=λ_=>rfl
 have run:Cg.den W [ql K r hs,D.ref pm,D.ref q,c3,D.int j,c5,c6,c7,c8,c9,Ua,Ub,c12] M1=.ok (.next,[some (ql K r hs),some (.ref pm),some (.ref q),d3,some (.int j),some (.int hs[j].a),some (.int hs[j].b),d7,d8,d9,d10,d11,d12]) M2:=by simp[Cg,Oc,P0 hjg,pe,MW.new,e2]
 refine⟨_,.next,_,M2,rfl,run,.inl rfl,?_⟩;rcases o2 with⟨rfl,k3⟩|⟨rfl,m2,k3,t3⟩
 . rcases o1 with⟨rfl,rfl⟩|⟨rfl,t1⟩
   . exact⟨_,_,_,_,_,_,_,_,_,_,m1,rfl,f3,l3,k3,.inl ⟨rfl,rfl⟩⟩
   . exact⟨_,_,_,_,_,_,_,_,_,_,m1,rfl,f3,l3,k3,.inr ⟨rfl,t1⟩⟩
 . refine⟨_,_,_,_,_,_,_,_,_,_,m2,rfl,f3,l3,k3,.inr ⟨rfl,?_⟩⟩
   rcases o1 with⟨_,rfl⟩|⟨_,t1⟩<;>omega
def akc(hm:1<=m)(P:Kf sz K hs gw)(mk:Mk t pm K L ms M)(ac:Ac q hs L as M)(hpd:pm<M.length)(hqd:q<M.length)(hqp:q≠pm)(ht:t<pm)(hL:∀e,e<K->L e<=7) :
 ∃Nu M',prog.call m 30 [ql K r hs,.ref pm,.ref q] M=.ok (.ref pm) M'/\Mk t pm K L Nu M'/\Fm pm M.length M M'/\M.length<=M'.length:=by
 rw[call_of hm rfl];obtain⟨ρ',M',e,Nu,k1,f1,l1,c,hρ⟩:∃ρ' M',Fp.den ⟨prog.call (m-1),prog.cls⟩ [ql K r hs,D.ref pm,D.ref q,D.bl true,none,none,none,none,none,none,none,none,none] M=.ok (.next,ρ') M' /\
  ∃Nu,Mk t pm K L Nu M'/\Fm pm M.length M M'/\M.length<=M'.length/\∃c:Env,ρ'=[some (ql K r hs),some (.ref pm)]++c:=by
  unfold Fp;rw[Zc];refine Nh (λm ρ M'=>∃(Nu:Nat->List Nat)(b:Bool)(c:Env),ρ=[some (ql K r hs),some (.ref pm),some (.ref q),some (.bl b)]++c/\c.length=9/\Mk t pm K L Nu M'/\Fm pm M.length M M'/\M.length<=M'.length/\m=(if b then Xb K Nu+1 else 0))
   (fun ρ' M'=>∃Nu,Mk t pm K L Nu M'/\Fm pm M.length M M'/\M.length<=M'.length/\∃c:Env,ρ'=[some (ql K r hs),some (.ref pm)]++c) (λn ρ M1 hI=>?_) aes (Xb K ms+1) _ M (by have:=a1i mk hL P.k3;show Xb K ms+1<1000000;lia)
   ⟨ms,true,[none,none,none,none,none,none,none,none,none],rfl,rfl,mk,λ_ _ _ _ e=>e,bu _,rfl⟩
  obtain⟨m1,b,c,rfl,hc,k1,f1,l1,rfl⟩:=hI
  match c,hc with
  |[c4,c5,c6,c7,c8,c9,Ua,Ub,c12],_ =>
  cases b with
  |false=>exact .inl ⟨M1,rfl,m1,k1,f1,l1,_,rfl⟩
  |true =>
   right
   obtain⟨ρ2,M2,e2,d3,d4,d5,d6,d7,d8,d9,d10,d11,d12,m2,rfl,f2,l2,k2,o2⟩:=apz (W:=⟨prog.call (m-1),prog.cls⟩) (r:=r) (as:=as) P k1 (⟨f1 _ _ hqp hqd ac.at_,ac.len,ac.ok⟩:Ac q hs L as M1) (b_ hpd l1) (b_ hqd l1) hqp ht hL (b3:=some (.bl false)) (b4:=c4) (b5:=c5) (b6:=c6) (b7:=c7) (b8:=c8) (b9:=c9) (b10:=Ua) (Ew:=Ub) (Ry:=c12);have f3:Fm pm M.length M M2:=f1.trans (f2.le l1);have run:Fo.den ⟨prog.call (m-1),prog.cls⟩ [ql K r hs,D.ref pm,D.ref q,D.bl true,c4,c5,c6,c7,c8,c9,Ua,Ub,c12] M1=.ok (.next,[some (ql K r hs),some (.ref pm),some (.ref q),d3,d4,d5,d6,d7,d8,d9,d10,d11,d12]) M2:=by simp[Fo,e2]
   rcases o2 with⟨rfl,rfl⟩|⟨rfl,t3⟩
   . exact⟨M1,.next,_,M2,0,rfl,run,.inl rfl,by simp,m2,false,[d4,d5,d6,d7,d8,d9,d10,d11,d12],rfl,rfl,k2,f3,a_ l1 l2,rfl⟩
   . exact⟨M1,.next,_,M2,Xb K m2+1,rfl,run,.inl rfl,by simp;exact t3,m2,true,[d4,d5,d6,d7,d8,d9,d10,d11,d12],rfl,rfl,k2,f3,a_ l1 l2,rfl⟩
 subst hρ;refine⟨Nu,M',?_,k1,f1,l1⟩;simp only[yp,zb] at e;simp[Fn.run,N6,N5,e]
theorem Wm{x y:Int}:∀{l:Xs},x∈insI y l↔x=y\/x∈l
 |[]=>by simp[insI]
 |a::l=>by
  unfold insI;split
  . simp
  . simp only[bx,Wm]
    constructor
    . rintro(h|h|h)
      . exact .inr (.inl h)
      . exact .inl h
      . exact .inr (.inr h)
    . rintro(h|h|h)
      . exact .inr (.inl h)
      . exact .inl h
      . exact .inr (.inr h)
theorem Gg{x:Int}:∀{l:Xs},x∈sortI l↔x∈l
 |[]=>by simp[sortI]
 |a::l=>by
  have h:=Gg (x:=x) (l:=l);show x∈insI a (sortI l)↔_;rw[Wm,h];simp
set_option tactic.hygienic true in
theorem Gh{x:Int}:∀{l:Xs},x∈zr l↔x∈l
 |[]=>by simp[zr]
 |a::l=>by
  have h:=Gh (x:=x) (l:=l);unfold zr;split
  . rename_i z
    rw[h];simp only[bx];exact⟨.inr,λq=>q.elim (λe=>e▸z) id⟩
  . simp only[bx,h]
theorem adp(y:Int):∀l:List Int,(insI y l).length=l.length+1
 |[]=>rfl|a::l=>by unfold insI;split<;>simp[adp y l]
theorem Yu:∀l:List Int,(sortI l).length=l.length
 |[]=>rfl|a::l=>by show(insI a (sortI l)).length=_;rw[adp,Yu l];rfl
theorem Yv:∀l:List Int,(zr l).length<=l.length
 |[]=>bu _|a::l=>by have:=Yv l;unfold zr;split<;>simp<;>omega
theorem ah7:∀l:List Nat,Xj (l.map nD)=some (l.map λ(x:Nat)=>(x:Int))
 |[]=>rfl|a::l=>by show(Xj (l.map nD)).map _=_;rw[ah7 l];rfl
theorem ah8{y:Int}:∀{l:Xs},l.Nodup->y∉l->(insI y l).Nodup
 |[],_,_=>by simp[insI]
 |a::l,h,hy=>by
  have h1:=mz.mp h;have h2:y≠a/\y∉l:=by simpa using hy
  unfold insI;split
  . exact mz.mpr ⟨hy,h⟩
  . refine mz.mpr ⟨λz=>?_,ah8 h1.2 h2.2⟩
    rcases Wm.mp z with z|z
    . exact h2.1 z.symm
    . exact h1.1 z
theorem adq:∀{l:Xs},l.Nodup->(sortI l).Nodup
 |[],_=>w5
 |a::l,h=>by
  have h1:=mz.mp h;exact ah8 (adq h1.2) (λz=>h1.1 (Gg.mp z))
set_option tactic.hygienic true in
theorem Wn:∀l:List Int,(zr l).Nodup
 |[]=>w5
 |a::l=>by
  unfold zr;split
  . exact Wn l
  . rename_i h
    exact mz.mpr ⟨λz=>h (Gh.mp z),Wn l⟩
def Wo{l:Y3}(h:fu M d=some (l.map nD))(hz:l.length<31):∃hl:List Nat,ud .Ce [d] M=.ok (.vl (hl.map nD)) M/\hl.length<=l.length/\hl.Nodup/\∀x,x∈hl↔x∈l:=by
 refine⟨(sortI (zr (l.map λ(x:Nat)=>(x:Int)))).map Int.toNat,?_,?_,?_,λx=>?_⟩
 . show Res.uv (((fu M d).bind Xj).bind λis=>if is.length<31 then some (D.vl ((sortI (zr is)).map D.int)) else none) M=_
   rw[h,uo,ah7,uo,cj (by simpa using hz)];have:((sortI (zr (l.map λ(x:Nat)=>(x:Int)))).map Int.toNat).map nD=(sortI (zr (l.map λ(x:Nat)=>(x:Int)))).map D.int:=by rw[yr];apply qb;intro y hy;rw[Gg,Gh] at hy;obtain⟨z,_,rfl⟩:=bf.mp hy;simp[nD]
   rw[this];rfl
 . rw[du,Yu]
   have:=Yv (l.map λ(x:Nat)=>(x:Int));simpa using this
 . have nd:=adq (Wn (l.map λ(x:Nat)=>(x:Int)))
   rw[zj,List.pairwise_map];refine List.Pairwise.imp_of_mem (fun{a b} ha hb hab e=>hab ?_) (zj.mp nd);rw[Gg,Gh] at ha hb;obtain⟨x,_,rfl⟩:=bf.mp ha;obtain⟨y,_,rfl⟩:=bf.mp hb;simp only[t8] at e;rw[e]
 . constructor
   . intro h
     obtain⟨y,hy,rfl⟩:=bf.mp h;rw[Gg,Gh] at hy;obtain⟨z,hz,rfl⟩:=bf.mp hy;simpa using hz
   . intro h
     refine bf.mpr ⟨(x:Int),?_,by simp⟩;rw[Gg,Gh];exact bf.mpr ⟨x,h,rfl⟩
def akd(hρ:ρ.length=19)(h3:ρ[3]?=some (some (.vl (uy p K))))(h:RS p K rs M)(hK:K<=3)(h7:∀e,e<K->(rs e).length<=7)(ht:t<M.length) :
 ∃M',Gx.den W ρ M=.ok (.ref (M.length+K)) M'/\Mk t (M.length+K) K (λe=>(rs e).length) (λe=>List.range (rs e).length) M'/\Af M M'/\M'.length=M.length+K+1:=by
 unfold Gx;obtain⟨ys,M1,e,r1,r2,r3,r4⟩:=Em (W:=W) (v:=false) (k:=1) (t:=.name 19) (it:=.v 3) (e:=.aen (.l (.v 19))) (ρ:=ρ) (M:=M) (M1:=M) (d:=.vl (uy p K)) (ds:=uy p K) (by simp[h3]) rfl (by simp[uy];exact a_ hK (by decide))
  (λi xs M'=>xs=uy M.length i/\(∀e,e<i->M'[M.length+e]?=some (.lst ((List.range (rs e).length).map nD)))/\Af M M'/\M'.length=M.length+i) ⟨rfl,λe he=>absurd he (xq _),Af.refl M,rfl⟩ (λ_ _ _ _=>rfl)
  (λi y xs M' hy hI=>by
   obtain⟨rfl,q1,q2,q3⟩:=hI;have hi:i<K:=by have:=(ak.mp hy).1;simpa[uy] using this
   obtain rfl:D.ref (p+i)=y:=by simpa[uy,hi] using hy
   have ln:=len_list (o6 (q2 _ _ (h i hi)));have e1:(ρ++List.replicate 1 none).set 19 (some (.ref (p+i)))=ρ++[some (.ref (p+i))]:=by rw[List.set_append];simp[hρ]
   have g9:(ρ++[some (D.ref (p+i))])[19]?=some (some (.ref (p+i))):=by rw[<- hρ];simp
   refine⟨_,.ref M'.length,M'++[.lst ((List.range (rs i).length).map nD)],rfl,?_,?_,λe he=>?_,q2.trans (Af.app _ _),by simp[q3];exact rfl⟩
   . have h8:=h7 i hi
     have h9:(rs i).length<=100000:=a_ h8 (by decide)
     rw[e1];simp[g9,ln,h9,MW.new,nD]
   . simp[uy,u5,q3]
   . by_cases z:e=i
     . subst z;rw[<- q3];simp
     . exact o7 (q1 e (by lia)))
 have hlr:(uy p K).length=K:=by simp[uy]
 rw[hlr] at r1 r2 r4;refine⟨M1++[.lst ys],by rw[e];simp[MW.new,r4],⟨⟨ys,by rw[<- r4];simp,by rw[r1];simp[uy],λi hi=>?_⟩,λi hi=>by simp,λi hi x hx=>jn.mp hx,λi hi x hx=>by simp[jn.mp hx]⟩,r3.trans (Af.app _ _),by simp[r4]⟩;refine⟨.ref (M.length+i),by rw[r1];simp[uy,hi],o6 (o7 (r2 i hi)),λa q=>?_⟩;cases q;exact⟨b_ ht x_,H_ hi⟩
def Mk.st(h:Mk t pm K L ms M)(s:St t f M M')(ht:t<pm):Mk t pm K L ms M':=h.frame (λa o ha _ e=>s.keep a o (i_ ha) e) ht
def Ac.of(h:Ac q hs L as M)(k:∀o,M[q]?=some o->M'[q]?=some o):Ac q hs L as M':=⟨k _ h.at_,h.len,h.ok⟩
def avn(hm:1<=m)(P:Kf sz K hs gw)(hh:T4 t f M)(mk:Mk t pm K L ms M)(ac:Ac q hs L as M)(htp:t<p)(hp:p<=pm)(hpd:pm<M.length)(hq:p<=q)(hqp:q≠pm)(hqd:q<M.length)(hL:∀e,e<K->L e<=7) :
 ∃c5 Ub c12 c14 c15 Nu M',Bl.den ⟨prog.call m,prog.cls⟩ [D.ref t,ql K r hs,a2,a3,b4,b5,b6,b7,b8,D.ref q,b10,Ew,Ry,D.ref pm,b14,b15,n16,n17,n18] M =
  .ok (.next,[some (.ref t),some (ql K r hs),a2,a3,b4,c5,b6,b7,b8,some (.ref q),b10,Ub,c12,some (.ref pm),c14,c15,n16,n17,n18]) M'/\Mk t pm K L Nu M'/\Ac q hs L as M'/\Gs t f p M M':=by
 have h3:=P.k3;obtain⟨k,M1,e1,l1,s1,n1⟩:=Aq (many:=K) hm hh (by have:=P.k1;exact m_ this) (m_ (c_ h3 (by decide)));obtain⟨x,M2,e2,l2,s2,n2⟩:=Aq (many:=7) hm s1.has (by decide) (by decide);obtain⟨y,M3,e3,l3,s3,n3⟩:=Aq (many:=7) hm s2.has (by decide) (by decide);have hk:k<K:=o_ l1
 have s:=s1.trans (s2.trans s3);have mk3:=mk.st s (b_ htp hp);have ac3:Ac q hs L as M3:=ac.of λo e=>s.keep _ _ (i_ (b_ htp hq)) e
 obtain⟨dk,fk,lk⟩:=mk3.row hk;have hlk:=mk3.len _ hk;have ln:=len_list lk;simp only[du,hlk] at ln;have mx:=aay M3 x y
 by_cases c:max x y<L k
 . have c':((max x y:Nat):Int)<(L k:Int):=m_ c
   have hx:x<(ms k).length:=by lia
   have hy:y<(ms k).length:=by lia
   have ix:=O4 lk hx;have iy:=O4 lk hy;have hxm:=getD_mem' hx;have hym:=getD_mem' hy;generalize hx0:(ms k).getD x 0=u at ix hxm;generalize hy0:(ms k).getD y 0=w at iy hym;have hlo:min u w∈ms k:=by
    rcases Nat.le_total u w with z|z
    . rw[Nat.min_eq_left z];exact hxm
    . rw[Nat.min_eq_right z];exact hym
   have rp:=ado (W:=⟨prog.call m,prog.cls⟩) (M:=M3) (ρ:=[D.ref t,ql K r hs,a2,a3,b4,D.int k,b6,b7,b8,D.ref q,b10,D.int x,D.int y,D.ref pm,D.int (min u w:Nat),D.int (max u w:Nat),n16,n17,n18]) (v:=13) (x:=5) (y:=19) (a:=14) (b:=15) (lo:=min u w) (hi:=max u w) (by simp[fk]) lk (by have:=hL _ hk;exact a_ (f_ hlk) (a_ this (by decide))) rfl rfl rfl;obtain⟨o,so,mk4⟩:=mk3.set hk (ns:=Ha (min u w) (max u w) (ms k)) (by simp[Ha,hlk]) (λz hz=>by
    obtain⟨v,hv,rfl⟩:=bf.mp hz;split
    . exact mk3.lt _ hk _ hlo
    . exact mk3.lt _ hk _ hv) (ah4 (mk3.fx _ hk) (λx hx=>by rw[hlk];exact mk3.lt _ hk x hx) hlo) (b_ htp hp)
   have ac4:Ac q hs L as (M3.set pm o):=ac3.of λo e=>by rw[qx (jx hqp)];exact e
   have hl3:M3.length=M.length:=u_ (a_ (f_ n3) (a_ (f_ n2) (f_ n1))) (a_ (g_ n1) (a_ (g_ n2) (g_ n3)));obtain⟨Nu,M5,e5,mk5,f5,l5⟩:=akc (r:=r) (M:=M3.set pm o) hm P mk4 ac4 (by simp;exact b_ hpd (g_ hl3)) (by simp;exact b_ hqd (g_ hl3)) hqp (b_ htp hp) hL;have ac5:Ac q hs L as M5:=ac4.of λo e=>f5 _ _ hqp (by simp;exact b_ hqd (g_ hl3)) e
   refine⟨some (.int k),some (.int x),some (.int y),some (.int (min u w:Nat)),some (.int (max u w:Nat)),Nu,M5,?_,mk5,ac5,⟨?_,λa v ha na e=>?_,by simp at l5;exact a_ (g_ hl3) l5⟩⟩
   . simp[Bl,M9,e1,e2,e3,mx,fk,ln,c',ix,iy,ah6,aay,Lh,rp,so,e5]
   . obtain⟨n,hn,ho⟩:=s.has
     exact⟨n,f5 _ _ (h_ (b_ htp hp)) (by have:=wj hn;simp;exact this) (by rw[qx (i_ (b_ htp hp))];exact hn),ho⟩
   . refine f5 _ _ (h_ (b_ ha hp)) (by have:=wj e;simp;exact b_ this (g_ hl3)) ?_
     rw[qx (i_ (b_ ha hp))];exact s.keep a v na e
 . have c':¬((max x y:Nat):Int)<(L k:Int):=by lia
   refine⟨some (.int k),some (.int x),some (.int y),b14,b15,ms,M3,?_,mk3,ac3,Gs.Wj s⟩;simp[Bl,M9,e1,e2,e3,mx,fk,ln,c']
noncomputable def jg(Qp:Y3)(afw:List (List Nat)):D:=.tup [.tup (Qp.map nD),.tup (afw.map λjs=>.tup (js.map nD))]
def a1j(h:.int v∈ds):ixI v ds<ds.length:=by
 unfold ixI;cases q:ds.findIdx? (λd=>match d with|.int i=>decide (i=v)|_=>false) with
 |some j=>exact(um.mp q).1
 |none =>
  rw[xf] at q;have:=q _ h;simp at this
def ap2(l:Y3):∀d∈l.map nD,∃i:Int,d=.int i:=λd hd=>by obtain⟨x,_,rfl⟩:=bf.mp hd;exact⟨_,rfl⟩
noncomputable def ixo(l:Y3)(x:Nat):Nat:=ixI (x:Int) (l.map nD)
noncomputable def a8o(ms:Nat->List Nat)(g:F)(js la lb:Y3):List Nat:=la.map λth=>ixo lb ((ms g.b).getD (js.getD th 0) 0)
structure Wq(K:Nat)(hs:List F)(Qp:Y3)(afw:List (List Nat)):Prop where
 ls:Qp.length=K
 la:afw.length=hs.length
 sm:∀x∈Qp,x<=7
 ok:∀(j:Nat)(g:F)(js:Y3),hs[j]?=some g->afw[j]?=some js->js.length=Qp.getD g.a 0/\∀x∈js,x<Qp.getD g.b 0
noncomputable def Rz(l:Y3):D:=.vl (l.map nD)
def ap3(hρ:ρ.length=19)(h13:ρ[13]?=some (some (.ref pm)))(mk:Mk t pm K L ms M)(hK:K<=3)(h7:∀i,i<K->L i<=7) :
 ∃hl:List (List Nat),Gw.den W ρ M=.ok (.vl (hl.map Rz)) M/\hl.length=K/\∀e l,hl[e]?=some l->l.length<=L e/\l.Nodup/\∀x,x∈l↔x∈ms e:=by
 obtain⟨mds,h1,h2,h3⟩:=mk.ex;unfold Gw;obtain⟨ys,M',e,rfl,hl,r1,r2,r3⟩:=Em (W:=W) (v:=true) (k:=1) (t:=.name 19) (it:=.v 13) (e:=.blt .Ce (.o (.v 19))) (ρ:=ρ) (M:=M) (M1:=M) (d:=.ref pm) (ds:=mds) (by simp[h13]) (o6 h1) (a_ (f_ h2) (a_ hK (by decide)))
  (λi xs M'=>M'=M/\∃hl:List (List Nat),xs=hl.map Rz/\hl.length=i/\∀e l,hl[e]?=some l->l.length<=L e/\l.Nodup/\∀x,x∈l↔x∈ms e) ⟨rfl,[],rfl,rfl,by simp⟩ (λi xs M' h=>by rw[h.1];exact o6 h1)
  (λi y xs M' hy hI=>by
   obtain⟨rfl,hl,rfl,q1,q2⟩:=hI;have hi:i<K:=by have:=(ak.mp hy).1;exact b_ this (f_ h2)
   obtain⟨d,g1,g2,_⟩:=h3 i hi;rw[hy] at g1;cases g1;obtain⟨l,k1,k2,k4,k3⟩:=Wo g2 (by have:=h7 i hi;have:=mk.len i hi;lia);have e1:(ρ++List.replicate 1 none).set 19 (some y)=ρ++[some y]:=by rw[List.set_append];simp[hρ]
   have g9:(ρ++[some y])[19]?=some (some y):=by rw[<- hρ];simp
   refine⟨_,Rz l,M',rfl,by rw[e1];simp[g9,k1,Rz],rfl,hl++[l],by simp,by simp[q1],λe l' he=>?_⟩
   by_cases z:e<hl.length
   . rw[dz z] at he;exact q2 e l' he
   . have ze:e=i:=by have:=(ak.mp he).1;simp at this;lia
     subst ze;rw[jf (s_ z),q1] at he;simp at he;subst he;rw[<- mk.len e hi];exact⟨k2,k4,k3⟩)
 refine⟨hl,by rw[e,r1];rfl,r2.trans h2,r3⟩
def ap4{hl:List (List Nat)}{i:Nat}(h:hl[i]?=some l):zy (.vl (hl.map Rz)) (.int i) M=some (Rz l):=Bt rfl q_ (by simp[h])
def akg{hl:List (List Nat)}(mk:Mk t pm K L ms M)(ac:Ac q hs L as M){j:Nat}(hj:hs[j]?=some g)(ej:as[j]?=some js)(ga:g.a<K)(gb:g.b<K)(h1:hl[g.a]?=some la)(h2:hl[g.b]?=some lb)(hma:∀x,x∈la↔x∈ms g.a)(hmb:∀x,x∈lb↔x∈ms g.b)(h7:la.length<=7)(hw:M[w]?=some (.lst td))(htd:td.length<100000) :
 ∃(c18:Option D)(zs:Y3),Dc.den W [a0,ql K r hs,a2,a3,b4,b5,b6,b7,b8,D.ref q,D.int j,Ew,Ry,D.ref pm,b14,b15,D.vl (hl.map Rz),D.ref w,b18] M =
  .ok (.next,[a0,some (ql K r hs),a2,a3,b4,b5,b6,b7,b8,some (.ref q),some (.int j),some (.int g.a),some (.int g.b),some (.ref pm),b14,b15,some (.vl (hl.map Rz)),some (.ref w),c18]) (M.set w (.lst (td++[.tup (zs.map nD)])))/\zs=a8o ms g js la lb/\zs.length=la.length/\∀x∈zs,x<lb.length:=by
 obtain⟨js',ej',fj,lj,rj⟩:=ac.get hj;rw[ej] at ej';cases ej';obtain⟨db,fb,lbm⟩:=mk.row gb;have hz:∀th∈la,js.getD th 0<(ms g.b).length/\th<js.length:=λth h=>by
  have h3:=mk.lt _ ga th ((hma th).mp h);have h4:th<js.length:=b_ h3 (g_ lj)
  exact⟨by rw[mk.len _ gb];exact rj _ (getD_mem' h4),h4⟩
 have c3:Gv.den W [a0,ql K r hs,a2,a3,b4,b5,b6,b7,b8,D.ref q,D.int j,D.int g.a,D.int g.b,D.ref pm,b14,b15,D.vl (hl.map Rz),D.ref w,b18] M=.ok (Rz (la.map λth=>(ms g.b).getD (js.getD th 0) 0)) M:=by
  unfold Gv;rw[yg (d:=Rz la) (ds:=la.map nD) (M1:=M) (g:=λd=>match d with|.int o=>nD ((ms g.b).getD (js.getD o.toNat 0) 0)|_=>.non) (by simp[ap4 h1]) rfl (by simp;exact a_ h7 (by decide)) (λz hz'=>by
   obtain⟨th,hth,rfl⟩:=bf.mp hz';obtain⟨k1,k2⟩:=hz th hth;refine⟨_,rfl,?_⟩;have i1:zy (.vl (js.map nD)) (.int th) M=some (.int (js.getD th 0)):=O4 rfl k2;have i2:=O4 lbm k1;show(Ex.ix (.ix (.v 13) (.v 12)) (.ix (.ix (.v 9) (.v 10)) (.v 19))).den W [a0,ql K r hs,a2,a3,b4,b5,b6,b7,b8,D.ref q,D.int j,D.int g.a,D.int g.b,D.ref pm,b14,b15,D.vl (hl.map Rz),D.ref w,b18,D.int th] M=.ok (nD ((ms g.b).getD (js.getD (th:Int).toNat 0) 0)) M;rw[t8];generalize js.getD th 0=yy at i1 i2;generalize(ms g.b).getD yy 0=zz at i2;simp[fb,fj,i1,i2,nD])]
  simp[Rz,nD]
 have Wz:∀z∈la.map (λth=>(ms g.b).getD (js.getD th 0) 0),.int (z:Int)∈lb.map nD:=λz h=>by obtain⟨th,hth,rfl⟩:=bf.mp h;exact bf.mpr ⟨_,(hmb _).mpr (getD_mem' (hz th hth).1),rfl⟩
 generalize a8p:la.map (λth=>(ms g.b).getD (js.getD th 0) 0)=row at c3 Wz;have hrl:row.length=la.length:=by rw[<- a8p];simp
 have c2:Gu.den W [a0,ql K r hs,a2,a3,b4,b5,b6,b7,b8,D.ref q,D.int j,D.int g.a,D.int g.b,D.ref pm,b14,b15,D.vl (hl.map Rz),D.ref w,Rz row] M=.ok (.vl ((row.map λ(z:Nat)=>ixI (z:Int) (lb.map nD)).map nD)) M:=by
  unfold Gu;rw[yg (d:=Rz row) (ds:=row.map nD) (M1:=M) (g:=λd=>match d with|.int o=>nD (ixI o (lb.map nD))|_=>.non) (by simp) rfl (by simp;exact a_ (f_ hrl) (a_ h7 (by decide))) (λz hz'=>by
   obtain⟨o,ho,rfl⟩:=bf.mp hz';refine⟨_,rfl,?_⟩;have i1:=apn (M:=M) (ds:=lb.map nD) (v:=(o:Int)) (λd hd=>by obtain⟨x,_,rfl⟩:=bf.mp hd;exact⟨_,rfl⟩) (Wz o ho);show(Ex.bm .index (.ix (.v 16) (.v 12)) (.o (.v 19))).den W [a0,ql K r hs,a2,a3,b4,b5,b6,b7,b8,D.ref q,D.int j,D.int g.a,D.int g.b,D.ref pm,b14,b15,D.vl (hl.map Rz),D.ref w,Rz row,D.int o] M=_;simp[ap4 h2,Rz,Ke,i1,nD])]
  simp[nD]
 refine⟨some (Rz row),row.map λ(z:Nat)=>ixI (z:Int) (lb.map nD),?_,by rw[<- a8p,yr];rfl,by simp[hrl],λx hx=>?_⟩
 . have pe:∀ρ,(Tg.names [11,12]).put (eD g) ρ=some ((ρ.set 11 (some (.int g.a))).set 12 (some (.int g.b))):=λ_=>rfl
   have ap:=Cw (d:=.tup ((row.map λ(z:Nat)=>ixI (z:Int) (lb.map nD)).map nD)) hw htd;simp only[yr] at c2 ap ⊢;simp[-List.map_map,Dc,Oc,P0 hj,pe,c3,c2,Dr hw,Mh,ap]
 . obtain⟨z,hz',rfl⟩:=bf.mp hx
   have:=a1j (Wz z hz');simpa using this
def adt(hm:2<=m)(P:Kf sz K hs gw)(hh:T4 t f M)(hr:M[r]?=some (.dT gw))(hrt:r≠t) :
 ∃Qp afw M',prog.call m 31 [.ref t,ql K r hs,.int 3] M=.ok (jg Qp afw) M'/\Wq K hs Qp afw/\St t f M M':=by
 rw[call_of (a_ (by decide) hm) rfl];have h3:=P.k3;have hl:=P.len;have ht:t<M.length:=by obtain⟨n,h,_⟩:=hh;exact wj h
 have hrl:=wj hr;have r0:=adm (W:=⟨prog.call (m-1),prog.cls⟩) (M:=M) (K:=K) (y:=19) (e:=.ix (.v 1) (.i 0)) (ρ:=[D.ref t,ql K r hs,D.int 3,none,none,none,none,none,none,none,none,none,none,none,none,none,none,none,none]) rfl (by simp[M9]) (a_ h3 (by decide));have g0:Gs t f M.length M (M++List.replicate K (.lst [])):=Gs.app hh (bu _) _;have w0:Rw hs K M.length [] (M++List.replicate K (.lst [])):=⟨λi hi=>by
  rw[jf x_];simp[rowsOf,hi],by simp,by simp[rowsOf],w5⟩
 obtain⟨v,M1,e1,l1,s1,n1⟩:=Aq (many:=4) (m:=m-1) (r_ hm) g0.has (by decide) (by decide);obtain⟨ρ2,M2,e2,⟨b4,b5,b6,b7,b8,rfl⟩,ad,w2,W2,g2,n2⟩:=yt (W:=⟨prog.call (m-1),prog.cls⟩) (t:=.name 4) (b:=Bo) (it:=.call 14 (.p (.v 0) (.bin .add (.v 2) (.i 1)))) (n:=v)
  (ρ:=[some (.ref t),some (ql K r hs),some (.int 3),some (.vl (uy M.length K)),none,none,none,none,none]++[none,none,none,none,none,none,none,none,none,none]) (M:=M++List.replicate K (.lst [])) (M1:=M1) (by simp[e1]) (e_ (b_ (o_ l1) (by decide)))
  (λi ρ M'=>(∃b4 b5 b6 b7 b8:Option D,ρ=[some (.ref t),some (ql K r hs),some (.int 3),some (.vl (uy M.length K)),b4,b5,b6,b7,b8]++[none,none,none,none,none,none,none,none,none,none])/\∃ad,Rw hs K M.length ad M'/\(∀q∈ad,q.1<i)/\Gs t f M.length M M'/\M'.length=M.length+K)
  ⟨⟨none,none,none,none,none,rfl⟩,[],⟨w0.rs.keep s1 ht,w0.kd,w0.le,w0.nd⟩,by simp,g0.trans (Gs.Wj s1),by simp at n1;exact n1⟩
  (λi ρ M2 hi hI=>by
   obtain⟨⟨b4,b5,b6,b7,b8,rfl⟩,ad,q1,hn,q2,q3⟩:=hI;obtain⟨c5,c6,c7,c8,ad',M3,e3,k1,Nf,k2,k3⟩:=avh (m:=m-1) (r:=r) (n:=i) (r_ hm) P q2.has ht q1 hn (b5:=b5) (b6:=b6) (b7:=b7) (b8:=b8) (rest:=[none,none,none,none,none,none,none,none,none,none]) rfl;exact⟨_,.next,_,M3,rfl,e3,.inl rfl,⟨some (.int i),c5,c6,c7,c8,rfl⟩,ad',k1,Nf,q2.trans k2,k3.trans q3⟩)
 have hM2:=n2;obtain⟨ρ3,M3,e3,⟨b10,Ew,Ry,rfl⟩,as,a3,a4,a5,w3,g3,n3⟩:=yt (W:=⟨prog.call (m-1),prog.cls⟩) (t:=.name 10) (b:=Gz) (it:=.blt .len (.o (.ix (.v 1) (.i 1)))) (n:=hs.length)
  (ρ:=[D.ref t,ql K r hs,D.int 3,D.vl (uy M.length K),b4,b5,b6,b7,b8,D.ref M2.length,none,none,none,none,none,none,none,none,none]) (M:=M2++[.lst []]) (M1:=M2++[.lst []]) (by simp[Oc,Ox]) (a_ hl (by decide))
  (λj ρ M'=>(∃b10 Ew Ry:Option D,ρ=[some (.ref t),some (ql K r hs),some (.int 3),some (.vl (uy M.length K)),b4,b5,b6,b7,b8,some (.ref M2.length),b10,Ew,Ry,none,none,none,none,none,none]) /\
   ∃as:List (List Nat),M'[M2.length]?=some (.lst (as.map λjs=>.vl (js.map nD)))/\as.length=j/\(∀(j:Nat)(g:F)(js:Y3),hs[j]?=some g->as[j]?=some js->Ae hs gw ad j g js)/\Rw hs K M.length ad M'/\Gs t f M.length M M'/\M'.length=M2.length+1)
  ⟨⟨none,none,none,rfl⟩,[],by simp,rfl,by simp,⟨λi hi=>o7 (w2.rs i hi),w2.kd,w2.le,w2.nd⟩,g2.trans (Gs.app g2.has (by lia) _),by simp⟩
  (λj ρ M3 hj hI=>by
   obtain⟨⟨b10,Ew,Ry,rfl⟩,as,q1,q2,q3,q4,q5,q6⟩:=hI;have hjg:hs[j]?=some hs[j]:=by simp[hj]
   obtain⟨js,c7,k1⟩:=a1e (m:=m-1) (M:=M3) (r:=r) (r_ hm) P (q5.low _ _ hrl hrt hr) q4 hjg (a0:=some (.ref t)) (a2:=some (.int 3)) (a4:=b4) (a5:=b5) (a6:=b6) (a7:=b7) (a8:=b8) (a9:=some (.ref M2.length)) (rest:=[none,none,none,none,none,none]) rfl;have ap:=Cw (d:=.vl (js.map nD)) q1 (by simp;exact c_ (f_ q2) (b_ hj (a_ hl (by decide))));have pe:∀ρ,(Tg.names [11,12]).put (eD hs[j]) ρ=some ((ρ.set 11 (some (.int hs[j].a))).set 12 (some (.int hs[j].b))):=λ_=>rfl
   simp only[yp,zb] at c7;refine⟨_,.next,_,M3.set M2.length (.lst ((as.map λjs=>.vl (js.map nD))++[.vl (js.map nD)])),rfl,by simp[Gz,Oc,P0 hjg,pe,Dr q1,c7,ap],.inl rfl,⟨some (.int j),some (.int hs[j].a),some (.int hs[j].b),rfl⟩,as++[js],by rw[uw q1];simp,by simp[q2],λj' g js' hg hjs=>?_,⟨λi hi=>?_,q4.kd,q4.le,q4.nd⟩,q5.trans (Gs.afu q5.has (Ut.set (by lia)) ht (by simp)),by simp[q6]⟩
   . by_cases z:j'<as.length
     . rw[dz z] at hjs;exact q3 j' g js' hg hjs
     . have ze:j'=j:=by have:=(ak.mp hjs).1;simp at this;lia
       subst ze;rw[jf (s_ z),q2] at hjs;simp at hjs;subst hjs;rw[hjg] at hg;cases hg;exact k1
   . rw[qx (by lia)];exact q4.rs i hi)
 obtain⟨M4,e4,mk4,kp4,n4⟩:=akd (W:=⟨prog.call (m-1),prog.cls⟩) (t:=t) (M:=M3) (ρ:=[D.ref t,ql K r hs,D.int 3,D.vl (uy M.length K),b4,b5,b6,b7,b8,D.ref M2.length,b10,Ew,Ry,none,none,none,none,none,none]) rfl rfl w3.rs h3 w3.le (by lia);have g4:Gs t f M.length M M4:=g3.trans ⟨by obtain⟨n,h,o⟩:=g3.has;exact⟨n,kp4 _ _ h,o⟩,λa o _ _ e=>kp4 a o e,by lia⟩;have ac4:Ac M2.length hs (λe=>(rowsOf hs ad e).length) as M4:=⟨kp4 _ _ a3,a4,λj g js h1 h2=>⟨(a5 j g js h1 h2).len,(a5 j g js h1 h2).lt⟩⟩;obtain⟨u,M5,e5,l5,s5,n5⟩:=Aq (many:=4) (m:=m-1) (r_ hm) g4.has (by decide) (by decide);obtain⟨ρ6,M6,e6,⟨d5,d10,d11,d12,d14,d15,rfl⟩,ms,mk6,ac6,g6,n6⟩:=yt (W:=⟨prog.call (m-1),prog.cls⟩) (t:=.name 10) (b:=Bl) (it:=.call 14 (.p (.v 0) (.i 4))) (n:=u)
  (ρ:=[D.ref t,ql K r hs,D.int 3,D.vl (uy M.length K),b4,b5,b6,b7,b8,D.ref M2.length,b10,Ew,Ry,D.ref (M3.length+K),none,none,none,none,none]) (M:=M4) (M1:=M5) (by simp[e5]) (e_ (b_ (o_ l5) (by decide)))
  (λ_ ρ M'=>(∃b5 b10 Ew Ry b14 b15:Option D,ρ=[some (.ref t),some (ql K r hs),some (.int 3),some (.vl (uy M.length K)),b4,b5,b6,b7,b8,some (.ref M2.length),b10,Ew,Ry,some (.ref (M3.length+K)),b14,b15,none,none,none]) /\
   ∃ms,Mk t (M3.length+K) K (λe=>(rowsOf hs ad e).length) ms M'/\Ac M2.length hs (λe=>(rowsOf hs ad e).length) as M'/\Gs t f M.length M M'/\M3.length+K<M'.length)
  ⟨⟨b5,b10,Ew,Ry,none,none,rfl⟩,_,mk4.st s5 (by lia),ac4.of λo e=>s5.keep _ _ (by lia) e,g4.trans (Gs.Wj s5),by lia⟩
  (λi ρ M6 hi hI=>by
   obtain⟨⟨b5,b10,Ew,Ry,b14,b15,rfl⟩,ms,q1,q2,q3,q4⟩:=hI;obtain⟨c5,Ub,c12,c14,c15,Nu,M7,e7,k1,k2,k3⟩:=avn (m:=m-1) (r:=r) (p:=M.length) (r_ hm) P q3.has q1 q2 ht (by lia) q4 (by lia) (by lia) (by lia) w3.le (a2:=some (.int 3)) (a3:=some (.vl (uy M.length K))) (b4:=b4) (b5:=b5) (b6:=b6) (b7:=b7) (b8:=b8) (b10:=some (.int i)) (Ew:=Ew) (Ry:=Ry) (b14:=b14) (b15:=b15) (n16:=none) (n17:=none) (n18:=none);exact⟨_,.next,_,M7,rfl,e7,.inl rfl,⟨c5,some (.int i),Ub,c12,c14,c15,rfl⟩,Nu,k1,k2,q3.trans k3,by have:=k3.len;exact b_ q4 this⟩)
 obtain⟨hd,e7,hd1,hd2⟩:=ap3 (W:=⟨prog.call (m-1),prog.cls⟩) (M:=M6) (ρ:=[D.ref t,ql K r hs,D.int 3,D.vl (uy M.length K),b4,d5,b6,b7,b8,D.ref M2.length,d10,d11,d12,D.ref (M3.length+K),d14,d15,none,none,none]) rfl rfl mk6 h3 w3.le;have hdl:∀e,e<K->∃l,hd[e]?=some l/\l.length<=7/\∀x,x∈l↔x∈ms e:=λe he=>by have z:hd[e]?=some hd[e]:=dh (b_ he (g_ hd1));obtain⟨y1,_,y2⟩:=hd2 e _ z;have:=w3.le e he;exact⟨_,z,a_ y1 this,y2⟩
 obtain⟨ρ8,M8,e8,⟨f10,f11,f12,f18,rfl⟩,td,t1,t2,t3,g8,n8⟩:=yt (W:=⟨prog.call (m-1),prog.cls⟩) (t:=.name 10) (b:=Dc) (it:=.blt .len (.o (.ix (.v 1) (.i 1)))) (n:=hs.length)
  (ρ:=[D.ref t,ql K r hs,D.int 3,D.vl (uy M.length K),b4,d5,b6,b7,b8,D.ref M2.length,d10,d11,d12,D.ref (M3.length+K),d14,d15,D.vl (hd.map Rz),D.ref M6.length,none]) (M:=M6++[.lst []]) (M1:=M6++[.lst []]) (by simp[Oc,Ox]) (a_ hl (by decide))
  (λj ρ M'=>(∃b10 Ew Ry b18:Option D,ρ=[some (.ref t),some (ql K r hs),some (.int 3),some (.vl (uy M.length K)),b4,d5,b6,b7,b8,some (.ref M2.length),b10,Ew,Ry,some (.ref (M3.length+K)),d14,d15,some (.vl (hd.map Rz)),some (.ref M6.length),b18]) /\
   ∃td:List (List Nat),M'[M6.length]?=some (.lst (td.map λjs=>.tup (js.map nD)))/\td.length=j/\(∀(j:Nat)(g:F)(js:Y3),hs[j]?=some g->td[j]?=some js->js.length=(hd.map List.length).getD g.a 0/\∀x∈js,x<(hd.map List.length).getD g.b 0)/\Af M6 M'/\M'.length=M6.length+1)
  ⟨⟨d10,d11,d12,none,rfl⟩,[],by simp,rfl,by simp,Af.app _ _,by simp⟩
  (λj ρ M7 hj hI=>by
   obtain⟨⟨b10,Ew,Ry,b18,rfl⟩,td,q1,q2,q3,q4,q5⟩:=hI;have hjg:hs[j]?=some hs[j]:=by simp[hj]
   obtain⟨sj,ej,_⟩:=ac6.get hjg;have hg:=au hjg;obtain⟨la,x1,x2,x3⟩:=hdl _ (P.ami _ hg);obtain⟨lb,y1,y2,y3⟩:=hdl _ (P.ai5 _ hg);have mk7:=mk6.frame (M':=M7) (λa o _ _ e=>q4 a o e) (by lia);have ac7:=ac6.of (M':=M7) λo e=>q4 _ _ e
   obtain⟨c18,zs,e9,kz,k1,k2⟩:=akg (W:=⟨prog.call (m-1),prog.cls⟩) (r:=r) mk7 ac7 (hl:=hd) hjg ej (P.ami _ hg) (P.ai5 _ hg) x1 y1 x3 y3 x2 q1 (by simp;exact c_ (f_ q2) (b_ hj (a_ hl (by decide)))) (a0:=some (.ref t)) (a2:=some (.int 3)) (a3:=some (.vl (uy M.length K))) (b4:=b4) (b5:=d5) (b6:=b6) (b7:=b7) (b8:=b8) (Ew:=Ew) (Ry:=Ry) (b14:=d14) (b15:=d15) (b18:=b18);refine⟨_,.next,_,_,rfl,e9,.inl rfl,⟨some (.int j),some (.int hs[j].a),some (.int hs[j].b),c18,rfl⟩,td++[zs],by rw[uw q1];simp,by simp[q2],λj' g js' hg' hjs=>?_,λa o e=>?_,by simp[q5]⟩
   . by_cases z:j'<td.length
     . rw[dz z] at hjs;exact q3 j' g js' hg' hjs
     . have ze:j'=j:=by have:=(ak.mp hjs).1;simp at this;lia
       subst ze;rw[jf (s_ z),q2] at hjs;simp at hjs;subst hjs;rw[hjg] at hg';cases hg';have u1:(hd.map List.length).getD hs[j'].a 0=la.length:=by simp[dj,x1]
       have u2:(hd.map List.length).getD hs[j'].b 0=lb.length:=by simp[dj,y1]
       rw[u1,u2];exact⟨k1,k2⟩
   . rw[qx (by have:=wj e;exact i_ this)];exact q4 a o e)
 have c1:Gr.den ⟨prog.call (m-1),prog.cls⟩ [D.ref t,ql K r hs,D.int 3,D.vl (uy M.length K),b4,d5,b6,b7,b8,D.ref M2.length,f10,f11,f12,D.ref (M3.length+K),d14,d15,D.vl (hd.map Rz),D.ref M6.length,f18] M8=.ok (.vl ((hd.map List.length).map nD)) M8:=by
  unfold Gr;rw[yg (d:=.vl (hd.map Rz)) (ds:=hd.map Rz) (M1:=M8) (g:=λd=>match d with|.vl l=>.int l.length|_=>.non) (by simp) rfl (by simp;exact a_ (f_ hd1) (a_ h3 (by decide))) (λz hz=>by
   obtain⟨l,hl',rfl⟩:=bf.mp hz;refine⟨_,rfl,?_⟩;simp[Rz,ud,Q4])]
  simp[Rz,nD]
 refine⟨hd.map List.length,td,M8,?_,⟨by simp[hd1],t2,λx hx=>?_,t3⟩,?_⟩
 . simp only[yp,zb] at e2
   have s3':Lp.den ⟨prog.call (m-1),prog.cls⟩ _ _=_:=e2;have s2':Lj.den ⟨prog.call (m-1),prog.cls⟩ _ _=_:=e3;have s1':Li.den ⟨prog.call (m-1),prog.cls⟩ _ _=_:=e6;have s0':Lg.den ⟨prog.call (m-1),prog.cls⟩ _ _=_:=e8;have r0':J9.den ⟨prog.call (m-1),prog.cls⟩ _ _=_:=r0;simp[-List.map_map,Fn.run,Pq,Pn,r0',s3',MW.new,s2',e4,s1',e7,s0',c1,Mh,ud,U8 (o6 t1),jg]
 . obtain⟨l,hl',rfl⟩:=bf.mp hx
   obtain⟨i,hi,rfl⟩:=ou hl';obtain⟨l2,y1,y2,_⟩:=hdl i (b_ hi (f_ hd1));rw[dh hi] at y1;cases y1;exact y2
 . have:Gs t f M.length M M8:=g6.trans ⟨by obtain⟨n,h,o⟩:=g6.has;exact⟨n,g8 _ _ h,o⟩,λa o _ _ e=>g8 a o e,by lia⟩
   exact this.st
noncomputable def Be(l:Y3):D:=.tup (l.map nD)
def adu(s:Y3)(a:List (List Nat))(M:cu):zy (jg s a) (.int 0) M=some (Be s):=rfl
def aww(s:Y3)(a:List (List Nat))(M:cu):zy (jg s a) (.int 1) M=some (.tup (a.map Be)):=rfl
def ah9{l:Y3}(h:i<l.length):zy (Be l) (.int i) M=some (.int (l.getD i 0)):=Hu q_ (by simp[h,nD])
def awx{a:List (List Nat)}{j:Nat}(h:a[j]?=some js):zy (.tup (a.map Be)) (.int j) M=some (Be js):=Hu q_ (by simp[h])
section
variable{W:Ib}{ρ:Env}{M:cu}{t:Tg}{it:Og}{ds:List D}
def aaz{g:Nat->D}(hit:it.den W ρ M=.ok (.con ds) M)(hl:ds.length<=100000)(h:∀(i:Nat) d,ds[i]?=some d->∃ρ1,t.put d (ρ++List.replicate k none)=some ρ1/\e.den W ρ1 M=.ok (g i) M) :
 (Ex.comp true k t it e).den W ρ M=.ok (.vl ((List.range ds.length).map g)) M:=by
 rw[Ik,hit];obtain⟨ys,M',e1,e2,rfl⟩:=Gj (fin:=(Src.con ds).fin) (item:=(Src.con ds).item) (body:=λd M=>(Res.uv (t.put d (ρ++List.replicate k none)) M).bind fun ρ' M=>(e.den W ρ' M).bind λx M'=>.ok (some x) M') (λi xs M'=>xs=(List.range i).map g/\M'=M) (n:=ds.length) (λi xs M' hi h1=>by
  obtain⟨rfl,rfl⟩:=h1;obtain⟨ρ1,a,b⟩:=h i ds[i] (by simp[hi]);exact⟨_,some (g i),M',by simp[Src.item,hi];rfl,by rw[a];simp[b],by simp[u5],rfl⟩) (λ_ _ _=>rfl) ds.length 0 [] M (uq _) ⟨rfl,rfl⟩
 show(zf (.con ds) _ M').bind _=_;rw[zf,show(Src.con ds).len=ds.length from rfl,cj hl,e1,<- e2];rfl
def aia{e:Ex}{n:Nat}(h:e.den W ρ M=.ok (.int (n:Nat)) M)(hn:n<=100000):(Og.Jz e).den W ρ M=.ok (.con ((List.range n).map nD)) M:=by rw[Ng,h,Res.yo];show(if(n:Int).natAbs<=100000 then _ else _)=_;rw[cj (by lia)];rfl
end
noncomputable def rD(r:List (List Nat)):D:=.tup (r.map Be)
def awy{j:Nat}(h:r[j]?=some js):zy (rD r) (.int j) M=some (Be js):=Hu q_ (by simp[h])
def O5{α:Type}{l:List α}{i:Nat}(h:i<l.length):∃x,l[i]?=some x:=⟨l[i],by simp[h]⟩
def Ju{α:Type}{l:List α}{i:Nat}{x d:α}(h:l[i]?=some x):l.getD i d=x:=by simp[dj,h]
def a1l{l:Y3}{i:Nat}(h:(l.map nD)[i]?=some d):∃y,l[i]?=some y/\d=.int y/\y∈l:=by rw[iz] at h;obtain⟨y,h1,rfl⟩:=bz.mp h;exact⟨y,h1,rfl,au h1⟩
def Wq.get(w:Wq K hs s1 a1){k:Nat}{g:F}(h:hs[k]?=some g):∃js,a1[k]?=some js/\js.length=s1.getD g.a 0/\∀x∈js,x<s1.getD g.b 0:=by obtain⟨js,e⟩:=O5 (l:=a1) (i:=k) (by rw[w.la];exact(ak.mp h).1);exact⟨js,e,w.ok k g js h e⟩
def Wq.s7(w:Wq K hs s1 a1)(k:Nat):s1.getD k 0<=7:=by
 rw[dj];cases e:s1[k]? with
 |none=>simp|some y=>exact w.sm y (au e)
noncomputable def isI(v:Int)(d:D):Bool:=match d with|.int i=>decide (i=v)|_=>false
def avo(h:∃i:Int,d=.int i):isI v d=true↔d=.int v:=by obtain⟨i,rfl⟩:=h;simp[isI]
def aib(M:cu)(v:Int)(ds:List D)(h:∀d∈ds,∃i:Int,d=.int i):Nt M (.int v) (.tup ds)=some (ds.any (isI v)):=by show memD M (.int v) ds=_;rw[memD,Wg M v ds h,u9,Am];rfl
def awz(M:cu)(x:Nat)(l:Y3):Nt M (.int x) (Be l)=some (decide (x∈l)):=by
 rw[Be,aib M x _ (ap2 l),Am]
 congr 1
 rw[xm,vo,dg];constructor
 . intro h
   obtain⟨y,hy,e⟩:=h;have:(y:Int)=x:=by simpa[isI,nD] using e
   have:y=x:=by lia
   rw[<- this];exact hy
 . exact λh=>⟨x,h,by simp[isI,nD]⟩
noncomputable def Kl(a:List (List Nat))(x:Nat)(d:D):Nat:=match d with
 |.int w=>if w=-1 then x else(a.getD w.toNat []).getD x 0
 |_=>0
def aic{a:List (List Nat)}{i:Nat}(h:a[i]?=some js):Kl a x (.int i)=js.getD x 0:=by
 have ni:¬((i:Int)=-1):=by lia
 simp only[Kl,bw ni,t8,Ju h]
section
variable{m:Nat}{M:cu}{sz:Nat->Nat}{K n r:Nat}{hs:List F}{gw:List (List Kx×D)}{s:Y3}{a p q:List (List Nat)}
def avp(hm:1<=m)(w:Wq K hs s a)(hd:d∈o8 hs k)(hx:x<s.getD k 0):prog.call m 22 [jg s a,.int x,d] M=.ok (.int (Kl a x d:Nat)) M:=by
 rw[call_of hm rfl];rcases Hd hd with rfl|⟨i,g,rfl,hg,rfl⟩
 . simp[Fn.run,al3,al2,Kl]
 . obtain⟨js,h1,h2,_⟩:=w.get hg
   have i1:=ah9 (M:=M) (l:=js) (i:=x) (b_ hx (g_ h2));have ni:¬((i:Int)=-1):=by lia
   rw[aic h1];generalize js.getD x 0=y at i1;simp[Fn.run,al3,al2,ni,aww,awx h1,i1]
def adw(hm:1<=m)(w:Wq K hs s a)(hd:d∈o8 hs k)(hx:x<s.getD k 0):prog.call m 32 [jg s a,.int x,d] M=.ok (.int (Kl a x d:Nat)) M:=by
 rw[call_of hm rfl];rcases Hd hd with rfl|⟨i,g,rfl,hg,rfl⟩
 . simp[Fn.run,Ou,Ot,Kl]
 . obtain⟨js,h1,h2,_⟩:=w.get hg
   have i1:=ah9 (M:=M) (l:=js) (i:=x) (b_ hx (g_ h2));have ni:¬((i:Int)<0):=by lia
   rw[aic h1];generalize js.getD x 0=y at i1;simp[Fn.run,Ou,Ot,ni,aww,awx h1,i1]
def avq(hm:1<=m)(h:Made n r K hs gw M)(hd:d∈o8 hs k):prog.call m 5 [.ref n,.int k,d] M=.ok (.int (Ay hs k d)) M:=by
 rcases Hd hd with rfl|⟨i,g,rfl,hg,rfl⟩
 . rw[apl hm h];simp[Ay]
 . rw[a09 hm h hg,Qo hg]
noncomputable def Jv(p:Nat×Nat):D:=.tup [.int p.1,.int p.2]
def aw0(p:Nat×Nat)(M:cu):zy (Jv p) (.int 0) M=some (.int p.1):=rfl
def aw1(p:Nat×Nat)(M:cu):zy (Jv p) (.int 1) M=some (.int p.2):=rfl
def aw2(p:Nat×Nat):Q0 (Jv p)=some (ky p.1 p.2):=rfl
noncomputable def Az(hs:List F)(a:List (List Nat))(k x:Nat):List (Nat×Nat):=(o8 hs k).map λd=>(Ay hs k d,Kl a x d)
def afx(hm:2<=m)(P:Kf sz K hs gw)(h:Made n r K hs gw M)(w:Wq K hs s a)(hx:x<s.getD k 0):prog.call m 24 [.ref n,jg s a,Jv (k,x)] M=.ok (.vl ((Az hs a k x).map Jv)) (M++[.lst (o8 hs k)]):=by
 rw[call_of (a_ (by decide) hm) rfl];have m1:1<=m-1:=r_ hm
 have h':Made n r K hs gw (M++[.lst (o8 hs k)]):=⟨o7 h.1,o7 h.2⟩;have g1:=ah0 (M:=M) (W:=⟨prog.call (m-1),prog.cls⟩) (n:=n) (ρ:=[D.ref n,jg s a,Jv (k,x),D.int k]) (o:=.v 0) (mm:=3) (es:=.o (.v 3)) (ds:=[.int k]) (fi:=4) (by simp) (by simp) h.1 rfl;have c1:La.den ⟨prog.call (m-1),prog.cls⟩ [D.ref n,jg s a,Jv (k,x),D.int k] M=.ok (.vl ((Az hs a k x).map Jv)) (M++[.lst (o8 hs k)]):=by
  unfold La;rw[yg (d:=.ref M.length) (ds:=o8 hs k) (M1:=M++[.lst (o8 hs k)]) (g:=λd=>Jv (Ay hs k d,Kl a x d)) (g1.trans (avb m1 h P.len)) (by simp[fu]) (a_ (Eu P.len) (by decide)) (λd hd=>by
   have g2:=ah0 (M:=M++[.lst (o8 hs k)]) (W:=⟨prog.call (m-1),prog.cls⟩) (n:=n) (ρ:=[D.ref n,jg s a,Jv (k,x),D.int k,some d]) (o:=.v 0) (mm:=4) (es:=.p (.v 3) (.v 4)) (ds:=[.int k,d]) (fi:=5) (by simp) (by simp) h'.1 rfl;have g2:=g2.trans (avq m1 h' hd);have l:=avp (M:=M++[.lst (o8 hs k)]) m1 w hd hx;exact⟨_,rfl,by simp[-Pg,g2,l,aw1];rfl⟩)]
  simp[Az]
 simp[Fn.run,Xq,Xp,aw0,c1]
noncomputable def R8(p:List (List Nat))(e:Nat×Nat):Bool:=decide (e.2∈p.getD e.1 [])
def aid(hm:1<=m)(he:e.1<p.length):prog.call m 28 [Jv e,rD p] M=.ok (.bl (R8 p e)) M:=by rw[call_of hm rfl];obtain⟨js,hj⟩:=O5 he;have i1:=awz M e.2 js;rw[R8,Ju hj];generalize decide (e.2∈js)=b at i1;simp[Fn.run,Xx,Xw,aw0,aw1,awy hj,i1]
end
def a1m(h:M[n]?=some (.lst xs)):Ke .extend (.ref n) M=true:=by simp[Ke,h]
def avr(h:M[n]?=some (.lst xs))(hl:xs.length+ys.length<100000):Gi .extend (.ref n) [.vl ys] M=.ok .non (M.set n (.lst (xs++ys))):=by simp[Gi,h,hl]
def aie(M:cu)(a b:MO):(M++[a]).set M.length b=M++[b]:=by simp
def Jw(M:cu)(a:MO):(M++[a])[M.length]?=some a:=by simp
noncomputable def Br(s:Y3)(i:Nat):List (Nat×Nat):=(List.range i).flatMap λk=>(List.range (s.getD k 0)).map λx=>(k,x)
def Wr(s:Y3)(i:Nat):Br s (i+1)=Br s i++(List.range (s.getD i 0)).map λx=>(i,x):=by simp[Br,u5]
def Yw:(k,x)∈Br s i↔k<i/\x<s.getD k 0:=by simp[Br]
noncomputable def zq(s:Y3)(f:Nat->Nat->Bool)(K:Nat):List (List Nat):=(List.range K).map λk=>(List.range (s.getD k 0)).filter (f k)
def Ws(s:Y3)(f:Nat->Nat->Bool)(i:Nat):zq s f (i+1)=zq s f i++[(List.range (s.getD i 0)).filter (f i)]:=by simp[zq,u5]
section
variable{m:Nat}{M:cu}{sz:Nat->Nat}{K n r mp:Nat}{hs:List F}{gw kv:List (List Kx×D)}{s:Y3}{a p q:List (List Nat)}
theorem R9(w:Wq K hs s a)(hK:K<=3):∀i,i<=K->(Br s i).length<=i*7
 |0,_=>by simp[Br]
 |i+1,h=>by
  have:=R9 w hK i (by lia);have:=w.s7 i;rw[Wr,qz,du,List.length_range]
  lia
def ap5(hm:1<=m)(w:Wq K hs s a)(hK:K<=3):prog.call m 23 [jg s a] M=.ok (.ref M.length) (M++[.lst ((Br s K).map Jv)]):=by
 rw[call_of hm rfl];obtain⟨fl,ρ',M',e,⟨rfl,⟨b2,b3,rfl⟩,rfl⟩|⟨v,rfl,h⟩⟩:=Nj (W:=⟨prog.call (m-1),prog.cls⟩) (s:=.con (Al (s.map nD) 0)) (n:=K) (t:=.names [2,3]) (b:=Rf) (it:=.enm (.ix (.v 0) (.i 0))) (ρ:=[jg s a,D.ref M.length,none,none]) (M:=M++[.lst []]) (M1:=M++[.lst []]) (by simp[adu,Be]) (by simp[Src.len,Al,w.ls])
  (λi ρ M'=>(∃b2 b3,ρ=[some (jg s a),some (.ref M.length),b2,b3])/\M'=M++[.lst ((Br s i).map Jv)]) (λ_ _=>False) ⟨⟨none,none,rfl⟩,by simp[Br]⟩ (λ_ _ _=>rfl) (λi ρ M' hi hI=>by
   obtain⟨⟨b2,b3,rfl⟩,rfl⟩:=hI;have h7:=w.s7 i;obtain⟨y,hy⟩:=O5 (l:=s) (i:=i) (by rw[w.ls];exact hi);rw[Ju hy] at h7;have le:=R9 w hK i (e_ hi);have c1:Rc.den ⟨prog.call (m-1),prog.cls⟩ [jg s a,D.ref M.length,D.int i,D.int y] (M++[.lst ((Br s i).map Jv)])=.ok (.vl (((List.range y).map λx=>(i,x)).map Jv)) (M++[.lst ((Br s i).map Jv)]):=by
    unfold Rc;rw[aaz (g:=λx=>Jv (i,x)) (ds:=(List.range y).map nD) (aia (by simp) (a_ h7 (by decide))) (by simp;exact a_ h7 (by decide)) (λx d hd=>by
     obtain⟨z,h1,rfl,hx⟩:=a1l hd;rw[uc (by simpa using(ak.mp h1).1)] at h1;cases h1;exact⟨_,rfl,by simp;rfl⟩)]
    simp
   have g:=Jw M (.lst ((Br s i).map Jv));have ex:=avr (ys:=((List.range y).map λx=>(i,x)).map Jv) g (by simp;lia);rw[aie,<- ph,show Br s i++(List.range y).map (λx=>(i,x))=Br s (i+1) by rw[Wr,Ju hy]] at ex;exact⟨.tup [.int i,.int y],[some (jg s a),some (.ref M.length),some (.int i),some (.int y)],by simp[Src.item,Al,hy,nD],rfl,.next,_,_,by simp[-List.map_map,Rf,a1m g,c1,ex],.inl ⟨rfl,⟨some (.int i),some (.int y),rfl⟩,rfl⟩⟩)
 . have e:Xo.den ⟨prog.call (m-1),prog.cls⟩ _ _=_:=e
   simp[Fn.run,agf,age,MW.new,e]
 . exact h.elim
def aif(hm:1<=m)(w:Wq K hs s a)(hK:K<=3)(hp:M[mp]?=some (.dT kv)):prog.call m 25 [jg s a,.ref mp] M=.ok (rD (zq s (λk x=>(vz kv (ky k x)).isSome) K)) (M++[.lst ((zq s (λk x=>(vz kv (ky k x)).isSome) K).map Be)]):=by
 rw[call_of hm rfl];obtain⟨fl,ρ',M',e,⟨rfl,⟨b2,b3,rfl⟩,rfl⟩|⟨v,rfl,h⟩⟩:=Nj (W:=⟨prog.call (m-1),prog.cls⟩) (s:=.con (Al (s.map nD) 0)) (n:=K) (t:=.names [3,4]) (b:=Ld) (it:=.enm (.ix (.v 0) (.i 0))) (ρ:=[jg s a,D.ref mp,D.ref M.length,none,none]) (M:=M++[.lst []]) (M1:=M++[.lst []]) (by simp[adu,Be]) (by simp[Src.len,Al,w.ls])
  (λi ρ M'=>(∃b2 b3,ρ=[some (jg s a),some (.ref mp),some (.ref M.length),b2,b3])/\M'=M++[.lst ((zq s (λk x=>(vz kv (ky k x)).isSome) i).map Be)]) (λ_ _=>False) ⟨⟨none,none,rfl⟩,by simp[zq]⟩ (λ_ _ _=>rfl) (λi ρ M' hi hI=>by
   obtain⟨⟨b2,b3,rfl⟩,rfl⟩:=hI;have h7:=w.s7 i;obtain⟨y,hy⟩:=O5 (l:=s) (i:=i) (by rw[w.ls];exact hi);rw[Ju hy] at h7;have c1:Lb.den ⟨prog.call (m-1),prog.cls⟩ [jg s a,D.ref mp,D.ref M.length,D.int i,D.int y] (M++[.lst ((zq s (λk x=>(vz kv (ky k x)).isSome) i).map Be)])=.ok (.vl (((List.range y).filter λx=>(vz kv (ky i x)).isSome).map nD)) (M++[.lst ((zq s (λk x=>(vz kv (ky k x)).isSome) i).map Be)]):=by
    unfold Lb;rw[Kw (n:=y) (M1:=M++[.lst ((zq s (λk x=>(vz kv (ky k x)).isSome) i).map Be)]) (q:=λx=>(vz kv (ky i x)).isSome) (g:=nD) (by simp) (a_ h7 (by decide)) (λx hx=>by
     have ii:=av6 (o7 (X:=[.lst ((zq s (λk x=>(vz kv (ky k x)).isSome) i).map Be)]) hp) (aw2 (i,x));rw[Jv] at ii;exact⟨_,rfl,by simp[ii],λ_=>by simp[nD]⟩)]
    rfl
   have g:=Jw M (.lst ((zq s (λk x=>(vz kv (ky k x)).isSome) i).map Be));have ap:=Cw (d:=Be ((List.range y).filter λx=>(vz kv (ky i x)).isSome)) g (by simp[zq];lia);rw[aie,show(zq s (λk x=>(vz kv (ky k x)).isSome) i).map Be++[Be ((List.range y).filter λx=>(vz kv (ky i x)).isSome)]=(zq s (λk x=>(vz kv (ky k x)).isSome) (i+1)).map Be by rw[Ws,Ju hy];simp] at ap;have tv:=Mh (M++[.lst ((zq s (λk x=>(vz kv (ky k x)).isSome) i).map Be)]) (((List.range y).filter λx=>(vz kv (ky i x)).isSome).map nD);exact⟨.tup [.int i,.int y],[some (jg s a),some (.ref mp),some (.ref M.length),some (.int i),some (.int y)],by simp[Src.item,Al,hy,nD],rfl,.next,_,_,by simp[Ld,Dr g,c1,tv];exact ap▸rfl,.inl ⟨rfl,⟨some (.int i),some (.int y),rfl⟩,rfl⟩⟩)
 . have e:Sw.den ⟨prog.call (m-1),prog.cls⟩ _ _=_:=e
   have tv:ud .tuple [.ref M.length] (M++[.lst ((zq s (λk x=>(vz kv (ky k x)).isSome) K).map Be)])=.ok (rD (zq s (λk x=>(vz kv (ky k x)).isSome) K)) (M++[.lst ((zq s (λk x=>(vz kv (ky k x)).isSome) K).map Be)]):=by simp[ud,Aa,fu,rD]
   simp[Fn.run,Xu,Xr,MW.new,e,tv]
 . exact h.elim
end
structure Pt(K:Nat)(p:List (List Nat)):Prop where
 len:p.length=K
 row:∀js∈p,js.length<=100
theorem allB_of(f:Nat×Nat->Bool):∀l:List (Nat×Nat),allB (l.map λe=>D.bl (f e))=some (l.all f)
 |[]=>rfl|e::l=>by rw[gm,allB,allB_of f l];rfl
def a1n(M:cu)(f:Nat×Nat->Bool)(l:List (Nat×Nat)):ud .all [.vl (l.map λe=>D.bl (f e))] M=.ok (.bl (l.all f)) M:=by show Res.uv ((allB _).map D.bl) M=_;rw[allB_of];rfl
noncomputable def good(hs:List F)(a p q:List (List Nat))(k x:Nat):Bool:=((Az hs a k x).filter (R8 p)).all (R8 q)
noncomputable abbrev ED(n:Nat)(w p q:D)(mp:Nat)(b5 b6:Option D):Env:=[some (.ref n),some w,some p,some q,some (.ref mp),b5,b6]
section
variable{m:Nat}{M:cu}{sz:Nat->Nat}{K n r mp:Nat}{hs:List F}{gw kv:List (List Kx×D)}{s:Y3}{a p q:List (List Nat)}
def adx(P:Kf sz K hs gw)(hk:k<K)(h:e∈Az hs a k x):e.1<K:=by obtain⟨d,hd,rfl⟩:=bf.mp h;exact Us P hk hd
def aki(P:Kf sz K hs gw):(Az hs a k x).length<=6:=by rw[Az,du];exact Eu P.len
def ap6(hm:3<=m)(P:Kf sz K hs gw)(h:Made n r K hs gw M)(w:Wq K hs s a)(hp:Pt K p)(hq:Pt K q)(hk:k<K)(hx:x<s.getD k 0)(hd:M[mp]?=some (.dT kv))(hl:kv.length<1000) :
 ∃c6,Iz.den ⟨prog.call m,prog.cls⟩ (ED n (jg s a) (rD p) (rD q) mp (some (Jv (k,x))) b6) M=.ok (.next,ED n (jg s a) (rD p) (rD q) mp (some (Jv (k,x))) c6) (if good hs a p q k x then(M++[MO.lst (o8 hs k)]).set mp (.dT (Bw kv (ky k x) (.bl true))) else M++[MO.lst (o8 hs k)]):=by
 have m1:1<=m:=a_ (by decide) hm
 have rl:=aki (a:=a) (k:=k) (x:=x) P;have re:=afx (m:=m) (M:=M) (a_ (by decide) hm) P h w hx;have c2:Rh.den ⟨prog.call m,prog.cls⟩ (ED n (jg s a) (rD p) (rD q) mp (some (Jv (k,x))) b6) M=.ok (.vl (((Az hs a k x).filter (R8 p)).map Jv)) (M++[.lst (o8 hs k)]):=by
  unfold Rh;rw[Kd (d:=.vl ((Az hs a k x).map Jv)) (ds:=(Az hs a k x).map Jv) (M1:=M++[.lst (o8 hs k)]) (q:=λd=>match d with|.tup [.int i,.int j]=>R8 p (i.toNat,j.toNat)|_=>false) (g:=λd=>d) (by simp[re]) rfl (by simp;exact a_ rl (by decide)) (λd hd=>by
   obtain⟨e,he,rfl⟩:=bf.mp hd;have li:=aid (m:=m) (M:=M++[.lst (o8 hs k)]) (e:=e) m1 (p:=p) (by rw[hp.len];exact adx P hk he);exact⟨_,rfl,by simp[li];simp[Jv],λ_=>by simp⟩)]
  rw[cj rfl,List.filter_map,yr];rfl
 have c1:Rg.den ⟨prog.call m,prog.cls⟩ (ED n (jg s a) (rD p) (rD q) mp (some (Jv (k,x))) (some (.vl (((Az hs a k x).filter (R8 p)).map Jv)))) (M++[.lst (o8 hs k)])=.ok (.vl (((Az hs a k x).filter (R8 p)).map λe=>D.bl (R8 q e))) (M++[.lst (o8 hs k)]):=by
  unfold Rg;have fl:=o4 (R8 p) (Az hs a k x);rw[yg (d:=.vl (((Az hs a k x).filter (R8 p)).map Jv)) (ds:=((Az hs a k x).filter (R8 p)).map Jv) (M1:=M++[.lst (o8 hs k)]) (g:=λd=>match d with|.tup [.int i,.int j]=>.bl (R8 q (i.toNat,j.toNat))|_=>.non) (by simp) rfl (by rw[du];lia) (λd hd=>by
   obtain⟨e,he,rfl⟩:=bf.mp hd;have li:=aid (m:=m) (M:=M++[.lst (o8 hs k)]) (e:=e) m1 (p:=q) (by rw[hq.len];exact adx P hk (kj.mp he).1);exact⟨_,rfl,by simp[li];simp[Jv]⟩)]
  rw[cj rfl,yr];rfl
 have al:=a1n (M++[.lst (o8 hs k)]) (R8 q) ((Az hs a k x).filter (R8 p));have go:((Az hs a k x).filter (R8 p)).all (R8 q)=good hs a p q k x:=rfl;rw[go] at al;refine⟨some (.vl (((Az hs a k x).filter (R8 p)).map Jv)),?_⟩;generalize((Az hs a k x).filter (R8 p)).map Jv=l1 at c1 c2;generalize(((Az hs a k x).filter (R8 p)).map λe=>D.bl (R8 q e))=l2 at c1 al;cases hg:good hs a p q k x with
 |false =>
  rw[hg] at al;simp[Iz,c2,c1,al]
 |true =>
  rw[hg] at al;have st:=aly (d:=.bl true) (o7 (X:=[.lst (o8 hs k)]) hd) (aw2 (k,x)) (b_ hl (by decide));simp[Iz,c2,c1,al,st]
def ady(hm:4<=m)(P:Kf sz K hs gw)(h:Made n r K hs gw M)(w:Wq K hs s a)(hp:Pt K p)(hq:Pt K q) :
 ∃M',prog.call m 27 [.ref n,jg s a,rD p,rD q] M=.ok (rD (zq s (good hs a p q) K)) M'/\Af M M':=by
 rw[call_of (a_ (by decide) hm) rfl];have k3:=P.k3;have m1:1<=m-1:=r_ (a_ (by decide) hm)
 have sl:=R9 w k3 K (bu _);have so:=ap5 (M:=M++[.dT []]) m1 w k3;have ne:M.length≠(M++[MO.dT []]).length:=by simp
 have q0:=Jw (M++[.dT []]) (.lst ((Br s K).map Jv));generalize hS:Br s K=S at so sl q0;generalize hM1:M++[.dT []]++[.lst (S.map Jv)]=M1 at so q0;have d0:M1[M.length]?=some (.dT []):=by rw[<- hM1];exact o7 (Jw M _)
 have kp:Af M M1:=λa o h=>by rw[<- hM1];exact o7 (o7 h)
 generalize hsp:(M++[MO.dT []]).length=sp at so q0 ne;obtain⟨fl,ρ',M',e,⟨rfl,⟨b5,b6,rfl⟩,kv,g1,g2,g3,g4⟩|⟨v,rfl,h⟩⟩:=Nj (W:=⟨prog.call (m-1),prog.cls⟩) (s:=.live sp S.length) (n:=S.length) (t:=.name 5) (b:=Iz) (it:=.val (.call 23 (.o (.v 1)))) (ρ:=ED n (jg s a) (rD p) (rD q) M.length none none) (M:=M++[.dT []]) (M1:=M1) (by simp[so,srcOf,q0]) rfl
  (λi ρ M'=>(∃b5 b6,ρ=ED n (jg s a) (rD p) (rD q) M.length b5 b6)/\∃kv,M'[M.length]?=some (.dT kv)/\kv.length<=i/\(∀k x,(vz kv (ky k x)).isSome=true↔(k,x)∈S.take i/\good hs a p q k x=true)/\∀a o,a≠M.length->M1[a]?=some o->M'[a]?=some o) (λ_ _=>False) ⟨⟨none,none,rfl⟩,[],d0,bu _,λk x=>by simp[vz],λ_ _ _ h=>h⟩ (λ_ M' h=>by
   obtain⟨_,kv,_,_,_,g⟩:=h;simp[Src.fin,g _ _ ne.symm q0]) (λi ρ M' hi hI=>by
   obtain⟨⟨b5,b6,rfl⟩,kv,g1,g2,g3,g4⟩:=hI;have qi:=g4 _ _ ne.symm q0;obtain⟨⟨k,x⟩,he⟩:=O5 hi;have hm':=au he;rw[<- hS,Yw] at hm';have h':Made n r K hs gw M':=⟨g4 _ _ (h_ (wj h.1)) (kp _ _ h.1),g4 _ _ (h_ (wj h.2)) (kp _ _ h.2)⟩;obtain⟨c6,e1⟩:=ap6 (m:=m-1) (b6:=b6) (r_ hm) P h' w hp hq hm'.1 hm'.2 g1 (by lia);have tk:S.take (i+1)=S.take i++[(k,x)]:=by rw[List.take_succ,he];rfl
   refine⟨Jv (k,x),ED n (jg s a) (rD p) (rD q) M.length (some (Jv (k,x))) b6,by simp[Src.item,qi,he],rfl,.next,_,_,e1,.inl ⟨rfl,⟨some (Jv (k,x)),c6,rfl⟩,?_⟩⟩;cases hg:good hs a p q k x with
   |false =>
    refine⟨kv,o7 g1,a_ g2 x_,λk' x'=>?_,λb o hb ho=>o7 (g4 b o hb ho)⟩;rw[g3,tk,dw,q9];constructor
    . exact λz=>⟨.inl z.1,z.2⟩
    . rintro⟨z|z,y⟩
      . exact⟨z,y⟩
      . cases z;rw[hg] at y;cases y
   |true =>
    refine⟨Bw kv (ky k x) (.bl true),uw (o7 g1),?_,λk' x'=>?_,λb o hb ho=>by rw[cj rfl,qx hb.symm];exact o7 (g4 b o hb ho)⟩
    . have:=ah5 kv (ky k x) (.bl true);lia
    . rw[apw,tk,dw,q9]
      by_cases z:ky k' x'=ky k x
      . obtain⟨rfl,rfl⟩:=Zt z
        rw[cj rfl];exact⟨λ_=>⟨.inr rfl,hg⟩,λ_=>rfl⟩
      . rw[bw z,g3]
        constructor
        . exact λy=>⟨.inl y.1,y.2⟩
        . rintro⟨y|y,u⟩
          . exact⟨y,u⟩
          . cases y;exact absurd rfl z)
 . have e:Xv.den ⟨prog.call (m-1),prog.cls⟩ _ _=_:=e
   have pk:=aif (M:=M') m1 w k3 g1;have er:zq s (λk x=>(vz kv (ky k x)).isSome) K=zq s (good hs a p q) K:=by
    refine qb λk hk=>List.filter_congr λx hx=>?_
    rw[xm,g3,List.take_length,<- hS,Yw];exact⟨λz=>z.2,λz=>⟨⟨jn.mp hk,jn.mp hx⟩,z⟩⟩
   rw[er] at pk;exact⟨M'++[.lst ((zq s (good hs a p q) K).map Be)],by simp[Fn.run,agh,agg,MW.new,e,pk],λb o hb=>o7 (g4 b o (h_ (wj hb)) (kp b o hb))⟩
 . exact h.elim
noncomputable def Bf(K:Nat):List (List Nat):=(List.range K).map λ_=>[]
def Wt(K:Nat):Pt K (Bf K):=⟨by simp[Bf],λjs h=>by
 obtain⟨_,_,rfl⟩:=bf.mp h;exact jt _⟩
def ap7(hm:5<=m)(P:Kf sz K hs gw)(h:Made n r K hs gw M)(w:Wq K hs s a)(hp:Pt K p) :
 ∃M',prog.call m 29 [.ref n,jg s a,rD p] M=.ok (rD (zq s (good hs a p (Bf K)) K)) M'/\Af M M':=by
 rw[call_of (a_ (by decide) hm) rfl];have l1:prog.call (m-1) 26 [.ref n,jg s a,.vl []] M=.ok (rD (Bf K)) (M++[.dT []]++[.lst ((Bf K).map Be)]):=by
  rw[call_of (r_ (a_ (by decide) hm)) rfl];have pk:=aif (m:=m-1-1) (M:=M++[.dT []]) (r_ (r_ (a_ (by decide) hm))) w P.k3 (Jw M (.dT []));have er:zq s (λk x=>(vz ([]:List (List Kx×D)) (ky k x)).isSome) K=Bf K:=qb λk _=>by simp[vz]
  rw[er] at pk;have lo:Lf.den ⟨prog.call (m-1-1),prog.cls⟩ [some (.ref n),some (jg s a),some (.vl []),some (.ref M.length),none,none] (M++[.dT []])=.ok (.next,[some (.ref n),some (jg s a),some (.vl []),some (.ref M.length),none,none]) (M++[.dT []]):=rfl;simp[Fn.run,Pk,Pj,MW.new,lo,pk]
 obtain⟨M',e,k⟩:=ady (m:=m-1) (M:=M++[.dT []]++[.lst ((Bf K).map Be)]) (r_ hm) P ⟨o7 (o7 h.1),o7 (o7 h.2)⟩ w hp (Wt K);exact⟨M',by simp[Fn.run,agj,agi,l1] at e ⊢;simp[e],λb o hb=>k b o (o7 (o7 hb))⟩
end
section
variable{W:Ib}{ρ:Env}{M:cu}
def Wu(hit:it.den W ρ M=.ok (.tup ds) M1)(hl:ds.length<=100000)
 (h:∀x∈ds,∃ρ1,t.put x (ρ++List.replicate k none)=some ρ1/\c.den W ρ1 M1=.ok (.bl (q x)) M1/\(q x=true->e.den W ρ1 M1=.ok (g x) M1)) :
 (Ex.Ax v k t (.val it) c e).den W ρ M=if v then .ok (.vl ((ds.filter q).map g)) M1 else new (.lst ((ds.filter q).map g)) M1:=by
 rw[Hk,Hj,hit];simp only[Res.yo,srcOf,Res.Aw];rw[Ph (ds:=ds) (g:=λx=>if q x then some (g x) else none) hl (λx hx=>by
  obtain⟨ρ1,a,b,c⟩:=h x hx;rw[a,Res.Aw,Res.yo,b,Res.yo];cases e:q x with
  | true=>simp[c e]|false=>simp)]
 have:ds.filterMap (λx=>if q x then some (g x) else none)=(ds.filter q).map g:=by
  clear h hl hit
  induction ds with
  |nil=>rfl|cons a l ih=>by_cases e:q a=true<;>simp[e,ih]
 rw[this];rfl
def eq_empty(M:cu)(l:List D):wz M (.vl l) (.vl [])=some (decide (l=[])):=by
 cases l with
 |nil=>rfl|cons a l=>simp[wz,Km,fu]
end
section
variable{m:Nat}{M:cu}{sz:Nat->Nat}{K n r mp:Nat}{hs:List F}{gw kv:List (List Kx×D)}{s:Y3}{a p q:List (List Nat)}
noncomputable def Dj(hs:List F)(a p:List (List Nat))(k x:Nat):List D:=(o8 hs k).filter λd=>R8 p (Ay hs k d,Kl a x d)
def aih(hm:2<=m)(P:Kf sz K hs gw)(w:Wq K hs s a)(hp:Pt K p)(hk:k<K)(hx:x<s.getD k 0):prog.call m 35 [ql K r hs,jg s a,rD p,.int k,.int x] M=.ok (.tup (Dj hs a p k x)) M:=by
 rw[call_of (a_ (by decide) hm) rfl];have m1:1<=m-1:=r_ hm
 have c1:Hz.den ⟨prog.call (m-1),prog.cls⟩ [ql K r hs,jg s a,rD p,D.int k,D.int x,D.vl (o8 hs k)] M=.ok (.vl (Dj hs a p k x)) M:=by
  unfold Hz;rw[Kd (d:=.vl (o8 hs k)) (ds:=o8 hs k) (M1:=M) (q:=λd=>R8 p (Ay hs k d,Kl a x d)) (g:=λd=>d) (by simp) rfl (a_ (Eu P.len) (by decide)) (λd hd=>by
   obtain⟨js,hj⟩:=O5 (l:=p) (i:=Ay hs k d) (by rw[hp.len];exact Us P hk hd);have i1:=awz M (Kl a x d) js;have i2:R8 p (Ay hs k d,Kl a x d)=decide (Kl a x d∈js):=by simp only[R8,Ju hj]
   rw[<- i2] at i1;exact⟨_,rfl,by simp[adw m1 w hd hx,Wh m1 hd,awy hj,i1],λ_=>by simp⟩)]
  simp[Dj]
 simp[Fn.run,Sy,Sx,Wf m1 P.len,c1,Mh]
def ap8:good hs a p q k x=true↔∀d∈o8 hs k,R8 p (Ay hs k d,Kl a x d)=true->R8 q (Ay hs k d,Kl a x d)=true:=by
 simp only[good,Az,ik,kj,bf];constructor
 . exact λh d hd hp=>h _ ⟨⟨d,hd,rfl⟩,hp⟩
 . rintro h e ⟨⟨d,hd,rfl⟩,hp⟩
   exact h d hd hp
noncomputable def vOf(d:D):Int:=match d with|.int v=>v|_=>0
def adz:(Dj hs a p k x).filter (λd=>!(Dj hs a q k x).any (isI (vOf d)))=[]↔good hs a p q k x=true:=by
 rw[ap8,List.filter_eq_nil_iff];constructor
 . intro h d hd hp
   have h:=h d (kj.mpr ⟨hd,hp⟩);simp only[Bool.not_eq_true,Bool.not_eq_false',vo] at h;obtain⟨d',h1,h2⟩:=h;obtain⟨g1,g2⟩:=kj.mp h1;obtain⟨v,rfl⟩:=Mz hd;have:=(avo (Mz g1)).mp h2;rw[this] at g2;exact g2
 . intro h d hd
   obtain⟨g1,g2⟩:=kj.mp hd;obtain⟨v,rfl⟩:=Mz g1;simp only[Bool.not_eq_true,Bool.not_eq_false',vo];exact⟨.int v,kj.mpr ⟨g1,h _ g1 g2⟩,by simp[isI,vOf]⟩
noncomputable abbrev EQ(pt w p q:D)(fp:Nat)(b5 b6 b7 b8:Option D):Env:=[some pt,some w,some p,some q,some (.ref fp),b5,b6,b7,b8]
def ap9(hm:3<=m)(P:Kf sz K hs gw)(w:Wq K hs s a)(hp:Pt K p)(hq:Pt K q)(hk:k<K)(hx:x<s.getD k 0)(hr:M[rp]?=some (.lst l))(hl:l.length<1000) :
 Bp.den ⟨prog.call m,prog.cls⟩ (EQ (ql K r hs) (jg s a) (rD p) (rD q) fp (some (.int k)) (some (.ref rp)) (some (.int x)) b8) M=.ok (.next,EQ (ql K r hs) (jg s a) (rD p) (rD q) fp (some (.int k)) (some (.ref rp)) (some (.int x)) (some (.tup (Dj hs a q k x)))) (if good hs a p q k x then M.set rp (.lst (l++[.int x])) else M):=by
 have m2:2<=m:=a_ (by decide) hm
 have i1:=aih (M:=M) (r:=r) m2 P w hp hk hx;have i2:=aih (M:=M) (r:=r) m2 P w hq hk hx;have wi:∀{p:List (List Nat)},∀d∈Dj hs a p k x,∃i:Int,d=.int i:=fun{p} d hd=>Mz (kj.mp hd).1
 have wl:(Dj hs a p k x).length<=6:=gq (o4 _ _) (Eu P.len)
 have c1:G6.den ⟨prog.call m,prog.cls⟩ (EQ (ql K r hs) (jg s a) (rD p) (rD q) fp (some (.int k)) (some (.ref rp)) (some (.int x)) (some (.tup (Dj hs a q k x)))) M=.ok (.vl ((Dj hs a p k x).filter λd=>!(Dj hs a q k x).any (isI (vOf d)))) M:=by
  unfold G6;rw[Wu (ds:=Dj hs a p k x) (M1:=M) (q:=λd=>!(Dj hs a q k x).any (isI (vOf d))) (g:=λd=>d) (by simp[i1]) (a_ wl (by decide)) (λd hd=>by
   obtain⟨v,rfl⟩:=wi d hd;have:=aib M v _ (wi (p:=q));exact⟨_,rfl,by simp[this];rfl,λ_=>by simp⟩)]
  simp
 have eq:=eq_empty M ((Dj hs a p k x).filter λd=>!(Dj hs a q k x).any (isI (vOf d)));have ap:=Cw (d:=.int x) hr (b_ hl (by decide));cases hg:good hs a p q k x with
 |true =>
  rw[decide_eq_true (adz.mpr hg)] at eq;generalize((Dj hs a p k x).filter λd=>!(Dj hs a q k x).any (isI (vOf d)))=l1 at c1 eq;simp[Bp,i2,c1,eq,Dr hr,ap]
 |false =>
  rw[v9 (λz=>by rw[adz.mp z] at hg;cases hg)] at eq;generalize((Dj hs a p k x).filter λd=>!(Dj hs a q k x).any (isI (vOf d)))=l1 at c1 eq;simp[Bp,i2,c1,eq]
def Yx(hm:4<=m)(P:Kf sz K hs gw)(w:Wq K hs s a)(hp:Pt K p)(hq:Pt K q) :
 ∃M',prog.call m 36 [ql K r hs,jg s a,rD p,rD q] M=.ok (rD (zq s (good hs a p q) K)) M'/\Af M M':=by
 rw[call_of (a_ (by decide) hm) rfl];have k3:=P.k3;obtain⟨ρ',M',e,⟨b5,b6,b7,b8,rfl⟩,g1,g2⟩:=yt (W:=⟨prog.call (m-1),prog.cls⟩) (t:=.name 5) (b:=G7) (it:=.ix (.v 0) (.i 0)) (n:=K) (ρ:=EQ (ql K r hs) (jg s a) (rD p) (rD q) M.length none none none none) (M:=M++[.lst []]) (M1:=M++[.lst []]) (by simp[M9]) (a_ k3 (by decide))
  (λi ρ M'=>(∃b5 b6 b7 b8,ρ=EQ (ql K r hs) (jg s a) (rD p) (rD q) M.length b5 b6 b7 b8)/\M'[M.length]?=some (.lst ((zq s (good hs a p q) i).map Be))/\Af M M') ⟨⟨none,none,none,none,rfl⟩,by simp[zq],Af.app _ _⟩
  (λk ρ M1 hk hI=>by
   obtain⟨⟨b5,b6,b7,b8,rfl⟩,g1,g2⟩:=hI;have h7:=w.s7 k;have j2:=ah9 (l:=s) (i:=k) (M:=M1++[.lst []]) (by rw[w.ls];exact hk);have ml:=wj g1;have ne:M.length≠M1.length:=h_ ml;obtain⟨ρ2,M2,e2,⟨c7,c8,rfl⟩,r1,r2⟩:=yt (W:=⟨prog.call (m-1),prog.cls⟩) (t:=.name 7) (b:=Bp) (it:=.ix (.ix (.v 1) (.i 0)) (.v 5)) (n:=s.getD k 0) (ρ:=EQ (ql K r hs) (jg s a) (rD p) (rD q) M.length (some (.int k)) (some (.ref M1.length)) b7 b8) (M:=M1++[.lst []]) (M1:=M1++[.lst []]) (by simp[adu,j2]) (a_ h7 (by decide))
    (λi ρ M'=>(∃b7 b8,ρ=EQ (ql K r hs) (jg s a) (rD p) (rD q) M.length (some (.int k)) (some (.ref M1.length)) b7 b8)/\M'[M1.length]?=some (.lst (((List.range i).filter (good hs a p q k)).map nD))/\Af M1 M') ⟨⟨b7,b8,rfl⟩,by simp,Af.app _ _⟩
    (λx ρ M2 hx hI=>by
     obtain⟨⟨b7,b8,rfl⟩,r1,r2⟩:=hI;have fl:=o4 (good hs a p q k) (List.range x);rw[List.length_range] at fl;have lt:=ap9 (m:=m-1) (M:=M2) (r:=r) (fp:=M.length) (b8:=b8) (r_ hm) P w hp hq hk hx r1 (by rw[du];lia);refine⟨_,.next,_,_,rfl,lt,.inl rfl,⟨some (.int x),_,rfl⟩,?_,?_⟩
     . cases hg:good hs a p q k x with
       |true=>rw[cj rfl,uw r1];simp[u5,hg,nD]|false=>rw[bw (by simp),r1];simp[u5,hg]
     . split
       . exact λb o hb=>by rw[qx (i_ (wj hb))];exact r2 b o hb
       . exact r2)
   have e2:Lz.den ⟨prog.call (m-1),prog.cls⟩ _ _=_:=e2;have g3:=r2 _ _ g1;have tv:ud .tuple [.ref M1.length] M2=.ok (Be ((List.range (s.getD k 0)).filter (good hs a p q k))) M2:=by simp only[ud,O8,Aa,fu,r1];rfl
   have ap:=Cw (d:=Be ((List.range (s.getD k 0)).filter (good hs a p q k))) g3 (by simp[zq];lia);obtain⟨R,hR⟩:∃R,Be ((List.range (s.getD k 0)).filter (good hs a p q k))=R:=⟨_,rfl⟩;rw[hR] at tv ap;refine⟨_,.next,_,M2.set M.length (.lst ((zq s (good hs a p q) k).map Be++[R])),rfl,by simp[G7,MW.new,e2,Dr g3,tv,ap],.inl rfl,⟨some (.int k),some (.ref M1.length),c7,c8,rfl⟩,by rw[uw g3,Ws,ph,<- hR];rfl,λb o hb=>?_⟩;rw[qx (i_ (wj hb))];exact r2 b o (g2 b o hb))
 have e:Ma.den ⟨prog.call (m-1),prog.cls⟩ _ _=_:=e;have tv:ud .tuple [.ref M.length] M'=.ok (rD (zq s (good hs a p q) K)) M':=by simp only[ud,O8,Aa,fu,g1];rfl
 exact⟨M',by simp[Fn.run,Py,Px,MW.new,e,tv],g2⟩
theorem aii:∀n,allB (List.replicate n (.bl true))=some true
 |0=>rfl|n+1=>by rw[List.replicate_succ,allB,aii n];rfl
def same_int(hm:1<=m)(i:Nat):prog.call m 33 [nD i,nD i] M=.ok (.bl true) M:=by
 rw[call_of hm rfl];have e1:ud .isSeq [nD i] M=.ok (.bl false) M:=rfl;have e2:ud .isBool [nD i] M=.ok (.bl false) M:=rfl;have e3:wz M (nD i) (nD i)=some true:=by simp[nD]
 have e4:wz M (.bl false) (.bl false)=some true:=rfl;simp[Fn.run,Lr,Lq,e1,e2,e3,e4]
def ad0(hm:1<=m){ds:List D}(hl:ds.length<=100000)(h:∀d∈ds,prog.call (m-1) 33 [d,d] M=.ok (.bl true) M):prog.call m 33 [.tup ds,.tup ds] M=.ok (.bl true) M:=by
 rw[call_of hm rfl];have c:Hy.den ⟨prog.call (m-1),prog.cls⟩ [some (.tup ds),some (.tup ds)] M=.ok (.vl (List.replicate ds.length (.bl true))) M:=by
  unfold Hy;rw[aaz (g:=λ_=>.bl true) (ds:=Ol [ds,ds] ds.length) (by simp[Oj]) (by simpa[Ol] using hl) (λi d hd=>by
   have hi:i<ds.length:=by simpa[Ol] using(ak.mp hd).1
   have:d=.tup [ds[i],ds[i]]:=by rw[Ol,iz,uc hi] at hd;cases hd;simp[hi]
   subst this;exact⟨[some (.tup ds),some (.tup ds),some ds[i],some ds[i]],rfl,by simp[h _ (p8 hi)]⟩)]
  simp[Ol,List.map_const']
 have e1:ud .isSeq [.tup ds] M=.ok (.bl true) M:=rfl;have e2:ud .isTuple [.tup ds] M=.ok (.bl true) M:=rfl;have e3:ud .isList [.tup ds] M=.ok (.bl false) M:=rfl;have e4:wz M (.bl false) (.bl false)=some true:=rfl;have e5:wz M (.bl true) (.bl true)=some true:=rfl;have e6:ud .len [.tup ds] M=.ok (.int ds.length) M:=rfl;have al:ud .all [.vl (List.replicate ds.length (.bl true))] M=.ok (.bl true) M:=by show Res.uv ((allB _).map D.bl) M=_;rw[aii];rfl
 simp[Fn.run,Lr,Lq,c,e1,e2,e3,e4,e5,e6,al]
def avs(hm:3<=m){r:List (List Nat)}(hr:r.length<=1000)(hj:∀js∈r,js.length<=1000):prog.call m 33 [rD r,rD r] M=.ok (.bl true) M:=by
 refine ad0 (a_ (by decide) hm) (by rw[du];exact a_ hr (by decide)) λd hd=>?_
 obtain⟨js,h1,rfl⟩:=bf.mp hd;refine ad0 (r_ (a_ (by decide) hm)) (by rw[du];exact a_ (hj js h1) (by decide)) λd hd=>?_
 obtain⟨i,_,rfl⟩:=bf.mp hd;exact same_int (r_ (r_ (a_ (by decide) hm))) i
end
noncomputable abbrev EW(t:Nat)(pt w:D)(p K:Nat)(b4 b5 b6 b7:Option D):Env:=[some (.ref t),some pt,some w,some (.vl (uy p K)),b4,b5,b6,b7]
noncomputable def NR(p K c:Nat)(M:cu):Prop:=∀e,e<K->∃l:List Nat,M[p+e]?=some (.lst (l.map nD))/\l.length<=c
section
variable{m t:Nat}{f0:Bool}{M:cu}{sz:Nat->Nat}{K n r p:Nat}{hs:List F}{gw:List (List Kx×D)}{s:Y3}{a:List (List Nat)}
def NR.le(h:NR p K c M)(l:c<=d):NR p K d M:=λe he=>by obtain⟨j,h1,h2⟩:=h e he;exact⟨j,h1,a_ h2 l⟩
def NR.st(h:NR p K c M)(k:St t f0 M M')(ht:t<p):NR p K c M':=λe he=>by obtain⟨j,h1,h2⟩:=h e he;exact⟨j,k.keep _ _ (i_ (b_ ht x_)) h1,h2⟩
def avt(hm:1<=m)(P:Kf sz K hs gw)(w:Wq K hs s a)(hk:k<K)(hx:x<s.getD k 0)(h:NR p K c M)(hc:c<=50) :
 ∃b7 M',Lw.den ⟨prog.call m,prog.cls⟩ (EW t (ql K r hs) (jg s a) p K b4 (some (.int k)) (some (.int x)) b7') M=.ok (.next,EW t (ql K r hs) (jg s a) p K b4 (some (.int k)) (some (.int x)) b7) M'/\NR p K (c+6) M'/\Ut p M M'/\M'.length=M.length:=by
 obtain⟨fl,ρ',M',e,⟨rfl,⟨b7,rfl⟩,r1,r2,r3⟩|⟨v,rfl,h⟩⟩:=Nj (W:=⟨prog.call m,prog.cls⟩) (s:=.con (o8 hs k)) (n:=(o8 hs k).length) (t:=.name 7) (b:=G5) (it:=.val (.call 18 (.p (.v 1) (.v 5)))) (ρ:=EW t (ql K r hs) (jg s a) p K b4 (some (.int k)) (some (.int x)) b7') (M:=M) (M1:=M) (by simp[Wf hm P.len,srcOf]) rfl
  (λi ρ M'=>(∃b7,ρ=EW t (ql K r hs) (jg s a) p K b4 (some (.int k)) (some (.int x)) b7)/\NR p K (c+i) M'/\Ut p M M'/\M'.length=M.length) (λ_ _=>False) ⟨⟨b7',rfl⟩,h,Ut.refl _ _,rfl⟩ (λ_ _ _=>rfl) (λi ρ M1 hi hI=>by
   obtain⟨⟨b7,rfl⟩,r1,r2,r3⟩:=hI;obtain⟨d,hd⟩:=O5 hi;have hdm:=au hd;have fl:=Us P hk hdm;have wl:=Eu (hs:=hs) (k:=k) P.len;obtain⟨l,g1,g2⟩:=r1 _ fl;have ee:=Wh (K:=K) (r:=r) (M:=M1) hm hdm;have ll:=adw (M:=M1) hm w hdm hx;have ap:=Cw (d:=.int (Kl a x d:Nat)) g1 (by rw[du];lia);have ir:=Ur (p:=p) (K:=K) (M:=M1) fl;refine⟨d,EW t (ql K r hs) (jg s a) p K b4 (some (.int k)) (some (.int x)) (some d),hd,rfl,.next,_,M1.set (p+Ay hs k d) (.lst (l.map nD++[.int (Kl a x d:Nat)])),by simp[G5,ee,ir,Dr g1,ll,ap],.inl ⟨rfl,⟨some d,rfl⟩,λe he=>?_,r2.trans (Ut.set x_),by simp[r3]⟩⟩
   by_cases z:e=Ay hs k d
   . subst z
     exact⟨l++[Kl a x d],by rw[uw g1];simp[nD],by simp;lia⟩
   . obtain⟨l',g3,g4⟩:=r1 e he
     exact⟨l',by rw[qx (by lia)];exact g3,by lia⟩)
 . have wl:=Eu (hs:=hs) (k:=k) P.len
   exact⟨b7,M',e,r1.le (by lia),r2,r3⟩
 . exact h.elim
def ad1(hm:2<=m)(P:Kf sz K hs gw)(hh:T4 t f0 M)(w:Wq K hs s a):∃p M',prog.call m 34 [.ref t,ql K r hs,jg s a] M=.ok (rD p) M'/\Pt K p/\St t f0 M M':=by
 rw[call_of (a_ (by decide) hm) rfl];have k3:=P.k3;have m1:1<=m-1:=r_ hm
 have ht:t<M.length:=by obtain⟨_,h,_⟩:=hh;exact wj h
 have r0:Ly.den ⟨prog.call (m-1),prog.cls⟩ [D.ref t,ql K r hs,jg s a,none,none,none,none,none] M=_:=adm (y:=8) (K:=K) rfl (by simp[M9]) (a_ k3 (by decide));have g0:Gs t f0 M.length M (M++List.replicate K (.lst [])):=Gs.app hh (bu _) _;have n0:NR M.length K 0 (M++List.replicate K (.lst [])):=λe he=>⟨[],by rw[jf x_];simp[he],bu _⟩
 obtain⟨v,M1,e1,l1,s1,n1⟩:=Aq (many:=4) (m:=m-1) m1 g0.has (by decide) (by decide);obtain⟨ρ2,M2,e2,⟨b4,b5,b6,b7,rfl⟩,h2,g2⟩:=yt (W:=⟨prog.call (m-1),prog.cls⟩) (t:=.name 4) (b:=De) (it:=.call 14 (.p (.v 0) (.i 4))) (n:=v) (ρ:=EW t (ql K r hs) (jg s a) M.length K none none none none) (M:=M++List.replicate K (.lst [])) (M1:=M1) (by simp[e1]) (e_ (b_ (o_ l1) (by decide)))
  (λi ρ M'=>(∃b4 b5 b6 b7,ρ=EW t (ql K r hs) (jg s a) M.length K b4 b5 b6 b7)/\NR M.length K (6*i) M'/\Gs t f0 M.length M M') ⟨⟨none,none,none,none,rfl⟩,n0.st s1 ht,g0.trans (Gs.Wj s1)⟩
  (λi ρ M2 hi hI=>by
   obtain⟨⟨b4,b5,b6,b7,rfl⟩,h2,g2⟩:=hI;have l1:v<4:=o_ l1
   obtain⟨k,M3,e3,l3,s3,n3⟩:=Aq (many:=K) (m:=m-1) m1 g2.has (by have:=P.k1;exact m_ this) (m_ (c_ k3 (by decide)));obtain⟨x,M4,e4,l4,s4,n4⟩:=Aq (many:=8) (m:=m-1) m1 s3.has (by decide) (by decide);have hk:k<K:=o_ l3
   have s34:=s3.trans s4;have h4:=h2.st s34 ht;have g4:=g2.trans (Gs.Wj s34);have j2:=ah9 (l:=s) (i:=k) (M:=M4) (by rw[w.ls];exact hk)
   by_cases c:x<s.getD k 0
   . obtain⟨c7,M5,e5,h5,lo5,n5⟩:=avt (m:=m-1) (t:=t) (r:=r) (b4:=some (.int i)) (b7':=b7) m1 P w hk c h4 (by lia)
     generalize s.getD k 0=B at j2 c;have c':(x:Int)<(B:Int):=m_ c
     exact⟨_,.next,_,M5,rfl,by simp[De,M9,e3,e4,adu,j2,c,c',e5],.inl rfl,⟨some (.int i),some (.int k),some (.int x),c7,rfl⟩,h5.le (by lia),g4.trans (Gs.afu g4.has lo5 ht (g_ n5))⟩
   . generalize s.getD k 0=B at j2 c
     have c':¬(x:Int)<(B:Int):=by lia
     exact⟨_,.next,_,M4,rfl,by simp[De,M9,e3,e4,adu,j2,c,c'],.inl rfl,⟨some (.int i),some (.int k),some (.int x),b7,rfl⟩,h4.le (by lia),g4⟩)
 have e2:Lx.den ⟨prog.call (m-1),prog.cls⟩ _ _=_:=e2;have l1:v<4:=o_ l1
 obtain⟨ys,M5,e5,q,rfl,q1,q2,rfl⟩:=Em (W:=⟨prog.call (m-1),prog.cls⟩) (v:=true) (k:=1) (t:=.name 8) (it:=.v 3) (e:=.blt .tuple (.o (.blt .Ce (.o (.v 8))))) (ρ:=EW t (ql K r hs) (jg s a) M.length K b4 b5 b6 b7) (M:=M2) (M1:=M2) (d:=.vl (uy M.length K)) (ds:=uy M.length K) (by simp) rfl (by simp[uy];exact a_ k3 (by decide))
  (λi xs M'=>∃q:List (List Nat),xs=q.map Be/\q.length=i/\(∀js∈q,js.length<=100)/\M'=M2) ⟨[],rfl,rfl,by simp,rfl⟩ (λ_ _ _ _=>rfl)
  (λi y xs M' hy hI=>by
   obtain⟨q,rfl,q1,q2,rfl⟩:=hI;have hi:i<K:=by have:=(ak.mp hy).1;simpa[uy] using this
   obtain rfl:D.ref (M.length+i)=y:=by simpa[uy,hi] using hy
   obtain⟨l,g1,g2⟩:=h2 i hi;obtain⟨hl,z1,z2,_⟩:=Wo (M:=M') (d:=.ref (M.length+i)) (l:=l) (by simp[fu,g1]) (by lia);exact⟨_,Be hl,M',rfl,by simp[z1,Mh];rfl,q++[hl],by simp,by simp[q1],λjs hj=>by
    rcases dw.mp hj with z|z
    . exact q2 js z
    . rw[q9.mp z];lia,rfl⟩)
 have e5:Ls.den ⟨prog.call (m-1),prog.cls⟩ _ _=_:=e5;exact⟨q,M5,by simp[Fn.run,Pu,Pr,r0,e2,e5,Mh];rfl,⟨by rw[q1];simp[uy],q2⟩,g2.st⟩
end
noncomputable abbrev EL(sc st pt:D)(n:Nat)(ws em:D)(b6 b7 b8 b9 b10 Ew:Option D):Env:=[some sc,some st,some pt,some (.ref n),some ws,some em,b6,b7,b8,b9,b10,Ew]
section
variable{m t:Nat}{f0:Bool}{M:cu}{sz:Nat->Nat}{K n r a0:Nat}{hs:List F}{gw:List (List Kx×D)}{s:Y3}{a p q:List (List Nat)}{sc ws:D}
def Yy(hm:3<=m)(w:Wq K hs s a)(hK:K<=3)(f:Nat->Nat->Bool):prog.call m 33 [rD (zq s f K),rD (zq s f K)] M=.ok (.bl true) M :=
 avs hm (by simp[zq];exact a_ hK (by decide)) λjs hj=>by
  obtain⟨k,_,rfl⟩:=bf.mp hj;have:=o4 (f k) (List.range (s.getD k 0));have:=w.s7 k;rw[List.length_range] at *
  lia
def avu(hm:4<=m)(P:Kf sz K hs gw)(h:Made n a0 K hs gw M)(w:Wq K hs s a)(hp:Pt K p)(hq:Pt K q) :
 ∃M',Uh.den ⟨prog.call m,prog.cls⟩ (EL sc (.ref t) (ql K r hs) n ws em b6 (some (jg s a)) b8 b9 (some (rD p)) (some (rD q))) M=.ok (.next,EL sc (.ref t) (ql K r hs) n ws em b6 (some (jg s a)) b8 b9 (some (rD p)) (some (rD q))) M'/\Af M M':=by
 obtain⟨M1,e1,k1⟩:=ady (m:=m) hm P h w hp hq;obtain⟨M2,e2,k2⟩:=Yx (m:=m) (M:=M1) (r:=r) hm P w hp hq;have e3:=Yy (m:=m) (M:=M2) (a_ (by decide) hm) w P.k3 (good hs a p q);exact⟨M2,by simp[Uh,e1,e2,e3],k1.trans k2⟩
def akj(hm:5<=m)(P:Kf sz K hs gw)(h:Made n a0 K hs gw M)(nt:n≠t)(at_:a0≠t)(hh:T4 t f0 M)(w:Wq K hs s a) :
 ∃c8 c9 Ua Ub M',Ui.den ⟨prog.call m,prog.cls⟩ (EL sc (.ref t) (ql K r hs) n ws (rD (Bf K)) b6 (some (jg s a)) b8 b9 b10 Ew) M=.ok (.next,EL sc (.ref t) (ql K r hs) n ws (rD (Bf K)) b6 (some (jg s a)) c8 c9 Ua Ub) M'/\St t f0 M M':=by
 have m2:2<=m:=a_ (by decide) hm
 have m4:4<=m:=a_ (by decide) hm
 obtain⟨p,M1,e1,p1,s1⟩:=ad1 (m:=m) (r:=r) m2 P hh w;obtain⟨q,M2,e2,q1,s2⟩:=ad1 (m:=m) (r:=r) m2 P s1.has w;have s12:=s1.trans s2;have h2:Made n a0 K hs gw M2:=⟨s12.keep _ _ nt h.1,s12.keep _ _ at_ h.2⟩;obtain⟨fl,ρ',M3,e3,⟨rfl,⟨Ua,Ub,rfl⟩,k3⟩|⟨v,rfl,h⟩⟩:=Nj (W:=⟨prog.call m,prog.cls⟩) (s:=.con [.tup [rD p,rD q],.tup [rD q,rD p],.tup [rD p,rD p],.tup [rD p,rD (Bf K)]]) (n:=4) (t:=.names [10,11]) (b:=Uh) (it:=.val (.Fz (.c (.tup (.p (.v 8) (.v 9))) (.q (.tup (.p (.v 9) (.v 8))) (.tup (.p (.v 8) (.v 8))) (.tup (.p (.v 8) (.v 5))))))) (ρ:=EL sc (.ref t) (ql K r hs) n ws (rD (Bf K)) b6 (some (jg s a)) (some (rD p)) (some (rD q)) b10 Ew) (M:=M2) (M1:=M2) rfl rfl
  (λ_ ρ M'=>(∃b10 Ew,ρ=EL sc (.ref t) (ql K r hs) n ws (rD (Bf K)) b6 (some (jg s a)) (some (rD p)) (some (rD q)) b10 Ew)/\Af M2 M') (λ_ _=>False) ⟨⟨b10,Ew,rfl⟩,Af.refl _⟩ (λ_ _ _=>rfl) (λi ρ M' hi hI=>by
   obtain⟨⟨b10,Ew,rfl⟩,k⟩:=hI;have h3:Made n a0 K hs gw M':=⟨k _ _ h2.1,k _ _ h2.2⟩;obtain⟨x,y,hx,hy,it⟩:∃x y,Pt K x/\Pt K y/\(Src.con [.tup [rD p,rD q],.tup [rD q,rD p],.tup [rD p,rD p],.tup [rD p,rD (Bf K)]]).item i M'=some (.tup [rD x,rD y]):=match i,hi with
    |0,_=>⟨p,q,p1,q1,rfl⟩|1,_=>⟨q,p,q1,p1,rfl⟩|2,_=>⟨p,p,p1,p1,rfl⟩|3,_=>⟨p,_,p1,Wt K,rfl⟩
   obtain⟨M4,e4,k4⟩:=avu (m:=m) (r:=r) (t:=t) (sc:=sc) (ws:=ws) (em:=rD (Bf K)) (b6:=b6) (b8:=some (rD p)) (b9:=some (rD q)) m4 P h3 w hx hy;exact⟨_,EL sc (.ref t) (ql K r hs) n ws (rD (Bf K)) b6 (some (jg s a)) (some (rD p)) (some (rD q)) (some (rD x)) (some (rD y)),it,rfl,.next,_,M4,e4,.inl ⟨rfl,⟨some (rD x),some (rD y),rfl⟩,k.trans k4⟩⟩)
 . have e3:agk.den ⟨prog.call m,prog.cls⟩ _ _=_:=e3
   obtain⟨M4,e4,k4⟩:=ap7 (m:=m) (M:=M3) hm P ⟨k3 _ _ h2.1,k3 _ _ h2.2⟩ w q1;obtain⟨M5,e5,k5⟩:=Yx (m:=m) (M:=M4) (r:=r) m4 P w q1 (Wt K);have e6:=Yy (m:=m) (M:=M5) (a_ (by decide) hm) w P.k3 (good hs a q (Bf K));exact⟨_,_,Ua,Ub,M5,by simp[Ui,e1,e2,e3,e4,e5,e6];exact⟨rfl,rfl⟩,s12.trans (St.of s2.has ((k3.trans k4).trans k5))⟩
 . exact h.elim
end
def a1p{m:Nat}{ns:Xs}{M:cu}(hm:6<=m):∃M',prog.call m 37 [.fz (ns.map D.int)] M=.ok (.bl true) M':=by
 rw[call_of (a_ (by decide) hm) rfl];obtain⟨n0,f0,s0,o0⟩:=al7 (m:=m-1) (k:=0) (ns:=ns) (M:=M) (r_ (a_ (by decide) hm));have s0:prog.call (m-1) 13 [.fz (ns.map D.int),.int 0] M=_:=s0;have hh0:T4 M.length f0 (M++[.lst [.int n0,.bl f0]]):=⟨n0,by simp,o0⟩;obtain⟨K,r,sz,hs,gw,M1,e0,p0,lr,P,t0⟩:=aez (m:=m-1) (r_ (a_ (by decide) hm)) hh0;have e0:prog.call (m-1) 17 [.ref M.length] (M++[.lst [.int n0,.bl f0]])=.ok (ql K r hs) M1:=e0;have hrt:r≠M.length:=by have:=lr;simp at this;lia
 have di:ud .dict [.ref r] M1=.ok (.ref M1.length) (M1++[.dT gw]):=by show Ud M1 (.ref r)=_;simp[Ud,p0,P.sm,MW.new]
 have nn:(M1++[.dT gw]++[.ins 2 []])[(M1++[MO.dT gw]).length]?=some (.ins 2 []):=Jw _ _;obtain⟨M2,a0,i0,md,la,lb,k0⟩:=ar9 (M:=M1++[.dT gw]++[.ins 2 []]) (m:=m-1) (r:=M1.length) (n:=(M1++[MO.dT gw]).length) (r_ (a_ (by decide) hm)) P (o7 (Jw _ _)) nn;have k0':Af M1 M2:=λa o h=>k0 a o (by have:=wj h;simp;lia) (o7 (o7 h))
 have hM1:M.length<M1.length:=by obtain⟨k,h,o⟩:=t0.has;exact wj h
 have mk:(Ex.make 2 (.q (.ix (.v 2) (.i 0)) (.ix (.v 2) (.i 1)) (.blt .dict (.o (.ix (.v 2) (.i 2)))))).den ⟨prog.call (m-1),prog.cls⟩ [D.fz (ns.map D.int),D.ref M.length,ql K r hs,none,none,none,none,none,none,none,none,none] M1=.ok (.ref (M1++[MO.dT gw]).length) M2:=by have cl:(prog.cls)[2]?=some ⟨0,[(0,1),(1,2),(2,3),(3,4),(4,5)]⟩:=rfl;generalize hq:(M1++[MO.dT gw]).length=q at i0;simp only[xu] at i0;simp[M9,Oc,awt,di,cl,<- hq] at i0 ⊢;simp[i0]
 have nt:(M1++[MO.dT gw]).length≠M.length:=by simp;lia
 generalize(M1++[MO.dT gw]).length=n at mk md nt;have hh2:T4 M.length f0 M2:=by obtain⟨k,h,o⟩:=t0.has;exact⟨k,k0' _ _ h,o⟩
 have ha0:a0≠M.length:=by have:=la;simp at this;lia
 have h3:=P.k3;obtain⟨s1,a1,M4,e4,w1,s4⟩:=adt (m:=m-1) (r:=r) (r_ (a_ (by decide) hm)) P hh2 (k0' _ _ p0) hrt;obtain⟨s2,a2,M5,e5,w2,s5⟩:=adt (m:=m-1) (r:=r) (r_ (a_ (by decide) hm)) P s4.has (s4.keep _ _ hrt (k0' _ _ p0)) hrt;have s45:=s4.trans s5;have md5:Made n a0 K hs gw M5:=⟨s45.keep _ _ nt md.1,s45.keep _ _ ha0 md.2⟩;have c1:Zj.den ⟨prog.call (m-1),prog.cls⟩ [D.fz (ns.map D.int),D.ref M.length,ql K r hs,D.ref n,D.vl [jg s1 a1,jg s2 a2],none,none,none,none,none,none,none] M5=.ok (.vl ((Bf K).map Be)) M5:=by unfold Zj;rw[aaz (g:=λ_=>Be []) (ds:=(List.range K).map nD) (aia (by simp[M9]) (a_ h3 (by decide))) (by simp;exact a_ h3 (by decide)) (λi d hd=>⟨_,rfl,rfl⟩)];simp[Bf]
 have tv:ud .tuple [.vl ((Bf K).map Be)] M5=.ok (rD (Bf K)) M5:=rfl;obtain⟨ρ6,M6,e6,⟨b6,b7,b8,b9,b10,Ew,rfl⟩,s6⟩:=yt (W:=⟨prog.call (m-1),prog.cls⟩) (t:=.name 6) (b:=Zi) (it:=.i 4) (n:=4) (ρ:=EL (.fz (ns.map D.int)) (.ref M.length) (ql K r hs) n (.vl [jg s1 a1,jg s2 a2]) (rD (Bf K)) none none none none none none) (M:=M5) (M1:=M5) rfl (by decide)
  (λ_ ρ M'=>(∃b6 b7 b8 b9 b10 Ew,ρ=EL (.fz (ns.map D.int)) (.ref M.length) (ql K r hs) n (.vl [jg s1 a1,jg s2 a2]) (rD (Bf K)) b6 b7 b8 b9 b10 Ew)/\St M.length f0 M5 M') ⟨⟨none,none,none,none,none,none,rfl⟩,St.of s5.has (Af.refl _)⟩
  (λi ρ M6 hi hI=>by
   obtain⟨⟨b6,b7,b8,b9,b10,Ew,rfl⟩,s6⟩:=hI;have md6:Made n a0 K hs gw M6:=⟨s6.keep _ _ nt md5.1,s6.keep _ _ ha0 md5.2⟩;obtain⟨fl,ρ',M7,e7,⟨rfl,⟨c7,c8,c9,Ua,Ub,rfl⟩,s7⟩|⟨v,rfl,h⟩⟩:=Nj (W:=⟨prog.call (m-1),prog.cls⟩) (s:=.con [jg s1 a1,jg s2 a2]) (n:=2) (t:=.name 7) (b:=Ui) (it:=.val (.v 4)) (ρ:=EL (.fz (ns.map D.int)) (.ref M.length) (ql K r hs) n (.vl [jg s1 a1,jg s2 a2]) (rD (Bf K)) (some (.int i)) b7 b8 b9 b10 Ew) (M:=M6) (M1:=M6) rfl rfl
    (λ_ ρ M'=>(∃b7 b8 b9 b10 Ew,ρ=EL (.fz (ns.map D.int)) (.ref M.length) (ql K r hs) n (.vl [jg s1 a1,jg s2 a2]) (rD (Bf K)) (some (.int i)) b7 b8 b9 b10 Ew)/\St M.length f0 M6 M') (λ_ _=>False) ⟨⟨b7,b8,b9,b10,Ew,rfl⟩,St.of s6.has (Af.refl _)⟩ (λ_ _ _=>rfl) (λj ρ M7 hj hI=>by
     obtain⟨⟨b7,b8,b9,b10,Ew,rfl⟩,s7⟩:=hI;have md7:Made n a0 K hs gw M7:=⟨s7.keep _ _ nt md6.1,s7.keep _ _ ha0 md6.2⟩;obtain⟨s,a,w,it⟩:∃s a,Wq K hs s a/\(Src.con [jg s1 a1,jg s2 a2]).item j M7=some (jg s a):=match j,hj with
      |0,_=>⟨s1,a1,w1,rfl⟩|1,_=>⟨s2,a2,w2,rfl⟩
     obtain⟨d8,d9,d10,d11,M8,e8,s8⟩:=akj (m:=m-1) (r:=r) (sc:=.fz (ns.map D.int)) (ws:=.vl [jg s1 a1,jg s2 a2]) (b6:=some (.int i)) (b8:=b8) (b9:=b9) (b10:=b10) (Ew:=Ew) (r_ hm) P md7 nt ha0 s7.has w;exact⟨_,EL (.fz (ns.map D.int)) (.ref M.length) (ql K r hs) n (.vl [jg s1 a1,jg s2 a2]) (rD (Bf K)) (some (.int i)) (some (jg s a)) b8 b9 b10 Ew,it,rfl,.next,_,M8,e8,.inl ⟨rfl,⟨some (jg s a),d8,d9,d10,d11,rfl⟩,s7.trans s8⟩⟩)
   . have e7:agl.den ⟨prog.call (m-1),prog.cls⟩ _ _=_:=e7
     exact⟨_,.next,_,M7,rfl,by simp[Zi,e7],.inl rfl,⟨some (.int i),c7,c8,c9,Ua,Ub,rfl⟩,s6.trans s7⟩
   . exact h.elim)
 have e6:agm.den ⟨prog.call (m-1),prog.cls⟩ _ _=_:=e6;exact⟨M6,by simp[-abd,Fn.run,al4,av8,s0,e0,mk,e4,e5,c1,tv,e6]⟩
open PySem L2
open PySem.W
set_option maxHeartbeats 0 in
def all_mk{l:OpenLaw}{K:Frag}{h:Heap}(X:K.In h)(G:h.Ns mainGlobals mg)(hfa:mg "law" = some (.ref fa))
 (aC2:nsIn K mainGlobals "Pattern" = some (some (.ref C2)))
 (a0:findIn K (.ref C2) "__init__" = some (some (.ref f0)))
 (i0:isFn K (.ref f0)=true)
 (l0:Ck.Lk K f0 "__init__" "Pattern.__init__" (inClass (top 8) 0) oc0 od0 kV0 dc0 pm0 an0 cd0 ct0 sl0)
 (a1:findIn K (.ref C2) "kinds" = some (some (.ref f1)))
 (i1:isFn K (.ref f1)=true)
 (l1:Ck.Lk K f1 "kinds" "Pattern.kinds" (inClass (top 8) 1) oc1 od1 kV1 dc1 pm1 an1 cd1 ct1 sl1)
 (a2:findIn K (.ref C2) "doings" = some (some (.ref f2)))
 (i2:isFn K (.ref f2)=true)
 (l2:Ck.Lk K f2 "doings" "Pattern.doings" (inClass (top 8) 2) oc2 od2 kV2 dc2 pm2 an2 cd2 ct2 sl2)
 (a3:findIn K (.ref C2) "behind" = some (some (.ref f3)))
 (i3:isFn K (.ref f3)=true)
 (l3:Ck.Lk K f3 "behind" "Pattern.behind" (inClass (top 8) 3) oc3 od3 kV3 dc3 pm3 an3 cd3 ct3 sl3)
 (a4:findIn K (.ref C2) "ways" = some (some (.ref f4)))
 (i4:isFn K (.ref f4)=true)
 (l4:Ck.Lk K f4 "ways" "Pattern.ways" (inClass (top 8) 4) oc4 od4 kV4 dc4 pm4 an4 cd4 ct4 sl4)
 (a5:findIn K (.ref C2) "end" = some (some (.ref f5)))
 (i5:isFn K (.ref f5)=true)
 (l5:Ck.Lk K f5 "end" "Pattern.end" (inClass (top 8) 5) oc5 od5 kV5 dc5 pm5 an5 cd5 ct5 sl5)
 (a6:nsIn K mainGlobals "both_ways" = some (some (.ref f6)))
 (l6:Ck.Lk K f6 "both_ways" "both_ways" (top 9) oc6 od6 kV6 dc6 pm6 an6 cd6 ct6 sl6)
 (a7:nsIn K mainGlobals "meeting_pairs" = some (some (.ref f7)))
 (l7:Ck.Lk K f7 "meeting_pairs" "meeting_pairs" (top 10) oc7 od7 kV7 dc7 pm7 an7 cd7 ct7 sl7)
 (a8:nsIn K mainGlobals "is_way_between" = some (some (.ref f8)))
 (l8:Ck.Lk K f8 "is_way_between" "is_way_between" (top 11) oc8 od8 kV8 dc8 pm8 an8 cd8 ct8 sl8)
 (a9:nsIn K mainGlobals "check_doings" = some (some (.ref f9)))
 (l9:Ck.Lk K f9 "check_doings" "check_doings" (top 12) oc9 od9 kV9 dc9 pm9 an9 cd9 ct9 sl9)
 (a10:nsIn K mainGlobals "check_table" = some (some (.ref f10)))
 (l10:Ck.Lk K f10 "check_table" "check_table" (top 13) bkv bkw bkx bky bkz bk0 bk1 bk2 bk3)
 (a11:nsIn K mainGlobals "check_threes" = some (some (.ref f11)))
 (l11:Ck.Lk K f11 "check_threes" "check_threes" (top 14) bk5 bk6 bk7 bk8 bk9 bla blb blc bld)
 (a12:nsIn K mainGlobals "_law_cell_at" = some (some (.ref f12)))
 (l12:Ck.Lk K f12 "_law_cell_at" "_law_cell_at" (top 27) blg blh bli blj bll blm bln blo blp)
 (a13:nsIn K mainGlobals "_law_state" = some (some (.ref f13)))
 (l13:Ck.Lk K f13 "_law_state" "_law_state" (top 28) blr bls blu blv blw blx bly blz bl0)
 (a14:nsIn K mainGlobals "_law_take" = some (some (.ref f14)))
 (l14:Ck.Lk K f14 "_law_take" "_law_take" (top 29) bl4 bl5 bl6 bl7 bl8 bl9 bma bmb bmc)
 (a15:nsIn K mainGlobals "_law_begun" = some (some (.ref f15)))
 (l15:Ck.Lk K f15 "_law_begun" "_law_begun" (top 30) bme bmf bmg bmh bmi bmj bmk bml bmm)
 (a16:nsIn K mainGlobals "_law_closed" = some (some (.ref f16)))
 (l16:Ck.Lk K f16 "_law_closed" "_law_closed" (top 31) bmo bmp bmq bmr bms bmt bmu bmv bmw)
 (a17:nsIn K mainGlobals "_law_pattern" = some (some (.ref f17)))
 (l17:Ck.Lk K f17 "_law_pattern" "_law_pattern" (top 32) bmy bmz bm0 bm1 bm2 bm3 bm4 bm5 bm6)
 (a18:nsIn K mainGlobals "_law_ways" = some (some (.ref f18)))
 (l18:Ck.Lk K f18 "_law_ways" "_law_ways" (top 33) bm8 bm9 bna bnb bnc bnf bng bnh bni)
 (a19:nsIn K mainGlobals "_law_end" = some (some (.ref f19)))
 (l19:Ck.Lk K f19 "_law_end" "_law_end" (top 34) bnk bnl bnm bnn bno bnp bnq bnr bns)
 (a20:nsIn K mainGlobals "_law_behind" = some (some (.ref f20)))
 (l20:Ck.Lk K f20 "_law_behind" "_law_behind" (top 35) bnu bnv bnw bnx bny bnz bn0 bn1 bn2)
 (a21:nsIn K mainGlobals "_wall" = some (some (.ref f21)))
 (l21:Ck.Lk K f21 "_wall" "_wall" (top 0) bn4 bn5 bn6 bn7 bn8 bn9 boa bob boc)
 (a22:nsIn K mainGlobals "led" = some (some (.ref f22)))
 (l22:Ck.Lk K f22 "led" "led" (top 16) boe bof bog boh boi boj bon boo bop)
 (a23:nsIn K mainGlobals "spots" = some (some (.ref f23)))
 (l23:Ck.Lk K f23 "spots" "spots" (top 17) bos bou bov bow boy boz bo0 bo1 bo2)
 (a24:nsIn K mainGlobals "reached" = some (some (.ref f24)))
 (l24:Ck.Lk K f24 "reached" "reached" (top 18) bo4 bo5 bo6 bo7 bo8 bo9 bpa bpb bpc)
 (a25:nsIn K mainGlobals "as_part" = some (some (.ref f25)))
 (l25:Ck.Lk K f25 "as_part" "as_part" (top 20) bpe bpf bpg bph bpi bpj bpk bpl bpm)
 (a26:nsIn K mainGlobals "least_part" = some (some (.ref f26)))
 (l26:Ck.Lk K f26 "least_part" "least_part" (top 22) bpo bpp bpq bpr bps bpt bpu bpv bpw)
 (a27:nsIn K mainGlobals "leads" = some (some (.ref f27)))
 (l27:Ck.Lk K f27 "leads" "leads" (top 23) bpy bpz bp0 bp1 bp2 bp3 bp4 bp5 bp6)
 (a28:nsIn K mainGlobals "lies_in" = some (some (.ref f28)))
 (l28:Ck.Lk K f28 "lies_in" "lies_in" (top 24) bp8 bp9 bqa bqb bqc bqd bqe bqf bqg)
 (a29:nsIn K mainGlobals "lacks" = some (some (.ref f29)))
 (l29:Ck.Lk K f29 "lacks" "lacks" (top 25) bqi bqj bqk bql bqm bqn bqo bqp bqq)
 (a30:nsIn K mainGlobals "_law_merged" = some (some (.ref f30)))
 (l30:Ck.Lk K f30 "_law_merged" "_law_merged" (top 36) bqs bqt bqu bqv bqw bqx bqy bqz bq0)
 (a31:nsIn K mainGlobals "_law_world" = some (some (.ref f31)))
 (l31:Ck.Lk K f31 "_law_world" "_law_world" (top 37) bq2 bq3 bq4 bq5 bq6 bq7 bq8 bq9 bra)
 (a32:nsIn K mainGlobals "_law_led" = some (some (.ref f32)))
 (l32:Ck.Lk K f32 "_law_led" "_law_led" (top 38) brc brd bre brf brg brh bri brj brl)
 (a33:nsIn K mainGlobals "_law_same" = some (some (.ref f33)))
 (l33:Ck.Lk K f33 "_law_same" "_law_same" (top 39) brn bro brp brq brr brs brt bru brv)
 (a34:nsIn K mainGlobals "_law_grown" = some (some (.ref f34)))
 (l34:Ck.Lk K f34 "_law_grown" "_law_grown" (top 40) brx bry brz br0 br1 br2 br3 br4 br5)
 (a35:nsIn K mainGlobals "_law_into" = some (some (.ref f35)))
 (l35:Ck.Lk K f35 "_law_into" "_law_into" (top 41) br7 br8 br9 bsa bsb bsc bsd bse bsf)
 (a36:nsIn K mainGlobals "_law_leads" = some (some (.ref f36)))
 (l36:Ck.Lk K f36 "_law_leads" "_law_leads" (top 42) bsh bsi bsj bsk bsl bsm bsn bso bsp)
 (a37:nsIn K mainGlobals "law" = some (some (.ref f37)))
 (l37:Ck.Lk K f37 "law" "law" (top 43) bss bst bep ber bes bet beu bev bsu)
 (pg2:plainGet K C2 Str.empty=true)
 (hd2:hasDictIn K C2=true)
 (po2:plainOver K C2=true)
 (sa2:findIn K (.ref C2) "__setattr__" = some (some (.builtin "object.__setattr__")))
 (mk2:makesIn K C2=true)
 (kc2:keepIn K (.ref C2)=true)
 (bew:findIn K (.ref C2) "together" = some none)
 (bex:findIn K (.ref C2) "doing_ends" = some none)
 (bey:findIn K (.ref C2) "kind_count" = some none)
 (v0:nsIn K mainGlobals "STAYING" = some (some (.int (-1) tk0)))
 (v1:nsIn K mainGlobals "MOST_KINDS" = some (some (.int (3) tk1)))
 (v2:nsIn K mainGlobals "MOST_DOINGS" = some (some (.int (5) tk2)))
 (z0:nsIn K mainGlobals "len" = some none)
 (z1:nsIn K mainGlobals "tuple" = some none)
 (z2:nsIn K mainGlobals "list" = some none)
 (z3:nsIn K mainGlobals "dict" = some none)
 (z4:nsIn K mainGlobals "max" = some none)
 (z5:nsIn K mainGlobals "min" = some none)
 (z6:nsIn K mainGlobals "isinstance" = some none)
 (z7:nsIn K mainGlobals "range" = some none)
 (z8:nsIn K mainGlobals "enumerate" = some none)
 (z9:nsIn K mainGlobals "set" = some none)
 (z10:nsIn K mainGlobals "zip" = some none)
 (z11:nsIn K mainGlobals "all" = some none)
 (z12:nsIn K mainGlobals "bool" = some none)
 (z13:nsIn K mainGlobals "int" = some none)
 (z14:nsIn K mainGlobals "sum" = some none)
 (z15:nsIn K mainGlobals "sorted" = some none)
 : ∃fd:FuncData,(∀(s:Shared)(v:Value),BindsTo s fd ⟨[v],[]⟩ [("script",v)])/\∀base:Heap,K.In base->base.Ns mainGlobals mg->Eh l.prog w K mg base Z9 170 fa fd ["script"] (Ck.ahz K):=by
 have e:=(dq X G a37).symm.trans hfa;cases e;have aF:Ck.aat K Ds sts [f0,f1,f2,f3,f4,f5,f6,f7,f8,f9,f10,f11,f12,f13,f14,f15,f16,f17,f18,f19,f20,f21,f22,f23,f24,f25,f26,f27,f28,f29,f30,f31,f32,f33,f34,f35,f36,fa] [_,_,_,_,_,_,_,_,_,_,_,_,_,_,_,_,_,_,_,_,_,_,_,_,_,_,_,_,_,_,_,_,_,_,_,_,_,_]:=(Ck.fE l0 (Ck.fE l1 (Ck.fE l2 (Ck.fE l3 (Ck.fE l4 (Ck.fE l5 (Ck.fE l6 (Ck.fE l7 (Ck.fE l8 (Ck.fE l9 (Ck.fE l10 (Ck.fE l11 (Ck.fE l12 (Ck.fE l13 (Ck.fE l14 (Ck.fE l15 (Ck.fE l16 (Ck.fE l17 (Ck.fE l18 (Ck.fE l19 (Ck.fE l20 (Ck.fE l21 (Ck.fE l22 (Ck.fE l23 (Ck.fE l24 (Ck.fE l25 (Ck.fE l26 (Ck.fE l27 (Ck.fE l28 (Ck.fE l29 (Ck.fE l30 (Ck.fE l31 (Ck.fE l32 (Ck.fE l33 (Ck.fE l34 (Ck.fE l35 (Ck.fE l36 (Ck.fE l37 Ck.fN))))))))))))))))))))))))))))))))))))));have aG:Ck.Rx mg tab.fns [f0,f1,f2,f3,f4,f5,f6,f7,f8,f9,f10,f11,f12,f13,f14,f15,f16,f17,f18,f19,f20,f21,f22,f23,f24,f25,f26,f27,f28,f29,f30,f31,f32,f33,f34,f35,f36,fa]:=(Ck.gO (Ck.gO (Ck.gO (Ck.gO (Ck.gO (Ck.gO (Ck.gS (dq X G a6) (Ck.gS (dq X G a7) (Ck.gS (dq X G a8) (Ck.gS (dq X G a9) (Ck.gS (dq X G a10) (Ck.gS (dq X G a11) (Ck.gS (dq X G a12) (Ck.gS (dq X G a13) (Ck.gS (dq X G a14) (Ck.gS (dq X G a15) (Ck.gS (dq X G a16) (Ck.gS (dq X G a17) (Ck.gS (dq X G a18) (Ck.gS (dq X G a19) (Ck.gS (dq X G a20) (Ck.gS (dq X G a21) (Ck.gS (dq X G a22) (Ck.gS (dq X G a23) (Ck.gS (dq X G a24) (Ck.gS (dq X G a25) (Ck.gS (dq X G a26) (Ck.gS (dq X G a27) (Ck.gS (dq X G a28) (Ck.gS (dq X G a29) (Ck.gS (dq X G a30) (Ck.gS (dq X G a31) (Ck.gS (dq X G a32) (Ck.gS (dq X G a33) (Ck.gS (dq X G a34) (Ck.gS (dq X G a35) (Ck.gS (dq X G a36) (Ck.gS (dq X G a37) Ck.gN))))))))))))))))))))))))))))))))))))));have aC:Ck.My K mg tab [f0,f1,f2,f3,f4,f5,f6,f7,f8,f9,f10,f11,f12,f13,f14,f15,f16,f17,f18,f19,f20,f21,f22,f23,f24,f25,f26,f27,f28,f29,f30,f31,f32,f33,f34,f35,f36,fa] tab.cls [none,none,some C2] prog.cls:=(Ck.cO (Ck.cO (Ck.cS ⟨dq X G aC2,⟨pg2,hd2,po2,sa2⟩,⟨_,rfl,⟨mk2,a0,i0,kc2⟩⟩,(Ck.mC rfl rfl ⟨a1,i1,l1.2.2⟩ (Ck.mC rfl rfl ⟨a2,i2,l2.2.2⟩ (Ck.mC rfl rfl ⟨a3,i3,l3.2.2⟩ (Ck.mC rfl rfl ⟨a4,i4,l4.2.2⟩ (Ck.mC rfl rfl ⟨a5,i5,l5.2.2⟩ Ck.mN))))),(Ck.nC bew (Ck.nC bex (Ck.nC bey Ck.nN)))⟩ Ck.cN)));have aV:Ck.aav mg tab.auo:=(Ck.vC (dq X G v0) (Ck.vC (dq X G v1) (Ck.vC (dq X G v2) Ck.vN)));have aB:Ck.AllB mg Ck.Mx:=(Ck.bC (jh X G z0) (Ck.bC (jh X G z1) (Ck.bC (jh X G z2) (Ck.bC (jh X G z3) (Ck.bC (jh X G z4) (Ck.bC (jh X G z5) (Ck.bC (jh X G z6) (Ck.bC (jh X G z7) (Ck.bC (jh X G z8) (Ck.bC (jh X G z9) (Ck.bC (jh X G z10) (Ck.bC (jh X G z11) (Ck.bC (jh X G z12) (Ck.bC (jh X G z13) (Ck.bC (jh X G z14) (Ck.bC (jh X G z15) Ck.bN))))))))))))))));refine⟨fnOf "law" "law" (Hr (top 43)) (Er (top 43)) (Aj (top 43)) .none bep ber bes bet beu bev,λs v=>.of_eq rfl,λbase _ _=>?_⟩;obtain⟨d,a,f,g1,g2,g3,g4,g5⟩:=Ck.a08 (P:=l.prog) (w:=w) (base:=base) (n:=10) (i:=37) (F:=al4) bd6 chk bd7 bd8 bd9 aF aG aC aV aB rfl;cases g1;cases g2;cases g3;exact g5.imp λvs H Q E hh=>Ck.ava (λns hl=>a1p (by decide)) hh
end K55
open PySem PySem.W PyProof.Rows
namespace PySem.W.Fast
def tw6489530238348673263:=Nat
def tw15815351014072118812:=Nat
def tw14210547462489708650:=Nat
def tw4400922010780749922:=Nat
def tw11153655845305803661:=Nat
def tw520570098026697307:=Nat
def tw10675271501075203568:=Nat
def tw14429033433417922445:=Nat
def tw5556440328332021807:=Nat
def tw1657173593192250516:=Nat
def tw17615799362010717717:=Nat
def tw10011620780773794437:=Nat
def tw1259695722334669547:=Nat
def tw10196922595925853952:=Nat
def tw14410025810714951705:=Nat
def tw16578383370158056408:=Nat
def tw5651780574311260367:=Nat
def tw18137586283336165704:=Nat
def tw6144359818546735835:=Nat
def tw10949718134147970874:=Nat
def tw1728577259295215233:=Nat
def tw18310783054412976560:=Nat
def tw4384293141155574797:=Nat
def tw12817815571823563061:=Nat
def tw9536125468411231723:=Nat
def tw14471785151120782227:=Nat
def tw5698063813354272507:=Nat
def tw2283788177037698607:=Nat
def tw7051602961153639665:=Nat
def tw17883195231484006039:=Nat
def tw877101393074546557:=Nat
def tw1729076094055398778:=Nat
def tw16695046998768139780:=Nat
def tw17306619023373583867:=Nat
def tw7405953189909339804:=Nat
def tw11426233290762544428:=Nat
def tw13560061005010451390:=Nat
def tw14630045548277535156:=Nat
def tw2862227980532750836:=Nat
def tw2574818628767907772:=Nat
def tw705880576235460345:=Nat
def tw18316212693994784798:=Nat
def tw14262860085435652409:=Nat
def tw12491288019025103108:=Nat
def tw17644366770749685102:=Nat
def tw259787391344648782:=Nat
def tw16358978901274976641:=Nat
def tw17703837737892963336:=Nat
def tw10714331677922924999:=Nat
def tw5978960353729132163:=Nat
def tw17453183600938562382:=Nat
def tw17505589904411296447:=Nat
def tw2868599091511225794:=Nat
def tw10408826036882746970:=Nat
def tw3287932486454111574:=Nat
def tw7786298013087305152:=Nat
def tw12068587418197255332:=Nat
def tw10666921335562762023:=Nat
def tw8515915132037459412:=Nat
def tw12790882513897808281:=Nat
def tw18264056649961213944:=Nat
def tw515569287649950102:=Nat
def tw3716531707861520262:=Nat
def tw14284377336161133000:=Nat
def tw10151159861778931959:=Nat
def tw3831337547984375012:=Nat
def tw14797904498062737267:=Nat
def tw7322968066816637050:=Nat
def tw8861872015095088035:=Nat
def tw15445611124997482882:=Nat
def tw460169770238514965:=Nat
def tw8679573175025185146:=Nat
def tw14637867532793127019:=Nat
def tw6470555034383105664:=Nat
def tw3266100563084216233:=Nat
def tw8272415723614024537:=Nat
def tw9646076637577240735:=Nat
def tw9777118587760608346:=Nat
def tw1331904469164413083:=Nat
def tw7075811429413342141:=Nat
def tw3692948960004677408:=Nat
def tw9333710142868587060:=Nat
def tw5311234316797122760:=Nat
def tw8822918845171756114:=Nat
def tw1285721634318654512:=Nat
def tw9528076983941079875:=Nat
def tw6631885186366402822:=Nat
def tw1074720323731973419:=Nat
def tw7865395801772218696:=Nat
def tw3079155538745827451:=Nat
def tw5045171677978415485:=Nat
def tw13410833754922597919:=Nat
def tw5202542967852836154:=Nat
def tw13781352912208854190:=Nat
def tw12505573423641152383:=Nat
def tw2969445021681126922:=Nat
def tw7552463751222280542:=Nat
def tw13526151237526008388:=Nat
def tw18388045586880618113:=Nat
def tw4485293712383643876:=Nat
def tw12259091074606845294:=Nat
def tw4875394893883189535:=Nat
def tw10873003735065362025:=Nat
def tw11271110908848214339:=Nat
def tw4536145189167712301:=Nat
def tw17764819799229707491:=Nat
def tw9383850761547825186:=Nat
def tw10517362621145820738:=Nat
def tw8569854842320791538:=Nat
def tw6397324081033631059:=Nat
def tw9157689361975548027:=Nat
def tw18249961552521269024:=Nat
def tw7385924219200843086:=Nat
def tw10007776306064112314:=Nat
def tw12851916266781970420:=Nat
def tw3269107341737690561:=Nat
def tw7652478906758117501:=Nat
def tw17497205706070251054:=Nat
def tw11126972882204870921:=Nat
def tw15694495620532035602:=Nat
def tw9570362460694386575:=Nat
def tw4072619353890733439:=Nat
def tw17721493055213176410:=Nat
def tw7588418980622989947:=Nat
def tw7856162208869325498:=Nat
def tw15292995311780035034:=Nat
def tw2489519226159027335:=Nat
def tw4263945597941259555:=Nat
def tw18420945482417403097:=Nat
def tw11337266599040628718:=Nat
def tw1033846036622600480:=Nat
def tw8333850247006349842:=Nat
def tw1397625541752652600:=Nat
def tw13413588023910934906:=Nat
def tw4540692395388786626:=Nat
def tw4266751610537251449:=Nat
def tw6303330478158153308:=Nat
def tw2864229242484954579:=Nat
def tw16353334914338331603:=Nat
def tw4984334288996969330:=Nat
def tw5816588757735588555:=Nat
def tw17067310406081535857:=Nat
def tw2305403998216238967:=Nat
def tw14231707681561498369:=Nat
def tw4724573429070802610:=Nat
def tw1164355707284623208:=Nat
def tw3980089093692025332:=Nat
def tw17632549315194331050:=Nat
def tw10446672632924394977:=Nat
def tw9360232054160301529:=Nat
def tw9603993310640820708:=Nat
def tw5536451329115808616:=Nat
def tw36250924532681653:=Nat
def tw2345301644095031011:=Nat
def tw12183094564783689059:=Nat
def tw8929705827976040447:=Nat
def tw18210697244081304281:=Nat
def tw14727562344259279703:=Nat
def tw9341324941972517641:=Nat
def tw11439721176976296779:=Nat
def tw17786328123169769273:=Nat
def tw11381604472943361530:=Nat
def tw16825288839709186391:=Nat
def tw12748146277421207287:=Nat
def tw12949777222547975771:=Nat
def tw967433984401935956:=Nat
def tw9020382612748238808:=Nat
def tw6991634079612211948:=Nat
def tw8742851085474134279:=Nat
def tw17196391271672549885:=Nat
def tw14191903871664172418:=Nat
def tw743893761993251188:=Nat
def tw16891219065284303403:=Nat
def tw9069553740287025805:=Nat
def tw4723776447221026625:=Nat
def tw6248988673157555674:=Nat
def tw7923822914309531619:=Nat
def tw9184647297978433323:=Nat
def tw17701434276763929327:=Nat
def tw6843577896595192933:=Nat
def tw12743852755108141561:=Nat
def tw10153626850600426365:=Nat
def tw16065065674239702723:=Nat
def tw3570051314383633986:=Nat
def tw15832683659078160161:=Nat
def tw13914604702563832564:=Nat
def tw13625901381493544884:=Nat
def tw16734630365377924702:=Nat
def tw16053571766324881376:=Nat
def tw1176679243536117787:=Nat
def tw16272899690881208943:=Nat
def tw7611445284545373650:=Nat
def tw8883699529750598818:=Nat
def tw6218005720483063255:=Nat
def tw17021734123409369393:=Nat
def tw8976249080100455560:=Nat
def tw8737544627622572569:=Nat
def tw8395593701540214827:=Nat
def tw8062020931276836191:=Nat
end PySem.W.Fast
set_option maxRecDepth 100000 in
set_option maxHeartbeats 0 in
theorem PySem.Challenge.cw_mapwright_k55_leads_and_lacks_holds : PySem.Challenge.rw_mapwright_k55_leads_and_lacks.Holds := by
 w_on;o_law;k_head;(case hw=>w_witness2)
 k_fill
 refine Ck.walk (l:=PySem.Challenge.rw_mapwright_k55_leads_and_lacks) rfl rfl (λw h Y=>PySem.W.kIn_of Y) ?F
 case F =>
  intro w mg fa h KX G hmg;apply K55.all_mk KX G hmg<;>(try refine⟨?_,?_,?_⟩)<;>k_is
