import PyProof.Rows.All
import Wide.All
import OpenK.AllK
import Wide.FinOn
import Lean
import PyProof.EqAt
import PyProof.EqKinds
import PyProof.TupleCall
import PyProof.NeKinds
import PyProof.ExcClass3
import PyProof.ExcBaseAll.ValueError
import PyProof.DictWalks
import PyProof.WalksEnum
import PyProof.EnumMake
import PyProof.Rows.EnumRows
import KE.KDictLaws
import KE.KLam
import KE.KSortKey
import PyProof.Rows.CallKwBuiltin
import PyProof.Rows.SortRuns
import PyProof.ExcAttrAll.ValueError
import PyProof.InstStoreFacts
import PyProof.FactsAll.range_1
import KE.KNest
import KE.KRevIter
import PyProof.ListRange
import PyProof.ListNew
import PyProof.MinMaxWalk
import PyProof.ZipIter
import PyProof.WalkInts
import PySem.SetOps
import PyProof.SetKind
import PyProof.DictKinds
import PyProof.Rows.SetFrom
import PyProof.CollectWalk
import PyProof.Rows.SortShell
import PyProof.Rows.SortWalk
import KE.KDictList
import PyProof.Rows.Range3
import PySem.Challenge.RW_atmost_k07_answers_by_hand
set_option Elab.async false
set_option linter.all false
set_option maxRecDepth 100000
set_option maxHeartbeats 4000000
set_option compiler.extract_closed false
open PySem.W (Frag instObj methodObj hideAll hideAll_get of_hideAll lookIn plainGet hasDictIn findIn handedIn plainGet_of findObj_own isFn plainOver takerIn set_plain looks_clsIn makesIn InitBack emptyDict bind_fn keepIn takesIn kia_one kitx_list kitx_dict callWith_K callWith_K0 methodCall_KW fnOf codeIn clsIn readsIn findCls OpenLaw tabIn nsIn mg_of mg_none_of)
open PySem renaming wpAny_bind → zA, wpAny_pure → zB, wpAny_mono → zC, wpAny_holding → zD, mainGlobals → zE, sizeLine → zF, starEach → zG
open PyProof.Rows renaming wpS_bind → zH, wpS_pure → zI, wpS_forRange → zJ
open List renaming length_map → zK, getElem?_map → zM, getElem?_eq_getElem → zN, size_toArray → zP, length_append → zR, getElem?_eq_some_iff → zT, range → zV, mem_append_right → zY, map_append → zZ, all_eq_true → yA, mem_cons_of_mem → yB, mem_append → yC, mem_cons → yF, mem_cons_self → yJ, mem_map → yK, length_take → yL, mem_of_getElem? → yM, replicate → yN, mem_singleton → yO, map_cons → yV, append_assoc → yX, filterMap_cons → yY, mem_range → xB, getElem_mem → xC, length_drop → xE, length_cons → xF, mem_append_left → xG, drop_eq_getElem_cons → xH, take_append_drop → xI, map_map → xJ, take_add_one → xM, filterMap_append → xN, mem_iff_getElem → xO, take_of_length_le → xP, reverse_cons → wA, getElem?_append_right → wB, append_nil → wC, perm_append_comm → wD, take_length → wE, length_range → wH, range_succ → wI, mem_filter → wJ, replicate_succ → wL, length_reverse → wM, getD_eq_getElem?_getD → wO, getElem?_eq_none → wQ, getElem?_append_left → wT, lookup → wV, length_pos_iff → wZ, lookup_cons → vA, nodup_cons → vC, sum_cons → vH, map_take → vI, find?_cons → vJ, reverse_perm → vM, flatten_cons → vN, length_singleton → vO, any_cons → vP, length_set → vS, mem_filterMap → vV, map_drop → vY, length_eq_zero_iff → uA, getD → uB, cons_append → uC, any_eq_true → uD, pairwise_lt_range → uH, getElem?_set_self → uI, all_map → uJ, all_append → uN, length_filter_le → uO, filterMap_eq_map → uP, mem_of_mem_take → uQ, map_congr_left → uS, getElem?_range → uT, set_comm → uV, all_cons → uW, map_nil → uZ, foldl_append → jA, ext_getElem? → jB, any_eq_false → jC, eraseIdx_eq_take_drop_succ → jG, length → jI, of_mem_zip → jM, length_nil → jN, dropLast_concat_getLast → jO, nodup_nil → jU, drop_zero → jV, findIdx?_eq_none_iff → jX, take_add → qE, length_filterMap_le → qF, findIdx? → qG, pairwise_singleton → qH, map_set → qK, drop_of_length_le → qM, length_replicate → qO, getElem?_toArray → qP, replicate_succ' → qW, length_eraseIdx → qX, getElem?_set_ne → qY, getElem?_of_mem → qZ
open Nat renaming le_refl → zO, ne_of_lt → zX, lt_of_lt_of_le → yG, le_trans → yU, le_of_lt → yW, zero_le → xD, lt_succ_of_lt → xK, lt_of_le_of_lt → wF, lt_irrefl → wY, ne_of_gt → vB, le_succ → vL, mul_le_mul_right → vR, lt_succ_self → uF, zero_add → uK, le_of_eq → uM, one_mul → jK, add_mul → jL, lt_trans → qN
open Array renaming length_toList → yD, toList_append → yP, perm_iff_toList_perm → yZ, toList_reverse → wU, getElem?_toList → vE, push_eq_append → vQ, getElem?_eq_some_iff → vU, toList_map → vZ, ext' → uX, size_map → jP, getElem?_extract → qJ, mem_toList_iff → qU, getElem_toList → qV, getElem?_push → gB
open Int renaming toNat_natCast → yE, emod_lt_of_pos → wR, emod_nonneg → wW, le_refl → wX, toNat → vF, eq_ofNat_of_zero_le → uG, zero_add → qQ, ofNat_le → qR, le_trans → qT
open Option renaming map_some → wS, isSome_map → uY, none → jF, isSome_iff_exists → jT
open Bool renaming false_ne_true → zW, and_eq_true → yI, false_eq_true → xL, eq_iff_iff → wK, false_and → wP, true_and → vD, eq_false_iff → vG, and_assoc → uR, or_true → jD, and_false → jW
open PySem.Heap renaming get?_push_of_some → zL, lt_size → zQ, get?_push_size → zU, get?_update_self → yS, get?_update_other → yT, size_push → wG, get?_push_ne → vX, size_update → uE, get?_update_ne → uU
open PySem.F renaming plainAttrs_list → yH, type_list_append → yQ, slot_list_append → yR, slot_dict_get → wN, entry_dict_get → vK, excBase_ValueError → vT, plainAttrs_dict → vW, slot_dict_setdefault → jE, slot_range_contains → jH, plain_extend_loop → jJ, plain_list_iadd → jQ, args_dict_get_3 → jR, args_dict_get_2 → jS, type_list_pop → jY, type_dict_get → jZ, slot_set_iter → qA, slot_list_pop → qB, plain_set_new → qC
open PySem renaming Value → Aa, Addr → Ab, Shared → Ac, FuncData → Ad, Program → Ae, World → Af, Around → Ag, Expr → Ah, Stmt → Ai, Scope → Aj, compareOp → Ak, binaryOp → Al, keywordEach → Am, backToKw → An, backTo → Ao
def xZ:=@if_neg
def xY:=@if_pos
def xX:=@absurd
def xW:=@decide_eq_false
def xV:=@decide_eq_true
def xU:=@of_decide_eq_true
def xT:=@beq_eq_false_iff_ne
def xS:=@beq_iff_eq
def xR:=@beq_self_eq_true
def xQ:=@congrArg
namespace At
abbrev Say:=Int×Int×Int
def cnt (c i:Int):Bool:=decide (0<=i)&&decide (i<c)
theorem Zm{c i:Int}:cnt c i=true↔0<=i/\i<c:=by unfold cnt;simp
def inside(c:Int)(s:Say):Bool:=cnt c s.1&&cnt c s.2.1
def keeps(hs:List Int)(s:Say):Bool:=decide (hs.getD s.2.1.toNat 0-hs.getD s.1.toNat 0<=s.2.2)
def walk (ss:List Say):List Int->Int->Option Int
 | [],p=>some p
 | k::r,p=>if cnt ss.length k=true then(match ss[k.toNat]? with
  | some s=>if s.1=p then walk ss r s.2.1 else none
  | none=>none) else none
def num (ss:List Say)(k:Int):Int:=((ss[k.toNat]?).map λs=>s.2.2).getD 0
def sumC (ss:List Say)(ns:List Int):Int:=(ns.map (num ss)).sum
abbrev Fn:=Int->Option Int
def put (S:Fn)(k v:Int):Fn:=λx=>if x=k then some v else S x
theorem ZA{S:Fn}{k v:Int}:put S k v k=some v:=by unfold put;rw[xY rfl]
theorem ZQ{S:Fn}{k v x:Int}(h:x≠k):put S k v x=S x:=by unfold put;rw[xZ h]
def sy (ss:List Say)(k:Int):Say:=(ss[k.toNat]?).getD (0,0,0)
structure Ws where
 S:Fn
 L:Fn
 f:Bool
def relax(ss:List Say)(w:Ws)(k:Int):Ws :=
 match w.S (sy ss k).1 with
 | none=>w
 | some a =>
  match w.S (sy ss k).2.1 with
  | none=>⟨put w.S (sy ss k).2.1 (a+(sy ss k).2.2),put w.L (sy ss k).2.1 k,true⟩
  | some b=>if a+(sy ss k).2.2<b then⟨put w.S (sy ss k).2.1 (a+(sy ss k).2.2),put w.L (sy ss k).2.1 k,true⟩ else w
def goAll(ss:List Say)(order:List Int)(w:Ws):Ws:=order.foldl (relax ss) w
def back (ss:List Say)(L:Fn):Nat->Int->Option Int
 | 0,p=>some p
 | n+1,p=>match L p with
  | none=>none
  | some k=>back ss L n (sy ss k).1
def wsum (ss:List Say)(L:Fn):Nat->Int->Int
 | 0,_=>0
 | n+1,p=>match L p with
  | none=>0
  | some k=>(sy ss k).2.2+wsum ss L n (sy ss k).1
def chainB(ss:List Say)(L:Fn):Nat->Int->List Int
 | 0,_=>[]
 | n+1,p=>match L p with
  | none=>[]
  | some k=>k::chainB ss L n (sy ss k).1
def J (ss:List Say)(S L:Fn):Prop:=∀p k,L p=some k->cnt ss.length k=true/\(sy ss k).2.1=p/\∃a b,S (sy ss k).1=some a/\S p=some b/\a+(sy ss k).2.2<=b
def R (ss:List Say)(L:Fn):Prop:=∀p n,back ss L (n+1) p=some p->wsum ss L (n+1) p<0
def Z (S L:Fn):Prop:=∀q v,L q=none->S q=some v->v=0
section
variable {ss:List Say}{S L:Fn}
theorem Yq:∀(m n:Nat) (p:Int),back ss L (m+n) p=(back ss L m p).bind (back ss L n)
 | 0,n,p=>by rw[uK];rfl
 | m+1,n,p=>by
  rw[Nat.succ_add];unfold back;cases e:L p with
  | none=>rfl
  | some k=>exact Yq m n _
theorem X0:∀(m n:Nat) (p q:Int),back ss L m p=some q->wsum ss L (m+n) p=wsum ss L m p+wsum ss L n q
 | 0,n,p,q,h=>by
  have e:p=q:=Option.some.inj h;subst e;rw[uK];unfold wsum;simp
 | m+1,n,p,q,h=>by
  rw[Nat.succ_add];unfold back at h;cases e:L p with
  | none=>rw[e] at h;cases h
  | some k =>
   rw[e] at h
   have:=X0 m n _ q h
   simp only[wsum,e];lia
theorem tele(G:J ss S L):∀(n:Nat) (p q a b:Int),back ss L n p=some q->S q=some a->S p=some b->a+wsum ss L n p<=b
 | 0,p,q,a,b,h,ha,hb=>by
  have e:p=q:=Option.some.inj h;subst e;rw[ha] at hb;cases hb;simp[wsum]
 | n+1,p,q,a,b,h,ha,hb=>by
  unfold back at h;cases e:L p with
  | none=>rw[e] at h;cases h
  | some k =>
   rw[e] at h;obtain⟨_,_,O,V,h1,h2,W⟩:=G p k e;rw[hb] at h2;cases h2
   have:=tele G n _ q a O h ha h1
   simp only[wsum,e];lia
theorem XU(G:J ss S L):∀(n:Nat) (p q b:Int),back ss L n p=some q->S p=some b->∃a,S q=some a
 | 0,p,q,b,h,hb=>by
  have e:p=q:=Option.some.inj h;subst e;exact⟨b,hb⟩
 | n+1,p,q,b,h,hb=>by
  unfold back at h;cases e:L p with
  | none=>rw[e] at h;cases h
  | some k =>
   rw[e] at h;obtain⟨_,_,O,V,h1,h2,W⟩:=G p k e;exact XU G n _ q O h h1
variable {k a:Int}
theorem Oz(hJ:J ss S L)(hk:cnt ss.length k=true)(ha:S (sy ss k).1=some a)(hb:∀b,S (sy ss k).2.1=some b->a+(sy ss k).2.2<b):
  J ss (put S (sy ss k).2.1 (a+(sy ss k).2.2)) (put L (sy ss k).2.1 k):=by
 intro p m V;by_cases O:p=(sy ss k).2.1
 .subst O;rw[ZA] at V;cases V;refine⟨hk,rfl,?_⟩;by_cases G:(sy ss k).1=(sy ss k).2.1
  .have h1:=hb a (by rw[<-G];exact ha)
   refine⟨a+(sy ss k).2.2,a+(sy ss k).2.2,?_,ZA,by lia⟩
   rw[G];exact ZA
  .exact⟨a,_,by rw[ZQ G];exact ha,ZA,wX _⟩
 .rw[ZQ O] at V;obtain⟨h1,h2,a',W,Z,h4,h5⟩:=hJ p m V;refine⟨h1,h2,?_⟩;by_cases G:(sy ss m).1=(sy ss k).2.1
  .have:=hb a' (by rw[<-G];exact Z)
   refine⟨a+(sy ss k).2.2,W,?_,by rw[ZQ O];exact h4,by lia⟩
   rw[G];exact ZA
  .exact⟨a',W,by rw[ZQ G];exact Z,by rw[ZQ O];exact h4,h5⟩
theorem ET(hJ:J ss S L)(hR:R ss L)(hk:cnt ss.length k=true)(ha:S (sy ss k).1=some a)(Z:∀b,S (sy ss k).2.1=some b->a+(sy ss k).2.2<b):
  R ss (put L (sy ss k).2.1 k):=by
 have O:=Oz hJ hk ha Z;have V:put S (sy ss k).2.1 (a+(sy ss k).2.2) (sy ss k).2.1=some (a+(sy ss k).2.2):=ZA;have lv:put L (sy ss k).2.1 k (sy ss k).2.1=some k:=ZA;have key:∀(m:Nat) (x c:Int),x≠(sy ss k).2.1->S x=some c->back ss (put L (sy ss k).2.1 k) m x=some (sy ss k).2.1->(a+(sy ss k).2.2)+wsum ss (put L (sy ss k).2.1 k) m x<c:=by
  intro m
  induction m with
  | zero=>intro x c G _ h;exact xX (Option.some.inj h) G
  | succ m W =>
   intro x c G hc h;unfold back at h;rw[ZQ G] at h;cases e:L x with
   | none=>rw[e] at h;cases h
   | some j =>
    rw[e] at h;dsimp only at h;obtain⟨_,_,a',b',h1,h2,h3⟩:=hJ x j e;rw[hc] at h2;cases h2;have ew:wsum ss (put L (sy ss k).2.1 k) (m+1) x=(sy ss j).2.2+wsum ss (put L (sy ss k).2.1 k) m (sy ss j).1:=by
     simp only[wsum,ZQ G,e]
    rw[ew];by_cases hy:(sy ss j).1=(sy ss k).2.1
    .rw[hy] at h ⊢;have t:=tele O m _ _ _ _ h V V
     have:=Z a' (by rw[<-hy];exact h1)
     lia
    .have:=W _ a' hy h1 h
     lia
 have aa:∀n,back ss (put L (sy ss k).2.1 k) (n+1) (sy ss k).2.1=some (sy ss k).2.1->wsum ss (put L (sy ss k).2.1 k) (n+1) (sy ss k).2.1<0:=by
  intro n h;unfold back at h;rw[lv] at h;have h:back ss (put L (sy ss k).2.1 k) n (sy ss k).1=some (sy ss k).2.1:=h;have ew:wsum ss (put L (sy ss k).2.1 k) (n+1) (sy ss k).2.1=(sy ss k).2.2+wsum ss (put L (sy ss k).2.1 k) n (sy ss k).1:=by
   simp only[wsum,lv]
  rw[ew];by_cases hu:(sy ss k).1=(sy ss k).2.1
  .have h1:=Z a (by rw[<-hu];exact ha)
   rw[hu] at h ⊢;have t:=tele O n _ _ _ _ h V V;lia
  .have:=key n _ a hu ha h
   lia
 intro p n h;by_cases hv:∃i,i<=n/\back ss (put L (sy ss k).2.1 k) i p=some (sy ss k).2.1
 .obtain⟨i,hi,h1⟩:=hv;have e1:i+(n+1-i)=n+1:=by lia
  have h2:back ss (put L (sy ss k).2.1 k) (n+1-i) (sy ss k).2.1=some p:=by
   have:=Yq (ss:=ss) (L:=put L (sy ss k).2.1 k) i (n+1-i) p
   rw[e1,h,h1] at this;exact this.symm
  have h3:back ss (put L (sy ss k).2.1 k) ((n+1-i)+i) (sy ss k).2.1=some (sy ss k).2.1:=by
   rw[Yq,h2];exact h1
  have w1:=X0 (ss:=ss) (L:=put L (sy ss k).2.1 k) i (n+1-i) p _ h1;have w2:=X0 (ss:=ss) (L:=put L (sy ss k).2.1 k) (n+1-i) i _ _ h2;have e2:(n+1-i)+i=n+1:=by lia
  rw[e2] at w2 h3;rw[e1] at w1
  have:=aa n h3
  lia
 .have same:∀m (x:Int),(∀i,i<m->back ss (put L (sy ss k).2.1 k) i x≠some (sy ss k).2.1)->back ss (put L (sy ss k).2.1 k) m x=back ss L m x/\wsum ss (put L (sy ss k).2.1 k) m x=wsum ss L m x:=by
   intro m
   induction m with
   | zero=>intro x _;exact⟨rfl,rfl⟩
   | succ m W =>
    intro x G;have h0:x≠(sy ss k).2.1:=λz=>G 0 (by lia) (by rw[z];rfl)
    simp only[back,wsum,ZQ h0];cases e:L x with
    | none=>exact⟨rfl,rfl⟩
    | some j =>
     have:=W (sy ss j).1 λi hi z=>G (i+1) (by lia) (by
      simp only[back,ZQ h0,e];exact z)
     exact⟨this.1,by simp only[this.2]⟩
  have s:=same (n+1) p λi hi z=>hv ⟨i,by lia,z⟩
  rw[s.2];rw[s.1] at h;exact hR p n h
theorem ES(V:Z S L){v x:Int}:Z (put S v x) (put L v k):=by
 intro q y G O;by_cases e:q=v
 .subst e;rw[ZA] at G;cases G
 .rw[ZQ e] at G O;exact V q y G O
end
structure Wd(ss:List Say)(c:Int)(S L:Fn):Prop where
 j:J ss S L
 r:R ss L
 z:Z S L
 rg:∀p v,S p=some v->cnt c p=true
theorem Wd.lr{ss:List Say}{c:Int}{S L:Fn}(h:Wd ss c S L){p k:Int}(e:L p=some k):cnt c p=true:=by
 obtain⟨_,_,_,b,_,G,_⟩:=h.j p k e;exact h.rg p b G
theorem Dx{ss:List Say}{c k:Int}(G:ss.all (inside c)=true)(V:cnt ss.length k=true):cnt c (sy ss k).1=true/\cnt c (sy ss k).2.1=true:=by
 obtain⟨h0,h1⟩:=Zm.mp V;have O:k.toNat<ss.length:=by lia
 have e:sy ss k=ss[k.toNat]:=by unfold sy;rw[zN O];rfl
 have:=yA.mp G _ (xC O)
 rw[e];unfold inside at this;rwa[yI] at this
def Less (S S':Fn):Prop:=∃p,(S p=none/\S' p≠none)∨∃b b',S p=some b/\S' p=some b'/\b'<b
def Down (S S':Fn):Prop:=∀p b,S p=some b->∃b',S' p=some b'/\b'<=b
theorem Down.refl(S:Fn):Down S S:=λp b h=>⟨b,h,wX _⟩
theorem Down.trans{S O G:Fn}(a:Down S O)(b:Down O G):Down S G:=λp x h=>by
 obtain⟨y,h1,h2⟩:=a p x h;obtain⟨z,V,W⟩:=b p y h1;exact⟨z,V,by lia⟩
theorem Down.less{S V O:Fn}(a:Down S V)(b:Less V O):Less S O:=by
 obtain⟨p,h⟩:=b;refine⟨p,?_⟩;rcases h with ⟨h1,h2⟩ | ⟨x,y,h1,h2,Z⟩
 .left;refine⟨?_,h2⟩;cases e:S p with
  | none=>rfl
  | some v =>
   obtain⟨W,G,_⟩:=a p v e;rw[h1] at G;cases G
 .cases e:S p with
  | none=>left;exact⟨rfl,by rw[h2];simp⟩
  | some v =>
   obtain⟨W,G,h4⟩:=a p v e;rw[h1] at G;cases G;right;exact⟨v,y,rfl,h2,by lia⟩
def Tight(ss:List Say)(S:Fn)(k:Int):Prop:=∀a,S (sy ss k).1=some a->∃b,S (sy ss k).2.1=some b/\b<=a+(sy ss k).2.2
theorem Ms(ss:List Say)(w:Ws)(k:Int):(relax ss w k=w/\Tight ss w.S k) ∨
  ∃a,w.S (sy ss k).1=some a/\(∀b,w.S (sy ss k).2.1=some b->a+(sy ss k).2.2<b)/\relax ss w k=⟨put w.S (sy ss k).2.1 (a+(sy ss k).2.2),put w.L (sy ss k).2.1 k,true⟩:=by
 unfold relax;cases e:w.S (sy ss k).1 with
 | none=>left;exact⟨rfl,λa h=>by rw[e] at h;cases h⟩
 | some a =>
  dsimp only;cases e2:w.S (sy ss k).2.1 with
  | none=>right;exact⟨a,rfl,λb h=>(by cases h),rfl⟩
  | some b =>
   dsimp only;by_cases G:a+(sy ss k).2.2<b
   .right;exact⟨a,rfl,λO h=>(by cases h;exact G),by rw[xY G]⟩
   .left;rw[xZ G];exact⟨rfl,λV h=>by rw[e] at h;cases h;exact⟨b,e2,by lia⟩⟩
structure Pass(ss:List Say)(c:Int)(w w':Ws)(done:List Int):Prop where
 wd:Wd ss c w'.S w'.L
 down:Down w.S w'.S
 less:w'.f=true->w.f=true∨Less w.S w'.S
 still:w'.f=false->w'=w/\∀k∈done,Tight ss w.S k
theorem Vw{ss:List Say}{c:Int}(ac:ss.all (inside c)=true)(w:Ws)(h:Wd ss c w.S w.L):∀(G:List Int),(∀k∈G,cnt ss.length k=true)->Pass ss c w (goAll ss G w) G:=by
 intro G;have aa:∀(l:List Int),(∀k∈l,cnt ss.length k=true)->Pass ss c w (goAll ss l.reverse w) l.reverse:=by
  intro l
  induction l with
  | nil=>intro _;exact⟨h,Down.refl _,λz=>.inl z,λ_=>⟨rfl,λk Z=>by simp at Z⟩⟩
  | cons k l O =>
   intro Z;have O:=O λj V=>Z j (yB _ V);have e:goAll ss (k::l).reverse w=relax ss (goAll ss l.reverse w) k:=by
    unfold goAll;rw[wA,jA];rfl
   rw[e];have W:=Z k (yJ);rcases Ms ss (goAll ss l.reverse w) k with ⟨e1,t⟩ | ⟨a,ha,hb,e1⟩
   .rw[e1];refine⟨O.wd,O.down,O.less,λhf=>?_⟩;obtain⟨e2,h2⟩:=O.still hf;refine⟨e2,λj V=>?_⟩;rw[wA,yC] at V;rcases V with V | V
    .exact h2 j V
    .have:j=k:=by simpa using V
     subst this;rw[e2] at t;exact t
   .rw[e1];have wd:=O.wd;have d1:Down (goAll ss l.reverse w).S (put (goAll ss l.reverse w).S (sy ss k).2.1 (a+(sy ss k).2.2)):=λp b hp=>by
     by_cases e:p=(sy ss k).2.1
     .subst e;exact⟨_,ZA,by have:=hb b hp;lia⟩
     .exact⟨b,by rw[ZQ e];exact hp,wX _⟩
    have l1:Less (goAll ss l.reverse w).S (put (goAll ss l.reverse w).S (sy ss k).2.1 (a+(sy ss k).2.2)):=by
     refine⟨(sy ss k).2.1,?_⟩;cases e:(goAll ss l.reverse w).S (sy ss k).2.1 with
     | none=>left;exact⟨rfl,by rw[ZA];simp⟩
     | some b=>right;exact⟨b,_,rfl,ZA,hb b e⟩
    refine⟨⟨Oz wd.j W ha hb,ET wd.j wd.r W ha hb,ES wd.z,λp v hp=>?_⟩,O.down.trans d1,λ_=>.inr (O.down.less l1),λz=>by cases z⟩
    by_cases e:p=(sy ss k).2.1
    .subst e;exact(Dx ac W).2
    .dsimp only at hp;rw[ZQ e] at hp;exact wd.rg p v hp
 intro ho
 have:=aa G.reverse λk Z=>ho k (by simpa using Z)
 rwa[List.reverse_reverse] at this
theorem Qu{ss:List Say}:∀(l1 l2:List Int) (p:Int),walk ss (l1++l2) p=(walk ss l1 p).bind (walk ss l2)
 | [],l2,p=>rfl
 | k::r,l2,p=>by
  rw[uC];unfold walk;by_cases O:cnt ss.length k=true
  .rw[xY O,xY O];cases e:ss[k.toNat]? with
   | none=>rfl
   | some s =>
    dsimp only;by_cases G:s.1=p
    .rw[xY G,xY G];exact Qu r l2 _
    .rw[xZ G,xZ G];rfl
  .rw[xZ O,xZ O];rfl
theorem JO{ss:List Say}{k:Int}(O:cnt ss.length k=true):ss[k.toNat]?=some (sy ss k):=by
 obtain⟨h0,h1⟩:=Zm.mp O;have G:k.toNat<ss.length:=by lia
 unfold sy;rw[zN G];rfl
theorem RV{ss:List Say}{k:Int}(G:cnt ss.length k=true):walk ss [k] (sy ss k).1=some (sy ss k).2.1:=by
 unfold walk;rw[xY G,JO G];dsimp only;rw[xY rfl];rfl
theorem Pg{ss:List Say}{k:Int}(G:cnt ss.length k=true):num ss k=(sy ss k).2.2:=by
 unfold num;rw[JO G];rfl
theorem Mf(ss:List Say)(a b:List Int):sumC ss (a++b)=sumC ss a+sumC ss b:=by
 unfold sumC;rw[zZ,List.sum_append]
theorem J4{ss:List Say}{S L:Fn}(G:J ss S L):∀(n:Nat) (p q:Int),back ss L n p=some q->walk ss (chainB ss L n p).reverse q=some p/\sumC ss (chainB ss L n p).reverse=wsum ss L n p/\(chainB ss L n p).length=n
 | 0,p,q,h=>by
  have e:p=q:=Option.some.inj h;subst e;exact⟨rfl,rfl,rfl⟩
 | n+1,p,q,h=>by
  unfold back at h;cases e:L p with
  | none=>rw[e] at h;cases h
  | some k =>
   rw[e] at h;obtain⟨h1,h2,_⟩:=G p k e;obtain⟨i1,i2,i3⟩:=J4 G n _ q h;simp only[chainB,wsum,e];refine⟨?_,?_,by rw[xF,i3]⟩
   .rw[wA,Qu,i1];show walk ss [k] (sy ss k).1=some p;rw[RV h1,h2]
   .rw[wA,Mf,i2];show wsum ss L n (sy ss k).1+sumC ss [k]=_
    have:sumC ss [k]=(sy ss k).2.2:=by unfold sumC;simp[Pg h1]
    lia
theorem QG{ss:List Say}{L:Fn}:∀(n:Nat) (p q k:Int),back ss L n p=some q->L q=some k->chainB ss L (n+1) p=chainB ss L n p++[k]
 | 0,p,q,k,h,e=>by
  have z:p=q:=Option.some.inj h;subst z;simp only[chainB,e];rfl
 | n+1,p,q,k,h,e=>by
  unfold back at h;cases ep:L p with
  | none=>rw[ep] at h;cases h
  | some j =>
   rw[ep] at h
   have:=QG n _ q k h e
   rw[chainB];simp only[ep];rw[this]
   conv=>rhs;rw[chainB]
   simp only[ep,uC]
theorem Qp{ss:List Say}{L:Fn}{n:Nat}{p q k:Int}(h:back ss L n p=some q)(e:L q=some k):back ss L (n+1) p=some (sy ss k).1:=by
 rw[Yq,h];show back ss L 1 q=_;simp only[back,e]
def Grd (ss:List Say)(L:Fn)(p:Int):Prop:=∃n q,back ss L n p=some q/\L q=none
theorem J3:∀(c:Nat) (l:List Int),l.Nodup->(∀x∈l,0<=x/\x<(c:Int))->l.length<=c
 | 0,l,_,h=>by
  cases l with
  | nil=>exact zO _
  | cons x r=>have:=h x yJ;lia
 | c+1,l,hn,h=>by
  have G:(l.erase (c:Int)).Nodup:=hn.erase _
  have:=J3 c (l.erase (c:Int)) G λx V=>by
   have O:=List.mem_of_mem_erase V;have h1:=h x O;have h2:x≠(c:Int):=λz=>by
    subst z;exact(List.Nodup.not_mem_erase hn) V
   lia
  have W:l.length<=(l.erase (c:Int)).length+1:=by
   rw[List.length_erase];split <;> lia
  lia
theorem VU{ss:List Say}{L:Fn}{p:Int}(h:Grd ss L p):∃n q,back ss L n p=some q/\L q=none/\∀i,i<n->∃x,back ss L i p=some x/\L x≠none:=by
 obtain⟨n,q,h1,h2⟩:=h
 have:∀n p,back ss L n p=some q->∃m,m<=n/\∃G,back ss L m p=some G/\L G=none/\∀i,i<m->∃x,back ss L i p=some x/\L x≠none:=by
  intro n
  induction n with
  | zero =>
   intro p h;exact⟨0,zO _,q,h,h2,λi hi=>by lia⟩
  | succ n O =>
   intro p h;cases e:L p with
   | none=>exact⟨0,xD _,p,rfl,e,λi hi=>by lia⟩
   | some k =>
    simp only[back,e] at h;obtain⟨m,V,G,g1,g2,g3⟩:=O _ h;refine⟨m+1,by lia,G,by simp only[back,e];exact g1,g2,λi hi=>?_⟩
    cases i with
    | zero=>exact⟨p,rfl,by rw[e];simp⟩
    | succ i =>
     obtain⟨x,e1,e2⟩:=g3 i (by lia)
     exact⟨x,by simp only[back,e];exact e1,e2⟩
 obtain⟨m,_,G,g1,g2,g3⟩:=this n p h1;exact⟨m,G,g1,g2,g3⟩
theorem VT{ss:List Say}{L:Fn}{c:Nat}(hr:∀x k,L x=some k->cnt c x=true){n:Nat}{p q:Int}(h1:back ss L n p=some q)(h2:L q=none)(O:∀i,i<n->∃x,back ss L i p=some x/\L x≠none):n<=c:=by
 have W:∀i j,i<j->j<n->(back ss L i p).getD 0=(back ss L j p).getD 0->False:=by
  intro i j aa hj e;obtain⟨x,ex,_⟩:=O i (by lia)
  obtain⟨y,G,_⟩:=O j hj;rw[ex,G] at e;have e:x=y:=e;subst e;have e1:=Yq (ss:=ss) (L:=L) j (n-j) p;rw[show j+(n-j)=n from by lia,h1,G] at e1
  have e2:=Yq (ss:=ss) (L:=L) i (n-j) p;rw[ex] at e2;have e1:some q=back ss L (n-j) x:=e1;have e2:back ss L (i+(n-j)) p=back ss L (n-j) x:=e2;rw[<-e1] at e2;obtain⟨z,Z,hz⟩:=O (i+(n-j)) (by lia)
  rw[e2] at Z;cases Z;exact hz h2
 have nd:((zV n).map λi=>(back ss L i p).getD 0).Nodup:=by
  rw[List.Nodup,List.pairwise_map];refine List.Pairwise.imp_of_mem ?_ (uH (n:=n));intro a b ha hb V z;exact W a b V (xB.mp hb) z
 have:=J3 c _ nd λx hx=>by
  obtain⟨i,hi,rfl⟩:=yK.mp hx;obtain⟨y,G,hy⟩:=O i (xB.mp hi);rw[G];cases e:L y with
  | none=>exact xX e hy
  | some k=>exact Zm.mp (hr y k e)
 simpa using this
def bigNum(ss:List Say):Nat:=(ss.map λs=>s.2.2.natAbs).sum
theorem Ka{ss:List Say}{k:Int}(V:cnt ss.length k=true):-(bigNum ss:Int)<=(sy ss k).2.2/\(sy ss k).2.2<=bigNum ss:=by
 have O:sy ss k∈ss:=yM (JO V)
 have:∀(l:List Say) (s:Say),s∈l->s.2.2.natAbs<=(l.map λs=>s.2.2.natAbs).sum:=by
  intro l
  induction l with
  | nil=>intro s hs;simp at hs
  | cons x r G =>
   intro s hs;rw[yV,vH];rcases yF.mp hs with rfl | hs
   .lia
   .have:=G s hs;lia
 have:=this ss _ O
 unfold bigNum;lia
theorem M5{ss:List Say}{S L:Fn}(G:J ss S L):∀(n:Nat) (p q:Int),back ss L n p=some q->-((n*bigNum ss:Nat):Int)<=wsum ss L n p
 | 0,p,q,h=>by simp[wsum]
 | n+1,p,q,h=>by
  unfold back at h;cases e:L p with
  | none=>rw[e] at h;cases h
  | some k =>
   rw[e] at h;have i:=M5 G n _ q h;have b:=Ka (G p k e).1;simp only[wsum,e];rw[jL,jK];lia
theorem Pw{ss:List Say}{c:Nat}{S L:Fn}(h:Wd ss c S L)(g:∀p k,L p=some k->Grd ss L p){p v:Int}(G:S p=some v):-((c*bigNum ss:Nat):Int)<=v:=by
 have Z:Grd ss L p:=by
  cases e:L p with
  | none=>exact⟨0,p,rfl,e⟩
  | some k=>exact g p k e
 obtain⟨n,q,h1,h2,h3⟩:=VU Z;have V:=VT (λx k e=>h.lr e) h1 h2 h3;obtain⟨a,O⟩:=XU h.j n p q v h1 G;have W:=h.z q a h2 O;have t:=tele h.j n p q a v h1 O G;have l:=M5 h.j n p q h1;have m:n*bigNum ss<=c*bigNum ss:=vR _ V;lia
def term (lo top:Int)(S:Fn)(i:Nat):Nat:=match S i with
 | some v=>(v-lo).toNat
 | none=>(top-lo).toNat+1
def meas (c:Nat)(lo top:Int)(S:Fn):Nat:=((zV c).map (term lo top S)).sum
theorem G0{f g:Nat->Nat}:∀(l:List Nat),(∀i∈l,f i<=g i)->(l.map f).sum<=(l.map g).sum
 | [],_=>zO _
 | x::r,h=>by
  rw[yV,yV,vH,vH]
  have:=G0 r λi hi=>h i (yB _ hi)
  have:=h x yJ
  lia
theorem Nn{f g:Nat->Nat}:∀(l:List Nat) (j:Nat),j∈l->f j<g j->(∀i∈l,f i<=g i)->(l.map f).sum<(l.map g).sum
 | [],j,G,_,_=>by simp at G
 | x::r,j,G,hl,h=>by
  rw[yV,yV,vH,vH];have h0:=h x yJ;rcases yF.mp G with rfl | G
  .have:=G0 r λi hi=>h i (yB _ hi)
   lia
  .have:=Nn r j G hl λi hi=>h i (yB _ hi)
   lia
theorem Tg{c:Nat}{lo top:Int}{S G:Fn}(d:Down S G)(l:Less S G)(hr:∀p v,G p=some v->cnt c p=true)(W:∀p v,G p=some v->lo<=v)(V:∀p v,G p=some v->v<=top):meas c lo top G<meas c lo top S:=by
 have le:∀i,term lo top G i<=term lo top S i:=by
  intro i;unfold term;cases e:S i with
  | some v =>
   obtain⟨v',Z,h⟩:=d _ _ e;rw[Z];dsimp only;lia
  | none =>
   cases Z:G i with
   | none=>exact zO _
   | some v =>
    have:=V _ _ Z
    dsimp only;lia
 obtain⟨p,hp⟩:=l;have O:∃v,G p=some v:=by
  rcases hp with ⟨_,h⟩ | ⟨_,b,_,h,_⟩
  .cases e:G p with
   | none=>exact xX e h
   | some v=>exact⟨v,rfl⟩
  .exact⟨b,h⟩
 obtain⟨v,O⟩:=O;obtain⟨h0,h1⟩:=Zm.mp (hr p v O);obtain⟨i,rfl⟩:=uG h0;refine Nn (zV c) i (xB.mpr (by lia)) ?_ λj _=>le j
 unfold term;have ac:=W _ _ O;have aa:=V _ _ O;rcases hp with ⟨h,_⟩ | ⟨b,b',h,h',hl⟩
 .rw[h,O];dsimp only;lia
 .rw[h,O];rw[O] at h';cases h';dsimp only;lia
end At
namespace L2
open PySem PySem.Spec PyProof.Rows
variable {a b h0 it l t C dx f:Ab}{P:Ae}{w:Af}{h base:Heap}{o:Obj}{x qual:Str}{A:Ag}{e c tg:Ah}{Q:Option Aa->Ac->Prop}{i t' j k n:Nat}{items:Array Aa}{env:Env}{pos p:Pos}{ch fp:List Ab}{N ps:List Str}{E:Aa->Ac->Prop}{u:Aa}{b8:List (Ab×Obj)}{K:Frag}{es:List Ah}{body:List Ai}{g:Int->Int->Int}{us:List Aa}{mA mg:Str->Option Aa}{kw:List (Str×Aa)}{outer:List Env}{scope:Aj}
abbrev Key:=Sum Int Str
def XG:Key->Aa->Bool
 | .inl k,v=>Value.isInt k v
 | .inr x,v=>Value.isStrOf x v
def keyH (w:Af):Key->Int
 | .inl k=>hashInt k
 | .inr x=>hashStr w x
theorem ZW:∀{k:Key} {v:Aa},XG k v=true->(∃i t,k=Sum.inl i/\v=Value.int i t)∨(∃x t,k=Sum.inr x/\v=Value.str x t)
 | .inl i,v,h=>by
  obtain⟨t,e⟩:=Value.isInt_shape (k:=i) (v:=v) h;exact .inl ⟨i,t,rfl,e⟩
 | .inr x,v,h=>by
  obtain⟨t,e⟩:=Value.isStrOf_shape (x:=x) (v:=v) h;exact .inr ⟨x,t,rfl,e⟩
theorem RC(i:Int)(t:Tok):XG (.inl i) (.int i t)=true:=by simp[XG,Value.isInt]
theorem RB(x:Str)(t:Tok):XG (.inr x) (.str x t)=true:=by simp[XG,Value.isStrOf]
theorem Eb(a b:Int):decide ((Sum.inl a:Key)=Sum.inl b)=(a==b):=by
 by_cases e:a=b
 .subst e;simp
 .have h:¬ (Sum.inl a:Key)=Sum.inl b:=λq=>e (Sum.inl.inj q);rw[xW h];exact(xT.mpr e).symm
theorem E8(a b:Str):decide ((Sum.inr a:Key)=Sum.inr b)=decide (a=b):=by
 by_cases e:a=b
 .subst e;simp
 .have h:¬ (Sum.inr a:Key)=Sum.inr b:=λq=>e (Sum.inr.inj q);rw[xW h,xW e]
theorem Ea(a:Int)(b:Str):decide ((Sum.inl a:Key)=Sum.inr b)=false:=xW (λq=>nomatch q)
theorem E9(a:Str)(b:Int):decide ((Sum.inr a:Key)=Sum.inl b)=false:=xW (λq=>nomatch q)
def mixKind(prog:Ae)(w:Af):PySem.KeyKind prog w Key where
 is:=XG
 hash:=keyH w
 inj:=λv a b ha hb=>by
  rcases ZW ha with ⟨i,t,rfl,rfl⟩ | ⟨x,t,rfl,rfl⟩
  .rcases ZW hb with ⟨j,u,rfl,e⟩ | ⟨y,u,rfl,e⟩
   .injection e with e1 _;rw[e1]
   .exact nomatch e
  .rcases ZW hb with ⟨j,u,rfl,e⟩ | ⟨y,u,rfl,e⟩
   .exact nomatch e
   .injection e with e1 _;rw[e1]
 byValue:=λk v h=>by
  rcases ZW h with ⟨i,t,rfl,rfl⟩ | ⟨x,t,rfl,rfl⟩ <;> rfl
 pyHash:=λhv h=>by
  rcases ZW hv with ⟨i,t,rfl,rfl⟩ | ⟨x,t,rfl,rfl⟩
  .exact wpAny_pyHash_int h
  .exact wpAny_pyHash_str h
 eqBool:=λhu hv h=>by
  rcases ZW hu with ⟨i,t,rfl,rfl⟩ | ⟨x,t,rfl,rfl⟩
  .rcases ZW hv with ⟨j,u,rfl,rfl⟩ | ⟨y,u,rfl,rfl⟩
   .rw[Eb] at h;exact wpAny_eqBool_int h
   .rw[Ea] at h;exact SeqAt.EqAt.int_str i t y u _ _ _ _ h
  .rcases ZW hv with ⟨j,u,rfl,rfl⟩ | ⟨y,u,rfl,rfl⟩
   .rw[E9] at h;exact SeqAt.EqAt.str_int x t j u _ _ _ _ h
   .rw[E8] at h;exact wpAny_eqBool_str h
 «strs»:=λk x t v h=>by
  rcases ZW h with ⟨i,u,rfl,e⟩ | ⟨y,u,rfl,e⟩
  .exact nomatch e
  .injection e with e1 _
   subst e1;cases v <;> rfl
theorem MU(prog:Ae)(w:Af)(i:Int)(t:Tok):(mixKind prog w).is (.inl i) (.int i t)=true:=RC i t
theorem MR(prog:Ae)(w:Af)(x:Str)(t:Tok):(mixKind prog w).is (.inr x) (.str x t)=true:=RB x t
inductive V where
 | non | bl (b:Bool) | int (i:Int) | str (x:Str) | byt (b:Array UInt8) | flt (b:UInt64) | ref (a:Ab) | ty (n:String)
 deriving DecidableEq
def RelV:V->Aa->Prop
 | .non,u=>u=Value.none
 | .bl b,u=>u=Value.bool b
 | .int i,u=>∃t,u=Value.int i t
 | .str x,u=>∃t,u=Value.str x t
 | .byt b,u=>∃t,u=Value.bytes b t
 | .flt b,u=>∃t,u=Value.float b t
 | .ref a,u=>u=Value.ref a
 | .ty n,u=>u=Value.type n
abbrev Vals:List V->List Aa->Prop:=Paired RelV
theorem Vals.length{xs:List V}{us:List Aa}(r:Vals xs us):xs.length=us.length:=Paired.length r
theorem Vals.get:∀{xs:List V} {us:List Aa} {i:Nat} {x:V},Vals xs us->xs[i]?=some x->∃u,us[i]?=some u/\RelV x u
 | _,_,_,_,.nil,e=>by simp at e
 | _,_,0,_,.cons r _,e=>by simp at e;subst e;exact⟨_,rfl,r⟩
 | _,_,i+1,x,.cons _ t,e=>by
  obtain⟨u,h1,h2⟩:=Vals.get (i:=i) (x:=x) t (by simpa using e)
  exact⟨u,by simpa using h1,h2⟩
theorem Vals.set{x:V}{u:Aa}(r:RelV x u):∀{xs:List V} {us:List Aa} (i:Nat),Vals xs us->Vals (xs.set i x) (us.set i u)
 | _,_,_,.nil=>.nil
 | _,_,0,.cons _ t=>.cons r t
 | _,_,i+1,.cons q t=>.cons q (Vals.set r i t)
theorem Vals.append:∀{xs ys:List V} {us G:List Aa},Vals xs us->Vals ys G->Vals (xs++ys) (us++G)
 | _,_,_,_,.nil,s=>s
 | _,_,_,_,.cons r t,s=>.cons r (Vals.append t s)
theorem Vals.take:∀{xs:List V} {us:List Aa} (n:Nat),Vals xs us->Vals (xs.take n) (us.take n)
 | _,_,0,_=>.nil
 | _,_,_+1,.nil=>.nil
 | _,_,n+1,.cons r t=>.cons r (Vals.take n t)
theorem Vals.drop:∀{xs:List V} {us:List Aa} (n:Nat),Vals xs us->Vals (xs.drop n) (us.drop n)
 | _,_,0,r=>r
 | _,_,_+1,.nil=>.nil
 | _,_,n+1,.cons _ t=>Vals.drop n t
def RelO:Option V->Option Aa->Prop
 | some v,some u=>RelV v u
 | none,none=>True
 | _,_=>False
def KV {κ:Type}:List (κ×V)->List (κ×Aa)->Prop:=Paired λ(p:κ×V) (q:κ×Aa)=>p.1=q.1/\RelV p.2 q.2
def kV:Key->V
 | .inl i=>.int i
 | .inr x=>.str x
inductive HO where
 
 | lst (xs:List V)
 
 | tup (xs:List V)
 
 | dK (kvs:List (Key×V)) | dT (kvs:List (List Key×V))
 
 | set (S:Int->Bool) (n:Nat)
 
 | ins (C dx:Ab) (fs:List (Str×V))
 
 | own (x:Ab)
 
 | xd (fs:List (Str×V))
 
 | met (f x:Ab)
 
 | rng (lo hi:Int)
 
 | frz (o:Obj) (u:HO)
 
 | tbl (ps:Array Aa)
 
 | ext (φ:Heap->Prop)
abbrev Hp:=Ab->Option HO
def upd (H:Hp)(a:Ab)(o:HO):Hp:=λb=>if b=a then some o else H b
theorem Z2{H:Hp}{o:HO}:upd H a o a=some o:=by unfold upd;rw[xY rfl]
theorem Z5{H:Hp}{o:HO}(h:b≠a):upd H a o b=H b:=by unfold upd;rw[xZ h]
theorem YL{H:Hp}{o u:HO}(h:H a=some o)(h':H b=some u)(d:o≠u):a≠b:=by
 intro e;subst e;rw[h] at h';exact d (Option.some.inj h')
theorem Z1{H:Hp}{o:HO}(h:H a=some o)(h':H b=none):a≠b:=by
 intro e;subst e;rw[h] at h';cases h'
section
variable (P:Ae)(w:Af)
def ObjOk(H:Hp)(h:Heap)(a:Ab):HO->Prop
 | .lst xs=>xs.length<=zF/\∃(c9:List Aa) (n:Nat),Vals xs c9/\h.get? a=some { cls:=.type "list",data:=.seq c9.toArray n }
 | .tup xs=>xs.length<=zF/\∃c9:List Aa,Vals xs c9/\IsTup h a c9.toArray
 | .dK kvs=>kvs.length<=zF/\(a==sysModules)=false/\∃vs,KV kvs vs/\h.DictOf (mixKind P w) a vs
 | .dT kvs=>kvs.length<=zF/\(a==sysModules)=false/\∃xs:List (List Key×Ab×Aa),
   Paired (λ(p:List Key×V) (q:List Key×Ab×Aa)=>p.1=q.1/\H q.2.1=some (.tup (p.1.map kV))/\RelV p.2 q.2.2) kvs xs /\
   ∃o es ep,h.get? a=some o/\o.ExactDict/\o.data = .dict es ep/\es.toList=xs.map (entryOfKey (tupleKind (mixKind P w)))/\(xs.map (·.1)).Nodup
 | .set S n=>h.SetOf (intKind P w) a S n
 | .ins C dx fs=>H dx=some (.own a)/\fs.length<=1000/\dx≠a/\h.get? a=some (instObj C dx) /\
   ∃mA,h.Ns1 dx mA/\(∀f,RelO (fs.lookup f) (mA f))/\PySem.Within mA (fs.map (·.1))
 | .own _=>∃o,h.get? a=some o
 | .xd fs=>∃mA,h.Ns1 a mA/\∀f,RelO (fs.lookup f) (mA f)
 | .rng lo hi=>∃t u v,h.get? a=some { cls:=.type "range",data:=.fields #[.int lo t,.int hi u,.int 1 v] }
 | .frz o u=>h.get? a=some o/\ObjOk H h a u
 | .tbl ps=>h.get? a=some { cls:=.none,data:=.fields ps }
 | .met f x=>h.get? a=some (methodObj (.ref f) (.ref x))
 | .ext φ=>φ h/\(∃o,h.get? a=some o)/\∀h1 h2:Heap,φ h1->(∀o,h1.get? a=some o->h2.get? a=some o)->φ h2
def HOk (H:Hp)(h:Heap):Prop:=∀a o,H a=some o->ObjOk P w H h a o
end
section
variable {P:Ae}{w:Af}{H H':Hp}{h h':Heap}{a:Ab}{o:HO}
theorem ObjOk.lt(x:ObjOk P w H h a o):a<h.objs.size:=by
 cases o with
 | lst xs=>obtain⟨_,_,_,_,e⟩:=x;exact zQ e
 | tup xs=>obtain⟨_,_,_,p⟩:=x;exact p.lt
 | dK kvs=>obtain⟨_,_,_,_,o,_,_,e,_⟩:=x;exact zQ e
 | dT kvs=>obtain⟨_,_,_,_,o,_,_,e,_⟩:=x;exact zQ e
 | set S n=>obtain⟨o,_,_,_,e,_⟩:=x;exact zQ e
 | ins C dx fs=>obtain⟨_,_,_,e,_⟩:=x;exact zQ e
 | own y=>obtain⟨_,e⟩:=x;exact zQ e
 | xd fs=>obtain⟨_,⟨_,_,_,e,_⟩,_⟩:=x;exact zQ e
 | rng lo hi=>obtain⟨_,_,_,e⟩:=x;exact zQ e
 | frz G u=>obtain⟨e,_⟩:=x;exact zQ e
 | tbl ps=>exact zQ (show h.get? a=some _ from x)
 | met f y=>exact zQ (show h.get? a=some _ from x)
 | ext φ=>obtain⟨_,⟨_,e⟩,_⟩:=x;exact zQ e
theorem Paired.mapP{α β:Type}{F G:α->β->Prop}:∀{l₁:List α} {l₂:List β},Paired F l₁ l₂->(∀a b,F a b->G a b)->Paired G l₁ l₂
 | _,_,.nil,_=>.nil
 | _,_,.cons r t,f=>.cons (f _ _ r) (Paired.mapP t f)
theorem ObjOk.stay(x:ObjOk P w H h a o)(k:∀b u,(b=a∨H b=some (.own a))->h.get? b=some u->h'.get? b=some u)(Z:∀b,H b=some (.own a)->H' b=some (.own a))(V:∀b xs,H b=some (.tup xs)->H' b=some (.tup xs)):ObjOk P w H' h' a o:=by
 induction o with
 | lst xs=>obtain⟨z,c9,n,r,e⟩:=x;exact⟨z,c9,n,r,k _ _ (.inl rfl) e⟩
 | tup xs=>obtain⟨z,c9,r,G,e,c⟩:=x;exact⟨z,c9,r,G,k _ _ (.inl rfl) e,c⟩
 | dK kvs=>obtain⟨z,y,vs,r,G,es,ep,e,c⟩:=x;exact⟨z,y,vs,r,G,es,ep,k _ _ (.inl rfl) e,c⟩
 | dT kvs =>
  obtain⟨z,y,xs,r,G,es,ep,e,c⟩:=x;exact⟨z,y,xs,Paired.mapP r λp q z=>⟨z.1,V _ _ z.2.1,z.2.2⟩,G,es,ep,k _ _ (.inl rfl) e,c⟩
 | set S n=>obtain⟨G,es,ep,t,e,c⟩:=x;exact⟨G,es,ep,t,k _ _ (.inl rfl) e,c⟩
 | ins C dx fs =>
  obtain⟨d,z,W,e,mA,⟨od,es,ep,e2,c⟩,r⟩:=x;exact⟨Z _ d,z,W,k _ _ (.inl rfl) e,mA,⟨od,es,ep,k _ _ (.inr d) e2,c⟩,r⟩
 | own y=>obtain⟨G,e⟩:=x;exact⟨G,k _ _ (.inl rfl) e⟩
 | xd fs=>obtain⟨mA,⟨od,es,ep,e,c⟩,r⟩:=x;exact⟨mA,⟨od,es,ep,k _ _ (.inl rfl) e,c⟩,r⟩
 | rng lo hi=>obtain⟨t,u,v,e⟩:=x;exact⟨t,u,v,k _ _ (.inl rfl) e⟩
 | frz G u O=>obtain⟨e,q⟩:=x;exact⟨k _ _ (.inl rfl) e,O q⟩
 | tbl ps =>
  have e:h.get? a=some { cls:=.none,data:=.fields ps }:=x;show h'.get? a=some { cls:=.none,data:=.fields ps };exact k a _ (.inl rfl) e
 | met f y =>
  have e:h.get? a=some (methodObj (.ref f) (.ref y)):=x;show h'.get? a=some (methodObj (.ref f) (.ref y));exact k a _ (.inl rfl) e
 | ext φ=>obtain⟨p,⟨o,e⟩,st⟩:=x;exact⟨st _ _ p λo q=>k _ _ (.inl rfl) q,⟨o,k _ _ (.inl rfl) e⟩,st⟩
theorem HOk.lt(x:HOk P w H h)(e:H a=some o):a<h.objs.size:=(x a o e).lt
theorem HOk.fresh(x:HOk P w H h)(e:h.objs.size<=a):H a=none:=by
 cases q:H a with
 | none=>rfl
 | some u=>exact xX (yG (x.lt q) e) (wY _)
theorem HOk.kept(x:HOk P w H h)(k:∀b u,h.get? b=some u->h'.get? b=some u):HOk P w H h':=λa o e =>
 (x a o e).stay (λb u _ q=>k b u q) (λ_ q=>q) λ_ _ q=>q
theorem HOk.laid(x:HOk P w H h)(k:∀b u,h.get? b=some u->h'.get? b=some u)(W:h.objs.size<=a)(G:ObjOk P w (upd H a o) h' a o):HOk P w (upd H a o) h':=λb u e=>by
 have O:=x.fresh W;by_cases V:b=a
 .subst V;rw[Z2] at e;cases e;exact G
 .rw[Z5 V] at e;exact(x b u e).stay (λc v _ q=>k c v q) (λc q=>by rw[Z5 (Z1 q O)];exact q) λc xs q=>by rw[Z5 (Z1 q O)];exact q
end
def Rd (H:Hp)(a:Ab)(u:HO):Prop:=H a=some u∨∃o,H a=some (.frz o u)
theorem Rd.ok{H:Hp}{u:HO}(r:Rd H a u)(x:HOk P w H h):ObjOk P w H h a u:=by
 rcases r with r | ⟨o,r⟩
 .exact x a u r
 .obtain⟨_,q⟩:=x a _ r;exact q
def Mut:Option HO->Prop
 | some (.lst _)=>True
 | some (.dK _)=>True
 | some (.dT _)=>True
 | some (.set _ _)=>True
 | some (.ins _ _ _)=>True
 | some (.ext _)=>True
 | _=>False
section
variable {P:Ae}{w:Af}{H:Hp}{h h':Heap}{x e:Ab}{o':HO}
theorem HOk.write(ok:HOk P w H h)(Z:Mut (H x))(he:e=x∨H e=some (.own x))(k:∀b u,b≠e->h.get? b=some u->h'.get? b=some u)(ac:∃u,h'.get? e=some u)(aa:ObjOk P w (upd H x o') h' x o'):HOk P w (upd H x o') h':=λb u q=>by
 have O:∀c y,H c=some (.own y)->c≠x:=λc y r z=>by subst z;rw[r] at Z;exact Z
 have V:∀c xs,H c=some (.tup xs)->c≠x:=λc xs r z=>by subst z;rw[r] at Z;exact Z
 by_cases W:b=x
 .subst W;rw[Z2] at q;cases q;exact aa
 .rw[Z5 W] at q;by_cases G:b=e
  .have q':H b=some (.own x):=by
    rcases he with z | z
    .exact xX (G.trans z) W
    .rw[G];exact z
   rw[q] at q';cases q';obtain⟨v,hv⟩:=ac;exact⟨v,by rw[G];exact hv⟩
  .refine(ok b u q).stay (λc v hc r=>k c v ?_ r) (λc r=>by rw[Z5 (O c b r)];exact r) λc xs r=>by rw[Z5 (V c xs r)];exact r
   rcases hc with rfl | hc
   .exact G
   .rintro rfl;rcases he with z | z
    .exact O c b hc z
    .rw[hc] at z;cases z;exact W rfl
end
structure Un(fs ex:List Ab)(H H':Hp)(h h':Heap):Prop where
 keep:∀b o,h.get? b=some o->H b=none->b∉fs->b∉ex->h'.get? b=some o
 slot:∀b o,h.get? b=some o->H b=none->b∈fs->b∉ex->∃sl,h'.get? b=some { o with slots:=sl }
 free:∀b o,h.get? b=some o->H b=none->b∉ex->H' b=none
 there:∀b o,h.get? b=some o->b∉ex->∃o',h'.get? b=some o'
 tups:∀b xs,H b=some (.tup xs)->H' b=some (.tup xs)
 frzs:∀b o u,H b=some (.frz o u)->H' b=some (.frz o u)
 tbls:∀b ps,H b=some (.tbl ps)->∃more,H' b=some (.tbl (ps++more))
section
variable {fs fs' ex ex':List Ab}{H H1 H2:Hp}{h h1 h2 h':Heap}{a x e:Ab}{o:HO}
theorem Un.any(u:Un fs ex H H1 h h1){G:Obj}(q:h.get? b=some G)(n:H b=none)(V:b∉ex):∃sl,h1.get? b=some { G with slots:=sl }:=by
 by_cases O:b∈fs
 .exact u.slot b G q n O V
 .exact⟨G.slots,u.keep b G q n O V⟩
theorem Un.trans(a:Un fs ex H H1 h h1)(b:Un fs ex H1 H2 h1 h2):Un fs ex H H2 h h2 where
 keep:=λc G q n V O=>b.keep c G (a.keep c G q n V O) (a.free c G q n O) V O
 slot:=λc G q n V O=>by
  obtain⟨sl,e1⟩:=a.slot c G q n V O;obtain⟨W,e2⟩:=b.slot c _ e1 (a.free c G q n O) V O;exact⟨W,e2⟩
 free:=λc G q n O=>by
  obtain⟨o',e1⟩:=a.there c G q O;exact b.free c o' e1 (a.free c G q n O) O
 there:=λc G q O=>by
  obtain⟨o',e1⟩:=a.there c G q O;exact b.there c o' e1 O
 tups:=λc xs q=>b.tups c xs (a.tups c xs q)
 frzs:=λc G xs q=>b.frzs c G xs (a.frzs c G xs q)
 tbls:=λc ps q=>by
  obtain⟨m1,e1⟩:=a.tbls c ps q;obtain⟨Z,e2⟩:=b.tbls c _ e1;exact⟨m1++Z,by rw[e2,Array.append_assoc]⟩
theorem Un.kept(k:∀b u,h.get? b=some u->h'.get? b=some u):Un fs ex H H h h' :=
 ⟨λb G q _ _ _=>k b G q,λb G q _ _ _=>⟨G.slots,k b G q⟩,λ_ _ _ n _=>n,λb G q _=>⟨G,k b G q⟩,λ_ _ q=>q,λ_ _ _ q=>q,λ_ ps q=>⟨#[],by rw[q];simp⟩⟩
theorem Un.refl:Un fs ex H H h h:=Un.kept λ_ _ q=>q
theorem Un.laid(k:∀b u,h.get? b=some u->h'.get? b=some u)(O:h.objs.size<=a)(G:H a=none):Un fs ex H (upd H a o) h h' where
 keep:=λb u q _ _ _=>k b u q
 slot:=λb u q _ _ _=>⟨u.slots,k b u q⟩
 free:=λb u q n _=>by rw[Z5 (zX (yG (zQ q) O))];exact n
 there:=λb u q _=>⟨u,k b u q⟩
 tups:=λb xs q=>by rw[Z5 (Z1 q G)];exact q
 frzs:=λb u xs q=>by rw[Z5 (Z1 q G)];exact q
 tbls:=λb ps q=>⟨#[],by rw[Z5 (Z1 q G),q];simp⟩
theorem Un.write(O:Mut (H x))(he:e=x∨H e=some (.own x))(k:∀b u,b≠e->h.get? b=some u->h'.get? b=some u)(V:∃u,h'.get? e=some u):Un fs ex H (upd H x o) h h':=by
 have hx:∀b,H b=none->b≠x:=λb n z=>by subst z;rw[n] at O;exact O
 have Z:∀b,H b=none->b≠e:=λb n z=>by
  subst z;rcases he with r | r
  .exact hx b n r
  .rw[n] at r;cases r
 have W:∀b u,H b=some u->¬ Mut (some u)->b≠x:=λb u q nm z=>by subst z;rw[q] at O;exact nm O
 refine⟨λb u q n _ _=>k b u (Z b n) q,λb u q n _ _=>⟨u.slots,k b u (Z b n) q⟩,λb u q n _=>by rw[Z5 (hx b n)];exact n,λb u q _=>?_,
  λb xs q=>by rw[Z5 (W b _ q λz=>z)];exact q,λb u xs q=>by rw[Z5 (W b _ q λz=>z)];exact q,λb ps q=>⟨#[],by rw[Z5 (W b _ q λz=>z),q];simp⟩⟩
 by_cases G:b=e
 .subst G;exact V
 .exact⟨u,k b u G q⟩
end
def trk (h:Heap)(H:Hp):List Ab:=(zV h.objs.size).filter λa=>(H a).isSome
def hidT (h:Heap)(H:Hp):Heap:=hideAll h (trk h H)
theorem RF(h:Heap)(H:Hp):(hidT h H).objs.size=h.objs.size:=PySem.W.hideAll_size _ _
theorem PR{H:Hp}(e:h.get? b=some o)(n:H b=none):(hidT h H).get? b=some o :=
 hideAll_get _ e λG=>by
  have q:(H b).isSome=true:=(wJ.mp G).2;rw[n] at q;simp at q
theorem KN{H:Hp}(e:(hidT h H).get? b=some o):h.get? b=some o/\H b=none:=by
 have G:h.get? b=some o:=of_hideAll (trk h H) e;refine⟨G,?_⟩;cases q:H b with
 | none=>rfl
 | some x =>
  have O:b∈trk h H:=wJ.mpr ⟨xB.mpr (zQ G),by simp[q]⟩
  have z:(hidT h H).get? b=none:=PySem.W.hideAll_none (trk h H) O;rw[z] at e;cases e
def Oa(g h:Heap)(L:Ab):List (Ab×Obj):=(zV h.objs.size).filterMap λa=>if a=L∨(g.get? a).isSome=true then none else(h.get? a).map λo=>(a,o)
def rest (g h:Heap)(L d:Ab):List (Ab×Obj):=(Oa g h L).filter λp=>decide (p.1≠d)
def CxOk (H:Hp)(cx:Aa):Prop:=cx = .none∨∃y o v u,cx = .ref y/\H y=some (.frz o u)/\o.data = .fields v/\v[2]?=some .none
theorem CxOk.frzs{H H':Hp}{cx:Aa}(x:CxOk H cx)(f:∀b o u,H b=some (.frz o u)->H' b=some (.frz o u)):CxOk H' cx:=by
 rcases x with h | ⟨y,o,v,u,h1,h2,G⟩
 .exact .inl h
 .exact .inr ⟨y,o,v,u,h1,f _ _ _ h2,G⟩
def HdH (A:Ag)(H:Hp):Prop:=A.handled=none∨∃x o v u cx,A.handled=some (.ref x)/\H x=some (.frz o u)/\o.data = .fields v/\v[2]?=some cx/\CxOk H cx
def Ch (h:Heap)(x:Ab):Prop:=∃o v cx,h.get? x=some o/\o.data = .fields v/\v[2]?=some cx/\(cx = .none∨∃y o' v',cx = .ref y/\y≠x/\h.get? y=some o'/\o'.data = .fields v'/\v'[2]?=some .none)
def HdS (A:Ag)(h:Heap):Prop:=A.handled=none∨∃x,A.handled=some (.ref x)/\Ch h x
theorem HdH.frzs{A:Ag}{H H':Hp}(x:HdH A H)(f:∀b o u,H b=some (.frz o u)->H' b=some (.frz o u)):HdH A H':=by
 rcases x with h | ⟨x,o,v,u,cx,h1,h2,G,V,O⟩
 .exact .inl h
 .exact .inr ⟨x,o,v,u,cx,h1,f _ _ _ h2,G,V,O.frzs f⟩
theorem Ch.keeps{h':Heap}{x:Ab}(c:Ch h x)(k:∀b o,h.get? b=some o->∀v cx,o.data = .fields v->v[2]?=some cx->h'.get? b=some o):Ch h' x:=by
 obtain⟨o,v,cx,h1,h2,V,G⟩:=c;refine⟨o,v,cx,k _ _ h1 _ _ h2 V,h2,V,?_⟩;rcases G with G | ⟨y,o',W,e1,e2,e3,e4,O⟩
 .exact .inl G
 .exact .inr ⟨y,o',W,e1,e2,k _ _ e3 _ _ e4 O,e4,O⟩
theorem HdS.keeps{A:Ag}{h h':Heap}(x:HdS A h)(k:∀b o,h.get? b=some o->∀v cx,o.data = .fields v->v[2]?=some cx->h'.get? b=some o):HdS A h':=by
 rcases x with x | ⟨a,h1,h2⟩
 .exact .inl x
 .exact .inr ⟨a,h1,h2.keeps k⟩
theorem HdH.s{P:Ae}{w:Af}{H:Hp}(x:HdH A H)(V:∀a o u,H a=some (.frz o u)->h.get? a=some o):HdS A h:=by
 rcases x with x | ⟨x,o,v,u,cx,h1,h2,W,O,G⟩
 .exact .inl x
 .refine .inr ⟨x,h1,o,v,cx,V _ _ _ h2,W,O,?_⟩;rcases G with G | ⟨y,o',Z,u',e1,e2,e3,e4⟩
  .exact .inl G
  .refine .inr ⟨y,o',Z,e1,λz=>?_,V _ _ _ e2,e3,e4⟩;subst z;rw[h2] at e2;cases e2;rw[W] at e3;cases e3;rw[O] at e4;cases e4;cases e1
section
variable {prog:Ae}{w:Af}{A:Ag}{EE:Aa->Ac->Prop}{s:Ac}
theorem Vl:entryFor table "proto.unchain"=some Builtin.«proto.unchain»:=entryFor_of_tree (by kernel_rfl)
theorem NA{α:Type}{e:Ab}{oe:Obj}{Z:Array Aa}{Q:α->Ac->Prop}(hh:A.handled=some (.ref h0))(g0:Ch s.heap h0)(nw:∀y,Ch s.heap y->(∃o v cx,s.heap.get? y=some o/\o.data = .fields v/\v[2]?=some cx)->(h0=y∨∃o v,s.heap.get? h0=some o/\o.data = .fields v/\v[2]?=some (.ref y))->y≠e)(he:s.heap.get? e=some oe)(de:oe.data = .fields Z)(sz:2<Z.size)(k:EE (.ref e) { s with heap:=s.heap.update e (Obj.mapFields (·.setIfInBounds 2 (.ref h0))) }):wpAny (model prog w) A (raiseNew (.ref e):Sem α) Q EE s:=by
 obtain⟨o0,v0,cx,g1,d0,V,c1⟩:=id g0;have ne:h0≠e:=nw h0 g0 ⟨_,_,_,g1,d0,V⟩ (.inl rfl);unfold raiseNew;refine zA (wpAny_handled ?_);rw[hh];dsimp only;rw[xY (show(Value.ref h0 != Value.ref e)=true from by simp[ne])]
 have G:wpAny (model prog w) A (setField (.ref e) 2 (.ref h0) >>= λ_=>throw (Value.ref e)) Q EE s:=zA (wpAny_setField he de sz (wpAny_throw k));refine zA (zD (wpAny_runValue (codeAny_builtin Vl ?_)));unfold Builtin.«proto.unchain»;refine zA (wpAny_field g1 d0 V ?_);rcases c1 with rfl | ⟨y,o',v',rfl,ny,g2,d2,O⟩
 .rw[xY (show(Value.none==Value.none)=true from rfl)]
  refine zA (zB (zB ?_));exact G
 .have W:y≠e:=nw y ⟨_,_,_,g2,d2,O,.inl rfl⟩ ⟨_,_,_,g2,d2,O⟩ (.inr ⟨_,_,g1,d0,V⟩);rw[xZ (show ¬ ((Value.ref y==Value.none)=true) from zW),xZ (show ¬ ((Value.ref y==Value.ref e)=true) from by simp[W])]
  dsimp only;rw[xZ (show ¬ ((Value.ref y==Value.ref h0)=true) from by simp[ny])]
  rw[xZ (by decide)]
  refine zA (zB ?_);refine zB ?_;refine⟨Code.quiet_builtin _ (by decide +kernel),codeAny_builtin Vl ?_⟩
  unfold Builtin.«proto.unchain»;refine zA (wpAny_field g2 d2 O ?_);rw[xY (show(Value.none==Value.none)=true from rfl)]
  refine zA (zB (zB ?_));exact G
theorem L9{α:Type}{it:Ab}{h1:Heap}(V:A.handled=some (.ref h0))(g0:Ch h1 h0)(W:∀h',(∀b o,h1.get? b=some o->h'.get? b=some o)->Q none { s with heap:=h' }):
  wpAny (model prog w) A.in1 (newExc (.type "StopIteration") [] >>= λe=>(raiseNew e:Sem α)) (λ_ _=>False)
   (λe s1=>wpAny (model prog w) A (isInstance e (.type "StopIteration")) (λb s2=>if b=true then Q none s2 else False) EE s1) { s with heap:=h1 }:=by
 refine zA ?_;simp only[newExc,newTuple];refine zA (wpAny_newObj_type ?_ (by size_fits))
 refine zA (m:=firstArgMember _ _) (wpAny_of_eq (a:=Value.none) (by first | rfl | (simp only[firstArgMember];rfl)) ?_)
 refine wpAny_newObj_type ?_ (by size_fits)
 have O:∀b o,h1.get? b=some o->b<h1.objs.size:=λb o e=>zQ e;have G:=g0.keeps λb o e _ _ _ _=>zL { cls:=.type "StopIteration",data:=.fields #[.ref h1.objs.size,.none,.none,.none,.bool false,.none] } (zL { cls:=.type "tuple",data:=.seq #[] } e);refine NA (A:=A.in1) V G ?_ (zU _ rfl) rfl (by simp[ownMembersOf]) ?_
 .obtain⟨o,v,cx,e1,e2,e3,e4⟩:=id g0;rintro y _ _ (rfl | ⟨o2,v2,f1,f2,f3⟩)
  .exact zX (by rw[wG];exact xK (O _ _ e1))
  .have:=zL { cls:=.type "StopIteration",data:=.fields #[.ref h1.objs.size,.none,.none,.none,.bool false,.none] } (zL { cls:=.type "tuple",data:=.seq #[] } e1)
   have f1':=f1.symm.trans this;cases f1';rw[e2] at f2;cases f2;rw[e3] at f3;cases f3;rcases e4 with z | ⟨y',o',Z,z,_,g,_⟩
   .cases z
   .cases z;exact zX (by rw[wG];exact xK (O _ _ g))
 refine wpAny_isInstance (T:="StopIteration") (b:=true) ⟨_,yS _ (zU _ rfl) rfl,rfl⟩ isSubtype_stop ?_;rw[xY rfl];refine W _ λb o e=>?_;refine(yT _ _ (vB ?_)).trans (zL _ (zL _ e));rw[wG];exact xK (O b o e)
theorem Rx(hh:A.handled=some (.ref h0))(g0:Ch s.heap h0)(G:s.heap.IsListIter it l i)(hl:s.heap.IsList l items)(hx:items[i]?=none)(hQ:∀h',Heap.ExtBut it s.heap h'->Q none { s with heap:=h' }):wpAny (model prog w) A (pyNext (.ref it)) Q EE s:=by
 obtain⟨oi,O,ci,V⟩:=id G;obtain⟨ol,gl,_,nl,dl⟩:=hl;unfold pyNext;refine zA (wpAny_attempt (wpAny_callSpecial?_slot (name:=Str.ofString "__next__") G.typeIs slot_listiter_next (wpAny_call_entry slot_listiter_next G.typeIs entry_listiter_next ?_ (args_listiter_next _))));show wpAny _ _ (field (.ref it) 0 >>= _) _ _ s;refine zA (wpAny_field O V (x:=.ref l) rfl ?_);show wpAny _ _ (if(Value.ref l==Value.none)=true then _ else _) _ _ s;rw[xZ (show ¬ ((Value.ref l==Value.none)=true) from zW)]
 show wpAny _ _ (field (.ref it) 1 >>= _) _ _ s;refine zA (wpAny_field O V (x:=.int i 0) rfl ?_);show wpAny _ _ (seqItems? (.ref l) >>= _) _ _ s;refine zA (wpAny_seqItems gl dl ?_);simp only[yE,hx];refine zA (wpAny_rule (zA (wpAny_setField O V (by simp) ?_)))
 show wpAny _ _ (newExc (.type "StopIteration") [] >>= _) _ _ _;have keep:∀b o,b≠it->s.heap.get? b=some o->(s.heap.update it (Obj.mapFields (·.setIfInBounds 0 Value.none))).get? b=some o:=λb o W e=>(yT _ _ (Ne.symm W)).trans e;have Z:∀b o,s.heap.get? b=some o->∀v cx,o.data = .fields v->v[2]?=some cx->b≠it:=λb o e v cx e1 e2 z=>by
  rw[z,O] at e;cases e;rw[V] at e1;cases e1;simp at e2
 refine zC (L9 (it:=it) (EE:=EE) (Q:=Q) hh (g0.keeps λb o e v cx e1 e2=>keep b o (Z b o e v cx e1 e2) e) λh' k=>hQ h' λb o W e=>k b o (keep b o W e)) (λ_ _ z=>z.elim) λe s1 h1=>?_;refine zA (zC h1 (λb s2 h2=>?_) λ_ _ z=>z);cases b with
 | true=>exact zB h2
 | false=>exact False.elim h2
theorem L5(hh:A.handled=some (.ref h0))(g0:Ch s.heap h0)(G:IsTupIter s.heap it t i)(ht:IsTup s.heap t items)(hx:items[i]?=none)(hQ:∀h',Heap.ExtBut it s.heap h'->Q none { s with heap:=h' }):wpAny (model prog w) A (pyNext (.ref it)) Q EE s:=by
 obtain⟨o,V,hc,O⟩:=id G;obtain⟨ol,ac,_,nl,Z⟩:=ht;unfold pyNext;refine zA (wpAny_attempt (wpAny_callSpecial?_slot (name:=Str.ofString "__next__") G.typeIs slot_tupleiter_next
  (wpAny_call_entry slot_tupleiter_next G.typeIs entry_tupleiter_next ?_ (args_tupleiter_next _))))
 show wpAny _ _ (field (.ref it) 0 >>= _) _ _ s;refine zA (wpAny_field V O (x:=.ref t) rfl ?_);show wpAny _ _ (if(Value.ref t==Value.none)=true then _ else _) _ _ s;rw[xZ (show ¬ ((Value.ref t==Value.none)=true) from zW)]
 show wpAny _ _ (field (.ref it) 1 >>= _) _ _ s;refine zA (wpAny_field V O (x:=.int i 0) rfl ?_);show wpAny _ _ (seqItems? (.ref t) >>= _) _ _ s;refine zA (wpAny_seqItems ac Z ?_);simp only[yE,hx];refine zA (wpAny_rule (zA (wpAny_setField V O (by simp) ?_)))
 show wpAny _ _ (newExc (.type "StopIteration") [] >>= _) _ _ _;have keep:∀b o,b≠it->s.heap.get? b=some o->(s.heap.update it (Obj.mapFields (·.setIfInBounds 0 Value.none))).get? b=some o:=λb o W e=>(yT _ _ (Ne.symm W)).trans e;have aa:∀b o,s.heap.get? b=some o->∀v cx,o.data = .fields v->v[2]?=some cx->b≠it:=λb o e v cx e1 e2 z=>by
  rw[z,V] at e;cases e;rw[O] at e1;cases e1;simp at e2
 refine zC (L9 (it:=it) (EE:=EE) (Q:=Q) hh (g0.keeps λb o e v cx e1 e2=>keep b o (aa b o e v cx e1 e2) e) λh' k=>hQ h' λb o W e=>k b o (keep b o W e)) (λ_ _ z=>z.elim) λe s1 h1=>?_;refine zA (zC h1 (λb s2 h2=>?_) λ_ _ z=>z);cases b with
 | true=>exact zB h2
 | false=>exact False.elim h2
theorem Rz(O:HdS A s.heap)(G:s.heap.IsListIter it l i)(Z:s.heap.IsList l items)(W:items[i]?=none)(V:∀h',Heap.ExtBut it s.heap h'->Q none { s with heap:=h' }):wpAny (model prog w) A (pyNext (.ref it)) Q EE s:=by
 rcases O with O | ⟨x,h1,h2⟩
 .exact wpAny_pyNext_list_end O G Z W V
 .exact Rx h1 h2 G Z W V
theorem Md(O:HdS A s.heap)(G:IsTupIter s.heap it t i)(W:IsTup s.heap t items)(Z:items[i]?=none)(V:∀h',Heap.ExtBut it s.heap h'->Q none { s with heap:=h' }):wpAny (model prog w) A (pyNext (.ref it)) Q EE s:=by
 rcases O with O | ⟨x,h1,h2⟩
 .exact next_tuple_end O G W Z V
 .exact L5 h1 h2 G W Z V
theorem Nl(O:HdS A s.heap)(G:s.heap.IsTupleIter it t i)(W:s.heap.IsTuple t items)(Z:items[i]?=none)(V:∀h',Heap.ExtBut it s.heap h'->Q none { s with heap:=h' }):wpAny (model prog w) A (pyNext (.ref it)) Q EE s :=
 Md O G W Z V
theorem Uy{Q:List Aa->Ac->Prop}(hh:HdS A s.heap)(O:IsTup s.heap t items)(hQ:∀h',Heap.ExtBut s.heap.objs.size s.heap h'->Q items.toList { s with heap:=h' }):wpAny (model prog w) A (unpackItems (.ref t) items.size none) Q EE s:=by
 have W:t≠s.heap.objs.size:=by obtain⟨o,ho,_⟩:=O;exact zX (zQ ho)
 unfold unpackItems;refine zA ?_
 .unfold notIterableAtAll;refine zA (wpAny_specialOf O.typeIs slot_tuple_iter.lookup ?_);refine zB ?_;simp only[xL,if_false];refine zA (zD (iter_tuple O ?_));refine zA (zD (draw_tuple W items.size 0 _ _ ⟨_,zU _ rfl,rfl,rfl⟩ (O.push _) (by lia) λh₁ V G=>?_))
  have Z:List.take items.size (List.drop 0 items.toList)=items.toList:=by
   rw[jV];exact xP (by simp)
  rw[Z];rw[xZ (by simp)]
  have ad:IsTup h₁ t items:=(O.push _).extBut G.extBut W;have ac:HdS A h₁:=hh.keeps λb o e _ _ _ _=>G.extBut b o (zX (zQ e)) (zL _ e);refine zA (zD (Md ac V ad (by simp) λh₂ aa=>?_))
  simp only[Option.isSome_none,xL,if_false];refine zB (hQ h₂ λb o hb e=>aa b o hb (G.extBut b o hb (zL _ e)))
theorem Wc{elts:List Ah}{x1}{Q:Unit->Ac->Prop}(O:HdS A s.heap)(W:IsTup s.heap t items)(V:(assignEach elts env).length=items.size)(G:(assignEach elts env).findIdx? (·.1)=none)(h:∀h',Heap.ExtBut s.heap.objs.size s.heap h'->wpAny (model prog w) A (assignInOrder ((assignEach elts env).map (·.2)) items.toList) Q EE { s with heap:=h' }):
  wpAny (model prog w) A (assign (.Tuple elts x1 pos) env (.ref t)) Q EE s:=by
 rw[assign_Tuple];refine zA (wpAny_standAt ?_);unfold unpack;rw[V,G];exact zA (zD (Uy O W h))
end
structure Mod(K:Frag)(mg:Str->Option Aa)(base:Heap):Prop where
 kin:K.In base
 glob:base.Ns zE mg
 blt:∃mb,base.Ns builtinsNs mb/\∀x:Str,x≠"__name__"->mb x=bootBuiltins x
 nolimit:base.NoLimit
structure Cx where
 prog:Ae
 w:Af
 K:Frag
 mg:Str->Option Aa
 base:Heap
 A:Ag
 N:List Str
 s₀:Ac
 H₀:Hp
 env:Env
 outer:List Env
 stack:List Env
 ex:List Ab
 fn:Str->Bool
 calm:Bool
 pn:List (Ab×Obj)
 xe:Aa->Ac->Prop
def frs (l:List Env):List Ab:=l.filterMap (·.frame)
abbrev Cx.fs(X:Cx):List Ab:=frs X.outer
def Vis (sc:Aj)(x:Str):Prop:=sc.names.lookup x=some .local∨sc.names.lookup x=some .cell∨sc.names.lookup x=some .free
def Loc (sc:Aj)(x:Str):Prop:=sc.names.lookup x=some .local∨sc.names.lookup x=some .cell
def Look (env:Env)(h:Heap)(m:Str->Option Aa)(x:Str)(u:Aa):Prop :=
 (env.kindOf x=some .local/\m x=some u)∨((env.kindOf x=some .cell∨env.kindOf x=some .free)/\∃c,env.cells.lookup x=some c/\h.IsCell c (some u))
structure Cx.Ok(X:Cx):Prop where
 mod:Mod X.K X.mg X.base
 kind:X.env.scope.kind = .function
 glob:X.env.globals=zE
 blt:X.env.builtins=builtinsNs
 above:X.s₀.heap.objs.size<=X.env.locals
 inj:∀x y c,X.env.cells.lookup x=some c->X.env.cells.lookup y=some c->x=y
 has:∀x,(X.env.kindOf x=some .cell∨X.env.kindOf x=some .free)->∃c,X.env.cells.lookup x=some c
 cab:∀x c,X.fn x=true->X.env.cells.lookup x=some c->X.s₀.heap.objs.size<=c
 hd:X.calm=true->X.A.handled=none
 frames:X.A.frames=some X.stack
 stk:X.stack=X.outer∨(X.stack=X.env::X.outer/\X.env.frame=some X.env.locals)
 exf:∀b∈X.ex,b≠X.env.locals/\∀x c,X.env.cells.lookup x=some c->c≠b
 bs:∀b o,X.base.get? b=some o->X.s₀.heap.get? b=some o/\X.H₀ b=none
 bsz:X.base.objs.size<=X.s₀.heap.objs.size
 noex:∀b o,X.base.get? b=some o->b∉X.ex
 exfs:∀b∈X.ex,b∉X.fs
 funs:X.s₀.heap.FunFrames X.base X.outer
 frf:∀b∈X.fs,X.H₀ b=none
structure Inv(X:Cx)(b8:List (Ab×Obj))(σ:List (Option V))(H:Hp)(s:Ac):Prop where
 ok:X.Ok
 os:s.os=X.s₀.os
 bare:AllBare s.gens
 base:Un X.fs X.ex X.H₀ H X.s₀.heap s.heap
 loc:∃m,s.heap.Ns X.env.locals m/\∀(i:Nat) (x:Str) (v:V),X.N[i]?=some x->σ[i]?=some (some v)->Vis X.env.scope x->∃u,RelV v u/\Look X.env s.heap m x u
 cell:∀x c,X.env.cells.lookup x=some c->∃v,s.heap.IsCell c v
 free:H X.env.locals=none
 freeC:∀x c,X.env.cells.lookup x=some c->H c=none
 pin:∀p∈X.pn++b8,s.heap.get? p.1=some p.2/\H p.1=none/\p.1≠X.env.locals/\p.1∉X.fs/\∀v,p.2.data ≠ .cell v
 hok:HOk X.prog X.w H s.heap
 len:σ.length=X.N.length
 hdh:HdH X.A H
section
variable {X:Cx}{b8:List (Ab×Obj)}{σ:List (Option V)}{H H':Hp}{s:Ac}{h':Heap}
theorem Cx.Ok.nofr(O:X.Ok)(e:X.base.get? b=some o):b∉X.fs:=λG=>by
 have:=(O.funs.mem G).1
 rw[e] at this;cases this
theorem Inv.hdS(I:Inv X b8 σ H s):HdS X.A s.heap:=I.hdh.s (P:=X.prog) (w:=X.w) λa o u e=>(show ObjOk X.prog X.w H s.heap a (.frz o u) from I.hok a _ e).1
theorem Inv.bs(I:Inv X b8 σ H s):∀b o,X.base.get? b=some o->s.heap.get? b=some o/\H b=none:=λb o e =>
 ⟨I.base.keep b o (I.ok.bs b o e).1 (I.ok.bs b o e).2 (I.ok.nofr e) (I.ok.noex b o e),I.base.free b o (I.ok.bs b o e).1 (I.ok.bs b o e).2 (I.ok.noex b o e)⟩
theorem Inv.bk(I:Inv X b8 σ H s):∀b o,X.base.get? b=some o->s.heap.get? b=some o:=λb o e=>(I.bs b o e).1
theorem Inv.mod(I:Inv X b8 σ H s):Mod X.K X.mg X.base:=I.ok.mod
theorem Inv.kIn(I:Inv X b8 σ H s):X.K.In s.heap:=I.ok.mod.kin.keeps I.bk
theorem Inv.nolimit(I:Inv X b8 σ H s):s.heap.NoLimit:=I.ok.mod.nolimit.keeps I.bk
theorem Inv.lt(I:Inv X b8 σ H s):X.env.locals<s.heap.objs.size:=let ⟨_,hn,_⟩:=I.loc;hn.lt
theorem Inv.sz(I:Inv X b8 σ H s):X.s₀.heap.objs.size<=s.heap.objs.size:=yU I.ok.above (yW I.lt)
theorem Inv.nofs(I:Inv X b8 σ H s)(h:s.heap.objs.size<=a):a∉X.fs:=λO=>by
 obtain⟨_,o,G,_⟩:=I.ok.funs.mem O;exact xX (yG (zQ G) (yU I.sz h)) (wY _)
theorem Inv.cne(I:Inv X b8 σ H s):∀x c,X.env.cells.lookup x=some c->c≠X.env.locals:=λx c e z=>by
 obtain⟨v,o,V,W⟩:=I.cell x c e;obtain⟨m,⟨o',es,ep,G,O,_⟩,_⟩:=I.loc;rw[z,G] at V;cases V;rw[O] at W;cases W
theorem Inv.funs(I:Inv X b8 σ H s):s.heap.FunFrames X.base X.outer:=by
 have G:∀(l:List Env),(∀b∈frs l,b∈X.fs)->X.s₀.heap.FunFrames X.base l->s.heap.FunFrames X.base l:=by
  intro l
  induction l with
  | nil=>intro _ _;trivial
  | cons env r Z =>
   intro hs hl;obtain⟨hk,⟨L,o,V,hn,ho,hd⟩,hr⟩:=hl;have W:L∈X.fs:=hs L (by unfold frs;rw[yY,V];exact yJ)
   obtain⟨sl,e⟩:=I.base.slot L o ho (I.ok.frf L W) W λz=>I.ok.exfs L z W;exact⟨hk,⟨L,_,V,hn,e,hd⟩,Z (λb O=>hs b (by unfold frs;rw[yY,V];exact yB _ O)) hr⟩
 exact G X.outer (λ_ O=>O) I.ok.funs
theorem Inv.stack(I:Inv X b8 σ H s):s.heap.FunFrames X.base X.stack:=by
 rcases I.ok.stk with e | ⟨e,O⟩
 .rw[e];exact I.funs
 .rw[e];obtain⟨m,G,_⟩:=I.loc;refine .cons (by rw[I.ok.kind];decide) O G ?_ I.funs
  exact Heap.get?_none_of_le (yU I.ok.bsz I.ok.above)
theorem Inv.stkSub(I:Inv X b8 σ H s):∀b∈frs X.stack,b∈X.env.locals::X.fs:=λb G=>by
 rcases I.ok.stk with e | ⟨e,O⟩
 .rw[e] at G;exact yB _ G
 .rw[e] at G;unfold frs at G;rw[yY,O] at G;exact G
theorem Inv.stkFree(I:Inv X b8 σ H s):∀b∈frs X.stack,H b=none:=λb G=>by
 rcases yF.mp (I.stkSub b G) with e | G
 .rw[e];exact I.free
 .obtain⟨_,o,O,_⟩:=I.ok.funs.mem G;exact I.base.free b o O (I.ok.frf b G) λz=>I.ok.exfs b z G
theorem Inv.step{g':Array GenState}{d':Drawn}(I:Inv X b8 σ H s)(V:∀b∈ch,(b∈X.ex∨X.s₀.heap.objs.size<=b)/\b≠X.env.locals/\(∀x c,X.env.cells.lookup x=some c->c≠b)/\∀p∈X.pn++b8,p.1≠b)(keep:∀b o,b≠X.env.locals->b∉X.fs->b∉ch->s.heap.get? b=some o->H b=none->h'.get? b=some o)(slot:∀b o,b≠X.env.locals->b∈X.fs->b∉ch->s.heap.get? b=some o->H b=none->∃sl,h'.get? b=some { o with slots:=sl })(free:∀b o,b∉ch->s.heap.get? b=some o->H b=none->H' b=none)(there:∀b o,b∉ch->s.heap.get? b=some o->∃o',h'.get? b=some o')(tups:∀b xs,H b=some (.tup xs)->H' b=some (.tup xs))(frzs:∀b o u,H b=some (.frz o u)->H' b=some (.frz o u))(tbls:∀b ps,H b=some (.tbl ps)->∃aa,H' b=some (.tbl (ps++aa)))(ns:∀m,s.heap.Ns X.env.locals m->h'.Ns X.env.locals m)(ae:HOk X.prog X.w H' h')(hg:AllBare g'):
  Inv X b8 σ H' { s with heap:=h',gens:=g',drawn:=d',toks:=t' }:=by
 have ac:∀b o,X.s₀.heap.get? b=some o->b≠X.env.locals:=λb o e=>zX (yG (zQ e) I.ok.above);have Z:∀b o,X.s₀.heap.get? b=some o->b∉X.ex->b∉ch:=λb o e G hb=>by
  rcases (V b hb).1 with z | z
  .exact G z
  .exact xX (yG (zQ e) z) (wY _)
 have O:∀x c,X.env.cells.lookup x=some c->∀v,s.heap.IsCell c v->h'.IsCell c v:=λx c e v ⟨o,ho,hd⟩=>by
  have W:c∉ch:=λz=>(V c z).2.2.1 x c e rfl;by_cases hc:c∈X.fs
  .obtain⟨sl,q⟩:=slot c o (I.cne x c e) hc W ho (I.freeC x c e);exact⟨_,q,hd⟩
  .exact⟨o,keep c o (I.cne x c e) hc W ho (I.freeC x c e),hd⟩
 refine⟨I.ok,I.os,hg,⟨λb o e n hb G=>?_,λb o e n hb G=>?_,λb o e n G=>?_,λb o e G=>?_,λb xs e=>tups b xs (I.base.tups b xs e),λb o xs e=>frzs b o xs (I.base.frzs b o xs e),λb ps e=>?_⟩,?_,λx c e=>?_,?_,λx c e=>?_,λp hp=>?_,ae,I.len,I.hdh.frzs frzs⟩
 .exact keep b o (ac b o e) hb (Z b o e G) (I.base.keep b o e n hb G) (I.base.free b o e n G)
 .obtain⟨sl,e1⟩:=I.base.slot b o e n hb G;obtain⟨ad,e2⟩:=slot b _ (ac b o e) hb (Z b o e G) e1 (I.base.free b o e n G);exact⟨ad,e2⟩
 .obtain⟨o',e1⟩:=I.base.there b o e G;exact free b o' (Z b o e G) e1 (I.base.free b o e n G)
 .obtain⟨o',e1⟩:=I.base.there b o e G;exact there b o' (Z b o e G) e1
 .obtain⟨m1,e1⟩:=I.base.tbls b ps e;obtain⟨m2,e2⟩:=tbls b _ e1;exact⟨m1++m2,by rw[e2,Array.append_assoc]⟩
 .obtain⟨m,hn,hl⟩:=I.loc;refine⟨m,ns m hn,λi x v e1 e2 e3=>?_⟩;obtain⟨u,r,l⟩:=hl i x v e1 e2 e3;refine⟨u,r,?_⟩;rcases l with l | ⟨k,c,e,z⟩
  .exact .inl l
  .exact .inr ⟨k,c,e,O x c e _ z⟩
 .obtain⟨v,z⟩:=I.cell x c e;exact⟨v,O x c e v z⟩
 .obtain⟨m,⟨o,_,_,ho,_⟩,_⟩:=I.loc;exact free _ o (λz=>(V _ z).2.1 rfl) ho I.free
 .obtain⟨v,o,ho,hd⟩:=I.cell x c e;exact free c o (λz=>(V c z).2.2.1 x c e rfl) ho (I.freeC x c e)
 .obtain⟨e,n,ne,nf,d⟩:=I.pin p hp;have W:p.1∉ch:=λz=>(V p.1 z).2.2.2 p hp rfl;exact⟨keep p.1 p.2 ne nf W e n,free p.1 p.2 W e n,ne,nf,d⟩
theorem Inv.un(I:Inv X b8 σ H s)(u:Un X.fs [] H H' s.heap h')(W:HOk X.prog X.w H' h'):Inv X b8 σ H' { s with heap:=h',toks:=t' }:=by
 obtain⟨m,⟨o,es,ep,ho,r⟩,_⟩:=id I.loc;obtain⟨sl,hL⟩:=u.any ho I.free (by simp)
 exact I.step (g':=s.gens) (d':=s.drawn) (ch:=[]) (λ_ z=>nomatch z) (λb o _ O _ e n=>u.keep b o e n O (by simp)) (λb o _ O _ e n=>u.slot b o e n O (by simp)) (λb o _ e n=>u.free b o e n (by simp)) (λb o _ e=>u.there b o e (by simp)) u.tups u.frzs u.tbls (λm' hm=>by
  obtain⟨o',Z,V,G,r'⟩:=hm;rw[ho] at G;cases G;exact⟨_,Z,V,hL,r'⟩) W I.bare
theorem Inv.call{g':Array GenState}{d':Drawn}(I:Inv X b8 σ H s)(u:Un (frs X.stack) ch H H' s.heap h')(Z:HOk X.prog X.w H' h')(hg:AllBare g')(V:∀b∈ch,(b∈X.ex∨X.s₀.heap.objs.size<=b)/\b≠X.env.locals/\(∀x c,X.env.cells.lookup x=some c->c≠b)/\∀p∈X.pn++b8,p.1≠b):
  Inv X b8 σ H' { s with heap:=h',gens:=g',drawn:=d',toks:=t' }:=by
 obtain⟨m,⟨o,es,ep,ho,r⟩,_⟩:=id I.loc;obtain⟨sl,hL⟩:=u.any ho I.free λz=>(V _ z).2.1 rfl;exact I.step (ch:=ch) V (λb o hL hb G e n=>u.keep b o e n (λz=>(yF.mp (I.stkSub b z)).elim hL hb) G) (λb o _ _ G e n=>u.any e n G) (λb o G e n=>u.free b o e n G) (λb o G e=>u.there b o e G) u.tups u.frzs u.tbls (λm' hm=>by
  obtain⟨o',aa,W,O,r'⟩:=hm;rw[ho] at O;cases O;exact⟨_,aa,W,hL,r'⟩) Z hg
theorem Inv.turned(I:Inv X b8 σ H s)(k:∀b o,b≠it->s.heap.get? b=some o->h'.get? b=some o)(Z:H it=none)(V:it≠X.env.locals)(h1:it∈X.ex∨X.s₀.heap.objs.size<=it)(h2:∀x c,X.env.cells.lookup x=some c->c≠it)(h3:∀p∈X.pn++b8,p.1≠it):Inv X b8 σ H { s with heap:=h',toks:=t' }:=by
 have O:∀b u,H b=some u->b≠it:=λb u e z=>by rw[z,Z] at e;cases e
 refine I.step (g':=s.gens) (d':=s.drawn) (ch:=[it]) (λb W=>?_) (λb o _ _ G e _=>k b o (λz=>G (by simp[z])) e) (λb o _ _ G e _=>⟨o.slots,k b o (λz=>G (by simp[z])) e⟩) (λ_ _ _ _ n=>n)
  (λb o G e=>⟨o,k b o (λz=>G (by simp[z])) e⟩) (λ_ _ e=>e) (λ_ _ _ e=>e) (λb ps e=>⟨#[],by rw[e];simp⟩) (λm hm=>?_) (λb u e=>?_) I.bare
 .have e:b=it:=by simpa using W
  subst e;exact⟨h1,V,h2,h3⟩
 .obtain⟨o,es,ep,ho,r⟩:=hm;exact⟨o,es,ep,k _ o (Ne.symm V) ho,r⟩
 .refine(I.hok b u e).stay (λc v G q=>k c v ?_ q) (λ_ q=>q) λ_ _ q=>q;rcases G with z | z
  .rw[z];exact O b u e
  .exact O c _ z
theorem Inv.tok(I:Inv X b8 σ H s)(t:Nat):Inv X b8 σ H { s with toks:=t }:=I.un (h':=s.heap) (t':=t) Un.refl I.hok
theorem Inv.kept{t':Nat}(I:Inv X b8 σ H s)(k:∀b u,s.heap.get? b=some u->h'.get? b=some u):Inv X b8 σ H { s with heap:=h',toks:=t' }:=I.un (Un.kept k) (I.hok.kept k)
theorem Inv.laid{a:Ab}{o:HO}{t':Nat}(I:Inv X b8 σ H s)(k:∀b u,s.heap.get? b=some u->h'.get? b=some u)(O:s.heap.objs.size<=a)(G:ObjOk X.prog X.w (upd H a o) h' a o):
  Inv X b8 σ (upd H a o) { s with heap:=h',toks:=t' }:=I.un (Un.laid k O (I.hok.fresh O)) (I.hok.laid k O G)
theorem Inv.write{x e:Ab}{o:HO}{t':Nat}(I:Inv X b8 σ H s)(W:Mut (H x))(V:e=x∨H e=some (.own x))(k:∀b u,b≠e->s.heap.get? b=some u->h'.get? b=some u)(G:∃u,h'.get? e=some u)(O:ObjOk X.prog X.w (upd H x o) h' x o):Inv X b8 σ (upd H x o) { s with heap:=h',toks:=t' }:=I.un (Un.write W V k G) (I.hok.write W V k G O)
theorem Inv.pins_of{G:List (Ab×Obj)}(I:Inv X b8 σ H s)(h:∀p∈G,s.heap.get? p.1=some p.2/\H p.1=none/\p.1≠X.env.locals/\p.1∉X.fs/\∀v,p.2.data ≠ .cell v):Inv X G σ H s :=
 ⟨I.ok,I.os,I.bare,I.base,I.loc,I.cell,I.free,I.freeC,λp O=>(yC.mp O).elim (λz=>I.pin p (xG _ z)) (h p),I.hok,I.len,I.hdh⟩
theorem MP(G:N.Nodup)(a:N[i]?=some x)(b:N[j]?=some x):i=j:=by
 obtain⟨h1,e1⟩:=zT.mp a;obtain⟨h2,e2⟩:=zT.mp b;exact(List.getElem_inj G).mp (e1.trans e2.symm)
theorem Wf{M:Model}{v:V}{Q:Unit->Ac->Prop}(I:Inv X b8 σ H s)(hN:X.N.Nodup)(hi:X.N[i]?=some x)(W:Loc X.env.scope x)(r:RelV v u)(h:∀s',Inv X b8 (σ.set i (some v)) H s'->(∃a,Heap.SameBut a s.heap s'.heap/\(a=X.env.locals∨X.env.cells.lookup x=some a))->Q () s')(hf:X.fn x=true∨X.env.scope.names.lookup x=some .local:=by first | exact .inl rfl | exact .inr rfl | assumption):wpAny M A (storeName X.env x u) Q E s:=by
 obtain⟨m,hn,hl⟩:=id I.loc;have ai:(X.env.scope.kind == .class || (X.env.scope.kind == .module&&X.env.locals != X.env.globals))=false:=by rw[I.ok.kind];rfl
 have af:i<σ.length:=by rw[I.len];exact(zT.mp hi).1
 have ac:=I.cne;have G:∀{a:Ab} {h':Heap},(∃o,s.heap.get? a=some o/\H a=none)->Heap.SameBut a s.heap h'->HOk X.prog X.w H h':=λ{a h'} ha hs b ob e=>by
  obtain⟨_,_,Z⟩:=ha;refine(I.hok b ob e).stay (λc w' O q=>(hs.2 c ?_).trans q) (λ_ q=>q) λ_ _ q=>q;rintro rfl;rcases O with rfl | O
  .rw[Z] at e;cases e
  .rw[Z] at O;cases O
 rcases W with hk | hk
 .refine wpAny_storeName_local hk hn (λh' aj hs=>?_) ai;obtain⟨oL,_,_,ak,_⟩:=id hn;refine h _ ⟨I.ok,I.os,I.bare,⟨λb o e n hb W=>?_,λb o e n hb W=>?_,I.base.free,λb o e W=>?_,I.base.tups,I.base.frzs,I.base.tbls⟩,⟨_,aj,λj y v' e1 e2 e3=>?_⟩,λy c e=>?_,I.free,I.freeC,λp hp=>?_,G ⟨oL,ak,I.free⟩ hs,by simpa using I.len,I.hdh⟩ ⟨_,hs,.inl rfl⟩
  .exact(hs.2 b (zX (yG (zQ e) I.ok.above))).trans (I.base.keep b o e n hb W)
  .obtain⟨sl,e1⟩:=I.base.slot b o e n hb W;exact⟨sl,(hs.2 b (zX (yG (zQ e) I.ok.above))).trans e1⟩
  .obtain⟨o',e1⟩:=I.base.there b o e W;exact⟨o',(hs.2 b (zX (yG (zQ e) I.ok.above))).trans e1⟩
  .by_cases hj:j=i
   .subst hj;rw[hi] at e1;cases e1;rw[uI af] at e2;cases e2;exact⟨u,r,.inl ⟨hk,by simp⟩⟩
   .rw[qY (Ne.symm hj)] at e2;obtain⟨u',r',q⟩:=hl j y v' e1 e2 e3;refine⟨u',r',?_⟩;rcases q with ⟨k,e⟩ | ⟨k,c,e,z⟩
    .refine .inl ⟨k,?_⟩
     have:y≠x:=λe=>hj (MP hN e1 (e▸hi))
     simp[this,e]
    .exact .inr ⟨k,c,e,z.sameBut hs (ac y c e)⟩
  .obtain⟨w',z⟩:=I.cell y c e;exact⟨w',z.sameBut hs (ac y c e)⟩
  .obtain⟨e,n,ne,nf,d⟩:=I.pin p hp;exact⟨(hs.2 p.1 ne).trans e,n,ne,nf,d⟩
 .have aa:X.fn x=true:=by
   rcases hf with z | z
   .exact z
   .rw[z] at hk;cases hk
  obtain⟨c,O⟩:=I.ok.has x (.inl hk);obtain⟨w',z⟩:=I.cell x c O;refine wpAny_storeName_cell I.ok.kind hk O z (λh' ad hs=>?_);obtain⟨oc,ah,ag⟩:=id z;refine h { s with heap:=h' } ⟨I.ok,I.os,I.bare,⟨λb o e n hb W=>?_,λb o e n hb W=>?_,I.base.free,λb o e W=>?_,I.base.tups,I.base.frzs,I.base.tbls⟩,⟨m,hn.sameBut hs (Ne.symm (ac x c O)),λj y v' e1 e2 e3=>?_⟩,λy c' e=>?_,I.free,I.freeC,λp hp=>?_,G ⟨oc,ah,I.freeC x c O⟩ hs,by simpa using I.len,I.hdh⟩ ⟨c,hs,.inr O⟩
  .exact(hs.2 b (zX (yG (zQ e) (I.ok.cab x c aa O)))).trans (I.base.keep b o e n hb W)
  .obtain⟨sl,e1⟩:=I.base.slot b o e n hb W;exact⟨sl,(hs.2 b (zX (yG (zQ e) (I.ok.cab x c aa O)))).trans e1⟩
  .obtain⟨o',e1⟩:=I.base.there b o e W;exact⟨o',(hs.2 b (zX (yG (zQ e) (I.ok.cab x c aa O)))).trans e1⟩
  .by_cases hj:j=i
   .subst hj;rw[hi] at e1;cases e1;rw[uI af] at e2;cases e2;exact⟨u,r,.inr ⟨.inl hk,c,O,ad⟩⟩
   .rw[qY (Ne.symm hj)] at e2;obtain⟨u',r',q⟩:=hl j y v' e1 e2 e3;refine⟨u',r',?_⟩;rcases q with q | ⟨k,c',e,z'⟩
    .exact .inl q
    .refine .inr ⟨k,c',e,z'.sameBut hs ?_⟩;rintro rfl;exact hj (MP hN e1 (I.ok.inj _ _ _ e O▸hi))
  .by_cases ae:c'=c
   .subst ae;exact⟨_,ad⟩
   .obtain⟨w2,z2⟩:=I.cell y c' e;exact⟨w2,z2.sameBut hs ae⟩
  .obtain⟨e,n,ne,nf,d⟩:=I.pin p hp;refine⟨(hs.2 p.1 ?_).trans e,n,ne,nf,d⟩;intro q;rw[q,ah] at e;have q':oc=p.2:=Option.some.inj e;exact d w' (by rw[<-q'];exact ag)
theorem J6{M:Model}{v:V}{Q:Unit->Ac->Prop}(I:Inv X b8 σ H s)(G:X.N.Nodup)(hi:X.N[i]?=some x)(O:Loc X.env.scope x)(r:RelV v u)(h:∀s',Inv X b8 (σ.set i (some v)) H s'->Q () s')(Z:X.fn x=true∨X.env.scope.names.lookup x=some .local:=by first | exact .inl rfl | exact .inr rfl | assumption):wpAny M A (storeName X.env x u) Q E s :=
 Wf I G hi O r (λs' W _=>h s' W) Z
theorem Inv.call'{s':Ac}(I:Inv X b8 σ H s)(Z:s'.os=s.os)(u:Un (frs X.stack) ch H H' s.heap s'.heap)(O:HOk X.prog X.w H' s'.heap)(hg:AllBare s'.gens)(G:∀b∈ch,(b∈X.ex∨X.s₀.heap.objs.size<=b)/\b≠X.env.locals/\(∀x c,X.env.cells.lookup x=some c->c≠b)/\∀p∈X.pn++b8,p.1≠b):Inv X b8 σ H' s':=by
 obtain⟨h',W,V,t',o'⟩:=s';have e:o'=s.os:=Z;subst e;exact I.call (g':=W) (t':=t') (d':=V) u O hg G
end
abbrev XK:=Aa->Option Ab->Hp->Prop
abbrev St:=List (Option V)
abbrev VK:=V->Hp->Prop
abbrev TE:=St->Hp->VK->Prop
abbrev TT:=St->Hp->(Bool->Hp->Prop)->Prop
abbrev TA:=St->Hp->(List V->Hp->Prop)->Prop
structure Ends where
 nx:St->Hp->Prop
 rt:VK
 bk:St->Hp->Prop:=λ_ _=>False
 ct:St->Hp->Prop:=λ_ _=>False
abbrev TS:=Ends->St->Hp->Prop
def EP (X:Cx)(b8:List (Ab×Obj))(σ:St)(Q:VK)(u:Aa)(s':Ac):Prop:=∃v H',Inv X b8 σ H' s'/\RelV v u/\Q v H'
def TP (X:Cx)(b8:List (Ab×Obj))(σ:St)(Q:Bool->Hp->Prop)(b:Bool)(s':Ac):Prop:=∃H',Inv X b8 σ H' s'/\Q b H'
def AP (X:Cx)(b8:List (Ab×Obj))(σ:St)(Q:List V->Hp->Prop)(us:List Aa)(s':Ac):Prop:=∃vs H',Inv X b8 σ H' s'/\Vals vs us/\Q vs H'
def SP (X:Cx)(b8:List (Ab×Obj))(D:Ends)(f:Flow)(s':Ac):Prop :=
 match f with
 | .next=>∃ σ' H',Inv X b8 σ' H' s'/\D.nx σ' H'
 | .brk=>∃ σ' H',Inv X b8 σ' H' s'/\D.bk σ' H'
 | .cont=>∃ σ' H',Inv X b8 σ' H' s'/\D.ct σ' H'
 | .ret u=>∃v σ' H',Inv X b8 σ' H' s'/\RelV v u/\D.rt v H'
def PE (X:Cx)(e:Ah)(t:TE):Prop :=
 ∀(b8:List (Ab×Obj)) (s:Ac) (σ:St) (H:Hp) (Q:VK),Inv X b8 σ H s->t σ H Q->wpAny (model X.prog X.w) X.A (eval e X.env) (EP X b8 σ Q) X.xe s
def PT (X:Cx)(e:Ah)(t:TT):Prop :=
 ∀(b8:List (Ab×Obj)) (s:Ac) (σ:St) (H:Hp) (Q:Bool->Hp->Prop),Inv X b8 σ H s->t σ H Q->wpAny (model X.prog X.w) X.A (isTrue e X.env (eval e X.env)) (TP X b8 σ Q) X.xe s
def PW (X:Cx)(e:Ah)(t:TT):Prop :=
 ∀(whole:Sem Aa) (b8:List (Ab×Obj)) (s:Ac) (σ:St) (H:Hp) (Q:Bool->Hp->Prop),Inv X b8 σ H s->t σ H Q->wpAny (model X.prog X.w) X.A (isTrue e X.env whole) (TP X b8 σ Q) X.xe s
theorem PW.pt{X:Cx}{t:TT}(h:PW X e t):PT X e t:=h _
def PA (X:Cx)(es:List Ah)(t:TA):Prop :=
 ∀(pos:Pos) (b8:List (Ab×Obj)) (s:Ac) (σ:St) (H:Hp) (Q:List V->Hp->Prop),Inv X b8 σ H s->t σ H Q->wpAny (model X.prog X.w) X.A (spliced (Ao pos (zG es X.env))) (AP X b8 σ Q) X.xe s
def PS (X:Cx)(st:Ai)(t:TS):Prop :=
 ∀(b8:List (Ab×Obj)) (s:Ac) (σ:St) (H:Hp) (D:Ends),Inv X b8 σ H s->t D σ H->wpAny (model X.prog X.w) X.A (exec st X.env) (SP X b8 D) X.xe s
def PSs (X:Cx)(st:List Ai)(t:TS):Prop :=
 ∀(b8:List (Ab×Obj)) (s:Ac) (σ:St) (H:Hp) (D:Ends),Inv X b8 σ H s->t D σ H->wpAny (model X.prog X.w) X.A (execs st X.env) (SP X b8 D) X.xe s
theorem thn{α:Type}{t:Sem α}{Q Q':α->Ac->Prop}{M:Model}{s:Ac}(h:wpAny M A t Q E s)(G:∀a s,Q a s->Q' a s):wpAny M A t Q' E s:=zC h G λ_ _ x=>x
section
variable {X:Cx}
inductive TVar(i:Nat)(σ:St)(H:Hp)(Q:VK):Prop
 | mk (v:V) (e:σ[i]?=some (some v)) (h:Q v H):TVar i σ H Q
def tVar (i:Nat):TE:=λσ H Q=>TVar i σ H Q
def tC (v:V):TE:=λ_ H Q=>Q v H
theorem LQ(hN:X.N[i]?=some x)(hv:Vis X.env.scope x)(W:(x==("__debug__":Str))=false:=by decide)(Z:(x==("__classdict__":Str))=false:=by decide):PE X (.Name x pos) (tVar i):=by
 intro b8 s σ H Q I h;obtain⟨v,e,h⟩:=h;obtain⟨m,hn,hl⟩:=I.loc;obtain⟨u,r,l⟩:=hl i x v hN e hv;have O:EP X b8 σ Q u s:=⟨v,H,I,r,h⟩;rcases l with ⟨V,hm⟩ | ⟨V,c,hc,G⟩
 .exact wpAny_Name (wpAny_loadName_local I.ok.kind V hn hm O) W
 .rcases V with V | V
  .exact wpAny_Name (wpAny_loadName_cell I.ok.kind V hc G O) W
  .exact wpAny_Name (wpAny_loadName_free I.ok.kind V hc G O Z) W
theorem Z6{i j pos}:PE X (.Constant (.int i) j pos) (tC (.int i)):=λ_ _ _ H _ I h=>wpAny_Constant_int ⟨.int i,H,I.tok _,⟨_,rfl⟩,h⟩
theorem ZI{b j pos}:PE X (.Constant (.bool b) j pos) (tC (.bl b)):=λ_ _ _ H _ I h=>Constant_bool ⟨.bl b,H,I,rfl,h⟩
theorem UU{j pos}:PE X (.Constant .none j pos) (tC .non):=λ_ _ _ H _ I h=>Constant_none ⟨.non,H,I,rfl,h⟩
theorem OY{x j pos}:PE X (.Constant (.str x) j pos) (tC (.str x)):=λ_ _ _ H _ I h=>Calls.Constant_str ⟨.str x,H,I.tok _,⟨_,rfl⟩,h⟩
def Gl (X:Cx)(x:Str):Prop:=X.env.kindOf x=some .globalImplicit
theorem U6{s:Ac}{σ:St}{H:Hp}{Q:Aa->Ac->Prop}(I:Inv X b8 σ H s)(V:Gl X x)(O:X.mg x=some u)(h:Q u s)(G:(x==("__debug__":Str))=false:=by decide):wpAny (model X.prog X.w) X.A (eval (.Name x pos) X.env) Q E s :=
 Calls.Name_function_global I.ok.kind V (Calls.loadGlobal_global (by rw[I.ok.glob];exact I.mod.glob.keeps I.bk) O h) G
theorem JW{s:Ac}{σ:St}{H:Hp}{Q:Aa->Ac->Prop}(I:Inv X b8 σ H s)(Z:Gl X x)(W:X.mg x=none)(G:bootBuiltins x=some u)(h:Q u s)(O:x≠"__name__":=by decide)(V:(x==("__debug__":Str))=false:=by decide):wpAny (model X.prog X.w) X.A (eval (.Name x pos) X.env) Q E s:=by
 obtain⟨mb,h1,h2⟩:=I.mod.blt;exact Calls.Name_function_global I.ok.kind Z (Calls.loadGlobal_builtin (by rw[I.ok.glob];exact I.mod.glob.keeps I.bk) W (by rw[I.ok.blt];exact h1.keeps I.bk) ((h2 x O).trans G) h) V
theorem KH{v:V}(W:Gl X x)(O:X.mg x=some u)(r:RelV v u)(G:(x==("__debug__":Str))=false:=by decide):PE X (.Name x pos) (tC v):=
 λ_ _ _ H _ I h=>U6 I W O ⟨v,H,I,r,h⟩ G
theorem KJ{v:V}(hg:Gl X x)(Z:X.mg x=none)(G:bootBuiltins x=some u)(r:RelV v u)(O:x≠"__name__":=by decide)(W:(x==("__debug__":Str))=false:=by decide):PE X (.Name x pos) (tC v):=
 λ_ _ _ H _ I h=>JW I hg Z G ⟨v,H,I,r,h⟩ O W
variable {a b:Ah}{ta tb:TE}{pos:Pos}
def PC (X:Cx)(op:CmpOp)(a b:Ah)(t:TE):Prop :=
 ∀(b8:List (Ab×Obj)) (s:Ac) (σ:St) (H:Hp) (Q:VK),Inv X b8 σ H s->t σ H Q ->
  wpAny (model X.prog X.w) X.A (eval a X.env) (λv s₁=>wpAny (model X.prog X.w) X.A (eval b X.env) (λu s₂=>wpAny (model X.prog X.w) X.A (Ak op v u) (EP X b8 σ Q) X.xe s₂) X.xe s₁) X.xe s
theorem nobehind(b:Ah){G:CmpOp}(h:G ≠ .In)(h2:G ≠ .NotIn):behindInMarks G b=false:=by
 have e1:(G==CmpOp.In)=false:=by cases G <;> first | rfl | exact xX rfl h
 have e2:(G==CmpOp.NotIn)=false:=by cases G <;> first | rfl | exact xX rfl h2
 cases b <;> simp[behindInMarks,e1,e2]
def Eu(ta:TE):TE:=λσ H Q=>ta σ H λx H1=>Q (.bl (!decide (x = .non))) H1
theorem RelV.none_iff{x:V}{v:Aa}(r:RelV x v):(v==Value.none)=decide (x = .non):=by
 cases x with
 | non=>cases r;rfl
 | bl _=>cases r;rfl
 | int _=>obtain⟨t,rfl⟩:=r;rfl
 | str _=>obtain⟨t,rfl⟩:=r;rfl
 | byt _=>obtain⟨t,rfl⟩:=r;rfl
 | flt _=>obtain⟨t,rfl⟩:=r;rfl
 | ref _=>cases r;rfl
 | ty _=>cases r;rfl
theorem KK{j pos'}(W:PE X a ta):PC X .IsNot a (.Constant .none j pos') (Eu ta):=by
 intro b8 s σ H Q I h;refine thn (W b8 s σ H _ I h) λv s1 G=>?_;obtain⟨x,H1,V,O,q1⟩:=G;exact Constant_none (isnot_none_gen ⟨.bl _,H1,V,by rw[O.none_iff];rfl,q1⟩)
inductive IsB(x:V)(H:Hp)(Q:Bool->Hp->Prop):Prop
 | mk (c:Bool) (e:x = .bl c) (h:Q c H):IsB x H Q
def tB (t:TE):TT:=λσ H Q=>t σ H λx H1=>IsB x H1 Q
theorem LY{G:CmpOp}{t:TE}(h:PC X G a b t)(h1:behindInMarks G b=false:=by first | exact nobehind _ (by decide) (by decide) | rfl):PE X (.Compare a [G] [b] pos) t:=λb8 s σ H Q I O=>wpAny_Compare1 (h b8 s σ H Q I O) h1
theorem Jk{G:CmpOp}{t:TE}(h:PC X G a b t)(h1:behindInMarks G b=false:=by first | exact nobehind _ (by decide) (by decide) | rfl):PT X (.Compare a [G] [b] pos) (tB t):=by
 intro b8 s σ H Q I V;refine wpAny_isTrue_Compare1 (thn (h b8 s σ H _ I V) λv s1 h1=>thn h1 λu s2 h2=>thn h2 λc s3 O=>?_) h1;obtain⟨x,H1,W,Z,q1⟩:=O;obtain⟨d,rfl,q⟩:=q1;cases Z;exact wpAny_truthy_bool ⟨H1,W,q⟩
theorem Zq{t:TE}(h:PE X e t)(V:∀G,isTrue e X.env G=(do let v <- G;standAt e.pos;holding [v] (truthy v)):=by intro _;rfl):PT X e (tB t):=by
 intro b8 s σ H Q I W;refine isTrue_plain (thn (h b8 s σ H _ I W) λv s1 O=>?_) (V _);obtain⟨x,H1,Z,r1,q1⟩:=O;obtain⟨d,rfl,q⟩:=q1;cases r1;exact wpAny_truthy_bool ⟨H1,Z,q⟩
variable {tA tB':TT}{rest:List Ah}
def tAnd (t u:TT):TT:=λσ H Q=>t σ H λc H1=>if c=true then u σ H1 Q else Q false H1
def tOr (t u:TT):TT:=λσ H Q=>t σ H λc H1=>if c=true then Q true H1 else u σ H1 Q
def tNot (t:TT):TT:=λσ H Q=>t σ H λc H1=>Q (!c) H1
theorem Vb(G:PT X a tA):PW X (.BoolOp .And [a] pos) tA:=by
 intro O b8 s σ H Q I h;refine isTrue_and (thn (G b8 s σ H Q I h) λc s1 e=>?_);cases c with
 | true=>exact isTrue_and_nil e
 | false=>exact e
theorem YM(G:PT X a tA):PW X (.BoolOp .Or [a] pos) tA:=by
 intro O b8 s σ H Q I h;refine isTrue_or (thn (G b8 s σ H Q I h) λc s1 e=>?_);cases c with
 | false=>exact isTrue_or_nil e
 | true=>exact e
theorem Q9(Z:PT X a tA)(W:PW X (.BoolOp .And (b::rest) pos) tB'):PW X (.BoolOp .And (a::b::rest) pos) (tAnd tA tB'):=by
 intro V b8 s σ H Q I h;refine isTrue_and (thn (Z b8 s σ H _ I h) λc s1 G=>?_);obtain⟨H1,O,q1⟩:=G;cases c with
 | true=>exact W V b8 s1 σ H1 Q O q1
 | false=>exact⟨H1,O,q1⟩
theorem Ji(Z:PT X a tA)(W:PW X (.BoolOp .Or (b::rest) pos) tB'):PW X (.BoolOp .Or (a::b::rest) pos) (tOr tA tB'):=by
 intro V b8 s σ H Q I h;refine isTrue_or (thn (Z b8 s σ H _ I h) λc s1 G=>?_);obtain⟨H1,O,q1⟩:=G;cases c with
 | true=>exact⟨H1,O,q1⟩
 | false=>exact W V b8 s1 σ H1 Q O q1
theorem Zy(G:PT X a tA):PT X (.UnaryOp .Not a pos) (tNot tA):=by
 intro b8 s σ H Q I h;exact isTrue_not (G b8 s σ H (λc H1=>Q (!c) H1) I h)
inductive IsA(x:V)(P R:Prop):Prop
 | mk (c:Bool) (e:x = .bl c) (h:if c=true then P else R):IsA x P R
def Ex(ta tb:TE):TE:=λσ H Q=>ta σ H λx H1=>IsA x (tb σ H1 Q) (Q (.bl false) H1)
def tOrV (ta tb:TE):TE:=λσ H Q=>ta σ H λx H1=>∃c,x = .bl c/\if c=true then Q (.bl true) H1 else tb σ H1 Q
def Et(ta:TE):TE:=λσ H Q=>ta σ H λx H1=>∃c,x = .bl c/\Q (.bl (!c)) H1
theorem Y8{op}{t:TE}(h:PE X a t):PE X (.BoolOp op [a] pos) t:=λb8 s σ H Q I G=>BoolOp_one (h b8 s σ H Q I G)
theorem Y1(Z:PE X a ta)(V:PE X (.BoolOp .And (b::rest) pos) tb):PE X (.BoolOp .And (a::b::rest) pos) (Ex ta tb):=by
 intro b8 s σ H Q I h;refine BoolOp_and (thn (Z b8 s σ H _ I h) λv s1 G=>?_);obtain⟨x,H1,O,W,q1⟩:=G;obtain⟨c,rfl,q1⟩:=q1;cases W;refine wpAny_truthy_bool ?_;cases c with
 | true=>exact V b8 s1 σ H1 Q O q1
 | false=>exact⟨.bl false,H1,O,rfl,q1⟩
theorem EC(Z:PE X a ta)(V:PE X (.BoolOp .Or (b::rest) pos) tb):PE X (.BoolOp .Or (a::b::rest) pos) (tOrV ta tb):=by
 intro b8 s σ H Q I h;refine BoolOp_or (thn (Z b8 s σ H _ I h) λv s1 G=>?_);obtain⟨x,H1,O,W,q1⟩:=G;obtain⟨c,rfl,q1⟩:=q1;cases W;refine wpAny_truthy_bool ?_;cases c with
 | false=>exact V b8 s1 σ H1 Q O q1
 | true=>exact⟨.bl true,H1,O,rfl,q1⟩
theorem Qb(W:PE X a ta):PE X (.UnaryOp .Not a pos) (Et ta):=by
 intro b8 s σ H Q I h;refine UnaryOp_ (thn (W b8 s σ H _ I h) λv s1 G=>?_);obtain⟨x,H1,V,O,q1⟩:=G;obtain⟨c,rfl,q1⟩:=q1;cases O;exact not_of (wpAny_truthy_bool ⟨.bl (!c),H1,V,rfl,q1⟩)
def tIf (t:TT)(ta tb:TE):TE:=λσ H Q=>t σ H λc H1=>if c=true then ta σ H1 Q else tb σ H1 Q
theorem Ur(W:PT X c tA)(Z:PE X a ta)(V:PE X b tb):PE X (.IfExp c a b pos) (tIf tA ta tb):=by
 intro b8 s σ H Q I h;refine wpAny_IfExp (thn (W b8 s σ H _ I h) λd s1 G=>?_);obtain⟨H1,O,q1⟩:=G;cases d with
 | true=>exact Z b8 s1 σ H1 Q O q1
 | false=>exact V b8 s1 σ H1 Q O q1
end
def SqL (K:Frag)(H:Hp)(a:Ab)(xs:List V):Prop :=
 Rd H a (.lst xs) ∨
  ∃(o:Obj) (c9:Array Aa) (n:Nat),K.lookup a=some o/\o.cls = .type "list"/\o.dict=none/\o.data = .seq c9 n/\c9.size<=zF/\Vals xs c9.toList
def SqT (K:Frag)(H:Hp)(a:Ab)(xs:List V):Prop :=
 Rd H a (.tup xs) ∨
  ∃(o:Obj) (c9:Array Aa) (n:Nat),K.lookup a=some o/\o.cls = .type "tuple"/\o.data = .seq c9 n/\c9.size<=zF/\Vals xs c9.toList
def absV:Aa->Option V
 | .none=>some .non
 | .bool b=>some (.bl b)
 | .int i _=>some (.int i)
 | .str x _=>some (.str x)
 | .bytes b _=>some (.byt b)
 | .float b _=>some (.flt b)
 | .ref a=>some (.ref a)
 | .type n=>some (.ty n)
 | _=>none
theorem RelV.abs{x:V}(r:RelV x u):absV u=some x:=by
 cases x with
 | non=>cases r;rfl
 | bl _=>cases r;rfl
 | int _=>obtain⟨t,rfl⟩:=r;rfl
 | str _=>obtain⟨t,rfl⟩:=r;rfl
 | byt _=>obtain⟨t,rfl⟩:=r;rfl
 | flt _=>obtain⟨t,rfl⟩:=r;rfl
 | ref _=>cases r;rfl
 | ty _=>cases r;rfl
theorem RelV.inj{x y:V}{u:Aa}(r:RelV x u)(q:RelV y u):x=y:=Option.some.inj (r.abs.symm.trans q.abs)
theorem Vals.inj:∀{xs ys:List V} {us:List Aa},Vals xs us->Vals ys us->xs=ys
 | _,_,_,.nil,.nil=>rfl
 | _,_,_,.cons r t,.cons r' t'=>by rw[r.inj r',Vals.inj t t']
section
variable {X:Cx}{b8:List (Ab×Obj)}{σ:St}{H:Hp}{s:Ac}{a:Ab}{xs ys:List V}
theorem Z8(h:H a=some (.lst xs)):SqL K H a xs:=.inl (.inl h)
theorem Zo(h:H a=some (.tup xs)):SqT K H a xs:=.inl (.inl h)
theorem Inv.list(I:Inv X b8 σ H s)(h:SqL X.K H a xs):∃c9:List Aa,Vals xs c9/\PlainL s.heap a c9.toArray/\xs.length<=zF:=by
 rcases h with h | ⟨o,c9,n,V,O,G,hs,W,r⟩
 .obtain⟨z,c9,n,r,e⟩:=h.ok I.hok;exact⟨c9,r,⟨_,n,e,rfl,rfl,rfl⟩,z⟩
 .refine⟨c9.toList,r,⟨o,n,I.kIn a o V,O,G,by simpa using hs⟩,?_⟩
  have e:=r.length;simp only[yD] at e;lia
theorem Inv.tuple(I:Inv X b8 σ H s)(h:SqT X.K H a xs):∃c9:List Aa,Vals xs c9/\IsTup s.heap a c9.toArray/\xs.length<=zF:=by
 rcases h with h | ⟨o,c9,n,O,G,hs,V,r⟩
 .obtain⟨z,c9,r,p⟩:=h.ok I.hok;exact⟨c9,r,p,z⟩
 .refine⟨c9.toList,r,⟨o,I.kIn a o O,G,n,by simpa using hs⟩,?_⟩
  have e:=r.length;simp only[yD] at e;lia
theorem Inv.list_inj(I:Inv X b8 σ H s)(h:SqL X.K H a xs)(h':SqL X.K H a ys):xs=ys:=by
 obtain⟨c9,r,⟨o,n,e,_,_,d⟩,_⟩:=I.list h;obtain⟨its',V,⟨o',W,O,_,_,G⟩,_⟩:=I.list h';rw[e] at O;cases O;rw[d] at G;injection G with d1 _
 have:c9=its':=by simpa using xQ Array.toList d1
 subst this;exact r.inj V
theorem Inv.tuple_inj(I:Inv X b8 σ H s)(h:SqT X.K H a xs)(h':SqT X.K H a ys):xs=ys:=by
 obtain⟨c9,r,⟨o,e,_,n,d⟩,_⟩:=I.tuple h;obtain⟨its',V,⟨o',O,_,W,G⟩,_⟩:=I.tuple h';rw[e] at O;cases O;rw[d] at G;injection G with d1 _
 have:c9=its':=by simpa using xQ Array.toList d1
 subst this;exact r.inj V
end
abbrev Cx.wish(X:Cx)(E:Aa->Ac->Prop):Cx:={ X with xe:=E }
abbrev Cx.nox(X:Cx):Cx:=X.wish λ_ _=>False
theorem Cx.Ok.wish{X:Cx}(G:X.Ok)(E:Aa->Ac->Prop):(X.wish E).Ok :=
 ⟨G.mod,G.kind,G.glob,G.blt,G.above,G.inj,G.has,G.cab,G.hd,G.frames,G.stk,G.exf,G.bs,G.bsz,G.noex,G.exfs,G.funs,G.frf⟩
theorem Cx.Ok.unwish{X:Cx}(G:(X.wish E).Ok):X.Ok :=
 ⟨G.mod,G.kind,G.glob,G.blt,G.above,G.inj,G.has,G.cab,G.hd,G.frames,G.stk,G.exf,G.bs,G.bsz,G.noex,G.exfs,G.funs,G.frf⟩
section
variable {X:Cx}{b8:List (Ab×Obj)}{σ:St}{H:Hp}{s:Ac}{E:Aa->Ac->Prop}
theorem Inv.wish(I:Inv X b8 σ H s)(E:Aa->Ac->Prop):Inv (X.wish E) b8 σ H s:=⟨I.ok.wish E,I.os,I.bare,I.base,I.loc,I.cell,I.free,I.freeC,I.pin,I.hok,I.len,I.hdh⟩
theorem Inv.unwish(I:Inv (X.wish E) b8 σ H s):Inv X b8 σ H s:=⟨I.ok.unwish,I.os,I.bare,I.base,I.loc,I.cell,I.free,I.freeC,I.pin,I.hok,I.len,I.hdh⟩
theorem SP.unwish{D:Ends}{f:Flow}{s':Ac}(h:SP (X.wish E) b8 D f s'):SP X b8 D f s':=by
 cases f with
 | next=>obtain⟨G,H',I,q⟩:=h;exact⟨G,H',I.unwish,q⟩
 | brk=>obtain⟨G,H',I,q⟩:=h;exact⟨G,H',I.unwish,q⟩
 | cont=>obtain⟨G,H',I,q⟩:=h;exact⟨G,H',I.unwish,q⟩
 | ret u=>obtain⟨v,G,H',I,r,q⟩:=h;exact⟨v,G,H',I.unwish,r,q⟩
theorem PSs.nox{st:List Ai}{t:TS}(h:PSs X.nox st t):PSs X st t:=λb8 s σ H D I G =>
 zC (h b8 s σ H D (I.wish _) G) (λ_ _ q=>q.unwish) λ_ _ z=>False.elim z
end
section
variable {X:Cx}{st:Ai}{rest:List Ai}{t u:TS}{e:Ah}{te:TE}{pos:Pos}
def Oi:TS:=λD σ H=>D.nx σ H
def tSeq (t u:TS):TS:=λD σ H=>t { D with nx:=u D } σ H
theorem Zh:PSs X [] Oi:=λ_ _ σ H _ I h=>wpAny_execs_nil ⟨σ,H,I,h⟩
theorem Z4(h1:PS X st t)(h2:PSs X rest u):PSs X (st::rest) (tSeq t u):=by
 intro b8 s σ H D I h;refine wpAny_execs_cons (thn (h1 b8 s σ H { D with nx:=u D } I h) λf s1 q=>?_)
 cases f with
 | next =>
  obtain⟨G,H',O,q⟩:=q;exact h2 b8 s1 G H' D O q
 | ret v=>exact q
 | brk=>exact q
 | cont=>exact q
theorem Z7(h1:PS X st t):PSs X [st] t:=by
 intro b8 s σ H D I h;refine wpAny_execs_cons (thn (h1 b8 s σ H D I h) λf s1 q=>?_);cases f with
 | next=>exact wpAny_execs_nil q
 | ret v=>exact q
 | brk=>exact q
 | cont=>exact q
theorem Inv.quiet{σ:St}{H:Hp}{s:Ac}(I:Inv X b8 σ H s):interactive X.env=false:=by simp[interactive,I.ok.kind]
def Ev(te:TE):TS:=λD σ H=>te σ H λ_ H1=>D.nx σ H1
theorem ZP(O:PE X e te)(hs:swapsWith e none pos.line X.env=pure false:=by rfl):PS X (.Expr e pos) (Ev te):=by
 intro b8 s σ H D I h;refine wpAny_Expr_any (thn (O b8 s σ H _ I h) λv s1 G=>?_) I.quiet hs;obtain⟨x,H1,V,W,q1⟩:=G;exact⟨σ,H1,V,q1⟩
def tRet (te:TE):TS:=λD σ H=>te σ H D.rt
theorem Ze(O:PE X e te):PS X (.Return (some e) pos) (tRet te):=by
 intro b8 s σ H D I h;refine wpAny_Return_some (thn (O b8 s σ H _ I h) λv s1 G=>?_);obtain⟨x,H1,W,V,q1⟩:=G;exact⟨x,σ,H1,W,V,q1⟩
def tIfS (c:TT)(t u:TS):TS:=λD σ H=>c σ H λb H1=>if b=true then t D σ H1 else u D σ H1
theorem Zw{a b:List Ai}{tc:TT}(W:PT X c tc)(Z:PSs X a t)(V:PSs X b u):PS X (.If c a b pos) (tIfS tc t u):=by
 intro b8 s σ H D I h;refine wpAny_If (thn (W b8 s σ H _ I h) λd s1 G=>?_);obtain⟨H1,O,q1⟩:=G;cases d with
 | true=>exact Z b8 s1 σ H1 D O q1
 | false=>exact V b8 s1 σ H1 D O q1
def OJ:TS:=λ_ _ _=>False
theorem Up{G:List Ai}:PSs X G OJ:=λ_ _ _ _ _ _ h=>h.elim
end
abbrev TG:=V->St->Hp->(St->Hp->Prop)->Prop
abbrev TGs:=List V->St->Hp->(St->Hp->Prop)->Prop
def PG (X:Cx)(target:Ah)(t:TG):Prop :=
 ∀(b8:List (Ab×Obj)) (s:Ac) (σ:St) (H:Hp) (v:V) (u:Aa) (Q:St->Hp->Prop),Inv X b8 σ H s->RelV v u->t v σ H Q ->
  wpAny (model X.prog X.w) X.A (assign target X.env u) (λ_ s'=>∃ σ' H',Inv X b8 σ' H' s'/\Q σ' H') X.xe s
def PGs (X:Cx)(ts:List Ah)(t:TGs):Prop :=
 ∀(b8:List (Ab×Obj)) (s:Ac) (σ:St) (H:Hp) (vs:List V) (us:List Aa) (Q:St->Hp->Prop),Inv X b8 σ H s->Vals vs us->t vs σ H Q ->
  wpAny (model X.prog X.w) X.A (assignInOrder ((assignEach ts X.env).map (·.2)) us) (λ_ s'=>∃ σ' H',Inv X b8 σ' H' s'/\Q σ' H') X.xe s
abbrev TSet:=V->V->V->Hp->(Hp->Prop)->Prop
def PSet (X:Cx)(t:TSet):Prop :=
 ∀(b8:List (Ab×Obj)) (s:Ac) (σ:St) (H:Hp) (o i v:V) (ov iv u:Aa) (Q:Hp->Prop),Inv X b8 σ H s->RelV o ov->RelV i iv->RelV v u->t o i v H Q ->
  wpAny (model X.prog X.w) X.A (setItem ov iv u) (λ_ s'=>∃H',Inv X b8 σ H' s'/\Q H') X.xe s
section
variable {X:Cx}{pos:Pos}
def V0(i:Nat):TG:=λv σ H Q=>Q (σ.set i (some v)) H
theorem VN(G:X.N.Nodup)(hi:X.N[i]?=some x)(O:Loc X.env.scope x)(W:X.fn x=true∨X.env.scope.names.lookup x=some .local:=by first | exact .inl rfl | exact .inr rfl | assumption):PG X (.Name x pos) (V0 i):=by
 intro b8 s σ H v u Q I r h;exact wpAny_assign_Name (J6 I G hi O r (λs' V=>⟨_,H,V,h⟩) W)
def gNil:TGs:=λvs σ H Q=>vs=[]/\Q σ H
def EN(t:TG)(u:TGs):TGs:=λvs σ H Q=>∃v r,vs=v::r/\t v σ H λσ' H'=>u r σ' H' Q
theorem Yw:PGs X [] gNil:=by
 intro b8 s σ H vs us Q I r h;obtain⟨e,h⟩:=h;subst e;cases r;exact assignInOrder_nil ⟨σ,H,I,h⟩
theorem Zk{t:TG}{u:TGs}(h1:PG X e t)(h2:PGs X es u)(hs:(assignEach (e::es) X.env).map (·.2)=assign e X.env::(assignEach es X.env).map (·.2):=by rfl):PGs X (e::es) (EN t u):=by
 intro b8 s σ H vs us Q I r h;obtain⟨v,Z,e1,h⟩:=h;subst e1;cases r with
 | cons r O =>
  rw[hs];refine assignInOrder_cons (thn (h1 b8 s σ H _ _ _ I r h) λ_ s1 G=>?_);obtain⟨V,H1,W,q1⟩:=G;exact h2 b8 s1 V H1 _ _ Q W O q1
inductive IsT(K:Frag)(n:Nat)(v:V)(H:Hp)(P:List V->Prop):Prop
 | mk (a:Ab) (xs:List V) (e:v = .ref a) (s:SqT K H a xs) (l:xs.length=n) (h:P xs):IsT K n v H P
def gTup (K:Frag)(n:Nat)(t:TGs):TG:=λv σ H Q=>IsT K n v H λxs=>t xs σ H Q
theorem Uc{t:TGs}(hc:True=True)(h:PGs X es t)(W:(assignEach es X.env).length=n:=by rfl)(G:(assignEach es X.env).findIdx? (·.1)=none:=by rfl):PG X (.Tuple es k pos) (gTup X.K n t):=by
 intro b8 s σ H v u Q I r O;obtain⟨a,xs,e1,hq,hl,O⟩:=O;subst e1;cases r;obtain⟨c9,V,Z,hz⟩:=I.tuple hq;refine Wc I.hdS Z (by simp[W,<-hl,V.length]) G λh' hx=>?_
 have I1:Inv X b8 σ H { s with heap:=h' }:=I.kept (t':=s.toks) λb o e=>hx b o (zX (zQ e)) e
 exact h b8 _ σ H xs _ Q I1 (by simpa using V) O
def gSub (to ti:TE)(t:TSet):TG:=λv σ H Q=>to σ H λo H1=>ti σ H1 λi H2=>t o i v H2 λH3=>Q σ H3
theorem NC{o i:Ah}{to V:TE}{t:TSet}(ho:PE X o to)(hi:PE X i V)(hs:PSet X t)(ha:∀v,assign (.Subscript o i pos) X.env v=(do
 let O <- holding [v] (eval o X.env)
 let iv <- holding [v,O] (eval i X.env)
 standAt pos
 holding [v,O,iv] (setItem O iv v)
 release [v,O,iv] []):=by intro _;rfl):PG X (.Subscript o i pos) (gSub to V t):=by
 intro b8 s σ H v u Q I r h;rw[ha];refine zA (zD (thn (ho b8 s σ H _ I h) λO s1 G=>?_));obtain⟨x,H1,I1,r1,q1⟩:=G;refine zA (zD (thn (hi b8 s1 σ H1 _ I1 q1) λiv s2 G=>?_));obtain⟨y,H2,I2,r2,q2⟩:=G;refine zA (wpAny_standAt (zA (zD (thn (hs b8 s2 σ H2 x y v O iv u _ I2 r1 r2 r q2) λ_ s3 G=>?_))));obtain⟨H3,Z,W⟩:=G;exact wpAny_release ⟨σ,H3,Z,W⟩
def tAsg (te:TE)(g:TG):TS:=λD σ H=>te σ H λx H1=>g x σ H1 D.nx
theorem Ub{te:TE}{g:TG}(O:PE X e te)(V:PG X tg g)(hs:swapsWithSole [tg] e pos.line X.env=pure false:=by rfl)(W:swappedStores [tg] e X.env=pure none:=by rfl)(h1:(assignEach [tg] X.env).map (·.2)=[assign tg X.env]:=by rfl):PS X (.Assign [tg] e pos) (tAsg te g):=by
 intro b8 s σ H D I h;refine wpAny_Assign_stores (thn (O b8 s σ H _ I h) λv s1 G=>?_) hs W;obtain⟨x,H1,Z,r1,q1⟩:=G;rw[h1];exact thn (V b8 s1 σ H1 x v _ Z r1 q1) λ_ s2 q=>q
theorem Qa{te:TE}{pos':Pos}(W:X.N.Nodup)(hi:X.N[i]?=some x)(V:Loc X.env.scope x)(O:PE X e te)(hs:swapsWith e (some (.Name x pos')) pos.line X.env=pure false:=by rfl)(Z:X.fn x=true∨X.env.scope.names.lookup x=some .local:=by first | exact .inl rfl | exact .inr rfl | assumption):
  PS X (.Assign [.Name x pos'] e pos) (tAsg te (V0 i)):=by
 intro b8 s σ H D I h;refine wpAny_Assign_Name (thn (O b8 s σ H _ I h) λv s1 G=>?_) hs;obtain⟨y,H1,I1,r1,q1⟩:=G;exact J6 I1 W hi V r1 (λs2 I2=>⟨_,H1,I2,q1⟩) Z
def tPar (i j:Nat)(ta:TA):TS:=λD σ H=>ta σ H λvs H1=>∃v w,vs=[v,w]/\D.nx ((σ.set i (some v)).set j (some w)) H1
theorem Vp{y:Str}{a b:Ah}{ta:TA}{px py pt:Pos}{kt k2 pt2}(hc:True=True)(hN:X.N.Nodup)(hi:X.N[i]?=some x)(hj:X.N[j]?=some y)(V:i≠j)(hx:X.env.scope.names.lookup x=some .local)(hy:X.env.scope.names.lookup y=some .local)(ha:PA X [a,b] ta)(hw:swappedStores [.Tuple [.Name x px,.Name y py] kt pt] (.Tuple [a,b] k2 pt2) X.env=pure (some [x,y]))(hs:swapsWithSole [.Tuple [.Name x px,.Name y py] kt pt] (.Tuple [a,b] k2 pt2) pos.line X.env=pure false:=by rfl):
  PS X (.Assign [.Tuple [.Name x px,.Name y py] kt pt] (.Tuple [a,b] k2 pt2) pos) (tPar i j ta):=by
 intro b8 s σ H D I h;rw[exec_Assign_arm];refine zA (wpAny_standAt ?_);rw[hs];refine zA (zB ?_);rw[xZ (by decide)]
 refine zA (Tuple_ (thn (ha _ b8 s σ H _ I h) λus s1 aa=>?_));obtain⟨vs,H1,I1,r1,q1⟩:=aa;obtain⟨v,w,e1,q1⟩:=q1;subst e1;obtain⟨G,O,rfl,rv,W⟩:∃G O,us=[G,O]/\RelV v G/\RelV w O:=by
  cases r1 with
  | cons p q =>
   cases q with
   | cons p' q' =>
    cases q';exact⟨_,_,rfl,p,p'⟩
 refine wpAny_newObj_type ?_ (by show 2<=zF;decide)
 have I2:Inv X b8 σ H1 { s1 with heap:=s1.heap.push { cls:=.type "tuple",data:=.seq [G,O].toArray } }:=I1.kept (t':=s1.toks) λb o e=>zL _ e
 rw[hw];refine zA (zB ?_);show wpAny (model X.prog X.w) X.A (do rule "assign.swapped-stores";let items <- unpackItems (.ref s1.heap.objs.size) 2 none;assignInOrder [λv=>bindName X.env y v,λv=>bindName X.env x v] items.reverse;pure Flow.next) _ _ _
 refine zA (wpAny_rule (zA (Uy (items:=#[G,O]) I2.hdS (IsTup.new s1.heap _) λh' Z=>?_)));have I3:=I2.kept (h':=h') (t':=s1.toks) λb o e=>Z b o (zX (zQ e)) e;show wpAny _ _ (assignInOrder [λv=>bindName X.env y v,λv=>bindName X.env x v] [O,G] >>= λ_=>pure Flow.next) _ _ _;refine zA (assignInOrder_cons (wpAny_bindName (J6 I3 hN hj (.inl hy) W (λs2 I4=>?_) (.inr hy))));refine assignInOrder_cons (wpAny_bindName (J6 I4 hN hi (.inl hx) rv (λs3 I5=>assignInOrder_nil (zB ?_)) (.inr hx)));rw[uV _ _ (Ne.symm V)] at I5;exact⟨_,H1,I5,q1⟩
end
section
variable {X:Cx}{pos:Pos}
def OI(c:TT)(tb:TS):TS:=λD σ H=>∃W:Nat->St->Hp->Prop,(∃m,W m σ H)/\∀m σ H,W m σ H ->
 c σ H λb H1=>if b=true then ∃N:St->Hp->Prop,(∀ σ' H',N σ' H'->∃m',m'<m/\W m' σ' H')/\tb { D with nx:=N,ct:=N,bk:=D.nx } σ H1 else D.nx σ H1
theorem JP{tc:TT}{tb:TS}(hp:PassesOwn (model X.prog X.w) X.A X.env X.xe)(hc:PT X c tc)(hb:PSs X body tb):PS X (.While c body [] pos) (OI tc tb):=by
 intro b8 s σ H D I h;obtain⟨W,⟨m0,w0⟩,G⟩:=h;refine wpAny_While (codeAny_whileLoop (λn s'=>∃ σ' H',Inv X b8 σ' H' s'/\W n σ' H') ?_ m0 ⟨σ,H,I,w0⟩);rintro n s1 ⟨σ1,H1,I1,w1⟩;refine wpAny_passesOwn hp (thn (hc b8 s1 σ1 H1 _ I1 (G n σ1 H1 w1)) λb s2 aa=>?_);obtain⟨H2,I2,q2⟩:=aa;cases b with
 | true =>
  obtain⟨N,hN,q2⟩:=q2;rw[xY rfl];refine wpAny_passesOwn hp (thn (hb b8 s2 σ1 H2 _ I2 q2) λf s3 Z=>?_);cases f with
  | next =>
   obtain⟨V,O,I3,n3⟩:=Z;obtain⟨m',hm,w3⟩:=hN V O n3;exact⟨m',hm,V,O,I3,w3⟩
  | cont =>
   obtain⟨V,O,I3,n3⟩:=Z;obtain⟨m',hm,w3⟩:=hN V O n3;exact⟨m',hm,V,O,I3,w3⟩
  | brk=>exact Z
  | ret v=>exact Z
 | false =>
  rw[xZ zW];exact wpAny_execs_nil ⟨σ1,H2,I2,q2⟩
end
structure It where
 go:Nat->Hp->Prop
 yld:Nat->Hp->V->Hp->Prop
 stop:Nat->Hp->Prop
 nd:Bool
def FpOk (X:Cx)(b8:List (Ab×Obj))(H:Hp)(b:Ab):Prop :=
 H b=none/\b≠X.env.locals/\b∉X.fs/\(b∈X.ex∨X.s₀.heap.objs.size<=b)/\(∀x c,X.env.cells.lookup x=some c->c≠b)/\∀p∈X.pn++b8,p.1≠b
theorem Inv.fpOk{X:Cx}{σ:St}{H H':Hp}{s:Ac}(I:Inv X b8 σ H s)(G:s.heap.objs.size<=b)(O:H' b=none):FpOk X b8 H' b:=by
 refine⟨O,vB (yG I.lt G),I.nofs G,.inr (yU I.sz G),λx c e z=>?_,λp V z=>?_⟩
 .obtain⟨v,q⟩:=I.cell x c e;exact xX (yG q.lt (by rw[z];exact G)) (wY _)
 .exact xX (yG (zQ (I.pin p V).1) (by rw[z];exact G)) (wY _)
structure Turn(P:Ae)(w:Af)(K:Frag)(tg:Ah)(J:It)(fp:List Ab)(it:Ab)(tn:Nat->Heap->Prop):Prop where
 mem:it∈fp
 obj:∀i h,tn i h->∀b∈fp,∃o,h.get? b=some o/\∀v,o.data ≠ .cell v
 keep:∀i h h',tn i h->(∀b∈fp,∀o,h.get? b=some o->h'.get? b=some o)->tn i h'
 item:∀(X:Cx),X.prog=P->X.w=w->X.K=K->(J.nd=true->X.calm=true)->∀(i:Nat) (b8:List (Ab×Obj)) (s:Ac) (σ:St) (H:Hp) (E:Aa->Ac->Prop),Inv X b8 σ H s->(∀b∈fp,FpOk X b8 H b)->tn i s.heap->J.go i H ->
  wpAny (model P w) X.A (pyNext (.ref it)) (λr s1=>∃u,r=some u /\
   wpAny (model P w) X.A (letOwnedTupleGo tg (.ref it) u) (λ_ s2=>∃x H',Inv X b8 σ H' s2/\RelV x u/\J.yld i H x H'/\tn (i+1) s2.heap/\∀b∈fp,H' b=none) E s1) E s
 done:∀(X:Cx),X.prog=P->X.w=w->X.K=K->(J.nd=true->X.calm=true)->∀(i:Nat) (b8:List (Ab×Obj)) (s:Ac) (σ:St) (H:Hp) (E:Aa->Ac->Prop),Inv X b8 σ H s->(∀b∈fp,FpOk X b8 H b)->tn i s.heap->J.stop i H ->
  wpAny (model P w) X.A (pyNext (.ref it)) (λr s1=>r=none/\Inv X b8 σ H s1) E s
 self:∀(A:Ag) (i:Nat) (s:Ac) (Q:Aa->Ac->Prop) (E:Aa->Ac->Prop),tn i s.heap->Q (.ref it) s->wpAny (model P w) A (pyIter (.ref it)) Q E s
abbrev TI:=St->Hp->(It->Hp->Prop)->Prop
def PIE (X:Cx)(b8:List (Ab×Obj))(σ:St)(tg:Ah)(R:It->Hp->Prop)(itv:Aa)(s2:Ac):Prop :=
 ∃(it:Ab) (fp:List Ab) (tn:Nat->Heap->Prop) (J:It) (H':Hp),itv = .ref it/\Inv X b8 σ H' s2/\Turn X.prog X.w X.K tg J fp it tn/\tn 0 s2.heap/\(∀b∈fp,FpOk X b8 H' b)/\(J.nd=true->X.calm=true)/\R J H'
def PI (X:Cx)(tg iter:Ah)(wi:TI):Prop :=
 ∀(b8:List (Ab×Obj)) (s:Ac) (σ:St) (H:Hp) (R:It->Hp->Prop),Inv X b8 σ H s->wi σ H R ->
  wpAny (model X.prog X.w) X.A (eval iter X.env) (λv s1=>wpAny (model X.prog X.w) X.A (pyIter v) (PIE X b8 σ tg R) X.xe s1) X.xe s
theorem MZ{M:Model}{s:Ac}{n:String}{vs:Array Aa}{Q:Unit->Ac->Prop}(O:s.heap.get? it=some o)(Z:o.cls = .type n)(W:o.data = .fields vs)(V:["enumerate","zip","dict_itemiterator","dict_reverseitemiterator","odict_iterator","itertools.zip_longest","itertools.pairwise"].contains n=false)(G:Q () s):wpAny M A (letOwnedTupleGo tg (.ref it) u) Q E s:=by
 unfold letOwnedTupleGo;cases tg <;> first
  | exact zB G
  | (cases u <;> first
    | exact zB G
    | (refine zA (wpAny_load O ?_)
       rw[Z,W];show wpAny M A (if(["enumerate","zip","dict_itemiterator","dict_reverseitemiterator","odict_iterator","itertools.zip_longest","itertools.pairwise"].contains n&&vs[0]?==some (rawInt _))=true then _ else _) Q E s;rw[xZ (by intro h;rw[V,wP] at h;cases h)]
       exact zB G))
def Itl (K:Frag)(a:Ab):It :=
 ⟨λi H=>∃xs x,SqL K H a xs/\xs[i]?=some x,λi H x H'=>H'=H/\∀xs,SqL K H a xs->xs[i]?=some x,λi H=>∃xs,SqL K H a xs/\xs.length<=i,false⟩
def Itt (K:Frag)(a:Ab):It :=
 ⟨λi H=>∃xs x,SqT K H a xs/\xs[i]?=some x,λi H x H'=>H'=H/\∀xs,SqT K H a xs->xs[i]?=some x,λi H=>∃xs,SqT K H a xs/\xs.length<=i,false⟩
def Itr (lo:Int)(n:Nat):It:=⟨λi _=>i<n,λi H x H'=>H'=H/\x = .int (lo+i),λi _=>n<=i,true⟩
theorem TQ(a it:Ab):Turn P w K tg (Itl K a) [it] it (λi h=>h.IsListIter it a i) where
 mem:=by simp
 obj:=λi h st b G=>by
  have e:b=it:=by simpa using G
  subst e;obtain⟨o,e,c,d⟩:=st;exact⟨o,e,λv z=>by rw[d] at z;cases z⟩
 keep:=λi h h' st k=>st.at λo e=>k it (by simp) o e
 item:=by
  intro X hP hw Z hc i b8 s σ H E I W st hg;subst hP hw Z;obtain⟨xs,x,V,hx⟩:=hg;obtain⟨c9,rv,p,hz⟩:=I.list V;obtain⟨u,hu,ru⟩:=rv.get hx;obtain⟨f0,f1,f2,f3,f4,f5⟩:=W it (by simp)
  refine wpAny_pyNext_list_item st p.isList (x:=u) (by simpa using hu) λh' O sb=>?_
  have I1:Inv X b8 σ H { s with heap:=h' }:=I.turned (t':=s.toks) (λb o G e=>(sb.2 b G).trans e) f0 f1 f3 f4 f5
  obtain⟨o,e,c,d⟩:=id O;exact⟨u,rfl,MZ (s:={ s with heap:=h' }) e c d (by decide) ⟨x,H,I1,ru,⟨rfl,λys hy=>by rw[I.list_inj hy V];exact hx⟩,O,λb G=>(W b G).1⟩⟩
 done:=by
  intro X hP hw Z hc i b8 s σ H E I W st hg;subst hP hw Z;obtain⟨xs,V,hx⟩:=hg;obtain⟨c9,rv,p,hz⟩:=I.list V;obtain⟨f0,f1,f2,f3,f4,f5⟩:=W it (by simp)
  have hl:=rv.length;exact Rz I.hdS st p.isList (by simp;lia) λh' eb=>⟨rfl,I.turned (t':=s.toks) (λb o G e=>eb b o G e) f0 f1 f3 f4 f5⟩
 self:=λ_ _ _ _ _ st h=>wpAny_pyIter_listiter st h
theorem Nj(a it:Ab):Turn P w K tg (Itt K a) [it] it (λi h=>h.IsTupleIter it a i) where
 mem:=by simp
 obj:=λi h st b G=>by
  have e:b=it:=by simpa using G
  subst e;obtain⟨o,e,c,d⟩:=st;exact⟨o,e,λv z=>by rw[d] at z;cases z⟩
 keep:=λi h h' st k=>st.at λo e=>k it (by simp) o e
 item:=by
  intro X hP hw Z hc i b8 s σ H E I W st hg;subst hP hw Z;obtain⟨xs,x,V,hx⟩:=hg;obtain⟨c9,rv,p,hz⟩:=I.tuple V;obtain⟨u,hu,ru⟩:=rv.get hx;obtain⟨f0,f1,f2,f3,f4,f5⟩:=W it (by simp)
  refine wpAny_pyNext_tuple_item st (show s.heap.IsTuple a c9.toArray from p) (x:=u) (by simpa using hu) λh' O sb=>?_
  have I1:Inv X b8 σ H { s with heap:=h' }:=I.turned (t':=s.toks) (λb o G e=>(sb.2 b G).trans e) f0 f1 f3 f4 f5
  obtain⟨o,e,c,d⟩:=id O;exact⟨u,rfl,MZ (s:={ s with heap:=h' }) e c d (by decide) ⟨x,H,I1,ru,⟨rfl,λys hy=>by rw[I.tuple_inj hy V];exact hx⟩,O,λb G=>(W b G).1⟩⟩
 done:=by
  intro X hP hw Z hc i b8 s σ H E I W st hg;subst hP hw Z;obtain⟨xs,V,hx⟩:=hg;obtain⟨c9,rv,p,hz⟩:=I.tuple V;obtain⟨f0,f1,f2,f3,f4,f5⟩:=W it (by simp)
  have hl:=rv.length;exact Nl I.hdS st (show s.heap.IsTuple a c9.toArray from p) (by simp;lia) λh' eb=>⟨rfl,I.turned (t':=s.toks) (λb o G e=>eb b o G e) f0 f1 f3 f4 f5⟩
 self:=λ_ _ _ _ _ st h=>wpAny_pyIter_tupleiter st h
theorem Nk(it:Ab)(lo:Int)(n:Nat):Turn P w K tg (Itr lo n) [it] it (λi h=>IsRangeIter h it (lo+(i:Nat)*1) ((n:Int)-(i:Nat)) 1) where
 mem:=by simp
 obj:=λi h st b G=>by
  have e:b=it:=by simpa using G
  subst e;exact⟨_,st,λv z=>by
   have z':Data.fields _=Data.cell v:=z;cases z'⟩
 keep:=λi h h' st k=>k it (by simp) _ st
 item:=by
  intro X hP hw Z hc i b8 s σ H E I V st hg;subst hP hw Z;obtain⟨f0,f1,f2,f3,f4,f5⟩:=V it (by simp)
  have W:=Walks.range (prog:=X.prog) (w:=X.w) (I.ok.hd (hc rfl)) it lo 1 n;refine W.item i s _ _ hg st λv h' tk hv O kk=>?_;obtain⟨t,rfl⟩:=hv;have I1:Inv X b8 σ H { s with heap:=h',toks:=tk }:=I.turned (λb o G e=>kk b o (by simpa using G) e) f0 f1 f3 f4 f5
  refine⟨_,rfl,MZ (s:={ s with heap:=h',toks:=tk }) (n:="range_iterator") O rfl rfl (by decide) ⟨.int (lo+i),H,I1,⟨t,?_⟩,⟨rfl,rfl⟩,O,λb G=>(V b G).1⟩⟩
  rw[Int.mul_one]
 done:=by
  intro X hP hw Z hc i b8 s σ H E I V st hg;subst hP hw Z;obtain⟨f0,f1,f2,f3,f4,f5⟩:=V it (by simp)
  exact wpAny_pyNext_range_end (I.ok.hd (hc rfl)) st (by have:n<=i:=hg;lia) λh' eb=>⟨rfl,I.turned (t':=s.toks) (λb o G e=>eb b o G e) f0 f1 f3 f4 f5⟩
 self:=λ_ _ _ _ _ st h=>wpAny_pyIter_rangeiter st h
section
variable {X:Cx}{tg:Ah}
inductive IsL(K:Frag)(x:V)(H1:Hp)(R:It->Hp->Prop):Prop
 | mk (a:Ab) (e:x = .ref a) (s:∃xs,SqL K H1 a xs) (h:R (Itl K a) H1):IsL K x H1 R
def PP(K:Frag)(tl:TE):TI:=λσ H R=>tl σ H λx H1=>IsL K x H1 R
def iTup (K:Frag)(tl:TE):TI:=λσ H R=>tl σ H λx H1=>∃a,x = .ref a/\(∃xs,SqT K H1 a xs)/\R (Itt K a) H1
theorem Zr{l:Ah}{tl:TE}(hl:PE X l tl):PI X tg l (PP X.K tl):=by
 intro b8 s σ H R I h;refine thn (hl b8 s σ H _ I h) λv s1 O=>?_;obtain⟨x,H1,G,Z,q1⟩:=O;obtain⟨a,e,⟨xs,W⟩,q⟩:=q1;subst e;cases Z;obtain⟨c9,rv,p,hz⟩:=G.list W;refine wpAny_pyIter_list p.isList ?_;refine⟨s1.heap.objs.size,[s1.heap.objs.size],_,_,H1,rfl,G.kept (t':=s1.toks) λb o e=>zL _ e,TQ a _,⟨_,zU _ rfl,rfl,rfl⟩,λb V=>?_,(λz=>nomatch z),q⟩;have e:b=s1.heap.objs.size:=by simpa using V
 subst e;exact G.fpOk (zO _) (G.hok.fresh (zO _))
theorem OX{l:Ah}{tl:TE}(hl:PE X l tl):PI X tg l (iTup X.K tl):=by
 intro b8 s σ H R I h;refine thn (hl b8 s σ H _ I h) λv s1 O=>?_;obtain⟨x,H1,G,Z,q1⟩:=O;obtain⟨a,e,⟨xs,W⟩,q⟩:=q1;subst e;cases Z;obtain⟨c9,rv,p,hz⟩:=G.tuple W;refine wpAny_pyIter_tuple (show s1.heap.IsTuple a c9.toArray from p) ?_
 refine⟨s1.heap.objs.size,[s1.heap.objs.size],_,_,H1,rfl,G.kept (t':=s1.toks) λb o e=>zL _ e,Nj a _,⟨_,zU _ rfl,rfl,rfl⟩,λb V=>?_,(λz=>nomatch z),q⟩;have e:b=s1.heap.objs.size:=by simpa using V
 subst e;exact G.fpOk (zO _) (G.hok.fresh (zO _))
theorem Mt(W:X.calm=true){σ:St}{H:Hp}{s:Ac}{R:It->Hp->Prop}{lo hi:Int}{t u v:Tok}{tk:Nat}(I:Inv X b8 σ H s)(h1:-(2 ^ 62)<=lo)(h2:lo<2 ^ 62)(Z:-(2 ^ 62)<=hi)(V:hi<2 ^ 62)(q:R (Itr lo (hi-lo).toNat) H):wpAny (model X.prog X.w) X.A (pyIter (.ref s.heap.objs.size)) (PIE X b8 σ tg R) E { s with heap:=s.heap.push { cls:=.type "range",data:=.fields #[.int lo t,.int hi u,.int 1 v] },toks:=tk }:=by
 refine wpAny_pyIter_range (IsRange.new ..) (small_one h1 h2 Z V) ?_;have G:Inv X b8 σ H { s with heap:=s.heap.push { cls:=.type "range",data:=.fields #[.int lo t,.int hi u,.int 1 v] },toks:=tk }:=I.kept λb o e=>zL _ e
 refine⟨(s.heap.push { cls:=.type "range",data:=.fields #[.int lo t,.int hi u,.int 1 v] }).objs.size,[(s.heap.push { cls:=.type "range",data:=.fields #[.int lo t,.int hi u,.int 1 v] }).objs.size],_,_,H,rfl,
  G.kept (t':=tk) λb o e=>zL _ e,Nk _ lo (hi-lo).toNat,?_,λb O=>?_,(λ_=>W),q⟩
 .have e1:lo+((0:Nat):Int)*1=lo:=by simp
  have e2:(((hi-lo).toNat:Nat):Int)-((0:Nat):Int)=Builtin.Range.rangeSize lo hi 1:=by rw[rangeSize_one];split <;> lia
  show IsRangeIter _ _ (lo+((0:Nat):Int)*1) ((((hi-lo).toNat:Nat):Int)-((0:Nat):Int)) 1;rw[e1,e2];exact zU _ rfl
 .have e:b=(s.heap.push { cls:=.type "range",data:=.fields #[.int lo t,.int hi u,.int 1 v] }).objs.size:=by simpa using O
  subst e;exact G.fpOk (zO _) (G.hok.fresh (zO _))
def EK(ta:TA):TI:=λσ H R=>ta σ H λvs H1=>∃j:Int,vs=[.int j]/\-(2 ^ 62)<=j/\j<2 ^ 62/\R (Itr 0 j.toNat) H1
def EJ(ta:TA):TI:=λσ H R=>ta σ H λvs H1=>∃i j:Int,vs=[.int i,.int j]/\(-(2 ^ 62)<=i/\i<2 ^ 62/\-(2 ^ 62)<=j/\j<2 ^ 62)/\R (Itr i (j-i).toNat) H1
theorem Uq{a:Ah}{ta:TA}(V:Gl X "range")(hm:X.mg "range"=none)(ha:PA X [a] ta)(hs:zG [a] X.env=[(false,eval a X.env)]:=by rfl)(W:X.calm=true:=by rfl):PI X tg (.Call (.Name "range" p) [a] [] pos) (EK ta):=by
 intro b8 s σ H R I h;refine Call_ (JW I V hm boot_range (PyProof.Rows.callWith_type1 (thn (ha pos b8 s σ H _ I h) λus s1 G=>?_) hs rfl));obtain⟨vs,H1,Z,r1,q1⟩:=G;obtain⟨j,e,q1,q2,q⟩:=q1;subst e;cases r1 with
 | cons r O =>
  cases O;obtain⟨t,rfl⟩:=r;exact call_range_1 (Mt W Z (by lia) (by lia) q1 q2 (by simpa using q))
theorem Ri{a b:Ah}{ta:TA}(Z:Gl X "range")(hm:X.mg "range"=none)(ha:PA X [a,b] ta)(hs:zG [a,b] X.env=[(false,eval a X.env),(false,eval b X.env)]:=by rfl)(G:zG [b] X.env=[(false,eval b X.env)]:=by rfl)(hc:X.calm=true:=by rfl):
  PI X tg (.Call (.Name "range" p) [a,b] [] pos) (EJ ta):=by
 intro b8 s σ H R I h;refine Call_ (JW I Z hm boot_range (PyProof.Rows.callWith_type1 (thn (ha pos b8 s σ H _ I h) λus s1 ⟨vs,H1,I1,r1,q1⟩=>?_) (by rw[hs,G]) (by rw[G];rfl)))
 obtain⟨i,j,e,⟨q1,q2,V,W⟩,q⟩:=q1;subst e;cases r1 with
 | cons r O =>
  cases O with
  | cons r' O =>
   cases O;obtain⟨t,rfl⟩:=r;obtain⟨t',rfl⟩:=r';exact call_range_2 (Mt hc I1 q1 q2 V W q)
def tFor (wi:TI)(g:TG)(tb:TS):TS:=λD σ H=>wi σ H λJ H1=>∃W:Nat->Nat->St->Hp->Prop,(∃m,W 0 m σ H1)/\∀i m σ H,W i m σ H ->
 (J.stop i H/\D.nx σ H)∨(J.go i H/\∃N:St->Hp->Prop,(∀ σ' H',N σ' H'->∃m',m'<m/\W (i+1) m' σ' H')/\∀x H',J.yld i H x H'->g x σ H' λσ2 H2=>tb { D with nx:=N,ct:=N,bk:=D.nx } σ2 H2)
def pinsAt(fp:List Ab)(h:Heap):List (Ab×Obj):=fp.filterMap λb=>(h.get? b).map λo=>(b,o)
theorem UE(G:b∈fp)(e:h.get? b=some o):(b,o)∈pinsAt fp h:=vV.mpr ⟨b,G,by rw[e];rfl⟩
theorem Rw{p:Ab×Obj}(O:p∈pinsAt fp h):p.1∈fp/\h.get? p.1=some p.2:=by
 obtain⟨b,G,e⟩:=vV.mp O;cases q:h.get? b with
 | none=>rw[q] at e;cases e
 | some o =>
  rw[q] at e;have V:(b,o)=p:=Option.some.inj e;subst V;exact⟨G,q⟩
theorem Inv.pinned{σ:St}{H:Hp}{s:Ac}(I:Inv X b8 σ H s)(W:∀b∈fp,FpOk X b8 H b)(Z:∀b∈fp,∃o,s.heap.get? b=some o/\∀v,o.data ≠ .cell v):Inv X (b8++pinsAt fp s.heap) σ H s :=
 I.pins_of λp V=>(yC.mp V).elim (λz=>I.pin p (zY _ z)) λz=>by
  obtain⟨G,e⟩:=Rw z;obtain⟨f0,f1,f2,_⟩:=W p.1 G;obtain⟨o,O,d⟩:=Z p.1 G;rw[e] at O;cases O;exact⟨e,f0,f1,f2,d⟩
theorem Inv.unpinned{pl:List (Ab×Obj)}{σ:St}{H:Hp}{s:Ac}(I:Inv X (b8++pl) σ H s):Inv X b8 σ H s:=I.pins_of λp G=>I.pin p (zY _ (xG _ G))
theorem Y4{iter:Ah}{wi:TI}{g:TG}{tb:TS}(hp:PassesOwn (model X.prog X.w) X.A X.env X.xe)(_:True=True)(hi:PI X tg iter wi)(hg:PG X tg g)(O:PSs X body tb)(hs:∀x,foldedSetIterable iter X.env x=pure x:=by intro _;rfl):PS X (.For tg iter body [] pos) (tFor wi g tb):=by
 intro b8 s σ H D I h;refine wpAny_For (thn (hi b8 s σ H _ I h) λv s1 h1=>thn h1 λak s2 h2=>?_) hs;obtain⟨it,fp,tn,J,H2,e,I2,T,aj,f2,hc,W,⟨m0,w0⟩,af⟩:=h2;subst e;have aa:∀{H':Hp},(∀b∈fp,H' b=none)->∀b∈fp,FpOk X b8 H' b:=λhn b O=>⟨hn b O,(f2 b O).2⟩;refine codeAny_forLoop_any (λn s'=>∃i σ' H',Inv X b8 σ' H' s'/\tn i s'.heap/\(∀b∈fp,H' b=none)/\W i n σ' H') ?_ m0 ⟨0,σ,H2,I2,aj,λb O=>(f2 b O).1,w0⟩;rintro n s3 ⟨i,σ3,H3,I3,ad,ag,w3⟩;rcases af i n σ3 H3 w3 with ⟨ae,qn⟩ | ⟨go,N,hN,step⟩
 .refine wpAny_passesOwn hp (thn (T.done X rfl rfl rfl hc i b8 s3 σ3 H3 X.xe I3 (aa ag) ad ae) λr s4 G=>?_);obtain⟨hr,I4⟩:=G;subst hr;exact wpAny_execs_nil ⟨σ3,H3,I4,qn⟩
 .refine wpAny_passesOwn hp (thn (T.item X rfl rfl rfl hc i b8 s3 σ3 H3 X.xe I3 (aa ag) ad go) λr s4 G=>?_);obtain⟨u,hr,h4⟩:=G;subst hr;refine wpAny_passesOwn hp (thn h4 λ_ s5 G=>?_);obtain⟨x,H5,I5,r5,y5,ac,ai⟩:=G;have ah:=I5.pinned (aa ai) (T.obj _ _ ac);refine wpAny_passesOwn hp (thn (hg _ s5 σ3 H5 x u _ ah r5 (step x H5 y5)) λ_ s6 G=>?_);obtain⟨σ6,H6,I6,q6⟩:=G;refine wpAny_passesOwn hp (thn (O _ s6 σ6 H6 _ I6 q6) λf s7 q7=>?_);have again:∀{V:St} {Z:Hp},Inv X (b8++pinsAt fp s5.heap) V Z s7->N V Z->∃m,m<n/\∃i σ' H',Inv X b8 σ' H' s7/\tn i s7.heap/\(∀b∈fp,H' b=none)/\W i m σ' H':=λ{V Z} I7 n7=>by
   obtain⟨m',hm,w7⟩:=hN V Z n7;refine⟨m',hm,i+1,V,Z,I7.unpinned,T.keep _ _ _ ac λb O o e=>(I7.pin (b,o) (zY _ (zY _ (UE O e)))).1,λb O=>?_,w7⟩;obtain⟨o,e,d⟩:=T.obj _ _ ac b O;exact(I7.pin (b,o) (zY _ (zY _ (UE O e)))).2.1
  cases f with
  | next=>obtain⟨V,Z,I7,n7⟩:=q7;exact again I7 n7
  | cont=>obtain⟨V,Z,I7,n7⟩:=q7;exact again I7 n7
  | brk=>obtain⟨V,Z,I7,q7⟩:=q7;exact⟨V,Z,I7.unpinned,q7⟩
  | ret v=>obtain⟨x7,V,Z,I7,r7,q7⟩:=q7;exact⟨x7,V,Z,I7.unpinned,r7,q7⟩
end
theorem ZX{xs:List V}{g:TG}{tb:TS}{D:Ends}{σ:St}{H:Hp}(G:Nat->St->Hp->Prop)(h0:G 0 σ H)(hl:∀i σ H,i<=xs.length->G i σ H->SqL K H a xs)(hs:∀i x σ H,xs[i]?=some x->G i σ H->g x σ H λσ2 H2=>tb { D with nx:=G (i+1),ct:=G (i+1),bk:=D.nx } σ2 H2)(hd:∀ σ H,G xs.length σ H->D.nx σ H):
  ∃W:Nat->Nat->St->Hp->Prop,(∃m,W 0 m σ H)/\∀i m σ H,W i m σ H ->
   ((Itl K a).stop i H/\D.nx σ H)∨((Itl K a).go i H/\∃N:St->Hp->Prop,(∀Z H',N Z H'->∃m',m'<m/\W (i+1) m' Z H')/\∀x H',(Itl K a).yld i H x H'->g x σ H' λσ2 H2=>tb { D with nx:=N,ct:=N,bk:=D.nx } σ2 H2):=by
 refine⟨λi m σ H=>m=xs.length-i/\i<=xs.length/\G i σ H,⟨xs.length,by simp,xD _,h0⟩,?_⟩
 rintro i m σ H ⟨rfl,hi,p⟩;have q:=hl i σ H hi p;by_cases O:i<xs.length
 .refine .inr ⟨⟨xs,xs[i],q,by simp[O]⟩,G (i+1),λZ H' p'=>⟨xs.length-(i+1),by lia,rfl,O,p'⟩,λx H' y=>?_⟩
  obtain⟨e,y⟩:=y;subst e;exact hs i x σ _ (y xs q) p
 .have e:i=xs.length:=by lia
  subst e;exact .inl ⟨⟨xs,q,zO _⟩,hd σ H p⟩
theorem O0{xs:List V}{g:TG}{tb:TS}{D:Ends}{σ:St}{H:Hp}(G:Nat->St->Hp->Prop)(h0:G 0 σ H)(hl:∀i σ H,i<=xs.length->G i σ H->SqT K H a xs)(hs:∀i x σ H,xs[i]?=some x->G i σ H->g x σ H λσ2 H2=>tb { D with nx:=G (i+1),ct:=G (i+1),bk:=D.nx } σ2 H2)(hd:∀ σ H,G xs.length σ H->D.nx σ H):
  ∃W:Nat->Nat->St->Hp->Prop,(∃m,W 0 m σ H)/\∀i m σ H,W i m σ H ->
   ((Itt K a).stop i H/\D.nx σ H)∨((Itt K a).go i H/\∃N:St->Hp->Prop,(∀Z H',N Z H'->∃m',m'<m/\W (i+1) m' Z H')/\∀x H',(Itt K a).yld i H x H'->g x σ H' λσ2 H2=>tb { D with nx:=N,ct:=N,bk:=D.nx } σ2 H2):=by
 refine⟨λi m σ H=>m=xs.length-i/\i<=xs.length/\G i σ H,⟨xs.length,by simp,xD _,h0⟩,?_⟩
 rintro i m σ H ⟨rfl,hi,p⟩;have q:=hl i σ H hi p;by_cases O:i<xs.length
 .refine .inr ⟨⟨xs,xs[i],q,by simp[O]⟩,G (i+1),λZ H' p'=>⟨xs.length-(i+1),by lia,rfl,O,p'⟩,λx H' y=>?_⟩
  obtain⟨e,y⟩:=y;subst e;exact hs i x σ _ (y xs q) p
 .have e:i=xs.length:=by lia
  subst e;exact .inl ⟨⟨xs,q,zO _⟩,hd σ H p⟩
abbrev R2:=V->V->Hp->VK->Prop
def OpR (X:Cx)(f:Aa->Aa->Sem Aa)(r:R2):Prop :=
 ∀(b8:List (Ab×Obj)) (s:Ac) (σ:St) (H:Hp) (x y:V) (v u:Aa) (Q:VK),Inv X b8 σ H s->RelV x v->RelV y u->r x y H Q ->
  wpAny (model X.prog X.w) X.A (f v u) (EP X b8 σ Q) X.xe s
def UnR (X:Cx)(f:Aa->Sem Aa)(r:V->Hp->VK->Prop):Prop :=
 ∀(b8:List (Ab×Obj)) (s:Ac) (σ:St) (H:Hp) (x:V) (v:Aa) (Q:VK),Inv X b8 σ H s->RelV x v->r x H Q ->
  wpAny (model X.prog X.w) X.A (f v) (EP X b8 σ Q) X.xe s
def Jt(X:Cx)(f:Aa)(r:List V->Hp->VK->Prop):Prop :=
 ∀(b8:List (Ab×Obj)) (s:Ac) (σ:St) (H:Hp) (xs:List V) (us:List Aa) (Q:VK),Inv X b8 σ H s->Vals xs us->r xs H Q ->
  wpAny (model X.prog X.w) X.A (call f us) (EP X b8 σ Q) X.xe s
def tOp (r:R2)(ta tb:TE):TE:=λσ H Q=>ta σ H λx H1=>tb σ H1 λy H2=>r x y H2 Q
def tUn (r:V->Hp->VK->Prop)(ta:TE):TE:=λσ H Q=>ta σ H λx H1=>r x H1 Q
inductive IsI(C:Int->Int->Prop)(g:Int->Int->V)(x y:V)(H:Hp)(Q:VK):Prop
 | mk (i j:Int) (a:x = .int i) (b:y = .int j) (c:C i j) (h:Q (g i j) H):IsI C g x y H Q
def rI (C:Int->Int->Prop)(g:Int->Int->V):R2:=λx y H Q=>IsI C g x y H Q
inductive IsI0(g:Int->Int->V)(x y:V)(H:Hp)(Q:VK):Prop
 | mk (i j:Int) (a:x = .int i) (b:y = .int j) (h:Q (g i j) H):IsI0 g x y H Q
def rI0 (g:Int->Int->V):R2:=λx y H Q=>IsI0 g x y H Q
def rU (g:Int->V):V->Hp->VK->Prop:=λx H Q=>∃i,x = .int i/\Q (g i) H
section
variable {X:Cx}{a b c:Ah}{ta tb tc:TE}{pos:Pos}
theorem binT(ha:PE X a ta)(O:PE X b tb){s:Ac}{σ:St}{H:Hp}{R:V->V->Hp->Prop}(I:Inv X b8 σ H s)(h:ta σ H λx H1=>tb σ H1 λy H2=>R x y H2){Q:Aa->Ac->Prop}{f:Aa->Aa->Sem Aa}(Z:∀v u s2 x y H2,Inv X b8 σ H2 s2->RelV x v->RelV y u->R x y H2->wpAny (model X.prog X.w) X.A (f v u) Q X.xe s2):
  wpAny (model X.prog X.w) X.A (eval a X.env) (λv s₁=>wpAny (model X.prog X.w) X.A (eval b X.env) (λu s₂=>wpAny (model X.prog X.w) X.A (f v u) Q X.xe s₂) X.xe s₁) X.xe s:=by
 refine thn (ha b8 s σ H _ I h) λv s1 G=>?_;obtain⟨x,H1,I1,r1,q1⟩:=G;refine thn (O b8 s1 σ H1 _ I1 q1) λu s2 G=>?_;obtain⟨y,H2,I2,W,q2⟩:=G;exact Z v u s2 x y H2 I2 r1 W q2
theorem Zg{G:Operator}{r:R2}(Z:OpR X (Al G) r)(ha:PE X a ta)(V:PE X b tb):PE X (.BinOp a G b pos) (tOp r ta tb):=by
 intro b8 s σ H Q I h;exact wpAny_BinOp (binT ha V I h λv u s2 x y H2 I2 O W q=>Z b8 s2 σ H2 x y v u Q I2 O W q)
theorem Mw{O:UnaryOp}{r:V->Hp->VK->Prop}(Z:UnR X (unaryOp O) r)(ha:PE X a ta):PE X (.UnaryOp O a pos) (tUn r ta):=by
 intro b8 s σ H Q I h;refine UnaryOp_ (thn (ha b8 s σ H _ I h) λv s1 G=>?_);obtain⟨x,H1,W,r1,q1⟩:=G;exact Z b8 s1 σ H1 x v Q W r1 q1
theorem opI{f:Aa->Aa->Sem Aa}{C:Int->Int->Prop}(rule:∀(i j:Int) (t u:Tok) (s:Ac) (Q:Aa->Ac->Prop) (E:Aa->Ac->Prop),C i j->Q (.int (g i j) s.toks) { s with toks:=s.toks+1 }->wpAny (model X.prog X.w) X.A (f (.int i t) (.int j u)) Q E s):
  OpR X f (rI C λi j=>.int (g i j)):=by
 intro b8 s σ H x y v u Q I G O h;obtain⟨i,j,rfl,rfl,V,q⟩:=h;obtain⟨t,rfl⟩:=G;obtain⟨t',rfl⟩:=O;exact rule i j t t' s _ _ V ⟨.int (g i j),H,I.tok _,⟨_,rfl⟩,q⟩
theorem opI0{f:Aa->Aa->Sem Aa}(rule:∀(i j:Int) (t u:Tok) (s:Ac) (Q:Aa->Ac->Prop) (E:Aa->Ac->Prop),Q (.int (g i j) s.toks) { s with toks:=s.toks+1 }->wpAny (model X.prog X.w) X.A (f (.int i t) (.int j u)) Q E s):
  OpR X f (rI0 λi j=>.int (g i j)):=by
 intro b8 s σ H x y v u Q I G O h;obtain⟨i,j,rfl,rfl,q⟩:=h;obtain⟨t,rfl⟩:=G;obtain⟨t',rfl⟩:=O;exact rule i j t t' s _ _ ⟨.int (g i j),H,I.tok _,⟨_,rfl⟩,q⟩
theorem opB0{f:Aa->Aa->Sem Aa}{g:Int->Int->Bool}(rule:∀(i j:Int) (t u:Tok) (s:Ac) (Q:Aa->Ac->Prop) (E:Aa->Ac->Prop),Q (.bool (g i j)) s->wpAny (model X.prog X.w) X.A (f (.int i t) (.int j u)) Q E s):
  OpR X f (rI0 λi j=>.bl (g i j)):=by
 intro b8 s σ H x y v u Q I G O h;obtain⟨i,j,rfl,rfl,q⟩:=h;obtain⟨t,rfl⟩:=G;obtain⟨t',rfl⟩:=O;exact rule i j t t' s _ _ ⟨.bl (g i j),H,I,rfl,q⟩
def CDiv (i j:Int):Prop:=0<j/\j<1073741824
def CPow (i j:Int):Prop:=0<=j/\j<=1000000/\i.natAbs<2 ^ 64
def CMul (i j:Int):Prop:=(-(2 ^ 64)<i/\i<2 ^ 64)∨(-(2 ^ 64)<j/\j<2 ^ 64)
theorem CMul.ok{i j:Int}(h:CMul i j):IntMulOk i j:=by
 rcases h with ⟨h1,h2⟩ | ⟨h1,h2⟩
 .exact .of_left (intBits_le_64 h1 h2)
 .exact .of_right (intBits_le_64 h1 h2)
theorem Yd:OpR X (Al .Add) (rI0 λi j=>.int (i+j)):=opI0 λ_ _ _ _ _ _ _ q=>add_int q
theorem Ja:OpR X (Al .Sub) (rI0 λi j=>.int (i-j)):=opI0 λ_ _ _ _ _ _ _ q=>sub_int q
theorem P1:OpR X (Al .Mult) (rI CMul λi j=>.int (i*j)):=opI λ_ _ _ _ _ _ _ G q=>mul_int q G.ok
theorem ZY:OpR X (Al .FloorDiv) (rI CDiv λi j=>.int (i / j)):=opI λi j _ _ _ _ _ G q=>by
 have h1:(0:Int)<j:=G.1;have h2:j<1073741824:=G.2;exact floordiv_int (by lia) (by rw[Int.fdiv_eq_ediv_of_nonneg i (by lia)];exact q) (.inl (PyProof.noPylong_small (by lia)))
theorem ZS:OpR X (Al .Mod) (rI (λ_ j=>0<j) λi j=>.int (i % j)):=opI λi j _ _ _ _ _ G q=>by
 have h1:(0:Int)<j:=G;exact mod_int' (by lia) (by rw[Int.fmod_eq_emod_of_nonneg i (by lia)];exact q)
theorem OZ:OpR X (Al .Pow) (rI CPow λi j=>.int (i ^ j.toNat)):=opI λ_ _ _ _ _ _ _ G q=>pow_int_small G.1 G.2.1 G.2.2 q
theorem unI{f:Aa->Sem Aa}{g:Int->Int}(rule:∀(i:Int) (t:Tok) (s:Ac) (Q:Aa->Ac->Prop) (E:Aa->Ac->Prop),Q (.int (g i) s.toks) { s with toks:=s.toks+1 }->wpAny (model X.prog X.w) X.A (f (.int i t)) Q E s):
  UnR X f (rU λi=>.int (g i)):=by
 intro b8 s σ H x v Q I G h;obtain⟨i,rfl,q⟩:=h;obtain⟨t,rfl⟩:=G;exact rule i t s _ _ ⟨.int (g i),H,I.tok _,⟨_,rfl⟩,q⟩
theorem X5:UnR X (unaryOp .USub) (rU λi=>.int (-i)):=unI λ_ _ _ _ _ q=>neg_int q
end
def scal:V->V->Bool
 | .non,.non=>true | .non,.int _=>true | .int _,.non=>true | .non,.bl _=>true | .bl _,.non=>true | .non,.str _=>true | .str _,.non=>true
 | .int _,.int _=>true | .bl _,.bl _=>true | .str _,.str _=>true | .byt _,.byt _=>true
 | .int _,.str _=>true | .str _,.int _=>true | .bl _,.str _=>true | .str _,.bl _=>true
 | _,_=>false
def rEq:R2:=λx y H Q=>scal x y=true/\Q (.bl (decide (x=y))) H
def rNe:R2:=λx y H Q=>scal x y=true/\Q (.bl (!decide (x=y))) H
theorem Zp{i j:Int}:decide (V.int i=V.int j)=(i==j):=by
 rw[wK];simp
theorem Dn{i j:Bool}:decide (V.bl i=V.bl j)=(i==j):=by
 rw[wK];simp
theorem Tv{i j:Str}:decide (V.str i=V.str j)=(i==j):=by
 rw[wK];simp
theorem Tw{i j:Array UInt8}:decide (V.byt i=V.byt j)=(i.toList==j.toList):=by
 rw[wK];cases i;cases j;simp
section
variable {X:Cx}{a b c:Ah}{ta tb tc:TE}{pos:Pos}
theorem ZN{σ:St}{H:Hp}{s:Ac}{Q:VK}{k G:Bool}(I:Inv X b8 σ H s)(q:Q (.bl k) H)(e:k=G):EP X b8 σ Q (.bool G) s:=by
 subst e;exact⟨.bl k,H,I,rfl,q⟩
theorem Js:OpR X (Ak .Eq) rEq:=by
 intro b8 s σ H x y v u Q I O G h;obtain⟨hs,q⟩:=h;cases x with
 | non =>
  cases O;cases y with
  | non=>cases G;exact PySem.EqNone.eq_none_none (ZN I q (by simp))
  | bl j=>cases G;exact PySem.EqNone.eq_none_bool (ZN I q (by simp))
  | int j=>obtain⟨t',rfl⟩:=G;exact PySem.EqNone.eq_none_int (ZN I q (by simp))
  | str j=>obtain⟨t',rfl⟩:=G;exact PySem.EqNone.eq_none_str (ZN I q (by simp))
  | _=>exact xX (show false=true from hs) zW
 | bl i =>
  cases O;cases y with
  | non=>cases G;exact PySem.EqNone.eq_bool_none (ZN I q (by simp))
  | bl j=>cases G;exact eq_bool (ZN I q Dn)
  | str j=>obtain⟨t',rfl⟩:=G;exact PySem.EqMixed.eq_bool_str (ZN I q (by simp))
  | _=>exact xX (show false=true from hs) zW
 | int i =>
  obtain⟨t,rfl⟩:=O;cases y with
  | non=>cases G;exact PySem.EqNone.eq_int_none (ZN I q (by simp))
  | int j=>obtain⟨t',rfl⟩:=G;exact eq_int (ZN I q Zp)
  | str j=>obtain⟨t',rfl⟩:=G;exact PySem.EqMixed.eq_int_str (ZN I q (by simp))
  | _=>exact xX (show false=true from hs) zW
 | str i =>
  obtain⟨t,rfl⟩:=O;cases y with
  | non=>cases G;exact PySem.EqNone.eq_str_none (ZN I q (by simp))
  | bl j=>cases G;exact PySem.EqMixed.eq_str_bool (ZN I q (by simp))
  | int j=>obtain⟨t',rfl⟩:=G;exact PySem.EqMixed.eq_str_int (ZN I q (by simp))
  | str j=>obtain⟨t',rfl⟩:=G;exact eq_str (ZN I q Tv)
  | _=>exact xX (show false=true from hs) zW
 | byt i =>
  obtain⟨t,rfl⟩:=O;cases y with
  | byt j=>obtain⟨t',rfl⟩:=G;exact PySem.W.eq_bytes (ZN I q Tw)
  | _=>exact xX (show false=true from hs) zW
 | _=>cases y <;> exact xX (show false=true from hs) zW
theorem VP:OpR X (Ak .NotEq) rNe:=by
 intro b8 s σ H x y v u Q I O G h;obtain⟨hs,q⟩:=h;cases x with
 | non =>
  cases O;cases y with
  | non=>cases G;exact PySem.EqNone.ne_none_none (ZN I q (by simp))
  | bl j=>cases G;exact PySem.EqNone.ne_none_bool (ZN I q (by simp))
  | int j=>obtain⟨t',rfl⟩:=G;exact PySem.EqNone.ne_none_int (ZN I q (by simp))
  | str j=>obtain⟨t',rfl⟩:=G;exact PySem.EqNone.ne_none_str (ZN I q (by simp))
  | _=>exact xX (show false=true from hs) zW
 | bl i =>
  cases O;cases y with
  | non=>cases G;exact PySem.EqNone.ne_bool_none (ZN I q (by simp))
  | bl j=>cases G;exact ne_bool (ZN I q (xQ not Dn))
  | str j=>obtain⟨t',rfl⟩:=G;exact PySem.EqMixed.ne_bool_str (ZN I q (by simp))
  | _=>exact xX (show false=true from hs) zW
 | int i =>
  obtain⟨t,rfl⟩:=O;cases y with
  | non=>cases G;exact PySem.EqNone.ne_int_none (ZN I q (by simp))
  | int j=>obtain⟨t',rfl⟩:=G;exact ne_int (ZN I q (xQ not Zp))
  | str j=>obtain⟨t',rfl⟩:=G;exact PySem.EqMixed.ne_int_str (ZN I q (by simp))
  | _=>exact xX (show false=true from hs) zW
 | str i =>
  obtain⟨t,rfl⟩:=O;cases y with
  | non=>cases G;exact PySem.EqNone.ne_str_none (ZN I q (by simp))
  | bl j=>cases G;exact PySem.EqMixed.ne_str_bool (ZN I q (by simp))
  | int j=>obtain⟨t',rfl⟩:=G;exact PySem.EqMixed.ne_str_int (ZN I q (by simp))
  | str j=>obtain⟨t',rfl⟩:=G;exact ne_str (ZN I q (xQ not Tv))
  | _=>exact xX (show false=true from hs) zW
 | byt i =>
  obtain⟨t,rfl⟩:=O;cases y with
  | byt j=>obtain⟨t',rfl⟩:=G;exact PySem.W.ne_bytes (ZN I q (xQ not Tw))
  | _=>exact xX (show false=true from hs) zW
 | _=>cases y <;> exact xX (show false=true from hs) zW
theorem VQ:OpR X (Ak .Lt) (rI0 λi j=>.bl (decide (i<j))):=opB0 λ_ _ _ _ _ _ _ q=>lt_int q
theorem QC:OpR X (Ak .LtE) (rI0 λi j=>.bl (decide (i<=j))):=opB0 λ_ _ _ _ _ _ _ q=>le_int q
theorem Tb:OpR X (Ak .Gt) (rI0 λi j=>.bl (decide (j<i))):=opB0 λ_ _ _ _ _ _ _ q=>gt_int q
theorem ED:OpR X (Ak .GtE) (rI0 λi j=>.bl (decide (j<=i))):=opB0 λ_ _ _ _ _ _ _ q=>ge_int q
theorem Gh:OpR X (Ak .IsNot) (λx y H Q=>y = .non/\Q (.bl (!decide (x = .non))) H):=by
 intro b8 s σ H x y v u Q I G O h;obtain⟨rfl,q⟩:=h;cases O;refine isnot_none_gen (ZN I q ?_);cases x <;> first
  | (cases G;rfl)
  | (obtain⟨t,rfl⟩:=G;rfl)
theorem nomark(b:Ah){G:CmpOp}(h:G ≠ .In:=by decide)(h2:G ≠ .NotIn:=by decide):behindInMarks G b=false:=by
 have e1:(G==CmpOp.In)=false:=by cases G <;> first | rfl | exact xX rfl h
 have e2:(G==CmpOp.NotIn)=false:=by cases G <;> first | rfl | exact xX rfl h2
 cases b <;> simp[behindInMarks,e1,e2]
theorem ZH{G:CmpOp}{r:R2}(Z:OpR X (Ak G) r)(ha:PE X a ta)(V:PE X b tb)(hm:behindInMarks G b=false):PE X (.Compare a [G] [b] pos) (tOp r ta tb):=by
 intro b8 s σ H Q I h;exact wpAny_Compare1 (binT ha V I h λv u s2 x y H2 I2 O W q=>Z b8 s2 σ H2 x y v u Q I2 O W q) hm
def Og(t:TE):TT:=λσ H Q=>t σ H λx H'=>∃k,x = .bl k/\Q k H'
theorem Zl{G:CmpOp}{r:R2}(ho:OpR X (Ak G) r)(ha:PE X a ta)(V:PE X b tb)(hm:behindInMarks G b=false):PT X (.Compare a [G] [b] pos) (Og (tOp r ta tb)):=by
 intro b8 s σ H Q I h;refine wpAny_isTrue_Compare1 (thn (ha b8 s σ H _ I h) λv s1 ⟨x,H1,I1,r1,q1⟩=>thn (V b8 s1 σ H1 _ I1 q1) λu s2 ⟨y,H2,I2,Z,q2⟩ =>
  thn (ho b8 s2 σ H2 x y v u _ I2 r1 Z q2) λc s3 ⟨z,H3,W,r3,k,e,O⟩=>?_) hm
 subst e;cases r3;exact wpAny_truthy_bool ⟨H3,W,O⟩
def L8(r r':R2)(ta tb tc:TE):TE:=λσ H Q=>ta σ H λx H1=>tb σ H1 λy H2=>r x y H2 λz H3=>∃k,z = .bl k /\
 (if k=true then tc σ H3 λw' H4=>r' y w' H4 Q else Q (.bl false) H3)
theorem My{V G:CmpOp}{r r':R2}(ho:OpR X (Ak V) r)(O:OpR X (Ak G) r')(ha:PE X a ta)(hb:PE X b tb)(hc:PE X c tc)(hm:lastMarks [V,G] [b,c]=false:=by with_unfolding_all rfl):PE X (.Compare a [V,G] [b,c] pos) (L8 r r' ta tb tc):=by
 intro b8 s σ H Q I h;refine Compare_chain (thn (ha b8 s σ H _ I h) λv s1 ⟨x,H1,I1,r1,q1⟩=>chain_link (thn (hb b8 s1 σ H1 _ I1 q1) λu s2 ⟨y,H2,I2,r2,q2⟩ =>
  thn (ho b8 s2 σ H2 x y v u _ I2 r1 r2 q2) λd s3 ⟨z,H3,Z,r3,k,e,W⟩=>?_)) hm
 subst e;cases r3;refine wpAny_truthy_bool ?_;cases k with
 | false=>exact ite_ff ⟨.bl false,H3,Z,rfl,W⟩
 | true=>exact ite_tt (chain_last (thn (hc b8 s3 σ H3 _ Z W) λw' s4 qy=>by obtain⟨z',H4,I4,r4,q4⟩:=qy;exact O b8 s4 σ H4 y z' u w' Q I4 r2 r4 q4))
theorem LH{W G:CmpOp}{r r':R2}(ho:OpR X (Ak W) r)(O:OpR X (Ak G) r')(ha:PE X a ta)(hb:PE X b tb)(hc:PE X c tc)(hm:lastMarks [W,G] [b,c]=false:=by with_unfolding_all rfl):PT X (.Compare a [W,G] [b,c] pos) (Og (L8 r r' ta tb tc)):=by
 intro b8 s σ H Q I h;refine isTrue_chain (thn (ha b8 s σ H _ I h) λv s1 ⟨x,H1,I1,r1,q1⟩=>test_link (thn (hb b8 s1 σ H1 _ I1 q1) λu s2 ⟨y,H2,I2,r2,q2⟩ =>
  thn (ho b8 s2 σ H2 x y v u _ I2 r1 r2 q2) λd s3 ⟨z,H3,I3,r3,k,e,q3⟩=>?_)) hm
 subst e;cases r3;refine wpAny_truthy_bool ?_;cases k with
 | false =>
  obtain⟨k',e',q'⟩:=q3;cases e';exact ite_ff ⟨H3,I3,q'⟩
 | true =>
  refine ite_tt (test_last (thn (hc b8 s3 σ H3 _ I3 q3) λw' s4 Z=>?_));obtain⟨z',H4,I4,r4,q4⟩:=Z;refine thn (O b8 s4 σ H4 y z' u w' _ I4 r2 r4 q4) λd' s5 V=>?_;obtain⟨z2,H5,I5,r5,k2,e2,q5⟩:=V;subst e2;cases r5;exact wpAny_truthy_bool ⟨H5,I5,q5⟩
theorem Gv:(zF:Nat)<2 ^ 63:=by rw[sizeLine_eq];decide
theorem JN{x:V}(r:Vals [x] us):∃u,us=[u]/\RelV x u:=by
 cases r with
 | cons O G=>cases G;exact⟨_,rfl,O⟩
theorem RX{x y:V}(r:Vals [x,y] us):∃u G,us=[u,G]/\RelV x u/\RelV y G:=by
 cases r with
 | cons W Z =>
  cases Z with
  | cons r3 O=>cases O;exact⟨_,_,rfl,W,r3⟩
theorem WQ(O:X.calm=true):Jt X (.builtin "max") (λxs H Q=>∃i j,xs=[.int i,.int j]/\Q (.int (if j>i then j else i)) H):=by
 intro b8 s σ H xs us Q I r h;obtain⟨i,j,rfl,q⟩:=h;obtain⟨u,V,rfl,⟨t,rfl⟩,⟨t',rfl⟩⟩:=RX r;refine max_two_ints (I.ok.hd O) λh' tk k=>⟨_,H,I.kept k,?_,q⟩;by_cases G:j>i
 .rw[xY G,xY G];exact⟨_,rfl⟩
 .rw[xZ G,xZ G];exact⟨_,rfl⟩
end
structure ObjM(h:Heap)(x dx C:Ab)(mA:Str->Option Aa):Prop where
 obj:h.get? x=some (instObj C dx)
 ns:h.Ns1 dx mA
 ne:dx≠x
theorem WC(n:h.Ns1 dx mA):∃od,h.get? dx=some od/\∀name,lookIn name od=some (mA name):=by
 obtain⟨o,es,ep,W,O,V,_,hm⟩:=n;refine⟨o,W,λname=>?_⟩;have e:=hm name;unfold nsFind findBy at e;rw[<-Array.find?_toList] at e;unfold lookIn;rw[O];dsimp only;split
 .rename_i y q;rw[q] at e;exact xQ some e
 .rename_i q;rw[q] at e;have a:es.toList.any (·.refKey)=false:=by
   rw[jC];intro y hy;obtain⟨z,t,G⟩:=V y (qU.mp hy);simp[DictEntry.refKey,G]
  have Z:¬ es.toList.any (·.refKey)=true:=by rw[a];exact zW
  rw[xZ Z];exact xQ some e
theorem ObjM.look{x:Ab}(I:ObjM h x dx C mA):∃od,PySem.W.InstAt h x (instObj C dx) C (some od)/\∀name,lookIn name od=some (mA name):=
 let ⟨od,ho,hl⟩:=WC I.ns
 ⟨od,⟨I.obj,rfl,rfl,ho⟩,hl⟩
section
variable {prog:Ae}{w:Af}{A:Ag}{E:Aa->Ac->Prop}{s:Ac}{K:Frag}{x dx C f:Ab}{mA:Str->Option Aa}{name:Str}{v:Aa}
theorem KZ{G:Bool}{Q:Aa->Ac->Prop}(X:K.In s.heap)(I:ObjM s.heap x dx C mA)(hg:plainGet K C name=true)(V:hasDictIn K C=true)(ha:findIn K (.ref C) name=some none)(Z:mA name=some v)(O:handedIn v=true)(h:Q v { s with toks:=s.toks+1 }):
  wpAny (model prog w) A (getAttr (.ref x) name G) Q E s:=by
 obtain⟨od,J,hl⟩:=I.look;exact PySem.W.get_value X J (plainGet_of hg).1 (findObj_own V ha rfl (by rw[hl,Z])) O h
theorem PU{pl:Sem Bool}{Q:Aa×List Aa->Ac->Prop}(X:K.In s.heap)(I:ObjM s.heap x dx C mA)(G:plainGet K C name=true)(hf:findIn K (.ref C) name=some (some (.ref f)))(Z:isFn K (.ref f)=true)(V:mA name=none)(h:Q (.ref f,[.ref x]) s):
  wpAny (model prog w) A (getMethod (.ref x) name pl) Q E s:=by
 obtain⟨od,J,O⟩:=I.look;exact PySem.W.method_fn X J (plainGet_of G).1 (plainGet_of G).2 hf (xS.mp Z) (by show(lookIn name od).map (·.isSome)=some false;rw[O,V];rfl) h
theorem Kl{ns:List Str}{Q:Unit->Ac->Prop}(X:K.In s.heap)(I:ObjM s.heap x dx C mA)(hs:findIn K (.ref C) "__setattr__"=some (some (.builtin "object.__setattr__")))(hp:plainOver K C=true)(ht:takerIn K C name=some none)(hh:hasDictIn K C=true)(hw:PySem.Within mA ns)(hsz:ns.length<=zF)(h:∀h',ObjM h' x dx C (λy=>if y=name then some v else mA y)->Heap.SameBut dx s.heap h'->Q () { s with heap:=h',toks:=s.toks+2 }):
  wpAny (model prog w) A (setAttr (.ref x) name v) Q E s:=by
 obtain⟨od,J,hl⟩:=I.look;refine set_plain X J hs (PySem.W.osa_open (s:={ s with toks:=s.toks+1 }) (r:=none) X J hp ht λb=>?_)
 obtain⟨cd,hc,V⟩:=PySem.W.any_some hh;have hx:s.heap.get? x=some ⟨.ref C,some dx,.plain,#[]⟩:=I.obj;refine zA (zB (zA (zA (wpAny_loadPart hx (zA (PySem.W.Looks.here (s:={ s with toks:=s.toks+1 }) (looks_clsIn X hc) ?_))))))
 rw[V];refine zB (a:=some dx) (zA (zB (zA ?_)));refine wpAny_nsSet1 (s:={ s with toks:=s.toks+1 }) I.ns λh' O G=>?_
 obtain⟨oD,ae,ad,aa,ac,Z⟩:=O.count (PySem.Within.cons name v hw);refine zA (wpAny_lookBehind aa (by rw[ac];exact pastItsLine_dict (yU Z (by rw[xF];lia))) ?_)
 exact zB (h _ ⟨(G.2 _ (Ne.symm I.ne)).trans I.obj,O,I.ne⟩ G)
theorem Pm{R:Result->Ac->Prop}{vs:List Aa}(X:K.In s.heap)(G:makesIn K C=true)(hi:findIn K (.ref C) "__init__"=some (some (.ref f)))(O:PySem.W.typeIn K (.ref f)=some (.type "function"))(h:codeAny (model prog w) (A.under (.builtin "type.__call__" ⟨.ref C::vs,kw⟩)) (.call (.ref f) ⟨.ref (s.heap.objs.size+1)::vs,kw⟩) (InitBack (s.heap.objs.size+1) R)
 { s with heap:=(s.heap.push emptyDict).push (instObj C s.heap.objs.size) }):
  codeAny (model prog w) A (.call (.ref C) ⟨vs,kw⟩) R s:=by
 obtain⟨V,g,d,t,os⟩:=s;exact PySem.W.make_core (PySem.W.makes_of X G) (PySem.W.looks_findIn X hi) (λself=>bind_fn X self O) (.inl rfl) h
end
def putF (f:Str)(v:V):List (Str×V)->List (Str×V)
 | []=>[(f,v)]
 | (g,x)::r=>if g=f then(g,v)::r else(g,x)::putF f v r
theorem QD(f g:Str)(v:V):∀fs:List (Str×V),(putF f v fs).lookup g=if g=f then some v else fs.lookup g
 | []=>by
  show wV g [(f,v)]=_;by_cases h:g=f
  .have G:(g==f)=true:=xS.mpr h;simp only[wV,G,xY h]
  .have G:(g==f)=false:=xT.mpr h;simp only[wV,G,xZ h]
 | (k,x)::r=>by
  have W:=QD f g v r;rw[show putF f v ((k,x)::r)=(if k=f then(k,v)::r else(k,x)::putF f v r) from rfl]
  by_cases O:k=f
  .rw[xY O];by_cases h:g=k
   .have G:(g==k)=true:=xS.mpr h;simp only[wV,G,xY (h.trans O)]
   .have G:(g==k)=false:=xT.mpr h;simp only[wV,G,xZ (λe:g=f=>h (e.trans O.symm))]
  .rw[xZ O];by_cases h:g=k
   .have G:(g==k)=true:=xS.mpr h;simp only[wV,G,xZ (λe:g=f=>O (h.symm.trans e))]
   .have G:(g==k)=false:=xT.mpr h;simp only[wV,G];exact W
theorem Qm(f:Str)(v:V):∀fs:List (Str×V),f∈(putF f v fs).map (·.1)/\∀g,g∈fs.map (·.1)->g∈(putF f v fs).map (·.1)
 | []=>⟨by simp[putF],λg h=>by simp at h⟩
 | (k,x)::r=>by
  obtain⟨i1,i2⟩:=Qm f v r;rw[show putF f v ((k,x)::r)=(if k=f then(k,v)::r else(k,x)::putF f v r) from rfl]
  by_cases G:k=f
  .rw[xY G];subst G;exact⟨by simp,λg h=>by simpa using h⟩
  .rw[xZ G];refine⟨?_,λg h=>?_⟩
   .rw[yV];exact yB _ i1
   .rw[yV] at h ⊢;rcases yF.mp h with e | e
    .exact yF.mpr (.inl e)
    .exact yB _ (i2 g e)
theorem QE(f:Str)(v:V):∀fs:List (Str×V),(putF f v fs).length<=fs.length+1
 | []=>by simp[putF]
 | (k,x)::r=>by
  have O:=QE f v r;rw[show putF f v ((k,x)::r)=(if k=f then(k,v)::r else(k,x)::putF f v r) from rfl]
  by_cases G:k=f
  .rw[xY G,xF,xF];lia
  .rw[xZ G,xF,xF];lia
theorem RelO.some_of{v:V}{o:Option Aa}(r:RelO (some v) o):∃u,o=some u/\RelV v u:=by
 cases o with
 | none=>exact(show False from r).elim
 | some u=>exact⟨u,rfl,r⟩
theorem RelO.none_of{o:Option Aa}(r:RelO none o):o=none:=by
 cases o with
 | none=>rfl
 | some u=>exact(show False from r).elim
theorem WL{v:V}(r:RelV v u):handedIn u=true:=by
 cases v with
 | non=>cases (show u=Value.none from r);rfl
 | bl b=>cases (show u=Value.bool b from r);rfl
 | int i=>obtain⟨t,e⟩:=(show ∃t,u=Value.int i t from r);cases e;rfl
 | str x=>obtain⟨t,e⟩:=(show ∃t,u=Value.str x t from r);cases e;rfl
 | byt b=>obtain⟨t,e⟩:=(show ∃t,u=Value.bytes b t from r);cases e;rfl
 | flt b=>obtain⟨t,e⟩:=(show ∃t,u=Value.float b t from r);cases e;rfl
 | ref a=>cases (show u=Value.ref a from r);rfl
 | ty n=>cases (show u=Value.type n from r);rfl
section
variable {P:Ae}{w:Af}{H H':Hp}{h h':Heap}{a C dx:Ab}{fs fs':List (Str×V)}
theorem QV(G:HOk P w H h)(e:H a=some (.ins C dx fs)):∃mA,ObjM h a dx C mA/\(∀f,RelO (fs.lookup f) (mA f))/\PySem.Within mA (fs.map (·.1))/\fs.length<=1000/\H dx=some (.own a):=by
 obtain⟨d,z,O,V,mA,n,r,q⟩:=(show ObjOk P w H h a (.ins C dx fs) from G a _ e)
 exact⟨mA,⟨V,n,O⟩,r,q,z,d⟩
end
structure Cls(K:Frag)(C:Ab):Prop where
 pg:plainGet K C Str.empty=true
 hd:hasDictIn K C=true
 po:plainOver K C=true
 sa:findIn K (.ref C) "__setattr__"=some (some (.builtin "object.__setattr__"))
theorem Cls.get(c:Cls K C)(f:Str):plainGet K C f=true:=c.pg
def YF(K:Frag)(C:Ab)(f:Str):Prop:=findIn K (.ref C) f=some none
theorem YF.taker{f:Str}(n:YF K C f):takerIn K C f=some none:=by
 unfold takerIn;rw[show findIn K (.ref C) f=some none from n]
 rfl
structure Meth(K:Frag)(C:Ab)(m:Str)(f:Ab):Prop where
 at_:findIn K (.ref C) m=some (some (.ref f))
 fn:isFn K (.ref f)=true
 kp:keepIn K (.ref f)=true
section
variable {X:Cx}{b8:List (Ab×Obj)}{σ:St}{H:Hp}{s:Ac}{a C dx:Ab}{fs:List (Str×V)}{f:Str}{v:V}{A:Ag}{E:Aa->Ac->Prop}
theorem Dh{b:Bool}{Q:Aa->Ac->Prop}(I:Inv X b8 σ H s)(e:H a=some (.ins C dx fs))(c:Cls X.K C)(n:YF X.K C f)(l:fs.lookup f=some v)(h:∀u s',Inv X b8 σ H s'->RelV v u->Q u s'):wpAny (model X.prog X.w) A (getAttr (.ref a) f b) Q E s:=by
 obtain⟨mA,O,r,_,_,_⟩:=QV I.hok e;obtain⟨u,V,G⟩:=RelO.some_of (v:=v) (o:=mA f) (by rw[<-l];exact r f)
 exact KZ I.kIn O (c.get f) c.hd n V (WL G) (h u _ (I.tok _) G)
theorem XI{m:Str}{g:Ab}{pl:Sem Bool}{Q:Aa×List Aa->Ac->Prop}(I:Inv X b8 σ H s)(e:H a=some (.ins C dx fs))(c:Cls X.K C)(k:Meth X.K C m g)(l:fs.lookup m=none)(h:Q (.ref g,[.ref a]) s):wpAny (model X.prog X.w) A (getMethod (.ref a) m pl) Q E s:=by
 obtain⟨mA,O,r,_,_,_⟩:=QV I.hok e;have G:mA m=none:=RelO.none_of (by rw[<-l];exact r m)
 exact PU I.kIn O (c.get m) k.at_ k.fn G h
theorem Nt{y:V}{Q:Unit->Ac->Prop}(I:Inv X b8 σ H s)(e:H a=some (.ins C dx fs))(c:Cls X.K C)(n:YF X.K C f)(hl:fs.length<1000)(ry:RelV y u)(h:∀s',Inv X b8 σ (upd H a (.ins C dx (putF f y fs))) s'->Q () s'):wpAny (model X.prog X.w) A (setAttr (.ref a) f u) Q E s:=by
 obtain⟨mA,O,r,wi,_,W⟩:=QV I.hok e;have hz:(fs.map (·.1)).length<=zF:=by rw[zK,sizeLine_eq];lia
 refine Kl I.kIn O c.sa c.po n.taker c.hd wi hz λh' G Z=>h _ ?_;have hd:∃o,h'.get? dx=some o:=let ⟨o,_,_,e',_⟩:=G.ns;⟨o,e'⟩
 refine I.write (x:=a) (e:=dx) (by rw[e];exact True.intro) (.inr W) (λb q hb z=>(Z.2 b hb).trans z) hd ?_
 refine⟨by rw[Z5 O.ne];exact W,?_,O.ne,G.obj,_,G.ns,λg=>?_,λg hg=>?_⟩
 .have:=QE f y fs;lia
 .show RelO ((putF f y fs).lookup g) (if g=f then some u else mA g);rw[QD];by_cases q:g=f
  .rw[xY q,xY q];exact ry
  .rw[xZ q,xZ q];exact r g
 .by_cases q:g=f
  .rw[q];exact(Qm f y fs).1
  .refine(Qm f y fs).2 g (wi g λz=>hg ?_);show(if g=f then some u else mA g)=none;rw[xZ q];exact z
theorem Inv.made(I:Inv X b8 σ H s):Inv X b8 σ (upd (upd H s.heap.objs.size (.own (s.heap.objs.size+1))) (s.heap.objs.size+1) (.ins C s.heap.objs.size []))
  { s with heap:=(s.heap.push emptyDict).push (instObj C s.heap.objs.size) }:=by
 have e1:(s.heap.push emptyDict).get? s.heap.objs.size=some emptyDict:=zU s.heap rfl;have e2:((s.heap.push emptyDict).push (instObj C s.heap.objs.size)).get? (s.heap.objs.size+1)=some (instObj C s.heap.objs.size):=by
  have:=zU (s.heap.push emptyDict) (o:=instObj C s.heap.objs.size) rfl
  rwa[wG] at this
 have e3:(s.heap.push emptyDict).Ns s.heap.objs.size (λ_=>none):=⟨emptyDict,#[],_,e1,rfl,(λe O=>xX O (by simp)),λ_=>rfl⟩
 have W:=I.laid (a:=s.heap.objs.size) (o:=.own (s.heap.objs.size+1)) (h':=s.heap.push emptyDict) (t':=s.toks) (λb u q=>zL _ q) (zO _) ⟨_,e1⟩;refine W.laid (a:=s.heap.objs.size+1) (o:=.ins C s.heap.objs.size []) (t':=s.toks) (λb u q=>zL _ q) (uM (wG _ _)) ?_;have G:s.heap.objs.size≠s.heap.objs.size+1:=zX (uF _);refine⟨by rw[Z5 G,Z2],xD _,G,e2,λ_=>none,(Heap.Ns1.of_empty e3).at λo q=>zL _ q,λ_=>True.intro,λy V=>xX rfl V⟩
theorem Tz{prog:Ae}{Q:Aa->Ac->Prop}(O:attributeBase e f env (eval e env)=eval e env)(h:wpAny (model prog w) A (eval e env) (λo G=>wpAny (model prog w) A (getAttr o f true) Q E G) E s):wpAny (model prog w) A (eval (.Attribute e f pos) env) Q E s :=
 Attribute_any_ h (by rw[arm_eval_Attribute,O])
end
inductive IsF(K:Frag)(f:Str)(x:V)(H1:Hp)(Q:VK):Prop
 | mk (a C dx:Ab) (fs:List (Str×V)) (v:V) (e:x = .ref a) (o:H1 a=some (.ins C dx fs)) (c:Cls K C) (n:YF K C f) (l:fs.lookup f=some v) (h:Q v H1):IsF K f x H1 Q
def tFld (K:Frag)(ta:TE)(f:Str):TE:=λσ H Q=>ta σ H λx H1=>IsF K f x H1 Q
def sFld (K:Frag)(ta tv:TE)(f:Str):TS:=λD σ H=>tv σ H λy H1=>ta σ H1 λx H2=>∃a C dx fs,x = .ref a/\H2 a=some (.ins C dx fs)/\Cls K C/\YF K C f/\fs.length<1000 /\
 D.nx σ (upd H2 a (.ins C dx (putF f y fs)))
section
variable {X:Cx}{o e value:Ah}{f:Str}{pos pos' tpos:Pos}{ta tv:TE}
theorem Zi(V:PE X e ta)(W:attributeBase e f X.env (eval e X.env)=eval e X.env):PE X (.Attribute e f pos) (tFld X.K ta f):=by
 intro b8 s σ H Q I h;refine Tz W (thn (V b8 s σ H _ I h) λu s1 G=>?_);obtain⟨x,H1,Z,O,a,C,dx,fs,v,ex,ea,c,n,l,q⟩:=G;subst ex;obtain rfl:u=Value.ref a:=O;exact Dh Z ea c n l λu' s2 I2 ru=>⟨v,H1,I2,ru,q⟩
theorem J8(ha:PE X o ta)(W:PE X value tv)(hs:swapsWith value (some (.Attribute o f pos')) pos.line X.env=pure false):PS X (.Assign [.Attribute o f pos'] value pos) (sFld X.K ta tv f):=by
 intro b8 s σ H D I h;refine plainObj_wpAny_Assign_Attribute (thn (W b8 s σ H _ I h) λu s1 O=>?_) hs;obtain⟨y,H1,I1,ry,q⟩:=O;refine thn (ha b8 s1 σ H1 _ I1 q) λov s2 G=>?_;obtain⟨x,H2,I2,V,a,C,dx,fs,ex,ea,c,n,l,q2⟩:=G;subst ex;obtain rfl:ov=Value.ref a:=V;exact Nt I2 ea c n l ry λs3 Z=>⟨σ,_,Z,q2⟩
end
section
variable {X:Cx}{b8:List (Ab×Obj)}{σ:St}{H:Hp}{s:Ac}{A:Ag}{E:Aa->Ac->Prop}{Q:Aa->Ac->Prop}{c:Aa}{b:Bool}
inductive TyOf(K:Frag)(H:Hp):V->Aa->Prop where
 | non:TyOf K H .non (.type "NoneType")
 | bl (x:Bool):TyOf K H (.bl x) (.type "bool")
 | int (i:Int):TyOf K H (.int i) (.type "int")
 | str (x:Str):TyOf K H (.str x) (.type "str")
 | flt (x:UInt64):TyOf K H (.flt x) (.type "float")
 | lst {a:Ab} {xs:List V} (e:H a=some (.lst xs)):TyOf K H (.ref a) (.type "list")
 | frz {a:Ab} {o:Obj} {xs:List V} (e:H a=some (.frz o (.lst xs))):TyOf K H (.ref a) (.type "list")
 | tup {a:Ab} {xs:List V} (e:H a=some (.tup xs)):TyOf K H (.ref a) (.type "tuple")
 | dK {a:Ab} {kvs:List (Key×V)} (e:H a=some (.dK kvs)):TyOf K H (.ref a) (.type "dict")
 | dT {a:Ab} {kvs:List (List Key×V)} (e:H a=some (.dT kvs)):TyOf K H (.ref a) (.type "dict")
 | ins {a C dx:Ab} {fs:List (Str×V)} (e:H a=some (.ins C dx fs)) (cl:Cls K C) (ha:findIn K (.ref C) "__class__"=some (some (.builtin "object.__class__")))
   (hn:PySem.W.specialIn K (.builtin "object.__class__") "__get__"=some (some (.builtin "getset_descriptor.__get__"))) (htk:takesIn K (.builtin "object.__class__")=some true)
   (hm:PySem.W.mroIn K C (.type "object")=some true):TyOf K H (.ref a) (.ref C)
theorem RD{x:V}{t:Aa}(I:Inv X b8 σ H s)(G:RelV x u)(ty:TyOf X.K H x t)(e:PySem.W.kitOne X.K t c=some b)(h:∀tk,Q (.bool b) { s with toks:=tk }):
  wpAny (model X.prog X.w) A (call (.builtin "isinstance") [u,c]) Q E s:=by
 cases ty with
 | non=>cases (show u=Value.none from G);exact kia_one PySem.W.kitx_none I.kIn True.intro e (λz=>nomatch z) h
 | bl y=>cases (show u=Value.bool y from G);exact kia_one PySem.W.kitx_bool I.kIn True.intro e (λz=>nomatch z) h
 | int i=>obtain⟨t,q⟩:=(show ∃t,u=Value.int i t from G);cases q;exact kia_one PySem.W.kitx_int I.kIn True.intro e (λz=>nomatch z) h
 | str y=>obtain⟨t,q⟩:=(show ∃t,u=Value.str y t from G);cases q;exact kia_one PySem.W.kitx_str I.kIn True.intro e (λz=>nomatch z) h
 | flt y=>obtain⟨t,q⟩:=(show ∃t,u=Value.float y t from G);cases q;exact kia_one PySem.W.kitx_float I.kIn True.intro e (λz=>nomatch z) h
 | @lst a xs ea =>
  cases (show u=Value.ref a from G)
  obtain⟨_,_,n,_,h1⟩:=(show ObjOk X.prog X.w H s.heap a (.lst xs) from I.hok a _ ea)
  exact kia_one kitx_list I.kIn ⟨_,h1,rfl⟩ e (λz=>nomatch z) h
 | @frz a ob xs ea =>
  cases (show u=Value.ref a from G)
  obtain⟨_,_,_,n,_,h1⟩:=(show ObjOk X.prog X.w H s.heap a (.frz ob (.lst xs)) from I.hok a _ ea)
  exact kia_one kitx_list I.kIn ⟨_,h1,rfl⟩ e (λz=>nomatch z) h
 | @tup a xs ea =>
  cases (show u=Value.ref a from G)
  obtain⟨_,_,_,p⟩:=(show ObjOk X.prog X.w H s.heap a (.tup xs) from I.hok a _ ea)
  obtain⟨o,h1,h2,_⟩:=p;exact kia_one PySem.W.kitx_tuple I.kIn ⟨o,h1,h2⟩ e (λz=>nomatch z) h
 | @dK a kvs ea =>
  cases (show u=Value.ref a from G)
  obtain⟨_,_,vs,_,p⟩:=(show ObjOk X.prog X.w H s.heap a (.dK kvs) from I.hok a _ ea)
  obtain⟨o,es,ep,h1,h2,_⟩:=p;exact kia_one kitx_dict I.kIn ⟨o,h1,h2.1⟩ e (λz=>nomatch z) h
 | @dT a kvs ea =>
  cases (show u=Value.ref a from G)
  obtain⟨_,_,xs,_,o,es,ep,h1,h2,_⟩:=(show ObjOk X.prog X.w H s.heap a (.dT kvs) from I.hok a _ ea)
  exact kia_one kitx_dict I.kIn ⟨o,h1,h2.1⟩ e (λz=>nomatch z) h
 | @ins a C dx fs ea cl ha hn htk hm =>
  cases (show u=Value.ref a from G)
  obtain⟨mA,O,_⟩:=QV I.hok ea;obtain⟨od,J,_⟩:=O.look;exact kia_one (PySem.W.kitx_own (cl.get _) cl.hd ha hn htk hm) I.kIn J e (λz=>nomatch z) h
end
structure Room(k:Nat)(A:Ag):Prop where
 dp:A.depth+3*k+5<recursionLimit
 un:A.units+16*k+200<cLine
theorem Room.mono(r:Room k A)(h:j<=k):Room j A:=⟨by have:=r.dp;lia,by have:=r.un;lia⟩
theorem Room.deeper{k:Nat}{A:Ag}(r:Room (k+1) A)(env:Env):Room k (A.deeper env):=
 ⟨by have:=r.dp;show A.depth+1+3*k+5<_;lia,by have:=r.un;show A.units+3+16*k+200<_;lia⟩
theorem NW :(A.under (.builtin "type.__call__" ⟨.ref C::us,kw⟩)).depth=A.depth+1:=by
 first | rfl | simp[Around.under,Code.weight,Code.isCreation,Code.isGuard,Code.isCaller,Code.frames,Code.isFrame,guardIds]
theorem NV :(A.under (.builtin "type.__call__" ⟨.ref C::us,kw⟩)).units=A.units+1:=by
 first | rfl | simp[Around.under,Code.cUnits,Code.frames,Code.isFrame]
theorem Room.make(r:Room (k+1) A)(C:Ab)(us:List Aa)(kw:List (Str×Aa)):Room k (A.under (.builtin "type.__call__" ⟨.ref C::us,kw⟩)):=
 ⟨by have:=r.dp;rw[NW];lia,by have:=r.un;rw[NV];lia⟩
theorem Room.depth{k:Nat}{A:Ag}(r:Room k A):A.depth<recursionLimit:=by have:=r.dp;lia
theorem Room.units{k:Nat}{A:Ag}(r:Room k A):A.units+64<cLine:=by have:=r.un;lia
def tNil:TA:=λ_ H Q=>Q [] H
def Zs(ta:TE)(tr:TA):TA:=λσ H Q=>ta σ H λx H1=>tr σ H1 λxs H2=>Q (x::xs) H2
section
variable {X:Cx}{e:Ah}{es:List Ah}{te:TE}{t:TA}{pos:Pos}
theorem Z3:PA X [] tNil:=λ_ _ _ _ H Q I h=>Calls.spliced_nil ⟨[],H,I,.nil,h⟩
theorem Z0(ha:PE X e te)(V:PA X es t)(hs:zG (e::es) X.env=(false,eval e X.env)::zG es X.env:=by rfl):PA X (e::es) (Zs te t):=by
 intro pos b8 s σ H Q I h;rw[hs];show wpAny _ _ (spliced ((false,eval e X.env)::Ao pos (zG es X.env))) _ _ s;refine Calls.spliced_cons (thn (ha b8 s σ H _ I h) λu s1 G=>?_);obtain⟨x,H1,W,Z,q1⟩:=G;refine thn (V pos b8 s1 σ H1 _ W q1) λus s2 G=>?_;obtain⟨xs,H2,I2,O,q2⟩:=G;exact⟨x::xs,H2,I2,.cons Z O,q2⟩
def tTup (t:TA):TE:=λσ H Q=>t σ H λxs H1=>xs.length<=zF/\∀p,H1 p=none->Q (.ref p) (upd H1 p (.tup xs))
def tLst (t:TA):TE:=λσ H Q=>t σ H λxs H1=>xs.length<=zF/\∀p,H1 p=none->Q (.ref p) (upd H1 p (.lst xs))
theorem J9{x1}(h:PA X es t):PE X (.Tuple es x1 pos) (tTup t):=by
 intro b8 s σ H Q I O;refine wpAny_Tuple_spliced (thn (h pos b8 s σ H _ I O) λus s1 ⟨xs,H1,G,r,z,q⟩=>⟨by rw[<-r.length];exact z,?_⟩)
 have V:H1 s1.heap.objs.size=none:=G.hok.fresh (zO _);refine⟨.ref s1.heap.objs.size,upd H1 s1.heap.objs.size (.tup xs),G.laid (t':=s1.toks) (λb u e=>zL _ e) (zO _) ?_,rfl,q _ V⟩;exact⟨z,us,r,⟨_,zU _ rfl,rfl,_,rfl⟩⟩
theorem Zn(h:PA X es t):PE X (.List es pos) (tLst t):=by
 intro b8 s σ H Q I O;refine wpAny_List_spliced (thn (h pos b8 s σ H _ I O) λus s1 ⟨xs,H1,G,r,z,q⟩=>⟨by rw[<-r.length];exact z,?_⟩)
 have V:H1 s1.heap.objs.size=none:=G.hok.fresh (zO _);refine⟨.ref s1.heap.objs.size,upd H1 s1.heap.objs.size (.lst xs),G.laid (t':=s1.toks) (λb u e=>zL _ e) (zO _) ?_,rfl,q _ V⟩;exact⟨z,us,0,r,zU _ rfl⟩
end
abbrev Sp:=List V->Hp->VK->XK->Prop
structure CXT where
 rel:List Env->Hp->Ac->XK->Aa->Ac->Prop
 calm:Bool
instance:CoeFun CXT (λ_=>List Env->Hp->Ac->XK->Aa->Ac->Prop):=⟨CXT.rel⟩
structure Env0(P:Ae)(w:Af)(K:Frag)(mg:Str->Option Aa)(base:Heap)(A:Ag)(outer:List Env)(s:Ac)(H:Hp):Prop where
 frames:A.frames=some outer
 mod:Mod K mg base
 bs:∀b o,base.get? b=some o->s.heap.get? b=some o/\H b=none
 bsz:base.objs.size<=s.heap.objs.size
 funs:s.heap.FunFrames base outer
 frf:∀b∈frs outer,H b=none
 hok:HOk P w H s.heap
 bare:AllBare s.gens
 hdx:HdH A H
def CE (outer:List Env)(P:Ae)(w:Af)(H:Hp)(s:Ac)(Q:VK)(u:Aa)(s':Ac):Prop :=
 ∃v H',s'.os=s.os/\AllBare s'.gens/\Un (frs outer) [] H H' s.heap s'.heap/\HOk P w H' s'.heap/\RelV v u/\Q v H'
def CR (CX:CXT)(outer:List Env)(P:Ae)(w:Af)(H:Hp)(s:Ac)(Q:VK)(E:XK)(r:Result)(s':Ac):Prop :=
 match r with
 | .ok (.ret u)=>CE outer P w H s Q u s'
 | .ok _=>False
 | .error e=>CX outer H s E e s'
structure FnOk(P:Ae)(w:Af)(K:Frag)(mg:Str->Option Aa)(base:Heap)(CX:CXT)(k:Nat)(f:Ab)(fd:Ad)(ps:List Str)(sp:Sp):Prop where
 len:∀vs H Q E,sp vs H Q E->vs.length=ps.length
 run:∀(A:Ag) (outer:List Env) (s:Ac) (H:Hp) (args:Args) (us:List Aa) (vs:List V) (Q:VK) (E:XK),Room k A->(CX.calm=true->A.handled=none)->Env0 P w K mg base A outer s H->BindsTo s fd args (ps.zip us)->Vals vs us->sp vs H Q E ->
  codeAny (model P w) A (.call (.ref f) args) (CR CX outer P w H s Q E) s
theorem FnOk.mono{P:Ae}{w:Af}{K:Frag}{mg:Str->Option Aa}{base:Heap}{CX:CXT}{j k:Nat}{f:Ab}{fd:Ad}{ps:List Str}{sp:Sp}(F:FnOk P w K mg base CX j f fd ps sp)(h:j<=k):
  FnOk P w K mg base CX k f fd ps sp:=⟨F.len,λA outer s H args us vs Q E G=>F.run A outer s H args us vs Q E (G.mono h)⟩
theorem Env0.make{s:Ac}{H:Hp}(e:Env0 P w K mg base A outer s H)(C:Ab)(us:List Aa)(kw:List (Str×Aa)):
  Env0 P w K mg base (A.under (.builtin "type.__call__" ⟨.ref C::us,kw⟩)) outer s H:=⟨by first | exact e.frames | (simpa[Around.under,Code.envs,Code.isFrame,pushEnvs] using e.frames),e.mod,e.bs,e.bsz,e.funs,e.frf,e.hok,e.bare,e.hdx⟩
section
variable {X:Cx}{b8:List (Ab×Obj)}{σ:St}{H:Hp}{s s':Ac}
theorem Inv.env0(I:Inv X b8 σ H s):Env0 X.prog X.w X.K X.mg X.base X.A X.stack s H :=
 ⟨I.ok.frames,I.ok.mod,I.bs,yU I.ok.bsz I.sz,I.stack,I.stkFree,I.hok,I.bare,I.hdh⟩
theorem Inv.after{Q:VK}(I:Inv X b8 σ H s)(h:CE X.stack X.prog X.w H s Q u s'):EP X b8 σ Q u s':=by
 obtain⟨v,H',os,G,Z,V,r,q⟩:=h;obtain⟨W,g,d,t,O⟩:=s';obtain rfl:O=s.os:=os;exact⟨v,H',I.call (h':=W) (g':=g) (d':=d) (t':=t) (ch:=[]) Z V G (λb z=>xX z (by simp)),r,q⟩
end
def Dw(sp:Sp)(dvs:List V)(E:XK)(t:TA):TE:=λσ H Q=>t σ H λvs H1=>sp (vs++dvs) H1 Q E
inductive IsM(C:Ab)(m:Str)(x:V)(H1:Hp)(P:Prop):Prop
 | mk (a dx:Ab) (fs:List (Str×V)) (e:x = .ref a) (o:H1 a=some (.ins C dx fs)) (l:fs.lookup m=none) (h:P):IsM C m x H1 P
def VE(C:Ab)(m:Str)(sp:Sp)(dvs:List V)(E:XK)(ta:TE)(t:TA):TE:=λσ H Q=>ta σ H λx H1=>IsM C m x H1 (t σ H1 λvs H2=>sp (x::(vs++dvs)) H2 Q E)
def Qv(C:Ab)(sp:Sp)(dvs:List V)(E:XK)(t:TA):TE:=λσ H Q=>t σ H λvs H1=>∀x dx,H1 x=none->H1 dx=none->dx≠x ->
 sp (.ref x::(vs++dvs)) (upd (upd H1 dx (.own x)) x (.ins C dx [])) (λv H2=>v = .non/\Q (.ref x) H2) E
def Binds(K:Frag)(fd:Ad)(ps:List Str)(ds:List Aa):Prop :=
 ∀(s:Ac) (us:List Aa),K.In s.heap->(us++ds).length=ps.length->BindsTo s fd ⟨us,[]⟩ (ps.zip (us++ds))
theorem Binds.all{fd:Ad}(h:∀us:List Aa,us.length=ps.length->bindArgs fd ⟨us,[]⟩=pure (ps.zip us)):Binds K fd ps []:=λs us _ G=>by
 rw[wC] at G ⊢;exact .of_eq (h us G)
def Passes(CX:CXT)(X:Cx)(E:XK):Prop:=∀(b8:List (Ab×Obj)) (σ:St) (H:Hp) (s:Ac) (e:Aa) (s':Ac),Inv X b8 σ H s->CX X.stack H s E e s'->X.xe e s'
section
variable {X:Cx}{CX:CXT}{k:Nat}{f C:Ab}{fd:Ad}{ps:List Str}{sp:Sp}{dvs:List V}{ds:List Aa}{E:XK}{x m:Str}{p pos cj:Pos}{e o:Ah}{es:List Ah}{ta:TE}{t:TA}
theorem Gd{σ:St}{H:Hp}{s:Ac}{Q:VK}{vs:List V}(F:FnOk X.prog X.w X.K X.mg X.base CX k f fd ps sp)(hr:Room k X.A)(W:Binds X.K fd ps ds)(Z:Vals dvs ds)(hx:Passes CX X E)(hcc:CX.calm=true->X.calm=true)(I:Inv X b8 σ H s)(r:Vals vs us)(h:sp (vs++dvs) H Q E):wpAny (model X.prog X.w) X.A (call (.ref f) us) (EP X b8 σ Q) X.xe s:=by
 have O:Vals (vs++dvs) (us++ds):=r.append Z;have hl:(us++ds).length=ps.length:=by rw[<-O.length];exact F.len _ _ _ _ h
 refine wpAny_call (codeAny_mono (F.run X.A X.stack s H ⟨us,[]⟩ (us++ds) (vs++dvs) Q E hr (λz=>I.ok.hd (hcc z)) I.env0 (W s us I.kIn hl) O h) λr s' G=>?_);cases r with
 | error e=>exact hx b8 σ H s e s' I G
 | ok fl =>
  cases fl with
  | ret u=>exact I.after G
  | next=>exact False.elim G
  | brk=>exact False.elim G
  | cont=>exact False.elim G
theorem UD(F:FnOk X.prog X.w X.K X.mg X.base CX k f fd ps sp)(hr:Room k X.A)(hg:Gl X x)(hm:X.mg x=some (.ref f))(hk:keepIn X.K (.ref f)=true)(hb:Binds X.K fd ps ds)(hd:Vals dvs ds)(hx:Passes CX X E)(ha:PA X (e::es) t)(O:(x==("__debug__":Str))=false:=by decide)(Z:zG (e::es) X.env=(false,eval e X.env)::zG es X.env:=by rfl)(G:(Ao pos (zG es X.env)).any (·.1)=false:=by rfl)(hcc:CX.calm=true->X.calm=true:=by first | exact λ_=>rfl | exact λz=>nomatch z):
  PE X (.Call (.Name x p) (e::es) [] pos) (Dw sp dvs E t):=by
 intro b8 s σ H Q I h;refine wpAny_Call_Name_kw (U6 I hg hm ?_ O);refine callWith_K (h₀:=X.base) I.ok.mod.kin hk (thn (ha pos b8 s σ H _ I h) λus s1 V=>?_) Z G;obtain⟨vs,H1,W,r,q⟩:=V;refine⟨W.kIn,?_⟩;exact Gd F hr hb hd hx hcc W r q
theorem LZ(F:FnOk X.prog X.w X.K X.mg X.base CX k f fd ps sp)(hr:Room k X.A)(Z:Gl X x)(hm:X.mg x=some (.ref f))(hk:keepIn X.K (.ref f)=true)(O:Binds X.K fd ps ds)(V:Vals dvs ds)(W:Passes CX X E)(G:(x==("__debug__":Str))=false:=by decide)(hcc:CX.calm=true->X.calm=true:=by first | exact λ_=>rfl | exact λz=>nomatch z):PE X (.Call (.Name x p) [] [] pos) (Dw sp dvs E tNil):=by
 intro b8 s σ H Q I h;refine wpAny_Call_Name_kw (U6 I Z hm ?_ G);exact callWith_K0 I.kIn hk (Gd (us:=[]) F hr O V W hcc I .nil h)
theorem Y9{pl:Sem Bool}(he:PE X o ta)(c:Cls X.K C)(hm:Meth X.K C m f)(F:FnOk X.prog X.w X.K X.mg X.base CX k f fd ps sp)(hr:Room k X.A)(hb:Binds X.K fd ps ds)(hd:Vals dvs ds)(hx:Passes CX X E)(ha:PA X (e::es) t)(V:zG (e::es) X.env=(false,eval e X.env)::zG es X.env:=by rfl)(O:(Ao pos (zG es X.env)).any (·.1)=false:=by rfl)(ht:eval (.Call (.Attribute o m cj) (e::es) [] pos) X.env=(do
 let ov <- eval o X.env
 standAt cj.atName
 let (f,first) <- holding [ov] (getMethod ov m pl)
 callWith pos f first (Ao pos (zG (e::es) X.env)) (An pos (Am [] X.env))):=by rfl)(hcc:CX.calm=true->X.calm=true:=by first | exact λ_=>rfl | exact λz=>nomatch z):
  PE X (.Call (.Attribute o m cj) (e::es) [] pos) (VE C m sp dvs E ta t):=by
 intro b8 s σ H Q I h;refine methodCall_KW (pl:=pl) (thn (he b8 s σ H _ I h) λu s1 G=>?_) ht;obtain⟨x,H1,W,rx,a,dx,fs,ex,ea,l,q⟩:=G;subst ex;obtain rfl:u=Value.ref a:=rx;refine XI W ea c hm l ?_;refine callWith_K (first:=[.ref a]) (h₀:=X.base) I.ok.mod.kin hm.kp (thn (ha pos b8 s1 σ H1 _ W q) λus s2 G=>?_) V O
 obtain⟨vs,H2,Z,r,q2⟩:=G;refine⟨Z.kIn,?_⟩;exact Gd (us:=.ref a::us) (vs:=.ref a::vs) F hr hb hd hx hcc Z (.cons rfl r) q2
theorem LU{pl:Sem Bool}(Z:PE X o ta)(c:Cls X.K C)(V:Meth X.K C m f)(F:FnOk X.prog X.w X.K X.mg X.base CX k f fd ps sp)(hr:Room k X.A)(hb:Binds X.K fd ps ds)(hd:Vals dvs ds)(hx:Passes CX X E)(ht:eval (.Call (.Attribute o m cj) [] [] pos) X.env=(do
 let ov <- eval o X.env
 standAt cj.atName
 let (f,first) <- holding [ov] (getMethod ov m pl)
 callWith pos f first (Ao pos (zG [] X.env)) (An pos (Am [] X.env))):=by rfl)(hcc:CX.calm=true->X.calm=true:=by first | exact λ_=>rfl | exact λz=>nomatch z):
  PE X (.Call (.Attribute o m cj) [] [] pos) (VE C m sp dvs E ta tNil):=by
 intro b8 s σ H Q I h;refine methodCall_KW (pl:=pl) (thn (Z b8 s σ H _ I h) λu s1 O=>?_) ht;obtain⟨x,H1,G,W,a,dx,fs,ex,ea,l,q⟩:=O;subst ex;obtain rfl:u=Value.ref a:=W;refine XI G ea c V l ?_;exact callWith_K0 (first:=[.ref a]) G.kIn V.kp (Gd (us:=[.ref a]) (vs:=[.ref a]) F hr hb hd hx hcc G (.cons rfl .nil) q)
structure Mk(K:Frag)(C f:Ab):Prop where
 makes:makesIn K C=true
 init:findIn K (.ref C) "__init__"=some (some (.ref f))
 fn:isFn K (.ref f)=true
 kp:keepIn K (.ref C)=true
theorem LA{σ:St}{H:Hp}{s:Ac}{Q:VK}{vs:List V}(M:Mk X.K C f)(F:FnOk X.prog X.w X.K X.mg X.base CX k f fd ps sp)(hr:Room (k+1) X.A)(hb:Binds X.K fd ps ds)(hd:Vals dvs ds)(hx:Passes CX X E)(hcc:CX.calm=true->X.calm=true)(I:Inv X b8 σ H s)(r:Vals vs us)(h:∀x dx,H x=none->H dx=none->dx≠x->sp (.ref x::(vs++dvs)) (upd (upd H dx (.own x)) x (.ins C dx [])) (λv H2=>v = .non/\Q (.ref x) H2) E):
  wpAny (model X.prog X.w) X.A (call (.ref C) us) (EP X b8 σ Q) X.xe s:=by
 have W:=h (s.heap.objs.size+1) s.heap.objs.size (I.hok.fresh (vL _)) (I.hok.fresh (zO _)) (zX (uF _));have O:=Inv.made (C:=C) I;have Z:Vals (V.ref (s.heap.objs.size+1)::(vs++dvs)) (Value.ref (s.heap.objs.size+1)::(us++ds)):=.cons rfl (r.append hd);have hl:(Value.ref (s.heap.objs.size+1)::us++ds).length=ps.length:=by
  have e:=Z.length;rw[F.len _ _ _ _ W] at e;exact e.symm
 refine wpAny_call (Pm (f:=f) I.kIn M.makes M.init (xS.mp M.fn) (codeAny_mono (F.run _ X.stack _ _ ⟨Value.ref (s.heap.objs.size+1)::us,[]⟩ (Value.ref (s.heap.objs.size+1)::(us++ds)) _ _ E (hr.make C us []) (λz=>I.ok.hd (hcc z))
  (O.env0.make C us []) (hb _ (Value.ref (s.heap.objs.size+1)::us) O.kIn hl) Z W) λr s' G=>?_))
 cases r with
 | error e=>exact hx b8 σ _ _ e s' O G
 | ok fl =>
  cases fl with
  | ret u =>
   obtain⟨v,H',I3,rv,ev,q3⟩:=O.after G;subst ev;exact⟨rv,⟨V.ref (s.heap.objs.size+1),H',I3,rfl,q3⟩⟩
  | next=>exact False.elim G
  | brk=>exact False.elim G
  | cont=>exact False.elim G
theorem Ya(M:Mk X.K C f)(F:FnOk X.prog X.w X.K X.mg X.base CX k f fd ps sp)(hr:Room (k+1) X.A)(hg:Gl X x)(hm:X.mg x=some (.ref C))(hb:Binds X.K fd ps ds)(hd:Vals dvs ds)(hx:Passes CX X E)(ha:PA X (e::es) t)(O:(x==("__debug__":Str))=false:=by decide)(Z:zG (e::es) X.env=(false,eval e X.env)::zG es X.env:=by rfl)(G:(Ao pos (zG es X.env)).any (·.1)=false:=by rfl)(hcc:CX.calm=true->X.calm=true:=by first | exact λ_=>rfl | exact λz=>nomatch z):
  PE X (.Call (.Name x p) (e::es) [] pos) (Qv C sp dvs E t):=by
 intro b8 s σ H Q I h;refine wpAny_Call_Name_kw (U6 I hg hm ?_ O);refine callWith_K (h₀:=X.base) I.ok.mod.kin M.kp (thn (ha pos b8 s σ H _ I h) λus s1 V=>?_) Z G;obtain⟨vs,H1,W,r,q⟩:=V;refine⟨W.kIn,?_⟩;exact LA M F hr hb hd hx hcc W r q
end
def PK (X:Cx)(kws:List Keyword)(t:TA):Prop :=
 ∀(pos:Pos) (b8:List (Ab×Obj)) (s:Ac) (σ:St) (H:Hp) (Q:List V->Hp->Prop),Inv X b8 σ H s->t σ H Q->wpAny (model X.prog X.w) X.A (evalAll ((An pos (Am kws X.env)).map (·.2))) (AP X b8 σ Q) X.xe s
section
variable {X:Cx}{CX:CXT}{k:Nat}{f C:Ab}{fd:Ad}{ps ks:List Str}{sp:Sp}{E:XK}{x m:Str}{p pos cj kpos:Pos}{e o:Ah}{es:List Ah}{kws:List Keyword}{te ta:TE}{t tk:TA}{nm:Option Str}
theorem LL:PK X [] tNil:=λ_ _ _ _ H Q I h=>wpAny_evalAll_nil ⟨[],H,I,.nil,h⟩
theorem Gf(ha:PE X e te)(V:PK X kws t):PK X (⟨nm,e,kpos⟩::kws) (Zs te t):=by
 intro pos b8 s σ H Q I h;show wpAny _ _ (evalAll ((do let v <- eval e X.env;standAt pos;pure v)::(An pos (Am kws X.env)).map (·.2))) _ _ s
 refine wpAny_evalAll_cons (zA (thn (ha b8 s σ H _ I h) λu s1 G=>?_));obtain⟨x,H1,W,Z,q1⟩:=G;refine zA (wpAny_standAt (zB ?_));refine thn (V pos b8 s1 σ H1 _ W q1) λus s2 G=>?_;obtain⟨xs,H2,I2,O,q2⟩:=G;exact⟨x::xs,H2,I2,.cons Z O,q2⟩
variable {g:List Aa->List Aa->List Aa}{gV:List V->List V->List V}
end
structure Zd(N P:List Str)(sc:Aj):Prop where
 kind:sc.kind = .function
 co:sc.isCoroutine=false
 gen:sc.isGenerator=false
 nd:N.Nodup
 pre:N.take P.length=P
 par:∀x∈P,sc.names.lookup x=some .local∨sc.names.lookup x=some .cell
 nofree:∀y∈sc.names,y.2 ≠ .free
theorem fs7{N P:List Str}{sc:Aj}(a:sc.kind = .function:=by rfl)(b:sc.isCoroutine=false:=by rfl)(c:sc.isGenerator=false:=by rfl)(d:N.Nodup:=by decide +kernel)(e:N.take P.length=P:=by rfl)(f:∀x∈P,sc.names.lookup x=some .local∨sc.names.lookup x=some .cell:=by decide +kernel)(g:∀y∈sc.names,y.2≠.free:=by decide +kernel):Zd N P sc:=⟨a,b,c,d,e,f,g⟩
theorem WT{kindOf:Str->Option NameKind}{x:Str}:∀{G:List (Str×Aa)} {m:Str->Option Aa},(∀v,(x,v)∉G)->bindL kindOf G m x=m x
 | [],_,_=>rfl
 | (n,v)::r,m,h=>by
  unfold bindL;rw[WT λw O=>h w (yB _ O)];split
  .have:x≠n:=by rintro rfl;exact h v yJ
   simp[this]
  .rfl
theorem WV{kindOf:Str->Option NameKind}{x:Str}:∀{G:List (Str×Aa)} {m:Str->Option Aa},(∀v,(x,v)∉G)->bindC kindOf G m x=m x
 | [],_,_=>rfl
 | (n,v)::r,m,h=>by
  unfold bindC;rw[WV λw O=>h w (yB _ O)];split
  .rfl
  .have:x≠n:=by rintro rfl;exact h v yJ
   simp[this]
theorem WU{kindOf:Str->Option NameKind}{x:Str}{v:Aa}:∀{P:List Str} {vs:List Aa} {i:Nat} {m:Str->Option Aa},P.Nodup->P[i]?=some x->vs[i]?=some v->kindOf x=some .local ->
  bindL kindOf (P.zip vs) m x=some v
 | [],_,_,_,_,h,_,_=>by simp at h
 | _::_,[],_,_,_,_,h,_=>by simp at h
 | p::P,w::vs,0,m,nd,h1,h2,hk=>by
  simp at h1 h2;subst h1;subst h2;show bindL kindOf ((p,w)::P.zip vs) m p=_;unfold bindL;rw[WT λv G=>(vC.mp nd).1 (jM G).1,xY hk];simp
 | p::P,w::vs,i+1,m,nd,h1,h2,hk=>by
  show bindL kindOf ((p,w)::P.zip vs) m x=_;unfold bindL;exact WU (i:=i) (vC.mp nd).2 (by simpa using h1) (by simpa using h2) hk
theorem WW{kindOf:Str->Option NameKind}{x:Str}{v:Aa}:∀{P:List Str} {vs:List Aa} {i:Nat} {m:Str->Option Aa},P.Nodup->P[i]?=some x->vs[i]?=some v->kindOf x≠some .local ->
  bindC kindOf (P.zip vs) m x=some v
 | [],_,_,_,_,h,_,_=>by simp at h
 | _::_,[],_,_,_,_,h,_=>by simp at h
 | p::P,w::vs,0,m,nd,h1,h2,hk=>by
  simp at h1 h2;subst h1;subst h2;show bindC kindOf ((p,w)::P.zip vs) m p=_;unfold bindC;rw[WV λv G=>(vC.mp nd).1 (jM G).1,xZ hk];simp
 | p::P,w::vs,i+1,m,nd,h1,h2,hk=>by
  show bindC kindOf ((p,w)::P.zip vs) m x=_;unfold bindC;exact WW (i:=i) (vC.mp nd).2 (by simpa using h1) (by simpa using h2) hk
def start(N:List Str)(vs:List V):St:=vs.map some++yN (N.length-vs.length) none
def cxOf (CX:CXT)(P:Ae)(w:Af)(K:Frag)(mg:Str->Option Aa)(base:Heap)(N:List Str)(qual:Str)(scope:Aj)(f:Ab)(cd:Aa)(A:Ag)(outer:List Env)(s:Ac)(H:Hp)(E:XK):Cx where
 prog:=P
 w:=w
 K:=K
 mg:=mg
 base:=base
 A:=A.deeper (envOfC qual scope s.heap.objs.size f cd)
 N:=N
 s₀:=s
 H₀:=H
 env:=envOfC qual scope s.heap.objs.size f cd
 outer:=outer
 stack:=envOfC qual scope s.heap.objs.size f cd::outer
 ex:=[]
 calm:=CX.calm
 fn:=λ_=>true
 pn:=[]
 xe:=λe s'=>wpAny (model P w) (A.deeper (envOfC qual scope s.heap.objs.size f cd)) (leaving (envOfC qual scope s.heap.objs.size f cd) e) (λ_ s''=>CX outer H s E e s'') (λe' s''=>CX outer H s E e' s'') s'
theorem Na{sc:Aj}(h:sc.names.lookup x=some .cell):∃c,(cellsFrom n sc.names []).lookup x=some c:=by
 have q:=PySem.W.cellsFrom_some sc.names n [] (.inl h);exact jT.mp q
theorem RE{CX:CXT}{cd:Aa}{s s1:Ac}{H:Hp}{E:XK}{vs:List V}(S:Zd N ps scope)(hd:CX.calm=true->A.handled=none)(e0:Env0 P w K mg base A outer s H)(hl:vs.length=ps.length)(r:Vals vs us)(x:InCallC s s.heap.objs.size (bindL (envOfC qual scope s.heap.objs.size f cd).kindOf (ps.zip us) λ_=>none) (cellsFrom (s.heap.objs.size+1) scope.names []) (bindC (envOfC qual scope s.heap.objs.size f cd).kindOf (ps.zip us) λ_=>none) s1):
  Inv (cxOf CX P w K mg base N qual scope f cd A outer s H E) [] (start N vs) H s1:=by
 have aa:ps.length<=N.length:=by have:=xQ jI S.pre;rw[yL] at this;lia
 obtain⟨h1,tk,rfl,Z⟩:=x.done;have G:∀b:Ab,b∉(cxOf CX P w K mg base N qual scope f cd A outer s H E).ex:=λb z=>xX (show b∈([]:List Ab) from z) (by simp)
 refine⟨⟨e0.mod,S.kind,rfl,rfl,zO _,λy z c h1 h2=>?_,λy O=>?_,λy c _ h=>?_,hd,Around.frames_deeper e0.frames,.inr ⟨rfl,rfl⟩,λb z=>xX z (G b),e0.bs,e0.bsz,λb _ _=>G b,λb z=>xX z (G b),e0.funs,e0.frf⟩,
  rfl,e0.bare,Un.kept Z,⟨_,x.toInCall.ns,λi y v h1 h2 h3=>?_⟩,λy c h=>⟨_,x.cell y c h⟩,e0.hok.fresh (zO _),λy c h=>?_,λp W=>xX (show p∈([]:List (Ab×Obj)) from W) (by simp),e0.hok.kept Z,?_,e0.hdx⟩
 .exact name_of_addr x.apart (PySem.mem_of_lookup h1) (PySem.mem_of_lookup h2)
 .have O:scope.names.lookup y=some .cell∨scope.names.lookup y=some .free:=O;rcases O with O | O
  .exact Na O
  .exact xX rfl (S.nofree _ (PySem.mem_of_lookup O))
 .exact yW (x.above y c (PySem.mem_of_lookup h))
 .have hi:i<vs.length:=by
   unfold start at h2;by_cases hi:i<vs.length
   .exact hi
   .rw[wB (by simpa using hi)] at h2
    rw[List.getElem?_replicate] at h2;split at h2 <;> cases h2
  have ha:vs[i]?=some v:=by
   unfold start at h2;rw[wT (by simpa using hi),zM] at h2
   cases e:vs[i]? with
   | none=>rw[e] at h2;cases h2
   | some a=>rw[e] at h2;cases h2;rfl
  obtain⟨u,hu,rv⟩:=r.get ha;have W:ps[i]?=some y:=by
   rw[<-S.pre,List.getElem?_take_of_lt (by lia)];exact h1
  have ndP:ps.Nodup:=by rw[<-S.pre];exact S.nd.sublist (List.take_sublist _ _)
  refine⟨u,rv,?_⟩;rcases S.par y (yM W) with k | k
  .exact .inl ⟨k,WU ndP W hu k⟩
  .obtain⟨c,e⟩:=Na (n:=s.heap.objs.size+1) k;refine .inr ⟨.inl k,c,e,?_⟩;have q:=x.cell y c e;rw[WW ndP W hu (by show scope.names.lookup y≠_;rw[k];decide)] at q
   exact q
 .exact e0.hok.fresh (yW (x.above y c (PySem.mem_of_lookup h)))
 .unfold start;show _=N.length;rw[zR,zK,qO];lia
theorem PX{CX:CXT}{name:Str}{G:Arguments}{dV kV bw pm bh ct oc:Aa}{an od:Option Ab}{bz:Array (Option Aa)}{sp:Sp}(lk:K.lookup f=some ⟨oc,od,.func (fnOf name qual G body scope dV kV bw pm an bh ct),bz⟩)(ag:codeIn K bh qual=true)(S:Zd N ps scope)(ad:∀vs H Q E,sp vs H Q E->vs.length=ps.length)(O:∀(A:Ag) (outer:List Env) (s:Ac) (H:Hp) (vs:List V) (Q:VK) (E:XK),Room k (A.deeper (envOfC qual scope s.heap.objs.size f bh))->sp vs H Q E ->
 ∃t,PSs (cxOf CX P w K mg base N qual scope f bh A outer s H E) body t/\t { nx:=λ_ H'=>Q .non H',rt:=Q } (start N vs) H):
  FnOk P w K mg base CX (k+1) f (fnOf name qual G body scope dV kV bw pm an bh ct) ps sp:=by
 refine⟨ad,λA outer s H args us vs Q E hr af e0 hb r ac=>?_⟩;have hl:=ad _ _ _ _ ac;have KX:K.In s.heap:=e0.mod.kin.keeps λb o e=>(e0.bs b o e).1;have ae:s.heap.NoLimit:=e0.mod.nolimit.keeps λb o e=>(e0.bs b o e).1;have Z:∀y∈ps.zip us,scope.names.lookup y.1=some .local∨(scope.names.lookup y.1=some .cell/\((cellsFrom (s.heap.objs.size+1) scope.names []).lookup y.1).isSome=true):=λ⟨n,v⟩ hy=>by
  rcases S.par n (jM hy).1 with q | q
  .exact .inl q
  .exact .inr ⟨q,PySem.W.cellsFrom_some _ _ _ (.inl q)⟩
 refine codeAny_call_function hr.depth (KX _ _ lk) rfl S.co S.gen rfl (PySem.W.codeRec_of KX ag) (hb _ _ _ _ ?_);refine wpAny_newFunctionEnv_cells S.kind Z λenv he s1 x=>?_;subst he;refine⟨ae.keeps x.toInCall.keep,codeAny_func ?_⟩;obtain⟨t,ht,hq⟩:=O A outer s H vs Q E (hr.deeper _) ac;have I:Inv (cxOf CX P w K mg base N qual scope f bh A outer s H E) [] (start N vs) H s1:=RE S af e0 hl r x;refine zC (ht [] s1 (start N vs) H _ I hq) (λfl s' hs=>?_) λe s' hs=>hs;have aa:∀{σ':St} {H':Hp} {v:V} {u:Aa},Inv (cxOf CX P w K mg base N qual scope f bh A outer s H E) [] σ' H' s'->RelV v u->Q v H'->CE outer P w H s Q u s' :=
  λ{σ' H' v u} J rv q=>⟨v,H',J.os,J.bare,J.base,J.hok,rv,q⟩
 cases fl with
 | ret u =>
  obtain⟨v,σ',H',J,rv,q⟩:=hs;exact aa J rv q
 | next =>
  obtain⟨σ',H',J,q⟩:=hs;exact aa (v:=V.non) (u:=Value.none) J rfl q
 | brk =>
  obtain⟨_,_,_,q⟩:=hs;exact False.elim q
 | cont =>
  obtain⟨_,_,_,q⟩:=hs;exact False.elim q
section
variable {X:Cx}{x:Str}{p pos:Pos}{e:Ah}{es:List Ah}{t:TA}{id T:String}{r:List V->Hp->VK->Prop}
def tCB (r:List V->Hp->VK->Prop)(t:TA):TE:=λσ H Q=>t σ H λvs H1=>r vs H1 Q
theorem ZC(hc:Jt X (.builtin id) r)(hg:Gl X x)(hm:X.mg x=none)(Z:bootBuiltins x=some (.builtin id))(ha:PA X (e::es) t)(hn:x≠"__name__":=by decide)(O:(x==("__debug__":Str))=false:=by decide)(W:zG (e::es) X.env=(false,eval e X.env)::zG es X.env:=by rfl)(G:(Ao pos (zG es X.env)).any (·.1)=false:=by rfl):PE X (.Call (.Name x p) (e::es) [] pos) (tCB r t):=by
 intro b8 s σ H Q I h;refine wpAny_Call_Name_kw (JW I hg hm Z ?_ hn O);refine PyProof.Rows.callWith_builtin1 (thn (ha pos b8 s σ H _ I h) λus s1 V=>?_) W G;obtain⟨vs,H1,I1,r1,q1⟩:=V;exact hc b8 s1 σ H1 vs us Q I1 r1 q1
theorem Zt(hc:Jt X (.type T) r)(hg:Gl X x)(hm:X.mg x=none)(Z:bootBuiltins x=some (.type T))(ha:PA X (e::es) t)(hn:x≠"__name__":=by decide)(O:(x==("__debug__":Str))=false:=by decide)(W:zG (e::es) X.env=(false,eval e X.env)::zG es X.env:=by rfl)(G:(Ao pos (zG es X.env)).any (·.1)=false:=by rfl):PE X (.Call (.Name x p) (e::es) [] pos) (tCB r t):=by
 intro b8 s σ H Q I h;refine wpAny_Call_Name_kw (JW I hg hm Z ?_ hn O);refine PyProof.Rows.callWith_type1 (thn (ha pos b8 s σ H _ I h) λus s1 V=>?_) W G;obtain⟨vs,H1,I1,r1,q1⟩:=V;exact hc b8 s1 σ H1 vs us Q I1 r1 q1
end
end L2
namespace HT
open PySem PyProof.Rows
section
open PySem.SeqAt
open PySem.AutoSeq1 (wpAny_loadPart')
open PySem.MeetsSeq PySem.MeetsSeq2 PySem.MeetsSeq3
end
section
variable {prog:Ae}{w:Af}{A:Ag}{E:Aa->Ac->Prop}{s:Ac}
def sIx (n d:Nat):Option Int->Nat
 | none=>d
 | some v=>if v<0 then(v+(n:Int)).toNat else min v.toNat n
theorem sIx_none(n d:Nat):sIx n d none=d:=rfl
theorem sIx_nat(n d k:Nat):sIx n d (some (k:Int))=min k n:=by
 show(if(k:Int)<0 then((k:Int)+(n:Int)).toNat else min (k:Int).toNat n)=min k n;rw[xZ (by lia),yE]
end
end HT
namespace L2
open PySem PySem.Spec PyProof.Rows
variable {n j t':Nat}{i:Int}{b8:List (Ab×Obj)}{σ:St}{H H':Hp}{s:Ac}{xs:List (List Key×Ab×Aa)}{c9 its':List Aa}{A:Ag}{y x:V}{u v:Aa}{o:Option V}{P:Ae}{w:Af}{kvs:List (List Key×V)}{Q:Aa->Ac->Prop}{h':Heap}{pos:Pos}{X:Cx}{a:Ab}{trs:List (TE×TE)}
abbrev TO:=St->Hp->(Option Int->Hp->Prop)->Prop
def PO (X:Cx)(e:Option Ah)(t:TO):Prop :=
 ∀(b8:List (Ab×Obj)) (s:Ac) (σ:St) (H:Hp) (Q:Option Int->Hp->Prop),Inv X b8 σ H s->t σ H Q ->
  wpAny (model X.prog X.w) X.A (evalPart e X.env) (λu s'=>∃o H',Inv X b8 σ H' s'/\IsPart u o/\Q o H') X.xe s
def Dv:TO:=λ_ H Q=>Q none H
def Oh(t:TE):TO:=λσ H Q=>t σ H λx H1=>∃i,x = .int i/\Q (some i) H1
theorem JX{ns:List Int}:∀{us:List Aa},Vals (ns.map V.int) us->IntsAre us ns:=by
 induction ns with
 | nil=>intro us r;rw[uZ] at r;cases r;exact .nil
 | cons n ns G =>
  intro us r;rw[yV] at r;cases r with
  | cons O W =>
   obtain⟨t,e⟩:=O;subst e;exact .cons n t (G W)
section
variable {X:Cx}{e:Ah}{te:TE}{lo hi:Option Ah}{tl th:TO}{pos p2:Pos}
theorem Yl:PO X none Dv:=by
 intro b8 s σ H Q I h;rw[evalPart_none];exact zB ⟨none,H,I,.none,h⟩
theorem Yf(h:PE X e te):PO X (some e) (Oh te):=by
 intro b8 s σ H Q I O;rw[evalPart_some];refine thn (h b8 s σ H _ I O) λu s1 G=>?_;obtain⟨x,H1,V,W,q1⟩:=G;obtain⟨i,rfl,q⟩:=q1;obtain⟨t,rfl⟩:=W;exact⟨some i,H1,V,.int i t,q⟩
def SlR (X:Cx)(r:V->Option Int->Option Int->Hp->VK->Prop):Prop :=
 ∀(b8:List (Ab×Obj)) (s:Ac) (σ:St) (H:Hp) (x:V) (v vl vu:Aa) (lo hi:Option Int) (sl:Ab) (Q:VK),Inv X b8 σ H s->RelV x v->s.heap.IsSliceOf sl vl vu .none->IsPart vl lo->IsPart vu hi->r x lo hi H Q ->
  ∃T id,typeLookup (.type T) "__getitem__"=pure (some (.builtin id))/\s.TypeIs v T/\wpAny (model X.prog X.w) X.A (getItem v (.ref sl)) (EP X b8 σ Q) X.xe s
def tSl (r:V->Option Int->Option Int->Hp->VK->Prop)(te:TE)(tl th:TO):TE:=λσ H Q=>te σ H λx H1=>tl σ H1 λl H2=>th σ H2 λu H3=>r x l u H3 Q
theorem Y7{r:V->Option Int->Option Int->Hp->VK->Prop}(hr:SlR X r)(he:PE X e te)(hl:PO X lo tl)(hu:PO X hi th):PE X (.Subscript e (.Slice lo hi none p2) pos) (tSl r te tl th):=by
 intro b8 s σ H Q I h;refine Subscript_ (thn (he b8 s σ H _ I h) λv s1 O=>?_);obtain⟨x,H1,I1,r1,q1⟩:=O;refine wpAny_Slice (thn (hl b8 s1 σ H1 _ I1 q1) λW s2 O=>?_);obtain⟨l,H2,I2,pl,q2⟩:=O;refine thn (hu b8 s2 σ H2 _ I2 q2) λZ G aa=>?_;obtain⟨u,H3,I3,pu,q3⟩:=aa;rw[evalPart_none];refine zB ?_;have I4:Inv X b8 σ H3 { G with heap:=G.heap.push { cls:=.type "slice",data:=.fields #[W,Z,.none] } }:=I3.kept (t':=G.toks) λb ob q=>zL _ q
 obtain⟨T,id,hT,ht,hg⟩:=hr b8 { G with heap:=G.heap.push { cls:=.type "slice",data:=.fields #[W,Z,.none] } } σ H3 x v W Z l u G.heap.objs.size Q I4 r1 (Heap.IsSliceOf.new ..) pl pu q3
 show wpAny (model X.prog X.w) X.A (subscriptTail e (.Slice lo hi none p2) v (.ref G.heap.objs.size)) (EP X b8 σ Q) X.xe { G with heap:=G.heap.push { cls:=.type "slice",data:=.fields #[W,Z,.none] } }
 exact tail_any (ops:=[.ref G.heap.objs.size,v]) ht hT hg (by with_unfolding_all rfl)
def cutV (xs:List V)(lo hi:Option Int):List V:=(xs.drop (HT.sIx xs.length 0 lo)).take (HT.sIx xs.length xs.length hi-HT.sIx xs.length 0 lo)
theorem N6(xs:List V)(lo hi:Option Int):(cutV xs lo hi).length<=xs.length:=by
 unfold cutV;rw[yL,xE];lia
end
def ixN (n:Nat)(i:Int):Option Nat:=if 0<=i then(if i<n then some i.toNat else none) else if -(n:Int)<=i then some (i+n).toNat else none
def atI {α:Type}(xs:List α)(i:Int):Option α:=(ixN xs.length i).bind λj=>xs[j]?
theorem Tj(h:ixN n i=some j):seqIndex? i n=some j/\j<n/\-(n:Int)<=i/\i<n:=by
 unfold ixN at h;by_cases h0:0<=i
 .rw[xY h0] at h;by_cases h1:i<n
  .rw[xY h1] at h;have e:i.toNat=j:=Option.some.inj h;exact⟨by rw[seqIndex_of h0 h1,e],by lia,by lia,h1⟩
  .rw[xZ h1] at h;cases h
 .rw[xZ h0] at h;by_cases h1:-(n:Int)<=i
  .rw[xY h1] at h;have e:(i+n).toNat=j:=Option.some.inj h;exact⟨by rw[seqIndex_neg (by lia) h1,e],by lia,h1,by lia⟩
  .rw[xZ h1] at h;cases h
theorem TB{α:Type}{xs:List α}{v:α}(h:atI xs i=some v):∃j,seqIndex? i xs.length=some j/\xs[j]?=some v/\j<xs.length/\-(xs.length:Int)<=i/\i<xs.length:=by
 unfold atI at h;cases e:ixN xs.length i with
 | none=>rw[e] at h;cases h
 | some j =>
  rw[e] at h;obtain⟨h1,h2,G,O⟩:=Tj e;exact⟨j,h1,h,h2,G,O⟩
theorem O7{α:Type}{xs:List α}{v:α}(h:xs[j]?=some v):atI xs (j:Int)=some v:=by
 have G:j<xs.length:=(zT.mp h).1;have e:ixN xs.length (j:Int)=some j:=by
  unfold ixN;rw[xY (by lia),xY (by lia)];simp
 unfold atI;rw[e];exact h
theorem Kb{α:Type}(xs:List α)(v:α):atI (xs++[v]) (-1)=some v:=by
 have G:(xs++[v]).length=xs.length+1:=by simp
 have e:ixN (xs++[v]).length (-1)=some xs.length:=by
  unfold ixN;rw[G,xZ (by decide),xY (by lia)]
  congr 1;lia
 unfold atI;rw[e];show(xs++[v])[xs.length]?=some v;simp
def Od(b:Ah):Prop:=∀o i,subscripted b false o i=operate [o,i] (getItem o i)
def IxR (X:Cx)(r:R2):Prop :=
 ∀(value slice:Ah) (b8:List (Ab×Obj)) (s:Ac) (σ:St) (H:Hp) (x y:V) (v u:Aa) (Q:VK),Inv X b8 σ H s->RelV x v->RelV y u->r x y H Q ->
  subscripted slice false v u=operate [v,u] (getItem v u)->wpAny (model X.prog X.w) X.A (subscriptTail value slice v u) (EP X b8 σ Q) X.xe s
def MtR (X:Cx)(id:String)(r:V->List V->Hp->VK->Prop):Prop :=
 ∀(b8:List (Ab×Obj)) (s:Ac) (σ:St) (H:Hp) (x:V) (xs:List V) (v:Aa) (us:List Aa) (Q:VK),Inv X b8 σ H s->RelV x v->Vals xs us->r x xs H Q ->
  wpAny (model X.prog X.w) X.A (call (.builtin id) (v::us)) (EP X b8 σ Q) X.xe s
section
variable {X:Cx}{a b:Ah}{ta tb:TE}{pos:Pos}
theorem Zc{r:R2}(W:IxR X r)(ha:PE X a ta)(O:PE X b tb)(hs:Od b:=by exact λ_ _=>rfl):PE X (.Subscript a b pos) (tOp r ta tb):=by
 intro b8 s σ H Q I h;exact Subscript_ (binT ha O I h λv u s2 x y H2 Z G V q=>W a b b8 s2 σ H2 x y v u Q Z G V q (hs _ _))
inductive IsIx(S:Ab->List V->Prop)(x y:V)(H:Hp)(Q:VK):Prop
 | mk (p:Ab) (xs:List V) (i:Int) (v:V) (a:x = .ref p) (b:y = .int i) (s:S p xs) (e:atI xs i=some v) (h:Q v H):IsIx S x y H Q
def rIxL (K:Frag):R2:=λx y H Q=>IsIx (SqL K H) x y H Q
def rIxT (K:Frag):R2:=λx y H Q=>IsIx (SqT K H) x y H Q
theorem Zf:IxR X (rIxL X.K):=by
 intro value W b8 s σ H x y v u Q I rx ry h hs;obtain⟨p,xs,i,z,rfl,rfl,hq,he,q⟩:=h;cases rx;obtain⟨t,rfl⟩:=ry;obtain⟨c9,r,Z,hz⟩:=I.list hq;obtain⟨j,h1,h2,h3,h4,h5⟩:=TB he;obtain⟨w,ew,O⟩:=r.get h2;have hl:=r.length;have hn:=Gv;have G:EP X b8 σ Q w s:=⟨z,H,I,O,q⟩;by_cases h0:0<=i
 .have V:i.toNat=j:=by
   rw[seqIndex_of h0 h5] at h1;exact Option.some.inj h1
  exact item_listR Z.isList h0 (by lia) (by rw[V];simpa using ew) G hs
 .have V:(i+(c9.toArray.size:Int)).toNat=j:=by
   rw[seqIndex_neg (by lia) h4] at h1
   rw[zP,<-hl];exact Option.some.inj h1
  exact subscriptTail_builtinR (x:=w) Z.isList.typeIs slot_list_getitem.lookup
   (wpAny_getItem_list_neg (Q:=λr s'=>r=w/\EP X b8 σ Q r s') Z.isList (by lia) (by rw[zP] <;> lia) (by lia) (by rw[V];simpa using ew) ⟨rfl,G⟩) hs
theorem ZF:IxR X (rIxT X.K):=by
 intro value V b8 s σ H x y v u Q I Z ry h hs;obtain⟨p,xs,i,z,rfl,rfl,hq,he,q⟩:=h;cases Z;obtain⟨t,rfl⟩:=ry;obtain⟨c9,r,W,hz⟩:=I.tuple hq;obtain⟨j,h1,h2,h3,h4,h5⟩:=TB he;obtain⟨w,ew,G⟩:=r.get h2;have hl:=r.length;have hn:=Gv;have O:EP X b8 σ Q w s:=⟨z,H,I,G,q⟩;exact subscriptTail_builtinR (x:=w) W.typeIs slot_tuple_getitem.lookup
  (getItem_tuple (j:=j) (Q:=λr s'=>r=w/\EP X b8 σ Q r s') W (by lia) (by lia) (by rw[zP,<-hl];exact h1) (by simpa using ew) ⟨rfl,O⟩) hs
theorem NU(c9:List Aa)(n j:Nat)(u:Aa):Obj.mapSeq (·.setIfInBounds j u) { cls:=.type "list",data:=.seq c9.toArray n }={ cls:=.type "list",data:=.seq (c9.set j u).toArray n }:=by
 simp[Obj.mapSeq]
theorem Inv.lst{b8 σ H s}{p:Ab}{xs:List V}(I:Inv X b8 σ H s)(h:H p=some (.lst xs)):
  ∃(c9:List Aa) (n:Nat),Vals xs c9/\s.heap.get? p=some { cls:=.type "list",data:=.seq c9.toArray n }/\xs.length<=zF:=by
 obtain⟨z,c9,n,r,e⟩:=I.hok p _ h;exact⟨c9,n,r,e,z⟩
theorem Inv.lstUpd{p:Ab}{xs ys:List V}{G:Nat}{f:Obj->Obj}(I:Inv X b8 σ H s)(h:H p=some (.lst xs))(W:s.heap.get? p=some { cls:=.type "list",data:=.seq c9.toArray n })(O:f { cls:=.type "list",data:=.seq c9.toArray n }={ cls:=.type "list",data:=.seq its'.toArray G })(r:Vals ys its')(hz:ys.length<=zF)(t:Nat):
  Inv X b8 σ (upd H p (.lst ys)) { s with heap:=s.heap.update p f,toks:=t }:=by
 have e:(s.heap.update p f).get? p=some { cls:=.type "list",data:=.seq its'.toArray G }:=by
  rw[yS f W (by rw[O] <;> rfl),O]
 refine I.write (x:=p) (e:=p) (by rw[h];trivial) (.inl rfl) (λb u Z q=>(yT _ _ (Ne.symm Z)).trans q) ⟨_,e⟩ ?_
 exact⟨hz,its',G,r,e⟩
def EB:V->V->V->Hp->(Hp->Prop)->Prop:=λo i v H Q=>∃p xs k j,o = .ref p/\i = .int k/\H p=some (.lst xs)/\ixN xs.length k=some j/\Q (upd H p (.lst (xs.set j v)))
theorem Xa:PSet X EB:=by
 intro b8 s σ H o i v ov iv u Q I ro ri rv h;obtain⟨p,xs,k,j,rfl,rfl,hp,hj,q⟩:=h;cases ro;obtain⟨t,rfl⟩:=ri;obtain⟨c9,n,r,O,hz⟩:=I.lst hp;obtain⟨h1,h2,h3,Z⟩:=Tj hj;have V:=r.length;have hn:=Gv;have I':Inv X b8 σ (upd H p (.lst (xs.set j v))) { s with heap:=s.heap.update p (Obj.mapSeq (·.setIfInBounds j u)) }:=
  I.lstUpd hp O (NU c9 n j u) (r.set rv j) (by rw[vS];exact hz) s.toks
 by_cases h0:0<=k
 .have G:k.toNat=j:=by
   rw[seqIndex_of h0 Z] at h1;exact Option.some.inj h1
  exact PySem.W.ki_setAt O h0 (by lia) (by rw[zP,<-V];exact Z) (by rw[G];exact⟨_,I',q⟩)
 .have G:(k+(c9.toArray.size:Int)).toNat=j:=by
   rw[seqIndex_neg (by lia) h3] at h1
   rw[zP,<-V];exact Option.some.inj h1
  exact PySem.W.ki_setBack O (by lia) (by rw[zP,<-V];exact h3) (by lia) (by rw[G];exact⟨_,I',q⟩)
theorem G4(lo hi:Option Int)(n:Nat):(sliceBounds lo hi none n).1=((HT.sIx n 0 lo:Nat):Int)/\(sliceBounds lo hi none n).2.1=((HT.sIx n n hi:Nat):Int)/\(sliceBounds lo hi none n).2.2=1:=by
 refine⟨?_,?_,rfl⟩
 .cases lo with
  | none=>simp[sliceBounds,HT.sIx]
  | some i =>
   simp only[sliceBounds,HT.sIx,Option.getD_none,show(1:Int)>0 by decide,if_true]
   by_cases h:i<0
   .simp only[h,if_true] <;> lia
   .simp only[h,if_false] <;> lia
 .cases hi with
  | none=>simp[sliceBounds,HT.sIx]
  | some i =>
   simp only[sliceBounds,HT.sIx,Option.getD_none,show(1:Int)>0 by decide,if_true]
   by_cases h:i<0
   .simp only[h,if_true] <;> lia
   .simp only[h,if_false] <;> lia
theorem W0(c9:List Aa)(lo hi:Option Int):slicePick c9.toArray lo hi none=((c9.drop (HT.sIx c9.length 0 lo)).take (HT.sIx c9.length c9.length hi-HT.sIx c9.length 0 lo)).toArray:=by
 obtain⟨h1,h2,G⟩:=G4 lo hi c9.toArray.size;unfold slicePick;rw[h1,h2,G];simp only[sliceRange_one,pick_run,zP] <;> rfl
def rSlL (K:Frag):V->Option Int->Option Int->Hp->VK->Prop:=λx lo hi H Q=>∃a xs,x = .ref a/\SqL K H a xs/\∀p,H p=none->Q (.ref p) (upd H p (.lst (cutV xs lo hi)))
theorem Yj:SlR X (rSlL X.K):=by
 intro b8 s σ H x v vl vu lo hi sl Q I V hs pl pu h;obtain⟨a,xs,rfl,W,q⟩:=h;cases V;obtain⟨c9,r,O,Z⟩:=I.list W;have G:=r.length;refine⟨"list",_,slot_list_getitem.lookup,O.isList.typeIs,?_⟩;refine wpAny_getItem_list_slice O.isList hs pl pu .none (by simp) ?_ (by rw[zP] <;> lia)
 rw[W0,<-G];refine⟨.ref s.heap.objs.size,_,I.laid (t':=s.toks) (o:=.lst (cutV xs lo hi)) (λb ob q=>zL _ q) (zO _) ?_,rfl,q _ (I.hok.fresh (zO _))⟩;exact⟨yU (N6 xs lo hi) Z,_,0,(r.drop (HT.sIx xs.length 0 lo)).take (HT.sIx xs.length xs.length hi-HT.sIx xs.length 0 lo),zU _ rfl⟩
def Uu:V->Bool
 | .non=>true
 | .bl _=>true
 | .int _=>true
 | .str _=>true
 | _=>false
def eqV:V->V->Bool
 | .non,.non=>true
 | .bl a,.bl b=>a==b
 | .bl a,.int b=>(if a then 1 else 0)==b
 | .int a,.bl b=>a==(if b then 1 else 0)
 | .int a,.int b=>a==b
 | .str a,.str b=>a==b
 | _,_=>false
theorem K7(V:RelV y u)(G:RelV x v)(fy:Uu y=true)(O:Uu x=true):SeqAt.EqAt A s u v (eqV y x):=by
 cases y with
 | non =>
  cases V;cases x with
  | non=>cases G;exact SeqAt.EqAt.same _
  | bl b=>cases G;exact SeqAt.EqAt.none_bool b
  | int b=>obtain⟨t,rfl⟩:=G;exact SeqAt.EqAt.none_int b t
  | str b=>obtain⟨t,rfl⟩:=G;exact SeqAt.EqAt.none_str b t
  | _=>exact xX (show false=true from O) zW
 | bl a =>
  cases V;cases x with
  | non=>cases G;exact SeqAt.EqAt.bool_none a
  | bl b=>cases G;exact SeqAt.EqAt.bool_bool a b
  | int b=>obtain⟨t,rfl⟩:=G;exact SeqAt.EqAt.bool_int a b t
  | str b=>obtain⟨t,rfl⟩:=G;exact SeqAt.EqAt.bool_str a b t
  | _=>exact xX (show false=true from O) zW
 | int a =>
  obtain⟨t',rfl⟩:=V;cases x with
  | non=>cases G;exact SeqAt.EqAt.int_none a t'
  | bl b=>cases G;exact SeqAt.EqAt.int_bool a t' b
  | int b=>obtain⟨t,rfl⟩:=G;exact SeqAt.EqAt.int_int a t' b t
  | str b=>obtain⟨t,rfl⟩:=G;exact SeqAt.EqAt.int_str a t' b t
  | _=>exact xX (show false=true from O) zW
 | str a =>
  obtain⟨t',rfl⟩:=V;cases x with
  | non=>cases G;exact SeqAt.EqAt.str_none a t'
  | bl b=>cases G;exact SeqAt.EqAt.str_bool a t' b
  | int b=>obtain⟨t,rfl⟩:=G;exact SeqAt.EqAt.str_int a t' b t
  | str b=>obtain⟨t,rfl⟩:=G;exact SeqAt.EqAt.str_str a t' b t
  | _=>exact xX (show false=true from O) zW
 | _=>exact xX (show false=true from fy) zW
def eqU (x:V)(u:Aa):Bool:=match u with
 | .none=>eqV .non x
 | .bool b=>eqV (.bl b) x
 | .int i _=>eqV (.int i) x
 | .str z _=>eqV (.str z) x
 | _=>false
theorem K5(r:RelV y u)(f:Uu y=true):eqU x u=eqV y x:=by
 cases y with
 | non=>cases r;rfl
 | bl b=>cases r;rfl
 | int i=>obtain⟨t,rfl⟩:=r;rfl
 | str z=>obtain⟨t,rfl⟩:=r;rfl
 | _=>exact xX (show false=true from f) zW
theorem Q1{x:V}:∀{xs:List V} {us:List Aa},Vals xs us->xs.all Uu=true->us.any (eqU x)=xs.any λy=>eqV y x
 | _,_,.nil,_=>rfl
 | y::xs,u::us,.cons r t,f=>by
  rw[uW,yI] at f;rw[vP,vP,K5 r f.1,Q1 t f.2]
theorem UX{A:Ag}{s:Ac}{x:V}{v:Aa}(W:RelV x v)(O:Uu x=true):∀{xs:List V} {us:List Aa},Vals xs us->xs.all Uu=true->∀u∈us,SeqAt.EqAt A s u v (eqU x u)
 | _,_,.nil,_=>λu G=>by cases G
 | y::xs,u::us,.cons r t,f=>λZ G=>by
  rw[uW,yI] at f;rcases yF.mp G with rfl | G
  .rw[K5 r f.1];exact K7 r W f.1 O
  .exact UX W O t f.2 Z G
def inV (x:V)(xs:List V):Bool:=xs.any λy=>eqV y x
def rIn (K:Frag)(neg:Bool):R2:=λx y H Q=>∃p xs,y = .ref p/\(SqL K H p xs∨SqT K H p xs)/\Uu x=true/\xs.all Uu=true/\Q (.bl (if neg then !inV x xs else inV x xs)) H
theorem Vc:OpR X (Ak .In) (rIn X.K false):=by
 intro b8 s σ H x y v u Q I W ry h;obtain⟨p,xs,rfl,G,Z,fs,q⟩:=h;cases ry;rcases G with G | G
 .obtain⟨c9,r,V,hz⟩:=I.list G;refine SeqAt.in_listAt (eqU x) V.isList (λw O=>UX W Z r fs w (by simpa using O)) ⟨.bl _,H,I,rfl,?_⟩
  rw[show c9.toArray.any (eqU x)=c9.any (eqU x) by simp,Q1 r fs]
  exact q
 .obtain⟨c9,r,V,hz⟩:=I.tuple G;refine SeqAt.in_tupleAt (eqU x) V (λw O=>UX W Z r fs w (by simpa using O)) ⟨.bl _,H,I,rfl,?_⟩
  rw[show c9.toArray.any (eqU x)=c9.any (eqU x) by simp,Q1 r fs]
  exact q
theorem Jb:OpR X (Ak .NotIn) (rIn X.K true):=by
 intro b8 s σ H x y v u Q I W ry h;obtain⟨p,xs,rfl,G,Z,fs,q⟩:=h;cases ry;rcases G with G | G
 .obtain⟨c9,r,V,hz⟩:=I.list G;refine SeqAt.notIn_listAt (eqU x) V.isList (λw O=>UX W Z r fs w (by simpa using O)) ⟨.bl _,H,I,rfl,?_⟩
  rw[show c9.toArray.any (eqU x)=c9.any (eqU x) by simp,Q1 r fs]
  exact q
 .obtain⟨c9,r,V,hz⟩:=I.tuple G;refine SeqAt.notIn_tupleAt (eqU x) V (λw O=>UX W Z r fs w (by simpa using O)) ⟨.bl _,H,I,rfl,?_⟩
  rw[show c9.toArray.any (eqU x)=c9.any (eqU x) by simp,Q1 r fs]
  exact q
theorem VZ:Jt X (.builtin "len") (λxs H Q=>∃p ys,xs=[.ref p]/\(SqL X.K H p ys∨SqT X.K H p ys)/\Q (.int ys.length) H):=by
 intro b8 s σ H xs us Q I r h;obtain⟨p,ys,rfl,O,q⟩:=h;obtain⟨u,rfl,Z⟩:=JN r;cases Z;have hn:=Gv;rcases O with O | O
 .obtain⟨c9,W,V,hz⟩:=I.list O;have G:=W.length;exact Calls.call_len_list V.isList (by simp only[zP] <;> lia) ⟨.int ys.length,H,I.tok _,⟨s.toks+1,by rw[zP,G]⟩,q⟩
 .obtain⟨c9,W,V,hz⟩:=I.tuple O;have G:=W.length;exact len_tuple V (by simp only[zP] <;> lia) ⟨.int ys.length,H,I.tok _,⟨s.toks+1,by rw[zP,G]⟩,q⟩
theorem Zj:Jt X (.type "list") (λxs H Q=>∃p ys,xs=[.ref p]/\(SqL X.K H p ys∨SqT X.K H p ys)/\∀l,H l=none->Q (.ref l) (upd H l (.lst ys))):=by
 intro b8 s σ H xs us Q I r h;obtain⟨p,ys,rfl,W,q⟩:=h;obtain⟨u,rfl,rx⟩:=JN r;cases rx;have V:∀(c9:List Aa),Vals ys c9->ys.length<=zF->∀(h':Heap) (G:Nat),(∀b o',s.heap.get? b=some o'->h'.get? b=some o') ->
   h'.get? s.heap.objs.size=some { cls:=.type "list",dict:=none,data:=.seq c9.toArray G,slots:=#[] }->EP X b8 σ Q (.ref s.heap.objs.size) { s with heap:=h' }:=λc9 O Z h' G kp e =>
  ⟨.ref s.heap.objs.size,_,I.laid (t':=s.toks) kp (zO _) (show ObjOk X.prog X.w _ h' _ (.lst ys) from⟨Z,c9,G,O,e⟩),rfl,q _ (I.hok.fresh (zO _))⟩
 rcases W with W | W
 .obtain⟨c9,O,pl,Z⟩:=I.list W;have aa:=O.length;obtain⟨o,ho,hc,n,hd⟩:=pl.isList;exact call_list_seq p (.inl rfl) ho hc hd (λh' G kp e=>V c9 O Z h' G kp e) (by simp only[zP] <;> lia)
 .obtain⟨c9,O,pl,Z⟩:=I.tuple W;have aa:=O.length;obtain⟨o,ho,hc,n,hd⟩:=pl;exact call_list_seq p (.inr rfl) ho hc hd (λh' G kp e=>V c9 O Z h' G kp e) (by simp only[zP] <;> lia)
def tyV (K:Frag)(T:String)(x:V)(H:Hp):Prop:=match x with
 | .str _=>T="str"
 | .int _=>T="int"
 | .ref p=>(T="list"/\∃xs,SqL K H p xs)∨(T="tuple"/\∃o,K.lookup p=some o/\o.cls = .type "tuple"/\o.dict=none) ∨
   (T="dict"/\((∃kvs,H p=some (.dK kvs))∨∃kvs,H p=some (.dT kvs)))∨(T="set"/\∃S n,H p=some (.set S n))
 | _=>False
theorem RZ{T:String}(I:Inv X b8 σ H s)(r:RelV x v)(ty:tyV X.K T x H):
  s.TypeIs v T/\∀a,v = .ref a->∃V,s.heap.get? a=some V/\V.dict=none:=by
 cases x with
 | str z =>
  obtain⟨t,rfl⟩:=r;cases (show T="str" from ty)
  exact⟨typeIs_str s z t,λ_ e=>nomatch e⟩
 | int i =>
  obtain⟨t,rfl⟩:=r;cases (show T="int" from ty)
  exact⟨typeIs_int s i t,λ_ e=>nomatch e⟩
 | ref p =>
  cases r;rcases ty with ⟨rfl,xs,Z⟩ | ⟨rfl,o,G,hc,O⟩ | ⟨rfl,G⟩ | ⟨rfl,S,n,G⟩
  .obtain⟨c9,_,W,_⟩:=I.list Z;refine⟨W.isList.typeIs,λa e=>?_⟩;cases e;obtain⟨o,n,e,c,O,_⟩:=W;exact⟨o,e,O⟩
  .refine⟨⟨o,I.kIn p o G,hc⟩,λa e=>?_⟩;cases e;exact⟨o,I.kIn _ o G,O⟩
  .have z:∃o,s.heap.get? p=some o/\o.ExactDict:=by
    rcases G with ⟨kvs,G⟩ | ⟨kvs,G⟩
    .obtain⟨_,_,_,_,o,_,_,e,ex,_⟩:=I.hok p _ G;exact⟨o,e,ex⟩
    .obtain⟨_,_,_,_,o,_,_,e,ex,_⟩:=I.hok p _ G;exact⟨o,e,ex⟩
   obtain⟨o,e,ex⟩:=z;refine⟨⟨o,e,ex.1⟩,λa e2=>?_⟩;cases e2;exact⟨o,e,ex.2.1⟩
  .obtain⟨o,_,_,_,e,ex,_⟩:=I.hok p _ G;refine⟨⟨o,e,ex.1⟩,λa e2=>?_⟩;cases e2;exact⟨o,e,ex.2.1⟩
 | _=>exact False.elim ty
def tBM0 (K:Frag)(T:String)(r:V->List V->Hp->VK->Prop)(to:TE):TE:=λσ H Q=>to σ H λx H1=>tyV K T x H1/\r x [] H1 Q
def tBM (K:Frag)(T:String)(r:V->List V->Hp->VK->Prop)(to:TE)(t:TA):TE:=λσ H Q=>to σ H λx H1=>tyV K T x H1/\t σ H1 λxs H2=>r x xs H2 Q
variable {o e:Ah}{es:List Ah}{to:TE}{t:TA}{name:Str}{cj cpos:Pos}{T id:String}{r:V->List V->Hp->VK->Prop}
theorem ND(pa:PlainAttrs T)(slot:Slot T name id)(V:typeOf (.builtin id)=pure (.type "method_descriptor"))(hm:MtR X id r)(ho:PE X o to)(O:attributeBase o name X.env (eval o X.env)=eval o X.env:=by rfl)(G:(cj.endLine==cpos.line)=true:=by rfl):PE X (.Call (.Attribute o name cj) [] [] cpos) (tBM0 X.K T r to):=by
 intro b8 s σ H Q I h;refine wpAny_Call_method0_late O G (thn (ho b8 s σ H _ I h) λv s1 W=>?_);obtain⟨x,H1,Z,r1,ty,q1⟩:=W;obtain⟨h1,h2⟩:=RZ Z r1 ty;exact⟨T,id,pa,slot,V,h1,h2,Calls.callWith_builtin rfl (PySem.evalArgs_none (hm b8 s1 σ H1 x [] v [] Q Z r1 .nil q1))⟩
theorem U4(pa:PlainAttrs T)(slot:Slot T name id)(aa:typeOf (.builtin id)=pure (.type "method_descriptor"))(hm:MtR X id r)(ho:PE X o to)(ha:PA X (e::es) t)(V:attributeBase o name X.env (eval o X.env)=eval o X.env:=by rfl)(Z:((Ao cpos (zG (e::es) X.env)).all (λx=>!x.1)&&(An cpos (Am [] X.env)).all (λx=>x.1.isSome)
&&decide ((e::es).length+([]:List Keyword).length+(if([]:List Keyword).isEmpty then 0 else 1)<30))=true:=by rfl)(O:(cj.endLine==cpos.line)=true:=by rfl)(hs:zG (e::es) X.env=(false,eval e X.env)::zG es X.env:=by rfl)(G:(Ao cpos (zG es X.env)).any (·.1)=false:=by rfl):
  PE X (.Call (.Attribute o name cj) (e::es) [] cpos) (tBM X.K T r to t):=by
 intro b8 s σ H Q I h;refine wpAny_Call_method_late V Z O rfl (thn (ho b8 s σ H _ I h) λv s1 W=>?_);obtain⟨x,H1,I1,r1,ty,q1⟩:=W;obtain⟨h1,h2⟩:=RZ I1 r1 ty;refine⟨T,id,pa,slot,aa,h1,h2,?_⟩;have hA:=ha cpos b8 s1 σ H1 _ I1 q1;rw[hs] at hA ⊢;refine Calls.callWith_builtin (by show(false || (Ao cpos (zG es X.env)).any (·.1))=false;rw[G] <;> rfl) (Calls.evalArgs_plain ?_)
 refine thn hA λus s2 W=>?_;obtain⟨vs,H2,I2,r2,q2⟩:=W;exact hm b8 s2 σ H2 x vs v us Q I2 r1 r2 q2
end
def MtM (X:Cx)(id:String)(r:V->List V->Hp->VK->Prop):Prop :=
 ∀(b8:List (Ab×Obj)) (s:Ac) (σ:St) (H:Hp) (x:V) (xs:List V) (v:Aa) (us:List Aa) (Q:VK),Inv X b8 σ H s->RelV x v->Vals xs us->r x xs H Q ->
  wpAny (model X.prog X.w) X.A (call (.builtin id) (v::us)) (EP X b8 σ Q) X.xe s
theorem Vals.one:∀{x:V} {us:List Aa},Vals [x] us->∃u,us=[u]/\RelV x u
 | _,_,.cons r .nil=>⟨_,rfl,r⟩
theorem Vals.zero:∀{us:List Aa},Vals [] us->us=[]
 | _,.nil=>rfl
theorem Vals.dropLast{xs:List V}{us:List Aa}(h:Vals xs us):Vals xs.dropLast us.dropLast:=by
 induction h with
 | nil=>exact .nil
 | cons r t G =>
  cases t with
  | nil=>exact .nil
  | cons q t'=>exact .cons r G
theorem Vals.reverse{xs:List V}{us:List Aa}(h:Vals xs us):Vals xs.reverse us.reverse:=by
 induction h with
 | nil=>exact .nil
 | cons r t G=>rw[wA,wA];exact Vals.append G (.cons r .nil)
theorem Vals.rep{xs:List V}{us:List Aa}(h:Vals xs us):∀k:Nat,Vals (yN k xs).flatten (yN k us).flatten
 | 0=>.nil
 | k+1=>by
  rw[wL,wL,vN,vN];exact Vals.append h (Vals.rep h k)
theorem Dj{α:Type}(l:List α):l.eraseIdx (l.length-1)=l.dropLast:=by
 induction l with
 | nil=>rfl
 | cons a r G =>
  cases r with
  | nil=>rfl
  | cons b r =>
   have e:(a::b::r).length-1=((b::r).length-1)+1:=by
    have h1:(a::b::r).length=r.length+2:=rfl;have h2:(b::r).length=r.length+1:=rfl;lia
   rw[e,List.eraseIdx_cons_succ,G]
   all_goals rfl
theorem WN(c9:List Aa):∀(k:Nat) (G:List Aa),
  List.foldl (λO V=>O++V) G.toArray (yN k c9.toArray)=(G++(yN k c9).flatten).toArray
 | 0,G=>by simp
 | k+1,G=>by
  have e:G.toArray++c9.toArray=(G++c9).toArray:=by simp
  have e2:(G++c9)++(yN k c9).flatten=G++(yN (k+1) c9).flatten:=by
   rw[wL,vN,yX]
  rw[<-e2,<-WN c9 k (G++c9),<-e,wL,List.foldl_cons]
section
variable {X:Cx}{b8:List (Ab×Obj)}{σ:St}{H:Hp}{s:Ac}{l b:Ab}{xs ys zs:List V}
theorem Inv.lset{f:Array Aa->Array Aa}(I:Inv X b8 σ H s)(W:H l=some (.lst xs))(e:s.heap.get? l=some { cls:=.type "list",data:=.seq c9.toArray n })(Z:f c9.toArray=its'.toArray)(O:Vals ys its')(hz:ys.length<=zF):
  Inv X b8 σ (upd H l (.lst ys)) { s with heap:=s.heap.update l (Obj.mapSeq f),toks:=t' }:=by
 have q:=PySem.IsL.update e f;rw[Z] at q;refine I.write (x:=l) (e:=l) (by rw[W];exact trivial) (.inl rfl) (λb' u V G=>(yT s.heap (Obj.mapSeq f) (Ne.symm V)).trans G) ⟨_,q⟩ ?_
 exact⟨hz,its',_,O,q⟩
theorem Inv.lnew(I:Inv X b8 σ H s)(G:Vals ys c9)(hz:ys.length<=zF):
  Inv X b8 σ (upd H s.heap.objs.size (.lst ys)) { s with heap:=s.heap.push { cls:=.type "list",data:=.seq c9.toArray },toks:=t' }:=
 I.laid (λ_ _ q=>zL _ q) (zO _) ⟨hz,c9,0,G,zU _ rfl⟩
theorem Inv.fresh(I:Inv X b8 σ H s):H s.heap.objs.size=none:=I.hok.fresh (zO _)
theorem Inv.lstM(I:Inv X b8 σ H s)(G:H l=some (.lst xs)):xs.length<=zF/\∃(c9:List Aa) (n:Nat),Vals xs c9/\xs.length=c9.length/\s.heap.get? l=some { cls:=.type "list",data:=.seq c9.toArray n }:=by
 obtain⟨z,c9,n,r,e⟩:=I.hok l _ G;exact⟨z,c9,n,r,r.length,e⟩
theorem MO(h:n<=zF):Builtin.List.listTooLong n=false:=by
 unfold Builtin.List.listTooLong;exact xW (by lia)
end
section
variable {X:Cx}
def KA:V->List V->Hp->VK->Prop:=λx vs H Q=>∃l xs y,x = .ref l/\vs=[y]/\H l=some (.lst xs)/\xs.length<zF/\Q .non (upd H l (.lst (xs++[y])))
theorem ZZ:MtM X "list.append" KA:=by
 intro b8 s σ H x vs v us Q I O V h;obtain⟨l,xs,y,rfl,rfl,G,Z,q⟩:=h;cases O;obtain⟨u,rfl,W⟩:=V.one;obtain⟨z,c9,n,r,hl,e⟩:=I.lstM G;refine call_meets F.slot_list_append ⟨_,e,rfl⟩ F.entry_list_append (F.args_list_append_2 _ _) (PySem.list_append l c9.toArray n u (by rw[zP];lia)) ⟨e,?_⟩
 refine⟨.non,_,I.lset (its':=c9++[u]) G e (by simp) (r.append (.cons W .nil)) ?_,rfl,q⟩
 rw[zR,vO];lia
def Kz:V->List V->Hp->VK->Prop:=λx vs H Q=>∃l b xs zs,x = .ref l/\vs=[.ref b]/\H l=some (.lst xs)/\H b=some (.lst zs)/\xs.length+zs.length<=zF/\Q .non (upd H l (.lst (xs++zs)))
theorem Ry:MtM X "list.extend" Kz:=by
 intro b8 s σ H x vs v us Q I Z rv h;obtain⟨l,b,xs,zs,rfl,rfl,W,hB,hz,q⟩:=h;cases Z;obtain⟨u,rfl,ru⟩:=rv.one;cases ru;obtain⟨z,c9,n,r,hl,e⟩:=I.lstM W;obtain⟨z2,G,n2,r2,aa,e2⟩:=I.lstM hB;have V:c9.toArray.size+G.toArray.size<=zF:=by rw[zP,zP];lia
 have O:¬ (!c9.toArray.isEmpty&&Builtin.List.listTooLong (c9.toArray.size+G.toArray.size))=true:=by
  rw[MO V,jW];exact zW
 refine call_meets F.slot_list_extend ⟨_,e,rfl⟩ F.entry_list_extend (F.args_list_extend_2 _ _)
  (AutoSeq1.list_extend_list_list_0 l c9.toArray n b G.toArray n2 O (by rw[zP];lia) (by lia)) ⟨e,e2,?_⟩
 refine⟨.non,_,I.lset (its':=c9++G) W e (by simp) (r.append r2) ?_,rfl,q⟩
 rw[zR];lia
def rPop:V->List V->Hp->VK->Prop:=λx vs H Q=>∃l xs y,x = .ref l/\vs=[]/\H l=some (.lst xs)/\xs[xs.length-1]?=some y/\Q y (upd H l (.lst xs.dropLast))
theorem Pj:MtM X "list.pop" rPop:=by
 intro b8 s σ H x vs v us Q I W rv h;obtain⟨l,xs,y,rfl,rfl,V,hy,q⟩:=h;cases W;have O:=rv.zero;subst O;obtain⟨z,c9,n,r,hl,e⟩:=I.lstM V;obtain⟨u,Z,ru⟩:=r.get hy;have G:c9.toArray[c9.toArray.size-1]?=some u:=by
  show c9.toArray[c9.length-1]?=some u;rw[<-vE,<-hl];exact Z
 refine call_meets F.slot_list_pop ⟨_,e,rfl⟩ F.entry_list_pop (F.args_list_pop_1 _) (MeetsSeq.list_pop_last l c9.toArray n u G (by rw[zP];lia)) ⟨e,?_⟩
 refine⟨y,_,I.lset (its':=c9.dropLast) V e ?_ r.dropLast ?_,ru,q⟩
 .show c9.toArray.eraseIdxIfInBounds (c9.toArray.size-1)=c9.dropLast.toArray;rw[zP,List.eraseIdxIfInBounds_toArray,Dj]
 .rw[List.length_dropLast];lia
def LE:V->List V->Hp->VK->Prop:=λx vs H Q=>∃l xs,x = .ref l/\vs=[]/\H l=some (.lst xs)/\Q .non (upd H l (.lst xs.reverse))
theorem NR:MtM X "list.reverse" LE:=by
 intro b8 s σ H x vs v us Q I V W h;obtain⟨l,xs,rfl,rfl,O,q⟩:=h;cases V;have G:=W.zero;subst G;obtain⟨z,c9,n,r,Z,e⟩:=I.lstM O;refine call_meets F.slot_list_reverse ⟨_,e,rfl⟩ F.entry_list_reverse (F.args_list_reverse_1 _) (AutoSeq1.list_reverse_list_0 l c9.toArray n (by rw[zP];lia)) ⟨e,?_⟩
 refine⟨.non,_,I.lset (its':=c9.reverse) O e (by simp) r.reverse ?_,rfl,q⟩
 rw[wM];lia
inductive IsC(x y:V)(H:Hp)(Q:VK):Prop
 | mk (l b:Ab) (xs zs:List V) (a1:x = .ref l) (a2:y = .ref b) (a3:H l=some (.lst xs)) (a4:H b=some (.lst zs)) (a5:xs.length+zs.length<=zF) (h:∀p,H p=none->Q (.ref p) (upd H p (.lst (xs++zs)))):IsC x y H Q
def rCat:R2:=λx y H Q=>IsC x y H Q
theorem YN:OpR X (Al .Add) rCat:=by
 intro b8 s σ H x y v u Q I O V h;obtain⟨l,b,xs,zs,rfl,rfl,Z,hB,hz,q⟩:=h;cases O;cases V;obtain⟨z,c9,n,r,hl,e⟩:=I.lstM Z;obtain⟨z2,G,n2,W,aa,e2⟩:=I.lstM hB;refine PySem.P.add_list e e2 ?_ (by rw[zP,zP];lia)
 have ea:c9.toArray++G.toArray=(c9++G).toArray:=by simp
 rw[ea];exact⟨.ref _,_,I.lnew (t':=s.toks) (r.append W) (by rw[zR];lia),rfl,q _ I.fresh⟩
def rRep:R2:=λx y H Q=>∃l k xs,x = .ref l/\y = .int k/\H l=some (.lst xs)/\-(2 ^ 63)<=k/\k<2 ^ 63/\xs.length*k.toNat<=zF /\
 ∀p,H p=none->Q (.ref p) (upd H p (.lst (yN k.toNat xs).flatten))
theorem KU{α:Type}(xs:List α)(k:Nat):(yN k xs).flatten.length=k*xs.length:=by
 induction k with
 | zero=>simp
 | succ k G=>rw[wL,vN,zR,G,Nat.succ_mul,Nat.add_comm]
theorem P0:OpR X (Al .Mult) rRep:=by
 intro b8 s σ H x y v u Q I rx ry h;obtain⟨l,k,xs,rfl,rfl,hH,h1,h2,hz,q⟩:=h;cases rx;obtain⟨t,rfl⟩:=ry;obtain⟨z,c9,n,r,hl,e⟩:=I.lstM hH;have Z:c9.toArray.size*k.toNat<=zF:=by rw[zP,<-hl];exact hz
 have V:¬ c9.toArray.size*k.toNat>(2 ^ 63-1) / 8:=by
  have:(zF:Nat)<=(2 ^ 63-1) / 8:=by decide
  lia
 have W:¬ (!Builtin.List.listFitsIndex k)=true:=by
  rw[fitsIndex_both h1 h2];exact zW
 have G:¬ Builtin.List.listTooLong (c9.toArray.size*k.toNat)=true:=by
  rw[MO Z];exact zW
 have O:List.foldl (λx1 x2=>x1++x2) #[] (yN (if c9.toArray.isEmpty=true then 0 else k.toNat) c9.toArray)=(yN k.toNat c9).flatten.toArray:=by
  have f0:∀m:Nat,List.foldl (λx1 x2=>x1++x2) #[] (yN m c9.toArray)=(yN m c9).flatten.toArray:=λm=>by
   have:=WN c9 m []
   rw[List.nil_append] at this;exact this
  rw[f0];cases c9 with
  | nil=>simp
  | cons a r'=>rw[xZ (by simp)]
 refine wpAny_binaryOp_repeat_ref (T:="list") (U:="int") (by decide) ⟨_,e,rfl⟩ (λs'=>typeIs_int s' k t) noFill_list_mul F.fills_int_mul F.slot_int_rmul repeat_list F.slot_int_index.lookup
  (call_meets F.slot_int_rmul (typeIs_int s k t) F.entry_int_rmul (F.args_int_rmul_2 _ _) (int___rmul___int_list k t l c9.toArray n)
   ⟨e,rfl,⟨_,e,rfl⟩,call_meets F.slot_list_mul ⟨_,e,rfl⟩ F.entry_list_mul (F.args_list_mul_2 _ _) (AutoListH.list___mul___list_int_3 l c9.toArray n k t W V G) ⟨e,?_⟩⟩)
 rw[O];exact⟨.ref _,_,I.lnew (t':=s.toks) (r.rep k.toNat) (by rw[KU,Nat.mul_comm];exact hz),rfl,q _ I.fresh⟩
end
section
variable {prog:Ae}{w:Af}{A:Ag}{E:Aa->Ac->Prop}{s:Ac}
set_option maxRecDepth 100000 in
end
section
variable {X:Cx}
end
section
variable {κ:Type}[DecidableEq κ]
def valV (kvs:List (κ×V))(k:κ):Option V:=(kvs.find? λkv=>decide (kv.1=k)).map (·.2)
def putK (kvs:List (κ×V))(k:κ)(v:V):List (κ×V):=
 if(kvs.any λkv=>decide (kv.1=k))=true then kvs.map (λkv=>if kv.1=k then(kv.1,v) else kv) else kvs++[(k,v)]
theorem Yz{p:κ×V}{r:List (κ×V)}{k:κ}(e:p.1=k):valV (p::r) k=some p.2:=by simp[valV,vJ,e]
theorem YA{p:κ×V}{r:List (κ×V)}{k:κ}(e:¬ p.1=k):valV (p::r) k=valV r k:=by simp[valV,vJ,e]
theorem Jp(k:κ):∀kvs:List (κ×V),(kvs.any λkv=>decide (kv.1=k))=(valV kvs k).isSome
 | []=>rfl
 | p::r=>by
  rw[vP];by_cases e:p.1=k
  .simp only[Yz e,xV e,Bool.true_or,Option.isSome_some]
  .rw[YA e,xW e,Bool.false_or];exact Jp k r
theorem Mb(k j:κ)(y:V):∀kvs:List (κ×V),valV (kvs.map λkv=>if kv.1=k then(kv.1,y) else kv) j=(valV kvs j).map λx=>if j=k then y else x
 | []=>rfl
 | p::r=>by
  have G:=Mb k j y r;rw[yV];by_cases h:p.1=k
  .rw[xY h];by_cases e:p.1=j
   .rw[Yz (p:=(p.1,y)) e,Yz e,wS,xY (e.symm.trans h)]
   .rw[YA (p:=(p.1,y)) e,YA e,G]
  .rw[xZ h];by_cases e:p.1=j
   .rw[Yz (p:=p) e,Yz e,wS,xZ (λz=>h (e.trans z))]
   .rw[YA (p:=p) e,YA e,G]
theorem We(k j:κ)(y:V):∀kvs:List (κ×V),valV kvs k=none->valV (kvs++[(k,y)]) j=if j=k then some y else valV kvs j
 | [],_=>by
  by_cases e:k=j
  .rw[xY e.symm];exact Yz (p:=(k,y)) e
  .rw[xZ (λz=>e z.symm)];exact YA (p:=(k,y)) e
 | p::r,hn=>by
  rw[uC];have G:¬ p.1=k:=λz=>by rw[Yz z] at hn;cases hn
  rw[YA G] at hn;have O:=We k j y r hn;by_cases e:p.1=j
  .rw[Yz e,Yz e,xZ (λz=>G (e.trans z))]
  .rw[YA e,YA e,O]
theorem RY(kvs:List (κ×V))(k j:κ)(y:V):valV (putK kvs k y) j=if j=k then some y else valV kvs j:=by
 unfold putK;by_cases a:(kvs.any λkv=>decide (kv.1=k))=true
 .rw[xY a,Mb];rw[Jp] at a;by_cases e:j=k
  .obtain⟨x,G⟩:=jT.mp a;rw[xY e,e,G,wS,xY rfl]
  .rw[xZ e];cases valV kvs j with
   | none=>rfl
   | some x=>rw[wS,xZ e]
 .rw[xZ a];refine We k j y kvs ?_;rw[Jp] at a;cases q:valV kvs k with
  | none=>rfl
  | some x=>rw[q] at a;exact(a rfl).elim
theorem U5(kvs:List (κ×V))(k:κ)(v:V):(putK kvs k v).length<=kvs.length+1:=by
 unfold putK;split
 .rw[zK];lia
 .rw[zR,xF,jN];lia
theorem Mv{kvs:List (κ×V)}{k:κ}(v:V)(h:valV kvs k=none):putK kvs k v=kvs++[(k,v)]:=by
 unfold putK;rw[Jp,h];exact xZ (by decide)
theorem RelO.isSome_eq{u:Option Aa}(r:RelO o u):o.isSome=u.isSome:=by
 cases o with
 | none=>cases u with
  | none=>rfl
  | some _=>exact(show False from r).elim
 | some _=>cases u with
  | none=>exact(show False from r).elim
  | some _=>rfl
theorem RelO.getD{o:Option V}{u:Option Aa}{d:V}{d':Aa}(r:RelO o u)(G:RelV d d'):RelV (o.getD d) (u.getD d'):=by
 cases o with
 | none=>cases u with
  | none=>exact G
  | some _=>exact(show False from r).elim
 | some _=>cases u with
  | none=>exact(show False from r).elim
  | some _=>exact r
theorem KV.val{kvs:List (κ×V)}{vs:List (κ×Aa)}(r:KV kvs vs)(k:κ):RelO (valV kvs k) (valueAt vs k):=by
 unfold KV at r
 induction r with
 | nil=>exact True.intro
 | @cons p q ps qs h t ih =>
  obtain⟨h1,h2⟩:=h;by_cases e:p.1=k
  .have G:q.1=k:=h1.symm.trans e;have b:valueAt (q::qs) k=some q.2:=by simp[valueAt,vJ,G]
   rw[Yz e,b];exact h2
  .have G:¬ q.1=k:=λz=>e (h1.trans z);have b:valueAt (q::qs) k=valueAt qs k:=by simp[valueAt,vJ,G]
   rw[YA e,b];exact ih
theorem KV.any{kvs:List (κ×V)}{vs:List (κ×Aa)}(r:KV kvs vs)(k:κ):(kvs.any λkv=>decide (kv.1=k))=vs.any λkv=>decide (kv.1=k):=by
 unfold KV at r
 induction r with
 | nil=>rfl
 | cons h t G=>rw[vP,vP,G,h.1]
theorem KV.repl{kvs:List (κ×V)}{vs:List (κ×Aa)}(r:KV kvs vs)(k:κ)(G:RelV y u):
  KV (kvs.map λkv=>if kv.1=k then(kv.1,y) else kv) (vs.map λkv=>if kv.1=k then(kv.1,u) else kv):=by
 unfold KV at r ⊢
 induction r with
 | nil=>exact .nil
 | @cons p q ps qs h t ih =>
  rw[yV,yV];refine .cons ?_ ih;obtain⟨h1,h2⟩:=h;by_cases e:p.1=k
  .rw[xY e,xY (h1.symm.trans e)];exact⟨h1,G⟩
  .rw[xZ e,xZ (λz=>e (h1.trans z))];exact⟨h1,h2⟩
theorem KV.put{kvs:List (κ×V)}{vs:List (κ×Aa)}(r:KV kvs vs)(k:κ)(G:RelV y u):KV (putK kvs k y) (stored vs k u):=by
 unfold putK stored;rw[r.any k];by_cases e:(vs.any λkv=>decide (kv.1=k))=true
 .rw[xY e,xY e];exact r.repl k G
 .rw[xZ e,xZ e];exact Paired.snoc r ⟨rfl,G⟩
theorem KV.length{kvs:List (κ×V)}{vs:List (κ×Aa)}(r:KV kvs vs):kvs.length=vs.length:=Paired.length r
end
theorem VS{k:Key}(r:RelV (kV k) u):(mixKind P w).is k u=true:=by
 cases k with
 | inl i=>obtain⟨t,e⟩:=(show ∃t,u=Value.int i t from r);subst e;exact MU P w i t
 | inr x=>obtain⟨t,e⟩:=(show ∃t,u=Value.str x t from r);subst e;exact MR P w x t
theorem WJ{P:Ae}{w:Af}:∀{ks:List Key} {us:List Aa},Vals (ks.map kV) us->ItemsAre (mixKind P w) ks us
 | [],_,r=>by rw[uZ] at r;cases r;exact .nil
 | k::ks,_,r=>by
  rw[yV] at r;cases r with
  | cons h t=>exact .cons (VS h) (WJ t)
abbrev KT(H:Hp):List (List Key×V)->List (List Key×Ab×Aa)->Prop:=Paired λp q=>p.1=q.1/\H q.2.1=some (.tup (p.1.map kV))/\RelV p.2 q.2.2
theorem KT.val(r:KT H kvs xs)(k:List Key):RelO (valV kvs k) ((atKey xs k).map (·.2)):=by
 induction r with
 | nil=>exact True.intro
 | @cons p q ps qs h t ih =>
  obtain⟨h1,_,h2⟩:=h;by_cases e:p.1=k
  .have G:q.1=k:=h1.symm.trans e;have b:atKey (q::qs) k=some q.2:=by simp[atKey,vJ,G]
   rw[Yz e,b];exact h2
  .have G:¬ q.1=k:=λz=>e (h1.trans z);have b:atKey (q::qs) k=atKey qs k:=by simp[atKey,vJ,G]
   rw[YA e,b];exact ih
theorem KT.repl(r:KT H kvs xs)(k:List Key)(O:RelV y u):
  KT H (kvs.map λkv=>if kv.1=k then(kv.1,y) else kv) (xs.map (putAt k u)):=by
 induction r with
 | nil=>exact .nil
 | @cons p q ps qs h t ih =>
  rw[yV,yV];refine .cons ?_ ih;obtain⟨h1,h2,G⟩:=h;unfold putAt;by_cases e:p.1=k
  .rw[xY e,xY (h1.symm.trans e)];exact⟨h1,h2,O⟩
  .rw[xZ e,xZ (λz=>e (h1.trans z))];exact⟨h1,h2,G⟩
theorem KT.put(r:KT H kvs xs)(k:List Key){b:Ab}(O:H b=some (.tup (k.map kV)))(G:RelV y u):
  KT H (putK kvs k y) (storedH xs k b u):=by
 have e:(kvs.any λkv=>decide (kv.1=k))=(atKey xs k).isSome:=by
  rw[Jp,(r.val k).isSome_eq,uY]
 unfold putK storedH;rw[e];by_cases q:(atKey xs k).isSome=true
 .rw[xY q,xY q];exact r.repl k G
 .rw[xZ q,xZ q];exact Paired.snoc r ⟨rfl,O,G⟩
theorem KT.keeps(r:KT H kvs xs)(G:∀b ys,H b=some (.tup ys)->H' b=some (.tup ys)):KT H' kvs xs :=
 Paired.mapP r λ_ _ z=>⟨z.1,G _ _ z.2.1,z.2.2⟩
section
variable {P:Ae}{w:Af}{H:Hp}{h:Heap}{a:Ab}
theorem Oq{u:HO}(G:HOk P w H h)(e:Rd H a u):ObjOk P w H h a u:=e.ok G
theorem VW{kvs:List (Key×V)}(G:HOk P w H h)(e:Rd H a (.dK kvs)):kvs.length<=zF/\(a==sysModules)=false/\∃vs,KV kvs vs/\h.DictOf (mixKind P w) a vs :=
 show ObjOk P w H h a (.dK kvs) from Oq G e
theorem N3{kvs:List (Key×V)}(G:HOk P w H h)(e:H a=some (.dK kvs)):kvs.length<=zF/\(a==sysModules)=false/\∃vs,KV kvs vs/\h.DictOf (mixKind P w) a vs:=VW G (.inl e)
theorem Vv{ks:List Key}(O:HOk P w H h)(e:H a=some (.tup (ks.map kV))):(tupleKind (mixKind P w)).is h ks a:=by
 obtain⟨_,c9,r,o,h1,h2,n,G⟩:=(show ObjOk P w H h a (.tup (ks.map kV)) from O a _ e)
 exact⟨o,c9.toArray,n,h1,h2,G,by simpa using WJ r⟩
theorem QF(W:HOk P w H h)(e:Rd H a (.dT kvs)):kvs.length<=zF/\(a==sysModules)=false /\
  ∃xs,KT H kvs xs/\h.DictOfH (tupleKind (mixKind P w)) a xs:=by
 obtain⟨z,y,xs,r,o,es,ep,h1,h2,h3,Z,h5⟩:=(show ObjOk P w H h a (.dT kvs) from Oq W e)
 refine⟨z,y,xs,r,o,es,ep,h1,h2,h3,Z,λx G=>?_,h5⟩;have O:∀{l:List (List Key×V)} {m:List (List Key×Ab×Aa)},KT H l m->∀x∈m,(tupleKind (mixKind P w)).is h x.1 x.2.1:=by
  intro l m q
  induction q with
  | nil=>intro x G;exact nomatch G
  | @cons p q ps qs hq t ih =>
   intro x G;rcases yF.mp G with e | G
   .subst e;exact Vv W (by rw[<-hq.1];exact hq.2.1)
   .exact ih x G
 exact O r x G
theorem EQ(G:HOk P w H h)(e:H a=some (.dT kvs)):kvs.length<=zF/\(a==sysModules)=false /\
  ∃xs,KT H kvs xs/\h.DictOfH (tupleKind (mixKind P w)) a xs:=QF G (.inl e)
end
def DGet (H:Hp)(a:Ab)(y:V)(r:Option V):Prop :=
 (∃kvs k,Rd H a (.dK kvs)/\y=kV k/\r=valV kvs k)∨∃kvs k b,Rd H a (.dT kvs)/\y = .ref b/\H b=some (.tup (k.map kV))/\r=valV kvs k
def DPut (H:Hp)(a:Ab)(y v:V)(H':Hp):Prop :=
 (∃kvs k,H a=some (.dK kvs)/\y=kV k/\kvs.length<zF/\H'=upd H a (.dK (putK kvs k v))) ∨
 ∃kvs k b,H a=some (.dT kvs)/\y = .ref b/\H b=some (.tup (k.map kV))/\kvs.length<zF/\H'=upd H a (.dT (putK kvs k v))
theorem DGet.k{H:Hp}{a:Ab}{kvs:List (Key×V)}{k:Key}(e:H a=some (.dK kvs)):DGet H a (kV k) (valV kvs k):=.inl ⟨kvs,k,.inl e,rfl,rfl⟩
theorem DPut.k{H:Hp}{a:Ab}{kvs:List (Key×V)}{k:Key}{v:V}(e:H a=some (.dK kvs))(G:kvs.length<zF):DPut H a (kV k) v (upd H a (.dK (putK kvs k v))):=.inl ⟨kvs,k,e,rfl,G,rfl⟩
section
variable {X:Cx}{b8:List (Ab×Obj)}{σ:St}{H:Hp}{s:Ac}{a:Ab}{y v:V}{u r:Aa}{o:Option V}{A:Ag}{E:Aa->Ac->Prop}
theorem Inv.big(I:Inv X b8 σ H s):sysModules<s.heap.objs.size:=by
 have h:zE<s.heap.objs.size:=(I.mod.glob.keeps I.bk).lt;exact qN (by decide) h
theorem RN(hu:A.units+1<cLine)(I:Inv X b8 σ H s)(g:DGet H a y (some v))(ry:RelV y u)(h:∀V s',Inv X b8 σ H s'->RelV v V->Q V s'):
  wpAny (model X.prog X.w) A (getItem (.ref a) u) Q E s:=by
 rcases g with ⟨kvs,k,e,Z,l⟩ | ⟨kvs,k,b,e,Z,eb,l⟩
 .subst Z;obtain⟨z,hd,vs,O,dd⟩:=VW I.hok e;obtain⟨V,W,G⟩:=RelO.some_of (v:=v) (o:=valueAt vs k) (by rw[l];exact O.val k)
  exact wpAny_getItem_of (VS ry) dd.mapOf W (h V _ (I.tok _) G)
 .subst Z;cases (show u=Value.ref b from ry)
  obtain⟨z,hd,xs,O,dd⟩:=QF I.hok e;obtain⟨V,W,G⟩:=RelO.some_of (v:=v) (o:=(atKey xs k).map (·.2)) (by rw[l];exact O.val k)
  obtain⟨p,hp,aa⟩:=Option.map_eq_some_iff.mp W;refine wpAny_getItem_heap (tupleKind_room_in1 hu) (Vv I.hok eb) dd hp ?_;rw[aa];exact h V _ (I.tok _) G
theorem d_in(Z:A.units+1<cLine)(I:Inv X b8 σ H s)(g:DGet H a y o)(W:RelV y u)(h:∀s',Inv X b8 σ H s'->Q (.bool o.isSome) s'):
  wpAny (model X.prog X.w) A (Ak .In u (.ref a)) Q E s:=by
 rcases g with ⟨kvs,k,e,V,l⟩ | ⟨kvs,k,b,e,V,eb,l⟩
 .subst V;obtain⟨z,O,vs,G,dd⟩:=VW I.hok e;refine wpAny_in_of (VS W) O dd.mapOf ?_;rw[<-(G.val k).isSome_eq,<-l];exact h _ (I.tok _)
 .subst V;cases (show u=Value.ref b from W)
  obtain⟨z,O,xs,G,dd⟩:=QF I.hok e;refine wpAny_in_heap (tupleKind_room_in1 Z) (Vv I.hok eb) O dd ?_;have q:=(G.val k).isSome_eq;rw[uY] at q;rw[<-q,<-l];exact h _ (I.tok _)
theorem O3(Z:A.units+1<cLine)(I:Inv X b8 σ H s)(g:DGet H a y o)(W:RelV y u)(h:∀s',Inv X b8 σ H s'->Q (.bool (!o.isSome)) s'):
  wpAny (model X.prog X.w) A (Ak .NotIn u (.ref a)) Q E s:=by
 rcases g with ⟨kvs,k,e,V,l⟩ | ⟨kvs,k,b,e,V,eb,l⟩
 .subst V;obtain⟨z,O,vs,G,dd⟩:=VW I.hok e;refine wpAny_notIn_of (VS W) O dd.mapOf ?_;rw[<-(G.val k).isSome_eq,<-l];exact h _ (I.tok _)
 .subst V;cases (show u=Value.ref b from W)
  obtain⟨z,O,xs,G,dd⟩:=QF I.hok e;refine wpAny_notIn_heap (tupleKind_room_in1 Z) (Vv I.hok eb) O dd ?_;have q:=(G.val k).isSome_eq;rw[uY] at q;rw[<-q,<-l];exact h _ (I.tok _)
theorem QW{O:HO}(I:Inv X b8 σ H s)(Z:Mut (H a))(hs:Heap.SameBut a s.heap h')(V:∃q,h'.get? a=some q)(G:ObjOk X.prog X.w (upd H a O) h' a O):
  Inv X b8 σ (upd H a O) { s with heap:=h',toks:=t' }:=
 I.write (x:=a) (e:=a) Z (.inl rfl) (λb q W z=>(hs.2 b W).trans z) V G
theorem Dm{kvs:List (Key×V)}{vs:List (Key×Aa)}(z:kvs.length<=zF)(O:(a==sysModules)=false)(G:KV kvs vs)(dd:h'.DictOf (mixKind P w) a vs):
  ObjOk P w H' h' a (.dK kvs):=⟨z,O,vs,G,dd⟩
theorem RM{Q:Unit->Ac->Prop}(hu:A.units+1<cLine)(I:Inv X b8 σ H s)(g:DPut H a y v H')(ry:RelV y u)(rv:RelV v r)(h:∀s',Inv X b8 σ H' s'->Q () s'):
  wpAny (model X.prog X.w) A (setItem (.ref a) u r) Q E s:=by
 rcases g with ⟨kvs,k,e,ey,l,eH⟩ | ⟨kvs,k,b,e,ey,eb,l,eH⟩
 .subst ey eH;obtain⟨z,W,vs,G,dd⟩:=N3 I.hok e;have Z:vs.length<=zF:=by rw[<-G.length];exact z
  have hl:(putK kvs k v).length<=zF:=by have:=U5 kvs k v;lia
  refine wpAny_setItem_pairs (hsz:=Z) (VS ry) dd λh' O hs=>h _ ?_;have he:∃q,h'.get? a=some q:=let ⟨q,_,_,V,_⟩:=O;⟨q,V⟩
  exact QW I (by rw[e];exact True.intro) hs he (Dm hl W (G.put k rv) O)
 .subst ey eH;cases (show u=Value.ref b from ry)
  obtain⟨z,W,xs,G,dd⟩:=EQ I.hok e;have Z:xs.length<=zF:=by rw[<-Paired.length G];exact z
  have hl:(putK kvs k v).length<=zF:=by have:=U5 kvs k v;lia
  refine wpAny_setItem_heap (hsz:=Z) (tupleKind_room_in1 hu) (Vv I.hok eb) dd λh' O hs=>h _ ?_;obtain⟨q,es,ep,V,h2,h3,h4,_,h5⟩:=O;refine QW I (by rw[e];exact True.intro) hs ⟨q,V⟩ ⟨hl,W,_,(G.put k eb rv).keeps λc ys ec=>?_,q,es,ep,V,h2,h3,h4,h5⟩
  rw[Z5 (YL ec e (λz=>nomatch z))];exact ec
end
section
variable {X:Cx}{b8:List (Ab×Obj)}{σ:St}{H:Hp}{s:Ac}{a:Ab}{kvs:List (Key×V)}{k:Key}{u:Aa}{A:Ag}{E:Aa->Ac->Prop}
theorem ER(I:Inv X b8 σ H s)(e:Rd H a (.dK kvs))(h:∀t s',Inv X b8 σ H s'->Q (.int kvs.length t) s'):wpAny (model X.prog X.w) A (call (.builtin "len") [.ref a]) Q E s:=by
 obtain⟨z,O,vs,G,dd⟩:=VW I.hok e;refine call_len_dict O dd (by rw[<-G.length];rw[sizeLine_eq] at z;lia) ?_
 rw[<-G.length];exact h _ _ (I.tok _)
end
def NoSl (i:Ah):Prop:=∀ov iv,subscripted i false ov iv=operate [ov,iv] (getItem ov iv)
theorem Ki{prog:Ae}{E:Aa->Ac->Prop}{env:Env}{value G:Ah}{T id:String}(hl:typeLookup (.type T) "__getitem__"=pure (some (.builtin id)))(hs:NoSl G)(h:wpAny (model prog w) A (eval value env) (λo Z=>wpAny (model prog w) A (eval G env) (λi V=>V.TypeIs o T/\wpAny (model prog w) A (getItem o i) Q E V) E Z) E s):
  wpAny (model prog w) A (eval (.Subscript value G pos) env) Q E s:=by
 refine Subscript_ (zC h (λo Z h₁=>zC h₁ (λi V W=>?_) λ_ _ x=>x) λ_ _ x=>x);obtain⟨hT,W⟩:=W;unfold subscriptTail;refine zA ?_;rw[getitemInPython_of_ne hT.not_modules];refine zA (wpAny_specialOf hT hl ?_);have O:wpAny (model prog w) A (subscripted G false o i) (λr s₃=>wpAny (model prog w) A (letTemporaryGo value o r >>= λ_=>pure r) Q E s₃) E V:=by
  rw[hs o i];exact wpAny_operating (zC W (λr s₃ h₃=>zA (wpAny_letTemporaryGo (zB h₃))) λ_ _ x=>x)
 first
  | exact zB (zA O)
  | exact zA (zB (zA O))
  | exact zA O
theorem N5(I:Inv X b8 σ H s)(g:DGet H a y o):s.TypeIs (.ref a) "dict":=by
 rcases g with ⟨kvs,k,e,_,_⟩ | ⟨kvs,k,b,e,_,_,_⟩
 .obtain⟨_,_,vs,_,dd⟩:=VW I.hok e;exact dd.typeIs
 .obtain⟨_,_,xs,_,dd⟩:=QF I.hok e;exact dd.typeIs
def Oj(td ty:TE):TE:=λσ H Q=>td σ H λx H1=>ty σ H1 λy H2=>∃a v,x = .ref a/\DGet H2 a y (some v)/\Q v H2
def tDIn (ty td:TE):TE:=λσ H Q=>ty σ H λy H1=>td σ H1 λx H2=>∃a o,x = .ref a/\DGet H2 a y o/\Q (.bl o.isSome) H2
def Kh(ty td:TE):TE:=λσ H Q=>ty σ H λy H1=>td σ H1 λx H2=>∃a o,x = .ref a/\DGet H2 a y o/\Q (.bl (!o.isSome)) H2
def EA(td ty tv:TE):TS:=λD σ H=>tv σ H λv H1=>td σ H1 λx H2=>ty σ H2 λy H3=>∃a H4,x = .ref a/\DPut H3 a y v H4/\D.nx σ H4
section
variable {X:Cx}{o i e value:Ah}{pos pos' tpos:Pos}{td ty tv:TE}
theorem Yx(hu:X.A.units+1<cLine)(ho:PE X o td)(hi:PE X i ty)(hs:NoSl i:=by exact λ_ _=>rfl):PE X (.Subscript o i pos) (Oj td ty):=by
 intro b8 s σ H Q I h;refine Ki PySem.F.slot_dict_getitem.lookup hs (thn (ho b8 s σ H _ I h) λu s1 V=>?_);obtain⟨x,H1,I1,Z,q1⟩:=V;refine thn (hi b8 s1 σ H1 _ I1 q1) λiv s2 O=>?_;obtain⟨y,H2,W,ry,a,v,ex,g,q2⟩:=O;subst ex;obtain rfl:u=Value.ref a:=Z;exact⟨N5 W g,RN hu W g ry λw' s3 I3 G=>⟨v,H2,I3,G,q2⟩⟩
theorem Qc(hu:X.A.units+1<cLine)(hi:PE X i ty)(ho:PE X o td):PC X .In i o (tDIn ty td):=by
 intro b8 s σ H Q I h;refine thn (hi b8 s σ H _ I h) λiv s1 O=>?_;obtain⟨y,H1,I1,Z,q1⟩:=O;refine thn (ho b8 s1 σ H1 _ I1 q1) λu s2 G=>?_;obtain⟨x,H2,I2,V,a,ov,ex,g,q2⟩:=G;subst ex;obtain rfl:u=Value.ref a:=V;exact d_in hu I2 g Z λs3 W=>⟨.bl ov.isSome,H2,W,rfl,q2⟩
theorem J2(hu:X.A.units+1<cLine)(hi:PE X i ty)(ho:PE X o td):PC X .NotIn i o (Kh ty td):=by
 intro b8 s σ H Q I h;refine thn (hi b8 s σ H _ I h) λiv s1 O=>?_;obtain⟨y,H1,I1,Z,q1⟩:=O;refine thn (ho b8 s1 σ H1 _ I1 q1) λu s2 G=>?_;obtain⟨x,H2,I2,V,a,ov,ex,g,q2⟩:=G;subst ex;obtain rfl:u=Value.ref a:=V;exact O3 hu I2 g Z λs3 W=>⟨.bl (!ov.isSome),H2,W,rfl,q2⟩
theorem UC(hu:X.A.units+1<cLine)(ho:PE X o td)(hi:PE X i ty)(hv:PE X value tv)(hs:swapsWith value (some (.Subscript o i pos')) pos.line X.env=pure false):
  PS X (.Assign [.Subscript o i pos'] value pos) (EA td ty tv):=by
 intro b8 s σ H D I h;refine wpAny_Assign_Subscript (thn (hv b8 s σ H _ I h) λr s1 V=>?_) hs;obtain⟨v,H1,I1,rv,q1⟩:=V;refine thn (ho b8 s1 σ H1 _ I1 q1) λu s2 G=>?_;obtain⟨x,H2,I2,W,q2⟩:=G;refine thn (hi b8 s2 σ H2 _ I2 q2) λiv s3 O=>?_;obtain⟨y,H3,I3,ry,a,H4,ex,g,Z⟩:=O;subst ex;obtain rfl:u=Value.ref a:=W;exact RM hu I3 g ry rv λs4 I4=>⟨σ,H4,I4,Z⟩
end
theorem N4(h:Heap)(G:sysModules<h.objs.size):ObjOk P w H (h.push { cls:=.type "dict",data:=.dict #[] }) h.objs.size (.dK []):=
 ⟨xD _,xT.mpr (Ne.symm (zX G)),[],.nil,Heap.DictOf.new h⟩
def ON:TE:=λ_ H Q=>∀p,H p=none->Q (.ref p) (upd H p (.dK []))
section
variable {X:Cx}{pos:Pos}
theorem Jr:PE X (.Dict [] [] pos) ON:=λb8 s σ H Q I h =>
 wpAny_Dict_empty ⟨.ref s.heap.objs.size,_,I.laid (a:=s.heap.objs.size) (o:=.dK []) (t':=s.toks) (λ_ _ q=>zL _ q) (zO _) (N4 s.heap I.big),rfl,h _ (I.hok.fresh (zO _))⟩
end
def Nm:List (TE×TE)->St->Hp->(List (V×V)->Hp->Prop)->Prop
 | [],_,H,Q=>Q [] H
 | (tk,tv)::r,σ,H,Q=>tk σ H λx H1=>tv σ H1 λy H2=>Nm r σ H2 λps H3=>Q ((x,y)::ps) H3
abbrev VV:List (V×V)->List (Aa×Aa)->Prop:=Paired λp q=>RelV p.1 q.1/\RelV p.2 q.2
def PPs (X:Cx)(pos:Pos)(keys:List (Option Ah))(values:List Ah)(trs:List (TE×TE)):Prop :=
 ∀(b8:List (Ab×Obj)) (s:Ac) (σ:St) (H:Hp) (Q:List (V×V)->Hp->Prop),Inv X b8 σ H s->Nm trs σ H Q ->
  wpAny (model X.prog X.w) X.A (evalPairs (pairTrees keys values X.env pos)) (λvs s'=>∃ps H',Inv X b8 σ H' s'/\VV ps vs/\Q ps H') X.xe s
theorem KE :PPs X pos [] [] []:=λb8 s σ H Q I h=>pairTrees_nil_walk ⟨[],H,I,.nil,h⟩
theorem LJ{k v:Ah}{ks:List (Option Ah)}{vs:List Ah}{tk tv:TE}(hk:PE X k tk)(W:PE X v tv)(hr:PPs X pos ks vs trs):
  PPs X pos (some k::ks) (v::vs) ((tk,tv)::trs):=λb8 s σ H Q I h =>
 pairTrees_cons_walk (thn (hk b8 s σ H _ I h) λu s1 ⟨x,H1,I1,O,q1⟩=>thn (W b8 s1 σ H1 _ I1 q1) λw2 s2 ⟨y,H2,I2,ry,q2⟩ =>
  thn (hr b8 s2 σ H2 _ I2 q2) λws s3 ⟨ps,H3,Z,G,V⟩=>⟨(x,y)::ps,H3,Z,.cons ⟨O,ry⟩ G,V⟩)
def mergeK(kvs more:List (Key×V)):List (Key×V):=more.foldl (λacc kv=>putK acc kv.1 kv.2) kvs
theorem KV.merge:∀{G:List (Key×V)} {O:List (Key×Aa)} {kvs:List (Key×V)} {vs:List (Key×Aa)},KV G O->KV kvs vs->KV (mergeK kvs G) (merged vs O):=by
 intro G O kvs vs r;unfold KV at r
 induction r generalizing kvs vs with
 | nil=>intro q;exact q
 | @cons p q ps qs h t ih =>
  intro W;have e:KV (putK kvs p.1 p.2) (stored vs q.1 q.2):=by
   have:=W.put p.1 h.2
   rw[<-h.1];exact this
  exact ih e
theorem Vk:∀(G kvs:List (Key×V)),(mergeK kvs G).length<=kvs.length+G.length
 | [],kvs=>by show kvs.length<=kvs.length+0;lia
 | p::r,kvs=>by
  have h1:=Vk r (putK kvs p.1 p.2);have h2:=U5 kvs p.1 p.2;show(mergeK (putK kvs p.1 p.2) r).length<=_;rw[xF];lia
theorem XQ{P:Ae}{w:Af}:∀{kvs:List (Key×V)} {O:List (Aa×Aa)},VV (kvs.map λkv=>(kV kv.1,kv.2)) O->∃G,Carries (mixKind P w) O G/\KV kvs G
 | [],_,r=>by rw[uZ] at r;cases r;exact⟨[],True.intro,.nil⟩
 | p::kvs,_,r=>by
  rw[yV] at r;cases r with
  | @cons a b as bs h t =>
   obtain⟨G,c,q⟩:=XQ (P:=P) (w:=w) t;obtain⟨b1,b2⟩:=b;exact⟨(p.1,b2)::G,⟨VS h.1,rfl,c⟩,.cons ⟨rfl,h.2⟩ q⟩
def Ew(trs:List (TE×TE)):TE:=λσ H Q=>∀p,H p=none->Nm trs σ (upd H p (.dK [])) λps H2=>H2 p=some (.dK [])/\∃kvs:List (Key×V),ps=kvs.map (λkv=>(kV kv.1,kv.2))/\kvs.length<=15/\Q (.ref p) (upd H2 p (.dK (mergeK [] kvs)))
theorem KI{keys:List (Option Ah)}{G:List Ah}(h:PPs X pos keys G trs)(V:keys.all (·.isSome)=true)(hl:keys.length=G.length)(h0:keys≠[])(W:keys.length<=15):PE X (.Dict keys G pos) (Ew trs):=by
 intro b8 s σ H Q I q;have hn:=I.hok.fresh (zO s.heap.objs.size);have I1:=I.laid (a:=s.heap.objs.size) (o:=.dK []) (h':=s.heap.push { cls:=.type "dict",data:=.dict #[] }) (t':=s.toks) (λ_ _ q=>zL _ q) (zO _) (N4 s.heap I.big);refine wpAny_Dict_walk (knd:=mixKind X.prog X.w) V hl h0 W (thn (h b8 _ σ _ _ I1 (q _ hn)) λws s2 aa=>?_);obtain⟨ps,H2,I2,Z,e,kvs,ep,lk,q2⟩:=aa;subst ep;obtain⟨rs,c,rk⟩:=XQ (P:=X.prog) (w:=X.w) Z;obtain⟨z,hd,ac,r0,dd⟩:=N3 I2.hok e;cases r0;refine⟨rs,c,dd,λh' O hs=>⟨.ref s.heap.objs.size,_,?_,rfl,q2⟩⟩;have hz:(mergeK [] kvs).length<=zF:=by
  have h1:=Vk kvs [];rw[jN] at h1;rw[sizeLine_eq];lia
 have he:∃q,h'.get? s.heap.objs.size=some q:=let ⟨q,_,_,hq,_⟩:=O;⟨q,hq⟩
 exact QW I2 (by rw[e];exact True.intro) hs he (Dm hz hd (rk.merge .nil) O)
structure M1(X:Cx)(o:Ah)(m:Str)(cj:Pos)(e:Ah)(cpos:Pos):Prop where
 base:attributeBase o m X.env (eval o X.env)=eval o X.env
 few:((Ao cpos (zG [e] X.env)).all (λx=>!x.1)&&(An cpos (Am [] X.env)).all (λx=>x.1.isSome)
 &&decide (([e]:List Ah).length+([]:List Keyword).length+(if([]:List Keyword).isEmpty then 0 else 1)<30))=true
 line:(cj.endLine==cpos.line)=true
 trees:Ao cpos (zG [e] X.env)=[(false,eval e X.env)]
structure M2(X:Cx)(o:Ah)(m:Str)(cj:Pos)(e f:Ah)(cpos:Pos):Prop where
 base:attributeBase o m X.env (eval o X.env)=eval o X.env
 few:((Ao cpos (zG [e,f] X.env)).all (λx=>!x.1)&&(An cpos (Am [] X.env)).all (λx=>x.1.isSome)
 &&decide (([e,f]:List Ah).length+([]:List Keyword).length+(if([]:List Keyword).isEmpty then 0 else 1)<30))=true
 line:(cj.endLine==cpos.line)=true
 trees:Ao cpos (zG [e,f] X.env)=[(false,eval e X.env),(false,eval f X.env)]
def IsD (H:Hp)(a:Ab):Prop:=(∃kvs,Rd H a (.dK kvs))∨∃kvs,Rd H a (.dT kvs)
theorem De(I:Inv X b8 σ H s)(d:IsD H a):
  s.TypeIs (.ref a) "dict"/\(∀b,Value.ref a = .ref b->∃G,s.heap.get? b=some G/\G.dict=none)/\(a==sysModules)=false:=by
 rcases d with ⟨kvs,e⟩ | ⟨kvs,e⟩
 .obtain⟨_,O,vs,_,dd⟩:=VW I.hok e;refine⟨dd.typeIs,λb q=>?_,O⟩;cases q;obtain⟨G,_,_,h1,h2,_⟩:=dd;exact⟨G,h1,h2.2.1⟩
 .obtain⟨_,O,xs,_,dd⟩:=QF I.hok e;refine⟨dd.typeIs,λb q=>?_,O⟩;cases q;obtain⟨G,_,_,h1,h2,_⟩:=dd;exact⟨G,h1,h2.2.1⟩
section
variable {X:Cx}{b8:List (Ab×Obj)}{σ:St}{H:Hp}{s:Ac}{a:Ab}{y d:V}{u r:Aa}{o:Option V}{A:Ag}{E:Aa->Ac->Prop}
theorem Ei(hu:A.units+1<cLine)(I:Inv X b8 σ H s)(g:DGet H a y o)(W:RelV y u)(h:∀Z s',Inv X b8 σ H s'->RelV (o.getD .non) Z->Q Z s'):
  wpAny (model X.prog X.w) A (call (.builtin "dict.get") [.ref a,u]) Q E s:=by
 rcases g with ⟨kvs,k,e,V,l⟩ | ⟨kvs,k,b,e,V,eb,l⟩
 .subst V;obtain⟨z,O,vs,G,dd⟩:=VW I.hok e;refine call_meetsIn wN dd.typeIs vK (jS _ _) (meets_dict_get (mixKind X.prog X.w) a (VS W) O) ⟨_,dd.mapOf,h _ _ (I.tok _) ?_⟩;rw[l];exact(G.val k).getD rfl
 .subst V;cases (show u=Value.ref b from W)
  obtain⟨z,O,xs,G,dd⟩:=QF I.hok e;refine call_meetsIn wN dd.typeIs vK (jS _ _) (meetsH_dict_get (tupleKind (mixKind X.prog X.w)) a b O) ⟨tupleKind_room_in1 hu,k,xs,Vv I.hok eb,dd,h _ _ (I.tok _) ?_⟩;rw[l];exact(G.val k).getD rfl
theorem Eh(hu:A.units+1<cLine)(I:Inv X b8 σ H s)(g:DGet H a y o)(Z:RelV y u)(W:RelV d r)(h:∀w' s',Inv X b8 σ H s'->RelV (o.getD d) w'->Q w' s'):
  wpAny (model X.prog X.w) A (call (.builtin "dict.get") [.ref a,u,r]) Q E s:=by
 rcases g with ⟨kvs,k,e,V,l⟩ | ⟨kvs,k,b,e,V,eb,l⟩
 .subst V;obtain⟨z,O,vs,G,dd⟩:=VW I.hok e;refine call_meetsIn wN dd.typeIs vK (jR _ _ _) (meets_dict_get_default (mixKind X.prog X.w) a (VS Z) O r) ⟨_,dd.mapOf,h _ _ (I.tok _) ?_⟩;rw[l];exact(G.val k).getD W
 .subst V;cases (show u=Value.ref b from Z)
  obtain⟨z,O,xs,G,dd⟩:=QF I.hok e;refine call_meetsIn wN dd.typeIs vK (jR _ _ _) (meetsH_dict_get_default (tupleKind (mixKind X.prog X.w)) a b O r) ⟨tupleKind_room_in1 hu,k,xs,Vv I.hok eb,dd,h _ _ (I.tok _) ?_⟩;rw[l];exact(G.val k).getD W
end
def OP(td ty:TE):TE:=λσ H Q=>td σ H λx H1=>∃a,x = .ref a/\IsD H1 a/\ty σ H1 λy H2=>∃o,DGet H2 a y o/\Q (o.getD .non) H2
def OO(td ty tx:TE):TE:=λσ H Q=>td σ H λx H1=>∃a,x = .ref a/\IsD H1 a/\ty σ H1 λy H2=>tx σ H2 λz H3=>∃o,DGet H3 a y o/\Q (o.getD z) H3
section
variable {X:Cx}{o e f:Ah}{cj cpos:Pos}{td ty tx:TE}
theorem LX(hu:X.A.units+1<cLine)(ho:PE X o td)(Z:PE X e ty)(m:M1 X o "get" cj e cpos):PE X (.Call (.Attribute o "get" cj) [e] [] cpos) (OP td ty):=by
 intro b8 s σ H Q I h;refine wpAny_Call_method m.base m.few m.line vW wN jZ (thn (ho b8 s σ H _ I h) λu s1 G=>?_);obtain⟨x,H1,V,W,a,ex,d,q1⟩:=G;subst ex;obtain rfl:u=Value.ref a:=W;obtain⟨t1,t2,_⟩:=De V d;refine⟨t1,t2,?_⟩;rw[m.trees];refine Calls.callWith_builtin rfl (Calls.evalArgs_plain (Calls.spliced_cons (thn (Z b8 s1 σ H1 _ V q1) λiv s2 G=>?_)));obtain⟨y,H2,I2,ry,ov,g,q2⟩:=G;refine Calls.spliced_nil ?_;exact Ei hu I2 g ry λw' s3 I3 O=>⟨_,H2,I3,O,q2⟩
theorem Us(hu:X.A.units+1<cLine)(ho:PE X o td)(he:PE X e ty)(hf:PE X f tx)(m:M2 X o "get" cj e f cpos):PE X (.Call (.Attribute o "get" cj) [e,f] [] cpos) (OO td ty tx):=by
 intro b8 s σ H Q I h;refine wpAny_Call_method m.base m.few m.line vW wN jZ (thn (ho b8 s σ H _ I h) λu s1 O=>?_);obtain⟨x,H1,V,W,a,ex,d,q1⟩:=O;subst ex;obtain rfl:u=Value.ref a:=W;obtain⟨t1,t2,_⟩:=De V d;refine⟨t1,t2,?_⟩;rw[m.trees];refine Calls.callWith_builtin rfl (Calls.evalArgs_plain (Calls.spliced_cons (thn (he b8 s1 σ H1 _ V q1) λiv s2 ⟨y,H2,I2,ry,q2⟩ =>
  Calls.spliced_cons (thn (hf b8 s2 σ H2 _ I2 q2) λfv s3 ⟨z,H3,I3,rz,ov,g,Z⟩=>Calls.spliced_nil ?_))))
 exact Eh hu I3 g ry rz λw' s4 I4 G=>⟨_,H3,I4,G,Z⟩
end
section
variable {X:Cx}{b8:List (Ab×Obj)}{σ:St}{H:Hp}{s:Ac}{a:Ab}{kvs:List (Key×V)}{A:Ag}{E:Aa->Ac->Prop}
end
section
variable {X:Cx}{b8:List (Ab×Obj)}{σ:St}{H:Hp}{s:Ac}{a:Ab}{y:V}{u:Aa}{A:Ag}{E:Aa->Ac->Prop}
end
end L2
namespace Att
open PySem PySem.W PySem.Calls PyProof.Rows
theorem QK{P:Params}{h:Heap}:∀(ns:List Int) (vs:List Aa),WellAll P h vs (ns.map WData.int)->IntsAre vs ns:=by
 intro ns
 induction ns with
 | nil =>
  intro vs w;rw[uZ] at w;cases w;exact .nil
 | cons n ns G =>
  intro vs w;rw[yV] at w;cases w with
  | cons a b =>
   cases a;exact .cons _ _ (G _ b)
theorem R1{l:OpenLaw}{n:Nat}(hn:l.most=some n){P:Params}{h:Heap}{args:List WData}{G:List Aa}(bj:l.row.toRowW.claim.pre args=true)(aa:WellAll P h G args):
  ∃a vs ns,G=[Value.ref a]/\args=[WData.list (ns.map WData.int)]/\h.get? a=some { cls:=.type "list",data:=.seq vs.toArray }/\IntsAre vs ns/\ns.length<=n:=by
 have ac:WShape.hasAll [] args [.list .int]=true:=(pre_splitW bj).1;have hc:l.pre.holds [] { args:=args }=true:=(pre_splitW bj).2;obtain⟨d,r,rfl,h1,h2⟩:=hasAllW_cons ac;obtain rfl:=hasAllW_nil h2;obtain⟨xs,rfl,h3⟩:=hasW_list h1;obtain⟨ns,rfl⟩:=items_int h3;have O:ns.length<=n:=by
  unfold OpenLaw.pre at hc;have W:(WTm.not (.lt (.lit (.int (n:Int))) (.len (.arg 0)))).holds [] { args:=[.list (ns.map .int)] }=true:=by
   have W:=(holds_andW hc).1;rw[hn] at W;exact W
  have Z:=condW_of W (w_not (w_lt w_lit (w_len_list (w_arg rfl))));rw[zK] at Z;refine Nat.le_of_not_lt λq=>?_;have q':(n:Int)<((ns.length:Nat):Int):=by lia
  first
   | (rw[xV q'] at Z;exact xX Z (by decide))
   | (simp at Z;lia)
 cases aa with
 | cons w1 w2 =>
  cases w2;cases w1 with
  | list ho V=>exact⟨_,_,ns,rfl,rfl,ho,QK ns _ V,O⟩
theorem Rg(l:OpenLaw)(args:List WData):l.row.toRowW.claim.post args (.bool true) args=true :=
 postW_of (r:=l.row.toRowW) (X:=(true==true))
  (show WShape.has [] (.bool true) .bool=true by first | rfl | decide | simp[WShape.has,WShape.arms,WShape.armsAll])
  (show(WTm.eq .res (.lit (.bool true))).value [] { args:=args,res:=some (.bool true),after:=args }=some (.bool (true==true)) from w_eq_bool (w_res rfl) w_lit) rfl
theorem attach_call{l:OpenLaw}{n:Nat}{q:Ae}{V:List Str}{XP:(Str->Option Aa)->Heap->Prop}{YP:Af->Heap->Prop}{d:DefRec}(hn:l.most=some n)(af:d.params.defaults=[])(call:∀(w:Af) (s₀ O:Ac) (mg mb:Str->Option Aa) (fa:Ab) (o:Obj) (pm cd bw:Aa) (a:Ab) (vs:List Aa) (ns:List Int),
   Ground q V [] XP w s₀ mg mb O.heap->YP w O.heap ->
   O.heap.get? fa=some o->o.data = .func (docDef d.name d.params d.body d.scope pm cd bw)->O.heap.CodeRec cd d.name->mg d.name=some (.ref fa) ->
   O.heap.get? a=some { cls:=.type "list",data:=.seq vs.toArray }->IntsAre vs ns->ns.length<=n->O.gens = #[] ->
   codeAny (model l.prog w) callerA (.call (.ref fa) ⟨[.ref a],[]⟩) (λr s'=>r = .ok (.ret (.bool true))/\OldK O.heap s'.heap/\s'.os=O.os/\AllBare s'.gens) O):
  WalkO q V XP YP l.row.toRowW d [] (λf vs=>PySem.call f vs):=by
 intro w s₀ O mg mb G Y fa o pm cd bw dV kV ho hd ae hD ac hg args ag as bj ah ai ad aj;obtain rfl:dV = .none:=Dflts.none hD af;obtain rfl:kV = .none:=Dflts.noKw hD;obtain⟨a,vs,ns,rfl,rfl,Z,W,aa⟩:=R1 hn bj ad;refine enter_call (codeAny_mono (call w s₀ O mg mb fa o pm cd bw a vs ns G Y ho (fd_plain hd) ae ac Z W aa hg) λr s' hq=>?_);obtain⟨rfl,h2,h3,h4⟩:=hq;exact⟨.inl ⟨.bool true,.bool true,[],rfl,λ_=>rfl,.bool true,Rg l _,λ_=>⟨List.Pairwise.nil,λ_ hm=>(nomatch hm)⟩⟩,h2,h3,h4⟩
section
variable {prog:Ae}{w:Af}{A:Ag}{E:Aa->Ac->Prop}{s:Ac}{K:Frag}
end
end Att
namespace L2
open PySem PySem.Spec PyProof.Rows
variable {X Y:Cx}{c f l a it D C d q kS Pt I T r:Ab}{x qual:Str}{st:SortSt}{fd:Ad}{N ps XN:List Str}{k tk i t' j ep ia ib na nb lo e1:Nat}{sp:Sp}{A B:Prop}{pos py p p2:Pos}{H H1 H2 H' Hc:Hp}{K:Frag}{xs:Array Nat}{v y:V}{elt target iter tg e body:Ah}{ifs elts:List Ah}{scope outer:Aj}{env:Env}{cap:List (Option Nat)}{cl:List (Str×Ab)}{h1 h' base h:Heap}{t:SetTable}{g:TG}{tt:TT}{te:TE}{b8:List (Ab×Obj)}{σ σ0:St}{J:It}{Q:VK}{E R:Aa->Ac->Prop}{wi:TI}{s:Ac}{b a0 out:Array Keyed}{ns ms:List Int}{bx left:Bool}{cs:Aa×Aa}{P:Ae}{w:Af}{mg:Str->Option Aa}{outs:Nat->Option V}{ta:TA}{u iv:Aa}{o:Obj}{kvs:List (Key×V)}{es:Array (Int×Aa)}{tb:TS}{key:Keyed}{keys:Array Aa}{vs:List Aa}{kw:List (Str×Aa)}{CX:CXT}{b₀:Ai}{suite:List Ai}{th:Ab->TS}
theorem V7:∀{vs:List Aa} {ns:List Int},IntsAre vs ns->Vals (ns.map V.int) vs
 | _,_,.nil=>.nil
 | _,_,.cons n t h=>.cons ⟨t,rfl⟩ (V7 h)
def ZU(s:Ai)(j:Nat):Ai:=match s with
 | .ClassDef _ _ _ body _ _ _ _ _ _ _=>body.getD j (.Pass ⟨0,0,0,0⟩)
 | _=>.Pass ⟨0,0,0,0⟩
def ZV(s:Ai):Arguments:=match s with
 | .FunctionDef _ a _ _ _ _ _ _ _ _=>a
 | _=>{ posonlyargs:=[],args:=[],vararg:=none,kwonlyargs:=[],kw_defaults:=[],kwarg:=none,defaults:=[] }
def ZB(s:Ai):List Ai:=match s with
 | .FunctionDef _ _ b _ _ _ _ _ _ _=>b
 | _=>[]
def defScope(s:Ai):Aj:=match s with
 | .FunctionDef _ _ _ _ _ _ sc _ _ _=>sc
 | _=>{ kind:=.function,names:=[],isGenerator:=false,isCoroutine:=false }
abbrev CXm(c:Bool):CXT:=⟨λ_ _ _ _ _ _=>False,c⟩
abbrev CX0:CXT:=CXm true
abbrev E0:XK:=λ_ _ _=>False
theorem Zu{c:Bool}:Passes (CXm c) X E0:=λ_ _ _ _ _ _ _ h=>h.elim
structure Fun(K:Frag)(x qual:Str)(st:Ai)(f:Ab)(fd:Ad):Prop where
 ex:∃(oc:Aa) (od:Option Ab) (kV bw pm:Aa) (an:Option Ab) (bh ct:Aa) (bz:Array (Option Aa)),
  fd=fnOf x qual (ZV st) (ZB st) (defScope st) .none kV bw pm an bh ct/\K.lookup f=some ⟨oc,od,.func fd,bz⟩/\codeIn K bh qual=true
 kp:keepIn K (.ref f)=true
section
variable {P:Ae}{w:Af}{K:Frag}{mg:Str->Option Aa}{base:Heap}
theorem Fun.ok{c:Bool}{st:Ai}(F:Fun K x qual st f fd)(S:Zd N ps (defScope st))(aa:∀vs H Q E,sp vs H Q E->vs.length=ps.length)(G:∀(O:Aa) (A:Ag) (outer:List Env) (s:Ac) (H:Hp) (vs:List V) (Q:VK) (E:XK),Room k (A.deeper (envOfC qual (defScope st) s.heap.objs.size f O))->sp vs H Q E ->
 ∃t,PSs (cxOf (CXm c) P w K mg base N qual (defScope st) f O A outer s H E).nox (ZB st) t/\t { nx:=λ_ H'=>Q .non H',rt:=Q } (start N vs) H):FnOk P w K mg base (CXm c) (k+1) f fd ps sp:=by
 obtain⟨oc,od,kV,bw,pm,an,O,ct,bz,rfl,lk,Z⟩:=F.ex;refine PX lk Z S aa λA outer s H vs Q E hr W=>?_;obtain⟨t,h,q⟩:=G O A outer s H vs Q E hr W;exact⟨t,h.nox,q⟩
theorem Fun.okA{c:Bool}{st:Ai}(F:Fun K x qual st f fd)(S:Zd N ps (defScope st))(G:∀(W:Aa) (A:Ag) (outer:List Env) (s:Ac) (H:Hp) (vs:List V) (Q:VK) (E:XK),Room k (A.deeper (envOfC qual (defScope st) s.heap.objs.size f W))->sp vs H Q E ->
 ∃t,PSs (cxOf (CXm c) P w K mg base N qual (defScope st) f W A outer s H E).nox (ZB st) t/\t { nx:=λ_ H'=>Q .non H',rt:=Q } (start N vs) H)(O:∀vs H Q E,sp vs H Q E->vs.length=ps.length:=by(intro vs H Q E h;first | (cases h with | mk=>(subst_vars;rfl)) | (repeat (first | (obtain⟨rfl,_⟩:=h;rfl) | (obtain⟨_,h⟩:=h))))):FnOk P w K mg base (CXm c) (k+1) f fd ps sp:=F.ok S O G
theorem Fun.binds{st:Ai}(F:Fun K x qual st f fd)(h:∀(kV O pm:Aa) (an:Option Ab) (G ct:Aa) (us:List Aa),us.length=ps.length->bindArgs (fnOf x qual (ZV st) (ZB st) (defScope st) .none kV O pm an G ct) ⟨us,[]⟩=pure (ps.zip us)):Binds K fd ps []:=by
 obtain⟨oc,od,kV,O,pm,an,G,ct,W,rfl,Z,V⟩:=F.ex;exact .all (h kV O pm an G ct)
theorem YD{st:Ai}{oc:Aa}{od an:Option Ab}{V:Array (Option Aa)}{kV O pm G ct:Aa}(l:K.lookup f=some ⟨oc,od,.func (fnOf x qual (ZV st) (ZB st) (defScope st) .none kV O pm an G ct),V⟩)(c:codeIn K G qual=true)(k:keepIn K (.ref f)=true):Fun K x qual st f (fnOf x qual (ZV st) (ZB st) (defScope st) .none kV O pm an G ct):=⟨⟨oc,od,kV,O,pm,an,G,ct,V,rfl,l,c⟩,k⟩
end
theorem Jz{A:Ag}(G:Room k A):A.units+1<cLine:=wF (Nat.add_le_add_left (by decide:1<=64) _) G.units
theorem Zb{n:Nat}(h:n<=1000):n<zF:=wF h (by decide)
section
variable {X:Cx}
theorem pv(i:Nat)(O:X.N[i]?=some x:=by rfl)(V:Vis X.env.scope x:=by first | exact Or.inl rfl | exact Or.inr (Or.inl rfl) | exact Or.inr (Or.inr rfl))(W:(x==("__debug__":Str))=false:=by decide)(G:(x==("__classdict__":Str))=false:=by decide):PE X (.Name x pos) (tVar i):=LQ O V W G
theorem RQ:Jt X (.builtin "len") (λxs H Q=>∃a kvs,xs=[V.ref a]/\H a=some (.dK kvs)/\Q (.int kvs.length) H):=by
 intro b8 s σ H xs us Q I r h;obtain⟨a,kvs,rfl,W,q⟩:=h;obtain⟨u,rfl,G⟩:=JN r;cases G;exact ER I (.inl W) λt s' O=>⟨.int kvs.length,H,O,⟨t,rfl⟩,q⟩
end
theorem iteF(h:B):if false=true then A else B:=by
 rw[xZ zW];exact h
theorem iteT(h:A):if true=true then A else B:=by
 rw[xY rfl];exact h
theorem ite2{c:Prop}[Decidable c](h1:c->A)(h2:¬ c->B):if c then A else B:=by
 by_cases h:c
 .rw[xY h];exact h1 h
 .rw[xZ h];exact h2 h
def Same (H H':Hp):Prop:=∀b o,H b=some o->H' b=some o
theorem Za(H:Hp):Same H H:=λ_ _ h=>h
theorem Same.trans(a:Same H H1)(b:Same H1 H2):Same H H2:=λc o h=>b c o (a c o h)
theorem Same.free(e:Same H H')(h:H' l=jF):H l=jF:=by
 cases q:H l with
 | none=>rfl
 | some o =>
  rw[e l o q] at h;cases h
theorem Same.seq{xs:List V}(e:Same H H')(h:SqL K H a xs):SqL K H' a xs:=by
 rcases h with (h | ⟨o,h⟩) | h
 .exact .inl (.inl (e _ _ h))
 .exact .inl (.inr ⟨o,e _ _ h⟩)
 .exact .inr h
section
variable {κ:Type}[DecidableEq κ]
theorem Ma{kvs:List (κ×V)}{k:κ}(h:valV kvs k=none):¬ k∈kvs.map (·.1):=by
 intro m;obtain⟨p,G,e⟩:=yK.mp m;have q:(kvs.any λkv=>decide (kv.1=k))=true:=uD.mpr ⟨p,G,xV e⟩;rw[Jp,h] at q;exact xX q (by simp)
theorem Kg{kvs:List (κ×V)}{k:κ}(h:valV kvs k=some v):k∈kvs.map (·.1):=by
 have q:(kvs.any λkv=>decide (kv.1=k))=true:=by
  rw[Jp,h]
  all_goals rfl
 obtain⟨p,G,e⟩:=uD.mp q;exact yK.mpr ⟨p,G,xU e⟩
theorem Te:∀{l:List κ} {k:κ},l.Nodup->¬ k∈l->(l++[k]).Nodup
 | [],k,_,_=>by simp
 | a::r,k,h,hk=>by
  obtain⟨h1,h2⟩:=vC.mp h;show(a::(r++[k])).Nodup;refine vC.mpr ⟨λm=>?_,Te h2 λm=>hk (yF.mpr (Or.inr m))⟩;rcases yC.mp m with q | q
  .exact h1 q
  .exact hk (yF.mpr (Or.inl (yO.mp q).symm))
theorem KR{kvs:List (κ×V)}{k:κ}(v:V)(G:(kvs.map (·.1)).Nodup)(h:valV kvs k=none):((putK kvs k v).map (·.1)).Nodup:=by
 rw[Mv v h,zZ];exact Te G (Ma h)
end
section
variable {prog:Ae}{w:Af}{A:Ag}{R:Result->Ac->Prop}{s:Ac}
theorem GJ{it G:Aa}(I:Nat->Ac->Prop)(O:∀n s,I n s->wpAny (model prog w) A (pyNext it) (λr Z=>match r with
 | none=>R (.ok .next) Z
 | some v=>wpAny (model prog w) A (letOwnedTupleGo target it v) (λ_ V=>wpAny (model prog w) A (assign target env v) (λ_ s₂ =>
 wpAny (model prog w) A (forIn ifs true λc r=>if r=true then do let W <- isTrue c env (eval c env);pure (ForInStep.yield W) else pure (ForInStep.yield r)) (λW s₃ =>
 if W=true then wpAny (model prog w) A (eval elt env) (λx s₄ =>
 wpAny (model prog w) A (call (.builtin "list.append") [G,x]) (λ_ s₅=>∃m,m<n/\I m s₅) (notedBy (model prog w) A env λe s'=>R (.error e) s') s₄) (notedBy (model prog w) A env λe s'=>R (.error e) s') s₃
 else ∃m,m<n/\I m s₃) (notedBy (model prog w) A env λe s'=>R (.error e) s') s₂) (notedBy (model prog w) A env λe s'=>R (.error e) s') V) (notedBy (model prog w) A env λe s'=>R (.error e) s') Z) (notedBy (model prog w) A env λe s'=>R (.error e) s') s)(n:Nat)(h:I n s):
  codeAny (model prog w) A (.compLoop (.ListComp elt [⟨target,iter,ifs,0⟩] scope pos) 0 it G env) R s:=by
 refine codeAny_loop rfl I (λn s hI=>?_) n h;show wpAny _ A ((compTurn (.ListComp elt [⟨target,iter,ifs,0⟩] scope pos) 0 it G env).onRaise (λx=>do noteFrame x env;theTreesLotGoes x)) _ _ s
 refine wpAny_noted ?_;rw[compTurn_list];refine zA (wpAny_standAt (zA (zC (O n s hI) (λr Z h₁=>?_) λ_ _ h'=>h')));cases r with
 | none=>exact zB h₁
 | some v =>
  refine zA (zC h₁ (λ_ V aa=>?_) λ_ _ h'=>h');refine zA (zC aa (λ_ s₂ h₂=>zA (zC h₂ (λW s₃ h₃=>?_) λ_ _ h'=>h')) λ_ _ h'=>h');cases W with
  | false=>exact zB ⟨rfl,h₃⟩
  | true =>
   exact zA (zA (zC h₃ (λx s₄ h₄=>zA (zC h₄ (λ_ s₅ h₅=>zB (zB ⟨rfl,h₅⟩)) λ_ _ h'=>h')) λ_ _ h'=>h'))
end
theorem UZ{env:Env}:∀(G:List (Str×NameKind)) (x:Str),
  (G.map λ(n,k)=>if(k==NameKind.free&&env.scope.kind == .function&&env.kindOf n==some .cell) then(n,NameKind.cell) else(n,k)).lookup x =
   (G.lookup x).map λk=>if(k==NameKind.free&&env.scope.kind == .function&&env.kindOf x==some .cell)=true then NameKind.cell else k
 | [],_=>rfl
 | (n,k)::r,x=>by
  have W:=UZ (env:=env) r x;show wV x ((if(k==NameKind.free&&env.scope.kind == .function&&env.kindOf n==some .cell)=true then(n,NameKind.cell) else(n,k))::_)=_;cases V:x==n with
  | true =>
   have e:x=n:=xS.mp V;subst e;by_cases O:(k==NameKind.free&&env.scope.kind == .function&&env.kindOf x==some .cell)=true
   .rw[xY O];simp only[vA,V,wS,O,if_true]
   .rw[xZ O];simp only[vA,V,wS];rw[xZ O]
  | false =>
   by_cases O:(k==NameKind.free&&env.scope.kind == .function&&env.kindOf n==some .cell)=true
   .rw[xY O];simp only[vA,V];exact W
   .rw[xZ O];simp only[vA,V];exact W
theorem Uh(h:∀x∈scope.names,x.2 = .free->∃c,env.cells.lookup x.1=some c):
  ∃cl,closureFor scope env=pure cl/\(∀x c,cl.lookup x=some c->env.cells.lookup x=some c)/\∀x∈scope.names,x.2 = .free->∃c,cl.lookup x.1=some c:=by
 have key:∀(names:List (Str×NameKind)) (G:List (Str×Ab)),(∀x∈names,x.2=NameKind.free->∃c,env.cells.lookup x.1=some c)->(∀x c,G.lookup x=some c->env.cells.lookup x=some c) ->
   ∃cl:List (Str×Ab),(forIn names G (λ(x:Str×NameKind) (r:List (Str×Ab))=>if(x.2==NameKind.free)=true then(do let c <- cellOf env x.1;pure (ForInStep.yield ((x.1,c)::r)):Sem _) else pure (ForInStep.yield r)))=pure cl /\
    (∀x c,cl.lookup x=some c->env.cells.lookup x=some c)/\(∀x∈names,x.2=NameKind.free->∃c,cl.lookup x.1=some c)/\∀x c,G.lookup x=some c->∃c',cl.lookup x=some c':=by
  intro names
  induction names with
  | nil=>intro G _ ha;exact⟨G,rfl,ha,(λx O=>nomatch O),λx c e=>⟨c,e⟩⟩
  | cons y r ih =>
   intro G hn ha;obtain⟨n,k⟩:=y;have hr:∀x∈r,x.2=NameKind.free->∃c,env.cells.lookup x.1=some c:=λx O=>hn x (yB _ O);by_cases hk:k = .free
   .subst hk;obtain⟨c,hc⟩:=hn (n,.free) yJ rfl;have hc:env.cells.lookup n=some c:=hc;have aa:∀x d,wV x ((n,c)::G)=some d->env.cells.lookup x=some d:=λx d e=>by
     rw[vA] at e;cases O:x==n with
     | true=>rw[O] at e;cases e;rw[xS.mp O];exact hc
     | false=>rw[O] at e;exact ha x d e
    obtain⟨cl,e1,e2,e3,e4⟩:=ih ((n,c)::G) hr aa;have W:∃c',cl.lookup n=some c':=e4 n c (by rw[vA,xR])
    refine⟨cl,?_,e2,λx O Z=>?_,λx d e=>?_⟩
    .rw[List.forIn_cons];have V:cellOf env n=pure c:=by unfold cellOf;rw[hc]
     simp only[xR,if_true,V];exact e1
    .rcases yF.mp O with rfl | O
     .exact W
     .exact e3 x O Z
    .cases O:x==n with
     | true=>rw[xS.mp O];exact W
     | false=>exact e4 x d (by rw[vA,O];exact e)
   .have hb:(k==NameKind.free)=false:=by simpa using hk
    obtain⟨cl,e1,e2,e3,e4⟩:=ih G hr ha;refine⟨cl,?_,e2,λx O Z=>?_,e4⟩
    .rw[List.forIn_cons];simp only[hb,xL,if_false];exact e1
    .rcases yF.mp O with rfl | O
     .exact xX Z hk
     .exact e3 x O Z
 obtain⟨cl,e1,e2,e3,_⟩:=key scope.names [] h (λx c e=>nomatch e);refine⟨cl,?_,e2,e3⟩;unfold closureFor;exact(xQ (λt=>t >>= λr=>pure r) e1).trans rfl
inductive Caps(XN:List Str)(outer inner:Aj):List Str->List (Option Nat)->Prop where
 | nil:Caps XN outer inner [] []
 | own {x:Str} {N:List Str} {c:List (Option Nat)}:Caps XN outer inner N c->Caps XN outer inner (x::N) (none::c)
 | cap {i:Nat} {x:Str} {N:List Str} {c:List (Option Nat)}:XN[i]?=some x->outer.names.lookup x=some .cell->inner.names.lookup x=some .free->Caps XN outer inner N c->Caps XN outer inner (x::N) (some i::c)
theorem Caps.length{XN:List Str}{outer G:Aj}:∀{N:List Str} {c:List (Option Nat)},Caps XN outer G N c->c.length=N.length
 | _,_,.nil=>rfl
 | _,_,.own h=>xQ Nat.succ h.length
 | _,_,.cap _ _ _ h=>xQ Nat.succ h.length
theorem Caps.get{XN:List Str}{outer G:Aj}:∀{N:List Str} {c:List (Option Nat)} {j i:Nat} {x:Str},Caps XN outer G N c->c[j]?=some (some i)->N[j]?=some x ->
  XN[i]?=some x/\outer.names.lookup x=some .cell/\G.names.lookup x=some .free
 | _,_,j,_,_,.nil,e,_=>by simp at e
 | _,_,0,_,_,.own h,e,_=>by simp at e
 | _,_,j+1,_,_,.own h,e,e'=>h.get (j:=j) (by simpa using e) (by simpa using e')
 | _,_,0,_,_,.cap a b d h,e,e'=>by simp at e e';subst e e';exact⟨a,b,d⟩
 | _,_,j+1,_,_,.cap _ _ _ h,e,e'=>h.get (j:=j) (by simpa using e) (by simpa using e')
structure XY(XN:List Str)(outer inner:Aj)(N:List Str)(cap:List (Option Nat)):Prop where
 kind:inner.kind = .function
 nocell:∀y∈inner.names,y.2 ≠ .cell
 loc:∀y∈inner.names,y.2 = .local->inner.names.lookup y.1=some .local
 fr:∀y∈inner.names,y.2 = .free->outer.names.lookup y.1=some .cell
 caps:Caps XN outer inner N cap
 nd:N.Nodup
def capσ (cap:List (Option Nat))(σ:St):St:=cap.map λc=>match c with
 | none=>none
 | some i=>match σ[i]? with
  | some v=>v
  | none=>none
def Cx.comp(X:Cx)(N:List Str)(scope:Aj)(cl:List (Str×Ab))(C:Ab)(s₀:Ac)(H₀:Hp)(ex:List Ab)(b8:List (Ab×Obj)):Cx where
 prog:=X.prog
 w:=X.w
 K:=X.K
 mg:=X.mg
 base:=X.base
 A:=X.A
 N:=N
 s₀:=s₀
 H₀:=H₀
 env:=compEnvC scope cl C X.env
 outer:=X.stack
 stack:=X.stack
 ex:=ex
 fn:=λ_=>false
 calm:=X.calm
 pn:=X.pn++b8
 xe:=λ_ _=>False
section
variable {X:Cx}{b8:List (Ab×Obj)}{σ:St}{H:Hp}{s:Ac}
theorem PM{ex:List Ab}{m:Str->Option Aa}(I:Inv X b8 σ H s)(hX:X.env.scope=outer)(hN:X.N=XN)(S:XY XN outer scope N cap)(G:∀x c,cl.lookup x=some c->X.env.cells.lookup x=some c)(aa:∀x∈scope.names,x.2 = .free->∃c,cl.lookup x.1=some c)(W:∀b∈ex,FpOk X b8 H b)(ah:∀b∈ex,b<s.heap.objs.size)(hn:h1.Ns s.heap.objs.size m)(keep:∀b o,s.heap.get? b=some o->h1.get? b=some o):
  Inv (X.comp N scope cl s.heap.objs.size s H ex b8) [] (capσ cap σ) H { s with heap:=h1,toks:=tk }:=by
 subst hX hN;have ae:∀x c,cl.lookup x=some c->c<s.heap.objs.size:=λx c e=>by
  obtain⟨v,q⟩:=I.cell x c (G x c e);exact q.lt
 have Z:∀x,(relabel scope X.env).names.lookup x=(scope.names.lookup x).map λk=>if(k==NameKind.free&&X.env.scope.kind == .function&&X.env.kindOf x==some .cell)=true then NameKind.cell else k:=λx=>UZ scope.names x;have ok:(X.comp N scope cl s.heap.objs.size s H ex b8).Ok:=by
  refine⟨I.ok.mod,S.kind,I.ok.glob,I.ok.blt,zO _,λx y c h1 h2=>I.ok.inj x y c (G x c h1) (G y c h2),λx O=>?_,(λx c h _=>nomatch h),I.ok.hd,I.ok.frames,.inl rfl,λb V=>⟨zX (ah b V),λx c e=>?_⟩,I.bs,yU I.ok.bsz I.sz,λb o e V=>?_,λb V hf=>?_,I.stack,I.stkFree⟩
  .have O:(relabel scope X.env).names.lookup x=some .cell∨(relabel scope X.env).names.lookup x=some .free:=O;rw[Z x] at O;cases e:scope.names.lookup x with
   | none=>rw[e] at O;simp at O
   | some k =>
    have hm:=PySem.mem_of_lookup e;rw[e] at O;by_cases hk:k = .free
    .subst hk;exact aa _ hm rfl
    .have V:(k==NameKind.free)=false:=by simpa using hk
     simp only[V,wS,wP,xL,if_false] at O;rcases O with O | O
     .exact xX (Option.some.inj O) (S.nocell _ hm)
     .exact xX (Option.some.inj O) hk
  .exact(W b V).2.2.2.2.1 x c (G x c e)
  .rcases (W b V).2.2.2.1 with z | z
   .exact I.ok.noex b o e z
   .exact xX (yG (zQ (I.ok.bs b o e).1) z) (wY _)
  .rcases yF.mp (I.stkSub b hf) with z | z
   .exact(W b V).2.1 z
   .exact(W b V).2.2.1 z
 have ac:H s.heap.objs.size=none:=I.hok.fresh (zO _);refine⟨ok,rfl,I.bare,Un.kept keep,⟨m,hn,λj x v e1 e2 _=>?_⟩,λx c e=>?_,ac,λx c e=>I.freeC x c (G x c e),λp hp=>?_,I.hok.kept keep,?_,I.hdh⟩
 .have e1:N[j]?=some x:=e1;unfold capσ at e2;rw[zM] at e2;cases ec:cap[j]? with
  | none=>rw[ec] at e2;cases e2
  | some c =>
   rw[ec] at e2;cases c with
   | none=>cases e2
   | some i =>
    obtain⟨a,b,d⟩:=S.caps.get ec e1;have e3:σ[i]?=some (some v):=by
     cases es:σ[i]? with
     | none=>simp[es] at e2
     | some v'=>simp[es] at e2;rw[e2]
    obtain⟨m0,ai,ag⟩:=I.loc;obtain⟨u,r,l⟩:=ag i x v a e3 (.inr (.inl b));refine⟨u,r,?_⟩;rcases l with ⟨k,_⟩ | ⟨_,c,af,z⟩
    .have k:X.env.scope.names.lookup x=some .local:=k;rw[b] at k;cases k
    .obtain⟨c',ad⟩:=aa (x,.free) (PySem.mem_of_lookup d) rfl;have e5:=G x c' ad;rw[af] at e5;cases e5;refine .inr ⟨.inl ?_,c,ad,?_⟩
     .show(relabel scope X.env).names.lookup x=some .cell;rw[Z x,d];have k1:(X.env.scope.kind==ScopeKind.function)=true:=by rw[I.ok.kind];rfl
      have k2:(X.env.kindOf x==some NameKind.cell)=true:=by
       show(X.env.scope.names.lookup x==some NameKind.cell)=true;rw[b];rfl
      rw[k1,k2];rfl
     .obtain⟨o,ho,hd⟩:=z;exact⟨o,keep _ _ ho,hd⟩
 .obtain⟨v,o,ho,hd⟩:=I.cell x c (G x c e);exact⟨v,o,keep _ _ ho,hd⟩
 .have hp:p∈X.pn++b8++[]:=hp;rw[wC] at hp;obtain⟨a,b,c,d,e⟩:=I.pin p hp;refine⟨keep _ _ a,b,zX (zQ a),λhf=>?_,e⟩;rcases yF.mp (I.stkSub _ hf) with z | z
  .exact c z
  .exact d z
 .unfold capσ;rw[zK];exact S.caps.length
end
def PIfs (X:Cx)(ifs:List Ah)(t:TT):Prop :=
 ∀(b8:List (Ab×Obj)) (s:Ac) (σ:St) (H:Hp) (Q:Bool->Hp->Prop),Inv X b8 σ H s->t σ H Q ->
  wpAny (model X.prog X.w) X.A (forIn ifs true λc r=>if r=true then do let ok <- isTrue c X.env (eval c X.env);pure (ForInStep.yield ok) else pure (ForInStep.yield r)) (TP X b8 σ Q) X.xe s
def tYes:TT:=λ_ H Q=>Q true H
theorem ZO :PIfs X [] tYes:=λ_ _ _ H _ I h=>wpAny_tests_nil ⟨H,I,h⟩
theorem JR{c:Ah}{t:TT}(h:PT X c t):PIfs X [c] t:=λb8 s σ H Q I q=>wpAny_tests_one (h b8 s σ H Q I q)
def QJ(J:It)(g:TG)(tt:TT)(te:TE)(σ0:St)(H1:Hp)(D:Ab)(Q:VK):Prop :=
 ∃W:Nat->Nat->List V->St->Hp->Prop,(∃m,W 0 m [] σ0 (upd H1 D (.lst [])))/\∀i m acc σc Hc,W i m acc σc Hc ->
  (J.stop i Hc/\Q (.ref D) Hc) ∨
  (J.go i Hc/\∀x H',J.yld i Hc x H'->g x σc H' λσ2 H2=>tt σ2 H2 λb H3=>if b=true then te σ2 H3 λv H4=>H4 D=some (.lst acc)/\acc.length<zF/\∃m',m'<m/\W (i+1) m' (acc++[v]) σ2 (upd H4 D (.lst (acc++[v])))
   else ∃m',m'<m/\W (i+1) m' acc σ2 H3)
def tComp(cap:List (Option Nat))(wi:TI)(g:TG)(tt:TT)(te:TE):TE:=λσ H Q=>wi σ H λJ H1=>∀D,H1 D=none->QJ J g tt te (capσ cap σ) H1 D Q
section
variable {X:Cx}
theorem WO{s2:Ac}{fp:List Ab}{tn:Nat->Heap->Prop}{RR:Aa->Ab->Result->Ac->Prop}(hX:X.env.scope=outer)(hN:X.N=XN)(S:XY XN outer scope N cap)(hc:J.nd=true->X.calm=true)(hg:∀cl C s₀ H₀ ex b8,PG (X.comp N scope cl C s₀ H₀ ex b8) target g)(ht:∀cl C s₀ H₀ ex b8,PIfs (X.comp N scope cl C s₀ H₀ ex b8) ifs tt)(he:∀cl C s₀ H₀ ex b8,PE (X.comp N scope cl C s₀ H₀ ex b8) elt te)(ak:∀x c,cl.lookup x=some c->X.env.cells.lookup x=some c)(aq:∀x∈scope.names,x.2 = .free->∃c,cl.lookup x.1=some c)(I2:Inv X b8 σ H2 s2)(T:Turn X.prog X.w X.K target J fp it tn)(au:tn 0 s2.heap)(f2:∀b∈fp,FpOk X b8 H2 b)(hW:∀D,H2 D=none->QJ J g tt te (capσ cap σ) H2 D Q)(az:∀D C H' s' m,Inv X b8 σ H' s'->FpOk X b8 H' C->s'.heap.Ns C m->Q (.ref D) H'->RR (.ref D) C (.ok .next) s'):
  wpAny (model X.prog X.w) X.A (newList []) (λaa s₃=>wpAny (model X.prog X.w) X.A (newFunctionEnv scope X.env.globals cl [] X.env.qual none .none (some X.env)) (λah s₄ =>
   codeAny (model X.prog X.w) X.A (.compStart (.ListComp elt [⟨target,iter,ifs,0⟩] scope pos) 0 (.ref it) aa { ah with scope:=relabel scope X.env }) (RR aa ah.locals) s₄) E s₃) E s2:=by
 refine wpAny_newObj_type (wpAny_newFunctionEnv S.nocell (by intro y hy;simp at hy) (λh₁ ad ae=>?_) S.kind)
 dsimp only at ad ae ⊢;have I3:Inv X b8 σ (upd H2 s2.heap.objs.size (.lst [])) { s2 with heap:=s2.heap.push { cls:=.type "list",data:=.seq ([]:List Aa).toArray } }:=I2.lnew (t':=s2.toks) .nil (xD _)
 have fD:H2 s2.heap.objs.size=none:=I2.hok.fresh (zO _);generalize aw:s2.heap.push { cls:=.type "list",dict:=none,data:=.seq ([]:List Aa).toArray }=G at ad ae I3 ⊢;have hG:G.objs.size=s2.heap.objs.size+1:=by rw[<-aw,wG]
 have ai:∀b∈fp,b<s2.heap.objs.size:=λb Z=>by obtain⟨o,e,_⟩:=T.obj _ _ au b Z;exact zQ e
 have aj:∀b∈fp,b<G.objs.size:=λb Z=>by rw[hG];exact xK (ai b Z)
 have kG:∀b o,s2.heap.get? b=some o->G.get? b=some o:=λb o e=>aw▸zL _ e;have f3:∀b∈fp,FpOk X b8 (upd H2 s2.heap.objs.size (.lst [])) b:=λb Z=>⟨by rw[Z5 (zX (ai b Z))];exact(f2 b Z).1,(f2 b Z).2⟩
 have kh:∀b o,G.get? b=some o->h₁.get? b=some o:=λb o e=>ae.extBut b o (zX (zQ e)) (zL _ e);have I4:=PM (cl:=cl) (ex:=fp) (tk:=s2.toks+([]:List (Str×Aa)).length) I3 hX hN S ak aq f3 aj ad kh;dsimp only at I4;obtain⟨W,⟨m0,w0⟩,as⟩:=hW s2.heap.objs.size fD;have ar:tn 0 h₁:=T.keep _ _ _ au λb _ o e=>kh b o (kG b o e);have ag:∀{H':Hp},(∀b∈fp,H' b=none)->∀b∈fp,FpOk (X.comp N scope cl G.objs.size { s2 with heap:=G } (upd H2 s2.heap.objs.size (.lst [])) fp b8) [] H' b:=λhn b Z=>by
  obtain⟨_,a1,a2,a3,a4,a5⟩:=f2 b Z;refine⟨hn b Z,zX (aj b Z),λhf=>?_,.inl Z,λx c e=>a4 x c (ak x c e),λp hp=>?_⟩
  .rcases yF.mp (I2.stkSub b hf) with z | z
   .exact a1 z
   .exact a2 z
  .have hp:p∈X.pn++b8++[]:=hp;rw[wC] at hp;exact a5 p hp
 have al:codeAny (model X.prog X.w) X.A (.compLoop (.ListComp elt [⟨target,iter,ifs,0⟩] scope pos) 0 (.ref it) (.ref s2.heap.objs.size) (compEnvC scope cl G.objs.size X.env)) (RR (.ref s2.heap.objs.size) G.objs.size) { s2 with heap:=h₁,toks:=s2.toks+([]:List (Str×Aa)).length }:=by
  refine GJ (λn s'=>∃i aa σ' H',Inv (X.comp N scope cl G.objs.size { s2 with heap:=G } (upd H2 s2.heap.objs.size (.lst [])) fp b8) [] σ' H' s'/\tn i s'.heap/\(∀b∈fp,H' b=none)/\W i n aa σ' H') ?_ m0 ⟨0,[],_,_,I4,ar,λb Z=>(f3 b Z).1,w0⟩
  rintro n s3 ⟨i,aa,σ3,H3,I3,ao,av,w3⟩;rcases as i n aa σ3 H3 w3 with ⟨ap,qn⟩ | ⟨go,step⟩
  .refine thn (T.done (X.comp N scope cl G.objs.size { s2 with heap:=G } (upd H2 s2.heap.objs.size (.lst [])) fp b8) rfl rfl rfl hc i [] s3 σ3 H3 _ I3 (ag av) ao ap) λr s4 O=>?_
   obtain⟨hr,ac⟩:=O;subst hr;have un:Un (frs X.stack) fp H2 H3 s2.heap s4.heap:=(Un.laid kG (zO _) fD).trans ac.base;have I5:Inv X b8 σ H3 s4:=I2.call' (ch:=fp) ac.os un ac.hok ac.bare λb Z=>by
    obtain⟨_,a1,_,a3,a4,a5⟩:=f2 b Z;exact⟨a3,a1,a4,a5⟩
   obtain⟨m5,ay,_⟩:=ac.loc;refine az s2.heap.objs.size G.objs.size H3 s4 m5 I5 ?_ ay qn;exact I2.fpOk (by rw[hG];exact vL _) ac.free
  .refine thn (T.item (X.comp N scope cl G.objs.size { s2 with heap:=G } (upd H2 s2.heap.objs.size (.lst [])) fp b8) rfl rfl rfl hc i [] s3 σ3 H3 _ I3 (ag av) ao go) λr s4 O=>?_
   obtain⟨u,hr,h4⟩:=O;subst hr;refine thn h4 λ_ s5 O=>?_;obtain⟨x,H5,I5,r5,y5,am,a6⟩:=O;have ax:=I5.pinned (ag a6) (T.obj _ _ am);refine zC (hg _ _ _ _ _ _ _ s5 σ3 H5 x u _ ax r5 (step x H5 y5)) (λ_ s6 O=>?_) λ_ _ f=>f.elim;obtain⟨σ6,H6,I6,q6⟩:=O;refine zC (ht _ _ _ _ _ _ _ s6 σ6 H6 _ I6 q6) (λok s7 O=>?_) λ_ _ f=>f.elim;obtain⟨H7,I7,q7⟩:=O;have again:∀{m:Nat} {af:List V} {s8:Ac} {H8:Hp},Inv (X.comp N scope cl G.objs.size { s2 with heap:=G } (upd H2 s2.heap.objs.size (.lst [])) fp b8) ([]++pinsAt fp s5.heap) σ6 H8 s8->m<n->W (i+1) m af σ6 H8 ->
     ∃m,m<n/\∃i aa σ' H',Inv (X.comp N scope cl G.objs.size { s2 with heap:=G } (upd H2 s2.heap.objs.size (.lst [])) fp b8) [] σ' H' s8/\tn i s8.heap/\(∀b∈fp,H' b=none)/\W i m aa σ' H':=λ{m af s8 H8} I8 hm w8=>by
    refine⟨m,hm,i+1,af,σ6,H8,I8.unpinned,T.keep _ _ _ am λb Z o e=>(I8.pin (b,o) (zY _ (zY _ (UE Z e)))).1,λb Z=>?_,w8⟩;obtain⟨o,e,d⟩:=T.obj _ _ am b Z;exact(I8.pin (b,o) (zY _ (zY _ (UE Z e)))).2.1
   cases ok with
   | false =>
    obtain⟨m',hm,w7⟩:=q7;exact again I7 hm w7
   | true =>
    refine zC (he _ _ _ _ _ _ _ s7 σ6 H7 _ I7 q7) (λy s8 O=>?_) λ_ _ f=>f.elim;obtain⟨v,H8,I8,r8,a7,hz,m',hm,w8⟩:=O;refine zC (ZZ (X:=X.comp N scope cl G.objs.size { s2 with heap:=G } (upd H2 s2.heap.objs.size (.lst [])) fp b8) _ s8 σ6 H8 (.ref s2.heap.objs.size) [v] (.ref s2.heap.objs.size) [y] (λ_ H9=>H9=upd H8 s2.heap.objs.size (.lst (aa++[v]))) I8 rfl (.cons r8 .nil) ⟨_,aa,v,rfl,rfl,a7,hz,rfl⟩) (λ_ s9 O=>?_) λ_ _ f=>f.elim
    obtain⟨_,H9,I9,_,e9⟩:=O;subst e9;exact again I9 hm w8
 exact codeAny_compStart_list al (T.self _ 0 _ _ _ ar al)
theorem ZT(S:XY XN outer scope N cap)(_:True=True)(hi:PI X target iter wi)(hg:∀cl C s₀ H₀ ex b8,PG (X.comp N scope cl C s₀ H₀ ex b8) target g)(ht:∀cl C s₀ H₀ ex b8,PIfs (X.comp N scope cl C s₀ H₀ ex b8) ifs tt)(he:∀cl C s₀ H₀ ex b8,PE (X.comp N scope cl C s₀ H₀ ex b8) elt te)(hX:X.env.scope=outer:=by rfl)(hN:X.N=XN:=by rfl)(hs:∀x,foldedSetIterable iter X.env x=pure x:=by intro _;rfl):PE X (.ListComp elt [⟨target,iter,ifs,0⟩] scope pos) (tComp cap wi g tt te):=by
 intro b8 s σ H Q I h;obtain⟨cl,G,O,V⟩:=Uh (scope:=scope) (env:=X.env) λx hx hf=>I.ok.has x.1 (.inl (by
  show X.env.scope.names.lookup x.1=some .cell;rw[hX];exact S.fr x hx hf))
 rw[eval_ListComp];refine wpAny_comprehension_free (use:=none) rfl hs G S.kind S.loc ?_;refine thn (hi b8 s σ H _ I h) λv s1 h1=>thn h1 λac s2 h2=>?_;obtain⟨it,fp,tn,J,H2,rfl,I2,T,W,f2,hc,hW⟩:=h2;refine WO (RR:=λZ C=>compPost (model X.prog X.w) X.A X.xe none (EP X b8 σ Q) Z C) hX hN S hc hg ht he O V I2 T W f2 hW ?_;intro D C H' s' m I' fC hn q;refine⟨m,hn,λh' aa=>?_⟩;obtain⟨a0,a1,_,a3,a4,a5⟩:=fC;exact⟨.ref D,H',I'.turned (t':=s'.toks) (λb o hb e=>aa.extBut b o hb e) a0 (Ne.symm a1).symm a3 a4 a5,rfl,q⟩
end
section
variable {X:Cx}
theorem V2:∀{bs:List Bool} {us:List Aa},Vals (bs.map V.bl) us->LSm.BoolsAre us bs
 | [],_,.nil=>.nil
 | b::bs,_,.cons r t=>by
  cases (show _=Value.bool b from r)
  exact .cons b (V2 t)
theorem Vg(hc:X.calm=true):Jt X (.builtin "sum") (λxs H Q=>∃(p:Ab) (ns:List Int),xs=[.ref p]/\SqL X.K H p (ns.map V.int)/\Q (.int ns.sum) H):=by
 intro b8 s σ H xs us Q I r h;obtain⟨p,ns,rfl,hq,q⟩:=h;obtain⟨u,rfl,W⟩:=JN r;cases W;obtain⟨c9,r',pl,hz⟩:=I.list hq;have hi:IntsAre c9 ns:=JX r';obtain⟨ys,O⟩:=hi.allInts.items;have G:s.heap.IsList p (intItems ys):=O▸pl.isList;refine sum_intListG (I.ok.hd hc) G λh' tk t' Z=>?_;have e1:ns=ys.toList.map (·.1):=by
  rw[<-nums_intItems,<-O];exact(show numsOf c9.toArray.toList=ns from hi.numsOf).symm
 have e2:preSum (numAt ys) ys.size=ns.sum:=by
  rw[preSum_eq,xP (by simp),e1]
 rw[e2];exact⟨.int ns.sum,H,I.kept (t':=tk) Z,⟨t',rfl⟩,q⟩
theorem Jm(hc:X.calm=true):Jt X (.builtin "all") (λxs H Q=>∃(p:Ab) (bs:List Bool),xs=[.ref p]/\SqL X.K H p (bs.map V.bl)/\Q (.bl (bs.all id)) H):=by
 intro b8 s σ H xs us Q I r h;obtain⟨p,bs,rfl,hq,q⟩:=h;obtain⟨u,rfl,rx⟩:=JN r;cases rx;obtain⟨vs,r',pl,hz⟩:=I.list hq;have Z:LSm.BoolsAre vs bs:=V2 r';have O:=pl.isList;have G:p<s.heap.objs.size:=by obtain⟨_,e,_⟩:=O;exact zQ e
 refine call_all_walk (wpAny_pyIter_list O ?_);refine⟨s.heap.objs.size,[s.heap.objs.size,p],[s.heap.objs.size],vs.toArray.size,_,_,λi=>(bs[i]?).getD true,rfl,Walks.list (A:=X.A.in1) (I.ok.hd hc) _ p (zX G) vs.toArray,
  ⟨⟨_,zU _ rfl,rfl,rfl⟩,O.push _⟩,λi v s' Q' E' hP W=>?_,λh' tk hk=>?_⟩
 .obtain⟨b,e,rfl⟩:=Z.get i v (by simpa using hP)
  simp only[e,Option.getD_some] at W;exact wpAny_truthy_bool W
 .have e:((zV vs.toArray.size).all λi=>(bs[i]?).getD true)=bs.all id:=by
   rw[zP,Z.length];exact LSm.range_all bs
  rw[e];exact⟨.bl (bs.all id),H,I.kept (t':=tk) (LSm.kept_iter hk),rfl,q⟩
theorem WR(hc:X.calm=true):Jt X (.builtin "any") (λxs H Q=>∃(p:Ab) (bs:List Bool),xs=[.ref p]/\SqL X.K H p (bs.map V.bl)/\Q (.bl (bs.any id)) H):=by
 intro b8 s σ H xs us Q I r h;obtain⟨p,bs,rfl,hq,q⟩:=h;obtain⟨u,rfl,rx⟩:=JN r;cases rx;obtain⟨vs,r',pl,hz⟩:=I.list hq;have Z:LSm.BoolsAre vs bs:=V2 r';have O:=pl.isList;have G:p<s.heap.objs.size:=by obtain⟨_,e,_⟩:=O;exact zQ e
 refine call_any_walk (wpAny_pyIter_list O ?_);refine⟨s.heap.objs.size,[s.heap.objs.size,p],[s.heap.objs.size],vs.toArray.size,_,_,λi=>(bs[i]?).getD false,rfl,Walks.list (A:=X.A.in1) (I.ok.hd hc) _ p (zX G) vs.toArray,
  ⟨⟨_,zU _ rfl,rfl,rfl⟩,O.push _⟩,λi v s' Q' E' hP W=>?_,λh' tk hk=>?_⟩
 .obtain⟨b,e,rfl⟩:=Z.get i v (by simpa using hP)
  simp only[e,Option.getD_some] at W;exact wpAny_truthy_bool W
 .have e:((zV vs.toArray.size).any λi=>(bs[i]?).getD false)=bs.any id:=by
   rw[zP,Z.length];exact LSm.range_any bs
  rw[e];exact⟨.bl (bs.any id),H,I.kept (t':=tk) (LSm.kept_iter hk),rfl,q⟩
def ClsV (c:V)(cv:Aa):Prop:=match c with
 | .ty n=>cv = .type n
 | .ref C=>cv = .ref C
 | _=>False
theorem QH:Jt X (.builtin "isinstance") (λxs H Q=>∃(x c:V) (t G:Aa) (b:Bool),xs=[x,c]/\TyOf X.K H x t/\ClsV c G/\PySem.W.kitOne X.K t G=some b/\Q (.bl b) H):=by
 intro b8 s σ H xs us Q I r h;obtain⟨x,c,t,G,b,rfl,ty,O,e,q⟩:=h;obtain⟨u,v,rfl,rx,Z⟩:=RX r;have ev:v=G:=by
  cases c with
  | ty n=>exact(show v = .type n from Z).trans (show G = .type n from O).symm
  | ref C=>exact(show v = .ref C from Z).trans (show G = .ref C from O).symm
  | _=>exact False.elim O
 subst ev;exact RD I rx ty e λtk=>⟨.bl b,H,I.tok tk,rfl,q⟩
theorem UR:∀{xs:List V} {us:List Aa},xs.length=us.length->(∀(i:Nat) x u,xs[i]?=some x->us[i]?=some u->RelV x u)->Vals xs us
 | [],[],_,_=>.nil
 | [],_::_,h,_=>by simp at h
 | _::_,[],h,_=>by simp at h
 | x::xs,u::us,h,f=>.cons (f 0 x u rfl rfl) (UR (by simpa using h) λi y v a b=>f (i+1) y v (by simpa using a) (by simpa using b))
theorem WP:Jt X (.type "range") (λxs H Q=>∃j:Int,xs=[.int j]/\∀p,H p=none->Q (.ref p) (upd H p (.rng 0 j))):=by
 intro b8 s σ H xs us Q I r h;obtain⟨j,rfl,q⟩:=h;obtain⟨u,rfl,G⟩:=JN r;obtain⟨t,rfl⟩:=G;refine call_range_1 ?_;refine⟨.ref s.heap.objs.size,upd H s.heap.objs.size (.rng 0 j),?_,rfl,q _ (I.hok.fresh (zO _))⟩;refine I.laid (λb o e=>zL _ e) (zO _) ?_;exact⟨_,_,_,zU _ rfl⟩
theorem Wb(hc:X.calm=true):Jt X (.type "list") (λxs H Q=>∃(p:Ab) (j:Int),xs=[.ref p]/\H p=some (.rng 0 j)/\0<=j/\j<=10000/\∀l,H l=none->Q (.ref l) (upd H l (.lst ((zV j.toNat).map λi=>V.int (i:Nat))))):=by
 intro b8 s σ H xs us Q I r h;obtain⟨p,j,rfl,hp,h0,h1,q⟩:=h;obtain⟨u,rfl,rx⟩:=JN r;cases rx;obtain⟨t,u,v,e⟩:=(show ObjOk X.prog X.w H s.heap p (.rng 0 j) from I.hok p _ hp)
 obtain⟨n,rfl⟩:=uG h0;have hn:n<=10000:=by lia
 have Z:Builtin.Range.small 0 (n:Int) 1=true:=small_one (by decide) (by decide) (by lia) (by lia)
 have W:Builtin.Range.rangeSize 0 (n:Int) 1=(n:Int):=by
  simp only[Builtin.Range.rangeSize];split <;> lia
 refine call_list_range (I.ok.hd hc) e Z W (by lia) λh' tk G c' hk aa O=>?_
 have hv:Vals ((zV n).map λi=>V.int (i:Nat)) G.toList:=by
  have hl:G.toList.length=n:=by simpa using O.1
  refine UR (by rw[zK,wH,hl]) λi x u ex eu=>?_
  obtain⟨t,rfl⟩:=O.2 i u (by simpa using eu)
  rw[zM] at ex;have hi:i<n:=by rw[<-hl];exact(zT.mp eu).1
  rw[uT hi] at ex;cases ex;exact⟨t,by rw[qQ,Int.mul_one]⟩
 refine⟨.ref s.heap.objs.size,_,I.laid (t':=tk) hk (zO _) (show ObjOk X.prog X.w _ h' _ (.lst _) from⟨by simp only[zK,wH];exact yU hn (by decide),G.toList,c',hv,by simpa using aa⟩),rfl,q _ (I.hok.fresh (zO _))⟩
inductive EqD(K:Frag)(H:Hp):Nat->V->V->Bool->Prop where
 | flat {n:Nat} {x y:V} (fx:Uu x=true) (fy:Uu y=true):EqD K H n x y (eqV x y)
 | same {n:Nat} {a:Ab}:EqD K H n (.ref a) (.ref a) true
 | lst {n:Nat} {l b:Ab} {xs ys:List V} {e:Nat->Bool} (ne:l≠b) (hl:SqL K H l xs) (hb:SqL K H b ys) (hz:xs.length=ys.length)
   (he:∀(i:Nat) x y,xs[i]?=some x->ys[i]?=some y->EqD K H n x y (e i)):EqD K H (n+1) (.ref l) (.ref b) ((zV xs.length).all e)
 | len {n:Nat} {l b:Ab} {xs ys:List V} (ne:l≠b) (hl:SqL K H l xs) (hb:SqL K H b ys) (hz:xs.length≠ys.length):EqD K H (n+1) (.ref l) (.ref b) false
 | tup {n:Nat} {l b:Ab} {xs ys:List V} {e:Nat->Bool} (ne:l≠b) (hl:SqT K H l xs) (hb:SqT K H b ys)
   (he:∀(i:Nat) x y,xs[i]?=some x->ys[i]?=some y->EqD K H n x y (e i)):EqD K H (n+1) (.ref l) (.ref b) ((zV (min xs.length ys.length)).all e&&xs.length==ys.length)
theorem Vals.at{xs:List V}{us:List Aa}(r:Vals xs us){i:Nat}(h:i<us.toArray.size):∃x,xs[i]?=some x/\RelV x us.toArray[i]:=by
 have G:xs.length=us.length:=r.length;have hi:i<us.length:=by simpa using h
 obtain⟨u,e,q⟩:=r.get (i:=i) (x:=xs[i]'(by lia)) (zN (by lia))
 refine⟨_,zN (by lia),?_⟩
 rw[zN hi] at e;cases e;simpa using q
theorem K6(I:Inv X b8 σ H s){n:Nat}{x:V}{b:Bool}(h:EqD X.K H n x y b):
  ∀(A:Ag) (u v:Aa),A.units+n<cLine->RelV x u->RelV y v->SeqAt.EqAt A s u v b:=by
 induction h with
 | flat fx fy=>intro A u v _ G O;exact K7 G O fx fy
 | same =>
  intro A u v _ G O;cases G;cases O;exact SeqAt.EqAt.same _
 | lst ne hl hb hz he ih =>
  intro A u v hu G O;cases G;cases O;obtain⟨i1,Z,p1,z1⟩:=I.list hl;obtain⟨i2,W,p2,z2⟩:=I.list hb;have l1:=Z.length;have l2:=W.length;have hs:i1.toArray.size=i2.toArray.size:=by simp only[zP];lia
  refine SeqAt.EqAt.of_refs ne ?_;have aa:i1.toArray.size=_:=zP.trans l1.symm;rw[<-aa];refine SeqAt.RcAt.lists p1.isList p2.isList hs (by lia) λj h1 h2=>?_
  obtain⟨x,ex,qx⟩:=Z.at h1;obtain⟨y,ey,qy⟩:=W.at h2;exact ih j x y ex ey A.in1 _ _ (by show A.units+1+_<cLine;lia) qx qy
 | len ne hl hb hz =>
  intro A u v hu G O;cases G;cases O;obtain⟨i1,Z,p1,z1⟩:=I.list hl;obtain⟨i2,W,p2,z2⟩:=I.list hb;have l1:=Z.length;have l2:=W.length;refine SeqAt.EqAt.of_refs ne (SeqAt.RcAt.lists_lengths p1.isList p2.isList ?_ (by lia))
  simp only[zP,bne_iff_ne];lia
 | tup ne hl hb he ih =>
  intro A u v hu G O;cases G;cases O;obtain⟨i1,Z,p1,z1⟩:=I.tuple hl;obtain⟨i2,W,p2,z2⟩:=I.tuple hb;have l1:=Z.length;have l2:=W.length;refine SeqAt.EqAt.of_refs ne ?_;have aa:i1.toArray.size=_:=zP.trans l1.symm;have ac:i2.toArray.size=_:=zP.trans l2.symm;rw[<-aa,<-ac];refine SeqAt.RcAt.tuples p1 p2 (by lia) λj h1 h2=>?_
  obtain⟨x,ex,qx⟩:=Z.at h1;obtain⟨y,ey,qy⟩:=W.at h2;exact ih j x y ex ey A.in1 _ _ (by show A.units+1+_<cLine;lia) qx qy
def rEqL (K:Frag)(neg:Bool):R2:=λx y H Q=>∃(l b:Ab) (xs ys:List V),x = .ref l/\y = .ref b/\SqL K H l xs/\SqL K H b ys /\
 ((xs.length≠ys.length/\Q (.bl neg) H)∨(xs.length=ys.length/\∃e:Nat->Bool,(∀(i:Nat) x y,xs[i]?=some x->ys[i]?=some y->EqD K H 8 x y (e i))/\Q (.bl (if neg then !(zV xs.length).all e else(zV xs.length).all e)) H))
theorem P2(hu:X.A.units+64<cLine):OpR X (Ak .Eq) (rEqL X.K false):=by
 intro b8 s σ H x y v u Q I V ry h;obtain⟨l,b,xs,ys,rfl,rfl,hl,Z,h⟩:=h;cases V;cases ry;obtain⟨i1,O,p1,z1⟩:=I.list hl;obtain⟨i2,G,p2,z2⟩:=I.list Z;have l1:=O.length;have l2:=G.length;rcases h with ⟨hz,q⟩ | ⟨hz,e,W,q⟩
 .refine SeqAt.eq_list_lengthsAt p1.isList p2.isList ?_ (by lia) ⟨.bl false,H,I,rfl,q⟩
  simp only[zP,bne_iff_ne];lia
 .have hs:i1.toArray.size=i2.toArray.size:=by simp only[zP];lia
  refine SeqAt.eq_listAt p1.isList p2.isList hs (by lia) (e:=e) (λj h1 h2=>?_) ⟨.bl _,H,I,rfl,?_⟩
  .obtain⟨x,ex,qx⟩:=O.at h1;obtain⟨y,ey,qy⟩:=G.at h2;exact K6 I (W j x y ex ey) X.A.in1 _ _ (by show X.A.units+1+_<cLine;lia) qx qy
  .rw[show i1.toArray.size=xs.length from by simp only[zP];exact l1.symm]
   exact q
theorem NE(hu:X.A.units+64<cLine):OpR X (Ak .NotEq) (rEqL X.K true):=by
 intro b8 s σ H x y v u Q I V ry h;obtain⟨l,b,xs,ys,rfl,rfl,hl,Z,h⟩:=h;cases V;cases ry;obtain⟨i1,O,p1,z1⟩:=I.list hl;obtain⟨i2,G,p2,z2⟩:=I.list Z;have l1:=O.length;have l2:=G.length;rcases h with ⟨hz,q⟩ | ⟨hz,e,W,q⟩
 .refine SeqAt.RcNeAt.lists_lengths p1.isList p2.isList ?_ (by lia) _ _ _ _ ⟨.bl true,H,I,rfl,q⟩
  simp only[zP,bne_iff_ne];lia
 .have hs:i1.toArray.size=i2.toArray.size:=by simp only[zP];lia
  refine SeqAt.RcNeAt.lists p1.isList p2.isList hs (by lia) (e:=e) (λj h1 h2=>?_) _ _ _ _ ⟨.bl _,H,I,rfl,?_⟩
  .obtain⟨x,ex,qx⟩:=O.at h1;obtain⟨y,ey,qy⟩:=G.at h2;exact K6 I (W j x y ex ey) X.A.in1 _ _ (by show X.A.units+1+_<cLine;lia) qx qy
  .rw[show i1.toArray.size=xs.length from by simp only[zP];exact l1.symm]
   exact q
theorem Xj:∀(ns ms:List Int),ns.length=ms.length->((zV ns.length).all λi=>decide (ns[i]?=ms[i]?))=decide (ns=ms):=by
 intro ns ms G;rw[wK,yA,decide_eq_true_eq];constructor
 .intro h;refine jB λi=>?_;by_cases hi:i<ns.length
  .exact xU (h i (xB.mpr hi))
  .rw[wQ (by lia),wQ (by lia)]
 .intro h i _;rw[h];simp
theorem Ed{n:Nat}{x:V}(ex:(ns.map V.int)[i]?=some x)(G:(ms.map V.int)[i]?=some y):EqD K H n x y (decide (ns[i]?=ms[i]?)):=by
 rw[zM] at ex G;cases O:ns[i]? with
 | none=>rw[O] at ex;cases ex
 | some a =>
  cases W:ms[i]? with
  | none=>rw[W] at G;cases G
  | some b =>
   rw[O] at ex;rw[W] at G;cases ex;cases G
   have:decide (some a=some b)=eqV (.int a) (.int b):=by
    show _=(a==b);rw[wK];simp
   rw[this];exact .flat rfl rfl
def rEqI (K:Frag)(neg:Bool):R2:=λx y H Q=>∃(l b:Ab) (ns ms:List Int),x = .ref l/\y = .ref b/\SqL K H l (ns.map V.int)/\SqL K H b (ms.map V.int)/\Q (.bl (if neg then !decide (ns=ms) else decide (ns=ms))) H
theorem rEqI.to{G:Bool}{x:V}(h:rEqI K G x y H Q):rEqL K G x y H Q:=by
 obtain⟨l,b,ns,ms,rfl,rfl,W,Z,q⟩:=h;refine⟨l,b,_,_,rfl,rfl,W,Z,?_⟩;by_cases O:ns.length=ms.length
 .refine .inr ⟨by simpa using O,λi=>decide (ns[i]?=ms[i]?),λi x y ex ey=>Ed ex ey,?_⟩
  rw[zK,Xj ns ms O];exact q
 .refine .inl ⟨by simpa using O,?_⟩
  have:decide (ns=ms)=false:=xW λz=>O (by rw[z])
  rw[this] at q;cases G <;> exact q
theorem P3(V:X.A.units+64<cLine):OpR X (Ak .Eq) (rEqI X.K false):=λb8 s σ H x y v u Q I G O h=>P2 V b8 s σ H x y v u Q I G O h.to
theorem Xo(V:X.A.units+64<cLine):OpR X (Ak .NotEq) (rEqI X.K true):=λb8 s σ H x y v u Q I G O h=>NE V b8 s σ H x y v u Q I G O h.to
end
def ExcObjC(cls a0:Aa)(dd:Option Ab)(tb:Aa)(cs:Aa×Aa):Obj:={ cls:=cls,dict:=dd,data:=.fields #[a0,tb,cs.1,.none,cs.2,.none],slots:=#[] }
abbrev cs0:Aa×Aa:=(.none,.bool false)
abbrev ExcObj(cls a0:Aa)(dd:Option Ab)(tb:Aa):Obj:=ExcObjC cls a0 dd tb cs0
def FlyX (B:Heap)(l:List Env)(x:Ab)(cls a0:Aa)(dd:Option Ab)(cs:Aa×Aa)(fl:Aa)(h:Heap):Prop :=
 B.StaysIn h/\B.get? x=none/\h.FunFrames B l/\∃T oT ts,h.get? x=some (ExcObjC cls a0 dd (.ref T) cs)/\B.get? T=none/\T≠x/\h.get? T=some oT/\oT.data = .fields ts/\ts[3]?=some fl
section
variable {M:Model}{A:Ag}{EE:Aa->Ac->Prop}{s:Ac}{B:Heap}{env:Env}{outer l:List Env}{L x:Ab}{cls a0 tb fl:Aa}{dd:Option Ab}{cs:Aa×Aa}{Q:Unit->Ac->Prop}
theorem FlyX.pop(h:FlyX B (env::l) x cls a0 dd cs fl s.heap):FlyX B l x cls a0 dd cs fl s.heap:=⟨h.1,h.2.1,h.2.2.1.2.2,h.2.2.2⟩
theorem Tt{top:Aa}{ac:Bool}(aa:A.frames=some (env::outer))(hl:s.heap.FunFrames B (env::outer))(hf:env.frame=some L)(hx:s.heap.get? x=some (ExcObjC cls a0 dd tb cs))(hk:B.StaysIn s.heap)(hn:B.get? x=none)(k:∀h',FlyX B (env::outer) x cls a0 dd cs (rawInt L) h'->s.heap.UpToSlots h'->Q () { s with heap:=h' }):
  wpAny M A (do let a <- frameOf env;let V <- entryPlaceOf L ac;let b <- EntryCells.newEntry top a .none (rawInt L) .none V;setField (.ref x) 1 b) Q EE s:=by
 have nx:x∉(env::outer).filterMap (·.frame):=λhm=>by
  obtain⟨_,o,ho,G⟩:=hl.mem hm;rw[hx] at ho;cases ho;exact G _ rfl
 refine zA (wpAny_frameOf_fun aa hl hf λg1 sl1=>zA (wpAny_entryPlaceOf λV W=>?_));unfold EntryCells.newEntry newFields;refine zA (wpAny_newObj_type ?_ (W.sizeOk5 _ _ _ _ _));have x1:g1.get? x=some (ExcObjC cls a0 dd tb cs):=(sl1.2.1 x nx).trans hx;have k1:B.StaysIn g1:=λb o e=>(sl1.2.1 b λhm=>by rw[(hl.mem hm).1] at e;cases e).trans (hk b o e)
 have Z:([top,.ref L,.none,rawInt L,.none]++(if V.isEmpty then yN 6 Value.none else V)).toArray[3]?=some (rawInt L):=by
  first | (simp;done) | (rcases W with rfl | ⟨_,_,_,_,_,_,_,rfl⟩ <;> simp)
 generalize ad:([top,.ref L,.none,rawInt L,.none]++(if V.isEmpty then yN 6 Value.none else V)).toArray=ts at Z ⊢;have x2:(g1.push { cls:=.type "traceback",dict:=none,data:=.fields ts }).get? x=some (ExcObjC cls a0 dd tb cs):=zL _ x1;have Tx:g1.objs.size≠x:=vB (zQ x1);have x3:((g1.push { cls:=.type "traceback",dict:=none,data:=.fields ts }).update x (Obj.mapFields (·.setIfInBounds 1 (Value.ref g1.objs.size)))).get? x=some (ExcObjC cls a0 dd (.ref g1.objs.size) cs):=yS _ x2 rfl;have bu:∀b o,b≠x->(g1.push { cls:=.type "traceback",dict:=none,data:=.fields ts }).get? b=some o->((g1.push { cls:=.type "traceback",dict:=none,data:=.fields ts }).update x (Obj.mapFields (·.setIfInBounds 1 (Value.ref g1.objs.size)))).get? b=some o:=λb o hb e=>by
  rw[yT _ _ (Ne.symm hb)];exact e
 have O:∀b o,s.heap.get? b=some o->(∀vs,o.data ≠ .fields vs)->b≠x:=λb o e G z=>by
  rw[z,hx] at e;cases e;exact G _ rfl
 have up:∀b o,s.heap.get? b=some o->(∀vs,o.data ≠ .fields vs)->∃sl,((g1.push { cls:=.type "traceback",dict:=none,data:=.fields ts }).update x (Obj.mapFields (·.setIfInBounds 1 (Value.ref g1.objs.size)))).get? b=some { o with slots:=sl }:=λb o e G=>by
  obtain⟨sl,e1⟩:=sl1.2.2 b o e;exact⟨sl,bu b _ (O b o e G) (zL _ e1)⟩
 refine wpAny_setField x2 rfl (by show 1<6;decide) (k _ ⟨λb o e=>bu b o (λz=>by rw[z,hn] at e;cases e) (zL _ (k1 b o e)),hn,hl.of_keeps λb o e G=>?_,g1.objs.size,_,ts,x3,k1.fresh,Tx,bu _ _ Tx (zU _ rfl),rfl,Z⟩ up)
 obtain⟨sl,e1⟩:=up b o e G;exact⟨_,e1,rfl⟩
theorem Ph(ac:A.frames=some (env::outer))(hf:env.frame=some L)(Z:FlyX B (env::outer) x cls a0 dd cs .none s.heap)(k:∀h',FlyX B (env::outer) x cls a0 dd cs (rawInt L) h'->s.heap.UpToSlots h'->Q () { s with heap:=h' }):wpAny M A (noteFrame (.ref x) env) Q EE s:=by
 obtain⟨hk,hn,hl,T,oT,ts,Z,ad,aa,hT,W,h3⟩:=Z;unfold noteFrame;simp only[hf];refine zA (wpAny_field Z rfl (x:=.ref T) rfl ?_);rw[xY (show(Value.ref T != Value.none)=true from by simp)]
 refine zA (wpAny_field hT W h3 ?_);rw[xZ (show ¬ ((Value.none==rawInt L)=true) from by simp[rawInt])]
 refine zA (wpAny_setField hT W (vU.mp h3).1 ?_);have V:∀b,b≠T->(s.heap.update T (Obj.mapFields (·.setIfInBounds 3 Value.none))).get? b=s.heap.get? b:=λb hb=>yT _ _ (Ne.symm hb);have O:∀b o,s.heap.get? b=some o->(∀vs,o.data ≠ .fields vs)->b≠T:=λb o e G z=>by
  rw[z,hT] at e;cases e;exact G ts W
 refine Tt (s:={ s with heap:=s.heap.update T (Obj.mapFields (·.setIfInBounds 3 Value.none)) }) ac (hl.of_keeps λb o e G=>⟨o,(V b (O b o e G)).trans e,rfl⟩) hf ((V x (Ne.symm aa)).trans Z)
  (λb o e=>(V b λz=>by rw[z,ad] at e;cases e).trans (hk b o e)) hn λh' fx up=>k h' fx λb o e G=>up b o ((V b (O b o e G)).trans e) G
theorem KO(G:A.frames=some (env::outer))(V:env.frame=some L)(Z:s.heap.FunFrames B (env::outer))(O:s.heap.get? x=some (ExcObjC cls a0 dd .none cs))(hk:B.StaysIn s.heap)(W:B.get? x=none)(k:∀h',FlyX B (env::outer) x cls a0 dd cs (rawInt L) h'->s.heap.UpToSlots h'->Q () { s with heap:=h' }):wpAny M A (noteFrame (.ref x) env) Q EE s:=by
 unfold noteFrame;simp only[V];refine zA (wpAny_field O rfl (x:=.none) rfl ?_);rw[xZ (by decide)]
 exact Tt G Z V O hk W k
theorem Gw(hx:FlyX B l x cls a0 dd cs fl s.heap)(k:∀h',FlyX B l x cls a0 dd cs .none h'->s.heap.UpToSlots h'->Q () { s with heap:=h' }):wpAny M A (setFlight (.ref x) none) Q EE s:=by
 obtain⟨hk,hn,hl,T,oT,ts,hx,aa,Z,hT,V,h3⟩:=hx;have sz:3<ts.size:=(vU.mp h3).1;have W:∀b,b≠T->(s.heap.update T (Obj.mapFields (·.setIfInBounds 3 ((none:Option Ab).elim Value.none λf=>rawInt f)))).get? b=s.heap.get? b:=λb hb=>yT _ _ (Ne.symm hb);have G:∀b o,s.heap.get? b=some o->(∀vs,o.data ≠ .fields vs)->b≠T:=λb o e O z=>by
  rw[z,hT] at e;cases e;exact O ts V
 unfold setFlight;refine zA (wpAny_field hx rfl (x:=.ref T) rfl ?_);rw[xY (show(Value.ref T != Value.none)=true from by simp)]
 refine wpAny_setField hT V sz (k _ ⟨λb o e=>(W b λz=>by rw[z,aa] at e;cases e).trans (hk b o e),hn,hl.of_keeps λb o e O=>⟨o,(W b (G b o e O)).trans e,rfl⟩,T,_,_,(W x (Ne.symm Z)).trans hx,aa,Z,yS _ hT (Obj.isFreed_of_fields (Obj.data_mapFields V _)),Obj.data_mapFields V _,by simp[sz]⟩
  λb o e O=>⟨o.slots,(W b (G b o e O)).trans e⟩)
theorem KW(G:A.frames=some (env::outer))(W:env.frame=some L)(V:FlyX B (env::outer) x cls a0 dd cs .none s.heap)(k:∀h',FlyX B outer x cls a0 dd cs .none h'->s.heap.UpToSlots h'->Q () { s with heap:=h' }):wpAny M A (leaving env (.ref x)) Q EE s:=by
 unfold leaving;refine zA (Ph G W V λh1 f1 O=>Gw (s:={ s with heap:=h1 }) f1 λh2 f2 Z=>k h2 (FlyX.pop (s:={ s with heap:=h2 }) f2) (O.trans Z))
theorem Pz(G:A.frames=some (env::outer))(hf:env.frame=some L)(hl:s.heap.FunFrames B (env::outer))(W:s.heap.get? x=some (ExcObjC cls a0 dd .none cs))(hk:B.StaysIn s.heap)(V:B.get? x=none)(k:∀h',FlyX B outer x cls a0 dd cs .none h'->s.heap.UpToSlots h'->Q () { s with heap:=h' }):wpAny M A (leaving env (.ref x)) Q EE s:=by
 unfold leaving;refine zA (KO G hf hl W hk V λh1 f1 O=>Gw (s:={ s with heap:=h1 }) f1 λh2 f2 Z=>k h2 (FlyX.pop (s:={ s with heap:=h2 }) f2) (O.trans Z))
end
def CxB (bx:Bool)(H:Hp)(cx:Aa):Prop:=cx = .none∨(bx=true/\CxOk H cx)
theorem CxB.ok{cx:Aa}(h:CxB bx H cx):CxOk H cx:=h.elim .inl (·.2)
theorem CxB.frzs{bx:Bool}{H H':Hp}{cx:Aa}(x:CxB bx H cx)(f:∀b o u,H b=some (.frz o u)->H' b=some (.frz o u)):CxB bx H' cx:=x.elim .inl λz=>.inr ⟨z.1,z.2.frzs f⟩
def Fly (bx:Bool)(P:Ae)(w:Af)(g:Heap)(l:List Env)(H:Hp)(x:Ab)(cls:Aa)(dd:Option Ab)(h:Heap):Prop :=
 ∃(B:Heap) (a0:Aa) (cs:Aa×Aa),FlyX B l x cls a0 dd cs .none h/\CxB bx H cs.1/\HOk P w H B/\∀b o,g.get? b=some o->b∉frs l->∃ob,B.get? b=some ob
def CXq (bx:Bool)(P:Ae)(w:Af):CXT:=⟨λouter H s E e s'=>∃x cls dd H',e = .ref x/\s'.os=s.os/\AllBare s'.gens/\Un (frs outer) [] H H' s.heap s'.heap/\HOk P w H' s'.heap/\Fly bx P w s.heap outer H' x cls dd s'.heap/\E cls dd H',true⟩
abbrev CXr(P:Ae)(w:Af):CXT:=CXq false P w
section
variable {bx:Bool}{P:Ae}{w:Af}{K:Frag}{mg:Str->Option Aa}{base:Heap}{N:List Str}{qual:Str}{scope:Aj}{f:Ab}{cd:Aa}{A:Ag}{outer:List Env}{s₀:Ac}{H₀:Hp}{E:XK}
variable {b8:List (Ab×Obj)}{σ:St}{H:Hp}{s:Ac}
theorem WH{B bb:Heap}{x:Ab}{cls a0:Aa}{dd:Option Ab}(ad:s.os=s₀.os)(ae:AllBare s.gens)(base:Un (frs outer) [] H₀ H s₀.heap s.heap)(O:s₀.heap.FunFrames bb outer)(ac:∀b∈frs outer,H₀ b=none)(st:B.StaysIn s.heap)(fl:FlyX B outer x cls a0 dd cs .none h')(af:CxB bx H cs.1)(hB:HOk P w H B)(aa:∀b o,s₀.heap.get? b=some o->b∉frs outer->∃ob,B.get? b=some ob)(up:∀b o,b∈frs outer->s.heap.get? b=some o->(∀vs,o.data ≠ .fields vs)->∃sl,h'.get? b=some { o with slots:=sl })(q:E cls dd H):
  CXq bx P w outer H₀ s₀ E (.ref x) { s with heap:=h',toks:=t' }:=by
 have same:∀b o,s₀.heap.get? b=some o->b∉frs outer->∀o',s.heap.get? b=some o'->h'.get? b=some o':=λb o e G o' e'=>by
  obtain⟨ob,eb⟩:=aa b o e G
  have:=st b ob eb
  rw[e'] at this;cases this;exact fl.1 b _ eb
 refine⟨x,cls,dd,H,rfl,ad,ae,⟨λb o e n G W=>?_,λb o e n G W=>?_,base.free,λb o e W=>?_,base.tups,base.frzs,base.tbls⟩,hB.kept fl.1,⟨B,a0,cs,fl,af,hB,aa⟩,q⟩
 .exact same b o e G o (base.keep b o e n G W)
 .obtain⟨sl,e1⟩:=base.slot b o e n G W;obtain⟨_,o2,e2,V⟩:=O.mem G;rw[e] at e2;cases e2;obtain⟨Z,e3⟩:=up b _ G e1 V;exact⟨Z,e3⟩
 .obtain⟨o1,e1⟩:=base.there b o e W;by_cases G:b∈frs outer
  .obtain⟨_,o2,e2,V⟩:=O.mem G;rw[e] at e2;cases e2;by_cases n:H₀ b=none
   .obtain⟨sl,e3⟩:=base.slot b o e n G W;obtain⟨Z,e4⟩:=up b _ G e3 V;exact⟨_,e4⟩
   .exact xX (ac b G) n
  .exact⟨o1,same b o e G o1 e1⟩
theorem MC{b0:Bool}(Z:b0=true->bx=true:=by first | exact id | exact λz=>nomatch z | exact λ_=>rfl):Passes (CXq b0 P w) (cxOf (CXq bx P w) P w K mg base N qual scope f cd A outer s₀ H₀ E) E:=by
 intro b8 σ H s e s' I h;obtain⟨x,cls,dd,H',rfl,os,G,un,W,⟨B,a0,cs,fl,ac,hB,ad⟩,q⟩:=h;have V:Inv (cxOf (CXq bx P w) P w K mg base N qual scope f cd A outer s₀ H₀ E) b8 σ H' s':=I.call' (ch:=[]) os un W G (λb z=>xX z (by simp))
 have O:∀b o,s₀.heap.get? b=some o->b∉frs outer->∃ob,B.get? b=some ob:=λb o e hb=>by
  obtain⟨o1,e1⟩:=I.base.there b o e (by intro z;cases z)
  refine ad b o1 e1 λhm=>?_;rcases yF.mp (I.stkSub b hm) with z | z
  .exact xX (yG (zQ e) I.ok.above) (by rw[z];exact wY _)
  .exact hb z
 refine KW (L:=s₀.heap.objs.size) I.ok.frames rfl fl λh' aa up=>?_;exact WH V.os V.bare V.base V.ok.funs V.ok.frf fl.1 aa (ac.elim .inl λz=>.inr ⟨Z z.1,z.2⟩) hB O (λb o _ e n=>up b o e n) q
end
section
variable {X:Cx}{x:Str}{C:Ab}{E:XK}{e₀:Ah}{rest:List Ah}{ta:TA}{np cpos pos:Pos}{Bn B newId inN nid initId:String}{bmN bmB:List Aa}
end
theorem Fun.okR{st:Ai}(F:Fun K x qual st f fd)(S:Zd N ps (defScope st))(W:∀vs H Q E,sp vs H Q E->vs.length=ps.length)(G:∀(O:Aa) (A:Ag) (outer:List Env) (s:Ac) (H:Hp) (vs:List V) (Q:VK) (E:XK),Room k (A.deeper (envOfC qual (defScope st) s.heap.objs.size f O))->sp vs H Q E ->
 ∃t,PSs (cxOf (CXq bx P w) P w K mg base N qual (defScope st) f O A outer s H E) (ZB st) t/\t { nx:=λ_ H'=>Q .non H',rt:=Q } (start N vs) H):FnOk P w K mg base (CXq bx P w) (k+1) f fd ps sp:=by
 obtain⟨oc,od,kV,bw,pm,an,O,ct,bz,rfl,l,c⟩:=F.ex;exact PX l c S W λA outer s H vs Q E Z h=>G O A outer s H vs Q E Z h
theorem Fun.okB{st:Ai}(F:Fun K x qual st f fd)(S:Zd N ps (defScope st))(G:∀(W:Aa) (A:Ag) (outer:List Env) (s:Ac) (H:Hp) (vs:List V) (Q:VK) (E:XK),Room k (A.deeper (envOfC qual (defScope st) s.heap.objs.size f W))->sp vs H Q E ->
 ∃t,PSs (cxOf (CXq bx P w) P w K mg base N qual (defScope st) f W A outer s H E) (ZB st) t/\t { nx:=λ_ H'=>Q .non H',rt:=Q } (start N vs) H)(O:∀vs H Q E,sp vs H Q E->vs.length=ps.length:=by(intro vs H Q E h;first | (cases h with | mk=>(subst_vars;rfl)) | (repeat (first | (obtain⟨rfl,_⟩:=h;rfl) | (obtain⟨_,h⟩:=h))))):FnOk P w K mg base (CXq bx P w) (k+1) f fd ps sp:=F.okR S O G
theorem QM(i:Nat):(zV (i+1)).filterMap outs=(zV i).filterMap outs++(match outs i with | some v=>[v] | none=>[]):=by
 rw[wI,xN];cases h:outs i <;> simp[h]
theorem QX{n:Nat}{item:Nat->V}(SG:St->Prop)(hD:H1 D=none)(hn:n<zF)(go:∀i Hc,i<n->Same H1 Hc->J.go i Hc)(ae:∀i Hc x H',i<n->Same H1 Hc->J.yld i Hc x H'->H'=Hc/\x=item i)(ac:∀Hc,Same H1 Hc->J.stop n Hc)(s0:SG σ0)(step:∀(i:Nat) (σc:St) (Hc:Hp) (ad:V->St->Hp->Prop) (No:St->Hp->Prop),i<n->Same H1 Hc->Hc D≠none->SG σc ->
 (∀O H4 v,SG O->Same Hc H4->outs i=some v->ad v O H4)->(∀O H3,SG O->Same Hc H3->outs i=none->No O H3) ->
 g (item i) σc Hc λO H2=>tt O H2 λb H3=>if b=true then te O H3 λv H4=>ad v O H4 else No O H3)(af:∀Hc,Same H1 Hc->Hc D=some (.lst ((zV n).filterMap outs))->Q (.ref D) Hc):
  QJ J g tt te σ0 H1 D Q:=by
 have sD:∀{Hc:Hp} {o:HO},Same H1 Hc->Same H1 (upd Hc D o):=λ{Hc o} e b u q=>by rw[Z5 (Z1 q hD)];exact e b u q
 refine⟨λi m aa σc Hc=>m=n-i/\i<=n/\aa=(zV i).filterMap outs/\Same H1 Hc/\Hc D=some (.lst aa)/\SG σc,⟨n,rfl,xD _,rfl,sD (Za _),Z2,s0⟩,?_⟩;rintro i m aa σc Hc ⟨rfl,hi,rfl,Z,W,sg⟩;by_cases G:i<n
 .refine .inr ⟨go i Hc G Z,λx H' y=>?_⟩;obtain⟨rfl,rfl⟩:=ae i Hc x H' G Z y;refine step i σc _ _ _ G Z (by rw[W];simp) sg (λO H4 v s2 k e=>?_) (λO H3 s2 k e=>?_)
  .have hl:((zV i).filterMap outs).length<=i:=yU (qF _ _) (by simp)
   refine⟨k _ _ W,wF hl (qN G hn),n-(i+1),by lia,rfl,G,?_,sD (Z.trans k),Z2,s2⟩
   rw[QM,e]
  .refine⟨n-(i+1),by lia,rfl,G,?_,Z.trans k,?_,s2⟩
   .rw[QM,e];simp
   .exact k _ _ W
 .have e:i=n:=by lia
  subst e;exact .inl ⟨ac Hc Z,af Hc Z W⟩
theorem Y0{xs:List V}(Z:St->Prop)(hD:H1 D=none)(hq:SqL K H1 a xs)(hn:xs.length<zF)(s0:Z σ0)(step:∀(i:Nat) (x:V) (σc:St) (Hc:Hp) (O:V->St->Hp->Prop) (No:St->Hp->Prop),xs[i]?=some x->Same H1 Hc->Hc D≠none->Z σc ->
 (∀G H4 v,Z G->Same Hc H4->outs i=some v->O v G H4)->(∀G H3,Z G->Same Hc H3->outs i=none->No G H3) ->
 g x σc Hc λG H2=>tt G H2 λb H3=>if b=true then te G H3 λv H4=>O v G H4 else No G H3)(aa:∀Hc,Same H1 Hc->Hc D=some (.lst ((zV xs.length).filterMap outs))->Q (.ref D) Hc):
  QJ (Itl K a) g tt te σ0 H1 D Q:=by
 refine QX (J:=Itl K a) (n:=xs.length) (item:=λi=>xs.getD i .non) Z hD hn (λi Hc hi W=>⟨xs,xs[i],W.seq hq,by simp[hi]⟩) (λi Hc x H' hi W y=>?_) (λHc W=>⟨xs,W.seq hq,zO _⟩) s0 (λi σc Hc O No hi W ac sg y n=>?_) aa
 .obtain⟨e,y⟩:=y
  have:=y xs (W.seq hq)
  exact⟨e,by simp[uB,this]⟩
 .have e:xs[i]?=some (xs.getD i .non):=by simp[uB,hi]
  exact step i _ σc Hc O No e W ac sg y n
theorem JY{n:Nat}(O:St->Prop)(hD:H1 D=none)(hn:n<zF)(s0:O σ0)(step:∀(i:Nat) (σc:St) (Hc:Hp) (Z:V->St->Hp->Prop) (No:St->Hp->Prop),i<n->Same H1 Hc->Hc D≠none->O σc ->
 (∀G H4 v,O G->Same Hc H4->outs i=some v->Z v G H4)->(∀G W,O G->Same Hc W->outs i=none->No G W) ->
 g (.int (i:Nat)) σc Hc λG H2=>tt G H2 λb W=>if b=true then te G W λv H4=>Z v G H4 else No G W)(aa:∀Hc,Same H1 Hc->Hc D=some (.lst ((zV n).filterMap outs))->Q (.ref D) Hc):
  QJ (Itr 0 n) g tt te σ0 H1 D Q:=by
 refine QX (J:=Itr 0 n) (n:=n) (item:=λi=>.int (i:Nat)) O hD hn (λi Hc hi _=>hi) (λi Hc x H' _ _ y=>⟨y.1,by rw[y.2];congr 1;lia⟩) (λHc _=>zO _) s0 step aa
theorem UP{T:String}(Z:Gl X x)(W:X.mg x=none)(G:bootBuiltins x=some (.type T))(O:x≠"__name__":=by decide)(V:(x==("__debug__":Str))=false:=by decide):PE X (.Name x pos) (tC (.ty T)):=KJ Z W G (v:=.ty T) rfl O V
theorem Xl(O:Gl X x)(V:X.mg x=some (.ref C))(G:(x==("__debug__":Str))=false:=by decide):PE X (.Name x pos) (tC (.ref C)):=KH O V (v:=.ref C) rfl G
theorem ixL(e:Y.K=K:=by rfl):IxR Y (rIxL K):=by subst e;exact Zf
theorem ixT(e:Y.K=K:=by rfl):IxR Y (rIxT K):=by subst e;exact ZF
theorem Tp{α:Type}(f:α->V)(xs:List α):∀n:Nat,((zV n).filterMap λi=>(xs[i]?).map f)=(xs.take n).map f
 | 0=>rfl
 | n+1=>by
  rw[wI,xN,Tp f xs n,xM,zZ];congr 1;cases e:xs[n]? <;> simp[e]
theorem V1{α:Type}(f:α->V)(xs:List α):((zV xs.length).filterMap λi=>(xs[i]?).map f)=xs.map f:=by
 rw[Tp,wE]
theorem RP(e:Y.K=K:=by rfl):Jt Y (.builtin "len") (λxs H Q=>∃p ys,xs=[.ref p]/\(SqL K H p ys∨SqT K H p ys)/\Q (.int ys.length) H):=by subst e;exact VZ
theorem E1(G:Y.A.units+64<cLine)(e:Y.K=K:=by rfl):OpR Y (Ak .NotEq) (rEqI K true):=by subst e;exact Xo G
theorem E3(G:Y.A.units+64<cLine)(e:Y.K=K:=by rfl):OpR Y (Ak .Eq) (rEqI K false):=by subst e;exact P3 G
def Es(i j l:Nat)(ta:TA):TS:=λD σ H=>ta σ H λvs H1=>∃v w u,vs=[v,w,u]/\D.nx (((σ.set i (some v)).set j (some w)).set l (some u)) H1
theorem KD{l:Nat}{y z:Str}{a b c:Ah}{px pz pt:Pos}{kt k2 pt2}(hc:True=True)(hN:X.N.Nodup)(hi:X.N[i]?=some x)(hj:X.N[j]?=some y)(hl:X.N[l]?=some z)(W:i≠j)(aa:i≠l)(af:j≠l)(hx:X.env.scope.names.lookup x=some .local)(hy:X.env.scope.names.lookup y=some .local)(hz:X.env.scope.names.lookup z=some .local)(ha:PA X [a,b,c] ta)(hw:swappedStores [.Tuple [.Name x px,.Name y py,.Name z pz] kt pt] (.Tuple [a,b,c] k2 pt2) X.env=pure (some [x,y,z]))(hs:swapsWithSole [.Tuple [.Name x px,.Name y py,.Name z pz] kt pt] (.Tuple [a,b,c] k2 pt2) pos.line X.env=pure false:=by rfl):
  PS X (.Assign [.Tuple [.Name x px,.Name y py,.Name z pz] kt pt] (.Tuple [a,b,c] k2 pt2) pos) (Es i j l ta):=by
 intro b8 s σ H D I h;rw[exec_Assign_arm];refine zA (wpAny_standAt ?_);rw[hs];refine zA (zB ?_);rw[xZ (by decide)]
 refine zA (Tuple_ (thn (ha _ b8 s σ H _ I h) λus s1 ag=>?_));obtain⟨vs,H1,I1,r1,q1⟩:=ag;obtain⟨v,w,u,rfl,q1⟩:=q1;obtain⟨O,V,G,rfl,rv,Z,ru⟩:∃O V G,us=[O,V,G]/\RelV v O/\RelV w V/\RelV u G:=by
  cases r1 with
  | cons p q =>
   cases q with
   | cons p' q' =>
    cases q' with
    | cons ad ac=>cases ac;exact⟨_,_,_,rfl,p,p',ad⟩
 refine wpAny_newObj_type ?_ (by show 3<=zF;decide)
 have I2:Inv X b8 σ H1 { s1 with heap:=s1.heap.push { cls:=.type "tuple",data:=.seq [O,V,G].toArray } }:=I1.kept (t':=s1.toks) λb o e=>zL _ e
 rw[hw];refine zA (zB ?_);show wpAny (model X.prog X.w) X.A (do rule "assign.swapped-stores";let items <- unpackItems (.ref s1.heap.objs.size) 3 none;assignInOrder [λv=>bindName X.env z v,λv=>bindName X.env y v,λv=>bindName X.env x v] items.reverse;pure Flow.next) _ _ _
 refine zA (wpAny_rule (zA (Uy (items:=#[O,V,G]) I2.hdS (IsTup.new s1.heap _) λh' ae=>?_)));have I3:=I2.kept (h':=h') (t':=s1.toks) λb o e=>ae b o (zX (zQ e)) e;show wpAny _ _ (assignInOrder [λv=>bindName X.env z v,λv=>bindName X.env y v,λv=>bindName X.env x v] [G,V,O] >>= λ_=>pure Flow.next) _ _ _;refine zA (assignInOrder_cons (wpAny_bindName (J6 I3 hN hl (.inl hz) ru (λs2 I4=>?_) (.inr hz))));refine assignInOrder_cons (wpAny_bindName (J6 I4 hN hj (.inl hy) Z (λs3 I5=>?_) (.inr hy)));refine assignInOrder_cons (wpAny_bindName (J6 I5 hN hi (.inl hx) rv (λs4 I6=>assignInOrder_nil (zB ?_)) (.inr hx)));have e:((σ.set l (some u)).set j (some w)).set i (some v)=((σ.set i (some v)).set j (some w)).set l (some u):=by
  rw[uV _ _ (Ne.symm af),uV _ _ (Ne.symm aa),uV _ _ (Ne.symm W)]
 rw[e] at I6;exact⟨_,H1,I6,q1⟩
def L7(j:Nat)(t:TE):TS:=λD σ H=>t σ H λv H'=>D.nx (σ.set j (some v)) H'
theorem JQ{G:Pos}{y:Str}(S:XY XN outer scope N cap)(_:True=True)(aa:X.N.Nodup)(hj:X.N[j]?=some y)(hy:Loc X.env.scope y)(hi:PI X target iter wi)(hg:∀cl C s₀ H₀ ex b8,PG (X.comp N scope cl C s₀ H₀ ex b8) target g)(ht:∀cl C s₀ H₀ ex b8,PIfs (X.comp N scope cl C s₀ H₀ ex b8) ifs tt)(he:∀cl C s₀ H₀ ex b8,PE (X.comp N scope cl C s₀ H₀ ex b8) elt te)(Z:swapsWith (.ListComp elt [⟨target,iter,ifs,0⟩] scope pos) (some (.Name y py)) G.line X.env=pure true:=by rfl)(hX:X.env.scope=outer:=by rfl)(hN:X.N=XN:=by rfl)(hs:∀x,foldedSetIterable iter X.env x=pure x:=by intro _;rfl)(hf:X.fn y=true∨X.env.scope.names.lookup y=some .local:=by first | exact .inl rfl | exact .inr rfl):
  PS X (.Assign [.Name y py] (.ListComp elt [⟨target,iter,ifs,0⟩] scope pos) G) (L7 j (tComp cap wi g tt te)):=by
 intro b8 s σ H D I h;obtain⟨cl,O,W,V⟩:=Uh (scope:=scope) (env:=X.env) λx hx hf=>I.ok.has x.1 (.inl (by
  show X.env.scope.names.lookup x.1=some .cell;rw[hX];exact S.fr x hx hf))
 rw[exec_Assign_Name_used _ _ _ _ Z];refine zA (wpAny_standAt (zA ?_));show wpAny _ X.A (do let _ <- comprehension (.ListComp elt [⟨target,iter,ifs,0⟩] scope pos) scope X.env _ (newList []) false (eval iter X.env) (some (assign (.Name y py) X.env))) _ _ s
 refine zA (zC (wpAny_comprehension_free (use:=some (assign (.Name y py) X.env)) (Q:=λ_ s'=>SP X b8 D .next s') rfl hs O S.kind S.loc ?_) (λ_ s' hq=>zB (zB hq)) λ_ _ e=>e);refine thn (hi b8 s σ H _ I h) λv s1 h1=>thn h1 λah s2 h2=>?_;obtain⟨it,fp,tn,J,H2,rfl,I2,T,ae,f2,hc,hW⟩:=h2;refine WO (RR:=λad C=>compPost (model X.prog X.w) X.A X.xe (some (assign (.Name y py) X.env)) (λ_ s'=>SP X b8 D .next s') ad C) hX hN S hc hg ht he W V I2 T ae f2 hW ?_;intro Dl C H' s' m I' fC hn q;obtain⟨a0,a1,_,a3,a4,a5⟩:=fC;show wpAny _ X.A (assign (.Name y py) X.env (.ref Dl)) _ _ s';refine wpAny_assign_Name (Wf I' aa hj hy (v:=.ref Dl) rfl (λs3 I3 ag=>?_) hf);obtain⟨b,sb,hb⟩:=ag;have ac:b≠C:=by
  rcases hb with z | z
  .rw[z];exact(Ne.symm a1)
  .exact λe=>a4 y b z e
 refine⟨m,hn.sameBut sb (Ne.symm ac),λh' af=>?_⟩;exact⟨_,H',I3.turned (t':=s3.toks) (λc o hb e=>af.extBut c o hb e) a0 a1 a3 a4 a5,q⟩
theorem Paired.getL{α β:Type}{F:α->β->Prop}:∀{l₁:List α} {l₂:List β} {i:Nat} {a:α},Paired F l₁ l₂->l₁[i]?=some a->∃b,l₂[i]?=some b/\F a b
 | _,_,_,_,.nil,e=>by simp at e
 | _,_,0,_,.cons r _,e=>by simp at e;subst e;exact⟨_,rfl,r⟩
 | _,_,i+1,a,.cons _ t,e=>by
  obtain⟨b,h1,h2⟩:=Paired.getL (i:=i) (a:=a) t (by simpa using e)
  exact⟨b,by simpa using h1,h2⟩
theorem EH{k:Key}(h:(mixKind P w).is k u=true):RelV (kV k) u:=by
 rcases ZW (k:=k) (v:=u) h with ⟨i,t,rfl,rfl⟩ | ⟨x,t,rfl,rfl⟩
 .exact⟨t,rfl⟩
 .exact⟨t,rfl⟩
section
variable {X:Cx}{b8:List (Ab×Obj)}{σ:St}{H:Hp}{s:Ac}
theorem Inv.track{t:Ab}{o:HO}(I:Inv X b8 σ H s)(O:H t=none)(h0:X.s₀.heap.objs.size<=t)(hL:t≠X.env.locals)(hc:∀x c,X.env.cells.lookup x=some c->c≠t)(hp:∀p∈X.pn++b8,p.1≠t)(Z:ObjOk X.prog X.w (upd H t o) s.heap t o):Inv X b8 σ (upd H t o) s:=by
 have aa:∀b G,X.s₀.heap.get? b=some G->b≠t:=λb G e=>zX (yG (zQ e) h0);refine⟨I.ok,I.os,I.bare,⟨I.base.keep,I.base.slot,λb G e n hx=>?_,I.base.there,λb xs e=>?_,λb G u e=>?_,λb ps e=>?_⟩,I.loc,I.cell,?_,λx c e=>?_,λp W=>?_,λb u e=>?_,I.len,I.hdh.frzs λb G u e=>?_⟩
 .rw[Z5 (aa b G e)];exact I.base.free b G e n hx
 .have:=I.base.tups b xs e;rw[Z5 (Z1 this O)];exact this
 .have:=I.base.frzs b G u e;rw[Z5 (Z1 this O)];exact this
 .obtain⟨V,e1⟩:=I.base.tbls b ps e;exact⟨V,by rw[Z5 (Z1 e1 O)];exact e1⟩
 .rw[Z5 (Ne.symm hL)];exact I.free
 .rw[Z5 (hc x c e)];exact I.freeC x c e
 .obtain⟨a,b,c,d,e⟩:=I.pin p W;exact⟨a,by rw[Z5 (hp p W)];exact b,c,d,e⟩
 .by_cases hb:b=t
  .subst hb;rw[Z2] at e;cases e;exact Z
  .rw[Z5 hb] at e;exact(I.hok b u e).stay (λ_ _ _ z=>z) (λc z=>by rw[Z5 (Z1 z O)];exact z) λc xs z=>by rw[Z5 (Z1 z O)];exact z
 .rw[Z5 (Z1 e O)];exact e
theorem Inv.turnedL{c9:List Ab}(I:Inv X b8 σ H s)(k:∀b o,b∉c9->s.heap.get? b=some o->h'.get? b=some o)(V:∀b∈c9,FpOk X b8 H b):Inv X b8 σ H { s with heap:=h',toks:=t' }:=by
 have O:∀b u,H b=some u->b∉c9:=λb u e z=>by rw[(V b z).1] at e;cases e
 refine I.step (g':=s.gens) (d':=s.drawn) (ch:=c9) (λb W=>?_) (λb o _ _ G e _=>k b o G e) (λb o _ _ G e _=>⟨o.slots,k b o G e⟩) (λ_ _ _ _ n=>n)
  (λb o G e=>⟨o,k b o G e⟩) (λ_ _ e=>e) (λ_ _ _ e=>e) (λb ps e=>⟨#[],by rw[e];simp⟩) (λm hm=>?_) (λb u e=>?_) I.bare
 .obtain⟨_,f1,_,f3,f4,Z⟩:=V b W;exact⟨f3,f1,f4,Z⟩
 .obtain⟨o,es,ep,ho,r⟩:=hm;exact⟨o,es,ep,k _ o (λz=>(V _ z).2.1 rfl) ho,r⟩
 .refine(I.hok b u e).stay (λc v G q=>k c v ?_ q) (λ_ q=>q) λ_ _ q=>q;rcases G with z | z
  .rw[z];exact O b u e
  .exact O c _ z
variable {d:Ab}{kvs:List (Key×V)}
theorem Inv.freeze(I:Inv X b8 σ H s)(e:H d=some (.dK kvs)):∃o es ep vs,s.heap.get? d=some o/\o.data = .dict es ep/\KV kvs vs/\(d==sysModules)=false/\s.heap.DictAt (mixKind X.prog X.w) d vs ep/\Inv X b8 σ (upd H d (.frz o (.dK kvs))) s:=by
 obtain⟨z,hd,vs,r,dd⟩:=N3 I.hok e;obtain⟨ep,da⟩:=dd.dictAt;obtain⟨o,es,Z,hx,V,O⟩:=id da;refine⟨o,es,ep,vs,Z,V,r,hd,da,?_⟩;have G:∀{b:Ab} {u:HO},H b=some u->(∀ks,u ≠ .dK ks)->b≠d:=λ{b u} q hu z=>by rw[z,e] at q;cases q;exact hu _ rfl
 refine I.un (h':=s.heap) (t':=s.toks) ⟨λb o' q n _ _=>q,λb o' q n _ _=>⟨o'.slots,q⟩,λb o' q n _=>?_,λb o' q _=>⟨o',q⟩,λb xs q=>?_,λb o' u q=>?_,λb ps q=>⟨#[],?_⟩⟩ λb u q=>?_
 .rw[Z5 (λz=>by rw[z,e] at n;cases n)];exact n
 .rw[Z5 (G q λks z=>by cases z)];exact q
 .rw[Z5 (G q λks z=>by cases z)];exact q
 .rw[Z5 (G q λks z=>by cases z)];simp[q]
 .by_cases W:b=d
  .subst W;rw[Z2] at q;cases q;exact⟨Z,(I.hok b _ e).stay (λ_ _ _ z=>z) (λc z=>by rw[Z5 (G z λks y=>by cases y)];exact z) λc xs z=>by rw[Z5 (G z λks y=>by cases y)];exact z⟩
  .rw[Z5 W] at q;exact(I.hok b u q).stay (λ_ _ _ z=>z) (λc z=>by rw[Z5 (G z λks y=>by cases y)];exact z) λc xs z=>by rw[Z5 (G z λks y=>by cases y)];exact z
theorem Inv.thaw(I:Inv X b8 σ H s)(e:H d=some (.frz o (.dK kvs)))(h0:∀o u,X.H₀ d≠some (.frz o u)):Inv X b8 σ (upd H d (.dK kvs)) s:=by
 have hk:=I.hok d _ e;obtain⟨hg,V⟩:=(show ObjOk X.prog X.w H s.heap d (.frz o (.dK kvs)) from hk)
 have G:∀{b:Ab} {u:HO},H b=some u->(∀o ks,u ≠ .frz o (.dK ks))->b≠d:=λ{b u} q hu z=>by rw[z,e] at q;cases q;exact hu _ _ rfl
 have nn:∀{b:Ab},H b=none->b≠d:=λ{b} q z=>by rw[z,e] at q;cases q
 refine⟨I.ok,I.os,I.bare,⟨I.base.keep,I.base.slot,λb W q n hx=>?_,I.base.there,λb xs q=>?_,λb W u q=>?_,λb ps q=>?_⟩,I.loc,I.cell,?_,λx c q=>?_,λp hp=>?_,λb u q=>?_,I.len,?_⟩
 .have:=I.base.free b W q n hx;rw[Z5 (nn this)];exact this
 .have:=I.base.tups b xs q;rw[Z5 (G this λ_ _ z=>by cases z)];exact this
 .have:=I.base.frzs b W u q
  rw[Z5 (λz=>by subst z;exact h0 _ _ q)];exact this
 .obtain⟨O,e1⟩:=I.base.tbls b ps q;exact⟨O,by rw[Z5 (G e1 λ_ _ z=>by cases z)];exact e1⟩
 .rw[Z5 (nn I.free)];exact I.free
 .have:=I.freeC x c q;rw[Z5 (nn this)];exact this
 .obtain⟨a,b,c,d',e'⟩:=I.pin p hp;exact⟨a,by rw[Z5 (nn b)];exact b,c,d',e'⟩
 .by_cases hb:b=d
  .subst hb;rw[Z2] at q;cases q;exact V.stay (λ_ _ _ z=>z) (λc z=>by rw[Z5 (G z λ_ _ y=>by cases y)];exact z) λc xs z=>by rw[Z5 (G z λ_ _ y=>by cases y)];exact z
  .rw[Z5 hb] at q;exact(I.hok b u q).stay (λ_ _ _ z=>z) (λc z=>by rw[Z5 (G z λ_ _ y=>by cases y)];exact z) λc xs z=>by rw[Z5 (G z λ_ _ y=>by cases y)];exact z
 .have nf:∀x ox (v:Array Aa) u,H x=some (.frz ox u)->ox.data = .fields v->x≠d:=λx ox v u h2 Z z=>by
   subst z;rw[e] at h2;cases h2;obtain⟨_,_,vs,_,W,es,ep,g1,_,g2,_⟩:=V;rw[hg] at g1;cases g1;rw[Z] at g2;cases g2
  rcases I.hdh with h | ⟨x,ox,v,u,cx,h1,h2,Z,h4,h5⟩
  .exact .inl h
  .refine .inr ⟨x,ox,v,u,cx,h1,by rw[Z5 (nf _ _ _ _ h2 Z)];exact h2,Z,h4,?_⟩
   rcases h5 with h5 | ⟨y,oy,vy,uy,y1,y2,y3,y4⟩
   .exact .inl h5
   .exact .inr ⟨y,oy,vy,uy,y1,by rw[Z5 (nf _ _ _ _ y2 y3)];exact y2,y3,y4⟩
end
def Itd (d:Ab)(o:Obj)(kvs:List (Key×V)):It :=
 ⟨λi H=>i<kvs.length/\H d=some (.frz o (.dK kvs)),λi H x H'=>H'=H/\∃p,kvs[i]?=some p/\x=kV p.1,λi H=>kvs.length<=i/\H d=some (.frz o (.dK kvs)),true⟩
theorem XJ{es:Array DictEntry}(I:Inv X b8 σ H s)(Z:H d=some (.frz o (.dK kvs)))(G:o.data = .dict es ep):
  ∃vs,KV kvs vs/\s.heap.DictAt (mixKind X.prog X.w) d vs ep:=by
 obtain⟨O,_,_,vs,r,o',V,W,g1,g2,g3,g4⟩:=(show ObjOk X.prog X.w H s.heap d (.frz o (.dK kvs)) from I.hok d _ Z)
 rw[O] at g1;cases g1;rw[G] at g3;cases g3;exact⟨vs,r,o,es,O,g2,G,g4⟩
theorem TV{es:Array DictEntry}(d it:Ab)(kvs:List (Key×V))(ac:o.data = .dict es ep):Turn P w K tg (Itd d o kvs) [it] it (λi h=>h.IsKeyIter it d i kvs.length ep) where
 mem:=by simp
 obj:=λi h st b O=>by
  have e:b=it:=by simpa using O
  subst e;obtain⟨o,e,c,d⟩:=st;exact⟨o,e,λv z=>by rw[d] at z;cases z⟩
 keep:=λi h h' st k=>st.at λo e=>k it (by simp) o e
 item:=by
  intro X hP hw hK hc i b8 s σ H E I hf st hg;subst hP hw hK;obtain⟨hi,Z⟩:=hg;obtain⟨vs,r,da⟩:=XJ I Z ac;have G:kvs.length=vs.length:=Paired.length r;obtain⟨⟨k',u⟩,hu,hk,ru⟩:=Paired.getL (i:=i) (a:=kvs[i]) r (by simp[hi])
  obtain⟨f0,f1,f2,f3,f4,f5⟩:=hf it (by simp)
  rw[G] at st;refine wpAny_pyNext_dict_item st da hu λkey h' aa W sb=>?_;have I1:Inv X b8 σ H { s with heap:=h' }:=I.turned (t':=s.toks) (λb o O e=>(sb.2 b O).trans e) f0 f1 f3 f4 f5
  obtain⟨o2,e2,c2,d2⟩:=id W;rw[<-G] at W;refine⟨key,rfl,MZ (s:={ s with heap:=h' }) e2 c2 d2 (by decide) ⟨kV kvs[i].1,H,I1,?_,⟨rfl,kvs[i],by simp[hi],rfl⟩,W,λb O=>(hf b O).1⟩⟩
  have hk:kvs[i].1=k':=hk;rw[hk];exact EH aa
 done:=by
  intro X hP hw hK hc i b8 s σ H E I hf st hg;subst hP hw hK;obtain⟨hi,Z⟩:=hg;obtain⟨vs,r,da⟩:=XJ I Z ac;have G:kvs.length=vs.length:=Paired.length r;obtain⟨f0,f1,f2,f3,f4,f5⟩:=hf it (by simp)
  rw[G] at st;exact wpAny_pyNext_dict_end (I.ok.hd (hc rfl)) st da (by simp;lia) λh' eb=>⟨rfl,I.turned (t':=s.toks) (λb o O e=>eb b o O e) f0 f1 f3 f4 f5⟩
 self:=λ_ _ _ _ _ st h=>wpAny_pyIter_keyiter st h
def EM(tl:TE):TI:=λσ H R=>tl σ H λx H1=>∃d kvs,x = .ref d/\H1 d=some (.dK kvs)/\∀o,R (Itd d o kvs) (upd H1 d (.frz o (.dK kvs)))
theorem Gg{l:Ah}{tl:TE}(hl:PE X l tl)(hc:X.calm=true:=by rfl):PI X tg l (EM tl):=by
 intro b8 s σ H R I h;refine thn (hl b8 s σ H _ I h) λv s1 V=>?_;obtain⟨x,H1,I1,r1,q1⟩:=V;obtain⟨d,kvs,e,hd,q⟩:=q1;subst e;cases (show v = .ref d from r1)
 obtain⟨o,es,ep,vs,ho,O,r,hs,da,W⟩:=I1.freeze hd;refine wpAny_pyIter_dict hs da ?_;have G:kvs.length=vs.length:=Paired.length r;refine⟨s1.heap.objs.size,[s1.heap.objs.size],_,_,_,rfl,W.kept (t':=s1.toks) λb o e=>zL _ e,TV d _ kvs O,?_,λb Z=>?_,(λ_=>hc),q o⟩
 .rw[G];exact⟨_,zU _ rfl,rfl,rfl⟩
 .have e:b=s1.heap.objs.size:=by simpa using Z
  subst e;exact W.fpOk (zO _) (W.hok.fresh (zO _))
def Ep(X:Cx)(D:Ends):Ends where
 nx:=λσ H=>∃d o kvs,H d=some (.frz o (.dK kvs))/\(∀o u,X.H₀ d≠some (.frz o u))/\D.nx σ (upd H d (.dK kvs))
 bk:=λσ H=>∃d o kvs,H d=some (.frz o (.dK kvs))/\(∀o u,X.H₀ d≠some (.frz o u))/\D.bk σ (upd H d (.dK kvs))
 ct:=λσ H=>∃d o kvs,H d=some (.frz o (.dK kvs))/\(∀o u,X.H₀ d≠some (.frz o u))/\D.ct σ (upd H d (.dK kvs))
 rt:=λv H=>∃d o kvs,H d=some (.frz o (.dK kvs))/\(∀o u,X.H₀ d≠some (.frz o u))/\D.rt v (upd H d (.dK kvs))
theorem T8{st:Ai}{t:TS}(h:PS X st t):PS X st (λD σ H=>t (Ep X D) σ H):=by
 intro b8 s σ H D I V;refine thn (h b8 s σ H _ I V) λf s1 q=>?_;cases f with
 | next=>obtain⟨G,H',O,d,o,kvs,e,h0,q⟩:=q;exact⟨G,_,O.thaw e h0,q⟩
 | brk=>obtain⟨G,H',O,d,o,kvs,e,h0,q⟩:=q;exact⟨G,_,O.thaw e h0,q⟩
 | cont=>obtain⟨G,H',O,d,o,kvs,e,h0,q⟩:=q;exact⟨G,_,O.thaw e h0,q⟩
 | ret u=>obtain⟨v,G,H',O,r,d,o,kvs,e,h0,q⟩:=q;exact⟨v,G,_,O.thaw e h0,r,q⟩
theorem KG{ex:Ah}{t:TE}(h:PE X ex t):PE X ex (λσ H Q=>t σ H λv H1=>∃d o kvs,H1 d=some (.frz o (.dK kvs))/\(∀o u,X.H₀ d≠some (.frz o u))/\Q v (upd H1 d (.dK kvs))):=by
 intro b8 s σ H Q I O;refine thn (h b8 s σ H _ I O) λu s1 G=>?_;obtain⟨v,H',V,r,d,o,kvs,e,h0,q⟩:=G;exact⟨v,_,V.thaw e h0,r,q⟩
theorem N1{D:Ends}(G:Nat->St->Hp->Prop)(h0:G 0 σ H)(hl:∀i σ H,G i σ H->H d=some (.frz o (.dK kvs)))(hs:∀i p σ H,kvs[i]?=some p->G i σ H->g (kV p.1) σ H λZ H2=>tb { D with nx:=G (i+1),ct:=G (i+1),bk:=D.nx } Z H2)(hd:∀ σ H,G kvs.length σ H->D.nx σ H):
  ∃W:Nat->Nat->St->Hp->Prop,(∃m,W 0 m σ H)/\∀i m σ H,W i m σ H ->
   ((Itd d o kvs).stop i H/\D.nx σ H)∨((Itd d o kvs).go i H/\∃N:St->Hp->Prop,(∀V H',N V H'->∃m',m'<m/\W (i+1) m' V H')/\∀x H',(Itd d o kvs).yld i H x H'->g x σ H' λZ H2=>tb { D with nx:=N,ct:=N,bk:=D.nx } Z H2):=by
 refine⟨λi m σ H=>m=kvs.length-i/\i<=kvs.length/\G i σ H,⟨kvs.length,by simp,xD _,h0⟩,?_⟩
 rintro i m σ H ⟨rfl,hi,p⟩;have q:=hl i σ H p;by_cases O:i<kvs.length
 .refine .inr ⟨⟨O,q⟩,G (i+1),λV H' p'=>⟨kvs.length-(i+1),by lia,rfl,O,p'⟩,λx H' y=>?_⟩
  obtain⟨e,pp,y1,y2⟩:=y;subst e y2;exact hs i pp σ _ y1 p
 .have e:i=kvs.length:=by lia
  subst e;exact .inl ⟨⟨zO _,q⟩,hd σ H p⟩
section
variable {X:Cx}{b8:List (Ab×Obj)}{σ:St}{H:Hp}{s:Ac}{a:Ab}{kvs:List (Key×V)}{k:Key}{u r:Aa}{z:V}{A:Ag}{E:Aa->Ac->Prop}
theorem Eg{Q:Aa->Ac->Prop}(I:Inv X b8 σ H s)(e:H a=some (.dK kvs))(ry:RelV (kV k) u)(rz:RelV z r)(hl:kvs.length<zF)(h1:∀v w' s',valV kvs k=some v->Inv X b8 σ H s'->RelV v w'->Q w' s')(h2:∀s',valV kvs k=none->Inv X b8 σ (upd H a (.dK (putK kvs k z))) s'->Q r s'):
  wpAny (model X.prog X.w) A (call (.builtin "dict.setdefault") [.ref a,u,r]) Q E s:=by
 obtain⟨zz,Z,vs,O,dd⟩:=N3 I.hok e;have hz:vs.length<=zF:=by rw[<-O.length];exact zz
 have W:(putK kvs k z).length<=zF:=by have:=U5 kvs k z;lia
 refine call_meetsIn jE dd.typeIs PySem.F.entry_dict_setdefault (PySem.F.args_dict_setdefault_3 _ _ _) (kt_meets_setdefault (mixKind X.prog X.w) a (VS ry) Z r) ⟨vs,dd,hz,λv hv=>?_,λhn h' V hs=>?_⟩
 .have G:=O.val k;rw[hv] at G;cases q:valV kvs k with
  | none=>rw[q] at G;exact False.elim G
  | some y=>rw[q] at G;exact h1 y v _ q (I.tok _) G
 .have G:=O.val k;rw[hn] at G;cases q:valV kvs k with
  | some y=>rw[q] at G;exact False.elim G
  | none =>
   have he:∃q,h'.get? a=some q:=let ⟨q,_,_,hq,_⟩:=V;⟨q,hq⟩
   exact h2 _ q (QW I (by rw[e];exact True.intro) hs he (Dm W Z (O.put k rz) V))
end
def OM(td ty tx:TE):TE:=λσ H Q=>td σ H λx H1=>∃a,x = .ref a/\IsD H1 a/\ty σ H1 λy H2=>tx σ H2 λz H3=>∃kvs k,H3 a=some (.dK kvs)/\y=kV k/\kvs.length<zF /\
 (∀v,valV kvs k=some v->Q v H3)/\(valV kvs k=none->Q z (upd H3 a (.dK (putK kvs k z))))
theorem Xk{o f:Ah}{cj cpos:Pos}{td ty tx:TE}(ho:PE X o td)(he:PE X e ty)(hf:PE X f tx)(m:M2 X o "setdefault" cj e f cpos):PE X (.Call (.Attribute o "setdefault" cj) [e,f] [] cpos) (OM td ty tx):=by
 intro b8 s σ H Q I h;refine wpAny_Call_method m.base m.few m.line vW jE PySem.F.type_dict_setdefault (thn (ho b8 s σ H _ I h) λu s1 G=>?_);obtain⟨x,H1,W,Z,a,ex,d,q1⟩:=G;subst ex;obtain rfl:u=Value.ref a:=Z;obtain⟨t1,t2,_⟩:=De W d;refine⟨t1,t2,?_⟩;rw[m.trees];refine Calls.callWith_builtin rfl (Calls.evalArgs_plain (Calls.spliced_cons (thn (he b8 s1 σ H1 _ W q1) λiv s2 ⟨y,H2,I2,ry,q2⟩ =>
  Calls.spliced_cons (thn (hf b8 s2 σ H2 _ I2 q2) λfv s3 ⟨z,H3,I3,V,kvs,k,ea,ey,hl,q3,q4⟩=>Calls.spliced_nil ?_))))
 subst ey;exact Eg I3 ea ry V hl (λv w' s' hv O rv=>⟨v,H3,O,rv,q3 v hv⟩) λs' hn O=>⟨z,_,O,V,q4 hn⟩
def Ite (K:Frag)(a:Ab):It :=
 ⟨λi H=>∃xs x,SqL K H a xs/\xs[i]?=some x,λi H x H'=>∃t y,x = .ref t/\H t=none/\(∀xs,SqL K H a xs->xs[i]?=some y)/\H'=upd H t (.tup [.int (i:Nat),y]),λi H=>∃xs,SqL K H a xs/\xs.length<=i,true⟩
theorem TU{x1}(a e it:Ab)(af:e≠it):Turn P w K (.Tuple elts x1 pos) (Ite K a) [e,it] e (λi h=>(∃O,IsEnum h e it (i:Nat) O)/\h.IsListIter it a i) where
 mem:=by simp
 obj:=λi h st b V=>by
  obtain⟨⟨O,W⟩,G⟩:=st;rcases yF.mp V with rfl | V
  .exact⟨_,W,λv z=>by
    have z':Data.fields _=Data.cell v:=z;cases z'⟩
  .have e:b=it:=by simpa using V
   subst e;obtain⟨o,e,c,d⟩:=G;exact⟨o,e,λv z=>by rw[d] at z;cases z⟩
 keep:=λi h h' st k=>by
  obtain⟨⟨O,W⟩,G⟩:=st;exact⟨⟨O,k e (by simp) _ W⟩,G.at λo x=>k it (by simp) o x⟩
 item:=by
  intro X hP hw hK Z i b8 s σ H E I hf st hg;subst hP hw hK;obtain⟨⟨O,W⟩,G⟩:=st;obtain⟨xs,x,hq,hx⟩:=hg;obtain⟨c9,rv,p,hz⟩:=I.list hq;obtain⟨u,hu,ru⟩:=rv.get hx;have ae:a≠e:=λz=>by
   obtain⟨o,ho,Z,_⟩:=p.isList;rw[z,W] at ho;cases ho;injection Z with Z;exact xX Z (by decide)
  have ai:a≠it:=λz=>by
   obtain⟨o,ho,Z,_⟩:=p.isList;obtain⟨o2,ac,ah,_⟩:=G;rw[z,ac] at ho;cases ho;rw[ah] at Z;injection Z with Z;exact xX Z (by decide)
  refine wpAny_pyNext_enum_item W G p.isList (x:=u) (by simpa using hu) af λh' ho ad hT aj hk=>?_
  refine⟨_,rfl,wpAny_letOwnedTupleGo_enum (s:={ s with heap:=h',toks:=s.toks+1 }) ho λh2 ag aa=>?_⟩
  have hn:H s.heap.objs.size=none:=I.hok.fresh (zO _);have te:s.heap.objs.size≠e:=vB (zQ W);have I1:Inv X b8 σ H { s with heap:=h2,toks:=s.toks+1 }:=I.turnedL (c9:=[e,it]) (λb o V e'=>(aa.2 b λz=>V (by simp[z])).trans (hk b o (λz=>V (by simp[z])) (λz=>V (by simp[z])) e')) hf
  have fp:=I.fpOk (b8:=b8) (b:=s.heap.objs.size) (zO _) hn;have I2:Inv X b8 σ (upd H s.heap.objs.size (.tup [.int (i:Nat),x])) { s with heap:=h2,toks:=s.toks+1 }:=
   I1.track hn I.sz fp.2.1 fp.2.2.2.2.1 fp.2.2.2.2.2 ⟨by show 2<=zF;decide,[.int (i:Nat) s.toks,u],.cons ⟨_,rfl⟩ (.cons ru .nil),⟨_,(aa.2 _ te).trans hT,rfl,_,rfl⟩⟩
  refine⟨.ref s.heap.objs.size,_,I2,rfl,⟨s.heap.objs.size,x,rfl,hn,λys hy=>by rw[I.list_inj hy hq];exact hx,rfl⟩,⟨⟨_,ag⟩,ad.at λo y=>(aa.2 it af.symm).trans y⟩,λb V=>?_⟩
  rw[Z5 (λz=>?_)];· exact(hf b V).1
  subst z;rcases yF.mp V with z | z
  .exact te z
  .have z:s.heap.objs.size=it:=by simpa using z
   obtain⟨o2,ac,_⟩:=G;exact xX (zQ ac) (by rw[<-z];exact wY _)
 done:=by
  intro X hP hw hK Z i b8 s σ H E I hf st hg;subst hP hw hK;obtain⟨⟨O,W⟩,G⟩:=st;obtain⟨xs,hq,hx⟩:=hg;obtain⟨c9,rv,p,hz⟩:=I.list hq;have hl:=rv.length;exact wpAny_pyNext_enum_end (I.ok.hd (Z rfl)) W G p.isList (by simp;lia) λh' eb=>⟨rfl,I.turnedL (t':=s.toks) (c9:=[e,it]) (λb o V e'=>eb b o (λz=>V (by simp[z])) e') hf⟩
 self:=λ_ _ _ _ _ st h=>let ⟨⟨_,W⟩,_⟩:=st;wpAny_pyIter_enum W h
def EL(K:Frag)(ta:TA):TI:=λσ H R=>ta σ H λvs H1=>∃a,vs=[.ref a]/\(∃xs,SqL K H1 a xs)/\R (Ite K a) H1
theorem QR{x1}{tpos:Pos}{a:Ah}(hg:Gl X "enumerate")(hm:X.mg "enumerate"=none)(ha:PA X [a] ta)(hs:zG [a] X.env=[(false,eval a X.env)]:=by rfl)(hc:X.calm=true:=by rfl):PI X (.Tuple elts x1 tpos) (.Call (.Name "enumerate" p) [a] [] pos) (EL X.K ta):=by
 intro b8 s σ H R I h;refine Call_ (JW I hg hm boot_enumerate (PyProof.Rows.callWith_type1 (thn (ha pos b8 s σ H _ I h) λus s1 V=>?_) hs rfl));obtain⟨vs,H1,O,r1,q1⟩:=V;obtain⟨a,rfl,⟨xs,hq⟩,q⟩:=q1;obtain⟨u,rfl,rx⟩:=JN r1;cases (show u = .ref a from rx)
 obtain⟨c9,rv,pl,hz⟩:=O.list hq;refine call_enumerate_list pl.isList λh' Z W aa hk=>?_;have I2:Inv X b8 σ H1 { s1 with heap:=h' }:=O.kept (t':=s1.toks) hk
 refine wpAny_pyIter_enum (s:={ s1 with heap:=h' }) Z ?_
 refine⟨s1.heap.objs.size+1,[s1.heap.objs.size+1,s1.heap.objs.size],_,_,H1,rfl,I2,TU a (s1.heap.objs.size+1) s1.heap.objs.size (Nat.succ_ne_self _),⟨⟨_,Z⟩,W⟩,λb hb=>?_,(λ_=>hc),q⟩;have G:s1.heap.objs.size<=b:=by
  rcases yF.mp hb with z | z
  .rw[z];exact vL _
  .have z:b=s1.heap.objs.size:=by simpa using z
   rw[z];exact zO _
 exact O.fpOk G (O.hok.fresh G)
theorem PV{xs:List V}{D:Ends}(G:Nat->St->Hp->Prop)(h0:G 0 σ H)(hl:∀i σ H,i<=xs.length->G i σ H->SqL K H a xs)(hs:∀i x t σ H,xs[i]?=some x->G i σ H->H t=none->g (.ref t) σ (upd H t (.tup [.int (i:Nat),x])) λσ2 H2=>tb { D with nx:=G (i+1),ct:=G (i+1),bk:=D.nx } σ2 H2)(hd:∀ σ H,G xs.length σ H->D.nx σ H):
  ∃W:Nat->Nat->St->Hp->Prop,(∃m,W 0 m σ H)/\∀i m σ H,W i m σ H ->
   ((Ite K a).stop i H/\D.nx σ H)∨((Ite K a).go i H/\∃N:St->Hp->Prop,(∀Z H',N Z H'->∃m',m'<m/\W (i+1) m' Z H')/\∀x H',(Ite K a).yld i H x H'->g x σ H' λσ2 H2=>tb { D with nx:=N,ct:=N,bk:=D.nx } σ2 H2):=by
 refine⟨λi m σ H=>m=xs.length-i/\i<=xs.length/\G i σ H,⟨xs.length,by simp,xD _,h0⟩,?_⟩
 rintro i m σ H ⟨rfl,hi,p⟩;have q:=hl i σ H hi p;by_cases O:i<xs.length
 .refine .inr ⟨⟨xs,xs[i],q,by simp[O]⟩,G (i+1),λZ H' p'=>⟨xs.length-(i+1),by lia,rfl,O,p'⟩,λx H' y=>?_⟩
  obtain⟨t,y,e1,e2,e3,e4⟩:=y;subst e1 e4;exact hs i y t σ H (e3 xs q) p e2
 .have e:i=xs.length:=by lia
  subst e;exact .inl ⟨⟨xs,q,zO _⟩,hd σ H p⟩
theorem Qo{xs:List V}(SG:St->Prop)(hD:H1 D=none)(hq:SqL K H1 a xs)(hn:xs.length<zF)(s0:SG σ0)(step:∀(i:Nat) (x:V) (t:Ab) (σc:St) (Hc:Hp) (ad:V->St->Hp->Prop) (No:St->Hp->Prop),xs[i]?=some x->Same H1 Hc->Hc D≠none->Hc t=some (.tup [.int (i:Nat),x])->SG σc ->
 (∀G H4 v,SG G->Same Hc H4->outs i=some v->ad v G H4)->(∀G H3,SG G->Same Hc H3->outs i=none->No G H3) ->
 g (.ref t) σc Hc λG H2=>tt G H2 λb H3=>if b=true then te G H3 λv H4=>ad v G H4 else No G H3)(ae:∀Hc,Same H1 Hc->Hc D=some (.lst ((zV xs.length).filterMap outs))->Q (.ref D) Hc):
  QJ (Ite K a) g tt te σ0 H1 D Q:=by
 have sD:∀{Hc:Hp} {o:HO},Same H1 Hc->Same H1 (upd Hc D o):=λ{Hc o} e b u q=>by rw[Z5 (Z1 q hD)];exact e b u q
 refine⟨λi m aa σc Hc=>m=xs.length-i/\i<=xs.length/\aa=(zV i).filterMap outs/\Same H1 Hc/\Hc D=some (.lst aa)/\SG σc,⟨xs.length,rfl,xD _,rfl,sD (Za _),Z2,s0⟩,?_⟩;rintro i m aa σc Hc ⟨rfl,hi,rfl,W,ac,sg⟩;by_cases O:i<xs.length
 .refine .inr ⟨⟨xs,xs[i],W.seq hq,by simp[O]⟩,λx H' y=>?_⟩
  obtain⟨t,y,e1,e2,e3,e4⟩:=y;subst e1 e4;have st:Same Hc (upd Hc t (.tup [.int (i:Nat),y])):=λb o e=>by rw[Z5 (Z1 e e2)];exact e
  have Z:=st _ _ ac;refine step i y t σc _ _ _ (e3 xs (W.seq hq)) (W.trans st) (by rw[Z];simp) Z2 sg (λG H4 v s2 k e=>?_) (λG H3 s2 k e=>?_)
  .have hl:((zV i).filterMap outs).length<=i:=yU (qF _ _) (by simp)
   refine⟨k _ _ Z,wF hl (qN O hn),xs.length-(i+1),by lia,rfl,O,?_,sD ((W.trans st).trans k),Z2,s2⟩
   rw[QM,e]
  .refine⟨xs.length-(i+1),by lia,rfl,O,?_,(W.trans st).trans k,k _ _ Z,s2⟩
   rw[QM,e];simp
 .have e:i=xs.length:=by lia
  subst e;exact .inl ⟨⟨xs,W.seq hq,zO _⟩,ae Hc W ac⟩
open PySem.W (kla_obj kla_fn CodeHd tabObj envX)
def codeφ(c:Ab)(q:Str):Heap->Prop:=λh=>h.CodeRec (.ref c) q
def lamφ (q:Ab)(o:Obj):Heap->Prop:=λh=>h.get? q=some o
theorem XM{pos':Pos}{c O:Aa}:∀(l:List Aa),TriplesOk l->codeAmong pos' (l++[rawInt pos.line,rawInt pos.col,c])=some O->codeAmong pos' l=some O∨O=c:=by
 intro l h G
 fun_induction TriplesOk l with
 | case1 =>
  right;simp only[List.nil_append,rawInt,codeAmong] at G;split at G
  .exact(Option.some.inj G).symm
  .cases G
 | case2 a t b u x rest V =>
  simp only[uC,codeAmong] at G ⊢;split at G
  .rename_i q;left;rw[xY q];exact G
  .rename_i q;rw[xZ q];exact V h G
 | case3 l h1 h2=>exact h.elim
def YG(H:Hp)(P:Ab)(q:Str):Prop:=∃ps:Array Aa,H P=some (.tbl ps)/\TriplesOk ps.toList/\∀pos cv,codeAmong pos ps.toList=some cv->∃c,cv = .ref c/\H c=some (.ext (codeφ c q))
def nt:HO->Bool
 | .tbl _=>false
 | _=>true
structure SameN(H H':Hp):Prop where
 at_:∀b o,nt o=true->H b=some o->H' b=some o
 tb:∀b,H' b=jF->H b=jF
instance {H H':Hp}:CoeFun (SameN H H') (λ_=>∀b o,nt o=true->H b=some o->H' b=some o):=⟨SameN.at_⟩
theorem Same.n(s:Same H H'):SameN H H':=⟨λb o _ e=>s b o e,λb h=>s.free h⟩
theorem SameN.trans(a:SameN H H1)(b:SameN H1 H2):SameN H H2:=⟨λc o n h=>b c o n (a c o n h),λc h=>a.tb c (b.tb c h)⟩
theorem SameN.seq{xs:List V}(e:SameN H H')(h:SqL K H a xs):SqL K H' a xs:=by
 rcases h with (h | ⟨o,h⟩) | h
 .exact .inl (.inl (e _ _ rfl h))
 .exact .inl (.inr ⟨o,e _ _ rfl h⟩)
 .exact .inr h
theorem YG.same{P:Ab}{q:Str}(l:YG H P q)(s:Same H H'):YG H' P q:=by
 obtain⟨ps,h1,h2,G⟩:=l;exact⟨ps,s _ _ h1,h2,λpos O e=>let ⟨c,e1,e2⟩:=G pos O e;⟨c,e1,s _ _ e2⟩⟩
structure TJ(X:Cx)(H:Hp)(q:Ab)(params:Arguments)(body:Ah)(scope:Aj)(qual:Str):Prop where
 ex:∃(cl:List (Str×Ab)) (c:Ab) (pm ctv:Aa),H q=some (.ext (lamφ q (kla_obj "<lambda>" qual params body scope cl pm c ctv)))/\H c=some (.ext (codeφ c qual)) /\
  (∀x c,cl.lookup x=some c->X.env.cells.lookup x=some c)/\∀x∈scope.names,x.2 = .free->∃c,cl.lookup x.1=some c
section
variable {X:Cx}
def tLam (X:Cx)(P:Ab)(params:Arguments)(body:Ah)(scope:Aj):TE:=λσ H Q=>YG H P (X.env.qual++"<lambda>")/\∀q H1,H q=none->SameN H H1->YG H1 P (X.env.qual++"<lambda>")->TJ X H1 q params body scope (X.env.qual++"<lambda>")->Q (.ref q) H1
theorem LW{G:Arguments}{P:Ab}(ad:X.env.code = .ref c)(C:CodeHd X.base c P)(B:X.base.BuiltinsAt X.mg P)(ak:∀x∈scope.names,x.2 = .free->X.env.scope.names.lookup x.1=some .cell)(aq:defaultsOf G X.env=([],[]):=by rfl):PE X (.Lambda G body scope pos) (tLam X P G body scope):=by
 intro b8 s σ H Q I h;obtain⟨⟨ps,hP,ht,am⟩,k⟩:=h;obtain⟨cl,ae,ah,ag⟩:=Uh (scope:=scope) (env:=X.env) λx hx hf=>I.ok.has x.1 (.inl (ak x hx hf));have gP:s.heap.get? P=some (tabObj ps):=(show ObjOk X.prog X.w H s.heap P (.tbl ps) from I.hok P _ hP)
 have aj:s.heap.Ns zE X.mg:=I.ok.mod.glob.keeps I.bk;have ax:zE≠P:=λq=>by
  obtain⟨o,es,ep,e,hd,_⟩:=aj;rw[q,gP] at e;cases e;cases hd
 have hB:s.heap.BuiltinsAt X.mg P:=by
  obtain⟨bm,o,b1,b2,b3,b4,b5,b6⟩:=B;exact⟨bm,o,b1,b2,b3,b4,I.bk _ _ b5,b6⟩
 have nP:∀{b:Ab} {u:HO},H b=some u->nt u=true->b≠P:=λ{b u} q hu z=>by rw[z,hP] at q;cases q;cases hu
 refine PySem.W.kla_eval aq ?_;cases hf:codeAmong pos ps.toList with
 | some cv =>
  obtain⟨O,rfl,a6⟩:=am pos cv hf;refine PySem.W.kla_makeFunctionHit (mg:=X.mg) ae I.ok.glob aj ad (C.keeps I.bk) gP ht hf hB λaa h' tk hk a4=>?_;have fq:H h'.objs.size=none:=I.hok.fresh a4;have I1:Inv X b8 σ H { s with heap:=h',toks:=tk }:=I.kept hk
  have gq:=zU h' (o:=kla_obj "<lambda>" (X.env.qual++"<lambda>") G body scope cl ((X.mg "__name__").getD .none) O aa) rfl;have I2:Inv X b8 σ (upd H h'.objs.size (.ext (lamφ h'.objs.size (kla_obj "<lambda>" (X.env.qual++"<lambda>") G body scope cl ((X.mg "__name__").getD .none) O aa)))) { s with heap:=h'.push (kla_obj "<lambda>" (X.env.qual++"<lambda>") G body scope cl ((X.mg "__name__").getD .none) O aa),toks:=tk }:=
   I1.laid (t':=tk) (λb o e=>zL _ e) (zO _) ⟨gq,⟨_,gq⟩,λh1 h2 e k=>k _ e⟩
  have sm:Same H (upd H h'.objs.size (.ext (lamφ h'.objs.size (kla_obj "<lambda>" (X.env.qual++"<lambda>") G body scope cl ((X.mg "__name__").getD .none) O aa)))):=λb o e=>by rw[Z5 (Z1 e fq)];exact e
  exact⟨.ref h'.objs.size,_,I2,rfl,k _ _ fq sm.n (YG.same ⟨ps,hP,ht,am⟩ sm) ⟨cl,O,_,_,Z2,sm _ _ a6,ah,ag⟩⟩
 | none =>
  refine PySem.W.kla_makeFunction (mg:=X.mg) ae I.ok.glob aj ad (C.keeps I.bk) gP ht hf ax hB λO aa h' tk hx af al ap ai=>?_;have fc:H O=none:=I.hok.fresh af;have fq:H h'.objs.size=none:=I.hok.fresh (yW (wF af al));have aw:O≠h'.objs.size:=zX al;have au:P≠O:=Z1 hP fc;have ay:P≠h'.objs.size:=Z1 hP fq;generalize ho:kla_obj "<lambda>" (X.env.qual++"<lambda>") G body scope cl ((X.mg "__name__").getD .none) O aa=ob;generalize ao:ps ++ #[rawInt pos.line,rawInt pos.col,.ref O]=Z at ai;have gq:=zU h' (o:=ob) (by rw[<-ho];rfl)
  have keep:∀b o,b≠P->s.heap.get? b=some o->(h'.push ob).get? b=some o:=λb o V e=>zL _ (hx b o V e);have eP:(upd (upd (upd H P (.tbl Z)) O (.ext (codeφ O (X.env.qual++"<lambda>")))) h'.objs.size (.ext (lamφ h'.objs.size ob))) P=some (.tbl Z):=by rw[Z5 ay,Z5 au,Z2]
  have ec:(upd (upd (upd H P (.tbl Z)) O (.ext (codeφ O (X.env.qual++"<lambda>")))) h'.objs.size (.ext (lamφ h'.objs.size ob))) O=some (.ext (codeφ O (X.env.qual++"<lambda>"))):=by rw[Z5 aw,Z2]
  have eq:(upd (upd (upd H P (.tbl Z)) O (.ext (codeφ O (X.env.qual++"<lambda>")))) h'.objs.size (.ext (lamφ h'.objs.size ob))) h'.objs.size=some (.ext (lamφ h'.objs.size ob)):=Z2;have eo:∀b,b≠P->b≠O->b≠h'.objs.size->(upd (upd (upd H P (.tbl Z)) O (.ext (codeφ O (X.env.qual++"<lambda>")))) h'.objs.size (.ext (lamφ h'.objs.size ob))) b=H b:=λb h1 h2 h3=>by rw[Z5 h3,Z5 h2,Z5 h1]
  generalize (upd (upd (upd H P (.tbl Z)) O (.ext (codeφ O (X.env.qual++"<lambda>")))) h'.objs.size (.ext (lamφ h'.objs.size ob)))=H1 at eP ec eq eo;have sm:SameN H H1:=by
   refine⟨λb o n e=>by rw[eo b (nP e n) (Z1 e fc) (Z1 e fq)];exact e,λb V=>?_⟩
   by_cases h1:b=P
   .rw[h1,eP] at V;cases V
   .by_cases h2:b=O
    .rw[h2];exact fc
    .by_cases h3:b=h'.objs.size
     .rw[h3];exact fq
     .rw[eo b h1 h2 h3] at V;exact V
  have un:Un X.fs [] H H1 s.heap (h'.push ob):=by
   refine⟨λb o q n _ _=>keep b o (λz=>by rw[z,hP] at n;cases n) q,λb o q n _ _=>⟨o.slots,keep b o (λz=>by rw[z,hP] at n;cases n) q⟩,λb o q n _=>?_,λb o q _=>?_,λb xs q=>sm _ _ rfl q,λb o u q=>sm _ _ rfl q,λb qs q=>?_⟩
   .rw[eo b (λz=>by rw[z,hP] at n;cases n) (zX (yG (zQ q) af)) (zX (yG (zQ q) (yW (wF af al))))];exact n
   .by_cases V:b=P
    .exact⟨_,V▸zL _ ai⟩
    .exact⟨o,keep b o V q⟩
   .by_cases V:b=P
    .subst V;rw[hP] at q;cases q;exact⟨#[rawInt pos.line,rawInt pos.col,.ref O],by rw[eP,ao]⟩
    .exact⟨#[],by rw[eo b V (Z1 q fc) (Z1 q fq),q];simp⟩
  have a7:HOk X.prog X.w H1 (h'.push ob):=λb u q=>by
   by_cases V:b=P
   .subst V;rw[eP] at q;cases q;exact zL _ ai
   .by_cases as:b=O
    .subst as;rw[ec] at q;cases q;have ac:(h'.push ob).CodeRec (.ref b) (X.env.qual++"<lambda>"):=ap.push _;obtain⟨c2,oc,vs,t,e2,az,r⟩:=id ac;cases e2;exact⟨ac,⟨oc,az⟩,λh1 h2 qy kk=>by obtain⟨c3,a3,av,t3,e3,g3,r3⟩:=qy;cases e3;exact⟨_,a3,av,t3,rfl,kk _ g3,r3⟩⟩
    .by_cases ar:b=h'.objs.size
     .subst ar;rw[eq] at q;cases q;exact⟨gq,⟨_,gq⟩,λh1 h2 e kk=>kk _ e⟩
     .rw[eo b V as ar] at q;refine(I.hok b u q).stay (λx v a5 e=>keep x v ?_ e) (λx z=>sm _ _ rfl z) λx xs z=>sm _ _ rfl z;rcases a5 with z | z
      .rw[z];exact V
      .exact nP z rfl
  have I2:Inv X b8 σ H1 { s with heap:=h'.push ob,toks:=tk }:=I.un un a7
  refine⟨.ref h'.objs.size,H1,I2,rfl,k _ _ fq sm ⟨Z,eP,?_,λpos' cv e=>?_⟩ ⟨cl,O,_,_,by rw[eq,<-ho],ec,ah,ag⟩⟩
  .rw[<-ao];simpa using TriplesOk_snoc pos.line pos.col (.ref O) ps.toList ht
  .rw[<-ao] at e;rcases XM (pos:=pos) (c:=.ref O) ps.toList ht (by simpa using e) with e | rfl
   .obtain⟨c2,e1,e2⟩:=am pos' cv e;exact⟨c2,e1,sm _ _ rfl e2⟩
   .exact⟨O,rfl,ec⟩
def Cx.lam(X:Cx)(N:List Str)(scope:Aj)(qual:Str)(cl:List (Str×Ab))(L q c:Ab)(s₀:Ac)(H₀:Hp)(b8:List (Ab×Obj)):Cx where
 prog:=X.prog
 w:=X.w
 K:=X.K
 mg:=X.mg
 base:=X.base
 A:=X.A.in1.in1.deeper (envX qual scope L q (.ref c) cl)
 N:=N
 s₀:=s₀
 H₀:=H₀
 env:=envX qual scope L q (.ref c) cl
 outer:=X.stack
 stack:=envX qual scope L q (.ref c) cl::X.stack
 ex:=[]
 fn:=λ_=>false
 calm:=X.calm
 pn:=X.pn++b8
 xe:=λ_ _=>False
structure Nd(XN:List Str)(outer inner:Aj)(x:Str)(N:List Str)(cap:List (Option Nat)):Prop where
 kind:inner.kind = .function
 co:inner.isCoroutine=false
 gen:inner.isGenerator=false
 nocell:∀y∈inner.names,y.2 ≠ .cell
 loc:inner.names.lookup x=some .local
 caps:Caps XN outer inner N cap
 nd:(x::N).Nodup
 all:∀c∈cap,c≠none
theorem KY(I:Inv X b8 σ H s)(hX:X.env.scope=outer)(hN:X.N=XN)(S:Nd XN outer scope x N cap)(rv:RelV v u)(G:∀x c,cl.lookup x=some c->X.env.cells.lookup x=some c)(O:∀x∈scope.names,x.2 = .free->∃c,cl.lookup x.1=some c)(hn:h1.Ns s.heap.objs.size (λy=>([(x,u)]:List (Str×Aa)).reverse.lookup y))(keep:∀b o,s.heap.get? b=some o->h1.get? b=some o):
  Inv (X.lam (x::N) scope qual cl s.heap.objs.size q c s H b8) [] (some v::capσ cap σ) H { s with heap:=h1,toks:=tk }:=by
 subst hX hN;have V:∀b:Ab,b∉(X.lam (x::N) scope qual cl s.heap.objs.size q c s H b8).ex:=λb z=>xX (show b∈([]:List Ab) from z) (by simp)
 refine⟨⟨I.ok.mod,S.kind,rfl,rfl,zO _,λy z c h1 h2=>I.ok.inj y z c (G y c h1) (G z c h2),λy W=>?_,(λy c h _=>nomatch h),I.ok.hd,Around.frames_deeper (A:=X.A.in1.in1) I.ok.frames,.inr ⟨rfl,rfl⟩,λb z=>xX z (V b),I.bs,yU I.ok.bsz I.sz,λb _ _=>V b,λb z=>xX z (V b),I.stack,I.stkFree⟩,
  rfl,I.bare,Un.kept keep,⟨_,hn,λj y w e1 e2 _=>?_⟩,λy c e=>?_,I.hok.fresh (zO _),λy c e=>I.freeC y c (G y c e),λp hp=>?_,I.hok.kept keep,?_,I.hdh⟩
 .have W:scope.names.lookup y=some .cell∨scope.names.lookup y=some .free:=W;rcases W with W | W
  .exact xX rfl (S.nocell _ (PySem.mem_of_lookup W))
  .exact O _ (PySem.mem_of_lookup W) rfl
 .cases j with
  | zero =>
   have e1:x=y:=by simpa[Cx.lam] using e1
   subst e1;have e2:v=w:=by simpa using e2
   subst e2;refine⟨u,rv,.inl ⟨S.loc,?_⟩⟩;simp
  | succ j =>
   have e1:N[j]?=some y:=by simpa[Cx.lam] using e1
   have e2:(capσ cap σ)[j]?=some (some w):=by simpa using e2
   unfold capσ at e2;rw[zM] at e2;cases ec:cap[j]? with
   | none=>rw[ec] at e2;cases e2
   | some cc =>
    rw[ec] at e2;cases cc with
    | none=>cases e2
    | some i =>
     obtain⟨a,b,d⟩:=S.caps.get ec e1;have e3:σ[i]?=some (some w):=by
      cases es:σ[i]? with
      | none=>simp[es] at e2
      | some v'=>simp[es] at e2;rw[e2]
     obtain⟨m0,ad,ac⟩:=I.loc;obtain⟨u',r,l⟩:=ac i y w a e3 (.inr (.inl b));refine⟨u',r,?_⟩;rcases l with ⟨k,_⟩ | ⟨_,c2,aa,z⟩
     .have k:X.env.scope.names.lookup y=some .local:=k;rw[b] at k;cases k
     .obtain⟨c',Z⟩:=O (y,.free) (PySem.mem_of_lookup d) rfl;have e5:=G y c' Z;rw[aa] at e5;cases e5;refine .inr ⟨.inr d,c2,Z,?_⟩;obtain⟨o,ho,hd⟩:=z;exact⟨o,keep _ _ ho,hd⟩
 .obtain⟨v,o,ho,hd⟩:=I.cell y c (G y c e);exact⟨v,o,keep _ _ ho,hd⟩
 .have hp:p∈X.pn++b8++[]:=hp;rw[wC] at hp;obtain⟨a,b,c,d,e⟩:=I.pin p hp;refine⟨keep _ _ a,b,zX (zQ a),λhf=>?_,e⟩;rcases yF.mp (I.stkSub _ hf) with z | z
  .exact c z
  .exact d z
 .show(some v::capσ cap σ).length=(x::N).length;unfold capσ;rw[xF,zK,S.caps.length];rfl
theorem PB{G:Arguments}{Q:V->Prop}(I:Inv X b8 σ H s)(hX:X.env.scope=outer)(hN:X.N=XN)(S:Nd XN outer scope x N cap)(L:TJ X H q G body scope qual)(aa:X.A.depth<recursionLimit)(rv:RelV v u)(hb:∀cl L' c s₀ H₀ b8,PE (X.lam (x::N) scope qual cl L' q c s₀ H₀ b8) body te)(Z:∀cl pm c O,bindArgs (kla_fn "<lambda>" qual G body scope cl pm (.ref c) O) ⟨[u],[]⟩=pure [(x,u)])(h:te (some v::capσ cap σ) H λr H'=>H'=H/\Q r):
  wpAny (model X.prog X.w) X.A.in1.in1 (call (.ref q) [u]) (λr s'=>∃y,RelV y r/\Q y/\Inv X b8 σ H s') (λ_ _=>False) s:=by
 obtain⟨cl,c,pm,O,hq,hc,ac,ae⟩:=L.ex;have gq:s.heap.get? q=some (kla_obj "<lambda>" qual G body scope cl pm c O):=(show ObjOk X.prog X.w H s.heap q (.ext _) from I.hok q _ hq).1
 have gc:s.heap.CodeRec (.ref c) qual:=(show ObjOk X.prog X.w H s.heap c (.ext _) from I.hok c _ hc).1
 refine wpAny_call (PySem.W.kla_callFunE aa gq rfl S.co S.gen rfl gc ?_);rw[Z];refine zB (wpAny_newFunctionEnv S.nocell (λy hy=>?_) (λh₁ af ad=>⟨I.nolimit.fresh _ ad,?_⟩) S.kind)
 .have:y=(x,u):=by simpa using hy
  subst this;exact S.loc
 show codeAny _ _ (.expr body (envX qual scope s.heap.objs.size q (.ref c) cl)) _ _;have ah:∀b o,s.heap.get? b=some o->h₁.get? b=some o:=λb o e=>ad.extBut b o (zX (zQ e)) (zL _ e);have I1:=KY (q:=q) (c:=c) (qual:=qual) (tk:=s.toks+([(x,u)]:List (Str×Aa)).length) I hX hN S rv ac ae af ah;refine PySem.W.kla_codeExpr (zC (hb cl s.heap.objs.size c s H b8 [] _ _ H _ I1 h) (λr s' ag=>?_) λ_ _ z=>False.elim z);obtain⟨y,H',I',ry,e,qy⟩:=ag;subst e;exact⟨y,ry,qy,I.call' (ch:=[]) I'.os I'.base I'.hok I'.bare (λb z=>xX z (by simp))⟩
end
def Tl:Bool->Keyed->Array Keyed->Nat->Nat->Nat->StateT SortSt Sem (Option Nat):=sortPriv% PySem.Builtin.gallop
def MW:Array Keyed->Array Keyed->StateT SortSt Sem (Array Keyed):=sortPriv% PySem.Builtin.mergeLo
def MX:Array Keyed->Array Keyed->StateT SortSt Sem (Array Keyed):=sortPriv% PySem.Builtin.mergeHi
section
variable {prog:Ae}{w:Af}{A:Ag}{E:Aa->Ac->Prop}{s:Ac}
def IntK (p:Keyed):Prop:=∃n t,p.1 = .int n t
def IntA (a:Array Keyed):Prop:=∀i (h:i<a.size),IntK a[i]
theorem VD{p q:Keyed}{Q:Option Bool->SortSt->Prop}(V:kindOf st=oneType')(O:IntK p)(G:IntK q)(h:∀b,Q (some b) st):
  wpS (model prog w) A E s (lt' p q) Q st:=by
 obtain⟨n,t,O⟩:=O;obtain⟨m,u,G⟩:=G;rw[lt'_eq];refine zH (wpS_get ?_);rw[V,keyLt'_oneType,O,G];refine zH (wpS_lift (wpAny_attempt (oneLt_int ⟨rfl,?_⟩)));exact zI (h _)
theorem Zv{G:Array Keyed}{Q:Keyed->SortSt->Prop}(hi:i<G.size)(h:Q G[i] st):wpS (model prog w) A E s (elem' G i) Q st:=by
 rw[elem'_eq,getElem?_pos G i hi];exact zI h
theorem Ux{O:Array Keyed}{Q:Option Bool->SortSt->Prop}(W:kindOf st=oneType')(G:IntK key)(V:IntA O)(hi:i<O.size)(h:∀b,Q (some b) st):
  wpS (model prog w) A E s (elem' O i >>= λx=>if left=true then lt' x key else lt' key x >>= λr=>pure (Option.map (λx=>!x) r)) Q st:=by
 refine zH (Zv hi ?_);cases left with
 | true=>exact VD W (V i hi) G h
 | false=>exact zH (VD W G (V i hi) λb=>zI (h _))
theorem Jj{ac:Array Keyed}{base n G:Nat}{Q:Option Nat->SortSt->Prop}(hk:kindOf st=oneType')(ad:IntK key)(hA:IntA ac)(hb:base+n<=ac.size)(hh:G<n)(h:∀k,k<=n->Q (some k) st):
  wpS (model prog w) A E s (Tl left key ac base n G) Q st:=by
 unfold Tl;have ae:∀lo hi,hi<=n->∀(f:Nat->Option (Option Nat)×Nat×Nat->StateT SortSt Sem (ForInStep (Option (Option Nat)×Nat×Nat))) (g:Option (Option Nat)×Nat×Nat->StateT SortSt Sem (Option Nat)),
   (∀x lo hi (R:ForInStep (Option (Option Nat)×Nat×Nat)->SortSt->Prop),hi<=n->(∀Z V,V<=n->R (.done (none,Z,V)) st/\R (.yield (none,Z,V)) st)->wpS (model prog w) A E s (f x (none,lo,hi)) R st)->(∀lo hi,g (none,lo,hi)=pure (some hi)) ->
   wpS (model prog w) A E s (forIn [0:n] (none,lo,hi) f >>= g) Q st:=by
  intro lo hi aa f g hf hg;refine zH (wpS_mono (zJ (I:=λ_ c O=>O=st/\∃lo hi,c=(none,lo,hi)/\hi<=n) (Q:=λc O=>O=st/\∃lo hi,c=(none,lo,hi)/\hi<=n) ?_ (λ_ _ z=>z) ⟨rfl,lo,hi,rfl,aa⟩) ?_)
  .rintro x c O _ _ ⟨rfl,lo,hi,rfl,aa⟩;exact hf x lo hi _ aa λZ V z=>⟨⟨rfl,Z,V,rfl,z⟩,⟨rfl,Z,V,rfl,z⟩⟩
  .rintro c O ⟨rfl,lo,hi,rfl,aa⟩;rw[hg];exact zI (h _ aa)
 have af:∀lo hi (R:ForInStep (Option (Option Nat)×Nat×Nat)->SortSt->Prop),hi<=n->(∀Z V,V<=n->R (.done (none,Z,V)) st/\R (.yield (none,Z,V)) st) ->
   wpS (model prog w) A E s (if lo>=hi then pure (ForInStep.done (none,lo,hi)) else(elem' ac (base+(lo+(hi-lo) / 2)) >>= λx=>if left=true then lt' x key else lt' key x >>= λr=>pure (Option.map (λx=>!x) r)) >>= λx=>match x with
    | some ag=>if ag=true then pure (ForInStep.yield (none,lo+(hi-lo) / 2+1,hi)) else pure (ForInStep.yield (none,lo,lo+(hi-lo) / 2))
    | x=>pure (ForInStep.done (some none,lo,hi))) R st:=by
  intro lo hi R aa hR;by_cases W:lo>=hi
  .rw[xY W];exact zI (hR _ _ aa).1
  .rw[xZ W];refine zH (Ux hk ad hA (by lia) λb=>?_)
   cases b with
   | true=>exact zI (hR _ _ aa).2
   | false=>exact zI (hR _ _ (by lia)).2
 refine zH (Ux hk ad hA (show base+G<ac.size by lia) λb=>?_)
 cases b with
 | true =>
  refine zH (wpS_mono (zJ (I:=λ_ c O=>O=st/\∃l o,c=(none,l,o)) (Q:=λc O=>O=st/\∃l o,c=(none,l,o)) ?_ (λ_ _ z=>z) ⟨rfl,0,1,rfl⟩) ?_)
  .rintro x c O _ _ ⟨rfl,l,o,rfl⟩;show wpS _ _ _ _ (if o>=n-G then _ else _) _ _;by_cases W:o>=n-G
   .rw[xY W];exact zI ⟨rfl,l,o,rfl⟩
   .rw[xZ W];refine zH (Ux hk ad hA (show base+(G+o)<ac.size by lia) λb=>?_)
    cases b with
    | true=>exact zI ⟨rfl,_,_,rfl⟩
    | false=>exact zI ⟨rfl,_,_,rfl⟩
  .rintro c O ⟨rfl,l,o,rfl⟩;exact ae _ _ (show G+min o (n-G)<=n by lia) _ _ (λx lo hi R=>af lo hi R) λ_ _=>rfl
 | false =>
  refine zH (wpS_mono (zJ (I:=λ_ c O=>O=st/\∃l o,c=(none,l,o)) (Q:=λc O=>O=st/\∃l o,c=(none,l,o)) ?_ (λ_ _ z=>z) ⟨rfl,0,1,rfl⟩) ?_)
  .rintro x c O _ _ ⟨rfl,l,o,rfl⟩;show wpS _ _ _ _ (if o>=G+1 then _ else _) _ _;by_cases W:o>=G+1
   .rw[xY W];exact zI ⟨rfl,l,o,rfl⟩
   .rw[xZ W];refine zH (Ux hk ad hA (show base+(G-o)<ac.size by lia) λb=>?_)
    cases b with
    | true=>exact zI ⟨rfl,_,_,rfl⟩
    | false=>exact zI ⟨rfl,_,_,rfl⟩
  .rintro c O ⟨rfl,l,o,rfl⟩;exact ae _ _ (show G-l<=n by lia) _ _ (λx lo hi R=>af lo hi R) λ_ _=>rfl
abbrev setG(st:SortSt)(g:Nat):SortSt:=SortSt.mk' (kindOf st) (arrOf st) (pendingOf st) g (failedOf st)
structure MLo(a b out:Array Keyed)(ia ib:Nat):Prop where
 la:ia+1<a.size
 lb:ib<b.size
 pm:out.toList.Perm (a.toList.take ia++b.toList.take ib)
theorem merged{a:Array Keyed}(pm:out.toList.Perm (a.toList.take ia++b.toList.take ib)):(out++a.extract ia++b.extract ib).Perm (a++b)/\(out++b.extract ib++a.extract ia).Perm (a++b):=by
 have e1:(a.extract ia).toList=a.toList.drop ia:=by simp;exact xP (by simp)
 have e2:(b.extract ib).toList=b.toList.drop ib:=by simp;exact xP (by simp)
 have key:(out.toList++(a.toList.drop ia++b.toList.drop ib)).Perm (a.toList++b.toList):=by
  refine(pm.append_right _).trans ?_;have h1:(a.toList.take ia++a.toList.drop ia)=a.toList:=xI _ _;have h2:(b.toList.take ib++b.toList.drop ib)=b.toList:=xI _ _
  have:(a.toList.take ia++b.toList.take ib++(a.toList.drop ia++b.toList.drop ib)).Perm (a.toList.take ia++a.toList.drop ia++(b.toList.take ib++b.toList.drop ib)):=by
   simp only[yX];refine List.Perm.append_left _ ?_;rw[<-yX,<-yX];exact List.Perm.append_right _ wD
  rwa[h1,h2] at this
 constructor
 .rw[yZ,yP,yP,yP,e1,e2,yX];exact key
 .rw[yZ,yP,yP,yP,e1,e2,yX];exact(List.Perm.append_left _ wD).trans key
theorem pm_a{a:Array Keyed}(h:ia+k<=a.size)(pm:out.toList.Perm (a.toList.take ia++b.toList.take ib)):(out++a.extract ia (ia+k)).toList.Perm (a.toList.take (ia+k)++b.toList.take ib):=by
 have e1:(a.extract ia (ia+k)).toList=(a.toList.drop ia).take k:=by simp
 rw[yP,e1,qE];refine(pm.append_right _).trans ?_;rw[yX,yX];exact List.Perm.append_left _ wD
theorem pm_b{a:Array Keyed}(h:ib+k<=b.size)(pm:out.toList.Perm (a.toList.take ia++b.toList.take ib)):(out++b.extract ib (ib+k)).toList.Perm (a.toList.take ia++b.toList.take (ib+k)):=by
 have e1:(b.extract ib (ib+k)).toList=(b.toList.drop ib).take k:=by simp
 rw[yP,e1,qE,<-yX];exact pm.append_right _
theorem Ot{a:Array Keyed}(h:ia<a.size)(pm:out.toList.Perm (a.toList.take ia++b.toList.take ib)):(out.push a[ia]).toList.Perm (a.toList.take (ia+1)++b.toList.take ib):=by
 have:=pm_a (k:=1) (by lia) pm
 have e:a.extract ia (ia+1) = #[a[ia]]:=by
  apply uX;simp;rw[xH (by simpa using h)];simp
 rw[e] at this;rwa[vQ]
theorem LK{a:Array Keyed}(h:ib<b.size)(pm:out.toList.Perm (a.toList.take ia++b.toList.take ib)):(out.push b[ib]).toList.Perm (a.toList.take ia++b.toList.take (ib+1)):=by
 have:=pm_b (k:=1) (by lia) pm
 have e:b.extract ib (ib+1) = #[b[ib]]:=by
  apply uX;simp;rw[xH (by simpa using h)];simp
 rw[e] at this;rwa[vQ]
def WY(a b:Array Keyed){β:Type}(c:Option (Array Keyed)×β):Prop:=∃o,c.1=some o/\o.Perm (a++b)
theorem VC{g:Nat}{Q:Unit->SortSt->Prop}(h:Q () (setG st g)):wpS (model prog w) A E s ((sortPriv% PySem.Builtin.setMinGallop:Nat->StateT SortSt Sem Unit) g) Q st:=by
 exact wpS_modify h
theorem M6{a:Array Keyed}{Q:Array Keyed->SortSt->Prop}(hk:kindOf st=oneType')(ha:IntA a)(hb:IntA b)(ao:0<a.size)(aj:0<b.size)(h:∀g o,o.Perm (a++b)->Q o (setG st g)):
  wpS (model prog w) A E s (MW a b) Q st:=by
 unfold MW;refine zH (wpS_lift (wpAny_rule ⟨rfl,?_⟩));refine zH (Zv aj ?_);have pm0:(#[b[0]]:Array Keyed).toList.Perm (a.toList.take 0++b.toList.take 1):=LK (out:=#[]) aj (by simp)
 show wpS _ _ _ _ (if(1==b.size)=true then _ else _) _ _;by_cases h1:1=b.size
 .rw[xY (by simpa using h1)]
  exact zI (h (gallopOf st) _ (merged pm0).1)
 rw[xZ (by simpa using h1)]
 by_cases h2:0+1=a.size
 .rw[xY (by simpa using h2)]
  exact zI (h (gallopOf st) _ (merged pm0).2)
 rw[xZ (by simpa using h2)]
 refine zH (wpS_get ?_);refine zH (wpS_mono (zJ (I:=λx c V=>(∃g,V=setG st g)/\∃out ia ib mg,c=(none,out,ia,ib,mg)/\MLo a b out ia ib/\x<=ia+ib) (Q:=λc V=>(∃g,V=setG st g)/\WY a b c) ?step ?fin
  ⟨⟨gallopOf st,rfl⟩,_,0,1,_,rfl,⟨by lia,by lia,pm0⟩,by lia⟩) ?post)
 case fin =>
  rintro c V ⟨_,out,ia,ib,mg,rfl,hM,hx⟩
  have:=hM.la
  have:=hM.lb
  lia
 case post =>
  rintro c V ⟨⟨g,rfl⟩,o,ho,hp⟩;obtain⟨r,c⟩:=c;obtain rfl:r=some o:=ho;exact zI (h g o hp)
 case step =>
  rintro x c V _ hx ⟨⟨g,rfl⟩,out,ia,ib,mg,rfl,hM,al⟩;refine zH (wpS_mono (zJ (I:=λy c V=>V=setG st g/\∃out G O ac bc,c=(none,out,G,O,ac,bc)/\MLo a b out G O/\ia+ib+y<=G+O) (Q:=λc V=>V=setG st g/\(WY a b c∨∃out G O ac bc,c=(none,out,G,O,ac,bc)/\MLo a b out G O/\ia+ib+1<=G+O)) ?step1 ?fin1
   ⟨rfl,_,ia,ib,_,_,rfl,hM,by lia⟩) ?post1)
  case fin1 =>
   rintro c V ⟨_,out,ia,ib,_,_,rfl,hM,hx⟩
   have:=hM.la
   have:=hM.lb
   lia
  case step1 =>
   rintro y c V _ hy ⟨rfl,out,G,O,ac,bc,rfl,hM,al⟩;have af:=hM.la;have aa:=hM.lb;refine zH (Zv aa (zH (Zv (show G<a.size by lia) (zH (VD hk (hb _ _) (ha _ _) λr=>?_)))))
   cases r with
   | true =>
    refine zH (Zv aa ?_);have pm:=LK aa hM.pm;show wpS _ _ _ _ (if(O+1==b.size)=true then _ else _) _ _;by_cases h3:O+1=b.size
    .rw[xY (by simpa using h3)]
     exact zI ⟨rfl,.inl ⟨_,rfl,(merged pm).1⟩⟩
    rw[xZ (by simpa using h3)]
    by_cases h4:bc+1>=mg
    .rw[xY h4];exact zI ⟨rfl,.inr ⟨_,G,O+1,_,_,rfl,⟨af,by lia,pm⟩,by lia⟩⟩
    .rw[xZ h4];exact zI ⟨rfl,_,G,O+1,_,_,rfl,⟨af,by lia,pm⟩,by lia⟩
   | false =>
    refine zH (Zv (show G<a.size by lia) ?_)
    have pm:=Ot (show G<a.size by lia) hM.pm
    show wpS _ _ _ _ (if(G+1+1==a.size)=true then _ else _) _ _;by_cases h3:G+1+1=a.size
    .rw[xY (by simpa using h3)]
     exact zI ⟨rfl,.inl ⟨_,rfl,(merged pm).2⟩⟩
    rw[xZ (by simpa using h3)]
    by_cases h4:ac+1>=mg
    .rw[xY h4];exact zI ⟨rfl,.inr ⟨_,G+1,O,_,_,rfl,⟨by lia,aa,pm⟩,by lia⟩⟩
    .rw[xZ h4];exact zI ⟨rfl,_,G+1,O,_,_,rfl,⟨by lia,aa,pm⟩,by lia⟩
  case post1 =>
   rintro c V ⟨rfl,(⟨o,ho,hp⟩ | ⟨out,G,O,ac,bc,rfl,hM,am⟩)⟩
   .obtain⟨r,c⟩:=c;obtain rfl:r=some o:=ho;exact zI ⟨⟨g,rfl⟩,o,rfl,hp⟩
   refine zH (wpS_lift (wpAny_rule ⟨rfl,?_⟩));refine zH (wpS_mono (zJ (I:=λy c V=>(∃g,V=setG st g)/\∃out Z W mg ac bc,c=(none,out,Z,W,mg,ac,bc)/\MLo a b out Z W/\G+O+y<=Z+W) (Q:=λc V=>(∃g,V=setG st g)/\(WY a b c∨∃out Z W mg ac bc,c=(none,out,Z,W,mg,ac,bc)/\MLo a b out Z W/\G+O<=Z+W)) ?step2 ?fin2
    ⟨⟨g,rfl⟩,_,G,O,_,_,_,rfl,hM,by lia⟩) ?post2)
   case fin2 =>
    rintro c V ⟨_,out,ia,ib,_,_,_,rfl,hM,hx⟩
    have:=hM.la
    have:=hM.lb
    lia
   case post2 =>
    rintro c V ⟨⟨g2,rfl⟩,(⟨o,ho,hp⟩ | ⟨out,Z,W,ad,ac,bc,rfl,hM,ah⟩)⟩
    .obtain⟨r,c⟩:=c;obtain rfl:r=some o:=ho;exact zI ⟨⟨g2,rfl⟩,o,rfl,hp⟩
    .exact zH (VC (zI ⟨⟨_,rfl⟩,_,Z,W,_,rfl,hM,by lia⟩))
   case step2 =>
    rintro y c V _ hy ⟨⟨g2,rfl⟩,out,Z,W,ad,ac,bc,rfl,hM,ah⟩;show wpS _ _ _ _ (if ad>1 then _ else _) _ _;have af:=hM.la;have aa:=hM.lb;by_cases hg:ad>1;rw[xY hg];clear hg;dsimp only;generalize ad-1=m3;revert m3;refine ?key
    rotate_left
    rw[xZ hg];clear hg;dsimp only;generalize ad=m3;revert m3;refine ?key
    case key =>
     intro m3;refine zH (VC ?_);refine zH (Zv aa ?_);refine zH (Jj hk (hb _ _) ha (show Z+(a.size-Z)<=a.size by lia) (show 0<a.size-Z by lia) λk ak=>?_)
     have ak:k<=a.size-Z:=ak;show wpS _ _ _ _ (if k>0 then _ else _) _ _;by_cases ae:k>0;rw[xY ae];have pm:=pm_a (show Z+k<=a.size by lia) hM.pm
     show wpS _ _ _ _ (if(Z+k+1==a.size)=true then _ else _) _ _;by_cases h5:Z+k+1=a.size
     .rw[xY (by simpa using h5)]
      exact zI ⟨⟨_,rfl⟩,.inl ⟨_,rfl,(merged pm).2⟩⟩
     rw[xZ (by simpa using h5)]
     by_cases h6:Z+k=a.size
     .rw[xY (by simpa using h6)]
      exact zI ⟨⟨_,rfl⟩,.inl ⟨_,rfl,(merged pm).1⟩⟩
     rw[xZ (by simpa using h6)]
     have f1:Z+k+1<a.size:=by lia
     have f2:G+O+y<=Z+k+W:=by lia
     clear ae h5 h6
     revert f2;revert f1;revert pm
     generalize out++a.extract Z (Z+k)=o2;generalize Z+k=j2
     revert j2;revert o2
     refine ?key2
     rotate_left
     rw[xZ ae];have pm:=hM.pm;have f1:=af;have f2:=ah;clear ae
     revert f2;revert f1;revert pm
     generalize out=o2;generalize Z=j2
     revert j2;revert o2
     refine ?key2
     case key2 =>
      intro o2 j2 pm f1 f2;refine zH (Zv aa ?_);have pm:=LK aa pm;show wpS _ _ _ _ (if(W+1==b.size)=true then _ else _) _ _;by_cases h7:W+1=b.size
      .rw[xY (by simpa using h7)]
       exact zI ⟨⟨_,rfl⟩,.inl ⟨_,rfl,(merged pm).1⟩⟩
      rw[xZ (by simpa using h7)]
      refine zH (Zv (show j2<a.size by lia) ?_)
      refine zH (Jj hk (ha _ _) hb (show W+1+(b.size-(W+1))<=b.size by lia) (show 0<b.size-(W+1) by lia) λk2 ai=>?_)
      have ai:k2<=b.size-(W+1):=ai;show wpS _ _ _ _ (if k2>0 then _ else _) _ _;by_cases ag:k2>0;rw[xY ag];have pm:=pm_b (show W+1+k2<=b.size by lia) pm
      show wpS _ _ _ _ (if(W+1+k2==b.size)=true then _ else _) _ _;by_cases h8:W+1+k2=b.size
      .rw[xY (by simpa using h8)]
       exact zI ⟨⟨_,rfl⟩,.inl ⟨_,rfl,(merged pm).1⟩⟩
      rw[xZ (by simpa using h8)]
      have f3:W+1+k2<b.size:=by lia
      have f4:G+O+y+1<=j2+(W+1+k2):=by lia
      clear ag h8
      revert f4;revert f3;revert pm
      generalize o2.push b[W]++b.extract (W+1) (W+1+k2)=o3;generalize W+1+k2=j3
      revert j3;revert o3
      refine ?key3
      rotate_left
      rw[xZ ag];have pm:=pm;have f3:W+1<b.size:=by lia
      have f4:G+O+y+1<=j2+(W+1):=by lia
      clear ag
      revert f4;revert f3;revert pm
      generalize o2.push b[W]=o3;generalize W+1=j3
      revert j3;revert o3
      refine ?key3
      case key3 =>
       intro o3 j3 pm f3 f4;refine zH (Zv (show j2<a.size by lia) ?_)
       have pm:=Ot (show j2<a.size by lia) pm
       show wpS _ _ _ _ (if(j2+1+1==a.size)=true then _ else _) _ _;by_cases h9:j2+1+1=a.size
       .rw[xY (by simpa using h9)]
        exact zI ⟨⟨_,rfl⟩,.inl ⟨_,rfl,(merged pm).2⟩⟩
       rw[xZ (by simpa using h9)]
       split
       .exact zI ⟨⟨_,rfl⟩,.inr ⟨_,j2+1,j3,_,_,_,rfl,⟨by lia,f3,pm⟩,by lia⟩⟩
       .exact zI ⟨⟨_,rfl⟩,_,j2+1,j3,_,_,_,rfl,⟨by lia,f3,pm⟩,by lia⟩
structure MHi(a b out:Array Keyed)(na nb:Nat):Prop where
 la:0<na
 ua:na<=a.size
 lb:1<nb
 ub:nb<=b.size
 pm:out.toList.Perm (a.toList.drop na++b.toList.drop nb)
theorem JF{a:Array Keyed}(O:na<=a.size)(G:nb<=b.size)(pm:out.toList.Perm (a.toList.drop na++b.toList.drop nb)):(a.extract 0 na++b.extract 0 nb++out.reverse).Perm (a++b)/\(b.extract 0 nb++a.extract 0 na++out.reverse).Perm (a++b):=by
 have e1:(a.extract 0 na).toList=a.toList.take na:=by simp
 have e2:(b.extract 0 nb).toList=b.toList.take nb:=by simp
 have key:(a.toList.take na++b.toList.take nb++out.toList.reverse).Perm (a.toList++b.toList):=by
  refine(List.Perm.append_left _ ((vM _).trans pm)).trans ?_;have h1:(a.toList.take na++a.toList.drop na)=a.toList:=xI _ _;have h2:(b.toList.take nb++b.toList.drop nb)=b.toList:=xI _ _
  have:(a.toList.take na++b.toList.take nb++(a.toList.drop na++b.toList.drop nb)).Perm (a.toList.take na++a.toList.drop na++(b.toList.take nb++b.toList.drop nb)):=by
   simp only[yX];refine List.Perm.append_left _ ?_;rw[<-yX,<-yX];exact List.Perm.append_right _ wD
  rwa[h1,h2] at this
 constructor
 .rw[yZ,yP,yP,yP,wU,e1,e2];exact key
 .rw[yZ,yP,yP,yP,wU,e1,e2];exact(List.Perm.append_right _ wD).trans key
theorem Vx{l:List Keyed}(h:i<=j):l.drop i=(l.drop i).take (j-i)++l.drop j:=by
 have:=xI (j-i) (l.drop i)
 rw[List.drop_drop,show i+(j-i)=j by lia] at this
 exact this.symm
theorem qm_a{a:Array Keyed}(h:k<=na)(G:na<=a.size)(pm:out.toList.Perm (a.toList.drop na++b.toList.drop nb)):(out++(a.extract k na).reverse).toList.Perm (a.toList.drop k++b.toList.drop nb):=by
 have e1:(a.extract k na).toList=(a.toList.drop k).take (na-k):=by simp
 rw[yP,wU,e1];have hs:=Vx (l:=a.toList) h;generalize (a.toList.drop k).take (na-k)=X at hs ⊢;rw[hs];refine(pm.append_right _).trans (wD.trans ?_);rw[yX];exact List.Perm.append_right _ (vM _)
theorem qm_b{a:Array Keyed}(h:k<=nb)(G:nb<=b.size)(pm:out.toList.Perm (a.toList.drop na++b.toList.drop nb)):(out++(b.extract k nb).reverse).toList.Perm (a.toList.drop na++b.toList.drop k):=by
 have e1:(b.extract k nb).toList=(b.toList.drop k).take (nb-k):=by simp
 rw[yP,wU,e1];have hs:=Vx (l:=b.toList) h;generalize (b.toList.drop k).take (nb-k)=X at hs ⊢;rw[hs];refine(pm.append_right _).trans ?_;rw[yX];refine List.Perm.append_left _ (wD.trans ?_);exact List.Perm.append_right _ (vM _)
theorem LF{a:Array Keyed}(h:k<a.size)(G:k+1=na)(pm:out.toList.Perm (a.toList.drop na++b.toList.drop nb)):(out.push a[k]).toList.Perm (a.toList.drop k++b.toList.drop nb):=by
 have:=qm_a (k:=k) (by lia) (by lia) pm
 have e:(a.extract k na).reverse = #[a[k]]:=by
  subst G;apply uX;simp;rw[xH (by simpa using h)];simp
 rw[e] at this;rwa[vQ]
theorem Os{a:Array Keyed}(h:k<b.size)(G:k+1=nb)(pm:out.toList.Perm (a.toList.drop na++b.toList.drop nb)):(out.push b[k]).toList.Perm (a.toList.drop na++b.toList.drop k):=by
 have:=qm_b (k:=k) (by lia) (by lia) pm
 have e:(b.extract k nb).reverse = #[b[k]]:=by
  subst G;apply uX;simp;rw[xH (by simpa using h)];simp
 rw[e] at this;rwa[vQ]
theorem M7{a:Array Keyed}{Q:Array Keyed->SortSt->Prop}(hk:kindOf st=oneType')(ha:IntA a)(hb:IntA b)(aq:0<a.size)(ar:0<b.size)(h:∀g o,o.Perm (a++b)->Q o (setG st g)):
  wpS (model prog w) A E s (MX a b) Q st:=by
 unfold MX;refine zH (wpS_lift (wpAny_rule ⟨rfl,?_⟩));refine zH (Zv (show a.size-1<a.size by lia) ?_)
 have pm0:(#[a[a.size-1]]:Array Keyed).toList.Perm (a.toList.drop (a.size-1)++b.toList.drop b.size):=LF (out:=#[]) (na:=a.size) (nb:=b.size) (by lia) (by lia) (by simp)
 show wpS _ _ _ _ (if(a.size-1==0)=true then _ else _) _ _;by_cases h1:a.size-1=0
 .rw[xY (by simpa using h1)]
  exact zI (h (gallopOf st) _ (JF (by lia) (by lia) pm0).1)
 rw[xZ (by simpa using h1)]
 by_cases h2:b.size=1
 .rw[xY (by simpa using h2)]
  exact zI (h (gallopOf st) _ (JF (by lia) (by lia) pm0).2)
 rw[xZ (by simpa using h2)]
 refine zH (wpS_get ?_);refine zH (wpS_mono (zJ (I:=λx c V=>(∃g,V=setG st g)/\∃out na nb mg,c=(none,na,nb,out,mg)/\MHi a b out na nb/\x+na+nb<=a.size+b.size) (Q:=λc V=>(∃g,V=setG st g)/\WY a b c) ?step ?fin
  ⟨⟨gallopOf st,rfl⟩,_,a.size-1,b.size,_,rfl,⟨by lia,by lia,by lia,by lia,pm0⟩,show 0+(a.size-1)+b.size<=a.size+b.size by lia⟩) ?post)
 case fin =>
  rintro c V ⟨_,out,ia,ib,mg,rfl,Z,hx⟩
  have:=Z.la
  have:=Z.lb
  lia
 case post =>
  rintro c V ⟨⟨g,rfl⟩,o,ho,hp⟩;obtain⟨r,c⟩:=c;obtain rfl:r=some o:=ho;exact zI (h g o hp)
 case step =>
  rintro x c V _ hx ⟨⟨g,rfl⟩,out,ia,ib,mg,rfl,Z,ao⟩;refine zH (wpS_mono (zJ (I:=λy c V=>V=setG st g/\∃out G O ac bc,c=(none,G,O,out,ac,bc)/\MHi a b out G O/\y+G+O<=ia+ib) (Q:=λc V=>V=setG st g/\(WY a b c∨∃out G O ac bc,c=(none,G,O,out,ac,bc)/\MHi a b out G O/\1+G+O<=ia+ib)) ?step1 ?fin1
   ⟨rfl,_,ia,ib,_,_,rfl,Z,show 0+ia+ib<=ia+ib by lia⟩) ?post1)
  case fin1 =>
   rintro c V ⟨_,out,ia,ib,_,_,rfl,Z,hx⟩
   have:=Z.la
   have:=Z.lb
   lia
  case step1 =>
   rintro y c V _ hy ⟨rfl,out,G,O,ac,bc,rfl,Z,ao⟩;have ae:=Z.la;have aj:=Z.lb;have ag:=Z.ua;have al:=Z.ub;refine zH (Zv (show O-1<b.size by lia) (zH (Zv (show G-1<a.size by lia) (zH (VD hk (hb _ _) (ha _ _) λr=>?_)))))
   cases r with
   | true =>
    refine zH (Zv (show G-1<a.size by lia) ?_)
    have pm:=LF (show G-1<a.size by lia) (show G-1+1=G by lia) Z.pm
    show wpS _ _ _ _ (if(G-1==0)=true then _ else _) _ _;by_cases h3:G-1=0
    .rw[xY (by simpa using h3)]
     exact zI ⟨rfl,.inl ⟨_,rfl,(JF (by lia) (by lia) pm).1⟩⟩
    rw[xZ (by simpa using h3)]
    by_cases h4:ac+1>=mg
    .rw[xY h4];exact zI ⟨rfl,.inr ⟨_,G-1,O,_,_,rfl,⟨by lia,by lia,aj,al,pm⟩,by lia⟩⟩
    .rw[xZ h4];exact zI ⟨rfl,_,G-1,O,_,_,rfl,⟨by lia,by lia,aj,al,pm⟩,by lia⟩
   | false =>
    refine zH (Zv (show O-1<b.size by lia) ?_)
    have pm:=Os (show O-1<b.size by lia) (show O-1+1=O by lia) Z.pm
    show wpS _ _ _ _ (if(O-1==1)=true then _ else _) _ _;by_cases h3:O-1=1
    .rw[xY (by simpa using h3)]
     exact zI ⟨rfl,.inl ⟨_,rfl,(JF (by lia) (by lia) pm).2⟩⟩
    rw[xZ (by simpa using h3)]
    by_cases h4:bc+1>=mg
    .rw[xY h4];exact zI ⟨rfl,.inr ⟨_,G,O-1,_,_,rfl,⟨ae,ag,by lia,by lia,pm⟩,by lia⟩⟩
    .rw[xZ h4];exact zI ⟨rfl,_,G,O-1,_,_,rfl,⟨ae,ag,by lia,by lia,pm⟩,by lia⟩
  case post1 =>
   rintro c V ⟨rfl,(⟨o,ho,hp⟩ | ⟨out,G,O,ac,bc,rfl,Z,ap⟩)⟩
   .obtain⟨r,c⟩:=c;obtain rfl:r=some o:=ho;exact zI ⟨⟨g,rfl⟩,o,rfl,hp⟩
   refine zH (wpS_lift (wpAny_rule ⟨rfl,?_⟩));refine zH (wpS_mono (zJ (I:=λy c V=>(∃g,V=setG st g)/\∃out ja W mg ac bc,c=(none,ja,W,out,mg,ac,bc)/\MHi a b out ja W/\y+ja+W<=G+O) (Q:=λc V=>(∃g,V=setG st g)/\(WY a b c∨∃out ja W mg ac bc,c=(none,ja,W,out,mg,ac,bc)/\MHi a b out ja W/\ja+W<=G+O)) ?step2 ?fin2
    ⟨⟨g,rfl⟩,_,G,O,_,_,_,rfl,Z,show 0+G+O<=G+O by lia⟩) ?post2)
   case fin2 =>
    rintro c V ⟨_,out,ia,ib,_,_,_,rfl,Z,hx⟩
    have:=Z.la
    have:=Z.lb
    lia
   case post2 =>
    rintro c V ⟨⟨g2,rfl⟩,(⟨o,ho,hp⟩ | ⟨out,ja,W,aa,ac,bc,rfl,Z,ah⟩)⟩
    .obtain⟨r,c⟩:=c;obtain rfl:r=some o:=ho;exact zI ⟨⟨g2,rfl⟩,o,rfl,hp⟩
    .exact zH (VC (zI ⟨⟨_,rfl⟩,_,ja,W,_,rfl,Z,by lia⟩))
   case step2 =>
    rintro y c V _ hy ⟨⟨g2,rfl⟩,out,ja,W,aa,ac,bc,rfl,Z,ah⟩;show wpS _ _ _ _ (if aa>1 then _ else _) _ _;have ae:=Z.la;have aj:=Z.lb;have ag:=Z.ua;have al:=Z.ub;by_cases hg:aa>1;rw[xY hg];clear hg;dsimp only;generalize aa-1=m3;revert m3;refine ?key
    rotate_left
    rw[xZ hg];clear hg;dsimp only;generalize aa=m3;revert m3;refine ?key
    case key =>
     intro m3;refine zH (VC ?_);refine zH (Zv (show W-1<b.size by lia) ?_)
     refine zH (Jj hk (hb _ _) ha (show 0+ja<=a.size by lia) (show ja-1<ja by lia) λk am=>?_)
     have am:k<=ja:=am;show wpS _ _ _ _ (if ja-k>0 then _ else _) _ _;by_cases ad:ja-k>0;rw[xY ad];have pm:=qm_a (show k<=ja by lia) (show ja<=a.size by lia) Z.pm
     show wpS _ _ _ _ (if(k==0)=true then _ else _) _ _;by_cases h6:k=0
     .rw[xY (by simpa using h6)]
      exact zI ⟨⟨_,rfl⟩,.inl ⟨_,rfl,(JF (by lia) (by lia) pm).1⟩⟩
     rw[xZ (by simpa using h6)]
     have f1:0<k/\k<=a.size:=by lia
     have f2:y+k+W<=G+O:=by lia
     clear ad h6
     revert f2;revert f1;revert pm
     generalize out++(a.extract k ja).reverse=o2;generalize ja-k=n1;generalize k=j2
     revert j2;revert n1;revert o2
     refine ?key2
     rotate_left
     rw[xZ ad];have pm:=Z.pm;have f1:0<ja/\ja<=a.size:=⟨ae,ag⟩;have f2:=ah;clear ad
     revert f2;revert f1;revert pm
     generalize out=o2;generalize ja-k=n1;generalize ja=j2
     revert j2;revert n1;revert o2
     refine ?key2
     case key2 =>
      intro o2 n1 j2 pm f1 f2;refine zH (Zv (show W-1<b.size by lia) ?_)
      have pm:=Os (show W-1<b.size by lia) (show W-1+1=W by lia) pm
      show wpS _ _ _ _ (if(W-1==1)=true then _ else _) _ _;by_cases h7:W-1=1
      .rw[xY (by simpa using h7)]
       exact zI ⟨⟨_,rfl⟩,.inl ⟨_,rfl,(JF (by lia) (by lia) pm).2⟩⟩
      rw[xZ (by simpa using h7)]
      refine zH (Zv (show j2-1<a.size by lia) ?_)
      refine zH (Jj hk (ha _ _) hb (show 0+(W-1)<=b.size by lia) (show W-1-1<W-1 by lia) λk2 ai=>?_)
      have ai:k2<=W-1:=ai;show wpS _ _ _ _ (if W-1-k2>0 then _ else _) _ _;by_cases af:W-1-k2>0;rw[xY af];have pm:=qm_b (show k2<=W-1 by lia) (show W-1<=b.size by lia) pm
      show wpS _ _ _ _ (if(k2==1)=true then _ else _) _ _;by_cases h8:k2=1
      .rw[xY (by simpa using h8)]
       exact zI ⟨⟨_,rfl⟩,.inl ⟨_,rfl,(JF (by lia) (by lia) pm).2⟩⟩
      rw[xZ (by simpa using h8)]
      by_cases ak:k2=0
      .rw[xY (by simpa using ak)]
       exact zI ⟨⟨_,rfl⟩,.inl ⟨_,rfl,(JF (by lia) (by lia) pm).1⟩⟩
      rw[xZ (by simpa using ak)]
      have f3:1<k2/\k2<=b.size:=by lia
      have f4:y+j2+k2<=G+O:=by lia
      clear af h8 ak
      revert f4;revert f3;revert pm
      generalize o2.push b[W-1]++(b.extract k2 (W-1)).reverse=o3;generalize W-1-k2=n2;generalize k2=j3
      revert j3;revert n2;revert o3
      refine ?key3
      rotate_left
      rw[xZ af];have pm:=pm;have f3:1<W-1/\W-1<=b.size:=by lia
      have f4:y+j2+(W-1)<=G+O:=by lia
      clear af
      revert f4;revert f3;revert pm
      generalize o2.push b[W-1]=o3;generalize W-1-k2=n2;generalize W-1=j3
      revert j3;revert n2;revert o3
      refine ?key3
      case key3 =>
       intro o3 n2 j3 pm f3 f4;refine zH (Zv (show j2-1<a.size by lia) ?_)
       have pm:=LF (show j2-1<a.size by lia) (show j2-1+1=j2 by lia) pm
       show wpS _ _ _ _ (if(j2-1==0)=true then _ else _) _ _;by_cases h9:j2-1=0
       .rw[xY (by simpa using h9)]
        exact zI ⟨⟨_,rfl⟩,.inl ⟨_,rfl,(JF (by lia) (by lia) pm).1⟩⟩
       rw[xZ (by simpa using h9)]
       split
       .exact zI ⟨⟨_,rfl⟩,.inr ⟨_,j2-1,j3,_,_,_,rfl,⟨by lia,by lia,f3.1,f3.2,pm⟩,by lia⟩⟩
       .exact zI ⟨⟨_,rfl⟩,_,j2-1,j3,_,_,_,rfl,⟨by lia,by lia,f3.1,f3.2,pm⟩,by lia⟩
theorem Kf{σ:Type}{M:Model}{st G:σ}{Q:PUnit->σ->Prop}(h:Q ⟨⟩ G):wpS M A E s (set G:StateT σ Sem PUnit) Q st:=by
 unfold wpS;rw[StateT.run_set];exact zB ⟨rfl,h⟩
theorem Mu:∀(L:List Keyed) (k at_:Nat) (a:Array Keyed),at_+k+L.length<=a.size ->
  ((L.zipIdx k).foldl (λa x=>match x with | (p,j)=>a.setIfInBounds (at_+j) p) a).toList=a.toList.take (at_+k)++L++a.toList.drop (at_+k+L.length)
 | [],k,at_,a,h=>by simp
 | x::L,k,at_,a,h=>by
  rw[List.zipIdx_cons,List.foldl_cons];have h':at_+(k+1)+L.length<=(a.setIfInBounds (at_+k) x).size:=by
   rw[Array.size_setIfInBounds]
   have:(x::L).length=L.length+1:=rfl
   lia
  refine(Mu L (k+1) at_ _ h').trans ?_;have G:(x::L).length=L.length+1:=rfl;have hi:at_+k<a.toList.length:=by rw[yD];lia
  rw[Array.toList_setIfInBounds];have e1:(a.toList.set (at_+k) x).take (at_+(k+1))=a.toList.take (at_+k)++[x]:=by
   rw[show at_+(k+1)=at_+k+1 by lia,xM,uI hi,List.take_set_of_le (zO _)];rfl
  have e2:(a.toList.set (at_+k) x).drop (at_+(k+1)+L.length)=a.toList.drop (at_+k+(x::L).length):=by
   rw[List.drop_set_of_lt (by lia)];congr 1;lia
  rw[e1,e2];simp
theorem LG{L:List Keyed}{at_ to:Nat}{a:Array Keyed}(h1:at_<=to)(h2:to<=a.size)(G:L.Perm ((a.toList.drop at_).take (to-at_))):
  ((L.zipIdx).foldl (λa x=>match x with | (p,j)=>a.setIfInBounds (at_+j) p) a).Perm a:=by
 have O:L.length=to-at_:=by rw[G.length_eq,yL,xE,yD];lia
 rw[yZ,Mu L 0 at_ a (by lia)]
 have e:a.toList=a.toList.take at_++((a.toList.drop at_).take (to-at_)++a.toList.drop to):=by
  rw[<-Vx h1,xI]
 rw[Nat.add_zero,show at_+L.length=to by lia,yX]
 refine List.Perm.trans ?_ (List.Perm.of_eq e.symm);exact List.Perm.append_left _ (List.Perm.append_right _ G)
def ISt (a0:Array Keyed)(p:Array (Nat×Nat×Nat))(st:SortSt):Prop:=(arrOf st).Perm a0/\kindOf st=oneType'/\failedOf st=none/\pendingOf st=p
theorem IntA.perm{a:Array Keyed}(h:IntA b)(p:a.Perm b):IntA a:=λi hi=>by
 have O:a[i]∈b.toList:=(yZ.mp p).mem_iff.mp (by simp)
 obtain⟨j,G,e⟩:=List.getElem_of_mem O;rw[<-e];simpa using h j (by simpa using G)
theorem IntA.ext{a:Array Keyed}(h:IntA a)(i j:Nat):IntA (a.extract i j):=λk G=>by
 rw[Array.getElem_extract];exact h _ _
theorem M8{G V W z:Nat}{Q:Bool->SortSt->Prop}(hA:IntA a0)(hI:ISt a0 #[(0,G,W),(G,V,z)] st)(h1:0<G)(h2:0<V)(hn:G+V<=a0.size)(h:∀ae,ISt a0 #[(0,G+V,W)] ae->Q true ae):
  wpS (model prog w) A E s (mergeAt' 0) Q st:=by
 obtain⟨hp,hk,hf,aa⟩:=hI;unfold mergeAt';refine zH (wpS_get ?_);have e0:(pendingOf st)[0]?=some (0,G,W):=by rw[aa];rfl
 have e1:(pendingOf st)[0+1]?=some (G,V,z):=by rw[aa];rfl
 have ag:(arrOf st).size=a0.size:=hp.size_eq;have O:IntA (arrOf st):=hA.perm hp;have af:((pendingOf st).setIfInBounds 0 (0,G+V,W)).eraseIdxIfInBounds (0+1) = #[(0,G+V,W)]:=by
  rw[aa];apply uX;simp[Array.eraseIdxIfInBounds]
 rw[e0,e1];show wpS _ _ _ _ (set (SortSt.mk' (kindOf st) (arrOf st) (((pendingOf st).setIfInBounds 0 (0,G+V,W)).eraseIdxIfInBounds (0+1)) (gallopOf st) (failedOf st)) >>= _) _ _;rw[af];refine zH (Kf ?_);have Z:kindOf (SortSt.mk' (kindOf st) (arrOf st) #[(0,G+V,W)] (gallopOf st) (failedOf st))=oneType':=hk;have ad:ISt a0 #[(0,G+V,W)] (SortSt.mk' (kindOf st) (arrOf st) #[(0,G+V,W)] (gallopOf st) (failedOf st)):=⟨hp,hk,hf,rfl⟩;refine zH (Zv (show G<(arrOf st).size by lia) ?_)
 refine zH (Jj Z (O _ _) O (show 0+G<=(arrOf st).size by lia) h1 λk ai=>?_)
 show wpS _ _ _ _ (if(G-k==0)=true then _ else _) _ _;by_cases h3:G-k=0
 .rw[xY (by simpa using h3)]
  exact zI (h _ ad)
 rw[xZ (by simpa using h3)]
 refine zH (Zv (show 0+k+(G-k)-1<(arrOf st).size by lia) ?_)
 refine zH (Jj Z (O _ _) O (show G+V<=(arrOf st).size by lia) (show V-1<V by lia) λm ah=>?_)
 show wpS _ _ _ _ (if(m==0)=true then _ else _) _ _;by_cases h4:m=0
 .rw[xY (by simpa using h4)]
  exact zI (h _ ad)
 rw[xZ (by simpa using h4)]
 have sx:((arrOf st).extract (0+k) G).size=G-k:=by rw[Array.size_extract];lia
 have sy:((arrOf st).extract G (G+m)).size=m:=by rw[Array.size_extract];lia
 have ac:∀g (o:Array Keyed),o.Perm ((arrOf st).extract (0+k) G++(arrOf st).extract G (G+m))->ISt a0 #[(0,G+V,W)] (SortSt.mk' (kindOf st) (o.toList.zipIdx.foldl (λa x=>match x with | (p,j)=>a.setIfInBounds (0+k+j) p) (arrOf st)) #[(0,G+V,W)] g (failedOf st)):=by
  intro g o ho;refine⟨(LG (L:=o.toList) (at_:=0+k) (to:=G+m) (by lia) (by lia) ?_).trans hp,hk,hf,rfl⟩
  refine(yZ.mp ho).trans (List.Perm.of_eq ?_);rw[yP];have x1:((arrOf st).extract (0+k) G).toList=((arrOf st).toList.drop (0+k)).take (G-(0+k)):=by simp
  have x2:((arrOf st).extract G (G+m)).toList=((arrOf st).toList.drop G).take m:=by simp
  rw[x1,x2,show G+m-(0+k)=(G-(0+k))+m by lia,qE,List.drop_drop,show 0+k+(G-(0+k))=G by lia]
 show wpS _ _ _ _ (if G-k<=m then _ else _) _ _;split
 .refine zH (M6 Z (O.ext _ _) (O.ext _ _) (by rw[sx];lia) (by rw[sy];lia) λg o ho=>?_)
  refine zH (wpS_modify (zH (wpS_get (zI ?_))))
  have:=h _ (ac g o ho)
  rw[show true=(failedOf st).isNone by rw[hf];rfl] at this
  exact this
 .refine zH (M7 Z (O.ext _ _) (O.ext _ _) (by rw[sx];lia) (by rw[sy];lia) λg o ho=>?_)
  refine zH (wpS_modify (zH (wpS_get (zI ?_))))
  have:=h _ (ac g o ho)
  rw[show true=(failedOf st).isNone by rw[hf];rfl] at this
  exact this
theorem Yh{p:Array (Nat×Nat×Nat)}{Q:Option Bool->SortSt->Prop}(W:IntA a0)(hI:ISt a0 p st)(hi:i<a0.size)(hj:j<a0.size)(h:∀b,Q (some b) st):
  wpS (model prog w) A E s (ltAt' i j) Q st:=by
 obtain⟨O,hk,hf,Z⟩:=hI;have V:(arrOf st).size=a0.size:=O.size_eq;have G:IntA (arrOf st):=W.perm O;rw[ltAt'_eq];refine zH (wpS_get ?_);exact zH (Zv (show i<(arrOf st).size by lia) (zH (Zv (show j<(arrOf st).size by lia) (VD hk (G _ _) (G _ _) h))))
theorem ISt.arr{xs:Array Keyed}{p:Array (Nat×Nat×Nat)}(G:ISt a0 p st)(h:xs.Perm (arrOf st)):ISt a0 p (setArr st xs):=⟨h.trans G.1,G.2.1,G.2.2.1,G.2.2.2⟩
theorem J5{p:Array (Nat×Nat×Nat)}{Q:Unit->SortSt->Prop}(O:ISt a0 p st)(h:∀G,ISt a0 p G->Q () G):
  wpS (model prog w) A E s (reverseSlice' i j) Q st:=by
 rw[reverseSlice'_eq];exact wpS_modify (h _ (O.arr (mirror_perm _ _ _ _)))
theorem Vj{p:Array (Nat×Nat×Nat)}{G:Nat}{Q:Option Nat->SortSt->Prop}(hA:IntA a0)(hI:ISt a0 p st)(hn:lo+G<=a0.size)(h1:1<=G)(h:∀m O,ISt a0 p O->1<=m->m<=G->Q (some m) O):
  wpS (model prog w) A E s (countRun' lo G) Q st:=by
 unfold countRun';refine zH (wpS_mono (zJ (I:=λx c O=>O=st/\c=(none,x)) (Q:=λc O=>O=st/\∃x,1<=x/\x<=G/\c=(none,x)) ?step ?fin ⟨rfl,rfl⟩) ?post)
 case fin =>
  rintro c O ⟨rfl,rfl⟩;exact⟨rfl,_,by lia,by lia,rfl⟩
 case step =>
  rintro x c O Z aa ⟨rfl,rfl⟩;refine zH (Yh hA hI (show lo+x<a0.size by lia) (show lo+x-1<a0.size by lia) λb=>?_)
  cases b with
  | true=>exact zI ⟨rfl,x,Z,by lia,rfl⟩
  | false=>exact zI ⟨rfl,rfl⟩
 case post =>
  rintro c O ⟨rfl,n,ah,ai,rfl⟩;show wpS _ _ _ _ (if(n==G)=true then _ else _) _ _;by_cases h2:n=G
  .rw[xY (by simpa using h2)]
   exact zI (h _ _ hI ah ai)
  rw[xZ (by simpa using h2)]
  show wpS _ _ _ _ (if n>1 then _ else _) _ _;split
  .refine zH (Yh hA hI (show lo<a0.size by lia) (show lo+n-1<a0.size by lia) λb=>?_)
   cases b with
   | true=>exact zI (h _ _ hI ah ai)
   | false =>
    refine zH (J5 hI λam aj=>?_);have hI:=aj;refine zH (wpS_lift (wpAny_rule ⟨rfl,?_⟩));refine zH (wpS_mono (zJ (a:=n+1) (b:=G) (I:=λx c O=>ISt a0 p O/\∃q,c=(none,x,q)) (Q:=λc O=>ISt a0 p O/\∃m q,n+1<=m/\m<=G/\c=(none,m,q)) ?_ ?_ ⟨hI,0,rfl⟩) ?_)
    .rintro x c ag Z aa ⟨V,q,rfl⟩;refine zH (Yh hA V (show lo+x<a0.size by lia) (show lo+x-1<a0.size by lia) λb=>?_)
     cases b with
     | true =>
      show wpS _ _ _ _ (if q>0 then _ else _) _ _;split
      .exact zH (J5 V λW ae=>zI ⟨ae,0,rfl⟩)
      .exact zI ⟨V,0,rfl⟩
     | false =>
      refine zH (Yh hA V (show lo+x-1<a0.size by lia) (show lo+x<a0.size by lia) λb=>?_)
      cases b with
      | true=>exact zI ⟨V,x,q,by lia,by lia,rfl⟩
      | false=>exact zI ⟨V,q+1,rfl⟩
    .rintro c ag ⟨V,q,rfl⟩;exact⟨V,_,q,by lia,by lia,rfl⟩
    .rintro c ag ⟨V,m,q,al,ak,rfl⟩;have af:∀W,ISt a0 p W->∀(f:Nat->Option (Option Nat)×Nat->StateT SortSt Sem (ForInStep (Option (Option Nat)×Nat))) (g:Option (Option Nat)×Nat->StateT SortSt Sem (Option Nat)),
       (∀x (R:ForInStep (Option (Option Nat)×Nat)->SortSt->Prop),m<=x->x<G->R (.done (none,x)) W->R (.yield (none,x+1)) W->wpS (model prog w) A E s (f x (none,x)) R W)->(∀x,g (none,x)=pure (some x)) ->
       wpS (model prog w) A E s (forIn [m:G] (none,m) f >>= g) Q W:=by
      intro W ae f g hf hg;refine zH (wpS_mono (zJ (a:=m) (b:=G) (I:=λx c O=>O=W/\c=(none,x)) (Q:=λc O=>O=W/\∃x,1<=x/\x<=G/\c=(none,x)) ?_ ?_ ⟨rfl,rfl⟩) ?_)
      .rintro x c ac Z aa ⟨rfl,rfl⟩;exact hf x _ Z aa ⟨rfl,x,by lia,by lia,rfl⟩ ⟨rfl,rfl⟩
      .rintro c ac ⟨rfl,rfl⟩;exact⟨rfl,_,by lia,by lia,rfl⟩
      .rintro c ac ⟨rfl,x,Z,aa,rfl⟩;rw[hg];exact zI (h _ _ ae Z aa)
     show wpS _ _ _ _ (if q>0 then _ else _) _ _;split
     .refine zH (J5 V λW ae=>zH (J5 ae λac ad=>?_));refine af ac ad _ _ (λx R Z aa r1 r2=>?_) λ_=>rfl;refine zH (Yh hA ad (show lo+x<a0.size by lia) (show lo+x-1<a0.size by lia) λb=>?_)
      cases b with
      | true=>exact zI r1
      | false=>exact zI r2
     .refine zH (J5 V λac ad=>?_);refine af ac ad _ _ (λx R Z aa r1 r2=>?_) λ_=>rfl;refine zH (Yh hA ad (show lo+x<a0.size by lia) (show lo+x-1<a0.size by lia) λb=>?_)
      cases b with
      | true=>exact zI r1
      | false=>exact zI r2
  .skip
   refine zH (wpS_lift (wpAny_rule ⟨rfl,?_⟩));refine zH (wpS_mono (zJ (a:=n+1) (b:=G) (I:=λx c O=>ISt a0 p O/\∃q,c=(none,x,q)) (Q:=λc O=>ISt a0 p O/\∃m q,n+1<=m/\m<=G/\c=(none,m,q)) ?_ ?_ ⟨hI,0,rfl⟩) ?_)
   .rintro x c ag Z aa ⟨V,q,rfl⟩;refine zH (Yh hA V (show lo+x<a0.size by lia) (show lo+x-1<a0.size by lia) λb=>?_)
    cases b with
    | true =>
     show wpS _ _ _ _ (if q>0 then _ else _) _ _;split
     .exact zH (J5 V λW ae=>zI ⟨ae,0,rfl⟩)
     .exact zI ⟨V,0,rfl⟩
    | false =>
     refine zH (Yh hA V (show lo+x-1<a0.size by lia) (show lo+x<a0.size by lia) λb=>?_)
     cases b with
     | true=>exact zI ⟨V,x,q,by lia,by lia,rfl⟩
     | false=>exact zI ⟨V,q+1,rfl⟩
   .rintro c ag ⟨V,q,rfl⟩;exact⟨V,_,q,by lia,by lia,rfl⟩
   .rintro c ag ⟨V,m,q,al,ak,rfl⟩;have af:∀W,ISt a0 p W->∀(f:Nat->Option (Option Nat)×Nat->StateT SortSt Sem (ForInStep (Option (Option Nat)×Nat))) (g:Option (Option Nat)×Nat->StateT SortSt Sem (Option Nat)),
      (∀x (R:ForInStep (Option (Option Nat)×Nat)->SortSt->Prop),m<=x->x<G->R (.done (none,x)) W->R (.yield (none,x+1)) W->wpS (model prog w) A E s (f x (none,x)) R W)->(∀x,g (none,x)=pure (some x)) ->
      wpS (model prog w) A E s (forIn [m:G] (none,m) f >>= g) Q W:=by
     intro W ae f g hf hg;refine zH (wpS_mono (zJ (a:=m) (b:=G) (I:=λx c O=>O=W/\c=(none,x)) (Q:=λc O=>O=W/\∃x,1<=x/\x<=G/\c=(none,x)) ?_ ?_ ⟨rfl,rfl⟩) ?_)
     .rintro x c ac Z aa ⟨rfl,rfl⟩;exact hf x _ Z aa ⟨rfl,x,by lia,by lia,rfl⟩ ⟨rfl,rfl⟩
     .rintro c ac ⟨rfl,rfl⟩;exact⟨rfl,_,by lia,by lia,rfl⟩
     .rintro c ac ⟨rfl,x,Z,aa,rfl⟩;rw[hg];exact zI (h _ _ ae Z aa)
    show wpS _ _ _ _ (if q>0 then _ else _) _ _;split
    .refine zH (J5 V λW ae=>zH (J5 ae λac ad=>?_));refine af ac ad _ _ (λx R Z aa r1 r2=>?_) λ_=>rfl;refine zH (Yh hA ad (show lo+x<a0.size by lia) (show lo+x-1<a0.size by lia) λb=>?_)
     cases b with
     | true=>exact zI r1
     | false=>exact zI r2
    .refine zH (J5 V λac ad=>?_);refine af ac ad _ _ (λx R Z aa r1 r2=>?_) λ_=>rfl;refine zH (Yh hA ad (show lo+x<a0.size by lia) (show lo+x-1<a0.size by lia) λb=>?_)
     cases b with
     | true=>exact zI r1
     | false=>exact zI r2
theorem M9{p:Array (Nat×Nat×Nat)}{n ok:Nat}{Q:Bool->SortSt->Prop}(hA:IntA a0)(W:ISt a0 p st)(hn:lo+n<=a0.size)(h:∀G,ISt a0 p G->Q true G):
  wpS (model prog w) A E s (binarySort' lo n ok) Q st:=by
 unfold binarySort';refine zH (wpS_mono (zJ (I:=λ_ c G=>c=(none,())/\ISt a0 p G) (Q:=λc G=>c=(none,())/\ISt a0 p G) ?_ (λ_ _ z=>z) ⟨rfl,W⟩) ?_)
 .rintro k c G aa Z ⟨rfl,V⟩;refine zH (wpS_mono (zJ (I:=λx c O=>O=G/\∃l r,c=(none,l,r)/\l<=k/\r<=k) (Q:=λc O=>O=G/\∃l r,c=(none,l,r)) ?_ (λ_ _ qy=>by obtain⟨z,l,r,e,_⟩:=qy;exact⟨z,l,r,e⟩) ⟨rfl,0,k,rfl,by lia,by lia⟩) ?_)
  .rintro x c O _ _ ⟨rfl,l,r,rfl,hl,hr⟩;show wpS _ _ _ _ (if l>=r then _ else _) _ _;split
   .exact zI ⟨rfl,l,r,rfl⟩
   .refine zH (Yh hA V (show lo+k<a0.size by lia) (show lo+(l+r) / 2<a0.size by lia) λb=>?_)
    cases b with
    | true=>exact zI ⟨rfl,l,(l+r) / 2,rfl,by lia,by lia⟩
    | false=>exact zI ⟨rfl,(l+r) / 2+1,r,rfl,by lia,by lia⟩
  .rintro c O ⟨rfl,l,r,rfl⟩;show wpS _ _ _ _ (moveDown' (lo+k) (lo+l) >>= _) _ _;rw[moveDown'_eq];exact zH (wpS_modify (zI ⟨rfl,V.arr (bubble_perm _ _ _)⟩))
 .rintro c G ⟨rfl,V⟩;exact zI (h _ V)
theorem NT{n:Nat}(h1:64<=n)(h2:n<128):minRun' n n 0=n / 2+n % 2:=by
 obtain⟨f,G⟩:∃f,n=f+2:=⟨n-2,by lia⟩
 have:minRun' (f+2) n 0=n / 2+n % 2:=by
  rw[minRun'_succ,xZ (by lia),minRun'_succ,xY (by lia)]
  have:max 0 (n % 2)=n % 2:=by lia
  rw[this]
 rwa[<-G] at this
def TwoR (a0:Array Keyed)(st:SortSt):Prop:=∃n1 n2 pw,0<n1/\0<n2/\n1+n2=a0.size/\ISt a0 #[(0,n1,pw),(n1,n2,0)] st
def OneR (a0:Array Keyed)(st:SortSt):Prop:=∃pw,ISt a0 #[(0,a0.size,pw)] st
theorem Vi{Q:Unit->SortSt->Prop}(hA:IntA a0)(hI:ISt a0 #[] st)(ai:64<=a0.size)(ah:a0.size<128)(h:∀O,(arrOf O).Perm a0->failedOf O=none->Q () O):
  wpS (model prog w) A E s sortRuns' Q st:=by
 rw[sortRuns'_eq];refine zH (wpS_get ?_);dsimp only;have aj:(arrOf st).size=a0.size:=hI.1.size_eq;simp only[aj,NT ai ah];generalize hM:a0.size / 2+a0.size % 2=M;refine zH (wpS_mono (zJ
  (I:=λx c O=>(x=0/\c=(none,0)/\ISt a0 #[] O)∨(x=1/\∃V,c=(none,V)/\0<V/\V<a0.size/\M<=V/\ISt a0 #[(0,V,0)] O)∨(1<=x/\c=(none,a0.size)/\(TwoR a0 O∨OneR a0 O)))
  (Q:=λc O=>c=(none,a0.size)/\(TwoR a0 O∨OneR a0 O)) ?step ?fin (.inl ⟨rfl,rfl,hI⟩)) ?post)
 case fin =>
  rintro c O (⟨hx,_,_⟩ | ⟨hx,_⟩ | ⟨_,hc,hD⟩)
  .lia
  .lia
  .exact⟨hc,hD⟩
 case step =>
  rintro x c O _ hx (⟨rfl,rfl,af⟩ | ⟨rfl,V,rfl,ag,ao,aq,af⟩ | ⟨ar,rfl,hD⟩)
  .dsimp only;rw[xZ (by lia)]
   simp only[Nat.sub_zero,uK];refine zH (Vj hA af (by lia) (by lia) λm ac Z am ak=>?_)
   dsimp only;have done:∀W n,0<n->n<=a0.size->M<=n->ISt a0 #[] W->ISt a0 #[(0,n,0)] (setPending W ((pendingOf W).push (0,n,0))):=λW n _ _ _ ae=>⟨ae.1,ae.2.1,ae.2.2.1,by show(pendingOf W).push _=_;rw[ae.2.2.2];rfl⟩
   by_cases ad:m<M
   .rw[xY ad];refine zH (wpS_lift (wpAny_rule ⟨rfl,?_⟩));refine zH (M9 hA Z (by lia) λW aa=>?_)
    simp only[Bool.not_true,xL,if_false];refine zH (wpS_get ?_);have hb:(pendingOf W).back?=none:=by rw[aa.2.2.2];rfl
    rw[hb];dsimp only;rw[show min a0.size M=M by lia]
    exact zH (wpS_modify (zI (.inr (.inl ⟨trivial,M,rfl,by lia,by lia,by lia,done _ _ (by lia) (by lia) (by lia) aa⟩))))
   .rw[xZ ad];refine zH (wpS_get ?_);have hb:(pendingOf ac).back?=none:=by rw[Z.2.2.2];rfl
    rw[hb];dsimp only;have hd:=done ac m (by lia) (by lia) (by lia) Z
    by_cases e:m=a0.size
    .subst e;exact zH (wpS_modify (zI (.inr (.inr ⟨zO _,rfl,.inr ⟨0,hd⟩⟩))))
    .exact zH (wpS_modify (zI (.inr (.inl ⟨trivial,m,rfl,by lia,by lia,by lia,hd⟩))))
  .dsimp only;rw[xZ (by lia)]
   refine zH (Vj hA af (by lia) (by lia) λm ac Z am ak=>?_)
   dsimp only;have ap:∀n,n<=a0.size-V->¬ n<M->n=a0.size-V:=λn _ _=>by lia
   by_cases ad:m<M
   .rw[xY ad];refine zH (wpS_lift (wpAny_rule ⟨rfl,?_⟩));refine zH (M9 hA Z (by lia) λW aa=>?_)
    simp only[Bool.not_true,xL,if_false];have hb:(pendingOf W).back?=some (0,V,0):=by rw[aa.2.2.2];rfl
    refine zH (wpS_get ?_);rw[hb];dsimp only;refine zH (wpS_mono (zJ (I:=λ_ c G=>G=W/\c=(none,())) (Q:=λc G=>G=W/\c=(none,())) ?_ (λ_ _ hh=>hh) ⟨rfl,rfl⟩) ?_)
    .rintro x c G _ _ ⟨rfl,rfl⟩;refine zH (wpS_get ?_);rw[xZ (by rw[aa.2.2.2];show ¬ (1>1);lia)]
     exact zI ⟨rfl,rfl⟩
    .rintro c G ⟨rfl,rfl⟩;dsimp only;refine zH (wpS_modify (zH (wpS_modify (zI (.inr (.inr ⟨by lia,by rw[show V+min (a0.size-V) M=a0.size by lia],.inl ⟨V,min (a0.size-V) M,power' a0.size (2*0+V) (2*0+V+V+min (a0.size-V) M) a0.size,ag,by lia,by lia,aa.1,aa.2.1,aa.2.2.1,?_⟩⟩))))))
     show((pendingOf G).modify ((pendingOf G).size-1) _).push (V,min (a0.size-V) M,0)=_;rw[aa.2.2.2];rfl
   .rw[xZ ad];have hb:(pendingOf ac).back?=some (0,V,0):=by rw[Z.2.2.2];rfl
    refine zH (wpS_get ?_);rw[hb];dsimp only;refine zH (wpS_mono (zJ (I:=λ_ c G=>G=ac/\c=(none,())) (Q:=λc G=>G=ac/\c=(none,())) ?_ (λ_ _ hh=>hh) ⟨rfl,rfl⟩) ?_)
    .rintro x c G _ _ ⟨rfl,rfl⟩;refine zH (wpS_get ?_);rw[xZ (by rw[Z.2.2.2];show ¬ (1>1);lia)]
     exact zI ⟨rfl,rfl⟩
    .rintro c G ⟨rfl,rfl⟩;dsimp only;refine zH (wpS_modify (zH (wpS_modify (zI (.inr (.inr ⟨by lia,by rw[show V+m=a0.size by lia],.inl ⟨V,m,power' a0.size (2*0+V) (2*0+V+V+m) a0.size,ag,by lia,by lia,Z.1,Z.2.1,Z.2.2.1,?_⟩⟩))))))
     show((pendingOf G).modify ((pendingOf G).size-1) _).push (V,m,0)=_;rw[Z.2.2.2];rfl
  .dsimp only;rw[xY (zO _)];exact zI ⟨rfl,hD⟩
 case post =>
  rintro c O ⟨rfl,hD⟩;dsimp only;refine zH (wpS_mono (zJ (I:=λx c G=>c=(none,())/\((x=0/\TwoR a0 G)∨OneR a0 G)) (Q:=λc G=>c=(none,())/\OneR a0 G) ?_ ?_ ⟨rfl,hD.imp (λz=>⟨rfl,z⟩) id⟩) ?_)
  .rintro x c G _ _ ⟨rfl,(⟨rfl,V,n2,pw,h1,h2,hn,hT⟩ | ⟨pw,hO⟩)⟩
   .refine zH (wpS_get ?_);rw[xZ (by rw[hT.2.2.2];show ¬ (2<=1);lia)]
    have al:(pendingOf G).size=2:=by rw[hT.2.2.2];rfl
    simp only[al];refine zH (M8 hA hT h1 h2 (by lia) λW h3=>?_)
    rw[hn] at h3;exact zI ⟨rfl,.inr ⟨pw,h3⟩⟩
   .refine zH (wpS_get ?_);rw[xY (by rw[hO.2.2.2];show 1<=1;lia)]
    exact zI ⟨rfl,pw,hO⟩
  .rintro c G ⟨hc,(⟨hx,_⟩ | hO)⟩
   .lia
   .exact⟨hc,hO⟩
  .rintro c G ⟨rfl,pw,hO⟩;exact zI (h _ hO.1 hO.2.2.1)
end
section
variable {prog:Ae}{w:Af}{A:Ag}{E:Aa->Ac->Prop}{s:Ac}
def kv (p:Keyed):Int:=numOf p.1
def Srt (l:List Keyed):Prop:=l.Pairwise λx y=>kv x<=kv y
def Below(l m:List Keyed):Prop:=∀x∈l,∀y∈m,kv x<=kv y
structure Ok(out l m:List Keyed):Prop where
 o:Srt out
 sl:Srt l
 sm:Srt m
 ol:Below out l
 om:Below out m
end
open PySem.W (kla_obj kla_fn CodeHd tabObj envX)
section
variable {prog:Ae}{w:Af}{A:Ag}{E:Aa->Ac->Prop}{s:Ac}
theorem La{b:Bool}{e:Nat}{P:PySem.Fin->Ac->Prop}(hk:s.heap.get? kS=some (seqObj "list" keys e))(ha:s.heap.get? a=some (seqObj "list" #[] e1))(Z:kS≠a)(hz:keys.size<=1000)(O:(arrOf st).size<=1000)(ac:failedOf st=none)(h:∀h' c,(∀x o,x≠kS->x≠a->s.heap.get? x=some o->h'.get? x=some o)->h'.get? a=some (seqObj "list" (if b then((arrOf st).map (·.2)).reverse else(arrOf st).map (·.2)) c)->P (.done (.ret .none)) { s with heap:=h' }):
  wpAny (model prog w) A (ksk_tail a b e1 (.ref kS) st) P E s:=by
 have V:(if b then((arrOf st).map (·.2)).reverse else(arrOf st).map (·.2)).size<=1000:=by
  cases b with
  | false=>simp only[xL,if_false,jP];exact O
  | true=>simp only[if_true,Array.size_reverse,jP];exact O
 have s1:=Heap.SameBut.update s.heap kS (Obj.mapSeq λ_=>(#[]:Array Aa));have G:(s.heap.update kS (Obj.mapSeq λ_=>(#[]:Array Aa))).get? a=some (seqObj "list" #[] e1):=(s1.2 a Z.symm).trans ha;have s2:=Heap.SameBut.update (s.heap.update kS (Obj.mapSeq λ_=>(#[]:Array Aa))) a (Obj.mapSeq λ_=>if b then((arrOf st).map (·.2)).reverse else(arrOf st).map (·.2));have key:∀out:Array Aa,∃W,((s.heap.update kS (Obj.mapSeq λ_=>(#[]:Array Aa))).update a (Obj.mapSeq λ_=>out)).get? a=some (seqObj "list" out W):=λout=>⟨_,get?_update_seq G λ_=>out⟩;obtain⟨W,aa⟩:=key (if b then((arrOf st).map (·.2)).reverse else(arrOf st).map (·.2));unfold ksk_tail
 try dsimp only
 refine zA (listUpdate_at hk rfl ?_ (by rw[sizeLine_eq];lia) (xD _))
 refine zA (wpAny_letGo ?_);refine zA (seqEpoch_at G rfl ?_);refine zA (listUpdate_at G rfl ?_ (xD _) (yU V (by rw[sizeLine_eq];lia)))
 rw[ac];simp only[bne_self_eq_false,xL,if_false];exact zB (h _ W (λx o h1 h2 q=>(s2.2 x h2).trans ((s1.2 x h1).trans q)) aa)
theorem Kj{b:Bool}{kz:List Int}{e:Nat}{P:PySem.Fin->Ac->Prop}(ac:s.heap.get? kS=some (seqObj "list" keys e))(ad:s.heap.get? a=some (seqObj "list" #[] e1))(ae:kS≠a)(hk:IntsAre keys.toList kz)(ah:kz.length=vs.length)(aa:vs.length<128)(h:∀h' out c,(∀x o,x≠kS->x≠a->s.heap.get? x=some o->h'.get? x=some o)->h'.get? a=some (seqObj "list" out c)->out.toList.Perm vs->P (.done (.ret .none)) { s with heap:=h' }):
  wpAny (model prog w) A (ksk_end a b vs.toArray e1 (.ref kS) keys) P E s:=by
 have W:keys.size=vs.length:=by
  have h1:=hk.length;rw[yD] at h1;lia
 have V:(keys.zip vs.toArray).size=vs.length:=by rw[Array.size_zip,W,zP,Nat.min_self]
 have step:∀t:Sem PySem.Fin,wpAny (model prog w) A t P E s->wpAny (model prog w) A (if b=true then(do let _ <- rule "list.sort.reverse";t) else t) P E s:=by
  intro t ht;split
  .exact zA (wpAny_rule ht)
  .exact ht
 have G:(if b=true then(keys.zip vs.toArray).reverse else keys.zip vs.toArray).Perm (keys.zip vs.toArray):=by
  cases b with
  | false=>exact Array.Perm.refl _
  | true=>exact yZ.mpr (by rw[xY rfl,wU];exact vM _)
 have ag:((keys.zip vs.toArray).map (·.2)).toList=vs:=by
  rw[vZ,Array.toList_zip];exact List.map_snd_zip (by show vs.toArray.size<=keys.size;rw[W,zP];exact zO _)
 have Z:∀(st:SortSt),(arrOf st).Perm (keys.zip vs.toArray)->failedOf st=none->wpAny (model prog w) A (ksk_tail a b e1 (.ref kS) st) P E s:=λst hp hf =>
  La ac ad ae (by lia) (by rw[hp.size_eq,V];lia) hf λh' c kp af=>h h' _ c kp af (by
   have p1:((arrOf st).map (·.2)).toList.Perm vs:=by
    have:=(yZ.mp hp).map Prod.snd
    rw[<-vZ,<-vZ,ag] at this;exact this
   cases b with
   | false=>exact p1
   | true=>rw[xY rfl,wU];exact(vM _).trans p1)
 unfold ksk_end
 try dsimp only
 refine step _ ?_;by_cases h2:vs.toArray.size<2
 .rw[xY h2,xY h2];refine zA (zB ?_);rw[StateT.run_pure];refine zA (zB ?_)
  try dsimp only
  exact Z (SortSt.mk' general' (if b=true then(keys.zip vs.toArray).reverse else keys.zip vs.toArray) #[] 7 none) G rfl
 .rw[xZ h2,xZ h2];rw[zP] at h2;rw[ksk_kind hk (by rw[W];lia)]
  refine zA (zB ?_);refine zA (zC (show wpS (model prog w) A E s sortRuns' (λ_ O=>(arrOf O).Perm (keys.zip vs.toArray)/\failedOf O=none) (SortSt.mk' oneType' (if b=true then(keys.zip vs.toArray).reverse else keys.zip vs.toArray) #[] 7 none) from ?_) ?_ λ_ _ e=>e)
  .have hi:=ksk_intKeys (vs:=vs) hk;by_cases h3:vs.length<64
   .exact wpS_sortRuns (a₀:=keys.zip vs.toArray) hi ⟨G,rfl,rfl,rfl⟩ (by rw[V];lia) (by rw[V];exact h3) λO a1 a2 a3=>⟨a1,a2⟩
   .exact Vi (a0:=keys.zip vs.toArray) (λi ai=>hi _ (by rw[<-qV];exact xC _)) ⟨G,rfl,rfl,rfl⟩ (by rw[V];lia) (by rw[V];exact aa) λO a1 a2=>⟨a1,a2⟩
  rintro⟨⟨⟩,O⟩ s' ⟨rfl,hp,hf⟩
  try dsimp only
  exact Z O hp hf
end
section
variable {X:Cx}{b8:List (Ab×Obj)}{σ:St}{H:Hp}{s:Ac}{A:Ag}{E:Aa->Ac->Prop}
theorem Inv.repin{pl G:List (Ab×Obj)}{k:Ab}(I:Inv X (b8++pl) σ H s)(f:FpOk X b8 H k)(keep:∀b o,b≠k->s.heap.get? b=some o->h'.get? b=some o)(W:∀p∈G,h'.get? p.1=some p.2/\FpOk X b8 H p.1/\∀v,p.2.data ≠ .cell v):Inv X (b8++G) σ H { s with heap:=h',toks:=t' }:=by
 have V:Inv X b8 σ H { s with heap:=h',toks:=t' }:=I.unpinned.turned keep f.1 f.2.1 f.2.2.2.1 f.2.2.2.2.1 f.2.2.2.2.2
 refine V.pins_of λp O=>?_;rcases yC.mp O with z | z
 .exact V.pin p (zY _ z)
 .obtain⟨a,b,c⟩:=W p z;exact⟨a,b.1,b.2.1,b.2.2.1,c⟩
theorem Lb{f:Aa}{b:Bool}{P:PySem.Fin->Ac->Prop}(I:Inv X (b8++[(kS,seqObj "list" #[] 0),(a,seqObj "list" #[] e1)]) σ H s)(aa:kS≠a)(fk:FpOk X b8 H kS)(fa:FpOk X b8 H a)(ad:vs.length<128)(ac:∀v∈vs,∀(pl:List (Ab×Obj)) (s':Ac),Inv X (b8++pl) σ H s'->wpAny (model X.prog X.w) A (call f [v]) (λr G=>(∃k t,r = .int k t)/\Inv X (b8++pl) σ H G) (λ_ _=>False) s')(h:∀s' out c,Inv X (b8++[(a,seqObj "list" out c)]) σ H s'->out.toList.Perm vs->P (.done (.ret .none)) s'):
  wpAny (model X.prog X.w) A (ksk_rest a f b vs.toArray e1 (.ref kS)) P E s:=by
 unfold ksk_rest;refine zA (wpAny_rule ?_)
 first
  | rw[List.forIn_toArray]
  | (rw[<-Array.forIn_toList];simp only[List.toList_toArray])
  | rw[<-Array.forIn_toList]
 refine zA (ksk_fold (λi s'=>∃O e Z,Inv X (b8++[(kS,seqObj "list" O e),(a,seqObj "list" #[] e1)]) σ H s'/\IntsAre O.toList Z/\Z.length=i) vs 0 s
  ⟨#[],0,[],I,by simpa using IntsAre.nil,rfl⟩ ?step ?done)
 case step =>
  rintro j x s' V ⟨O,e,Z,I',hk,hl⟩;simp only[uK] at hl ⊢;have hj:j<vs.length:=(zT.mp V).1;have hz:O.size<=vs.length:=by
   have h1:=hk.length;rw[yD] at h1;lia
  refine zA (wpAny_attempt (zC (ac x (yM V) _ s' I') (λv G he=>?_) λ_ _ hF=>hF.elim));obtain⟨⟨k,W,rfl⟩,I2⟩:=he
  try dsimp only
  have nk:=(I2.pin (kS,seqObj "list" O e) (zY _ (zY _ (.head _)))).1;have na:=(I2.pin (a,seqObj "list" #[] e1) (zY _ (zY _ (.tail _ (.head _))))).1;have s1:=Heap.SameBut.update G.heap kS (Obj.mapSeq (·.push (.int k W)));obtain⟨c2,ag⟩:∃c2,(G.heap.update kS (Obj.mapSeq (·.push (.int k W)))).get? kS=some (seqObj "list" (O.push (.int k W)) c2):=⟨_,get?_update_seq nk (·.push (.int k W))⟩;have ea:(O.push (Value.int k W)).toList=O.toList++[Value.int k W]:=by simp
  refine zA (listUpdate_at nk rfl ?_ (by rw[sizeLine_eq];lia) (yU (uM (Array.size_push ..)) (by rw[sizeLine_eq];lia)))
  refine zB ⟨rfl,O.push (.int k W),c2,Z++[k],I2.repin (t':=G.toks) fk (λb o hb q=>(s1.2 b hb).trans q) (λp hp=>?_),by rw[ea];exact ksk_snoc hk,by rw[zR,hl];rfl⟩
  rcases yF.mp hp with rfl | hp
  .exact⟨ag,fk,λv z=>by cases z⟩
  .have:p=(a,seqObj "list" #[] e1):=by simpa using hp
   subst this;exact⟨(s1.2 a aa.symm).trans na,fa,λv z=>by cases z⟩
 case done =>
  rintro s' ⟨O,e,Z,I',hk,hl⟩;have nk:=(I'.pin (kS,seqObj "list" O e) (zY _ (zY _ (.head _)))).1;have na:=(I'.pin (a,seqObj "list" #[] e1) (zY _ (zY _ (.tail _ (.head _))))).1
  try dsimp only
  refine zA (listItems_at nk rfl ?_);refine Kj nk na aa hk (by lia) ad λh' out c kp ae hp=>?_
  have I1:Inv X b8 σ H { s' with heap:=h' }:=I'.unpinned.turnedL (t':=s'.toks) (c9:=[kS,a]) (λx o V q=>kp x o (λz=>V (by simp[z])) (λz=>V (by simp[z])) q) λx V=>by
   rcases yF.mp V with rfl | V
   .exact fk
   .have:x=a:=by simpa using V
    subst this;exact fa
  refine h _ out c (I1.pins_of λp af=>?_) hp;rcases yC.mp af with z | z
  .exact I1.pin p (zY _ z)
  .have:p=(a,seqObj "list" out c):=by simpa using z
   subst this;exact⟨ae,fa.1,fa.2.1,fa.2.2.1,λv z=>by cases z⟩
theorem Np{f:Aa}{b:Bool}{Q:Aa->Ac->Prop}(I:Inv X b8 σ H s)(hq:SqL X.K H l (ns.map V.int))(ar:ns.length<128)(am:argsOk "sorted" ⟨[.ref l],kw⟩)(ak:∀x,argsOk "list.sort" ⟨[.ref x],kw⟩)(ht:∀x,Builtin.«list.sort» ⟨[.ref x],kw⟩=ksk_tree x f b)(ae:∀n t,n∈ns->∀(pl:List (Ab×Obj)) (s':Ac),Inv X (b8++pl) σ H s'->wpAny (model X.prog X.w) X.A.in1.in1 (call f [.int n t]) (λr ah=>(∃k t,r = .int k t)/\Inv X (b8++pl) σ H ah) (λ_ _=>False) s')(h:∀(D:Ab) (ms:List Int) s',ms.Perm ns->H D=none->Inv X b8 σ (upd H D (.lst (ms.map V.int))) s'->Q (.ref D) s'):
  wpAny (model X.prog X.w) X.A (call (.builtin "sorted") [.ref l] kw) Q E s:=by
 obtain⟨vs,r',ao,hz⟩:=I.list hq;have hi:IntsAre vs ns:=JX r';have hl:=ao.isList;have aq:=hi.length;refine call_function_entry_kw kind_sorted plain_sorted entry_sorted am ?_;unfold Builtin.«sorted»;refine zA (m:=checkCount "sorted" 1 1 _) (zB ?_);refine zA (collect_list hl ?_ (by rw[sizeLine_eq];lia))
 refine zA (wpAny_newList ?_ (by rw[sizeLine_eq];lia))
 have W:((s.heap.push (seqObj "list" #[] 0)).update s.heap.objs.size (Obj.mapSeq (·++vs.toArray))).objs.size=s.heap.objs.size+1:=by
  rw[uE,size_push']
 have O:(((s.heap.push (seqObj "list" #[] 0)).update s.heap.objs.size (Obj.mapSeq (·++vs.toArray))).push (seqObj "list" vs.toArray 0)).get? (s.heap.objs.size+1)=some (seqObj "list" vs.toArray 0):=by
  rw[<-W];exact zU _ rfl
 have keep:∀b o,s.heap.get? b=some o->(((s.heap.push (seqObj "list" #[] 0)).update s.heap.objs.size (Obj.mapSeq (·++vs.toArray))).push (seqObj "list" vs.toArray 0)).get? b=some o:=λb o q=>by
  have ac:b<s.heap.objs.size:=zQ q;rw[vX _ _ _ (by rw[W];exact zX (xK ac)),uU _ _ _ _ (zX ac),vX _ _ _ (zX ac)]
  exact q
 have Z:(((s.heap.push (seqObj "list" #[] 0)).update s.heap.objs.size (Obj.mapSeq (·++vs.toArray))).push (seqObj "list" vs.toArray 0)).objs.size=s.heap.objs.size+2:=by rw[size_push',W]
 show wpAny _ _ _ _ _ { s with heap:=((s.heap.push (seqObj "list" #[] 0)).update s.heap.objs.size (Obj.mapSeq (·++vs.toArray))).push (seqObj "list" vs.toArray 0) }
 rw[W];generalize ((s.heap.push (seqObj "list" #[] 0)).update s.heap.objs.size (Obj.mapSeq (·++vs.toArray))).push (seqObj "list" vs.toArray 0)=G at O keep Z ⊢;refine zA (zD (wpAny_call_entry_kw slot_list_sort ⟨_,O,rfl⟩ entry_list_sort ?body (ak _)))
 case body =>
  have ap:=ht (s.heap.objs.size+1);show wpAny (model X.prog X.w) X.A.in1.in1 (Builtin.«list.sort» ⟨[.ref (s.heap.objs.size+1)],kw⟩) _ _ _;rw[ap];have s1:=Heap.SameBut.update G (s.heap.objs.size+1) (Obj.mapSeq λ_=>(#[]:Array Aa));obtain⟨e1,ad⟩:∃e1,(G.update (s.heap.objs.size+1) (Obj.mapSeq λ_=>(#[]:Array Aa))).get? (s.heap.objs.size+1)=some (seqObj "list" #[] e1):=⟨_,get?_update_seq O λ_=>#[]⟩;unfold ksk_tree;refine zA (listItems_at O rfl ?_);refine zA (listUpdate_at O rfl ?_ (by rw[zP,sizeLine_eq];lia) (xD _))
  refine zA (seqEpoch_at ad rfl ?_);refine zA (wpAny_newTuple ?_ (by show vs.length<=_;rw[sizeLine_eq];lia))
  refine zA (wpAny_newList ?_ (xD _));refine zD ?_;have af:((G.update (s.heap.objs.size+1) (Obj.mapSeq λ_=>(#[]:Array Aa))).push (seqObj "tuple" vs.toArray 0)).objs.size=s.heap.objs.size+3:=by rw[size_push',uE,Z]
  have aa:∀b o,s.heap.get? b=some o->(((G.update (s.heap.objs.size+1) (Obj.mapSeq λ_=>(#[]:Array Aa))).push (seqObj "tuple" vs.toArray 0)).push (seqObj "list" #[] 0)).get? b=some o:=λb o q =>
   zL _ (zL _ ((s1.2 b (zX (xK (zQ q)))).trans (keep b o q)))
  have g1:(((G.update (s.heap.objs.size+1) (Obj.mapSeq λ_=>(#[]:Array Aa))).push (seqObj "tuple" vs.toArray 0)).push (seqObj "list" #[] 0)).get? (s.heap.objs.size+3)=some (seqObj "list" #[] 0):=by
   rw[<-af];exact zU _ rfl
  have g2:(((G.update (s.heap.objs.size+1) (Obj.mapSeq λ_=>(#[]:Array Aa))).push (seqObj "tuple" vs.toArray 0)).push (seqObj "list" #[] 0)).get? (s.heap.objs.size+1)=some (seqObj "list" #[] e1):=
   zL _ (zL _ ad)
  have fa:FpOk X b8 H (s.heap.objs.size+1):=I.fpOk (vL _) (I.hok.fresh (vL _));have fk:FpOk X b8 H (s.heap.objs.size+3):=I.fpOk (by lia) (I.hok.fresh (by lia))
  have e3:(Value.ref ((G.update (s.heap.objs.size+1) (Obj.mapSeq λ_=>(#[]:Array Aa))).push (seqObj "tuple" vs.toArray 0)).objs.size)=Value.ref (s.heap.objs.size+3):=by rw[af]
  show wpAny _ _ (ksk_rest (s.heap.objs.size+1) f b vs.toArray e1 (Value.ref ((G.update (s.heap.objs.size+1) (Obj.mapSeq λ_=>(#[]:Array Aa))).push (seqObj "tuple" vs.toArray 0)).objs.size)) _ _ _;rw[e3];have I1:Inv X b8 σ H { s with heap:=((G.update (s.heap.objs.size+1) (Obj.mapSeq λ_=>(#[]:Array Aa))).push (seqObj "tuple" vs.toArray 0)).push (seqObj "list" #[] 0) }:=I.kept (t':=s.toks) aa
  have I2:Inv X (b8++[(s.heap.objs.size+3,seqObj "list" #[] 0),(s.heap.objs.size+1,seqObj "list" #[] e1)]) σ H { s with heap:=((G.update (s.heap.objs.size+1) (Obj.mapSeq λ_=>(#[]:Array Aa))).push (seqObj "tuple" vs.toArray 0)).push (seqObj "list" #[] 0) }:=I1.pins_of λp al=>by
   rcases yC.mp al with z | z
   .exact I1.pin p (zY _ z)
   .rcases yF.mp z with rfl | z
    .exact⟨g1,fk.1,fk.2.1,fk.2.2.1,λv z=>by cases z⟩
    .have:p=(s.heap.objs.size+1,seqObj "list" #[] e1):=by simpa using z
     subst this;exact⟨g2,fa.1,fa.2.1,fa.2.2.1,λv z=>by cases z⟩
  refine Lb I2 (show s.heap.objs.size+3≠s.heap.objs.size+1 by lia) fk fa (by lia) (λv hv pl s' I'=>?_) λs' out c I' hp=>⟨_,rfl,?_⟩
  .obtain⟨n,t,rfl,hn⟩:∃n t,v = .int n t/\n∈ns:=by
    obtain⟨i,ai,e⟩:=xO.mp hv;obtain⟨t,ag⟩:=hi.get i (ns[i]'(by lia)) (by simp)
    rw[zN ai,e] at ag;exact⟨_,t,Option.some.inj ag,xC _⟩
   exact ae n t hn pl s' I'
  .have hI:IntsAre out.toList (out.toList.map numOf):=intsAre_map _ λv hv=>hi.all v (hp.mem_iff.mp hv);have aj:(out.toList.map numOf).Perm ns:=by
    have:=hp.map numOf
    rwa[hi.nums] at this
   have ga:=(I'.pin (s.heap.objs.size+1,seqObj "list" out c) (zY _ (zY _ (.head _)))).1;have I3:Inv X b8 σ (upd H (s.heap.objs.size+1) (.lst ((out.toList.map numOf).map V.int))) s' :=
    I'.unpinned.track fa.1 (by have:=I.sz;lia) fa.2.1 fa.2.2.2.2.1 fa.2.2.2.2.2 ⟨by rw[zK,zK];have:=hp.length_eq;rw[sizeLine_eq];lia,out.toList,c,V7 hI,by simpa using ga⟩
   exact zB ⟨_,rfl,h _ _ s' aj fa.1 I3⟩
end
section
variable {X:Cx}
def L6(X:Cx)(cap:List (Option Nat))(te:TE)(params:Arguments)(body:Ah)(scope:Aj)(qual:Str)(ta tk:TA)(more:List V):TE:=λσ H Q=>ta σ H λvs H1=>tk σ H1 λzs H2=>∃(l:Ab) (ns:List Int) (q:Ab),vs=[.ref l]/\zs = .ref q::more/\SqL X.K H2 l (ns.map V.int)/\ns.length<128/\TJ X H2 q params body scope qual /\
 (∀n∈ns,te (some (.int n)::capσ cap σ) H2 λr H'=>H'=H2/\∃k,r = .int k)/\∀(D:Ab) (ms:List Int),ms.Perm ns->H2 D=none->Q (.ref D) (upd H2 D (.lst (ms.map V.int)))
theorem Wl{G:Arguments}{b:Bool}(S:Nd XN outer scope x N cap)(hX:X.env.scope=outer)(hN:X.N=XN)(W:X.A.depth<recursionLimit)(hb:∀q cl L' c s₀ H₀ b8,PE (X.lam (x::N) scope qual cl L' q c s₀ H₀ b8) body te)(O:∀u cl pm c aa,bindArgs (kla_fn "<lambda>" qual G body scope cl pm (.ref c) aa) ⟨[u],[]⟩=pure [(x,u)])(I:Inv X b8 σ H s)(hq:SqL X.K H l (ns.map V.int))(Z:ns.length<128)(L:TJ X H q G body scope qual)(ad:argsOk "sorted" ⟨[.ref l],kw⟩)(ac:∀x,argsOk "list.sort" ⟨[.ref x],kw⟩)(ht:∀x,Builtin.«list.sort» ⟨[.ref x],kw⟩=ksk_tree x (.ref q) b)(ae:∀n∈ns,te (some (.int n)::capσ cap σ) H λr H'=>H'=H/\∃k,r = .int k)(h:∀(D:Ab) (ms:List Int),ms.Perm ns->H D=none->Q (.ref D) (upd H D (.lst (ms.map V.int)))):
  wpAny (model X.prog X.w) X.A (call (.builtin "sorted") [.ref l] kw) (EP X b8 σ Q) X.xe s:=by
 refine Np I hq Z ad ac ht (λn t hn pl s' I'=>?_) λD ms s' hp hD I'=>⟨.ref D,_,I',rfl,h D ms hp hD⟩;refine zC (PB (v:=.int n) I' hX hN S L W ⟨t,rfl⟩ (hb q) (O _) (ae n hn)) (λr ag af=>?_) λ_ _ z=>z;obtain⟨y,ry,⟨k,hk⟩,I2⟩:=af;subst hk;obtain⟨t2,rfl⟩:=(show ∃t2,r=Value.int k t2 from ry)
 exact⟨⟨k,t2,rfl⟩,I2⟩
def Ox:List Keyword->Option (Arguments×Ah×Aj)
 | ⟨_,.Lambda a b s _,_⟩::_=>some (a,b,s)
 | _=>none
theorem LS{G:Arguments}{tk:TA}{kws:List Keyword}(_:Ox kws=some (G,body,scope))(S:Nd XN outer scope x N cap)(W:X.A.depth<recursionLimit)(hb:∀q cl L' c s₀ H₀ b8,PE (X.lam (x::N) scope (X.env.qual++"<lambda>") cl L' q c s₀ H₀ b8) body te)(V:∀u cl pm c ac,bindArgs (kla_fn "<lambda>" (X.env.qual++"<lambda>") G body scope cl pm (.ref c) ac) ⟨[u],[]⟩=pure [(x,u)])(hg:Gl X "sorted")(hm:X.mg "sorted"=none)(ha:PA X [e] ta)(hk:PK X kws tk)(ad:(An pos (Am kws X.env)).filterMap (·.1)=[Str.ofString "key"]:=by rfl)(hX:X.env.scope=outer:=by rfl)(hN:X.N=XN:=by rfl)(he:Ao pos (zG [e] X.env)=(false,eval e X.env)::Ao pos (zG [] X.env):=by rfl)(O:(Ao pos (zG [e] X.env)).any (·.1)=false:=by rfl)(Z:(An pos (Am kws X.env)).all (·.1.isSome)=true:=by rfl)(ag:(An pos (Am kws X.env)).any (·.1.isNone)=false:=by rfl):
  PE X (.Call (.Name "sorted" p) [e] kws pos) (L6 X cap te G body scope (X.env.qual++"<lambda>") ta tk []):=by
 intro b8 s σ H Q I h;refine wpAny_Call_Name_kw (JW I hg hm boot_sorted (PyProof.Rows.callWith_kw (thn (ha pos b8 s σ H _ I h) λus s1 ai=>?_) he O Z ag));obtain⟨vs,H1,I1,r1,q1⟩:=ai;refine thn (hk pos b8 s1 σ H1 _ I1 q1) λws s2 af=>?_;obtain⟨zs,H2,I2,rz,l,ns,q,e1,e2,hq,aa,L,ah,hD⟩:=af;subst e1 e2;obtain⟨u,rfl,ru⟩:=JN r1;cases (show u = .ref l from ru)
 obtain⟨z,rfl,ae⟩:=JN rz;cases (show z = .ref q from ae)
 rw[ad];exact Wl (b:=false) S hX hN W hb V I2 hq aa L (ksk_s1 _ _) (λx=>ksk_l1 _ _) (λx=>ksk_t1 q x) ah hD
theorem LR{G:Arguments}{tk:TA}{kws:List Keyword}(_:Ox kws=some (G,body,scope))(S:Nd XN outer scope x N cap)(W:X.A.depth<recursionLimit)(hb:∀q cl L' c s₀ H₀ b8,PE (X.lam (x::N) scope (X.env.qual++"<lambda>") cl L' q c s₀ H₀ b8) body te)(V:∀u cl pm c ac,bindArgs (kla_fn "<lambda>" (X.env.qual++"<lambda>") G body scope cl pm (.ref c) ac) ⟨[u],[]⟩=pure [(x,u)])(hg:Gl X "sorted")(hm:X.mg "sorted"=none)(ha:PA X [e] ta)(hk:PK X kws tk)(ad:(An pos (Am kws X.env)).filterMap (·.1)=[Str.ofString "key",Str.ofString "reverse"]:=by rfl)(hX:X.env.scope=outer:=by rfl)(hN:X.N=XN:=by rfl)(he:Ao pos (zG [e] X.env)=(false,eval e X.env)::Ao pos (zG [] X.env):=by rfl)(O:(Ao pos (zG [e] X.env)).any (·.1)=false:=by rfl)(Z:(An pos (Am kws X.env)).all (·.1.isSome)=true:=by rfl)(ag:(An pos (Am kws X.env)).any (·.1.isNone)=false:=by rfl):
  PE X (.Call (.Name "sorted" p) [e] kws pos) (L6 X cap te G body scope (X.env.qual++"<lambda>") ta tk [.bl true]):=by
 intro b8 s σ H Q I h;refine wpAny_Call_Name_kw (JW I hg hm boot_sorted (PyProof.Rows.callWith_kw (thn (ha pos b8 s σ H _ I h) λus s1 ai=>?_) he O Z ag));obtain⟨vs,H1,I1,r1,q1⟩:=ai;refine thn (hk pos b8 s1 σ H1 _ I1 q1) λws s2 af=>?_;obtain⟨zs,H2,I2,rz,l,ns,q,e1,e2,hq,aa,L,ah,hD⟩:=af;subst e1 e2;obtain⟨u,rfl,ru⟩:=JN r1;cases (show u = .ref l from ru)
 obtain⟨z,y,rfl,ae,ry⟩:=RX rz;cases (show z = .ref q from ae)
 cases (show y = .bool true from ry)
 rw[ad];exact Wl (b:=true) S hX hN W hb V I2 hq aa L (ksk_s2 _ _ _) (λx=>ksk_l2 _ _ _) (λx=>ksk_t2 q x true) ah hD
end
open PySem.W (InstAt findIn specialIn takesIn mroIn clsIn findObj looks_find looks_findIn looks_mroIn KitX kitOne)
structure QY(K:Frag)(C:Ab):Prop where
 cls:∃cd,clsIn K C=some cd
 ga:findIn K (.ref C) "__getattribute__"=some (some (.builtin "BaseException.__getattribute__"))
 gr:findIn K (.ref C) "__getattr__"=some none
 cl:findIn K (.ref C) "__class__"=some (some (.builtin "object.__class__"))
 get:specialIn K (.builtin "object.__class__") "__get__"=some (some (.builtin "getset_descriptor.__get__"))
 tk:takesIn K (.builtin "object.__class__")=some true
 mro:mroIn K C (.type "object")=some true
 bexc:mroIn K C (.type "BaseException")=some true
section
variable {prog:Ae}{w:Af}{A:Ag}{E:Aa->Ac->Prop}{s:Ac}{K:Frag}{x C:Ab}{ox:Obj}{odo:Option Obj}
theorem RJ{M:Model}{nm:Aa}{Q:Unit->Ac->Prop}(X:K.In s.heap)(I:InstAt s.heap x ox C odo)(O:QY K C)(hq:Q () s):wpAny M A (checkBuiltinCall "BaseException.__getattribute__" ⟨[.ref x,nm],[]⟩) Q E s:=by
 obtain⟨Z,g,d,t,os⟩:=s;have L0:=I.type (M:=M);have L4:=looks_mroIn (M:=M) X O.bexc;have hk:builtinKind "BaseException.__getattribute__"=some .slot:=by decide +kernel
 have G:splitId "BaseException.__getattribute__"=some ("BaseException","__getattribute__"):=by decide +kernel
 have LI:PySem.W.Looks M Z (isInstance (.ref x) (.type "BaseException")) true:=L0.andThen L4;have V:=PySem.F.args_bexc_ga (.ref x) nm;simp only[checkBuiltinCall,hk,G];refine zA (LI.at ?_)
 repeat (first | assumption | wp_step)
end
open PySem.W (InstAt findIn specialIn takesIn mroIn clsIn findObj looks_find looks_findIn looks_mroIn KitX kitOne Looks)
abbrev WD:List Aa:=[.type "ValueError",.type "Exception",.type "BaseException",.type "object"]
section
variable {prog:Ae}{w:Af}{A:Ag}{E:Aa->Ac->Prop}{h:Heap}{g:Array GenState}{d:Drawn}{t:Nat}{os:OsState}{C N f:Ab}{nm q:Str}{bs bm:List Aa}{hdct:Bool}{sn:List Str}{sub:List Aa}{ab:Bool}{col:Option Bool}{dd:Option Ab}{k0 k1 k2 k3 k5:Option Aa}{rest:List Aa}
theorem RI(T:OwnTail h WD bm){Q:Fin->Ac->Prop}(W:h.get? C=some (excClassObj nm q C N bs bm hdct sn sub ab col dd k0 k1 k2 k3 k5 "ValueError.__new__"))(hi:Looks (model prog w) h (typeLookup (.ref C) "__init__") (some iv))(hb:∀self,Looks (model prog w) h (bindSpecial iv self) (iv,[self]))(G:rest.length<=zF)(hq:codeAny (model prog w) A (.call iv ⟨.ref (h.objs.size+1)::rest,[]⟩) (λr s'=>match r with | .ok (.ret v)=>v = .none/\Q (.done (.ret (.ref (h.objs.size+1)))) s' | .ok _=>False | .error e=>E e s')
 ⟨(h.push { cls:=.type "tuple",data:=.seq rest.toArray }).push { cls:=.ref C,data:=.fields #[.ref h.objs.size,.none,.none,.none,.bool false,.none] },g,d,t,os⟩):
  wpAny (model prog w) A (Builtin.«type.__call__» ⟨.ref C::rest,[]⟩) Q E ⟨h,g,d,t,os⟩:=by
 have F:=vT;have O:WD.contains (.type "ValueError")=true:=by decide +kernel
 repeat (first | with_reducible refine wpAny_loadPart_at W ?_ | with_reducible refine wpAny_madeBy_exc W ?_ | wp_step)
 refine codeAny_call_builtin_code (Code.quiet_builtin _ F.quiet) (wpAny_check_new_subU F O T W ?_);refine codeAny_exc_new_subU F O F T W ?_ G;show wpAny _ _ _ _ _ _;have kp:∀b o,h.get? b=some o->((h.push { cls:=.type "tuple",data:=.seq rest.toArray }).push { cls:=.ref C,data:=.fields #[.ref h.objs.size,.none,.none,.none,.bool false,.none] }).get? b=some o:=λb o e=>zL _ (zL _ e);have aa:=kp _ _ W;have V:((h.push { cls:=.type "tuple",data:=.seq rest.toArray }).push
   { cls:=.ref C,data:=.fields #[.ref h.objs.size,.none,.none,.none,.bool false,.none] }).get? (h.objs.size+1)=some
   { cls:=.ref C,data:=.fields #[.ref h.objs.size,.none,.none,.none,.bool false,.none] }:=by heap_get
 have Z:(Value.ref C::bm).contains (.ref C)=true:=by simp
 have i1:=hi.keeps kp;have b1:=(hb (.ref (h.objs.size+1))).keeps kp;unfold isInstance
 repeat (first | with_reducible refine wpAny_loadPart_at V ?_ | (with_reducible refine wpAny_isSubtype_exc aa ?_;rw[Z]) | wp_step)
 show wpAny _ _ (typeLookup (.ref C) _) _ _ _;refine i1.here ?_;refine zD (zA (b1.here ?_));refine zA (wpAny_call (codeAny_mono hq λr s' z=>?_));rcases r with e | (v | _ | _ | _) <;> first | exact z | exact z.elim | skip
 obtain⟨rfl,z⟩:=z;obtain⟨ac,g',d',t',ad⟩:=s'
 wp_walk
 exact z
end
section
variable {prog:Ae}{w:Af}{A:Ag}{R:Result->Ac->Prop}{h:Heap}{g:Array GenState}{d:Drawn}{t:Nat}{os:OsState}{C N f:Ab}{nm q:Str}{bs tl:List Aa}{hdct:Bool}{sn:List Str}{sub:List Aa}{ab:Bool}{col:Option Bool}{dd:Option Ab}{k0 k1 k2 k3 k5:Option Aa}{vs:List Aa}
theorem K3(O:h.get? C=some (excClassObj nm q C N bs tl hdct sn sub ab col dd k0 k1 k2 k3 k5 "ValueError.__new__"))(T:OwnTail h WD tl)(hi:Looks (model prog w) h (typeLookup (.ref C) "__init__") (some iv))(W:∀self,Looks (model prog w) h (bindSpecial iv self) (iv,[self]))(G:vs.length<=zF)(V:codeAny (model prog w) (A.under (.builtin "type.__call__" ⟨.ref C::vs,[]⟩)) (.call iv ⟨.ref (h.objs.size+1)::vs,[]⟩) (InitBack (h.objs.size+1) R)
 ⟨(h.push { cls:=.type "tuple",data:=.seq vs.toArray }).push { cls:=.ref C,data:=.fields #[.ref h.objs.size,.none,.none,.none,.bool false,.none] },g,d,t,os⟩):
  codeAny (model prog w) A (.call (.ref C) ⟨vs,[]⟩) R ⟨h,g,d,t,os⟩:=by
 have f1:=tc_lookup;have f2:=tc_bind (.ref C);have Z:(⟨h,g,d,t,os⟩:Ac).TypeIs (.ref C) "type":=⟨_,O,rfl⟩;refine codeAny_of_tree ?_;show wpAny _ _ (callAny (.ref C) _) _ _ _
 repeat (any_goals (first | assumption | with_reducible refine wpAny_loadPart_at O ?_ | wp_step))
 refine⟨rfl,?_⟩;refine codeAny_call_builtin_at (Code.quiet_builtin _ (by decide +kernel)) entry_typeCall (wpAny_check_type_call_sub O (RI T O hi W G ?_))
 refine codeAny_mono V λr s' z=>?_;rcases r with e | (v | _ | _ | _) <;> exact z
end
structure ExcI(K:Frag)(C f:Ab):Prop where
 ex:∃(tl:List Aa) (N:Ab) (nm q:Str) (bs:List Aa) (sn:List Str) (sub:List Aa) (ab:Bool) (col:Option Bool) (dd:Option Ab) (k0 k1 k2 k3 k5:Option Aa),
  K.lookup C=some (excClassObj nm q C N bs tl true sn sub ab col dd k0 k1 k2 k3 k5 "ValueError.__new__")/\(∀h:Heap,K.In h->OwnTail h WD tl)/\∀self,refuseLoop self "__setattr__" tl=pure ()
 init:findIn K (.ref C) "__init__"=some (some (.ref f))
 fn:isFn K (.ref f)=true
 kp:keepIn K (.ref C)=true
 sa:findIn K (.ref C) "__setattr__"=some (some (.builtin "object.__setattr__"))
 mo:mroIn K C (.type "object")=some true
def exφC (e C:Ab)(dd:Option Ab)(cs:Aa×Aa):Heap->Prop:=λh=>∃a0,h.get? e=some (ExcObjC (.ref C) (.ref a0) dd .none cs)
abbrev exφ(e C:Ab)(dd:Option Ab):Heap->Prop:=exφC e C dd cs0
theorem Di{e:Ab}{a0:Ab}{dd:Option Ab}(g:h.get? e=some (ExcObjC (.ref C) (.ref a0) dd .none cs)):ObjOk P w H h e (.ext (exφC e C dd cs)):=⟨⟨a0,g⟩,⟨_,g⟩,λh1 h2 G k=>by obtain⟨a,q⟩:=G;exact⟨a,k _ q⟩⟩
section
variable {prog:Ae}{w:Af}{A:Ag}{E:Aa->Ac->Prop}{s:Ac}{K:Frag}{x C f:Ab}{name:Str}{v a0:Aa}
theorem Ey{Q:Unit->Ac->Prop}(X:K.In s.heap)(O:ExcI K C f)(n:YF K C name)(hx:s.heap.get? x=some (ExcObj (.ref C) a0 none .none))(h:∀h',h'.get? x=some (ExcObj (.ref C) a0 (some s.heap.objs.size) .none)->h'.Ns1 s.heap.objs.size (λy=>if y=name then some v else none)->(∀b o,b≠x->s.heap.get? b=some o->h'.get? b=some o)->Q () { s with heap:=h',toks:=s.toks+2 }):
  wpAny (model prog w) A (setAttr (.ref x) name v) Q E s:=by
 have I:InstAt s.heap x (ExcObj (.ref C) a0 none .none) C none:=⟨hx,rfl,rfl,trivial⟩;obtain⟨tl,N,nm,q,bs,sn,sub,ab,col,dd,k0,k1,k2,k3,k5,hC,T,ad⟩:=O.ex;refine set_plain X I O.sa ?_;have SF:=PySem.F.store_object;have hc:clsIn K C=some { name:=nm,bases:=bs,mro:=.ref C::tl,ns:=N,qualname:=q,hasDict:=true,slotNames:=sn,subclasses:=sub,abstract:=ab,collection:=col }:=by unfold clsIn;rw[hC]
 have aa:Looks (model prog w) s.heap (isInstance (.ref x) (.type "object")) true:=I.type.andThen (looks_mroIn X O.mo);refine codeAny_call_builtin SF.slot.plain SF.entry (@PySem.W.check_slot (model prog w) _ _ { s with toks:=s.toks+1 } "object.__setattr__" "object" "__setattr__" (.ref x) [.str name s.toks,v] [] _ SF.kind SF.split aa (SF.args (.ref x) (.str name s.toks) v) ?_)
 have hm:Looks (model prog w) s.heap (mroOf (.ref C)) (.ref C::tl):=(looks_clsIn X hc).andThen .now;have L3:Looks (model prog w) s.heap (Builtin.ObjectAttr.storeTaker? none) none:=.now;rw[PySem.W.osa_eq,refuse_eq];refine zA (zA (Looks.here (s:={ s with toks:=s.toks+1 }) I.type (zA (Looks.here (s:={ s with toks:=s.toks+1 }) hm ?_))))
 rw[refuseLoop_ref,ad];refine zB (zA (Looks.here (s:={ s with toks:=s.toks+1 }) I.type (zA (Looks.here (s:={ s with toks:=s.toks+1 }) (looks_findIn X n) (zA (Looks.here (s:={ s with toks:=s.toks+1 }) L3 ?_))))))
 dsimp only;refine zA (zB (zA (zA (wpAny_loadPart hx (zA (Looks.here (s:={ s with toks:=s.toks+1 }) (looks_clsIn X hc) ?_))))))
 dsimp only;have Z:x≠s.heap.objs.size:=zX (zQ hx);have V:(s.heap.push { cls:=.type "dict",data:=.dict #[] }).get? x=some (ExcObj (.ref C) a0 none .none):=zL _ hx;refine zA (wpAny_alloc' (zA (wpAny_update' V (zB ?_))));have af:((s.heap.push { cls:=.type "dict",data:=.dict #[] }).update x λo=>{ cls:=o.cls,dict:=some s.heap.objs.size,data:=o.data,slots:=o.slots }).get? x=some (ExcObj (.ref C) a0 (some s.heap.objs.size) .none):=yS _ V rfl;have ae:((s.heap.push { cls:=.type "dict",data:=.dict #[] }).update x λo=>{ cls:=o.cls,dict:=some s.heap.objs.size,data:=o.data,slots:=o.slots }).get? s.heap.objs.size
  =some { cls:=.type "dict",data:=.dict #[] }:=(uU _ _ _ _ Z.symm).trans (Heap.get?_push_at rfl rfl)
 have ac:((s.heap.push { cls:=.type "dict",data:=.dict #[] }).update x λo=>{ cls:=o.cls,dict:=some s.heap.objs.size,data:=o.data,slots:=o.slots }).Ns s.heap.objs.size (λ_=>none):=
  ⟨_,#[],_,ae,rfl,λe he=>xX he (by simp),λ_=>rfl⟩
 have ah:∀b o,b≠x->s.heap.get? b=some o->((s.heap.push { cls:=.type "dict",data:=.dict #[] }).update x λo=>{ cls:=o.cls,dict:=some s.heap.objs.size,data:=o.data,slots:=o.slots }).get? b=some o:=λb o hb e =>
  (uU _ _ _ _ hb).trans (zL _ e)
 show wpAny _ _ (Builtin.ObjectAttr.storeInDict s.heap.objs.size (.str name s.toks) name v) _ _ _;unfold Builtin.ObjectAttr.storeInDict Builtin.ObjectAttr.newKeyGuard;refine zA (zB (zA (wpAny_nsSet1 (Heap.Ns1.of_empty ac) λh' G hs=>?_)));obtain⟨oD,al,ak,ai,aj,ag⟩:=G.count (Within.cons name v Within.nil);refine zA (wpAny_lookBehind ai (by rw[aj];exact pastItsLine_dict (yU ag (by rw[xF,jN,sizeLine_eq];lia))) ?_)
 refine zB ?_;exact h h' ((hs.2 x Z).trans af) G λb o hb e=>(hs.2 b (zX (zQ e))).trans (ah b o hb e)
end
def unt (H:Hp)(e:Ab):Hp:=λb=>if b=e then none else H b
theorem X4{e b:Ab}(h:b≠e):unt H e b=H b:=by unfold unt;rw[xZ h]
theorem X3{e:Ab}:unt H e e=none:=by unfold unt;rw[xY rfl]
section
variable {X:Cx}{b8:List (Ab×Obj)}{σ:St}{H:Hp}{s:Ac}{e C f C0:Ab}{name:Str}{A:Ag}{E:Aa->Ac->Prop}{dd:Option Ab}
theorem Gy(I:Inv X b8 σ H s)(G:H e=some (.ext (exφC e C dd cs))):∃a0,s.heap.get? e=some (ExcObjC (.ref C) (.ref a0) dd .none cs):=(show ObjOk X.prog X.w H s.heap e (.ext (exφC e C dd cs)) from I.hok e _ G).1
theorem Inv.unt{φ:Heap->Prop}(I:Inv X b8 σ H s)(V:H e=some (.ext φ))(h0:∀u,X.H₀ e=some u->∃ φ,u = .ext φ):Inv X b8 σ (unt H e) s:=by
 have n:∀b u,H b=some u->(∀ φ,u ≠ .ext φ)->L2.unt H e b=some u:=λb u q hu=>by
  rw[X4 (λz=>by subst z;rw[V] at q;cases q;exact hu _ rfl)];exact q
 refine⟨I.ok,I.os,I.bare,⟨I.base.keep,I.base.slot,λb o q m W=>?_,I.base.there,λb xs q=>n _ _ (I.base.tups b xs q) (λ_ z=>nomatch z),λb o u q=>n _ _ (I.base.frzs b o u q) (λ_ z=>nomatch z),λb ps q=>?_⟩,I.loc,I.cell,?_,λx c q=>?_,λp Z=>?_,λb o q=>?_,I.len,I.hdh.frzs λb o u q=>n _ _ q (λ_ z=>nomatch z)⟩
 .have:=I.base.free b o q m W
  unfold L2.unt;split
  .rfl
  .exact this
 .obtain⟨G,q1⟩:=I.base.tbls b ps q;exact⟨G,n _ _ q1 (λ_ z=>nomatch z)⟩
 .have:=I.free
  unfold L2.unt;split
  .rfl
  .exact this
 .have:=I.freeC x c q
  unfold L2.unt;split
  .rfl
  .exact this
 .obtain⟨a,b,c⟩:=I.pin p Z;refine⟨a,?_,c⟩;unfold L2.unt;split
  .rfl
  .exact b
 .by_cases O:b=e
  .subst O;rw[X3] at q;cases q
  .rw[X4 O] at q;exact(I.hok b o q).stay (λ_ _ _ z=>z) (λc z=>n _ _ z (λ_ y=>nomatch y)) λc xs z=>n _ _ z (λ_ y=>nomatch y)
theorem R0{Q:Unit->Ac->Prop}(I:Inv X b8 σ H s)(he:H e=some (.ext (exφ e C none)))(O:ExcI X.K C f)(n:YF X.K C name)(ry:RelV y u)(h:∀dx s',H dx=none->Inv X b8 σ (upd (upd H dx (.xd [(name,y)])) e (.ext (exφ e C (some dx)))) s'->Q () s'):wpAny (model X.prog X.w) A (setAttr (.ref e) name u) Q E s:=by
 obtain⟨a0,Z⟩:=Gy I he;refine Ey I.kIn O n Z λh' g1 g2 kp=>h s.heap.objs.size _ (I.hok.fresh (zO _)) ?_;have ac:(h'.update e λ_=>ExcObj (.ref C) (.ref a0) none .none).get? e=some (ExcObj (.ref C) (.ref a0) none .none):=yS _ g1 rfl;have V:∀b,b≠e->(h'.update e λ_=>ExcObj (.ref C) (.ref a0) none .none).get? b=h'.get? b:=λb G=>yT _ _ (Ne.symm G);have W:s.heap.objs.size≠e:=vB (zQ Z);have I1:Inv X b8 σ (upd H s.heap.objs.size (.xd [(name,y)])) { s with heap:=h'.update e λ_=>ExcObj (.ref C) (.ref a0) none .none,toks:=s.toks+2 }:=by
  refine I.laid (t':=s.toks+2) (λb o q=>?_) (zO _) ?_
  .by_cases G:b=e
   .subst G;rw[Z] at q;cases q;exact ac
   .rw[V b G];exact kp b o G q
  .obtain⟨oD,es,ep,q1,q2⟩:=g2;refine⟨_,⟨oD,es,ep,(V _ W).trans q1,q2⟩,λg=>?_⟩;show RelO (wV g [(name,y)]) (if g=name then some u else none);by_cases hg:g=name
   .subst hg;rw[xY rfl];simp;exact ry
   .rw[xZ hg]
    have:(g==name)=false:=by simpa using hg
    simp[wV,this];exact trivial
 have aa:(upd H s.heap.objs.size (.xd [(name,y)])) e=some (.ext (exφ e C none)):=by rw[Z5 W.symm];exact he
 exact I1.write (x:=e) (e:=e) (h':=h') (t':=s.toks+2) (by rw[aa];exact True.intro) (.inl rfl) (λb o G q=>by rw[V b G] at q;exact q) ⟨_,g1⟩ (Di g1)
end
section
variable {X:Cx}{k:Nat}{e C f C0:Ab}{fd:Ad}{ps:List Str}{sp:Sp}{x m:Str}{name:Str}{o value:Ah}{ta tv:TE}{pos pos' p cj:Pos}{e₀:Ah}{es:List Ah}{t:TA}
def Ez(K:Frag)(ta tv:TE)(f:Str):TS:=λD σ H=>tv σ H λy H1=>ta σ H1 λx H2=>∃e C g,x = .ref e/\H2 e=some (.ext (exφ e C none))/\ExcI K C g/\YF K C f /\
 ∀dx,H2 dx=none->D.nx σ (upd (upd H2 dx (.xd [(f,y)])) e (.ext (exφ e C (some dx))))
theorem KB(ha:PE X o ta)(Z:PE X value tv)(hs:swapsWith value (some (.Attribute o name pos')) pos.line X.env=pure false):PS X (.Assign [.Attribute o name pos'] value pos) (Ez X.K ta tv name):=by
 intro b8 s σ H D I h;refine plainObj_wpAny_Assign_Attribute (thn (Z b8 s σ H _ I h) λu s1 V=>?_) hs;obtain⟨y,H1,I1,ry,q⟩:=V;refine thn (ha b8 s1 σ H1 _ I1 q) λov s2 G=>?_;obtain⟨x,H2,I2,W,a,C,g,ex,ea,O,n,q2⟩:=G;subst ex;obtain rfl:ov=Value.ref a:=W;exact R0 I2 ea O n ry λdx s3 hd I3=>⟨σ,_,I3,q2 dx hd⟩
structure OB(K:Frag)(C0:Ab):Prop where
 ga:specialIn K (.ref C0) "__getattribute__"=some (some (.builtin "type.__getattribute__"))
 rd:readsIn K C0 (.type "type")=true
 fi:findCls K (.ref C0) (.type "type") "__init__"=some (.val (.builtin "ValueError.__init__"))
theorem GQ:Jt X (.builtin "ValueError.__init__") (λxs H Q=>∃(e C g:Ab) (rest:List V),xs = .ref e::rest/\H e=some (.ext (exφ e C none))/\ExcI X.K C g/\rest.length<=zF/\Q .non H):=by
 intro b8 s σ H xs us Q I r h;obtain⟨e,C,g,rest,rfl,G,O,hz,q⟩:=h;cases r with
 | cons r1 r2 =>
  rename_i u us;obtain rfl:u=Value.ref e:=r1;obtain⟨a0,hx⟩:=Gy I G;obtain⟨tl,N,nm,qn,bs,sn,sub,ab,col,dd,k0,k1,k2,k3,k5,hC,T,ac⟩:=O.ex;have F:=vT;have Z:=I.kIn _ _ hC;have Ts:=T _ I.kIn;have ae:us.length<=zF:=by rw[<-Vals.length r2];exact hz
  have W:∀t' h',(∀b o,b≠e->s.heap.get? b=some o->h'.get? b=some o)->(∃a1,h'.get? e=some (ExcObj (.ref C) (.ref a1) none .none))->EP X b8 σ Q Value.none { s with heap:=h',toks:=t' }:=λt' h' kp ⟨a1,g1⟩=>by
   have I1:Inv X b8 σ (upd H e (.ext (exφ e C none))) { s with heap:=h',toks:=t' }:=I.write (x:=e) (e:=e) (by rw[G];exact True.intro) (.inl rfl) kp ⟨_,g1⟩ (Di g1)
   have eH:upd H e (.ext (exφ e C none))=H:=by
    funext b;unfold upd;split
    .rename_i z;rw[z,G]
    .rfl
   rw[eH] at I1;exact⟨.non,H,I1,rfl,q⟩
  obtain⟨h0,g0,d0,t0,ad⟩:=s;refine wpAny_call (codeAny_call_builtin F.init.plain F.initEntry (wpAny_check_init_subU F Ts Z hx rfl ?_))
  wp_walk
  have aa:(h0.push { cls:=Value.type "tuple",data:=Data.seq us.toArray }).get? e=some (ExcObj (.ref C) (.ref a0) none .none):=zL _ hx;exact W t0 _ (λb o hb q=>(yT _ _ (Ne.symm hb)).trans (zL _ q)) ⟨h0.objs.size,yS _ aa rfl⟩
theorem Mz{pl:Sem Bool}(hg:Gl X x)(hm:X.mg x=some (.ref C0))(B:OB X.K C0)(ha:PA X (e₀::es) t)(Z:(x==("__debug__":Str))=false:=by decide)(O:zG (e₀::es) X.env=(false,eval e₀ X.env)::zG es X.env:=by rfl)(G:(Ao pos (zG es X.env)).any (·.1)=false:=by rfl)(ht:eval (.Call (.Attribute (.Name x p) "__init__" cj) (e₀::es) [] pos) X.env=(do
 let ov <- eval (.Name x p) X.env
 standAt cj.atName
 let (f,first) <- holding [ov] (getMethod ov "__init__" pl)
 callWith pos f first (Ao pos (zG (e₀::es) X.env)) (An pos (Am [] X.env))):=by rfl):
  PE X (.Call (.Attribute (.Name x p) "__init__" cj) (e₀::es) [] pos) (tCB (λxs H Q=>∃(e C g:Ab) (rest:List V),xs = .ref e::rest/\H e=some (.ext (exφ e C none))/\ExcI X.K C g/\rest.length<=zF/\Q .non H) t):=by
 intro b8 s σ H Q I h;refine methodCall_KW (pl:=pl) (U6 I hg hm ?_ Z) ht;refine PySem.W.method_cls I.kIn B.ga (PySem.W.cls_value I.kIn B.rd B.fi rfl ?_);refine PyProof.Rows.callWith_builtin1 (thn (ha pos b8 _ σ H _ (I.tok _) h) λus s1 aa=>?_) O G;obtain⟨vs,H1,I1,r1,q1⟩:=aa;exact GQ b8 s1 σ H1 vs us Q I1 r1 q1
def OK(K:Frag)(C:Ab)(sp:Sp)(E:XK)(t:TA):TE:=λσ H Q=>t σ H λvs H1=>vs.length<=zF/\∀e,H1 e=none->sp (.ref e::vs) (upd H1 e (.ext (exφ e C none))) (λv H2=>v = .non/\Q (.ref e) H2) E
theorem Inv.madeX{us:List Aa}(I:Inv X b8 σ H s):Inv X b8 σ (upd H (s.heap.objs.size+1) (.ext (exφ (s.heap.objs.size+1) C none)))
  { s with heap:=(s.heap.push { cls:=.type "tuple",data:=.seq us.toArray }).push { cls:=.ref C,data:=.fields #[.ref s.heap.objs.size,.none,.none,.none,.bool false,.none] } }:=by
 have G:Inv X b8 σ H { s with heap:=s.heap.push { cls:=.type "tuple",data:=.seq us.toArray } }:=I.kept (t':=s.toks) λb o q=>zL _ q
 have e2:((s.heap.push { cls:=.type "tuple",data:=.seq us.toArray }).push { cls:=.ref C,data:=.fields #[.ref s.heap.objs.size,.none,.none,.none,.bool false,.none] }).get? (s.heap.objs.size+1)=some (ExcObj (.ref C) (.ref s.heap.objs.size) none .none):=by
  have:=zU (s.heap.push { cls:=.type "tuple",data:=.seq us.toArray }) (o:={ cls:=.ref C,data:=.fields #[.ref s.heap.objs.size,.none,.none,.none,.bool false,.none] }) rfl
  rwa[wG] at this
 exact G.laid (a:=s.heap.objs.size+1) (t':=s.toks) (λb o q=>zL _ q) (uM (wG _ _)) (Di e2)
theorem LV{E:XK}(O:ExcI X.K C f)(F:FnOk X.prog X.w X.K X.mg X.base CX k f fd ps sp)(hr:Room (k+1) X.A)(hg:Gl X x)(hm:X.mg x=some (.ref C))(hb:Binds X.K fd ps [])(hx:Passes CX X E)(ha:PA X (e₀::es) t)(ad:(x==("__debug__":Str))=false:=by decide)(he:zG (e₀::es) X.env=(false,eval e₀ X.env)::zG es X.env:=by rfl)(aa:(Ao pos (zG es X.env)).any (·.1)=false:=by rfl)(hcc:CX.calm=true->X.calm=true:=by first | exact λ_=>rfl | exact λz=>nomatch z):
  PE X (.Call (.Name x p) (e₀::es) [] pos) (OK X.K C sp E t):=by
 intro b8 s σ H Q I h;refine wpAny_Call_Name_kw (U6 I hg hm ?_ ad);refine callWith_K (h₀:=X.base) I.ok.mod.kin O.kp (thn (ha pos b8 s σ H _ I h) λus s1 ae=>?_) he aa;obtain⟨vs,H1,W,r,hz,q⟩:=ae;refine⟨W.kIn,?_⟩;obtain⟨tl,N,nm,qn,bs,sn,sub,ab,col,dd,k0,k1,k2,k3,k5,hC,T,af⟩:=O.ex;have hq:=q (s1.heap.objs.size+1) (W.hok.fresh (vL _));have I2:=Inv.madeX (C:=C) (us:=us) W;have r2:Vals (V.ref (s1.heap.objs.size+1)::vs) (Value.ref (s1.heap.objs.size+1)::us):=.cons rfl r;have hl:(Value.ref (s1.heap.objs.size+1)::us++[]).length=ps.length:=by
  rw[wC];have e:=r2.length;rw[F.len _ _ _ _ hq] at e;exact e.symm
 have Z:=hb _ (Value.ref (s1.heap.objs.size+1)::us) I2.kIn hl;rw[wC] at Z;refine wpAny_call ?_;have ac:=F.run _ X.stack _ _ ⟨Value.ref (s1.heap.objs.size+1)::us,[]⟩ (Value.ref (s1.heap.objs.size+1)::us) _ _ E (hr.make C us []) (λz=>I.ok.hd (hcc z)) (I2.env0.make C us []) Z r2 hq;have L1:=looks_findIn (M:=model X.prog X.w) W.kIn O.init;have L2:=λself=>bind_fn (M:=model X.prog X.w) W.kIn (f:=f) self (xS.mp O.fn);refine K3 (W.kIn _ _ hC) (T _ W.kIn) L1 L2 (by show us.length<=zF;rw[<-r.length];exact hz) (codeAny_mono ac λr s' G=>?_)
 cases r with
 | error e=>exact hx b8 σ _ _ e s' I2 G
 | ok fl =>
  cases fl with
  | ret u =>
   obtain⟨v,H',I3,rv,ev,q3⟩:=I2.after G;subst ev;exact⟨rv,⟨V.ref (s1.heap.objs.size+1),H',I3,rfl,q3⟩⟩
  | next=>exact False.elim G
  | brk=>exact False.elim G
  | cont=>exact False.elim G
end
section
variable {M:Model}{A:Ag}{E:Aa->Ac->Prop}{env:Env}{nm q:Str}{C N:Ab}{bs bm:List Aa}{hdct:Bool}{sn:List Str}{sub:List Aa}{ab:Bool}{col:Option Bool}{dd:Option Ab}{k0 k1 k2 k3 k5:Option Aa}{newId:String}
theorem T7{x:Sem Aa}{Q:Flow->Ac->Prop}(G:bm.contains (.type "BaseException")=true)(hh:A.handled=none)(h:wpAny M A x (λv O=>∃e a0 d,v = .ref e/\O.heap.get? C=some (excClassObj nm q C N bs bm hdct sn sub ab col dd k0 k1 k2 k3 k5 newId)/\O.heap.get? e=some (ExcObj (.ref C) a0 d .none)/\E (.ref e) O) E s):
  wpAny M A (raiseStmt env (some x) none) Q E s:=by
 have V:(Value.ref C::bm).contains (.type "BaseException")=true:=by rw[List.contains_cons,G,jD]
 unfold raiseStmt;refine zA (zC h (λv O h₁=>?_) λ_ _ x=>x);obtain⟨e,t,d0,rfl,Z,W,hE⟩:=h₁;obtain⟨hp,g,d,tk,os⟩:=O
 delta ExcObj ExcObjC at W
 repeat (first | with_reducible refine wpAny_loadPart_at W ?_ | with_reducible refine wpAny_loadPart_at Z ?_ | (with_reducible refine wpAny_isSubtype_exc Z ?_;rw[V]) | wp_step)
 exact wpAny_raiseNew_none hh hE
end
def Kd(X:Cx)(E:XK):Prop:=∀(b8:List (Ab×Obj)) (σ:St) (H:Hp) (s:Ac) (e C:Ab) (dd:Option Ab),Inv X b8 σ H s->H e=some (.ext (exφ e C dd))->X.H₀ e=none->E (.ref C) dd (unt H e)->X.xe (.ref e) s
section
variable {X:Cx}{E:XK}{call:Ah}{te:TE}{pos:Pos}{x:Str}{p cpos:Pos}{args:List Ah}
theorem Rf(O:ExcI X.K C f)(hr:Kd X E)(hc:X.calm=true)(he:PE X (.Call (.Name x p) args [] cpos) te):
  PS X (.Raise (some (.Call (.Name x p) args [] cpos)) none pos) (λD σ H=>te σ H λv H1=>∃e dd,v = .ref e/\H1 e=some (.ext (exφ e C dd))/\X.H₀ e=none/\E (.ref C) dd (unt H1 e)):=by
 intro b8 s σ H D I h;obtain⟨tl,N,nm,qn,bs,sn,sub,ab,col,dd,k0,k1,k2,k3,k5,hC,T,aa⟩:=O.ex;rw[arm_exec_Raise];have F:=vT;have Z:tl.contains (.type "BaseException")=true:=(T _ I.kIn).hasType F.hasBase;have key:∀{y:Sem Aa},y=(eval (.Call (.Name x p) args [] cpos) X.env >>= λv=>standAt pos >>= λ_=>pure v)∨y=eval (.Call (.Name x p) args [] cpos) X.env->wpAny (model X.prog X.w) X.A y (λv G=>∃e a0 d,v = .ref e/\G.heap.get? C=some (excClassObj nm qn C N bs tl true sn sub ab col dd k0 k1 k2 k3 k5 "ValueError.__new__")/\G.heap.get? e=some (ExcObj (.ref C) a0 d .none)/\X.xe (.ref e) G) X.xe s:=by
  have base:=thn (Q':=λv G=>∃e a0 d,v = .ref e/\G.heap.get? C=some (excClassObj nm qn C N bs tl true sn sub ab col dd k0 k1 k2 k3 k5 "ValueError.__new__")/\G.heap.get? e=some (ExcObj (.ref C) a0 d .none)/\X.xe (.ref e) G) (he b8 s σ H _ I h) λu s1 ⟨v,H1,W,rv,e,V,ev,hx,h0,q⟩=>by
   subst ev;obtain rfl:u=Value.ref e:=rv;obtain⟨a0,g⟩:=Gy W hx;exact⟨e,_,_,rfl,W.kIn _ _ hC,g,hr b8 σ H1 s1 e C V W hx h0 q⟩
  rintro y (rfl | rfl)
  .exact zA (zC base (λv s3 h3=>zA (wpAny_standAt (zB h3))) λ_ _ z=>z)
  .exact base
 first
  | exact zA (wpAny_standAt (T7 Z (I.ok.hd hc) (key (.inl rfl))))
  | exact zA (wpAny_standAt (T7 Z (I.ok.hd hc) (key (.inr rfl))))
end
section
variable {bx:Bool}{P:Ae}{w:Af}{K:Frag}{mg:Str->Option Aa}{base:Heap}{N:List Str}{qual:Str}{scope:Aj}{f:Ab}{cd:Aa}{A:Ag}{outer:List Env}{s₀:Ac}{H₀:Hp}{E:XK}
theorem Re:Kd (cxOf (CXq bx P w) P w K mg base N qual scope f cd A outer s₀ H₀ E) E:=by
 intro b8 σ H s x C dd I hx h0 q;have V:=I.unt hx (λu z=>by rw[h0] at z;cases z)
 obtain⟨a0,gx⟩:=Gy I hx;have ac:x∉frs (envOfC qual scope s₀.heap.objs.size f cd::outer):=λO=>by
  have:=I.stkFree x O
  rw[hx] at this;cases this
 have aa:∀env∈(envOfC qual scope s₀.heap.objs.size f cd::outer),∀a,env.frame=some a->a∈x::frs (envOfC qual scope s₀.heap.objs.size f cd::outer):=λenv he a ha=>yB _ (vV.mpr ⟨env,he,ha⟩);have hB:HOk P w (unt H x) (hideAll s.heap (x::frs (envOfC qual scope s₀.heap.objs.size f cd::outer))):=λa o e=>(V.hok a o e).stay (λb u hb eb=>hideAll_get _ eb λO=>by
   rcases yF.mp O with z | z
   .subst z;rcases hb with y | y
    .subst y;rw[X3] at e;cases e
    .rw[X3] at y;cases y
   .have n:=V.stkFree b z;rcases hb with y | y
    .rw[y,e] at n;cases n
    .rw[y] at n;cases n) (λ_ z=>z) λ_ _ z=>z
 have Z:∀b o,s₀.heap.get? b=some o->b∉frs outer->∃ob,(hideAll s.heap (x::frs (envOfC qual scope s₀.heap.objs.size f cd::outer))).get? b=some ob:=λb o e hb=>by
  obtain⟨o1,e1⟩:=I.base.there b o e (by intro z;cases z)
  refine⟨o1,hideAll_get _ e1 λO=>?_⟩;rcases yF.mp O with z | O
  .subst z
   have:=I.base.free b o e h0 (by intro z;cases z)
   rw[hx] at this;cases this
  .rcases yF.mp (I.stkSub b O) with z | z
   .exact xX (yG (zQ e) I.ok.above) (by rw[z];exact wY _)
   .exact hb z
 have G:(hideAll s.heap (x::frs (envOfC qual scope s₀.heap.objs.size f cd::outer))).get? x=none:=PySem.W.hideAll_none _ (by simp)
 refine Pz (L:=s₀.heap.objs.size) (B:=hideAll s.heap (x::frs (envOfC qual scope s₀.heap.objs.size f cd::outer))) I.ok.frames rfl (PySem.W.funFrames_hide I.stack aa) gx (λb o e=>of_hideAll _ e) G λh2 fl up=>?_;exact WH V.os V.bare V.base V.ok.funs V.ok.frf (λb o e=>of_hideAll _ e) fl (.inl rfl) hB Z (λb o _ e n=>up b o e n) q
end
open PySem.W (InstAt KitX kitOne findIn looks_findIn looks_find)
def excφ (x C:Ab)(dd:Option Ab):Heap->Prop:=λh=>∃a0 tb cs,h.get? x=some (ExcObjC (.ref C) a0 dd tb cs)
def Held (bx:Bool)(H:Hp)(x C:Ab)(dd:Option Ab):Prop:=∃a0 tb cs,H x=some (.frz (ExcObjC (.ref C) a0 dd tb cs) (.ext (excφ x C dd)))/\CxB bx H cs.1
section
variable {prog:Ae}{w:Af}{A:Ag}{E:Aa->Ac->Prop}{s:Ac}{K:Frag}{x C:Ab}{ox:Obj}{od:Obj}{name:Str}{v:Aa}
theorem K4{G:Bool}{Q:Aa->Ac->Prop}(X:K.In s.heap)(I:InstAt s.heap x ox C (some od))(O:QY K C)(hh:hasDictIn K C=true)(n:findIn K (.ref C) name=some none)(hl:lookIn name od=some (some v))(hv:handedIn v=true)(h:Q v { s with toks:=s.toks+1 }):wpAny (model prog w) A (getAttr (.ref x) name G) Q E s:=by
 obtain⟨hp,g,d,t,os⟩:=s;have Z:=I.type (M:=model prog w);have L1:=looks_findIn (M:=model prog w) X O.ga;have L2:=PySem.W.looks_hook (M:=model prog w) (mc:=.ref C) X (r:=none) (by rw[xY (show onTheHeap (Value.ref C)=true from rfl)];exact O.gr)
 have L3:=looks_find (M:=model prog w) X I (findObj_own hh n rfl hl);refine zA (wpAny_mkText (zD (zA (Z.at (zA (L1.at ?_))))));dsimp only;rw[show(onTheHeap (Value.ref C)&&Value.builtin "BaseException.__getattribute__"==Value.builtin "object.__getattribute__")=false from by rw[show(Value.builtin "BaseException.__getattribute__"==Value.builtin "object.__getattribute__")=false from by decide +kernel,jW],xZ (by decide)]
 refine zA (L2.at (zA (wpAny_attempt (zD ?_))));unfold callGetattribute;rw[show(G&&onTheHeap (Value.builtin "BaseException.__getattribute__"))=false from jW _,xZ (by decide)]
 unfold boundAndCalled;refine zA (wpAny_of_eq (PySem.F.attr_ValueError.ga.bind (.ref x)) ?_);refine wpAny_call (codeAny_call_builtin PySem.F.attr_ValueError.ga.plain PySem.F.entry_bexc_ga ?_);have V:wpAny (model prog w) A.in1 (Builtin.«object.__getattribute__» ⟨[.ref x,.str name t],[]⟩) (λf s'=>match f with | .done (.ret v)=>wpAny (model prog w) A (handedOut v) Q E s' | _=>False) (λ_ _=>False) ⟨hp,g,d,t+1,os⟩:=by
  unfold Builtin.«object.__getattribute__»;refine zA (zB (zA (zB (zA (Z.at (zA (L3.at ?_)))))));exact zB (PySem.W.handed_on hv h)
 refine RJ X I O (zC V (λf s' z=>?_) λ_ _ z=>z.elim);rcases f with (_ | _ | _ | _) | _ <;> first | exact z.elim | exact z
end
section
variable {X:Cx}{o:Ah}{name:Str}{ta:TE}{pos:Pos}
def Er(K:Frag)(ta:TE)(f:Str):TE:=λσ H Q=>ta σ H λv H1=>∃x C dx fs y,v = .ref x/\(∃bx,Held bx H1 x C (some dx))/\H1 dx=some (.xd fs)/\fs.lookup f=some y/\QY K C/\hasDictIn K C=true/\YF K C f/\Q y H1
theorem KF(he:PE X o ta)(hb:attributeBase o name X.env (eval o X.env)=eval o X.env):PE X (.Attribute o name pos) (Er X.K ta name):=by
 intro b8 s σ H Q I h;refine Tz hb (thn (he b8 s σ H _ I h) λu s1 V=>?_);obtain⟨v,H1,G,rv,x,C,dx,fs,y,ev,⟨bx,a0,tb,cs,hx,_⟩,hd,l,O,Z,n,q⟩:=V;subst ev;obtain rfl:u=Value.ref x:=rv;have gx:s1.heap.get? x=some (ExcObjC (.ref C) a0 (some dx) tb cs):=(show ObjOk X.prog X.w H1 s1.heap x (.frz _ _) from G.hok x _ hx).1
 obtain⟨mA,ns,r⟩:=(show ObjOk X.prog X.w H1 s1.heap dx (.xd fs) from G.hok dx _ hd)
 obtain⟨od,ho,hl⟩:=WC ns;obtain⟨uu,hu,W⟩:=RelO.some_of (v:=y) (o:=mA name) (by rw[<-l];exact r name)
 exact K4 G.kIn ⟨gx,rfl,rfl,ho⟩ O Z n (by rw[hl,hu]) (WL W) ⟨y,H1,G.tok _,W,q⟩
end
def Cx.handE(X:Cx)(x:Ab)(R:Aa->Ac->Prop):Cx:={ X with A:=X.A.mark (some (.ref x)),calm:=false,xe:=R }
abbrev Cx.hand(X:Cx)(x:Ab):Cx:=X.handE x λ_ _=>False
section
variable {X:Cx}{b8:List (Ab×Obj)}{σ:St}{H:Hp}{s:Ac}
theorem Inv.hand{dd:Option Ab}(I:Inv X b8 σ H s){x:Ab}(G:Held bx H x C dd):Inv (X.handE x R) b8 σ H s :=
 ⟨⟨I.ok.mod,I.ok.kind,I.ok.glob,I.ok.blt,I.ok.above,I.ok.inj,I.ok.has,I.ok.cab,(λz=>nomatch z),I.ok.frames,I.ok.stk,I.ok.exf,I.ok.bs,I.ok.bsz,I.ok.noex,I.ok.exfs,I.ok.funs,I.ok.frf⟩,I.os,I.bare,I.base,I.loc,I.cell,I.free,I.freeC,I.pin,I.hok,I.len,let ⟨_,_,_,e,c⟩:=G;.inr ⟨x,_,_,_,_,rfl,e,rfl,rfl,c.ok⟩⟩
theorem Inv.unhand{x:Ab}(I:Inv (X.handE x R) b8 σ H s)(G:X.calm=true->X.A.handled=none)(O:HdH X.A H):Inv X b8 σ H s :=
 ⟨⟨I.ok.mod,I.ok.kind,I.ok.glob,I.ok.blt,I.ok.above,I.ok.inj,I.ok.has,I.ok.cab,G,I.ok.frames,I.ok.stk,I.ok.exf,I.ok.bs,I.ok.bsz,I.ok.noex,I.ok.exfs,I.ok.funs,I.ok.frf⟩,I.os,I.bare,I.base,I.loc,I.cell,I.free,I.freeC,I.pin,I.hok,I.len,O⟩
theorem Inv.gone{Z:Str->Option Aa}(I:Inv X b8 σ H s)(hn:h'.Ns X.env.locals Z)(sb:Heap.SameBut X.env.locals s.heap h'):Inv X b8 (σ.map λ_=>none) H { s with heap:=h',toks:=t' }:=by
 have k:∀b o,b≠X.env.locals->s.heap.get? b=some o->h'.get? b=some o:=λb o G e=>sb.extBut b o G e;have W:∀b o,X.s₀.heap.get? b=some o->b≠X.env.locals:=λb o e=>zX (yG (zQ e) I.ok.above);refine⟨I.ok,I.os,I.bare,⟨λb o e n G O=>k b o (W b o e) (I.base.keep b o e n G O),λb o e n G O=>?_,I.base.free,λb o e O=>?_,I.base.tups,I.base.frzs,I.base.tbls⟩,⟨Z,hn,λi x v _ e2 _=>?_⟩,λx c e=>?_,I.free,I.freeC,λp hp=>?_,λb o e=>?_,by rw[zK];exact I.len,I.hdh⟩
 .obtain⟨sl,e1⟩:=I.base.slot b o e n G O;exact⟨sl,k b _ (W b o e) e1⟩
 .obtain⟨o1,e1⟩:=I.base.there b o e O;exact⟨o1,k b _ (W b o e) e1⟩
 .rw[zM] at e2;cases es:σ[i]? with
  | none=>rw[es] at e2;cases e2
  | some v'=>rw[es] at e2;cases e2
 .obtain⟨v,o,ho,hd⟩:=I.cell x c e;exact⟨v,o,k _ _ (I.cne x c e) ho,hd⟩
 .obtain⟨a,b,c,d,e⟩:=I.pin p hp;exact⟨k _ _ c a,b,c,d,e⟩
 .refine(I.hok b o e).stay (λc u hc q=>k c u (λz=>?_) q) (λ_ q=>q) λ_ _ q=>q;have V:=I.free;rw[<-z] at V;rcases hc with w | w
  .rw[w,e] at V;cases V
  .rw[w] at V;cases V
theorem ObjOk.there{o:HO}(x:ObjOk P w H h a o):∃G,h.get? a=some G:=by
 cases o with
 | lst xs=>obtain⟨_,_,_,_,e⟩:=x;exact⟨_,e⟩
 | tup xs=>obtain⟨_,_,_,o,e,_⟩:=x;exact⟨_,e⟩
 | dK kvs=>obtain⟨_,_,_,_,o,_,_,e,_⟩:=x;exact⟨_,e⟩
 | dT kvs=>obtain⟨_,_,_,_,o,_,_,e,_⟩:=x;exact⟨_,e⟩
 | set S n=>obtain⟨o,_,_,_,e,_⟩:=x;exact⟨_,e⟩
 | ins C dx fs=>obtain⟨_,_,_,e,_⟩:=x;exact⟨_,e⟩
 | own y=>exact x
 | xd fs=>obtain⟨_,⟨_,_,_,e,_⟩,_⟩:=x;exact⟨_,e⟩
 | rng lo hi=>obtain⟨_,_,_,e⟩:=x;exact⟨_,e⟩
 | frz G u=>obtain⟨e,_⟩:=x;exact⟨_,e⟩
 | tbl ps=>exact⟨_,x⟩
 | met f y=>exact⟨_,x⟩
 | ext φ=>exact x.2.1
end
def PEX (bx:Bool)(X:Cx)(e:Ah)(t:St->Hp->VK->XK->Prop):Prop :=
 ∀(b8:List (Ab×Obj)) (s:Ac) (σ:St) (H:Hp) (Q:VK) (E:XK),Inv X b8 σ H s->t σ H Q E ->
  wpAny (model X.prog X.w) X.A (eval e X.env) (EP X b8 σ Q) (λv s'=>∃Hc sc,Inv X b8 σ Hc sc/\CXq bx X.prog X.w X.stack Hc sc E v s') s
section
variable {bx:Bool}{X:Cx}{k:Nat}{f C C0:Ab}{fd:Ad}{ps:List Str}{sp:Sp}{x n cx:Str}{p pos p1 np hpos:Pos}{e:Ah}{es:List Ah}{t:TA}
theorem LO(F:FnOk X.prog X.w X.K X.mg X.base (CXq bx X.prog X.w) k f fd ps sp)(hr:Room k X.A)(hg:Gl X x)(hm:X.mg x=some (.ref f))(hk:keepIn X.K (.ref f)=true)(hb:Binds X.K fd ps [])(ha:PA X.nox (e::es) t)(O:X.calm=true:=by rfl)(aa:(x==("__debug__":Str))=false:=by decide)(he:zG (e::es) X.env=(false,eval e X.env)::zG es X.env:=by rfl)(Z:(Ao pos (zG es X.env)).any (·.1)=false:=by rfl):
  PEX bx X (.Call (.Name x p) (e::es) [] pos) (λσ H Q E=>t σ H λvs H1=>sp vs H1 Q E):=by
 intro b8 s σ H Q E I h;refine wpAny_Call_Name_kw (U6 I hg hm ?_ aa);refine callWith_K (h₀:=X.base) I.ok.mod.kin hk (zC (ha pos b8 s σ H _ (I.wish _) h) (λus s1 ac=>?_) λ_ _ z=>z.elim) he Z;obtain⟨vs,H1,G,r,q⟩:=ac;refine⟨G.kIn,?_⟩;have G:Inv X b8 σ H1 s1:=G.unwish;have hl:us.length=ps.length:=by rw[<-r.length];exact F.len _ _ _ _ q
 have W:=hb s1 us G.kIn (by rw[wC];exact hl)
 rw[wC] at W;refine wpAny_call (codeAny_mono (F.run X.A X.stack s1 H1 ⟨us,[]⟩ us vs Q E hr (λ_=>G.ok.hd O) G.env0 W r q) λr' s' V=>?_);cases r' with
 | error e=>exact⟨H1,s1,G,V⟩
 | ok fl =>
  cases fl with
  | ret u=>exact G.after V
  | next=>exact False.elim V
  | brk=>exact False.elim V
  | cont=>exact False.elim V
structure ExcM(K:Frag)(C C0:Ab):Prop where
 c:∃(tl:List Aa) (N:Ab) (nm q:Str) (bs:List Aa) (hdct:Bool) (sn:List Str) (sub:List Aa) (ab:Bool) (col:Option Bool) (dd:Option Ab) (k0 k1 k2 k3 k5:Option Aa) (newId:String),
  K.lookup C=some (excClassObj nm q C N bs tl hdct sn sub ab col dd k0 k1 k2 k3 k5 newId)/\(Value.ref C::tl).contains (.ref C0)=true
 c0:∃(tl:List Aa) (N:Ab) (nm q:Str) (bs:List Aa) (hdct:Bool) (sn:List Str) (sub:List Aa) (ab:Bool) (col:Option Bool) (dd:Option Ab) (k0 k1 k2 k3 k5:Option Aa) (newId:String),
  K.lookup C0=some (excClassObj nm q C0 N bs tl hdct sn sub ab col dd k0 k1 k2 k3 k5 newId)/\tl.contains (.type "BaseException")=true
theorem N2{M:Model}{A:Ag}{y:Ab}{oe:Obj}{Q:Bool->Ac->Prop}(Z:ExcM K C C0)(KX:K.In s.heap)(he:s.heap.get? y=some oe)(hc:oe.cls = .ref C)(hq:Q true s):wpAny M A (excMatches (.ref y) (.ref C0)) Q E s:=by
 obtain⟨tl,N,nm,q,bs,hdct,sn,sub,ab,col,dd,k0,k1,k2,k3,k5,newId,hC,aa⟩:=Z.c;obtain⟨ad,N',ao,q',ah,W,aq,af,am,ag,ai,ap,ak,al,ar,aj,O,ae,ac⟩:=Z.c0;obtain⟨h,g,d,t,os⟩:=s;have gC:=KX _ _ hC;have G:=KX _ _ ae;have V:(Value.ref C0::ad).contains (.type "BaseException")=true:=by rw[List.contains_cons,ac,jD]
 have fT:=tc_notTuple;unfold excMatches
 repeat (first | (with_reducible refine wpAny_loadPart_at he ?_;rw[hc]) | with_reducible refine wpAny_loadPart_at G ?_ | (with_reducible refine wpAny_isSubtype_exc G ?_;rw[V]) | (with_reducible refine wpAny_isSubtype_exc gC ?_;rw[aa]) | wp_step)
 exact hq
theorem Du{fs:List Ab}{g h2 B:Heap}(O:Un fs [] Hc H' g h)(st:B.StaysIn h)(aa:B.StaysIn h2)(ad:∀b o,g.get? b=some o->b∉fs->∃W,B.get? b=some W)(up:h.UpToSlots h2)(fr:∀b∈fs,∃o,g.get? b=some o/\∀vs,o.data ≠ .fields vs)(ff:∀b∈fs,Hc b=none):Un fs [] Hc H' g h2:=by
 have same:∀b o,g.get? b=some o->b∉fs->∀o',h.get? b=some o'->h2.get? b=some o':=λb o e G o' e'=>by
  obtain⟨W,eb⟩:=ad b o e G
  have:=st b W eb
  rw[e'] at this;cases this;exact aa b _ eb
 have slot:∀b o,g.get? b=some o->b∈fs->∃sl,h2.get? b=some { o with slots:=sl }:=λb o e G=>by
  obtain⟨sl,e1⟩:=O.slot b o e (ff b G) G (by simp)
  obtain⟨o2,e2,ac⟩:=fr b G;rw[e] at e2;cases e2;obtain⟨Z,e3⟩:=up b _ e1 ac;exact⟨Z,e3⟩
 refine⟨λb o e n G V=>same b o e G o (O.keep b o e n G V),λb o e n G V=>slot b o e G,O.free,λb o e V=>?_,O.tups,O.frzs,O.tbls⟩;by_cases G:b∈fs
 .obtain⟨sl,e1⟩:=slot b o e G;exact⟨_,e1⟩
 .obtain⟨o1,e1⟩:=O.there b o e V;exact⟨o1,same b o e G o1 e1⟩
def tTry (bx:Bool)(i:Nat)(K:Frag)(C0:Ab)(tc:St->Hp->VK->XK->Prop)(tb:V->St->St)(th:Ab->TS):TS:=λD σ H=>tc σ H (λv H1=>D.nx (tb v σ) H1) λcls d H1=>∃C,cls = .ref C/\ExcM K C C0/\∀x H2,H1 x=none->(∀b,b≠x->H2 b=H1 b)->Held bx H2 x C d ->
 th x { nx:=λ_ _=>False,rt:=D.rt } (σ.set i (some (.ref x))) H2
theorem lands{R:Ab->Aa->Ac->Prop}{D:Ends}{sc:Ac}{v:Aa}{s':Ac}{rest:List ExceptHandler}(hN:X.N.Nodup)(hi:X.N[i]?=some n)(hl:X.env.scope.names.lookup n=some .local)(hg:Gl X cx)(hm:X.mg cx=some (.ref C0))(av:∀x,PSs (X.handE x (R x)) (b₀::suite) (th x))(hR:∀x v s6,R x v s6->AsSuiteRaised (model X.prog X.w) (X.A.mark (some (.ref x))) X.env n hpos (notedBy (model X.prog X.w) (X.A.mark (some (.ref x))) X.env λy s'=>cameBackBy (model X.prog X.w) X.A X.env X.xe y s') v s6)(aw:X.calm=true)(af:X.stack=X.env::X.outer)(au:X.env.frame=some X.env.locals)(ax:(cx==("__debug__":Str))=false)(I:Inv X b8 σ Hc sc)(h:CXq bx X.prog X.w X.stack Hc sc (λcls d H1=>∃C,cls = .ref C/\ExcM X.K C C0/\∀x H2,H1 x=none->(∀b,b≠x->H2 b=H1 b)->Held bx H2 x C d->th x { nx:=λ_ _=>False,rt:=D.rt } (σ.set i (some (.ref x))) H2) v s'):
  wpAny (model X.prog X.w) X.A (noteFrame v X.env) (λ_ s₂=>wpAny (model X.prog X.w) X.A (setFlight v none) (λ_ s₃=>wpAny (model X.prog X.w) X.A (handleBy v X.env (.ExceptHandler (some (.Name cx np)) (some n) (b₀::suite) hpos::rest)) (SP X b8 D) X.xe s₃) X.xe s₂) X.xe s':=by
 obtain⟨x,cls,dd,H',rfl,os,ak,un,a5,⟨B,a0,cs,fl,ay,hB,ad⟩,C,rfl,Z,q⟩:=h;have ac:X.A.frames=some (X.env::X.outer):=by rw[<-af];exact I.ok.frames
 rw[af] at fl;refine Ph ac au fl λh1 f1 u1=>Gw (s:={ s' with heap:=h1 }) f1 λh2 f2 u2=>?_
 have ae:=u1.trans u2;have fr:∀b∈frs X.stack,∃o,sc.heap.get? b=some o/\∀vs,o.data ≠ .fields vs:=λb hb=>(I.stack.mem hb).2;have al:Un (frs X.stack) [] Hc H' sc.heap h2:=Du un fl.1 f2.1 ad ae fr I.stkFree;have O:H' x=none:=by
  cases e:H' x with
  | none=>rfl
  | some o =>
   obtain⟨ob,e1⟩:=ObjOk.there (hB x o e);rw[fl.2.1] at e1;cases e1
 have ag:∀o,CxB bx (upd H' x o) cs.1:=λo=>ay.frzs λb o' u e=>by rw[Z5 (Z1 e O)];exact e
 have W:∀(hh:Heap) (ah:Aa),FlyX B (X.env::X.outer) x (.ref C) a0 dd cs ah hh->Un (frs X.stack) [] Hc H' sc.heap hh->∃T,hh.get? x=some (ExcObjC (.ref C) a0 dd (.ref T) cs)/\Inv X b8 σ (upd H' x (.frz (ExcObjC (.ref C) a0 dd (.ref T) cs) (.ext (excφ x C dd)))) { s' with heap:=hh }:=λhh ah f3 G=>by
  obtain⟨T3,a6,a4,V,_,_,_,_,_⟩:=f3.2.2.2;refine⟨T3,V,?_⟩;have as:∀b o,sc.heap.get? b=some o->b≠x:=λb o e z=>by
   subst z;by_cases hb:b∈frs X.stack
   .obtain⟨o2,e2,ao⟩:=fr b hb;obtain⟨sl,e3⟩:=G.slot b o2 e2 (I.stkFree b hb) hb (by simp)
    rw[V] at e3
    have:=xQ Obj.data (Option.some.inj e3)
    exact ao _ this.symm
   .obtain⟨ob,e1⟩:=ad b o e hb;rw[f3.2.1] at e1;cases e1
  have aq:Un (frs X.stack) [] Hc (upd H' x (.frz (ExcObjC (.ref C) a0 dd (.ref T3) cs) (.ext (excφ x C dd)))) sc.heap hh :=
   ⟨G.keep,G.slot,λb o e n hx=>by rw[Z5 (as b o e)];exact G.free b o e n hx,G.there,λb xs e=>by rw[Z5 (Z1 (G.tups b xs e) O)];exact G.tups b xs e,λb o u e=>by rw[Z5 (Z1 (G.frzs b o u e) O)];exact G.frzs b o u e,
    λb ps e=>by obtain⟨ai,e1⟩:=G.tbls b ps e;exact⟨ai,by rw[Z5 (Z1 e1 O)];exact e1⟩⟩
  have aj:HOk X.prog X.w (upd H' x (.frz (ExcObjC (.ref C) a0 dd (.ref T3) cs) (.ext (excφ x C dd)))) hh:=λb o e=>by
   by_cases hb:b=x
   .subst hb;rw[Z2] at e;cases e;refine⟨V,⟨_,_,_,V⟩,⟨_,V⟩,λg1 g2 a3 k=>?_⟩;obtain⟨a1,tb,c1,e1⟩:=a3;exact⟨a1,tb,c1,k _ e1⟩
   .rw[Z5 hb] at e;exact(hB.kept f3.1 b o e).stay (λ_ _ _ z=>z) (λc z=>by rw[Z5 (Z1 z O)];exact z) λc xs z=>by rw[Z5 (Z1 z O)];exact z
  exact I.call' (ch:=[]) os aq aj ak (λb z=>xX z (by simp))
 obtain⟨T2,am,I2⟩:=W h2 _ f2 al;refine wpAny_handleBy_cons (codeAny_handlers_test ?_) (by intro z;cases z)
 refine U6 (X:=X.hand x) (I2.hand (bx:=bx) ⟨a0,_,_,Z2,ag _⟩) hg hm ?_ ax;refine N2 Z I2.kIn am rfl ?_;refine codeAny_handlers_suite_as ?_;refine Gw (s:={ s' with heap:=h2 }) f2 λh3 f3 u3=>?_
 have G:Un (frs X.stack) [] Hc H' sc.heap h3:=Du un fl.1 f3.1 ad (ae.trans u3) fr I.stkFree;obtain⟨T3,V,I4⟩:=W h3 _ f3 G;have aa:Held bx (upd H' x (.frz (ExcObjC (.ref C) a0 dd (.ref T3) cs) (.ext (excφ x C dd)))) x C dd:=⟨a0,_,_,Z2,ag _⟩;refine J6 (X:=X.handE x (R x)) (I4.hand aa) hN hi (.inl hl) (v:=.ref x) rfl (λs5 I5=>?_) (.inr hl);refine zC (av x b8 s5 _ _ { nx:=λ_ _=>False,rt:=D.rt } I5 (q x _ O (λb hb=>Z5 hb) aa)) (λfl s6 q6=>?_) λv s6 z=>hR x v s6 z;cases fl with
 | next=>obtain⟨_,_,_,z⟩:=q6;exact z.elim
 | brk=>obtain⟨_,_,_,z⟩:=q6;exact z.elim
 | cont=>obtain⟨_,_,_,z⟩:=q6;exact z.elim
 | ret u =>
  obtain⟨v6,σ6,H6,I6,r6,z6⟩:=q6;have I6:Inv X b8 σ6 H6 s6:=I6.unhand I.ok.hd (.inl (I.ok.hd aw));obtain⟨m6,ar,_⟩:=I6.loc;refine wpAny_nameGoes hl ar (by rw[I.ok.kind];rfl) λh7 m7 az ap=>?_
  exact⟨v6,_,H6,I6.gone az ap,r6,z6⟩
theorem KC{y:Str}{call:Ah}{tc:St->Hp->VK->XK->Prop}(G:PEX bx X call tc)(hN:X.N.Nodup)(hj:X.N[j]?=some y)(hy:Loc X.env.scope y)(hi:X.N[i]?=some n)(hl:X.env.scope.names.lookup n=some .local)(hg:Gl X cx)(hm:X.mg cx=some (.ref C0))(Z:∀x,PSs (X.hand x) (b₀::suite) (th x))(V:X.calm=true:=by rfl)(O:X.stack=X.env::X.outer:=by rfl)(W:X.env.frame=some X.env.locals:=by rfl)(hs:swapsWith call (some (.Name y py)) p1.line X.env=pure false:=by rfl)(aa:(cx==("__debug__":Str))=false:=by decide)(hf:X.fn y=true∨X.env.scope.names.lookup y=some .local:=by first | exact .inl rfl | exact .inr rfl):
  PS X (.Try [.Assign [.Name y py] call p1] [.ExceptHandler (some (.Name cx np)) (some n) (b₀::suite) hpos] [] [] pos) (tTry bx i X.K C0 tc (λv σ=>σ.set j (some v)) th):=by
 intro b8 s σ H D I h;refine wpAny_Try_except (wpAny_execs_cons (wpAny_Assign_Name (zC (G b8 s σ H _ _ I h) (λv s1 ac=>?_) λv s1 qy=>by obtain⟨Hc,sc,Ic,hx⟩:=qy;exact lands (R:=λ_ _ _=>False) hN hi hl hg hm Z (λ_ _ _ z=>z.elim) V O W aa Ic hx) hs))
 obtain⟨z,H1,I1,r1,q1⟩:=ac;exact J6 I1 hN hj hy r1 (λs2 I2=>wpAny_execs_nil (wpAny_execs_nil ⟨_,H1,I2,q1⟩)) hf
end
section
variable {X:Cx}
theorem NB(lo hi i:Int):(Builtin.Range.rangePlace? lo hi 1 i).isSome=(decide (lo<=i)&&decide (i<hi)):=by
 unfold Builtin.Range.rangePlace?;simp only[show(1:Int)>0 from by decide,if_true,Int.emod_one,xR,Bool.and_true]
 cases decide (lo<=i) <;> cases decide (i<hi) <;> rfl
theorem Rk:OpR X (Ak .In) (λx y H Q=>∃(i lo hi:Int) (r:Ab),x = .int i/\y = .ref r/\H r=some (.rng lo hi)/\Q (.bl (decide (lo<=i)&&decide (i<hi))) H):=by
 intro b8 s σ H x y v u Q I V ry h;obtain⟨i,lo,hi,r,rfl,rfl,hr,q⟩:=h;obtain⟨t,rfl⟩:=V;obtain rfl:u=Value.ref r:=ry;obtain⟨Z,W,t3,g⟩:=(show ObjOk X.prog X.w H s.heap r (.rng lo hi) from I.hok r _ hr)
 have O:s.TypeIs (.ref r) "range":=⟨_,g,rfl⟩;show wpAny _ _ (do return Value.bool (<- contains (.ref r) (.int i t))) _ _ s
 refine zA ?_;unfold contains
 try with_reducible refine zD ?_
 refine zA (wpAny_specialOf O PySem.F.slot_range_contains.lookup ?_);show wpAny _ _ (if(some (Value.builtin "range.__contains__")==some Value.none)=true then _ else _) _ _ s;rw[xZ (by rw[beq_builtin_none];exact zW)]
 refine zA (wpAny_callSpecialUnlessNone?_slot (name:=Str.ofString "__contains__") O jH
  (wpAny_call_entry jH O PySem.F.entry_range_contains ?_ (PySem.F.args_range_contains_2 _ _)))
 show wpAny _ _ (Builtin.Range.rangeFields (.ref r) >>= λp=>ret (.bool (Builtin.Range.rangePlace? p.1 p.2.1 p.2.2 i).isSome)) _ _ s;unfold Builtin.Range.rangeFields;have G:∀(k:Int) (t:Tok),asInt? (.int k t)=pure (some k):=λk t=>by rfl
 refine zA (zA (wpAny_field g rfl (x:=.int lo Z) rfl ?_));rw[G];refine zA (zB (zA (wpAny_field g rfl (x:=.int hi W) rfl ?_)));rw[G];refine zA (zB (zA (wpAny_field g rfl (x:=.int 1 t3) rfl ?_)));rw[G];refine zA (zB (zB (zB ⟨_,rfl,?_⟩)));show wpAny _ _ (truthy (.bool (Builtin.Range.rangePlace? lo hi 1 i).isSome)) _ _ s;refine wpAny_truthy_bool (zB ?_);rw[NB];exact⟨.bl _,H,I,rfl,q⟩
theorem Tn{α β:Type}{f:α->Option β}{g:α->β}:∀l:List α,(∀k∈l,f k=some (g k))->l.filterMap f=l.map g
 | [],_=>rfl
 | x::r,h=>by rw[yY,h x yJ,yV,Tn r λk G=>h k (yB _ G)]
theorem LM(c9:List Aa):slicePick c9.toArray none none (some (-1))=c9.reverse.toArray:=by
 unfold slicePick;have h1:(sliceBounds none none (some (-1)) c9.toArray.size)=((c9.length:Int)-1,-1,-1):=by
  simp[sliceBounds]
 rw[h1];have h2:sliceRange ((c9.length:Int)-1) (-1) (-1)=(zV c9.length).map λk=>c9.length-1-k:=by
  unfold sliceRange;have W:(if(-1:Int)>0 then if((c9.length:Int)-1) < -1 then(-1-((c9.length:Int)-1) + -1-1) / -1 else 0 else if((c9.length:Int)-1) > -1 then(((c9.length:Int)-1) - -1 - -1-1) / - -1 else 0)=c9.length:=by
   rw[xZ (by decide)]
   by_cases V:(c9.length:Int)-1 > -1
   .rw[xY V]
    have:(- -1:Int)=1:=by decide
    rw[this,Int.ediv_one];lia
   .rw[xZ V];lia
  simp only[W,yE];refine uS λk O=>?_
  have:=xB.mp O
  lia
 show(List.filterMap (λx=>c9.toArray[x]?) (sliceRange ((c9.length:Int)-1) (-1) (-1))).toArray=_;rw[h2];congr 1;rw[List.filterMap_map];refine jB λi=>?_;have e1:((zV c9.length).filterMap ((λx=>c9.toArray[x]?) ∘ λk=>c9.length-1-k))=(zV c9.length).map λk=>(c9[c9.length-1-k]?).getD .none:=by
  refine Tn _ λk O=>?_
  have:=xB.mp O
  have G:c9.length-1-k<c9.length:=by lia
  simp[G]
 rw[e1,zM];by_cases hi:i<c9.length
 .have G:c9.length-1-i<c9.length:=by lia
  rw[uT hi,List.getElem?_reverse hi];simp[G]
 .rw[wQ (by simp;lia),wQ (by simp;lia)];rfl
theorem Vals.rev:∀{xs:List V} {us:List Aa},Vals xs us->Vals xs.reverse us.reverse
 | _,_,.nil=>.nil
 | _,_,.cons r t=>by rw[wA,wA];exact Vals.append (Vals.rev t) (.cons r .nil)
def tRev (K:Frag)(te:TE):TE:=λσ H Q=>te σ H λx H1=>∃a xs,x = .ref a/\SqL K H1 a xs/\∀p,H1 p=none->Q (.ref p) (upd H1 p (.lst xs.reverse))
theorem LT{p3 p4:Pos}{j}(Z:PE X e te):PE X (.Subscript e (.Slice none none (some (.UnaryOp .USub (.Constant (.int 1) j p4) p3)) p2) pos) (tRev X.K te):=by
 intro b8 s σ H Q I h;refine Subscript_ (thn (Z b8 s σ H _ I h) λv s1 G=>?_);obtain⟨x,H1,I1,r1,a,xs,ex,hx,q1⟩:=G;subst ex;obtain rfl:v=Value.ref a:=r1;refine wpAny_Slice ?_;rw[evalPart_none];refine zB (zB ?_);have hs:=(Yf (Mw (X:=X) (pos:=p3) X5 (Z6 (X:=X) (i:=1) (j:=j) (pos:=p4)))) b8 s1 σ H1 (λo H2=>o=some (-1)/\H2=H1) I1 ⟨_,rfl,-1,rfl,rfl,rfl⟩;refine thn hs λvs s2 G=>?_;obtain⟨o,H2,I2,pS,eo,eH⟩:=G;subst eo eH;have O:Inv X b8 σ H2 { s2 with heap:=s2.heap.push { cls:=.type "slice",data:=.fields #[.none,.none,vs] } }:=I2.kept (t':=s2.toks) λb ob q=>zL _ q
 obtain⟨c9,r,V,hz⟩:=O.list hx;have W:=r.length;have hg:wpAny (model X.prog X.w) X.A (getItem (.ref a) (.ref s2.heap.objs.size)) (EP X b8 σ Q) X.xe { s2 with heap:=s2.heap.push { cls:=.type "slice",data:=.fields #[.none,.none,vs] } }:=by
  refine wpAny_getItem_list_slice V.isList (Heap.IsSliceOf.new ..) .none .none pS (by decide) ?_ (by rw[zP] <;> lia)
  rw[LM];refine⟨.ref _,_,O.laid (t':=s2.toks) (o:=.lst xs.reverse) (λb ob q=>zL _ q) (zO _) ?_,rfl,q1 _ (O.hok.fresh (zO _))⟩;exact⟨by rw[wM];exact hz,_,0,Vals.rev r,zU _ rfl⟩
 exact tail_any (ops:=[.ref a,.ref s2.heap.objs.size]) V.isList.typeIs slot_list_getitem.lookup hg (by with_unfolding_all rfl)
end
open PySem.W (CodeHd tabObj)
theorem RA{mb:Str->Option Aa}{fa:Ab}{G:Ac}(KX:K.In G.heap)(ak:G.heap.Ns zE mg)(W:G.heap.Ns builtinsNs mb)(a8:∀x:Str,x≠"__name__"->mb x=bootBuiltins x)(am:G.heap.NoLimit)(hg:G.gens = #[])(hC:CodeHd G.heap c Pt)(hP:G.heap.get? Pt=some (tabObj #[]))(a3:K.lookup Pt=none)(ay:∃bm ob,mg "__builtins__"=some (.ref bm)/\bm≠builtinsNs/\G.heap.get? bm=some ob/\ob.cls = .type "module"/\ob.dict=some builtinsNs/\ob.data = .plain)(ha:G.heap.get? a=some { cls:=.type "list",data:=.seq vs.toArray })(hi:IntsAre vs ns)(hl:ns.length<=zF)(hr:Room k callerA)(F:∀base:Heap,K.In base->base.Ns zE mg->CodeHd base c Pt->base.BuiltinsAt mg Pt->FnOk P w K mg base CX k fa fd [x] sp)(ai:∀(s:Ac) (u:Aa),BindsTo s fd ⟨[u],[]⟩ [(x,u)])(az:∀H:Hp,SqL K H a (ns.map V.int)->H Pt=some (.tbl #[])->sp [.ref a] H (λv _=>v = .bl true) λ_ _ _=>False)(a9:∀H e s',CX [] H G (λ_ _ _=>False) e s'->False):
  codeAny (model P w) callerA (.call (.ref fa) ⟨[.ref a],[]⟩) (λr s'=>r = .ok (.ret (.bool true))/\OldK G.heap s'.heap/\s'.os=G.os/\AllBare s'.gens) G:=by
 have rv:=V7 hi;have as:=hi.length;have ao:a≠Pt:=λz=>by rw[z,hP] at ha;cases ha
 have ah:∀H:Hp,H Pt=some (.tbl #[])->(∀b,b≠Pt->H b=none∨∃o xs,H b=some (.frz o (.lst xs)))->SqL K H a (ns.map V.int)->HOk P w H G.heap->(∀b,H b≠none->b=a∨b=Pt)->(H a≠none->K.lookup a=none) ->
   codeAny (model P w) callerA (.call (.ref fa) ⟨[.ref a],[]⟩) (λr s'=>r = .ok (.ret (.bool true))/\OldK G.heap s'.heap/\s'.os=G.os/\AllBare s'.gens) G:=by
  intro H aw hO hS au hA hK;have O:∀{b:Ab} {o:Obj},G.heap.get? b=some o->H b=none->(hidT G.heap H).get? b=some o:=λe n=>PR e n;have ad:∀{b:Ab} {o:Obj},G.heap.get? b=some o->(∀c9 n,o.data ≠ .seq c9 n)->(∀fs,o.data ≠ .fields fs)->H b=none:=λ{b o} e d1 d2=>by
   cases q:H b with
   | none=>rfl
   | some u =>
    rcases hA b (by rw[q];simp) with e' | e'
    .subst e';rw[ha] at e;cases e;exact xX rfl (d1 _ _)
    .subst e';rw[hP] at e;cases e;exact xX rfl (d2 _)
  have ae:∀{b:Ab} {m:Str->Option Aa},G.heap.Ns b m->(hidT G.heap H).Ns b m:=λ{b m} ⟨o,es,ep,e,d,r⟩=>⟨o,es,ep,O e (ad e (by rw[d];simp) (by rw[d];simp)),d,r⟩
  have aq:K.In (hidT G.heap H):=λb o e=>O (KX b o e) (by
   cases q:H b with
   | none=>rfl
   | some u =>
    rcases hA b (by rw[q];simp) with e' | e'
    .subst e';rw[hK (by rw[q];simp)] at e;cases e
    .subst e';rw[a3] at e;cases e)
  have hM:Mod K mg (hidT G.heap H):=⟨aq,ae ak,⟨mb,ae W,a8⟩,let ⟨mc,h1,h2⟩:=am;⟨mc,ae h1,h2⟩⟩
  have a4:CodeHd (hidT G.heap H) c Pt:=by
   obtain⟨o,a7,ap,tf,al,tg,a6,ar,tt,e1,e2,r⟩:=hC;have a5:c≠Pt:=r.2.2.2.2.2.2.2;refine⟨o,a7,ap,tf,al,tg,a6,ar,tt,O e1 ?_,e2,r⟩;cases q:H c with
   | none=>rfl
   | some u =>
    rcases hA c (by rw[q];simp) with e' | e'
    .subst e';rw[ha] at e1;cases e1;exact xX (show Value.type "list" = .type "code" from e2) (by decide +kernel)
    .exact xX e' a5
  have ax:(hidT G.heap H).BuiltinsAt mg Pt:=by
   obtain⟨bm,ob,b1,b2,b3,b4,b5,b6⟩:=ay;refine⟨bm,ob,b1,b2,λz=>?_,λz=>?_,O b3 (ad b3 (by rw[b6];simp) (by rw[b6];simp)),b4,b5,b6⟩
   .obtain⟨o,es,ep,e,d,_⟩:=ak;rw[z,e] at b3;cases b3;rw[d] at b6;cases b6
   .rw[z,hP] at b3;cases b3;cases b6
  have e0:Env0 P w K mg (hidT G.heap H) callerA [] G H:=⟨rfl,hM,λb o e=>KN e,uM (RF _ _),trivial,λb W=>xX (show b∈([]:List Ab) from W) (by simp),au,.of_eq hg,.inl rfl⟩
  refine codeAny_mono ((F _ aq (ae ak) a4 ax).run callerA [] G H ⟨[.ref a],[]⟩ [.ref a] [.ref a] _ _ hr (λ_=>rfl) e0 (ai G (.ref a)) (.cons rfl .nil) (az H hS aw)) λr s' h=>?_;cases r with
  | error e=>exact(a9 H e s' h).elim
  | ok fl =>
   cases fl with
   | next=>exact False.elim h
   | brk=>exact False.elim h
   | cont=>exact False.elim h
   | ret u =>
    obtain⟨v,H',os,av,un,ag,r',q⟩:=h;have q':v = .bl true:=q;subst q';obtain rfl:u=Value.bool true:=r';obtain⟨ac,aj⟩:=un.tbls Pt _ aw;have gP:s'.heap.get? Pt=some { cls:=.none,data:=.fields (#[]++ac) }:=(show ObjOk P w H' s'.heap Pt (.tbl (#[]++ac)) from ag Pt _ aj)
    have af:∀b o,b≠Pt->G.heap.get? b=some o->s'.heap.get? b=some o:=λb o nb e=>by
     cases q:H b with
     | none=>exact un.keep b o e q (by intro z;exact xX (show b∈([]:List Ab) from z) (by simp)) (by simp)
     | some u =>
      rcases hO b nb with z | ⟨ob,xs,z⟩
      .rw[q] at z;cases z
      .have z2:=un.frzs b ob _ z;obtain⟨e1,_⟩:=au b _ z;obtain⟨e2,_⟩:=ag b _ z2;rw[e] at e1;cases e1;exact e2
    refine⟨rfl,⟨λb o e=>?_,λb o e=>?_⟩,os,av⟩
    .by_cases nb:b=Pt
     .subst nb;rw[hP] at e;cases e;exact .inr (.inl ⟨(hC.tab hP).isCodeTable,rfl,#[],ac,rfl,gP⟩)
     .exact .inl (af b o nb e)
    .by_cases nb:b=Pt
     .exact⟨_,nb▸gP⟩
     .exact⟨o,af b o nb e⟩
 have aa:∀H:Hp,ObjOk P w H G.heap Pt (.tbl #[]):=λH=>hP;cases hk:K.lookup a with
 | some o =>
  have e:=KX a o hk;rw[ha] at e;cases e;refine ah (λb=>if b=Pt then some (.tbl #[]) else none) (xY rfl) (λb nb=>.inl (xZ nb)) (.inr ⟨_,vs.toArray,_,hk,rfl,rfl,rfl,by rw[zP,as];exact hl,by simpa using rv⟩) (λb u z=>?_) (λb z=>?_) λz=>xX (xZ ao) z
  .by_cases W:b=Pt
   .have z':=(xY W).symm.trans z;cases z';subst W;exact aa _
   .have z':=(xZ W).symm.trans z;cases z'
  .by_cases W:b=Pt
   .exact .inr W
   .exact xX (xZ W) z
 | none =>
  refine ah (λb=>if b=Pt then some (.tbl #[]) else if b=a then some (.frz { cls:=.type "list",data:=.seq vs.toArray } (.lst (ns.map V.int))) else none) (xY rfl) (λb nb=>?_) (.inl (.inr ⟨{ cls:=.type "list",data:=.seq vs.toArray },(xZ ao).trans (xY rfl)⟩)) (λb u z=>?_) (λb z=>?_) λ_=>hk
  .by_cases W:b=a
   .exact .inr ⟨_,_,(xZ nb).trans (xY W)⟩
   .exact .inl ((xZ nb).trans (xZ W))
  .by_cases Z:b=Pt
   .have z':=(xY Z).symm.trans z;cases z';subst Z;exact aa _
   .by_cases W:b=a
    .have z':=((xZ Z).trans (xY W)).symm.trans z;cases z';subst W;exact⟨ha,by rw[zK];exact hl,vs,_,rv,ha⟩
    .have z':=((xZ Z).trans (xZ W)).symm.trans z;cases z'
  .by_cases Z:b=Pt
   .exact .inr Z
   .by_cases W:b=a
    .exact .inl W
    .exact xX ((xZ Z).trans (xZ W)) z
theorem RU{l:OpenLaw}{n:Nat}{q:Ae}{aa:List Str}{XP:(Str->Option Aa)->Heap->Prop}{YP:Af->Heap->Prop}{d d0:DefRec}{K:Params->Frag}{CX:Af->CXT}{sp:Af->Sp}{x0:Str}(hn:l.most=some n)(ak:n<=zF)(ai:d.params.defaults=[])(hr:Room k callerA)(hY:∀(w:Af) (h:Heap),YP w h->(K w.params).In h)(ad:(recsOf q).find? (λe=>e.name==x0)=some d0)(ae:∀w:Af,tabIn (K w.params) x0=some (c,Pt))(ag:∀w:Af,(K w.params).lookup Pt=none)(F:∀(w:Af) (mg:Str->Option Aa) (fa:Ab) (h:Heap),(K w.params).In h->h.Ns zE mg->mg d.name=some (.ref fa) ->
 ∃fd:Ad,(∀(s:Ac) (u:Aa),BindsTo s fd ⟨[u],[]⟩ [(x,u)]) /\
 ∀base:Heap,(K w.params).In base->base.Ns zE mg->CodeHd base c Pt->base.BuiltinsAt mg Pt->FnOk l.prog w (K w.params) mg base (CX w) k fa fd [x] (sp w))(ah:∀(w:Af) (H:Hp) (a:Ab) (ns:List Int),ns.length<=n->SqL (K w.params) H a (ns.map V.int)->H Pt=some (.tbl #[])->sp w [.ref a] H (λv _=>v = .bl true) λ_ _ _=>False)(aj:∀(w:Af) (H:Hp) (s:Ac) (e:Aa) (s':Ac),CX w [] H s (λ_ _ _=>False) e s'->False):
  PySem.W.WalkO q aa XP YP l.row.toRowW d [] (λf vs=>PySem.call f vs):=by
 refine Att.attach_call hn ai λw s₀ s₁ mg mb fa o pm cd bw a vs ns G Y ho hd al af ac Z O hg=>?_;have KX:=hY w _ Y;obtain⟨fd,hb,hF⟩:=F w mg fa _ KX G.T.g af;obtain⟨hC,hP⟩:=PySem.W.tab_of G.T KX ad (ae w);exact RA KX G.T.g G.T.b G.T.builtins G.T.nolimit hg hC hP (ag w) G.T.bmain ac Z (yU O ak) hr hF hb (λH hS hT=>ah w H a ns O hS hT) λH e s'=>aj w H s₁ e s'
open PySem.W (InstAt KitX kitOne findIn looks_findIn looks_find)
section
variable {M:Model}{A:Ag}{EE:Aa->Ac->Prop}{s:Ac}{B:Heap}{env:Env}{outer l:List Env}{L x:Ab}{cls a0 tb fl:Aa}{dd:Option Ab}{cs:Aa×Aa}{Q:Unit->Ac->Prop}
end
section
variable {bx:Bool}{P:Ae}{w:Af}{K:Frag}{mg:Str->Option Aa}{base:Heap}{N:List Str}{qual:Str}{scope:Aj}{f:Ab}{cd:Aa}{A:Ag}{outer:List Env}{s₀:Ac}{H₀:Hp}{E:XK}
end
section
variable {prog:Ae}{w:Af}{A:Ag}{EE:Aa->Ac->Prop}{s:Ac}
end
section
variable {X:Cx}{e:Ah}{te:TE}{p p2 pos pos2:Pos}
theorem Df{p:Ab}(I:Inv X b8 σ H s)(Z:SqL X.K H p (ns.map V.int)):∃ys:Array (Int×Tok),s.heap.IsList p (intItems ys)/\ns=ys.toList.map (·.1):=by
 obtain⟨c9,W,O,hz⟩:=I.list Z;have hi:IntsAre c9 ns:=JX W;obtain⟨ys,G⟩:=hi.allInts.items;refine⟨ys,G▸O.isList,?_⟩;rw[<-nums_intItems,<-G];exact(show numsOf c9.toArray.toList=ns from hi.numsOf).symm
end
section
variable {prog:Ae}{w:Af}{A:Ag}{E:Aa->Ac->Prop}{env:Env}{nm q:Str}{C N:Ab}{bs bm:List Aa}{hdct:Bool}{sn:List Str}{sub:List Aa}{ab:Bool}{col:Option Bool}{dd:Option Ab}{k0 k1 k2 k3 k5:Option Aa}{newId:String}
end
section
variable {bx:Bool}{P:Ae}{w:Af}{K:Frag}{mg:Str->Option Aa}{base:Heap}{N:List Str}{qual:Str}{scope:Aj}{f0:Ab}{cd:Aa}{A:Ag}{outer:List Env}{s₀:Ac}{H₀:Hp}{E:XK}
end
section
variable {bx:Bool}{P:Ae}{w:Af}{K:Frag}{mg:Str->Option Aa}{base:Heap}{N:List Str}{qual:Str}{scope:Aj}{f0:Ab}{cd:Aa}{A:Ag}{outer:List Env}{s₀:Ac}{H₀:Hp}{E:XK}
end
section
variable {bx:Bool}{X:Cx}{k i:Nat}{f:Ab}{fd:Ad}{ps:List Str}{sp:Sp}{x:Str}{p pos:Pos}{e:Ah}{es:List Ah}{t:TA}
end
theorem Nc(G:Nat->Int):∀(n j:Nat),j<=n->G j<=G (argBest (λi j=>decide (G i>G j)) n):=by
 intro n
 induction n with
 | zero =>
  intro j W;have e:j=0:=by lia
  subst e;exact wX _
 | succ n O =>
  intro j W;unfold argBest;by_cases V:G (n+1)>G (argBest (λi j=>decide (G i>G j)) n)
  .rw[xY (xV V)];by_cases e:j=n+1
   .subst e;exact wX _
   .have:=O j (by lia);lia
  .rw[xZ (by simpa using V)]
   by_cases e:j=n+1
   .subst e;lia
   .exact O j (by lia)
section
variable {X:Cx}
theorem RO(hc:X.calm=true):Jt X (.builtin "max") (λxs H Q=>∃(p:Ab) (ns:List Int),xs=[.ref p]/\SqL X.K H p (ns.map V.int)/\ns≠[]/\∀v,(∀x∈ns,x<=v)->Q (.int v) H):=by
 intro b8 s σ H xs us Q I r h;obtain⟨p,ns,rfl,hq,G,q⟩:=h;obtain⟨u,rfl,O⟩:=JN r;cases O;obtain⟨ys,hl,rfl⟩:=Df I hq;have hpos:0<ys.size:=Nat.pos_of_ne_zero λz=>G (by rw[show ys = #[] from Array.size_eq_zero_iff.mp z];rfl)
 refine max_intList (I.ok.hd hc) hl hpos λv h' tk W hk=>?_;obtain⟨t,rfl⟩:=intItems_at W;refine⟨.int _,H,I.kept (t':=tk) hk,⟨t,rfl⟩,q _ λx Z=>?_⟩;obtain⟨y,hy,rfl⟩:=yK.mp Z;obtain⟨i,hi,rfl⟩:=xO.mp hy;rw[yD] at hi
 have:=Nc (numAt ys) (ys.size-1) i (by lia)
 have e:numAt ys i=(ys.toList[i]'(by simpa using hi)).1:=by simp[numAt,hi]
 rw[<-e];exact this
end
def Rise (xs:Array Nat):Prop:=∀i j (hj:j<xs.size) (h:i<j),xs[i]'(by lia)<xs[j]
theorem XT(xs:Array Nat)(j:Nat)(O:Rise xs):∀fuel lo hi,lo<=hi->hi<=xs.size->hi-lo<=fuel->(∀i (h:i<xs.size),i<lo->xs[i]<j)->(∀i (h:i<xs.size),hi<=i->j<=xs[i]) ->
  SetTable.below.go xs j fuel lo hi<=xs.size/\(∀i (h:i<xs.size),i<SetTable.below.go xs j fuel lo hi->xs[i]<j)/\(∀i (h:i<xs.size),SetTable.below.go xs j fuel lo hi<=i->j<=xs[i])
 | 0,lo,hi,h1,h2,h3,a,b=>by
  have:lo=hi:=by lia
  subst this;exact⟨h2,a,b⟩
 | fuel+1,lo,hi,h1,h2,h3,a,b=>by
  unfold SetTable.below.go;by_cases G:lo<hi
  .rw[xY G];have W:(lo+hi) / 2<xs.size:=by lia
   have e:xs.getD ((lo+hi) / 2) j=xs[(lo+hi) / 2]:=by simp[W]
   dsimp only;rw[e];by_cases V:xs[(lo+hi) / 2]<j
   .rw[xY V];refine XT xs j O fuel _ _ (by lia) h2 (by lia) (λi h g=>?_) b
    by_cases e:i=(lo+hi) / 2
    .subst e;exact V
    .have:=O i ((lo+hi) / 2) W (by lia)
     lia
   .rw[xZ V];refine XT xs j O fuel _ _ (by lia) (by lia) (by lia) a (λi h g=>?_)
    by_cases e:i=(lo+hi) / 2
    .subst e;lia
    .have:=O ((lo+hi) / 2) i h (by lia)
     lia
  .rw[xZ G]
   have:lo=hi:=by lia
   subst this;exact⟨h2,a,b⟩
theorem XR(G:Rise xs)(j:Nat):SetTable.below xs j<=xs.size/\(∀i (h:i<xs.size),i<SetTable.below xs j->xs[i]<j)/\(∀i (h:i<xs.size),SetTable.below xs j<=i->j<=xs[i]):=
 XT xs j G xs.size 0 xs.size (xD _) (zO _) (by lia) (λi h g=>by lia) λi h g=>by lia
theorem XS(G:Rise xs)(V:k<=xs.size)(h1:∀i (h:i<xs.size),i<k->xs[i]<j)(h2:∀i (h:i<xs.size),k<=i->j<=xs[i]):SetTable.below xs j=k:=by
 obtain⟨O,b1,b2⟩:=XR G j;rcases Nat.lt_trichotomy (SetTable.below xs j) k with h | h | h
 .have:=b2 _ (by lia) (zO _)
  have:=h1 (SetTable.below xs j) (by lia) h
  lia
 .exact h
 .have:=b1 k (by lia) h
  have:=h2 k (by lia) (zO _)
  lia
theorem Dr(G:Rise xs):SetTable.below xs 0=0:=XS G (xD _) (λi h g=>by lia) λi h g=>xD _
theorem Ds(G:Rise xs)(O:k<xs.size):SetTable.below xs (xs[k]+1)=k+1:=XS G O (λi h g=>by
  by_cases e:i=k
  .subst e;lia
  .have:=G i k O (by lia);lia) λi h g=>by
  have:=G k i h (by lia);lia
theorem Mr(Z:Rise xs)(hn:∀i (h:i<xs.size),xs[i]≠j):Rise (SetTable.insertAt xs (SetTable.below xs j) j):=by
 obtain⟨b0,b1,b2⟩:=XR Z j;generalize SetTable.below xs j=p at b0 b1 b2;have hz:(SetTable.insertAt xs p j).size=xs.size+1:=by unfold SetTable.insertAt;simp;lia
 have at_:∀i (h:i<(SetTable.insertAt xs p j).size),(SetTable.insertAt xs p j)[i]?=if i<p then xs[i]? else if i=p then some j else xs[i-1]?:=by
  intro i h;rw[hz] at h;unfold SetTable.insertAt;rw[Array.getElem?_append];have s1:((xs.extract 0 p).push j).size=p+1:=by simp;lia
  rw[s1];by_cases h1:i<p
  .rw[xY (by lia),xY h1,gB,xZ (by simp;lia),qJ,xY (by lia),uK]
  .rw[xZ h1];by_cases h2:i=p
   .subst h2;rw[xY (by lia),xY rfl,gB,xY (by simp;lia)]
   .rw[xZ (by lia),xZ h2,qJ,xY (by lia)]
    congr 1;lia
 intro a b hb aa;have O:=at_ a (by lia)
 have G:=at_ b hb;rw[getElem?_pos _ a (by lia)] at O
 rw[getElem?_pos _ b hb] at G;rw[hz] at hb;by_cases a1:a<p
 .rw[xY a1,getElem?_pos xs a (by lia)] at O
  have O:=Option.some.inj O;by_cases V:b<p
  .rw[xY V,getElem?_pos xs b (by lia)] at G
   have G:=Option.some.inj G;rw[O,G];exact Z a b _ aa
  .rw[xZ V] at G;by_cases W:b=p
   .rw[xY W] at G;have G:=Option.some.inj G;rw[O,G];exact b1 a (by lia) a1
   .rw[xZ W,getElem?_pos xs (b-1) (by lia)] at G
    have G:=Option.some.inj G;rw[O,G];exact Z a (b-1) (by lia) (by lia)
 .rw[xZ a1] at O;by_cases a2:a=p
  .rw[xY a2] at O;have O:=Option.some.inj O;rw[xZ (by lia),xZ (by lia),getElem?_pos xs (b-1) (by lia)] at G
   have G:=Option.some.inj G;rw[O,G]
   have:=b2 (b-1) (by lia) (by lia)
   have:=hn (b-1) (by lia)
   lia
  .rw[xZ a2,getElem?_pos xs (a-1) (by lia)] at O
   have O:=Option.some.inj O;rw[xZ (by lia),xZ (by lia),getElem?_pos xs (b-1) (by lia)] at G
   have G:=Option.some.inj G;rw[O,G];exact Z (a-1) (b-1) (by lia) (by lia)
theorem Ny(n:Nat):Rise (Array.range n):=λi j G h=>by simpa using h
theorem Nz(a b:Nat)(c:Bool):Rise (SetTable.fresh a b c).place:=λi j G h=>by
 have:j<0:=G
 lia
theorem R9{l:List Nat}(h:l.Pairwise (·<·)):Rise l.toArray:=λi j O G=>by
 have:=List.pairwise_iff_getElem.mp h i j (by simp at O;lia) (by simpa using O) G
 simpa using this
theorem E5(G:Rise xs)(h:(xs[SetTable.below xs j]?==some j)=false):∀i (h:i<xs.size),xs[i]≠j:=λi hi e=>by
 obtain⟨W,b1,b2⟩:=XR G j
 have:SetTable.below xs j=i:=XS G (by lia) (λk O g=>by have:=G k i hi g;lia) λk O g=>by
  by_cases V:k=i
  .subst V;lia
  .have:=G i k O (by lia);lia
 rw[this,getElem?_pos xs i hi,e] at h;simp at h
theorem Vq(t:SetTable)(G:Nat->Int)(h:Int):∀fuel (p:SetTable.Probe) j d,(∀O,p.dummy=some O->(t.place[SetTable.below t.place O]?==some O)=false)->SetTable.probe.go t G h fuel p=some (.empty j d) ->
  (t.place[SetTable.below t.place j]?==some j)=false/\∀O,d=some O->(t.place[SetTable.below t.place O]?==some O)=false
 | 0,p,j,d,hd,e=>by unfold SetTable.probe.go at e;cases e
 | fuel+1,p,j,d,hd,e=>by
  unfold SetTable.probe.go at e;have hs:∀x,t.slot x=(if t.place[SetTable.below t.place x]?==some x then SetTable.Slot.live (SetTable.below t.place x) else if SetTable.has t.dummies x then .dummy else .empty):=λx=>rfl;have V:∀q:SetTable.Probe,(t.advance q).dummy=q.dummy:=λq=>by unfold SetTable.advance;split <;> rfl
  cases Z:(t.place[SetTable.below t.place p.j]?==some p.j) with
  | true =>
   have e1:=hs p.j;rw[Z,xY rfl] at e1;rw[e1] at e;dsimp only at e;split at e
   .cases e
   .exact Vq t G h fuel _ j d (by rw[V];exact hd) e
  | false =>
   have e1:=hs p.j;rw[Z,xZ zW] at e1;cases W:SetTable.has t.dummies p.j with
   | true =>
    rw[W,xY rfl] at e1;rw[e1] at e;exact Vq t G h fuel _ j d (by rw[V];intro O z;cases z;exact Z) e
   | false =>
    rw[W,xZ zW] at e1;rw[e1] at e;cases e;exact⟨Z,hd⟩
theorem JD(t:SetTable)(n:Nat):Rise (t.standIn n).place:=Ny n
theorem Ky(h:Rise t.place)(n:Nat):Rise (t.orStandIn n).place:=by
 unfold SetTable.orStandIn;split
 .exact h
 .exact JD t n
theorem LC(O:Rise t.place)(es:Array (Int×Aa))(h:Int)(x:Aa):Rise (layNew t es h x).2.1.place:=by
 unfold layNew;split
 .rename_i slot W e;refine Ky ?_ _;show Rise (SetTable.insertAt t.place (SetTable.below t.place slot) slot);refine Mr O (E5 O ?_);unfold SetTable.freeSlot at e;split at e
  .rename_i j G e2;obtain⟨a1,a2⟩:=Vq t _ h _ _ _ _ (λV z=>by cases z) e2
   cases e;cases G with
   | none=>exact a1
   | some d=>exact a2 d rfl
  .cases e
 .exact JD t _
theorem Nx(es:Array (Int×Aa))(n:Nat):Rise (relayAll t es n).2.1.place:=by
 unfold relayAll;split
 .rename_i t' V e;dsimp only;split
  .unfold SetTable.relaid SetTable.laid at e;cases O:SetTable.layClean (SetTable.sizeAbove n-1) (es.map (·.1)) with
   | none=>rw[O] at e;cases e
   | some owner =>
    rw[O] at e;cases e;refine R9 ?_
    have:∀(l:List Nat),l.Pairwise (·<·)->((l.filterMap λj=>(owner.getD j none).map (j,·)).map (·.1)).Pairwise (·<·):=by
     intro l O
     induction l with
     | nil=>exact List.Pairwise.nil
     | cons a l W =>
      obtain⟨h1,h2⟩:=List.pairwise_cons.mp O;rw[yY];cases Z:owner.getD a none with
      | none=>simpa[Z] using W h2
      | some v =>
       simp only[Z,wS,yV];refine List.pairwise_cons.mpr ⟨λb hb=>?_,W h2⟩;obtain⟨q,hq,rfl⟩:=yK.mp hb;obtain⟨z,hz,e⟩:=vV.mp hq;cases G:owner.getD z none with
       | none=>rw[G] at e;cases e
       | some u=>rw[G] at e;cases e;exact h1 z hz
    exact this _ uH
  .exact JD t _
 .exact JD t _
theorem T9{α:Type}(next:Nat->Nat):∀(fuel k:Nat) (left:List α) (out:Array α),left.length=fuel->(pickOrder.go next fuel k left out).toList.Perm (out.toList++left)
 | 0,k,left,out,h=>by
  have:left=[]:=uA.mp h
  subst this;unfold pickOrder.go;simp
 | fuel+1,k,left,out,h=>by
  unfold pickOrder.go;have G:next k % left.length<left.length:=Nat.mod_lt _ (by lia)
  rw[zN G];dsimp only;refine(T9 next fuel (k+1) _ _ (by rw[qX,xY G];lia)).trans ?_
  rw[Array.toList_push,yX];refine List.Perm.append_left _ ?_;generalize next k % left.length=i at G
  have e2:left=left.take i++left[i]::left.drop (i+1):=by
   rw[<-xH G,xI]
  rw[jG];refine List.Perm.trans ?_ (List.Perm.of_eq e2.symm);exact(List.perm_middle (l₁:=left.take i) (a:=left[i]) (l₂:=left.drop (i+1))).symm
theorem Rh{α:Type}(next:Nat->Nat)(xs:Array α):(pickOrder next xs).toList.Perm xs.toList:=by
 unfold pickOrder
 have:=T9 next xs.size 0 xs.toList #[] (by simp)
 simpa using this
section
variable {prog:Ae}{w:Af}{A:Ag}{E:Aa->Ac->Prop}{s:Ac}
def Yu(w:Af):Bool:=w.params.followText "set-order"
structure JZ(prog:Ae)(w:Af)(h:Heap)(a:Ab)(vs:List Aa)(es:Array (Int×Aa))(ep:Nat)(t:SetTable):Prop where
 at_:h.get? a=some { cls:=.type "set",dict:=none,data:=.set es ep t }
 el:ElemsOf (intKind prog w) es.toList
 pm:(es.toList.map (·.2)).Perm vs
 few:es.size<scanBound
 fit:t.fits es.size=true
 rise:Rise t.place
 led:t.led = !Yu w
def SetV (prog:Ae)(w:Af)(h:Heap)(a:Ab)(vs:List Aa):Prop:=∃es ep t,JZ prog w h a vs es ep t
theorem KQ(t:SetTable)(es:Array (Int×Aa))(h:Int)(x:Aa):(layNew t es h x).2.1.led=t.led:=by
 unfold layNew;split
 .dsimp only;unfold SetTable.orStandIn;split <;> rfl
 .rfl
theorem Ra(t:SetTable)(es:Array (Int×Aa))(n:Nat):(relayAll t es n).2.1.led=t.led:=by
 unfold relayAll;split
 .rename_i t' G e;dsimp only;split
  .unfold SetTable.relaid SetTable.laid at e;cases O:SetTable.layClean (SetTable.sizeAbove n-1) (es.map (·.1)) with
   | none=>rw[O] at e;cases e
   | some owner=>rw[O] at e;cases e;rfl
  .rfl
 .rfl
theorem RH{n:Nat}{b:Bool}(h:t.fits n=true):({ t with plain:=b }:SetTable).fits n=true:=by cases t;exact h
theorem JZ.store{V:List Aa}{G:Array (Int×Aa)}{t':SetTable}(S:JZ prog w h a vs es ep t)(el:ElemsOf (intKind prog w) G.toList)(pm:(G.toList.map (·.2)).Perm V)(W:G.size<scanBound)(Z:t'.fits G.size=true)(O:Rise t'.place)(aa:t'.led=t.led):
  JZ prog w (h.update a (Obj.putSet G t')) a V G (ep+1) t':=by
 refine⟨?_,el,pm,W,Z,O,aa.trans S.led⟩
 have:=yS (Obj.putSet G t') S.at_ (by rw[putSet_of G t' rfl];rfl)
 rw[putSet_of G t' rfl] at this;exact this
theorem Mm{x:Aa}{k:Int}{Q:Bool->Ac->Prop}(S:SetV prog w s.heap a vs)(hk:(intKind prog w).is k x=true)(ad:x.scannable=true)(hn:∀v∈vs,(intKind prog w).is k v=false)(ai:vs.length+1<scanBound)(h:∀h' tk,Heap.SameBut a s.heap h'->SetV prog w h' a (vs++[x])->Q true { s with heap:=h',toks:=tk }):wpAny (model prog w) A (setAdd a x) Q E s:=by
 obtain⟨es,ep,t,S⟩:=S;have hz:es.size=vs.length:=by have:=S.pm.length_eq;rwa[zK,yD] at this
 unfold setAdd;refine zD (zA ((intKind prog w).pyHash hk ?_));unfold setAddHashed setAddHashedIn;refine zD (zA (wpAny_setState_of S.at_ rfl S.fit ?_));dsimp only;rw[byScan_of ad S.few S.el,xY rfl];unfold setAddByScan;refine zA (zA (wpAny_rule (zA (wpAny_setScan_of hk S.at_ rfl S.fit S.el ?_))));have ac:qG (λe=>(intKind prog w).is k e.2) es.toList=none:=jX.mpr λe he=>hn e.2 (S.pm.mem_iff.mp (List.mem_map_of_mem he));rw[ac];dsimp only;have hp:=layNew_perm t es ((intKind prog w).hash k) x;have hf:=layNew_fits t es ((intKind prog w).hash k) x;have hr:=LC S.rise es ((intKind prog w).hash k) x;have hl:=KQ t es ((intKind prog w).hash k) x;generalize layNew t es ((intKind prog w).hash k) x=L at hp hf hr hl ⊢;obtain⟨G,t1,wd,aj⟩:=L;dsimp only at hp hf hr hl ⊢;rw[Array.toList_push] at hp;have gw:∀(b:Bool) {s₁:Ac} {Q':Unit->Ac->Prop},Q' () s₁->wpAny (model prog w) A (match b with | true=>rule "set.scan.the-table-gave-way" | false=>pure ()) Q' E s₁:=by
  intro b s₁ Q' hq;cases b
  .exact zB hq
  .exact wpAny_rule hq
 have ag:ElemsOf (intKind prog w) G.toList:=(S.el.push hk ad).perm hp;have pm1:(G.toList.map (·.2)).Perm (vs++[x]):=by
  refine(hp.map _).trans ?_;rw[zZ];exact S.pm.append_right _
 have z1:G.size=vs.length+1:=by
  have:=pm1.length_eq
  rwa[zK,yD,zR] at this
 have W:G.size<scanBound:=by lia
 refine zA (gw _ ?_);have Z:∀O:SetTable,O.fits G.size=true->Rise O.place->O.led=t.led->∀{f:Option Bool->Sem Bool},f (some true)=pure true ->
   wpAny (model prog w) A (storeSet a G O >>= λ_=>if(!wd&&O.tooFull)=true then(match (relayAll O G (SetTable.grown G.size)).2.2 with | true=>rule "set.scan.the-table-gave-way" | false=>pure ()) >>= λ_=>storeSet a (relayAll O G (SetTable.grown G.size)).1 (relayAll O G (SetTable.grown G.size)).2.1 >>= λ_=>pure (some true) else pure (some true)) (λr s'=>wpAny (model prog w) A (f r) Q E s') E { s with toks:=s.toks+1 }:=by
  intro O f2 r2 l2 f ef;refine zA (wpAny_storeSet_of S.at_ rfl ?_ (fits_of_scanBound W));have S1:=S.store ag pm1 W f2 r2 l2;have b1:=Heap.SameBut.update s.heap a (Obj.putSet G O);split
  .have V:=relayAll_perm O G (SetTable.grown G.size);have af:=relayAll_fits O G (SetTable.grown G.size);have aa:=Nx (t:=O) G (SetTable.grown G.size);have ae:=Ra O G (SetTable.grown G.size);generalize relayAll O G (SetTable.grown G.size)=R at V af aa ae ⊢;obtain⟨ah,t3,g2⟩:=R;dsimp only at V af aa ae ⊢;have z2:ah.size<scanBound:=by
    have:=V.length_eq
    rw[yD,yD] at this;lia
   refine zA (gw _ ?_);refine zA (wpAny_storeSet_of S1.at_ rfl ?_ (fits_of_scanBound z2));refine zB ?_;rw[ef];exact zB (h _ _ (b1.trans (Heap.SameBut.update _ a _)) ⟨_,_,_,S1.store (ag.perm V) ((V.map _).trans pm1) z2 af aa ae⟩)
  .refine zB ?_;rw[ef];exact zB (h _ _ b1 ⟨_,_,_,S1⟩)
 split
 .refine zA ?_;rw[hashByValue_scannable 8 ad];refine zB ?_;refine Z _ ?_ ?_ ?_ rfl
  .split
   .exact hf
   .exact RH hf
  .split
   .exact hr
   .exact hr
  .split
   .exact hl
   .exact hl
 .refine zA (zB ?_);rw[xY rfl];exact Z _ hf hr hl rfl
end
section
variable {prog:Ae}{w:Af}{A:Ag}{E:Aa->Ac->Prop}{s:Ac}
theorem SetV.keep(S:SetV prog w h a vs)(k:∀o,h.get? a=some o->h'.get? a=some o):SetV prog w h' a vs:=by
 obtain⟨es,ep,t,S⟩:=S;exact⟨es,ep,t,k _ S.at_,S.el,S.pm,S.few,S.fit,S.rise,S.led⟩
theorem KP(a:Aa){Q₁:Aa->Ac->Prop}(h:Q₁ (.ref s.heap.objs.size) { s with heap:=s.heap.push { cls:=.type "set",dict:=none,data:=.set #[] 0 (.fresh 0 0 (!Yu w)) } }):
  codeAny (model prog w) A (.call (.builtin "set.__new__") ⟨[.type "set",a],[]⟩) (wants Q₁ E) s:=by
 refine codeAny_of_tree ?_;show wpAny _ A.in1 (checkBuiltinCall "set.__new__" ⟨[.type "set",a],[]⟩ >>= λ_=>again (.builtin "set.__new__" ⟨[.type "set",a],[]⟩)) _ _ _;refine zA (wpAny_of_eq (PySem.F.newCall_set_1 a) (zB ⟨plainId_quiet qC _,codeAny_builtin PySem.F.entry_set_new ?_⟩));rw[Around.under_plainId qC _];unfold Builtin.«set.__new__» Builtin.Frozenset.newClass;have G:=sub_set_self;obtain⟨O,g,d,tk,os⟩:=s
 try dsimp only
 wp_walk
 refine wpAny_askSetting (zB ?_)
 try dsimp only
 simp only[newObj];exact zA (wpAny_alloc (zB (zB h)))
end
theorem J7:Slot "set_iterator" "__next__" "set_iterator.__next__":=.of (owner:="set_iterator") (n:="__next__") (by rw[typeLookup_type,builtinLookup_eq_fast];kernel_rfl) (by decide +kernel) (by decide +kernel) (by decide +kernel) (by first | exact .inl (by decide +kernel) | exact .inr (by decide +kernel)) (by rw[isSubtype_type];kernel_rfl)
theorem VH:entryFor table "set_iterator.__next__"=some Builtin.«set_iterator.__next__»:=entryFor_of_tree (by kernel_rfl)
theorem Mj:Manifest.owners.lookup (String.ofList ['r','o','t','a','r','e','t','i','_','t','e','s'].reverse)=some Manifest.sig_set_iterator:=by kernel_rfl
theorem QO(a:Aa):argsOk "set_iterator.__next__" ⟨[a],[]⟩:=by
 unfold argsOk;rw[signature?_of (id:="set_iterator.__next__") (n:=['_','_','t','x','e','n','_','_']) (o:=['r','o','t','a','r','e','t','i','_','t','e','s']) (by kernel_rfl) Mj]
 kernel_rfl
theorem Xb:entryFor table "set.__iter__"=some Builtin.«frozenset.__iter__»:=entryFor_alias (id':="frozenset.__iter__") (by kernel_rfl) rfl (by decide +kernel) (by kernel_rfl)
section
variable {prog:Ae}{w:Af}{A:Ag}{E:Aa->Ac->Prop}{s:Ac}
theorem XZ{M:Model}{G:Source}{n:Nat}{Q:Nat->Ac->Prop}(O:n≠0)(h:∀i d,i<n->Q i { s with drawn:=d }):wpAny M A (choose G n) Q E s:=λΓ p _=>by
 show Sem.wp M Γ (.choose G n .pure) _ _ p s;rw[Sem.wp_choose];exact⟨O,h _ _ (Nat.mod_lt _ (Nat.pos_of_ne_zero O))⟩
theorem Qt{α:Type}{M:Model}:∀(n:Nat) (xs:List α) {s:Ac} {Q:List α->Ac->Prop},xs.length=n->(∀ys d,ys.Perm xs->Q ys { s with drawn:=d })->wpAny M A (drawOrder n xs) Q E s
 | 0,xs,s,Q,hl,h=>by
  have:xs=[]:=uA.mp hl
  subst this;unfold drawOrder;exact zB (h [] s.drawn List.Perm.nil)
 | n+1,[],s,Q,hl,h=>by cases hl
 | n+1,x::xs,s,Q,hl,h=>by
  unfold drawOrder;refine zA (XZ (by rw[hl];lia) λi d hi=>?_)
  rw[zN hi];refine zA (Qt n ((x::xs).eraseIdx i) (by rw[qX,xY hi];lia) λys O G=>?_)
  refine zB (h _ _ ((G.cons _).trans ?_));have e2:x::xs=(x::xs).take i++(x::xs)[i]::(x::xs).drop (i+1):=by rw[<-xH hi,xI]
  rw[jG];refine List.Perm.trans ?_ (List.Perm.of_eq e2.symm);exact(List.perm_middle (l₁:=(x::xs).take i) (a:=(x::xs)[i]) (l₂:=(x::xs).drop (i+1))).symm
def SIt (h:Heap)(I:Ab)(f:Aa)(i:Nat)(a:Ab)(n ep:Nat):Prop:=∃o,h.get? I=some o/\o.cls = .type "set_iterator"/\o.data = .fields #[f,.int i 0,.ref a,.int n 0,.int ep 0]
theorem SIt.ty{f:Aa}{n:Nat}(h:SIt s.heap I f i a n ep):s.TypeIs (.ref I) "set_iterator":=let ⟨o,e,c,_⟩:=h;⟨o,e,c⟩
def slotAt(w:Af)(t:SetTable)(i:Nat):Nat:=if Yu w=true∨i=0 then 0 else t.place.getD (i-1) 0+1
def JM(w:Af)(a:Ab)(es:Array (Int×Aa))(ep:Nat):Array (Int×Aa):=if Yu w=true then pickOrder (w.params.setOrder a ep) es else es
theorem JL(w:Af)(a:Ab)(es:Array (Int×Aa))(ep:Nat):(JM w a es ep).toList.Perm es.toList:=by
 unfold JM;split
 .exact Rh _ _
 .exact List.Perm.refl _
theorem Nr(G:Rise t.place)(hi:i<=t.place.size)(V:Yu w=false):SetTable.below t.place (slotAt w t i)=i:=by
 unfold slotAt;cases i with
 | zero=>rw[xY (.inr rfl)];exact Dr G
 | succ k =>
  rw[xZ (by rw[V];rintro(z | z) <;> cases z)]
  have O:k<t.place.size:=by lia
  have e:t.place.getD (k+1-1) 0=t.place[k]:=by simp[O]
  rw[e];exact Ds G O
def Vy(w:Af)(es:Array (Int×Aa))(t:SetTable):Bool:=!Yu w&&(!t.plain&&decide (es.size>1))
theorem UQ{Q:Option (Aa×Nat)->Ac->Prop}(S:JZ prog w s.heap a vs es ep t)(W:Vy w es t=false)(hi:i<=es.size)(h:Q (((JM w a es ep)[i]?).map λe=>(e.2,slotAt w t (i+1))) s):wpAny (model prog w) A (setNext a (slotAt w t i) i ep) Q E s:=by
 have hz:t.place.size=es.size:=by
  have:=S.fit
  unfold SetTable.fits at this;simpa using (Bool.and_eq_true_iff.mp this).1
 have aa:(JM w a es ep).size=es.size:=by have:=(JL w a es ep).length_eq;rwa[yD,yD] at this
 unfold setNext;refine zA (wpAny_setState_of S.at_ rfl S.fit ?_);dsimp only;unfold setsByText;refine zA (zA (wpAny_askSetting (zB ?_)));show wpAny _ _ (if Yu w=true then _ else _) _ _ _;cases G:Yu w with
 | true =>
  rw[xY rfl];show wpAny _ _ (if(ep != ep)=true then _ else _) _ _ _;rw[xZ (by simp)]
  unfold setWalk setsByText;refine zA (zA (wpAny_setState_of S.at_ rfl S.fit ?_));dsimp only;refine zA (zA (wpAny_askSetting (zB ?_)));show wpAny _ _ (if Yu w=true then _ else _) _ _ _;rw[G,xY rfl];refine zA (wpAny_askSetting (zB (zB ?_)));have e1:JM w a es ep=pickOrder (w.params.setOrder a ep) es:=by unfold JM;rw[xY G]
  have e2:∀j,slotAt w t j=0:=λj=>by unfold slotAt;rw[xY (.inl G)]
  rw[e1] at h;simp only[e2] at h ⊢;exact h
 | false =>
  rw[xZ zW];have V:(!t.plain&&decide (es.size>1))=false:=by unfold Vy at W;rw[G] at W;simpa using W
  show wpAny _ _ (if(!t.plain&&decide (es.size>1))=true then _ else _) _ _ _;rw[V,xZ zW];have hl:t.led=true:=by rw[S.led,G];rfl
  refine zA ?_;show wpAny _ _ (if(!t.led && !es.isEmpty)=true then _ else _) _ _ _;rw[hl,xZ (by simp)]
  refine zB ?_
  try dsimp only
  rw[Nr S.rise (by lia) G]
  have e1:JM w a es ep=es:=by unfold JM;rw[xZ (by rw[G];exact zW)]
  rw[e1] at h;refine zB ?_;by_cases O:i<es.size
  .have Z:i<t.place.size:=by lia
   rw[getElem?_pos es i O] at h ⊢;rw[getElem?_pos t.place i Z];have e3:slotAt w t (i+1)=t.place[i]+1:=by
    unfold slotAt;rw[xZ (by rw[G];rintro(z | z) <;> cases z)]
    simp[Z]
   rw[e3] at h;exact h
  .rw[getElem?_neg es i O] at h ⊢;exact h
theorem OQ{f:Aa}{n:Nat}(O:SIt h I f i a n ep)(G:Aa):∃h',h'=(h.update I (Obj.mapFields (·.setIfInBounds 0 G))).update I (Obj.mapFields (·.setIfInBounds 1 (rawInt ((i:Int)+1))))/\SIt h' I G (i+1) a n ep/\Heap.SameBut I h h':=by
 obtain⟨o,W,Z,V⟩:=O;have h1:=yS (Obj.mapFields (·.setIfInBounds 0 G)) W (Obj.isFreed_of_fields (Obj.data_mapFields V _));have d1:(Obj.mapFields (·.setIfInBounds 0 G) o).data = .fields #[G,.int i 0,.ref a,.int n 0,.int ep 0]:=by rw[Obj.data_mapFields V];simp
 have h2:=yS (Obj.mapFields (·.setIfInBounds 1 (rawInt ((i:Int)+1)))) h1 (Obj.isFreed_of_fields (Obj.data_mapFields d1 _));refine⟨_,rfl,⟨_,h2,?_,?_⟩,(Heap.SameBut.update ..).trans (Heap.SameBut.update ..)⟩
 .exact(Obj.cls_mapFields ..).trans ((Obj.cls_mapFields ..).trans Z)
 .rw[Obj.data_mapFields d1];simp[rawInt]
theorem Jq{Q:Array (Int×Aa)->Ac->Prop}(S:JZ prog w s.heap a vs es ep t)(h:Q es s):wpAny (model prog w) A (setEntries a) Q E s:=by
 unfold setEntries;exact zA (wpAny_setState_of S.at_ rfl S.fit (zB h))
theorem Om{Q:Option Aa->Ac->Prop}(G:A.handled=none)(V:Heap.ExtBut it s.heap h1)(O:∀h',Heap.ExtBut it s.heap h'->Q none { s with heap:=h' }):
  wpAny (model prog w) A.in1 (newExc (.type "StopIteration") [] >>= λe=>(raiseNew e:Sem Fin)) (λ_ _=>False) (λe s'=>wpAny (model prog w) A (isInstance e (.type "StopIteration") >>= λb=>if b=true then pure none else throw e) Q E s') { s with heap:=h1 }:=by
 refine zA ?_;simp only[newExc,newTuple];refine zA (wpAny_newObj_type ?_ (by size_fits))
 refine zA (m:=firstArgMember _ _) (wpAny_of_eq (a:=Value.none) (by first | rfl | (simp only[firstArgMember];rfl)) ?_)
 refine wpAny_newObj_type ?_ (by size_fits)
 simp only[raiseNew];refine zA (wpAny_handled ?_);rw[show A.in1.handled=none from G]
 refine zA (zB (wpAny_throw ?_));refine zA (wpAny_isInstance (T:="StopIteration") (b:=true) ⟨_,zU _ rfl,rfl⟩ isSubtype_stop ?_);exact zB (O _ ((V.push _).push _))
theorem Kk{v:Int×Aa}{Q:Option Aa->Ac->Prop}(S:JZ prog w s.heap a vs es ep t)(hd:Vy w es t=false)(G:SIt s.heap I (.int (slotAt w t i) 0) i a es.size ep)(hx:(JM w a es ep)[i]?=some v)(hQ:∀h',SIt h' I (.int (slotAt w t (i+1)) 0) (i+1) a es.size ep->Heap.SameBut I s.heap h'->Q (some v.2) { s with heap:=h' }):wpAny (model prog w) A (pyNext (.ref I)) Q E s:=by
 have Z:(JM w a es ep).size=es.size:=by have:=(JL w a es ep).length_eq;rwa[yD,yD] at this
 have hi:i<es.size:=by rw[<-Z];exact(vU.mp hx).1
 obtain⟨o,W,hc,O⟩:=id G;unfold pyNext;refine zA (wpAny_attempt (wpAny_callSpecial?_slot (name:=Str.ofString "__next__") G.ty J7 (wpAny_call_entry J7 G.ty VH ?_ (QO _))));unfold Builtin.«set_iterator.__next__»;refine zA (zB ?_);refine zA (wpAny_fieldsOf W O ?_);show wpAny _ _ (setEntries a >>= _) _ _ _;refine zA (Jq S ?_);rw[xZ (by simp)]
 show wpAny _ _ (setNext a (vF (slotAt w t i:Int)) (vF (i:Int)) (vF (ep:Int)) >>= _) _ _ _;rw[yE,yE,yE];refine zA (UQ S hd (by lia) ?_)
 rw[hx];obtain⟨h',eh,V,sb⟩:=OQ G (rawInt (slotAt w t (i+1):Int));refine zA (wpAny_setField W O (by simp) ?_)
 have h1:=yS (Obj.mapFields (·.setIfInBounds 0 (rawInt (slotAt w t (i+1):Int)))) W (Obj.isFreed_of_fields (Obj.data_mapFields O _));refine zA (wpAny_setField h1 (Obj.data_mapFields O _) (by simp) ?_)
 exact zB ⟨_,rfl,zB (by have:=hQ h' V sb;rw[eh] at this;exact this)⟩
theorem OR{Q:Option Aa->Ac->Prop}(Z:A.handled=none)(S:JZ prog w s.heap a vs es ep t)(hd:Vy w es t=false)(G:SIt s.heap I (.int (slotAt w t es.size) 0) es.size a es.size ep)(hQ:∀h',Heap.ExtBut I s.heap h'->Q none { s with heap:=h' }):wpAny (model prog w) A (pyNext (.ref I)) Q E s:=by
 have V:(JM w a es ep).size=es.size:=by have:=(JL w a es ep).length_eq;rwa[yD,yD] at this
 obtain⟨o,W,hc,O⟩:=id G;unfold pyNext;refine zA (wpAny_attempt (wpAny_callSpecial?_slot (name:=Str.ofString "__next__") G.ty J7 (wpAny_call_entry J7 G.ty VH ?_ (QO _))));unfold Builtin.«set_iterator.__next__»;refine zA (zB ?_);refine zA (wpAny_fieldsOf W O ?_);show wpAny _ _ (setEntries a >>= _) _ _ _;refine zA (Jq S ?_);rw[xZ (by simp)]
 show wpAny _ _ (setNext a (vF (slotAt w t es.size:Int)) (vF (es.size:Int)) (vF (ep:Int)) >>= _) _ _ _;rw[yE,yE,yE];refine zA (UQ S hd (zO _) ?_);rw[getElem?_neg _ _ (by rw[V];lia)]
 refine zA (wpAny_setField W O (by simp) ?_)
 exact zC (Om Z (Heap.SameBut.update ..).extBut hQ) (λ_ _ z=>z.elim) λ_ _ z=>z
def DIt (h:Heap)(I T a:Ab)(i n ep:Nat)(ps:List Nat):Prop:=SIt h I (.ref T) i a n ep/\∃e,h.get? T=some { cls:=.type "tuple",data:=.seq (ps.map λ(k:Nat)=>rawInt k).toArray e }
theorem Kn{ps:List Nat}{v:Int×Aa}{Q:Option Aa->Ac->Prop}(S:JZ prog w s.heap a vs es ep t)(G:DIt s.heap I T a i es.size ep ps)(hk:ps[i]?=some k)(hx:es[k]?=some v)(V:T≠I)(hQ:∀h',DIt h' I T a (i+1) es.size ep ps->Heap.SameBut I s.heap h'->Q (some v.2) { s with heap:=h' }):wpAny (model prog w) A (pyNext (.ref I)) Q E s:=by
 obtain⟨G,e,Z⟩:=G;obtain⟨o,W,hc,O⟩:=id G;unfold pyNext;refine zA (wpAny_attempt (wpAny_callSpecial?_slot (name:=Str.ofString "__next__") G.ty J7 (wpAny_call_entry J7 G.ty VH ?_ (QO _))));unfold Builtin.«set_iterator.__next__»;refine zA (zB ?_);refine zA (wpAny_fieldsOf W O ?_);show wpAny _ _ (setEntries a >>= _) _ _ _;refine zA (Jq S ?_);rw[xZ (by simp)]
 show wpAny _ _ (seqItems? (.ref T) >>= _) _ _ _;unfold seqItems?;refine zA (zA (wpAny_load Z (zB ?_)));show wpAny _ _ (match (ps.map λ(k:Nat)=>rawInt k).toArray[vF (i:Int)]? with | some (.int place _)=>_ | some _=>_ | none=>_) _ _ _
 have e1:(ps.map λ(k:Nat)=>rawInt k).toArray[vF (i:Int)]?=some (.int k 0):=by rw[yE,qP,zM,hk];rfl
 rw[e1];show wpAny _ _ (setNextDrawn a (vF (k:Int)) (vF (ep:Int)) >>= _) _ _ _;rw[yE,yE];unfold setNextDrawn;refine zA (zA (wpAny_setState_of S.at_ rfl S.fit ?_));show wpAny _ _ (if(ep != ep)=true then _ else _) _ _ _;rw[xZ (by simp)]
 rw[hx];refine zB ?_;refine zA (wpAny_setField W O (by simp) ?_)
 have h1:=yS (Obj.mapFields (·.setIfInBounds 1 (rawInt ((i:Int)+1)))) W (Obj.isFreed_of_fields (Obj.data_mapFields O _));refine zB ⟨_,rfl,zB (hQ _ ⟨⟨_,h1,(Obj.cls_mapFields ..).trans hc,by rw[Obj.data_mapFields O];simp[rawInt]⟩,e,?_⟩ (Heap.SameBut.update ..))⟩
 exact(yT _ _ V.symm).trans Z
theorem OW{ps:List Nat}{Q:Option Aa->Ac->Prop}(W:A.handled=none)(S:JZ prog w s.heap a vs es ep t)(G:DIt s.heap I T a i es.size ep ps)(hk:ps[i]?=none)(hQ:∀h',Heap.ExtBut I s.heap h'->Q none { s with heap:=h' }):wpAny (model prog w) A (pyNext (.ref I)) Q E s:=by
 obtain⟨G,e,hT⟩:=G;obtain⟨o,V,hc,O⟩:=id G;unfold pyNext;refine zA (wpAny_attempt (wpAny_callSpecial?_slot (name:=Str.ofString "__next__") G.ty J7 (wpAny_call_entry J7 G.ty VH ?_ (QO _))));unfold Builtin.«set_iterator.__next__»;refine zA (zB ?_);refine zA (wpAny_fieldsOf V O ?_);show wpAny _ _ (setEntries a >>= _) _ _ _;refine zA (Jq S ?_);rw[xZ (by simp)]
 show wpAny _ _ (seqItems? (.ref T) >>= _) _ _ _;unfold seqItems?;refine zA (zA (wpAny_load hT (zB ?_)));show wpAny _ _ (match (ps.map λ(k:Nat)=>rawInt k).toArray[vF (i:Int)]? with | some (.int place _)=>_ | some _=>_ | none=>_) _ _ _
 have e1:(ps.map λ(k:Nat)=>rawInt k).toArray[vF (i:Int)]?=none:=by rw[yE,qP,zM,hk];rfl
 rw[e1];refine zA (wpAny_setField V O (by simp) ?_)
 have h1:=yS (Obj.mapFields (·.setIfInBounds 0 (rawInt 0))) V (Obj.isFreed_of_fields (Obj.data_mapFields O _));refine zA (wpAny_setField h1 (Obj.data_mapFields O _) (by simp) ?_)
 have Z:Heap.ExtBut I s.heap ((s.heap.update I (Obj.mapFields (·.setIfInBounds 0 (rawInt 0)))).update I (Obj.mapFields (·.setIfInBounds 2 Value.none))):=((Heap.SameBut.update ..).trans (Heap.SameBut.update ..)).extBut;exact zC (Om (s:=s) W Z hQ) (λ_ _ z=>z.elim) λ_ _ z=>z
end
theorem VG:Slot "set_iterator" "__iter__" "set_iterator.__iter__":=.of (owner:="set_iterator") (n:="__iter__") (by rw[typeLookup_type,builtinLookup_eq_fast];kernel_rfl) (by decide +kernel) (by decide +kernel) (by decide +kernel) (by first | exact .inl (by decide +kernel) | exact .inr (by decide +kernel)) (by rw[isSubtype_type];kernel_rfl)
theorem Wa:entryFor table "set_iterator.__iter__"=some Builtin.«dict_keyiterator.__iter__»:=entryFor_alias (id':="dict_keyiterator.__iter__") (by kernel_rfl) rfl (by decide +kernel) (by kernel_rfl)
theorem G5(a:Aa):argsOk "set_iterator.__iter__" ⟨[a],[]⟩:=by
 unfold argsOk;rw[signature?_of (id:="set_iterator.__iter__") (n:=['_','_','r','e','t','i','_','_']) (o:=['r','o','t','a','r','e','t','i','_','t','e','s']) (by kernel_rfl) Mj]
 kernel_rfl
section
variable {prog:Ae}{w:Af}{A:Ag}{E:Aa->Ac->Prop}{s:Ac}
theorem DI{f:Aa}{n:Nat}{Q:Aa->Ac->Prop}(G:SIt s.heap I f i a n ep)(h:Q (.ref I) s):wpAny (model prog w) A (pyIter (.ref I)) Q E s:=by
 refine wpAny_pyIter_slot G.ty VG (wpAny_call_entry VG G.ty Wa ?_ (G5 _));show wpAny _ _ (ret (.ref I)) _ _ s;exact zB ⟨_,rfl,"set_iterator",_,G.ty,J7.lookup,h⟩
theorem JZ.keep(S:JZ prog w h a vs es ep t)(k:∀o,h.get? a=some o->h'.get? a=some o):JZ prog w h' a vs es ep t:=⟨k _ S.at_,S.el,S.pm,S.few,S.fit,S.rise,S.led⟩
theorem SIt.keep{f:Aa}{n:Nat}(G:SIt h I f i a n ep)(k:∀o,h.get? I=some o->h'.get? I=some o):SIt h' I f i a n ep:=let ⟨o,e,c⟩:=G;⟨o,k _ e,c⟩
theorem Ob(hh:A.handled=none)(W:a≠I)(hd:Vy w es t=false):
  Walks prog w A I [I,a] [I] es.size (λi v=>((JM w a es ep).toList.map (·.2))[i]?=some v) (λi h=>SIt h I (.int (slotAt w t i) 0) i a es.size ep/\JZ prog w h a vs es ep t) where
 sub:=λb O=>by rw[yO.mp O];exact yJ
 frame:=λ_ _ _ st hk=>⟨st.1.keep λo e=>hk I yJ o e,st.2.keep λo e=>hk a (yB _ yJ) o e⟩
 item:=λi s Q E hi st G=>by
  have aa:(JM w a es ep).size=es.size:=by have:=(JL w a es ep).length_eq;rwa[yD,yD] at this
  have hx:(JM w a es ep)[i]?=some ((JM w a es ep)[i]'(by lia)):=getElem?_pos _ _ _
  refine Kk st.2 hd st.1 hx λh' V Z=>G _ h' s.toks (by rw[zM,vE,hx];rfl) ⟨V,st.2.keep λo e=>by rw[Z.2 a W];exact e⟩ λb o O e=>by rw[Z.2 b (λz=>O (by rw[z];exact yO.mpr rfl))];exact e
 done:=λs Q E st G=>OR hh st.2 hd st.1 λh' he=>G h' s.toks λb o O e=>he b o (λz=>O (by rw[z];exact yO.mpr rfl)) e
 self:=λ_ _ _ _ st G=>DI st.1 G
theorem Oc(hh:A.handled=none)(aa:a≠I)(hT:T≠I){ps:List Nat}(Z:ps.Perm (zV es.size)):
  Walks prog w A I [I,a,T] [I] es.size (λi v=>(ps.map λk=>(es.getD k (0,.none)).2)[i]?=some v) (λi h=>DIt h I T a i es.size ep ps/\JZ prog w h a vs es ep t) where
 sub:=λb V=>by rw[yO.mp V];exact yJ
 frame:=λ_ _ _ st G=>⟨⟨st.1.1.keep λo e=>G I yJ o e,let ⟨c,e⟩:=st.1.2;⟨c,G T (yB _ (yB _ yJ)) _ e⟩⟩,st.2.keep λo e=>G a (yB _ yJ) o e⟩
 item:=λi s Q E hi st O=>by
  have hl:ps.length=es.size:=by rw[Z.length_eq,wH]
  have G:ps[i]?=some (ps[i]'(by lia)):=zN _
  have ac:ps[i]'(by lia)<es.size:=xB.mp (Z.mem_iff.mp (xC _))
  have hx:es[ps[i]'(by lia)]?=some (es[ps[i]'(by lia)]):=getElem?_pos _ _ _
  refine Kn st.2 st.1 G hx hT λh' W sb=>O _ h' s.toks (by rw[zM,G];simp[ac]) ⟨W,st.2.keep λo e=>by rw[sb.2 a aa];exact e⟩ λb o V e=>by rw[sb.2 b (λz=>V (by rw[z];exact yO.mpr rfl))];exact e
 done:=λs Q E st O=>OW hh st.2 st.1 (wQ (by rw[Z.length_eq,wH];exact zO _)) λh' he=>O h' s.toks λb o V e=>he b o (λz=>V (by rw[z];exact yO.mpr rfl)) e
 self:=λ_ _ _ _ st O=>DI st.1.1 O
theorem Xw(es:Array (Int×Aa)):((zV es.size).map λk=>(es.getD k (0,.none)).2)=es.toList.map (·.2):=by
 apply List.ext_getElem
 .simp
 .intro i h1 h2;have hi:i<es.size:=by simpa using h1
  simp[hi]
theorem PJ{Q:Aa->Ac->Prop}(hh:A.handled=none)(S:SetV prog w s.heap a vs)(h:∀I h' d' fp St ord,(∀b o,s.heap.get? b=some o->h'.get? b=some o)->(∀b∈fp,b=a∨s.heap.objs.size<=b)->s.heap.objs.size<=I->Walks prog w A I fp [I] vs.length (λi v=>ord[i]?=some v) St->List.Perm ord vs->St 0 h'->Q (.ref I) { s with heap:=h',drawn:=d' }):
  wpAny (model prog w) A (pyIter (.ref a)) Q E s:=by
 obtain⟨es,ep,t,S⟩:=S;have G:es.size=vs.length:=by have:=S.pm.length_eq;rwa[zK,yD] at this
 have O:a<s.heap.objs.size:=zQ S.at_;have hT:s.TypeIs (.ref a) "set":=⟨_,S.at_,rfl⟩;refine wpAny_pyIter_slot hT qA (wpAny_call_entry qA hT Xb ?_ (PySem.F.args_set_iter_1 _));unfold Builtin.«frozenset.__iter__» Builtin.Frozenset.sizeOf setDrawn setsByText;refine zA (zB ?_);refine zA (zA (Jq S (zB ?_)));refine zA (zA (wpAny_setState_of S.at_ rfl S.fit (zA (zA (wpAny_askSetting (zB (zB ?_)))))));show wpAny _ _ (if Vy w es t=true then _ else _) _ _ _;cases hd:Vy w es t with
 | false =>
  rw[xZ zW];refine zA (zB ?_);unfold setEpoch;refine zA (zA (wpAny_setState_of S.at_ rfl S.fit (zB ?_)));refine zA (wpAny_newObj_type (zB ⟨_,rfl,"set_iterator",_,⟨_,zU _ rfl,rfl⟩,J7.lookup,?_⟩));have W:=Ob (prog:=prog) (I:=s.heap.objs.size) (a:=a) (vs:=vs) (ep:=ep) hh (zX O) hd;rw[G] at W;refine h s.heap.objs.size _ s.drawn _ _ _ (λb o e=>zL _ e) (λb hb=>?_) (zO _) W ((((JL w a es ep).map _)).trans S.pm) ⟨⟨_,zU _ rfl,rfl,?_⟩,S.keep λo e=>zL _ e⟩
  .rcases yF.mp hb with z | z
   .exact .inr (by rw[z];exact zO _)
   .exact .inl (yO.mp z)
  .have e0:slotAt w t 0=0:=by unfold slotAt;rw[xY (.inr rfl)]
   rw[e0,<-G];rfl
 | true =>
  rw[xY rfl];refine zA (Qt es.size (zV es.size) wH λps d hp=>?_);have V:ps.length=vs.length:=by rw[hp.length_eq,wH,G]
  have aa:=S.few;refine zA (wpAny_newTuple ?_ (by rw[zK,V,<-G];exact fits_of_scanBound aa))
  have Z:=S.keep (h':=s.heap.push { cls:=.type "tuple",data:=.seq (ps.map λ(k:Nat)=>rawInt k).toArray }) λo e=>zL _ e;have z1:(s.heap.push { cls:=.type "tuple",data:=.seq (ps.map λ(k:Nat)=>rawInt k).toArray }).objs.size=s.heap.objs.size+1:=wG _ _;have t1:(s.heap.push { cls:=.type "tuple",data:=.seq (ps.map λ(k:Nat)=>rawInt k).toArray }).get? s.heap.objs.size=some { cls:=.type "tuple",data:=.seq (ps.map λ(k:Nat)=>rawInt k).toArray }:=zU _ rfl;unfold setEpoch;refine zA (zA (wpAny_setState_of Z.at_ rfl Z.fit (zB ?_)));refine zA (wpAny_newObj_type (zB ⟨_,rfl,"set_iterator",_,⟨_,zU _ rfl,rfl⟩,J7.lookup,?_⟩));have W:=Oc (prog:=prog) (w:=w) (I:=s.heap.objs.size+1) (T:=s.heap.objs.size) (a:=a) (vs:=vs) (ep:=ep) (t:=t) hh (zX (xK O)) (zX (uF _)) hp;rw[G] at W;have pm:(ps.map λk=>(es.getD k (0,.none)).2).Perm vs:=by
   refine(hp.map _).trans ?_;rw[Xw];exact S.pm
  have st:DIt ((s.heap.push { cls:=.type "tuple",data:=.seq (ps.map λ(k:Nat)=>rawInt k).toArray }).push { cls:=.type "set_iterator",data:=.fields [.ref s.heap.objs.size,rawInt 0,.ref a,rawInt es.size,rawInt ep].toArray }) (s.heap.objs.size+1) s.heap.objs.size a 0 vs.length ep ps:=by
   refine⟨⟨_,by rw[<-z1];exact zU _ rfl,rfl,?_⟩,0,zL _ t1⟩
   rw[<-G];rfl
  have:=h (s.heap.objs.size+1) _ d _ _ _ (λb o e=>zL _ (zL _ e)) (λb hb=>?_) (vL _) W pm ⟨st,Z.keep λo e=>zL _ e⟩
  .rw[<-z1] at this;exact this
  .rcases yF.mp hb with z | z
   .exact .inr (by rw[z];exact vL _)
   .rcases yF.mp z with z | z
    .exact .inl z
    .exact .inr (by rw[yO.mp z];exact zO _)
end
section
variable {prog:Ae}{w:Af}{A:Ag}{E:Aa->Ac->Prop}{s:Ac}
theorem PQ{Q:Bool->Ac->Prop}(W:s.TypeIs (.ref r) "set")(h:Q false s):wpAny (model prog w) A (Builtin.List.listLengthHint (.ref r)) Q E s:=by
 unfold Builtin.List.listLengthHint;refine zA (wpAny_specialOf W PySem.F.slot_set_len.lookup ?_);generalize O:("set.__len__":String)=V
 wp_delta
 rw[show splitId V=some ("set","__len__") from by subst O;decide +kernel]
 subst O;refine zA (wpAny_isInstance (T:="set") (b:=true) W (by rw[isSubtype_type];kernel_rfl) ?_);refine wpAny_ite_split (λG=>xX G (by decide)) (λ_=>?_);refine wpAny_ite_split (λ_=>?_) (λG=>xX (by decide +kernel) G)
 exact zA (wpAny_typeOf W (zB h))
theorem O2{R:Result->Ac->Prop}(hh:A.handled=none)(S:SetV prog w s.heap a vs)(L:Ab)(ae:L≠a)(res:Aa)(c₀:Nat)(hL:s.heap.get? L=some { cls:=.type "list",data:=.seq #[] c₀ })(hn:vs.length<=zF)(hR:∀s' G c',s'.os=s.os->s'.gens=s.gens->(∀b o,b≠L->s.heap.get? b=some o->s'.heap.get? b=some o)->s'.heap.get? L=some { cls:=.type "list",dict:=none,data:=.seq G c',slots:=#[] }->G.toList.Perm vs->R (.ok (.ret res)) s'):
  wpAny (model prog w) A.in1 (Builtin.List.listExtendWith (.ref L) (.ref a) res) (λag s'=>match ag with | .done f=>R (.ok f) s' | .again c'=>c'.quiet=true/\codeAny (model prog w) A c' R s') (λe s'=>R (.error e) s') s:=by
 have hT:s.TypeIs (.ref a) "set":=by
  obtain⟨es,ep,t,S⟩:=S;exact⟨_,S.at_,rfl⟩
 have aa:L<s.heap.objs.size:=zQ hL;unfold Builtin.List.listExtendWith;refine zA (wpAny_typeOf hT ?_);have h1:Builtin.List.listSameRef (.ref L) (.ref a)=false:=by simp[Builtin.List.listSameRef,ae]
 rw[h1,show(Value.type "set"==Value.type "list")=false by decide,show(Value.type "set"==Value.type "tuple")=false by decide]
 simp only[Bool.or_false,xL,if_false];refine zA (PJ (A:=A.in1) hh S λI h1 d1 fp St ord k1 aj hI W pm st=>?_);have ad:L∉fp:=λz=>by
  rcases aj L z with e | e
  .exact ae e
  .exact xX aa (Nat.not_lt.mpr e)
 have am:L≠I:=λz=>xX aa (Nat.not_lt.mpr (z▸hI));have al:ord.length=vs.length:=pm.length_eq;have key:∀(h:Heap) (c₁ tk:Nat),St 0 h->(∀b o,b≠L->s.heap.get? b=some o->h.get? b=some o)->h.get? L=some { cls:=.type "list",data:=.seq #[] c₁ } ->
   codeAny (model prog w) A (.builtin "list.extend.loop" ⟨[.ref L,.ref I,res],[]⟩) R { s with heap:=h,drawn:=d1,toks:=tk }:=by
  intro h c₁ tk ai hk O;refine codeAny_extend_loopS W.toS hn L ad res vs.length 0 _ #[] c₁ rfl (xD _) ai O (ItemsOf.nil _) λs' G c' hm ah Z=>?_;have em:=Moved.eq_with hm;refine hR s' G c' (by rw[em]) (by rw[em]) (λb o V e=>hm.heap b o (λz=>?_) (hk b o V e)) ah ?_
  .rcases yF.mp z with z | z
   .exact V z
   .exact xX (zQ e) (Nat.not_lt.mpr (by rw[yO.mp z];exact hI))
  .have e:G.toList=ord:=by
    refine jB λj=>?_;cases hj:G.toList[j]? with
    | none =>
     have:G.toList.length<=j:=List.getElem?_eq_none_iff.mp hj
     rw[yD,Z.1] at this;exact(wQ (by lia)).symm
    | some v=>exact(Z.2 j v (by rw[<-vE];exact hj)).symm
   rw[e];exact pm
 have O:=k1 _ _ hL;have S1:Shared.TypeIs { s with heap:=h1,drawn:=d1 } (.ref a) "set":=by
  obtain⟨o,ho,hc⟩:=hT;exact⟨o,k1 _ _ ho,hc⟩
 refine zA (zD (PQ S1 ?_));refine wpAny_ite_split (λ_=>?_) (λ_=>zB ⟨plainId_quiet jJ _,key _ c₀ _ st (λb o _ e=>k1 b o e) O⟩);refine zA (wpAny_rule (zA ?_));show wpAny _ _ (updateSeq L (·.push .none) >>= λ_=>updateSeq L (·.pop)) _ _ _;refine zA (wpAny_updateSeq O rfl ?_);have ac:=yS (Obj.mapSeq (·.push Value.none)) O rfl;refine wpAny_updateSeq (hz:=by seq_fits) ac rfl ?_
 have ak:=yS (Obj.mapSeq (·.pop)) ac rfl;have af:∀b o,b≠L->h1.get? b=some o->((h1.update L (Obj.mapSeq (·.push Value.none))).update L (Obj.mapSeq (·.pop))).get? b=some o:=λb o V e=>(yT _ _ (Ne.symm V)).trans ((yT _ _ (Ne.symm V)).trans e);exact zB ⟨plainId_quiet jJ _,key _ _ _ (W.frame 0 _ _ st λb V o e=>af b o (λz=>ad (z▸V)) e) (λb o V e=>af b o V (k1 b o e)) ak⟩
theorem XL{G:List Aa->Prop}{R:List Aa->Ac->Prop}(aa:∀R:Result->Ac->Prop,(∀s' W c',s'.os=s.os->s'.gens=s.gens->(∀b o,s.heap.get? b=some o->s'.heap.get? b=some o)->s'.heap.get? s.heap.objs.size=some { cls:=.type "list",dict:=none,data:=.seq W c',slots:=#[] }->G W.toList->R (.ok (.ret (.ref s.heap.objs.size))) s') ->
 wpAny (model prog w) A.in1 (Builtin.List.listExtendWith (.ref s.heap.objs.size) (.ref a) (.ref s.heap.objs.size)) (λZ s'=>match Z with | .done f=>R (.ok f) s' | .again c'=>c'.quiet=true/\codeAny (model prog w) A c' R s') (λe s'=>R (.error e) s') { s with heap:=s.heap.push { cls:=.type "list",data:=.seq ([]:List Aa).toArray } })(h:∀s' O,s'.os=s.os->s'.gens=s.gens->(∀b o,s.heap.get? b=some o->s'.heap.get? b=some o)->s.heap.objs.size<=s'.heap.objs.size->G O->R O s'):wpAny (model prog w) A (collect (.ref a)) R E s:=by
 unfold collect;refine zA (wpAny_runValue (codeAny_builtin entry_proto_collect' ?_));rw[Around.under_plainId PySem.F.plain_proto_collect _];show wpAny _ A.in1 (newList [] >>= λl=>again (.builtin "list.__iadd__" ⟨[l,.ref a],[]⟩)) _ _ _;refine zA (wpAny_newObj_type (zB ⟨plainId_quiet jQ _,codeAny_builtin entry_list_iadd' ?_⟩));rw[Around.under_plainId jQ _];show wpAny _ A.in1 (Builtin.List.listExtendWith (.ref s.heap.objs.size) (.ref a) (.ref s.heap.objs.size)) _ _ _;refine zC (aa (λq s'=>∃(O:Array Aa) (c:Nat),q = .ok (.ret (.ref s.heap.objs.size))/\s'.os=s.os/\s'.gens=s.gens/\(∀b o,s.heap.get? b=some o->s'.heap.get? b=some o)/\s'.heap.get? s.heap.objs.size=some { cls:=.type "list",dict:=none,data:=.seq O c,slots:=#[] }/\G O.toList)
  (λs' O c e1 e2 hk V g=>⟨O,c,rfl,e1,e2,hk,V,g⟩)) (λZ s' x=>?_) λe s' x=>?_
 .cases Z with
  | done f =>
   obtain⟨O,c,e,e1,e2,hk,V,g⟩:=x;cases e;show wpAny _ A (load s.heap.objs.size >>= _) _ _ _;exact zA (wpAny_load V (zB (h s' O.toList e1 e2 hk (yW (zQ V)) g)))
  | again c₁ =>
   refine⟨x.1,codeAny_mono x.2 λq s₂ y=>?_⟩;obtain⟨O,c,rfl,e1,e2,hk,V,g⟩:=y;show wpAny _ A (load s.heap.objs.size >>= _) _ _ _;exact zA (wpAny_load V (zB (h s₂ O.toList e1 e2 hk (yW (zQ V)) g)))
 .obtain⟨_,_,e',_⟩:=x;cases e'
theorem N9{R:List Aa->Ac->Prop}(Z:A.handled=none)(S:SetV prog w s.heap a vs)(hn:vs.length<=zF)(h:∀s' O,s'.os=s.os->s'.gens=s.gens->(∀b o,s.heap.get? b=some o->s'.heap.get? b=some o)->s.heap.objs.size<=s'.heap.objs.size->O.Perm vs->R O s'):wpAny (model prog w) A (collect (.ref a)) R E s:=by
 have W:a<s.heap.objs.size:=by
  obtain⟨es,ep,t,S⟩:=S;exact zQ S.at_
 refine XL (G:=λO=>O.Perm vs) (λR hR=>?_) h;exact O2 (A:=A) (s:={ s with heap:=s.heap.push { cls:=.type "list",data:=.seq ([]:List Aa).toArray } }) Z (S.keep λo e=>zL _ e) s.heap.objs.size (vB W) _ 0 (zU _ rfl) hn
  λs' O c e1 e2 hk V pm=>hR s' O c e1 e2 (λb o e=>hk b o (zX (zQ e)) (zL _ e)) V pm
theorem LP(O:IntsAre vs ns){xs:Array Keyed}(W:xs.Perm (pairsOf vs)):∃G,IntsAre (xs.map (·.2)).toList G/\G.Perm ns:=by
 have Z:xs.toList.Perm (vs.zip vs):=by rw[<-pairsOf_toList];exact yZ.mp W
 have h2:(xs.map (·.2)).toList.Perm vs:=by
  rw[vZ];have h:=Z.map (·.2);rwa[List.map_snd_zip (zO _)] at h
 refine⟨(xs.map (·.2)).toList.map numOf,intsAre_map _ λv V=>O.all v (h2.mem_iff.mp V),?_⟩;have h:=h2.map numOf;rwa[O.nums] at h
theorem Nq{n:Nat}{P:Fin->Ac->Prop}(ho:s.heap.get? a=some (seqObj "list" vs.toArray n))(hI:IntsAre vs ns)(af:vs.length<128)(h:∀(out:Array Aa) (G:List Int),IntsAre out.toList G->G.Perm ns->P (.done (.ret .none)) { s with heap:=sortedHeap s.heap a vs out }):
  wpAny (model prog w) A (Builtin.«list.sort» ⟨[.ref a],[]⟩) P E s:=by
 by_cases aa:vs.length<64
 .exact list_sort_tree ho hI aa λout G a b _=>h out G a b
 rw[list_sort_plain];have ha:a<s.heap.objs.size:=zQ ho;refine zA (listItems_at ho rfl (zA (listUpdate_at ho rfl ?_)));obtain⟨e1,ac⟩:∃e1,(s.heap.update a (Obj.mapSeq λ_=>#[])).get? a=some (seqObj "list" #[] e1):=⟨_,get?_update_seq ho (λ_=>#[])⟩;refine zA (seqEpoch_at ac rfl (zA (wpAny_newTuple (zA (wpAny_newList (zD ?_))))));have ae:(((s.heap.update a (Obj.mapSeq λ_=>#[])).push (seqObj "tuple" vs.toArray 0)).push (seqObj "list" #[] 0)).get? a=some (seqObj "list" #[] e1):=by
  rw[vX _ _ _ (by rw[size_push',uE];exact zX (xK ha)),vX _ _ _ (by rw[uE];exact zX ha)];exact ac
 show wpAny (model prog w) A _ P E { s with heap:=((s.heap.update a (Obj.mapSeq λ_=>#[])).push (seqObj "tuple" vs.toArray 0)).push (seqObj "list" #[] 0) }
 try dsimp only
 have ad:¬ vs.toArray.size<2:=by rw[zP];lia
 rw[xZ ad,xZ ad];obtain⟨V,W,rest,rfl⟩:∃V W rest,vs=V::W::rest:=by
  match vs,aa with
  | [],q=>simp at q
  | [_],q=>simp at q
  | V::W::rest,_=>exact⟨V,W,rest,rfl⟩
 rw[keyKind_ints hI];refine zA (zB ?_);have Z:=hI.intKeys;refine zA (zC (Vi (a0:=pairsOf (V::W::rest)) (st:=SortSt.mk' oneType' ((V::W::rest).toArray.zip (V::W::rest).toArray) #[] 7 none)
  (Q:=λ_ O=>(arrOf O).Perm (pairsOf (V::W::rest))/\failedOf O=none)
  (λi hi=>Z _ (by rw[<-qV];exact xC _)) ⟨Array.Perm.refl _,rfl,rfl,rfl⟩ (by rw[pairsOf_size];lia) (by rw[pairsOf_size];exact af) λO a1 a2=>⟨a1,a2⟩) ?_ λ_ _ e=>e)
 rintro⟨⟨⟩,O⟩ s' ⟨rfl,hp,hf⟩
 try dsimp only
 refine zA (seqEpoch_at ae rfl ?_);refine zA (listUpdate_at ae rfl ?_ (hsz2:=by refine yU (uM ((jP ..).trans (hp.size_eq.trans (pairsOf_size _)))) ?_;rw[sizeLine_eq];lia))
 rw[hf];simp only[bne_self_eq_false,xL,if_false];obtain⟨G,g1,g2⟩:=LP hI hp;exact zB (h _ G g1 g2)
theorem Qw{Q:Aa->Ac->Prop}(aa:ns.length<128)(hc:∀R:List Aa->Ac->Prop,(∀s' G V,s'.os=s.os->s'.gens=s.gens->(∀b o,s.heap.get? b=some o->s'.heap.get? b=some o)->s.heap.objs.size<=s'.heap.objs.size->IntsAre G V->V.Perm ns->R G s')->wpAny (model prog w) A.in1 (collect (.ref r)) R E s)(h:∀s' D out O e,s'.os=s.os->s'.gens=s.gens->(∀b o,s.heap.get? b=some o->s'.heap.get? b=some o)->s.heap.objs.size<=D->s'.heap.get? D=some (seqObj "list" out e)->IntsAre out.toList O->O.Perm ns->Q (.ref D) s'):
  wpAny (model prog w) A (call (.builtin "sorted") [.ref r]) Q E s:=by
 refine Calls.call_function_entry kind_sorted plain_sorted entry_sorted (args_sorted1 _) ?_;unfold Builtin.«sorted»;refine zA (m:=checkCount "sorted" 1 1 _) (zB ?_);refine zA (hc _ λs1 G V e1 e2 hk Z hI pm=>?_);have hl:G.length=ns.length:=by rw[hI.length,pm.length_eq]
 refine zA (wpAny_newList ?_ (by rw[hl,sizeLine_eq];lia))
 have W:(s1.heap.push (seqObj "list" G.toArray 0)).get? s1.heap.objs.size=some (seqObj "list" G.toArray 0):=zU _ rfl;refine zA (zD (wpAny_call_entry slot_list_sort ⟨_,W,rfl⟩ entry_list_sort (Nq W hI (by lia) λout O a1 a2=>⟨_,rfl,?_⟩) (args_list_sort _)))
 obtain⟨e,he⟩:=sortedHeap_at (out:=out) W;exact zB ⟨_,rfl,h _ _ out O e e1 e2 (λb o q=>by
  have hb:=zQ (hk b o q);rw[sortedHeap_old (zX hb) (by rw[size_push'];exact xK hb)]
  exact zL _ (hk b o q)) Z he a1 (a2.trans pm)⟩
end
section
variable {prog:Ae}{w:Af}{A:Ag}{E:Aa->Ac->Prop}{s:Ac}
theorem Ml{x:Aa}{k:Int}{Q:Bool->Ac->Prop}(S:SetV prog w s.heap a vs)(W:(intKind prog w).is k x=true)(V:x.scannable=true)(hn:∃v∈vs,(intKind prog w).is k v=true)(h:∀tk,Q false { s with toks:=tk }):wpAny (model prog w) A (setAdd a x) Q E s:=by
 obtain⟨es,ep,t,S⟩:=S;unfold setAdd;refine zD (zA ((intKind prog w).pyHash W ?_));unfold setAddHashed setAddHashedIn;refine zD (zA (wpAny_setState_of S.at_ rfl S.fit ?_));dsimp only;rw[byScan_of V S.few S.el,xY rfl];unfold setAddByScan;refine zA (zA (wpAny_rule (zA (wpAny_setScan_of W S.at_ rfl S.fit S.el ?_))));have G:∃i,qG (λe=>(intKind prog w).is k e.2) es.toList=some i:=by
  cases e:qG (λe=>(intKind prog w).is k e.2) es.toList with
  | some i=>exact⟨i,rfl⟩
  | none =>
   obtain⟨v,Z,O⟩:=hn;obtain⟨p,hp,rfl⟩:=yK.mp (S.pm.mem_iff.mpr Z);rw[jX.mp e p hp] at O;cases O
 obtain⟨i,e⟩:=G;rw[e];dsimp only;exact zB (zB (h _))
def nOf:Aa->Int
 | .int n _=>n
 | _=>0
def YE(prog:Ae)(w:Af)(ms:List Aa)(x:Aa):List Aa:=if ms.any (λu=>(intKind prog w).is (nOf x) u)=true then ms else ms++[x]
def dd (prog:Ae)(w:Af)(vs:List Aa):List Aa:=vs.foldl (YE prog w) []
theorem Ty{v:Aa}(h:vs[i]?=some v):dd prog w (vs.take (i+1))=YE prog w (dd prog w (vs.take i)) v:=by
 unfold dd;rw[xM,h,jA];rfl
theorem RL(ms:List Aa)(x:Aa):(YE prog w ms x).length<=ms.length+1:=by
 unfold YE;split
 .lia
 .rw[zR];exact zO _
theorem K8:∀(vs ms:List Aa),(vs.foldl (YE prog w) ms).length<=ms.length+vs.length
 | [],ms=>zO _
 | v::vs,ms=>by
  have h:=K8 vs (YE prog w ms v);have h2:=RL (prog:=prog) (w:=w) ms v;show(vs.foldl (YE prog w) (YE prog w ms v)).length<=_;rw[xF];lia
theorem Do(vs:List Aa)(i:Nat):(dd prog w (vs.take i)).length<=i:=by
 have:=K8 (prog:=prog) (w:=w) (vs.take i) []
 rw[yL] at this;exact yU this (by show 0+_<=_;lia)
def IntsAny(vs:List Aa):Prop:=∀(i:Nat) (v:Aa),vs[i]?=some v->∃(n:Int) (t:Tok),v=Value.int n t
theorem Q4{R:Result->Ac->Prop}{I:Ab}{fp wr:List Ab}{P:Nat->Aa->Prop}{St:Nat->Heap->Prop}{vs:List Aa}(W:Walks prog w A.in1 I fp wr vs.length P St)(hP:∀i v,P i v->vs[i]?=some v)(S:Ab)(O:S∉fp)(hv:IntsAny vs)(hb:vs.length+1<scanBound):
  ∀(k i:Nat) (s:Ac),vs.length-i=k->i<=vs.length->St i s.heap->SetV prog w s.heap S (dd prog w (vs.take i)) ->
   (∀h' tk,(∀b o,b≠S->b∉wr->s.heap.get? b=some o->h'.get? b=some o)->SetV prog w h' S (dd prog w vs)->R (.ok (.ret .none)) { s with heap:=h',toks:=tk }) ->
   codeAny (model prog w) A (.builtin "set.update.loop" ⟨[.ref S,.ref I],[]⟩) R s
 | 0,i,s,hk,hi,hst,hS,hR=>by
  have e:i=vs.length:=by lia
  subst e;have ac:S∉wr:=λz=>O (W.sub _ z);rw[wE] at hS;refine codeAny_builtin PyProof.Rows.F.entry_set_update_loop ?_;rw[Around.under_plainId PyProof.Rows.F.plain_set_update_loop _];show wpAny _ A.in1 (pyNext (.ref I) >>= _) _ _ _;refine zA (W.done s _ _ hst λh' tk kp=>?_);exact zB (hR h' tk (λb o _ h2 e=>kp b o h2 e) (hS.keep λo e=>kp S o ac e))
 | k+1,i,s,hk,hi,hst,hS,hR=>by
  have ag:i<vs.length:=by lia
  have ac:S∉wr:=λz=>O (W.sub _ z);refine codeAny_builtin PyProof.Rows.F.entry_set_update_loop ?_;rw[Around.under_plainId PyProof.Rows.F.plain_set_update_loop _];show wpAny _ A.in1 (pyNext (.ref I) >>= _) _ _ _;refine zA (W.item i s _ _ ag hst λv h1 ah al Z aa=>?_);have af:=hP i v al;obtain⟨n,t,rfl⟩:=hv i v af;have V:SetV prog w h1 S (dd prog w (vs.take i)):=hS.keep λo e=>aa S o ac e;show wpAny _ A.in1 (holding [Value.int n t] (setAdd S (.int n t)) >>= _) _ _ _;cases G:(dd prog w (vs.take i)).any (λu=>(intKind prog w).is n u) with
  | true =>
   obtain⟨u,hu,ak⟩:=uD.mp G;refine zA (zD (Ml (k:=n) (s:={ s with heap:=h1,toks:=ah }) V (intKind_is _ _ _ _) rfl ⟨u,hu,ak⟩ λad=>?_))
   have e:dd prog w (vs.take (i+1))=dd prog w (vs.take i):=by rw[Ty af];unfold YE;rw[xY (show(dd prog w (vs.take i)).any (λu=>(intKind prog w).is (nOf (.int n t)) u)=true from G)]
   rw[<-e] at V;refine zB ⟨plainId_quiet PyProof.Rows.F.plain_set_update_loop _,Q4 W hP S O hv hb k (i+1) { s with heap:=h1,toks:=ad } (by lia) ag Z V λh' tk kp ae=>?_⟩
   exact hR h' tk (λb o g1 g2 e=>kp b o g1 g2 (aa b o g2 e)) ae
  | false =>
   refine zA (zD (Mm (k:=n) (s:={ s with heap:=h1,toks:=ah }) V (intKind_is _ _ _ _) rfl (λu hu=>by have:=jC.mp G u hu;simpa using this) (by have:=Do (prog:=prog) (w:=w) vs i;lia) λh2 ad sb ai=>?_))
   have e:dd prog w (vs.take i)++[Value.int n t]=dd prog w (vs.take (i+1)):=by rw[Ty af];unfold YE;rw[xZ (show ¬ (dd prog w (vs.take i)).any (λu=>(intKind prog w).is (nOf (.int n t)) u)=true from by rw[show(dd prog w (vs.take i)).any (λu=>(intKind prog w).is (nOf (.int n t)) u)=false from G];decide)]
   rw[e] at ai;refine zB ⟨plainId_quiet PyProof.Rows.F.plain_set_update_loop _,Q4 W hP S O hv hb k (i+1) { s with heap:=h2,toks:=ad } (by lia) ag (W.frame _ _ _ Z λb aj o e=>?_) ai λh' tk kp ae=>?_⟩
   .rw[sb.2 b (λz:b=S=>O (z▸aj))];exact e
   .exact hR h' tk (λb o g1 g2 e=>kp b o g1 g2 (by rw[sb.2 b g1];exact aa b o g2 e)) ae
theorem GN{items:Array Aa}{Q:Aa->Ac->Prop}(hh:A.handled=none)(hl:s.heap.IsList l items)(hv:IntsAny items.toList)(hb:items.size+1<scanBound)(h:∀(h':Heap) (tk:Nat),SetV prog w h' s.heap.objs.size (dd prog w items.toList)->(∀b o,s.heap.get? b=some o->h'.get? b=some o)->Q (.ref s.heap.objs.size) { s with heap:=h',toks:=tk }):
  wpAny (model prog w) A (call (.type "set") [.ref l]) Q E s:=by
 obtain⟨c,tl,au⟩:=PySem.F.called_set.mro;have aq:=PySem.F.called_set.made;have as:=PySem.F.called_set.sub;refine wpAny_call (codeAny_of_tree ?_);show wpAny _ _ (callAny (.type "set") _) _ _ _;refine zB ⟨Code.quiet_builtin _ (by decide +kernel),codeAny_builtin PySem.F.entry_type_call ?_⟩
 rw[Around.under_plain (weight_type_call_type "set" [.ref l] []) rfl];have n1:=PySem.F.called_set.notType;have n2:=PySem.F.called_set.canCreate;have n3:=PySem.F.typeCall_set_1 (.ref l)
 repeat (any_goals (first | assumption | wp_step))
 refine codeAny_mono (KP (.ref l) (E:=E) (Q₁:=λaf s₁=>af = .ref s.heap.objs.size/\s₁={ s with heap:=s.heap.push { cls:=.type "set",dict:=none,data:=.set #[] 0 (.fresh 0 0 (!Yu w)) } }) ⟨rfl,rfl⟩) λr s₁ hr=>?_
 cases r with
 | error e=>exact hr
 | ok fl =>
  cases fl with
  | ret af =>
   obtain⟨rfl,rfl⟩:=hr;have hS:(s.heap.push { cls:=.type "set",dict:=none,data:=.set #[] 0 (.fresh 0 0 (!Yu w)) }).get? s.heap.objs.size=some { cls:=.type "set",dict:=none,data:=.set #[] 0 (.fresh 0 0 (!Yu w)) }:=zU _ rfl;have hT:Shared.TypeIs { s with heap:=s.heap.push { cls:=.type "set",dict:=none,data:=.set #[] 0 (.fresh 0 0 (!Yu w)) } } (.ref s.heap.objs.size) "set":=⟨_,hS,rfl⟩
   have aw:=PySem.F.called_set.init.lookup;have av:=PySem.F.called_set.init.bind (.ref s.heap.objs.size)
   repeat (any_goals (first | assumption | wp_step))
   refine codeAny_mono (codeAny_call_builtin (R:=wants (λr s₂=>r = .none/\∃h' tk,s₂={ s with heap:=h',toks:=tk }/\SetV prog w h' s.heap.objs.size (dd prog w items.toList)/\(∀b o,s.heap.get? b=some o->h'.get? b=some o)) E) PySem.F.called_set.init.plain PySem.F.entry_set_init (check_set_init_1 hT ?_)) λr₂ s₂ O=>?_
   .obtain⟨ol,ag,ac,nl,ad⟩:=hl;obtain⟨ar,ak,am,ah⟩:=ol;simp only at ac ad;subst ac;subst ad;have ae:=zL { cls:=.type "set",dict:=none,data:=.set #[] 0 (.fresh 0 0 (!Yu w)) } ag;have q1:=PySem.F.sub_list_set;have q2:=PySem.F.sub_list_frozenset;have q3:(Value.type "list"==Value.type "dict")=false:=by decide
    have aa:(s.heap.push { cls:=.type "set",dict:=none,data:=.set #[] 0 (.fresh 0 0 (!Yu w)) }).IsList l items:=⟨_,ae,rfl,nl,rfl⟩;unfold Builtin.«set.__init__» noKeywords Builtin.Frozenset.updateFrom;generalize ao:pyIter=PI
    wp_walk
    subst ao;refine wpAny_pyIter_list aa (zA (wpAny_runValue ?_));have Z:l<s.heap.objs.size:=zQ ag;have ai:A.in1.in1.in1.handled=none:=by simp[hh]
    have zS:(s.heap.push { cls:=.type "set",dict:=none,data:=.set #[] 0 (.fresh 0 0 (!Yu w)) }).objs.size=s.heap.objs.size+1:=wG _ _;have ap:s.heap.objs.size∉[(s.heap.push { cls:=.type "set",dict:=none,data:=.set #[] 0 (.fresh 0 0 (!Yu w)) }).objs.size,l]:=by
     rw[zS];intro z;rcases yF.mp z with z | z
     .exact zX (uF _) z
     .exact vB Z (yO.mp z)
    have W:=Walks.list (prog:=prog) (w:=w) ai (s.heap.push { cls:=.type "set",dict:=none,data:=.set #[] 0 (.fresh 0 0 (!Yu w)) }).objs.size l (by rw[zS];exact zX (xK Z)) items
    rw[<-yD] at W hb;refine Q4 W (λi v e=>by rw[vE];exact e) s.heap.objs.size ap hv hb items.toList.length 0 _ (by lia) (xD _) ⟨⟨_,zU _ rfl,rfl,rfl⟩,aa.push _⟩ ?_ λh' tk kp G=>?_
    .rw[List.take_zero];exact⟨#[],0,_,zL _ hS,λe he=>by simp at he,List.Perm.nil,by decide,rfl,Nz _ _ _,rfl⟩
    .refine zB (zB ⟨rfl,h',tk,rfl,G,λb o e=>?_⟩);have V:=zQ e;exact kp b o (zX V) (λz=>zX (xK V) ((yO.mp z).trans zS)) (zL _ (zL _ e))
   .cases r₂ with
    | error e=>exact O
    | ok aj =>
     cases aj with
     | ret r =>
      obtain⟨rfl,h',tk,rfl,G,al⟩:=O
      repeat (any_goals (first | assumption | wp_step))
      exact h _ _ G al
     | _=>exact O.elim
  | _=>exact hr.elim
end
section
variable {X:Cx}{b8:List (Ab×Obj)}{σ:St}{H:Hp}{s s':Ac}
theorem Inv.anew{o:HO}(I:Inv X b8 σ H s)(e1:s'.os=s.os)(e2:s'.gens=s.gens)(k:∀b u,s.heap.get? b=some u->s'.heap.get? b=some u)(O:s.heap.objs.size<=D)(G:ObjOk X.prog X.w (upd H D o) s'.heap D o):Inv X b8 σ (upd H D o) s':=by
 obtain⟨h',g',Z,t',W⟩:=s';cases e1;cases e2;exact I.call (ch:=[]) (Un.laid k O (I.hok.fresh O)) (I.hok.laid k O G) I.bare λb V=>nomatch V
theorem PN{G:List Aa}(V:G.length=ns.length)(h:∀(i:Nat) (v:Aa),G[i]?=some v->∃t,v = .int (ns.getD i 0) t):IntsAre G ns:=by
 refine JX (UR (by rw[zK,V]) λi x u ex O=>?_)
 obtain⟨t,rfl⟩:=h i u O;have hi:i<ns.length:=by rw[<-V];exact(zT.mp O).1
 rw[zM,zN hi] at ex;cases ex;exact⟨t,by simp[hi]⟩
theorem Th{out:Array Aa}{e:Nat}(I:Inv X b8 σ H s)(e1:s'.os=s.os)(e2:s'.gens=s.gens)(k:∀b u,s.heap.get? b=some u->s'.heap.get? b=some u)(O:s.heap.objs.size<=D)(W:s'.heap.get? D=some (seqObj "list" out e))(G:IntsAre out.toList ms)(hz:ms.length<128):
  Inv X b8 σ (upd H D (.lst (ms.map V.int))) s' :=
 I.anew e1 e2 k O (show ObjOk X.prog X.w _ s'.heap D (.lst _) from⟨by rw[zK,sizeLine_eq];lia,out.toList,e,V7 G,by simpa using W⟩)
end
section
variable {X:Cx}
theorem Nb(ac:X.calm=true):Jt X (.builtin "sorted") (λxs H Q=>∃(d:Ab) (kvs:List (Key×V)) (ns:List Int),xs=[.ref d]/\H d=some (.dK kvs)/\kvs.map (·.1)=ns.map Sum.inl/\ns.length<128 /\
  ∀(D:Ab) (ms:List Int),ms.Perm ns->H D=none->Q (.ref D) (upd H D (.lst (ms.map V.int)))):=by
 intro b8 s σ H xs us Q I r h;obtain⟨d,kvs,ns,rfl,hd,hk,hz,q⟩:=h;obtain⟨u,rfl,rx⟩:=JN r;cases rx;obtain⟨zz,ai,vs,rv,dd⟩:=N3 I.hok hd;obtain⟨ep,da⟩:=dd.dictAt;have af:d<s.heap.objs.size:=da.lt_size;have hh:X.A.handled=none:=I.ok.hd ac;have ad:vs.length=ns.length:=by
  have a1:=rv.length;have a2:=xQ jI hk;rw[zK,zK] at a2;lia
 refine Qw hz (λR hR=>?_) λs' D out ms e e1 e2 k hp hD hI pm=>⟨.ref D,_,Th I e1 e2 k hp hD hI (by rw[pm.length_eq];exact hz),rfl,q D ms pm (I.hok.fresh hp)⟩
 refine XL (G:=λO=>IntsAre O ns) (λR2 aj=>?_) λs' O e1 e2 k hp hI=>hR s' O ns e1 e2 k hp hI (List.Perm.refl _);refine PySem.W.kdl_extend (A:=X.A.in1) (s:={ s with heap:=s.heap.push { cls:=.type "list",data:=.seq ([]:List Aa).toArray } }) (PySem.W.kdl_dict (knd:=mixKind X.prog X.w) (kvs:=vs) (ep:=ep) ai) (by simpa using hh) (da.push _) s.heap.objs.size (vB af) (vB af) _ 0 (zU _ rfl) (λh' tk O c ag hS Z=>?_) (by rw[ad,sizeLine_eq];lia)
 refine aj _ O c rfl rfl (λb o e=>ag b o (zX (zQ e)) (zL _ e)) hS ?_;refine PN (by rw[yD,Z.1,ad]) λi v e=>?_
 rw[vE] at e;obtain⟨kk,x,ek,aa⟩:=Z.2 i v e;have hi:i<vs.length:=(zT.mp ek).1;have ae:i<kvs.length:=by rw[rv.length];exact hi
 obtain⟨bb,eb,ah⟩:=Paired.getL rv (zN ae);rw[ek] at eb;cases eb;have e3:(kvs.map (·.1))[i]?=some kk:=by rw[zM,zN ae];exact xQ some ah.1
 rw[hk,zM,zN (show i<ns.length by lia)] at e3
 cases e3;have aa:XG (Sum.inl ns[i]) v=true:=aa;rcases ZW aa with ⟨n,t,e4,rfl⟩ | ⟨y,t,e4,rfl⟩
 .cases e4;exact⟨t,by simp[show i<ns.length by lia]⟩
 .cases e4
end
theorem PL(prog:Ae)(w:Af)(n m:Int)(t:Tok):(intKind prog w).is n (.int m t)=decide (n=m):=KeyKind.is_eq_decide (intKind_is _ _ m t) n
theorem Gz{prog:Ae}{w:Af}:∀(vs ms:List Aa),(∀v∈vs,∃n t,v=Value.int n t)->(∀v∈ms,∃n t,v=Value.int n t)->(ms.map numOf).Nodup ->
  (∀v∈vs.foldl (YE prog w) ms,v∈ms∨v∈vs)/\((vs.foldl (YE prog w) ms).map numOf).Nodup/\∀k,k∈(vs.foldl (YE prog w) ms).map numOf↔k∈ms.map numOf∨k∈vs.map numOf
 | [],ms,_,_,hnd=>⟨λv h=>.inl h,hnd,λk=>by simp⟩
 | v::vs,ms,hv,hm,hnd=>by
  obtain⟨n,t,rfl⟩:=hv v (yJ ..);have key:ms.any (λu=>(intKind prog w).is (nOf (.int n t)) u)=true↔n∈ms.map numOf:=by
   rw[uD];constructor
   .rintro⟨u,G,e⟩;obtain⟨m,t2,rfl⟩:=hm u G;rw[PL] at e;have e:n=m:=xU e;exact yK.mpr ⟨_,G,e.symm⟩
   .intro h;obtain⟨u,G,e⟩:=yK.mp h;obtain⟨m,t2,rfl⟩:=hm u G;exact⟨_,G,by rw[PL];exact xV (show n=m from(show m=n from e).symm)⟩
  have W:∀u∈vs,∃n t,u=Value.int n t:=λu G=>hv u (yB _ G);show(∀u∈vs.foldl (YE prog w) (YE prog w ms (.int n t)),u∈ms∨u∈Value.int n t::vs)/\((vs.foldl (YE prog w) (YE prog w ms (.int n t))).map numOf).Nodup/\∀k,k∈(vs.foldl (YE prog w) (YE prog w ms (.int n t))).map numOf↔k∈ms.map numOf∨k∈n::vs.map numOf;by_cases O:n∈ms.map numOf
  .have e:YE prog w ms (.int n t)=ms:=by unfold YE;rw[xY (key.mpr O)]
   rw[e];obtain⟨a,b,c⟩:=Gz vs ms W hm hnd;refine⟨λu G=>(a u G).imp id (yB _),b,λk=>?_⟩;rw[c k,yF];constructor
   .rintro(z | z)
    .exact .inl z
    .exact .inr (.inr z)
   .rintro(z | z | z)
    .exact .inl z
    .subst z;exact .inl O
    .exact .inr z
  .have e:YE prog w ms (.int n t)=ms++[.int n t]:=by unfold YE;rw[xZ (λz=>O (key.mp z))]
   rw[e];have aa:∀u∈ms++[Value.int n t],∃n t,u=Value.int n t:=λu G=>by
    rcases yC.mp G with z | z
    .exact hm u z
    .rw[yO] at z;exact⟨n,t,z⟩
   have V:((ms++[Value.int n t]).map numOf).Nodup:=by
    rw[zZ,List.nodup_append];refine⟨hnd,qH _ _,λa ha b Z z=>?_⟩;have Z:b=n:=by simpa[numOf] using Z
    subst Z;subst z;exact O ha
   obtain⟨a,b,c⟩:=Gz vs _ W aa V;refine⟨λu G=>?_,b,λk=>?_⟩
   .rcases a u G with z | z
    .rcases yC.mp z with z | z
     .exact .inl z
     .rw[yO] at z;subst z;exact .inr (yJ ..)
    .exact .inr (yB _ z)
   .rw[c k,zZ,yC,yF,or_assoc];show(k∈ms.map numOf∨k∈[n]∨_)↔_;rw[yO]
section
variable {X:Cx}{b8:List (Ab×Obj)}{σ:St}{H:Hp}{s s':Ac}
def TW(K:Frag)(ta:TA):TE:=λσ H Q=>ta σ H λvs H1=>∃(l:Ab) (ns:List Int),vs=[.ref l]/\SqL K H1 l (ns.map V.int)/\ns.length<=200/\(∀ds:List Int,ds.Nodup->(∀k,k∈ds↔k∈ns)->ds.length<128) /\
 ∀(D:Ab) (ms:List Int),ms.Nodup->(∀k,k∈ms↔k∈ns)->H1 D=none->Q (.ref D) (upd H1 D (.lst (ms.map V.int)))
theorem Mx{es:List Ah}{pos2:Pos}(ai:Gl X "sorted")(aj:X.mg "sorted"=none)(ag:Gl X "set")(ah:X.mg "set"=none)(ha:PA X (e::es) ta)(Z:X.calm=true:=by rfl)(hs:zG (e::es) X.env=(false,eval e X.env)::zG es X.env:=by rfl)(af:(Ao pos2 (zG es X.env)).any (·.1)=false:=by rfl)(ad:zG [.Call (.Name "set" p2) (e::es) [] pos2] X.env=[(false,eval (.Call (.Name "set" p2) (e::es) [] pos2) X.env)]:=by rfl):
  PE X (.Call (.Name "sorted" p) [.Call (.Name "set" p2) (e::es) [] pos2] [] pos) (TW X.K ta):=by
 intro b8 s σ H Q I h;refine wpAny_Call_Name_kw (JW I ai aj boot_sorted ?_ (by decide) (by decide))
 refine PyProof.Rows.callWith_builtin1 ?_ ad rfl;rw[ad];show wpAny _ _ (spliced ((false,eval (.Call (.Name "set" p2) (e::es) [] pos2) X.env)::Ao pos [])) _ _ s;refine Calls.spliced_cons ?_;refine wpAny_Call_Name_kw (JW I ag ah boot_set ?_ (by decide) (by decide))
 refine PyProof.Rows.callWith_type1 ?_ hs af;refine thn (ha pos2 b8 s σ H _ I h) λus s1 ak=>?_;obtain⟨vs,H1,I1,rv,l,ns,ev,hq,am,hz,q⟩:=ak;subst ev;obtain⟨u,rfl,ru⟩:=JN rv;cases (show u = .ref l from ru)
 obtain⟨c9,ri,pl,ao⟩:=I1.list hq;have hi:=JX ri;have al:c9.length=ns.length:=hi.length;have hh:X.A.handled=none:=I1.ok.hd Z;have V:IntsAny c9:=λi v e=>by
  obtain⟨t,rfl⟩:=PyProof.Rows.IntsAre.int_at hi i v e;exact⟨_,t,rfl⟩
 have W:∀v∈c9,∃n t,v=Value.int n t:=λv hv=>by
  obtain⟨i,e⟩:=qZ hv;exact V i v e
 obtain⟨d1,d2,d3⟩:=Gz (prog:=X.prog) (w:=X.w) c9 [] W (λ_ h=>by cases h) jU
 have aa:∀v∈dd X.prog X.w c9,∃n t,v=Value.int n t:=λv hv=>(d1 v hv).elim (λz=>by cases z) (W v)
 have O:∀k,k∈(dd X.prog X.w c9).map numOf↔k∈ns:=λk=>by
  have:=d3 k
  rw[hi.nums] at this;exact this.trans ⟨λz=>z.elim (λz=>by cases z) id,.inr⟩
 have G:=hz _ d2 O;have ac:s1.heap.IsList l c9.toArray:=pl.isList;refine GN hh ac (by simpa using V) (by rw[zP,al];unfold scanBound;lia) λh' tk hS hk=>?_
 refine Calls.spliced_nil ?_;have I2:Inv X b8 σ H1 { s1 with heap:=h',toks:=tk }:=I1.kept (t':=tk) hk
 have hS:SetV X.prog X.w h' s1.heap.objs.size (dd X.prog X.w c9):=by simpa using hS
 have G:((dd X.prog X.w c9).map numOf).length<128:=G;refine Qw (ns:=(dd X.prog X.w c9).map numOf) (s:={ s1 with heap:=h',toks:=tk }) G (λR hR=>?_) λs' D out ms e e1 e2 k hp hD hI pm=>⟨.ref D,_,Th I2 e1 e2 k hp hD hI (by rw[pm.length_eq];exact G),rfl,q D ms (pm.nodup_iff.mpr d2) (λk=>(pm.mem_iff).trans (O k)) (I2.hok.fresh hp)⟩
 refine N9 (A:=X.A.in1) (s:={ s1 with heap:=h',toks:=tk }) (by simpa using hh) hS (by rw[zK] at G;rw[sizeLine_eq];lia) λs' ae e1 e2 k hp pm=>?_
 exact hR s' ae (ae.map numOf) e1 e2 k hp (intsAre_map _ λv hv=>by
  obtain⟨n,t,rfl⟩:=aa v (pm.mem_iff.mp hv);exact⟨n,t,rfl⟩) (pm.map numOf)
end
open PySem.W (InstAt findIn specialIn takesIn mroIn clsIn findObj looks_find looks_findIn looks_mroIn KitX kitOne Looks)
section
variable {X:Cx}{x:Str}{C:Ab}{e₀:Ah}{es:List Ah}{t:TA}{p pos:Pos}
end
section
variable {X:Cx}{E:XK}{te:TE}{pos:Pos}{x:Str}{p cpos:Pos}{args:List Ah}
end
section
variable {X:Cx}
end
section
variable {X:Cx}{bx:Bool}{C0:Ab}{n cx:Str}{np hpos pos p1:Pos}
end
section
variable {prog:Ae}{w:Af}{A:Ag}{EE:Aa->Ac->Prop}{s:Ac}
end
section
variable {X:Cx}{tg:Ah}
end
def Itrs (n:Nat):It:=⟨λi _=>i<n,λi H x H'=>H'=H/\x = .int (0+(i:Int)*6),λi _=>n<=i,true⟩
theorem Mc(it:Ab)(n:Nat):Turn P w K tg (Itrs n) [it] it (λi h=>IsRangeIter h it (0+(i:Nat)*6) ((n:Int)-(i:Nat)) 6) where
 mem:=by simp
 obj:=λi h st b G=>by
  have e:b=it:=by simpa using G
  subst e;exact⟨_,st,λv z=>by
   have z':Data.fields _=Data.cell v:=z;cases z'⟩
 keep:=λi h h' st k=>k it (by simp) _ st
 item:=by
  intro X hP hw Z hc i b8 s σ H E I V st hg;subst hP hw Z;obtain⟨f0,f1,f2,f3,f4,f5⟩:=V it (by simp)
  have W:=Walks.range (prog:=X.prog) (w:=X.w) (I.ok.hd (hc rfl)) it 0 6 n;refine W.item i s _ _ hg st λv h' tk hv O kk=>?_;obtain⟨t,rfl⟩:=hv;have I1:Inv X b8 σ H { s with heap:=h',toks:=tk }:=I.turned (λb o G e=>kk b o (by simpa using G) e) f0 f1 f3 f4 f5
  exact⟨_,rfl,MZ (s:={ s with heap:=h',toks:=tk }) (n:="range_iterator") O rfl rfl (by decide) ⟨.int (0+(i:Int)*6),H,I1,⟨t,rfl⟩,⟨rfl,rfl⟩,O,λb G=>(V b G).1⟩⟩
 done:=by
  intro X hP hw Z hc i b8 s σ H E I V st hg;subst hP hw Z;obtain⟨f0,f1,f2,f3,f4,f5⟩:=V it (by simp)
  exact wpAny_pyNext_range_end (I.ok.hd (hc rfl)) st (by have:n<=i:=hg;lia) λh' eb=>⟨rfl,I.turned (t':=s.toks) (λb o G e=>eb b o G e) f0 f1 f3 f4 f5⟩
 self:=λ_ _ _ _ _ st h=>wpAny_pyIter_rangeiter st h
section
variable {X:Cx}{tg:Ah}
theorem Mi{n:Nat}:Builtin.Range.rangeSize 0 (n:Int) 6=(((n+5) / 6:Nat):Int):=by
 unfold Builtin.Range.rangeSize;rw[xY (by decide)]
 split <;> lia
theorem fits{i:Int}(h1:-2000<=i)(h2:i<=2000):Builtin.Range.rangeFitsLong i=true:=by
 unfold Builtin.Range.rangeFitsLong;rw[yI];exact⟨xV (by lia),xV (by lia)⟩
theorem TZ{n:Nat}(h:n<=1000):Builtin.Range.small 0 (n:Int) 6=true:=by
 unfold Builtin.Range.small;rw[Mi,xY (by decide),fits (i:=0) (by decide) (by decide),fits (i:=6) (by decide) (by decide),fits (i:=(n:Int)) (by lia) (by lia),fits (i:=(((n+5) / 6:Nat):Int)) (by lia) (by lia),fits (i:=(n:Int)+(6-1)) (by lia) (by lia),jD]
 rfl
def EI(ta:TA):TI:=λσ H R=>ta σ H λvs H1=>∃n:Nat,vs=[.int 0,.int n,.int 6]/\n<=1000/\R (Itrs ((n+5) / 6)) H1
theorem Rc{R:It->Hp->Prop}{n:Nat}{t u v:Tok}(G:X.calm=true)(I:Inv X b8 σ H s)(W:n<=1000)(q:R (Itrs ((n+5) / 6)) H):wpAny (model X.prog X.w) X.A (pyIter (.ref s.heap.objs.size)) (PIE X b8 σ tg R) E { s with heap:=s.heap.push { cls:=.type "range",data:=.fields #[.int 0 t,.int n u,.int 6 v] },toks:=tk }:=by
 refine wpAny_pyIter_range (IsRange.new ..) (TZ W) ?_;have O:Inv X b8 σ H { s with heap:=s.heap.push { cls:=.type "range",data:=.fields #[.int 0 t,.int n u,.int 6 v] },toks:=tk }:=I.kept λb o e=>zL _ e
 refine⟨(s.heap.push { cls:=.type "range",data:=.fields #[.int 0 t,.int n u,.int 6 v] }).objs.size,[(s.heap.push { cls:=.type "range",data:=.fields #[.int 0 t,.int n u,.int 6 v] }).objs.size],_,_,H,rfl,
  O.kept (t':=tk) λb o e=>zL _ e,Mc _ ((n+5) / 6),?_,λb V=>?_,λ_=>G,q⟩
 .have e1:0+((0:Nat):Int)*6=0:=by simp
  have e2:((((n+5) / 6:Nat):Nat):Int)-((0:Nat):Int)=Builtin.Range.rangeSize 0 n 6:=by rw[Mi];lia
  show IsRangeIter _ _ (0+((0:Nat):Int)*6) ((((n+5) / 6:Nat):Int)-((0:Nat):Int)) 6;rw[e1,e2];exact zU _ rfl
 .have e:b=(s.heap.push { cls:=.type "range",data:=.fields #[.int 0 t,.int n u,.int 6 v] }).objs.size:=by simpa using V
  subst e;exact O.fpOk (zO _) (O.hok.fresh (zO _))
theorem Wu{a b c:Ah}(Z:Gl X "range")(hm:X.mg "range"=none)(G:X.calm=true)(ha:PA X [a,b,c] ta)(hs:zG [a,b,c] X.env=[(false,eval a X.env),(false,eval b X.env),(false,eval c X.env)]:=by rfl)(V:zG [b,c] X.env=[(false,eval b X.env),(false,eval c X.env)]:=by rfl):
  PI X tg (.Call (.Name "range" p) [a,b,c] [] pos) (EI ta):=by
 intro b8 s σ H R I h;refine Call_ (JW I Z hm boot_range (PyProof.Rows.callWith_type1 (thn (ha pos b8 s σ H _ I h) λus s1 hq=>?_) (by rw[hs,V]) (by rw[V];rfl)))
 obtain⟨vs,H1,I1,r1,q1⟩:=hq;obtain⟨n,e,q1,q⟩:=q1;subst e;cases r1 with
 | cons r O =>
  cases O with
  | cons r' O =>
   cases O with
   | cons W O =>
    cases O;obtain⟨t,rfl⟩:=r;obtain⟨t',rfl⟩:=r';obtain⟨aa,rfl⟩:=W;exact call_range_3 (by decide) (Rc G I1 q1 q)
theorem Tm{n:Nat}{D:Ends}(G:Nat->St->Hp->Prop)(h0:G 0 σ H)(hs:∀i σ H,i<n->G i σ H->g (.int ((i:Int)*6)) σ H λZ H2=>tb { D with nx:=G (i+1),ct:=G (i+1),bk:=D.nx } Z H2)(hd:∀ σ H,G n σ H->D.nx σ H):
  ∃W:Nat->Nat->St->Hp->Prop,(∃m,W 0 m σ H)/\∀i m σ H,W i m σ H ->
   ((Itrs n).stop i H/\D.nx σ H)∨((Itrs n).go i H/\∃N:St->Hp->Prop,(∀V H',N V H'->∃m',m'<m/\W (i+1) m' V H')/\∀x H',(Itrs n).yld i H x H'->g x σ H' λZ H2=>tb { D with nx:=N,ct:=N,bk:=D.nx } Z H2):=by
 refine⟨λi m σ H=>m=n-i/\i<=n/\G i σ H,⟨n,by simp,xD _,h0⟩,?_⟩
 rintro i m σ H ⟨rfl,hi,p⟩;by_cases O:i<n
 .refine .inr ⟨O,G (i+1),λV H' p'=>⟨n-(i+1),by lia,rfl,O,p'⟩,λx H' y=>?_⟩
  obtain⟨e,y⟩:=y;subst e y;rw[qQ];exact hs i σ _ O p
 .have e:i=n:=by lia
  subst e;exact .inl ⟨zO _,hd σ H p⟩
end
end L2
namespace At
open PySem L2
def top (i:Nat):Ai:=PySem.Challenge.pw_atmost_k07_answers_by_hand.main.body.getD i (.Pass ⟨0,0,0,0⟩)
def topB (i:Nat):Ai:=(PySem.Challenge.pw_atmost_k07_answers_by_hand.main.body.drop 50).getD i (.Pass ⟨0,0,0,0⟩)
abbrev ZJ:Ai:=ZU (top 5) 0
abbrev Lx:Ai:=top 7
abbrev Mq:Ai:=top 8
abbrev QQ:Ai:=top 9
abbrev Xi:Ai:=top 10
abbrev Ly:Ai:=top 11
abbrev T4:Ai:=top 12
abbrev T5:Ai:=top 13
abbrev Lz:Ai:=top 14
abbrev Mp:Ai:=top 15
abbrev Xh:Ai:=top 16
abbrev Q8:Ai:=top 17
abbrev Xg:Ai:=top 19
abbrev Jy:Ai:=top 20
abbrev Ym:Ai:=ZU (top 22) 0
abbrev Jv:Ai:=ZU (top 22) 1
abbrev YS:Ai:=ZU (top 23) 0
abbrev UF:Ai:=ZU (top 23) 1
abbrev Yn:Ai:=ZU (top 24) 0
abbrev Jw:Ai:=ZU (top 24) 1
abbrev YT:Ai:=ZU (top 25) 0
abbrev JH:Ai:=ZU (top 25) 1
abbrev YO:Ai:=ZU (top 26) 0
abbrev Jl:Ai:=ZU (top 26) 1
abbrev Jc:Ai:=ZU (top 27) 0
abbrev JT:Ai:=ZU (top 27) 1
abbrev YK:Ai:=ZU (top 28) 0
abbrev Ue:Ai:=ZU (top 28) 1
abbrev YJ:Ai:=ZU (top 29) 0
abbrev Ud:Ai:=ZU (top 29) 1
abbrev Ua:Ai:=top 31
abbrev U3:Ai:=top 32
abbrev ZL:Ai:=top 33
abbrev Y3:Ai:=ZU (top 34) 0
abbrev Y2:Ai:=ZU (top 34) 1
abbrev Zx:Ai:=ZU (top 34) 2
abbrev ZE:Ai:=ZU (top 34) 3
abbrev ZD:Ai:=ZU (top 34) 4
abbrev JC:Ai:=top 35
abbrev Qx:Ai:=top 36
abbrev VL:Ai:=top 37
abbrev Gb:Ai:=top 38
abbrev YR:Ai:=top 39
abbrev Vo:Ai:=top 41
abbrev Wq:Ai:=top 42
abbrev Wr:Ai:=top 43
abbrev DZ:Ai:=top 44
abbrev Nw:Ai:=top 46
abbrev T1:Ai:=top 47
abbrev Op:Ai:=top 48
abbrev Gc:Ai:=top 49
abbrev Qz:Ai:=topB 0
abbrev Qy:Ai:=topB 1
abbrev QA:Ai:=topB 2
abbrev UT:Ai:=topB 3
abbrev Ye:Ai:=topB 4
abbrev Yb:Ai:=topB 5
abbrev Zz:Ai:=topB 6
abbrev Yk:Ai:=topB 7
abbrev Yc:Ai:=topB 8
abbrev Yv:Ai:=topB 9
abbrev Y6:Ai:=topB 10
abbrev sLaw:Ai:=topB 11
end At
namespace At
open PySem L2 PyProof.Rows
section
variable {P:Ae}{w:Af}{K:Frag}{mg:Str->Option Aa}{base:Heap}
variable {X Y:Cx}{c i n:Nat}{x qual f1 f2 f1' qI qS:Str}{st sI sS:Ai}{ps N pI pS:List Str}{f a C g C0 f0 f3 f4 CB fB F l Pt fc fw fs fl fo fH fR fa fh fk fI dx q1 q2 l1 l2 cR fr cF a1 a2 b1 b2 fy fk' fm gR fF gF cN fN gN cH gH cL fL gL gS fp fd' ff g0 g1 g2 g3 g4 fb cX gX cG:Ab}{fd gd d0 d1 d2 d3 d4 dc dw ds dl dv do_ dH dR da dh dk dr dy dk' dm eR dF eF dN eN eH dL eL dI eS dp dd df e0 e1 e2 e3 e4 db eX:Ad}{k p v lo at_:Int}{sp:Sp}{e:Ah}{es:List Ah}{t:TA}{pos pos':Pos}{te tb:TE}{H H' H0 H1:Hp}{ss:List Say}{s:Say}{kvs ke kf:List (Key×V)}{S L Ff:Fn}{E Ef:Int->Bool}{hs ord T ns xs ys:List Int}{d:Int->Int}{ups:Int->List Int}{Q:VK}{D:Ends}{U:TS}{us:List Aa}{oc kV pm cd ct oc2 oc0 kV0 dc0 pm0 cd0 ct0 oc1 kV1 dc1 pm1 cd1 ct1:Aa}{od an od2 od0 an0 od1 an1:Option Ab}{sl sl1 sl2:Array (Option Aa)}
structure G1(K:Frag)(mg:Str->Option Aa):Prop where
 isi:mg "isinstance"=none
 int:mg "int"=none
 bool:mg "bool"=none
 tuple:mg "tuple"=none
 list:mg "list"=none
 len:mg "len"=none
 all:mg "all"=none
 any:mg "any"=none
 sum:mg "sum"=none
 range:mg "range"=none
 enumerate:mg "enumerate"=none
 sorted:mg "sorted"=none
 max:mg "max"=none
 min:mg "min"=none
 kii:PySem.W.kitOne K (.type "int") (.type "int")=some true
 kib:PySem.W.kitOne K (.type "int") (.type "bool")=some false
 ktt:PySem.W.kitOne K (.type "tuple") (.type "tuple")=some true
 kll:PySem.W.kitOne K (.type "list") (.type "list")=some true
 kbb:PySem.W.kitOne K (.type "bool") (.type "bool")=some true
abbrev YY:List Str:=["self","count","sayings","one","other"]
abbrev UK:List Str:=["sayings","value","one","other"]
abbrev Yt:List Str:=["count","value"]
abbrev UY:List Str:=["count","sayings","one","other"]
abbrev UJ:List Str:=["count","sayings","heights"]
abbrev Qk:List Str:=["_law_count","_law_sayings_here","_law_row"]
abbrev JV:List Str:=["sayings","chain"]
abbrev XF:List Str:=["sayings","finished","onward","backward"]
abbrev lst_08:List Str:=["_law_lower","_law_upper","_law_number","_law_row"]
abbrev Qj:List Str:=["self","count","sayings","at"]
abbrev Ug:List Str:=["count","sayings"]
abbrev Vt:List Str:=["self","count","sayings"]
abbrev Vs:List Str:=["heights","one","other"]
abbrev Gu:List Str:=["_law_count","_law_sayings_here","_law_one"]
abbrev UI:List Str:=["self","heights"]
abbrev lst_15:List Str:=["saying","heights"]
abbrev lst_16:List Str:=["at","saying","finished"]
abbrev JU:List Str:=["_law_script"]
abbrev Dd:List Str:=["_law_sayings_here","_law_chain","_law_one","_law_other"]
abbrev UH:List Str:=["self","chain"]
abbrev Qi:List Str:=["count","one","other"]
abbrev XE:List Str:=["self","chain","heights"]
abbrev XD:List Str:=["self","first","second"]
abbrev Qh:List Str:=["sayings","heights"]
abbrev Dc:List Str:=["_law_sayings_here","_law_script","_law_place"]
abbrev XC:List Str:=["ground","places","by"]
abbrev XB:List Str:=["self","there","back"]
abbrev Qg:List Str:=["sayings","order"]
abbrev Pu:List Str:=["_law_count","_law_sayings_here","_law_one","_law_other","_law_there","_law_back"]
abbrev Ps:List Str:=["_law_count","_law_sayings_here","_law_one","_law_other","_law_chain","_law_told"]
abbrev Pr:List Str:=["_law_count","_law_sayings_here","_law_one","_law_other","_law_told","_law_more"]
abbrev Db:List Str:=["start","uppers","entered","finished"]
abbrev Pq:List Str:=["_law_count","_law_sayings_here","_law_one","_law_other","_law_places"]
abbrev Qf:List Str:=["self","place"]
abbrev Da:List Str:=["sayings","order","walk","place"]
abbrev Gs:List Str:=["_law_said","_law_due"]
abbrev UG:List Str:=["sayings"]
abbrev lst_37:List Str:=["place","height","by","places"]
abbrev XA:List Str:=["count","places"]
abbrev D9:List Str:=["_law_sayings_here","_law_chain"]
abbrev Xz:List Str:=["self","places"]
abbrev D8:List Str:=["count","sums","walk","lift"]
abbrev Pp:List Str:=["self","count","sayings","one","other","moved","place"]
abbrev Po:List Str:=["_law_count","_law_sayings_here","_law_one","_law_other"]
abbrev Pn:List Str:=["start","uppers","entered","finished","todo","place"]
abbrev Xy:List Str:=["count","sums"]
abbrev lst_46:List Str:=["_law_lower","_law_upper","_law_number","_law_reach"]
abbrev D7:List Str:=["self","sayings","starts"]
abbrev Xx:List Str:=["self","ring"]
abbrev D6:List Str:=["sayings","order","other"]
abbrev D0:List Str:=["_law_script","_law_count"]
abbrev NZ:List Str:=["_law_some","_law_script"]
abbrev NY:List Str:=["sayings","order","one"]
abbrev NX:List Str:=["count","sums","walk"]
abbrev lst_54:List Str:=["_law_at","_law_sayings_here","_law_place"]
structure Def(K:Frag)(mg:Str->Option Aa)(x:Str)(st:Ai)(ps:List Str)(f:Ab)(fd:Ad):Prop where
 fn:Fun K x x st f fd
 at_:mg x=some (.ref f)
 bd:Binds K fd ps []
theorem pcD{c:Bool}{k:Nat}{p:Pos}(D:Def X.K X.mg x st ps f fd)(F:FnOk X.prog X.w X.K X.mg X.base (CXm c) k f fd ps sp)(Z:Room k X.A)(ha:PA X (e::es) t)(W:Gl X x:=by rfl)(O:(x==("__debug__":Str))=false:=by decide)(V:zG (e::es) X.env=(false,eval e X.env)::zG es X.env:=by rfl)(G:(Ao pos (zG es X.env)).any (·.1)=false:=by rfl)(hcc:(CXm c).calm=true->X.calm=true:=by first | exact λ_=>rfl | exact λz=>nomatch z):PE X (.Call (.Name x p) (e::es) [] pos) (Dw sp [] E0 t):=UD F Z W D.at_ D.fn.kp D.bd .nil Zu ha O V G hcc
theorem psl(i:Nat)(G:X.N.Nodup)(O:PE X e te)(hi:X.N[i]?=some x:=by rfl)(V:Loc X.env.scope x:=by exact Or.inl rfl)(hs:swapsWith e (some (.Name x pos')) pos.line X.env=pure false:=by rfl)(W:X.fn x=true∨X.env.scope.names.lookup x=some .local:=by first | exact .inl rfl | exact .inr rfl | assumption):PS X (.Assign [.Name x pos'] e pos) (tAsg te (V0 i)):=Qa G hi V O hs W
theorem pgl(i:Nat)(G:X.N.Nodup)(hi:X.N[i]?=some x:=by rfl)(O:Loc X.env.scope x:=by exact Or.inl rfl)(V:X.fn x=true∨X.env.scope.names.lookup x=some .local:=by first | exact .inl rfl | exact .inr rfl | assumption):PG X (.Name x pos) (V0 i):=VN G hi O V
theorem szL(n:Nat)(h:n<=100:=by decide):n<=zF:=yU h (by decide)
theorem pbI{p:Pos}(G:G1 X.K X.mg)(ha:PA X (e::es) t)(hg:Gl X "isinstance":=by rfl)(he:zG (e::es) X.env=(false,eval e X.env)::zG es X.env:=by rfl)(O:(Ao pos (zG es X.env)).any (·.1)=false:=by rfl):PE X (.Call (.Name "isinstance" p) (e::es) [] pos) (tCB (λxs H Q=>∃(x c:V) (t Z:Aa) (b:Bool),xs=[x,c]/\TyOf X.K H x t/\ClsV c Z/\PySem.W.kitOne X.K t Z=some b/\Q (.bl b) H) t):=ZC QH hg G.isi boot_isinstance ha (by decide) (by decide) he O
theorem pbL{p:Pos}(G:G1 X.K X.mg)(Z:PA X (e::es) t)(W:Gl X "len":=by rfl)(V:zG (e::es) X.env=(false,eval e X.env)::zG es X.env:=by rfl)(O:(Ao pos (zG es X.env)).any (·.1)=false:=by rfl):PE X (.Call (.Name "len" p) (e::es) [] pos) (tCB (λxs H Q=>∃p ys,xs=[.ref p]/\(SqL X.K H p ys∨SqT X.K H p ys)/\Q (.int ys.length) H) t):=ZC VZ W G.len PySem.boot_len Z (by decide) (by decide) V O
theorem csc{XN:List Str}{outer G:Aj}{cap:List (Option Nat)}(h:Caps XN outer G N cap)(a:G.kind = .function:=by rfl)(b:∀y∈G.names,y.2 ≠ .cell:=by decide +kernel)(c:∀y∈G.names,y.2 = .local->G.names.lookup y.1=some .local:=by decide +kernel)(d:∀y∈G.names,y.2 = .free->outer.names.lookup y.1=some .cell:=by decide +kernel)(e:N.Nodup:=by decide +kernel):XY XN outer G N cap:=⟨a,b,c,d,h,e⟩
section
variable (K mg)
abbrev QZ:=Def K mg "level" Gb Xy
abbrev Jf:=Def K mg "least_sums" JC Qg
abbrev U7:=Def K mg "walk_from" Qx NY
abbrev YW:=Def K mg "level_of_walk" YR NX
abbrev Jo:=Def K mg "finish_from" Ua Db
abbrev Jg:=Def K mg "finishing_order" U3 UG
abbrev JI:=Def K mg "leading_to" VL D6
abbrev VA:=Def K mg "moved_up" Vo XC
abbrev Yr:=Def K mg "walking_order" ZL UG
abbrev Yp:=Def K mg "is_whole" Lx ["value"]
abbrev Y5:=Def K mg "is_counted" Mq Yt
abbrev Ys:=Def K mg "check_sayings" T4 Ug
abbrev Qr:=Def K mg "heights" Wq Ug
abbrev Ui:=Def K mg "are_heights" Xi Yt
abbrev UM:=Def K mg "above" Lz Vs
abbrev U0:=Def K mg "keep_one" Mp lst_15
abbrev VB:=Def K mg "keep_all" Xh Qh
abbrev J0:=Def K mg "are_kept" Xg UJ
abbrev YH:=Def K mg "is_chain" Ly UK
abbrev Yi:=Def K mg "chain_sum" Q8 JV
abbrev Yg:=Def K mg "are_rising_places" Jy XA
abbrev UN:=Def K mg "_law_drawn" Nw D0
abbrev YI:=Def K mg "_law_says" Qy Gs
abbrev V6:=Def K mg "_law_bent" QA NZ
abbrev V4:=Def K mg "_law_walk" UT Dc
abbrev U1:=Def K mg "_law_sum" Op Dd
abbrev V5:=Def K mg "_law_ring" Qz D9
abbrev U8:=Def K mg "_law_kept" Gc Qk
abbrev J1:=Def K mg "_law_frees_right" Yk Gu
abbrev Jh:=Def K mg "check_places" T5 Qi
abbrev Qs:=Def K mg "follows" Wr UY
abbrev M4:=Def K mg "fixed" DZ UY
end
def Ul(s:Say):HO:=.tup [.int s.1,.int s.2.1,.int s.2.2]
structure Yy(H:Hp)(ps:List Ab)(ss:List Say):Prop where
 len:ps.length=ss.length
 at_:∀(i:Nat) p s,ps[i]?=some p->ss[i]?=some s->H p=some (Ul s)
theorem Yy.same{ps:List Ab}(h:Yy H ps ss)(e:Same H H'):Yy H' ps ss:=⟨h.len,λi p s a b=>e _ _ (h.at_ i p s a b)⟩
theorem Yy.get{ps:List Ab}(h:Yy H ps ss)(e:ss[i]?=some s):∃p,ps[i]?=some p/\H p=some (Ul s):=by
 have hi:i<ps.length:=by rw[h.len];exact(zT.mp e).1
 exact⟨ps[i],by simp[hi],h.at_ i _ s (by simp[hi]) e⟩
structure SaysAt(H:Hp)(a:Ab)(ss:List Say):Prop where
 ex:∃ps,H a=some (.lst (ps.map V.ref))/\Yy H ps ss
theorem SaysAt.same{H H':Hp}{a:Ab}{ss:List Say}(h:SaysAt H a ss)(e:Same H H'):SaysAt H' a ss:=by
 obtain⟨ps,h1,h2⟩:=h.ex;exact⟨ps,e _ _ h1,h2.same e⟩
structure DR(kvs:List (Key×V))(S:Int->Option V):Prop where
 at_:∀k:Int,valV kvs (Sum.inl k)=S k
 key:∀p∈kvs,∃k:Int,p.1=Sum.inl k
 nd:(kvs.map (·.1)).Nodup
def putV (S:Int->Option V)(k:Int)(v:V):Int->Option V:=λx=>if x=k then some v else S x
theorem DR.nil:DR [] (λ_=>none):=⟨λ_=>rfl,(λp G=>nomatch G),jU⟩
theorem WI{κ:Type}[DecidableEq κ](kvs:List (κ×V))(k:κ)(v:V)(h:valV kvs k≠none):(putK kvs k v).map (·.1)=kvs.map (·.1):=by
 unfold putK
 have:(kvs.any λkv=>decide (kv.1=k))=true:=by
  rw[Jp];cases e:valV kvs k with
  | none=>exact xX e h
  | some _=>rfl
 rw[xY this,xJ];refine uS λp _=>?_;show(if p.1=k then(p.1,v) else p).1=p.1;split <;> rfl
theorem DR.put{S:Int->Option V}(d:DR kvs S)(k:Int)(v:V):DR (putK kvs (Sum.inl k) v) (putV S k v):=by
 refine⟨λj=>?_,λp G=>?_,?_⟩
 .rw[RY];unfold putV;by_cases e:j=k
  .subst e;rw[xY rfl,xY rfl]
  .rw[xZ e,xZ (λz=>e (Sum.inl.inj z))];exact d.at_ j
 .unfold putK at G;split at G
  .obtain⟨q,O,rfl⟩:=yK.mp G;obtain⟨j,e⟩:=d.key q O;refine⟨j,?_⟩;split <;> exact e
  .rcases yC.mp G with G | G
   .exact d.key p G
   .have:p=(Sum.inl k,v):=by simpa using G
    subst this;exact⟨k,rfl⟩
 .by_cases h:valV kvs (Sum.inl k)=none
  .exact KR v d.nd h
  .rw[WI kvs _ v h];exact d.nd
theorem DR.put_new{S:Int->Option V}(d:DR kvs S)(v:V)(h:S k=none):(putK kvs (Sum.inl k) v).length=kvs.length+1:=by
 rw[Mv v (by rw[d.at_];exact h),zR];rfl
theorem DR.put_old{S:Int->Option V}(d:DR kvs S)(v:V)(h:S k≠none):(putK kvs (Sum.inl k) v).length=kvs.length:=by
 have:=xQ jI (WI kvs (Sum.inl k) v (by rw[d.at_];exact h))
 simpa using this
def keyI:Key->Int
 | .inl k=>k
 | .inr _=>0
def keysI(kvs:List (Key×V)):List Int:=kvs.map λp=>keyI p.1
theorem DR.keysNd{S:Int->Option V}(d:DR kvs S):(keysI kvs).Nodup:=by
 have key:=d.key;have O:=d.nd;clear d;unfold keysI
 induction kvs with
 | nil=>exact jU
 | cons p r ih =>
  rw[yV,vC] at O ⊢;refine⟨λm=>O.1 ?_,ih (λq G=>key q (yB _ G)) O.2⟩;obtain⟨q,G,e⟩:=yK.mp m;obtain⟨a,Z⟩:=key p yJ;obtain⟨b,W⟩:=key q (yB _ G);rw[Z,W] at e;have e:b=a:=e;exact yK.mpr ⟨q,G,by rw[Z,W,e]⟩
theorem DR.mem{S:Int->Option V}(d:DR kvs S){p:Key×V}(G:p∈kvs):p.1=Sum.inl (keyI p.1)/\S (keyI p.1)≠none:=by
 obtain⟨k,e⟩:=d.key p G;rw[e];refine⟨rfl,?_⟩;show S k≠none;rw[<-d.at_ k];intro z;exact Ma z (yK.mpr ⟨p,G,e⟩)
theorem DR.keysMem{S:Int->Option V}(d:DR kvs S):k∈keysI kvs↔S k≠none:=by
 constructor
 .intro m;obtain⟨p,G,e⟩:=yK.mp m;rw[<-e];exact(d.mem G).2
 .intro h;cases e:S k with
  | none=>exact xX e h
  | some v =>
   rw[<-d.at_ k] at e
   have:=Kg e
   obtain⟨p,G,e2⟩:=yK.mp this;exact yK.mpr ⟨p,G,by rw[e2];rfl⟩
theorem DR.len{S:Int->Option V}(d:DR kvs S)(h:∀k v,S k=some v->cnt c k=true):kvs.length<=c:=by
 have:=J3 c (keysI kvs) d.keysNd λx G=>by
  cases e:S x with
  | none=>exact xX e (d.keysMem.mp G)
  | some v=>exact Zm.mp (h x v e)
 simpa[keysI] using this
def iS (S:Fn):Int->Option V:=λk=>(S k).map V.int
theorem Ec(S:Fn)(k v:Int):putV (iS S) k (.int v)=iS (put S k v):=by
 funext x;unfold putV iS put;split <;> rfl
def bS (E:Int->Bool):Int->Option V:=λk=>if E k=true then some (.bl true) else none
def putB (E:Int->Bool)(k:Int):Int->Bool:=λx=>if x=k then true else E x
theorem Ek(E:Int->Bool)(k:Int):putV (bS E) k (.bl true)=bS (putB E k):=by
 funext x;unfold putV bS putB;by_cases e:x=k
 .rw[xY e,xY e];rfl
 .rw[xZ e,xZ e]
theorem DR.iput(d:DR kvs (iS S))(k v:Int):DR (putK kvs (Sum.inl k) (.int v)) (iS (At.put S k v)):=by rw[<-Ec];exact d.put k _
theorem DR.bput(d:DR kvs (bS E))(k:Int):DR (putK kvs (Sum.inl k) (.bl true)) (bS (putB E k)):=by rw[<-Ek];exact d.put k _
theorem Yo(h:S k=some v):iS S k=some (.int v):=by unfold iS;rw[h];rfl
theorem YU :iS S k=none↔S k=none:=by unfold iS;cases S k <;> simp
theorem Vh :bS E k=none↔E k=false:=by unfold bS;cases E k <;> simp
theorem Ut{c:Int}(h:∀k v,S k=some v->cnt c k=true):∀k v,iS S k=some v->cnt c k=true:=λk v e=>by
 cases q:S k with
 | none=>rw[YU.mpr q] at e;cases e
 | some x=>exact h k x q
theorem Uw{c:Int}(h:∀k,E k=true->cnt c k=true):∀k v,bS E k=some v->cnt c k=true:=λk v e=>by
 cases q:E k with
 | false=>rw[Vh.mpr q] at e;cases e
 | true=>exact h k q
theorem Jn{α:Type}{xs:List α}{i:Int}{v:α}(h0:0<=i)(e:xs[i.toNat]?=some v):atI xs i=some v:=by
 obtain⟨j,rfl⟩:=uG h0;exact O7 (by simpa using e)
theorem YZ{α:Type}{xs:List α}{i:Int}(h:cnt xs.length i=true):∃v,xs[i.toNat]?=some v/\0<=i:=by
 obtain⟨h0,h1⟩:=Zm.mp h;exact⟨xs[i.toNat]'(by lia),zN (by lia),h0⟩
theorem ZM{i:Int}(h:cnt hs.length i=true):atI (hs.map V.int) i=some (.int (hs.getD i.toNat 0)):=by
 obtain⟨v,e,h0⟩:=YZ h;refine Jn h0 ?_;rw[zM,e,uB,e];rfl
theorem Fun.okC{c:Bool}{k:Nat}(F:Fun K x qual st f fd)(S:Zd N ps (defScope st))(aa:∀vs H Q E,sp vs H Q E->vs.length=ps.length)(G:∀(O:Aa) (A:Ag) (outer:List Env) (s:Ac) (H:Hp) (vs:List V) (Q:VK) (E:XK),fd.code=O->Room k (A.deeper (envOfC qual (defScope st) s.heap.objs.size f O))->sp vs H Q E ->
 ∃t,PSs (cxOf (CXm c) P w K mg base N qual (defScope st) f O A outer s H E).nox (ZB st) t/\t { nx:=λ_ H'=>Q .non H',rt:=Q } (start N vs) H):FnOk P w K mg base (CXm c) (k+1) f fd ps sp:=by
 obtain⟨oc,od,kV,bw,pm,an,O,ct,bz,rfl,lk,Z⟩:=F.ex;refine PX lk Z S aa λA outer s H vs Q E hr W=>?_;obtain⟨t,h,q⟩:=G O A outer s H vs Q E rfl hr W;exact⟨t,h.nox,q⟩
theorem Yy.sameN{ps:List Ab}(h:Yy H ps ss)(e:SameN H H'):Yy H' ps ss:=⟨h.len,λi p s a b=>e _ _ rfl (h.at_ i p s a b)⟩
theorem SaysAt.sameN{H H':Hp}{a:Ab}{ss:List Say}(h:SaysAt H a ss)(e:SameN H H'):SaysAt H' a ss:=by
 obtain⟨ps,h1,h2⟩:=h.ex;exact⟨ps,e _ _ rfl h1,h2.sameN e⟩
theorem Z9{o:HO}(h:H a=none):Same H (upd H a o):=λb u e=>by rw[Z5 (Z1 e h)];exact e
theorem VJ{ps:List Ab}(W:Yy H ps ss)(G:cnt ss.length k=true):∃q,atI (ps.map V.ref) k=some (.ref q)/\H q=some (.tup [.int (sy ss k).1,.int (sy ss k).2.1,.int (sy ss k).2.2]):=by
 have es:=JO G;obtain⟨q,Z,O⟩:=W.get es;exact⟨q,Jn (Zm.mp G).1 (by rw[zM,Z];rfl),O⟩
def lev (S:Fn)(c:Nat):List Int:=(zV c).map λ(i:Nat)=>(S (i:Int)).getD 0
def spLevel:Sp:=λvs H Q _=>∃(c:Nat) (S:Ab) (ks:List (Key×V)) (Sf:Fn),vs=[.int c,.ref S]/\c<=1000/\H S=some (.dK ks)/\DR ks (iS Sf)/\∀(H':Hp) (d:Ab),Same H H'->H d=none->H' d=some (.lst ((lev Sf c).map V.int))->Q (.ref d) H'
theorem Kr:Zd Xy Xy (defScope Gb):=fs7
theorem MG(D:QZ K mg f fd)(G:G1 K mg):FnOk P w K mg base CX0 1 f fd Xy spLevel:=by
 refine D.fn.okA Kr λ_ _ outer _ H vs Q _ hr h=>?_;obtain⟨c,S,ks,W,rfl,hc,hS,rS,k⟩:=h;have hu:=Jz hr;refine⟨_,Z7 (Ze (ZT (XN:=Xy) (outer:=defScope Gb) (N:=["place","sums"]) (cap:=[none,some 1])
   (by exact csc (.own (.cap rfl rfl rfl .nil))) rfl (Uq (by rfl) G.range (Z0 (pv 0) Z3))
   (λ_ _ _ _ _ _=>pgl 0 (show(["place","sums"]:List Str).Nodup by decide +kernel)) (λ_ _ _ _ _ _=>ZO)
   (λ_ _ _ _ _ _=>Us hu (pv 1) (pv 0) Z6 ⟨rfl,rfl,rfl,rfl⟩))),?_⟩
 refine⟨_,rfl,_,rfl,by lia,by lia,λq hq=>?_⟩
 refine JY (n:=(c:Int).toNat) (outs:=λ(i:Nat)=>some (V.int ((W (i:Int)).getD 0))) (λσ=>∃v,σ=[v,some (.ref S)]) hq (by rw[yE];exact Zb hc) ⟨none,rfl⟩ (λi σc Hc aa No hi O _ ⟨v,hv⟩ Z no=>?_) (λHc O hD=>?_)
 .subst hv;refine⟨_,rfl,S,rfl,.inl ⟨ks,.inl (O _ _ hS)⟩,_,rfl,_,.inl ⟨ks,Sum.inl (i:Int),.inl (O _ _ hS),rfl,rfl⟩,?_⟩;refine Z _ _ _ ⟨_,rfl⟩ (Za _) ?_;rw[rS.at_];unfold iS;cases W (i:Int) <;> rfl
 .refine k Hc q O hq ?_;rw[hD,yE];unfold lev;rw[xJ];rw[show(λ(i:Nat)=>some (V.int ((W (i:Int)).getD 0)))=some ∘ (V.int ∘ λ(i:Nat)=>(W (i:Int)).getD 0) from rfl,uP]
def Gk(ns:List Int):Int:=[10,1000].getD (ns.sum / 4 % 2).toNat 0
def Ve(ns:List Int)(p:Nat):Int:=if ns=[] then 0 else ns.getD (p % ns.length) 0 / 3 % Gk ns
def drawn(ns:List Int)(c:Nat):List Int:=(zV c).map (Ve ns)
def Vf(ns:List Int):Int:=[1+(ns.length:Int) / 2,1+ns.sum / 8 % 4,(ns.length:Int)+2,1+ns.sum / 8 % ((ns.length:Int)+1)].getD (ns.sum / 32 % 4).toNat 0
theorem VY{x:Int}(h:0<n):cnt (n:Int) (x % (n:Int))=true:=by
 rw[Zm];exact⟨wW _ (by lia),wR _ (by lia)⟩
theorem Dp(ns:List Int)(h:ns.length<=63):1<=Vf ns/\Vf ns<=65:=by
 unfold Vf;have O:ns.sum / 32 % 4=0∨ns.sum / 32 % 4=1∨ns.sum / 32 % 4=2∨ns.sum / 32 % 4=3:=by lia
 have V:=wW (ns.sum / 8) (show((ns.length:Int)+1)≠0 by lia)
 have G:=wR (ns.sum / 8) (show 0<((ns.length:Int)+1) by lia)
 rcases O with e | e | e | e <;> rw[e]
 .show 1<=1+(ns.length:Int) / 2/\1+(ns.length:Int) / 2<=65;lia
 .show 1<=1+ns.sum / 8 % 4/\1+ns.sum / 8 % 4<=65;lia
 .show 1<=(ns.length:Int)+2/\(ns.length:Int)+2<=65;lia
 .show 1<=1+ns.sum / 8 % ((ns.length:Int)+1)/\1+ns.sum / 8 % ((ns.length:Int)+1)<=65;lia
theorem RK(ns:List Int)(c:Nat):(drawn ns c).length=c:=by simp[drawn]
theorem NS(ns:List Int):0<Gk ns:=by
 unfold Gk;have h2:ns.sum / 4 % 2=0∨ns.sum / 4 % 2=1:=by lia
 rcases h2 with e | e <;> rw[e] <;> decide
theorem X2{ss:List Say}{d:Int->Int}(h:∀s∈ss,d s.2.1-d s.1<=s.2.2):∀(O:List Int) (p q:Int),walk ss O p=some q->d q-d p<=sumC ss O
 | [],p,q,e=>by
  have e:some p=some q:=e;cases e;show d p-d p<=0;lia
 | k::r,p,q,e=>by
  unfold walk at e;cases G:cnt ss.length k with
  | false=>rw[G] at e;cases e
  | true =>
   rw[G,xY rfl,JO G] at e;dsimp only at e;split at e
   .rename_i V;have W:=X2 h r _ _ e;have h1:=h (sy ss k) (yM (JO G));have e1:sumC ss (k::r)=num ss k+sumC ss r:=by unfold sumC;rw[yV,vH]
    rw[e1,Pg G];rw[V] at h1;lia
   .cases e
def crd (c:Nat)(S:Fn):Nat:=((zV c).map λ(i:Nat)=>if(S (i:Int)).isSome=true then 1 else 0).sum
theorem ones:∀c:Nat,((zV c).map λ_=>1).sum=c
 | 0=>rfl
 | c+1=>by rw[wI,zZ,List.sum_append,ones c];rfl
theorem Ej(c:Nat)(S:Fn):crd c S<=c:=by
 have h:crd c S<=((zV c).map λ_=>1).sum:=G0 _ λi _=>by split <;> lia
 have e:=ones c;lia
theorem O5(G:cnt c p=true)(h:S p=none):crd c S+1<=crd c (put S p v):=by
 obtain⟨h0,h1⟩:=Zm.mp G
 have:=Nn (f:=λ(i:Nat)=>if(S (i:Int)).isSome=true then 1 else 0) (g:=λ(i:Nat)=>if((put S p v) (i:Int)).isSome=true then 1 else 0) (zV c) p.toNat (xB.mpr (by lia)) (by
   have e:((p.toNat:Nat):Int)=p:=by lia
   show(if(S ((p.toNat:Nat):Int)).isSome=true then 1 else 0)<(if(put S p v ((p.toNat:Nat):Int)).isSome=true then 1 else 0);rw[e,h,ZA];simp) (λi _=>by
   show(if(S (i:Int)).isSome=true then 1 else 0)<=(if(put S p v (i:Int)).isSome=true then 1 else 0);by_cases q:(i:Int)=p
   .rw[q,ZA,h];simp
   .rw[ZQ q];exact zO _)
 exact this
theorem O4 :crd c S<=crd c (put S p v):=G0 _ λi _=>by
 by_cases q:(i:Int)=p
 .rw[q,ZA];split <;> simp
 .rw[ZQ q];exact zO _
structure Wk(ss:List Say)(c:Nat)(d:Int->Int)(one:Int)(S L:Fn):Prop where
 lo:∀p v,S p=some v->d p-d one<=v
 up:∀p v,S p=some v->v<=((crd c S*bigNum ss:Nat):Int)
 st:S one=some 0
 l0:L one=none
 gr:∀p v,S p=some v->p≠one->L p≠none
theorem Wk.relax{ss:List Say}{c:Nat}{d:Int->Int}{one:Int}{w:Ws}{k:Int}(pt:∀s∈ss,d s.2.1-d s.1<=s.2.2)(aa:ss.all (inside c)=true)(h:Wk ss c d one w.S w.L)(hk:cnt ss.length k=true):Wk ss c d one (relax ss w k).S (relax ss w k).L:=by
 have hp:=pt (sy ss k) (yM (JO hk));have hb:=(Ka (ss:=ss) hk).2;have ac:=(Dx aa hk).2;have G:∀a,w.S (sy ss k).1=some a->(∀b,w.S (sy ss k).2.1=some b->a+(sy ss k).2.2<b)->Wk ss c d one (put w.S (sy ss k).2.1 (a+(sy ss k).2.2)) (put w.L (sy ss k).2.1 k):=λa W Z=>by
  have la:=h.lo _ _ W;have ua:=h.up _ _ W;have ne:one≠(sy ss k).2.1:=λz=>by
   have:=Z 0 (by rw[<-z];exact h.st)
   rw[<-z] at hp;lia
  have O:(((crd c w.S*bigNum ss:Nat):Int))<=(((crd c (put w.S (sy ss k).2.1 (a+(sy ss k).2.2))*bigNum ss:Nat):Int)):=by
   exact qR.mpr (vR _ O4)
  refine⟨λp v e=>?_,λp v e=>?_,by rw[ZQ ne];exact h.st,by rw[ZQ ne];exact h.l0,λp v e np=>?_⟩
  .by_cases q:p=(sy ss k).2.1
   .subst q;rw[ZA] at e;cases e;lia
   .rw[ZQ q] at e;exact h.lo p v e
  .by_cases q:p=(sy ss k).2.1
   .subst q;rw[ZA] at e;cases e;cases V:w.S (sy ss k).2.1 with
    | none =>
     have hn:=O5 (v:=a+(sy ss k).2.2) ac V
     have:((crd c w.S+1)*bigNum ss:Nat)<=crd c (put w.S (sy ss k).2.1 (a+(sy ss k).2.2))*bigNum ss:=vR _ hn
     rw[jL,jK] at this
     have:=qR.mpr this
     lia
    | some b =>
     have h1:=Z b V;have h2:=h.up _ _ V;lia
   .rw[ZQ q] at e;exact qT (h.up p v e) O
  .by_cases q:p=(sy ss k).2.1
   .subst q;rw[ZA];simp
   .rw[ZQ q];rw[ZQ q] at e;exact h.gr p v e np
 unfold At.relax;cases W:w.S (sy ss k).1 with
 | none=>exact h
 | some a =>
  cases V:w.S (sy ss k).2.1 with
  | none=>exact G a W (λb z=>by rw[V] at z;cases z)
  | some b =>
   simp only;split
   .rename_i hl;exact G a W (λb' z=>by rw[V] at z;cases z;exact hl)
   .exact h
theorem Wk.goAll{ss:List Say}{c:Nat}{d:Int->Int}{one:Int}(V:∀s∈ss,d s.2.1-d s.1<=s.2.2)(O:ss.all (inside c)=true):∀(G:List Int) (w:Ws),(∀k∈G,cnt ss.length k=true)->Wk ss c d one w.S w.L->Wk ss c d one (goAll ss G w).S (goAll ss G w).L
 | [],_,_,h=>h
 | k::r,w,ho,h=>Wk.goAll V O r (At.relax ss w k) (λj W=>ho j (yB _ W)) (Wk.relax V O h (ho k yJ))
theorem noring(W:∀s∈ss,d s.2.1-d s.1<=s.2.2)(V:J ss S L)(O:R ss L)(p:Int)(n:Nat):back ss L (n+1) p≠some p:=λh=>by
 obtain⟨h1,h2,_⟩:=J4 V (n+1) p p h;have G:=X2 W _ _ _ h1;have Z:=O p n h;rw[h2] at G;lia
theorem Tu(pt:∀s∈ss,d s.2.1-d s.1<=s.2.2)(w:Wd ss c S L)(p:Int):Grd ss L p:=by
 apply Classical.byContradiction;intro W;have G:∀n,∃x,back ss L n p=some x/\L x≠none:=by
  intro n
  induction n with
  | zero=>exact⟨p,rfl,λz=>W ⟨0,p,rfl,z⟩⟩
  | succ n ih =>
   obtain⟨x,h1,h2⟩:=ih;cases e:L x with
   | none=>exact xX e h2
   | some k =>
    have Z:=Qp h1 e;exact⟨_,Z,λz=>W ⟨n+1,_,Z,z⟩⟩
 have nd:((zV (c+1)).map λi=>(back ss L i p).getD 0).Nodup:=by
  rw[List.Nodup,List.pairwise_map];refine List.Pairwise.imp_of_mem ?_ (uH (n:=c+1));intro i j _ _ aa e;obtain⟨x,O,_⟩:=G i;obtain⟨y,V,_⟩:=G j;rw[O,V] at e;have e:x=y:=e;subst e
  have:=V
  rw[show j=i+(j-i-1+1) by lia,Yq,O] at this
  exact noring pt w.j w.r x (j-i-1) this
 have:=J3 c _ nd (λx O=>by
  obtain⟨i,_,rfl⟩:=yK.mp O;obtain⟨y,V,hl⟩:=G i;rw[V];cases e:L y with
  | none=>exact xX e hl
  | some k=>exact Zm.mp (w.lr e))
 rw[zK,wH] at this;lia
theorem XO{one:Int}(V:∀s∈ss,d s.2.1-d s.1<=s.2.2)(w:Wd ss c S L)(k:Wk ss c d one S L)(W:S p=some v):∃n,n<=c/\back ss L n p=some one:=by
 obtain⟨n,q,h1,h2,G⟩:=VU (Tu V w p);have O:=VT (λx k e=>w.lr e) h1 h2 G;obtain⟨a,Z⟩:=XU w.j n p q v h1 W;by_cases e:q=one
 .subst e;exact⟨n,O,h1⟩
 .exact xX h2 (k.gr q a Z e)
structure MDef(K:Frag)(C:Ab)(m qual:Str)(st:Ai)(ps:List Str)(f:Ab)(fd:Ad):Prop where
 fn:Fun K m qual st f fd
 me:Meth K C m f
 bd:Binds K fd ps []
structure WK(K:Frag)(mg:Str->Option Aa)(C:Ab):Prop where
 cl:Cls K C
 n1:YF K C "sayings"
 n2:YF K C "sums"
 n3:YF K C "last"
 at_:mg "Walk"=some (.ref C)
def wfl (A S L:Ab):List (Str×V):=[("sayings",.ref A),("sums",.ref S),("last",.ref L)]
section
variable {A S L:Ab}
theorem wfl1:(wfl A S L).lookup ("sayings":Str)=some (.ref A):=rfl
theorem wfl2:(wfl A S L).lookup ("sums":Str)=some (.ref S):=rfl
theorem wfl3:(wfl A S L).lookup ("last":Str)=some (.ref L):=rfl
theorem RS:(wfl A S L).lookup ("go_along":Str)=none:=rfl
theorem Ni:(wfl A S L).lookup ("place_ahead":Str)=none:=rfl
theorem WZ:(wfl A S L).lookup ("chain_between":Str)=none:=rfl
theorem OG:(wfl A S L).lookup ("place_on_ring":Str)=none:=rfl
end
structure Je(C:Ab)(H:Hp)(p A S L:Ab)(ks kl:List (Key×V))(Sf Lf:Fn):Prop where
 ob:∃dx,H p=some (.ins C dx (wfl A S L))
 hS:H S=some (.dK ks)
 rS:DR ks (iS Sf)
 hL:Rd H L (.dK kl)
 rL:DR kl (iS Lf)
 ne:S≠L
theorem Rd.same{u:HO}(r:Rd H a u)(e:Same H H'):Rd H' a u:=by
 rcases r with r | ⟨o,r⟩
 .exact .inl (e _ _ r)
 .exact .inr ⟨o,e _ _ r⟩
theorem Je.same{C:Ab}{H H':Hp}{p A S L:Ab}{ks W:List (Key×V)}{O G:Fn}(h:Je C H p A S L ks W O G)(e:Same H H'):Je C H' p A S L ks W O G:=by
 obtain⟨dx,Z⟩:=h.ob;exact⟨⟨dx,e _ _ Z⟩,e _ _ h.hS,h.rS,Rd.same h.hL e,h.rL,h.ne⟩
structure Strt(bs:List Int)(Sf:Fn):Prop where
 to:∀k∈bs,Sf k=some 0
 of_:∀k v,Sf k=some v->v=0/\k∈bs
def spWInit(C:Ab):Sp:=λvs H Q _=>∃(p dx A B:Ab) (bs:List Int) (c:Nat),vs=[.ref p,.ref A,.ref B]/\H p=some (.ins C dx [])/\H B=some (.lst (bs.map V.int))/\(∀k∈bs,cnt c k=true)/\c<=1000 /\
 ∀(H':Hp) (S L:Ab) (ks:List (Key×V)) (Sf:Fn),H S=none->H L=none->Je C H' p A S L ks [] Sf (λ_=>none)->H' L=some (.dK [])->Strt bs Sf->(∀b o,b≠p->H b=some o->H' b=some o)->Q .non H'
theorem DN:Zd ["self","sayings","starts","start"] D7 (defScope Y3):=fs7
theorem ME(F:Fun K "__init__" "Walk.__init__" Y3 f fd)(T:WK K mg C):FnOk P w K mg base CX0 1 f fd D7 (spWInit C):=by
 refine F.okA DN λ_ _ _ _ H vs Q _ hr h=>?_;obtain⟨p,dx,A,B,bs,c,rfl,hp,hB,ad,hc,k⟩:=h;have hu:=Jz hr;refine⟨_,Z4 (J8 (pv 0) (pv 1) rfl) (Z4 (J8 (pv 0) Jr rfl) (Z4 (J8 (pv 0) Jr rfl)
  (Z7 (Y4 PassesOwn.never rfl (Zr (pv 2)) (pgl 3 DN.nd) (Z7 (UC hu (Zi (pv 0) rfl) (pv 3) Z6 rfl)))))),?_⟩
 refine⟨_,rfl,_,rfl,p,C,dx,[],rfl,hp,T.cl,T.n1,(by show 0<1000;decide),?_⟩
 intro S hS;have pS:p≠S:=λz=>by rw[<-z,Z2] at hS;cases hS
 have O:H S=none:=by rw[Z5 pS.symm] at hS;exact hS
 refine⟨_,rfl,p,C,dx,_,rfl,by rw[Z5 pS,Z2],T.cl,T.n2,(by show 1<1000;decide),?_⟩
 intro L hL;have pL:p≠L:=λz=>by rw[<-z,Z2] at hL;cases hL
 have sL:S≠L:=λz=>by rw[<-z,Z5 pS.symm,Z2] at hL;cases hL
 have W:H L=none:=by rw[Z5 pL.symm,Z5 sL.symm,Z5 pL.symm] at hL;exact hL
 refine⟨_,rfl,p,C,dx,_,rfl,by rw[Z5 pL,Z2],T.cl,T.n3,(by show 2<1000;decide),?_⟩
 have ef:putF "last" (V.ref L) (putF "sums" (V.ref S) (putF "sayings" (V.ref A) []))=wfl A S L:=rfl;rw[ef];have e1:∀{o:HO},(upd (upd (upd (upd (upd H p (.ins C dx (putF "sayings" (V.ref A) []))) S (.dK [])) p (.ins C dx (putF "sums" (V.ref S) (putF "sayings" (V.ref A) [])))) L (.dK [])) p o) p=some o:=Z2;have e2:(upd (upd (upd (upd (upd H p (.ins C dx (putF "sayings" (V.ref A) []))) S (.dK [])) p (.ins C dx (putF "sums" (V.ref S) (putF "sayings" (V.ref A) [])))) L (.dK [])) p (.ins C dx (wfl A S L))) S=some (.dK []):=by
  rw[Z5 pS.symm,Z5 sL,Z5 pS.symm,Z2]
 have e3:(upd (upd (upd (upd (upd H p (.ins C dx (putF "sayings" (V.ref A) []))) S (.dK [])) p (.ins C dx (putF "sums" (V.ref S) (putF "sayings" (V.ref A) [])))) L (.dK [])) p (.ins C dx (wfl A S L))) L=some (.dK []):=by
  rw[Z5 pL.symm,Z2]
 have e4:∀b o,b≠p->H b=some o->(upd (upd (upd (upd (upd H p (.ins C dx (putF "sayings" (V.ref A) []))) S (.dK [])) p (.ins C dx (putF "sums" (V.ref S) (putF "sayings" (V.ref A) [])))) L (.dK [])) p (.ins C dx (wfl A S L))) b=some o:=λb o hb e=>by
  rw[Z5 hb,Z5 (Z1 e W),Z5 hb,Z5 (Z1 e O),Z5 hb];exact e
 have e1:=e1 (o:=.ins C dx (wfl A S L));generalize (upd (upd (upd (upd (upd H p (.ins C dx (putF "sayings" (V.ref A) []))) S (.dK [])) p (.ins C dx (putF "sums" (V.ref S) (putF "sayings" (V.ref A) [])))) L (.dK [])) p (.ins C dx (wfl A S L)))=H1 at e1 e2 e3 e4;have pB:B≠p:=YL hB hp (by intro z;cases z)
 have BS:B≠S:=Z1 hB O;have BL:B≠L:=Z1 hB W;refine⟨_,rfl,B,rfl,⟨_,Z8 (e4 _ _ pB hB)⟩,ZX (K:=K) (a:=B) (xs:=bs.map V.int) (λi σ H2=>∃(ks:List (Key×V)) (Z:Fn) (v:Option V),σ=[some (.ref p),some (.ref A),some (.ref B),v]/\H2 p=some (.ins C dx (wfl A S L))/\H2 S=some (.dK ks)/\DR ks (iS Z)/\H2 L=some (.dK [])/\(∀b o,b≠p->H b=some o->H2 b=some o)/\Strt (bs.take i) Z)
  ⟨[],λ_=>none,none,rfl,e1,e2,DR.nil,e3,e4,⟨λk hk=>by simp at hk,(λk v e=>nomatch e)⟩⟩ (λi σ H2 _ ⟨_,_,_,_,_,_,_,_,k4,_⟩=>Z8 (k4 _ _ pB hB)) ?_ ?_⟩
 .rintro i y σ H2 hi ⟨ks,Z,v,rfl,h1,h2,rS,h3,h4,G⟩;rw[zM] at hi;cases en:bs[i]? with
  | none=>rw[en] at hi;cases hi
  | some z =>
   rw[en] at hi;cases hi;have ac:∀k v,Z k=some v->cnt c k=true:=λk v e=>ad k (uQ (G.of_ k v e).2);have lS:ks.length<=c:=rS.len (Ut ac);have aa:bs.take (i+1)=bs.take i++[z]:=by rw[xM,en];rfl
   refine⟨_,rfl,p,C,dx,_,_,rfl,h1,T.cl,T.n2,wfl2,_,rfl,S,_,rfl,DPut.k (k:=Sum.inl z) h2 (Zb (by lia)),?_⟩
   refine⟨_,put Z z 0,_,rfl,by rw[Z5 pS];exact h1,Z2,rS.iput z 0,by rw[Z5 sL.symm];exact h3,λb o hb e=>by rw[Z5 (Z1 e O)];exact h4 b o hb e,?_⟩
   rw[aa];refine⟨λk hk=>?_,λk v e=>?_⟩
   .by_cases q:k=z
    .subst q;exact ZA
    .rw[ZQ q];rcases yC.mp hk with m | m
     .exact G.to k m
     .exact xX (by simpa using m) q
   .by_cases q:k=z
    .subst q;rw[ZA] at e;cases e;exact⟨rfl,by simp⟩
    .rw[ZQ q] at e;obtain⟨a,b⟩:=G.of_ k v e;exact⟨a,xG _ b⟩
 .rintro σ H2 ⟨ks,Z,v,rfl,h1,h2,rS,h3,h4,G⟩;rw[zK,wE] at G;exact k H2 S L ks Z O W ⟨⟨dx,h1⟩,h2,rS,.inl h3,DR.nil,sL⟩ h3 G h4
def spGo (C:Ab):Sp:=λvs H Q _=>∃(p A S L O:Ab) (ss:List Say) (c:Nat) (ks kl:List (Key×V)) (Sf Lf:Fn) (ord:List Int),vs=[.ref p,.ref O]/\Je C H p A S L ks kl Sf Lf/\H L=some (.dK kl)/\SaysAt H A ss/\H O=some (.lst (ord.map V.int)) /\
 (∀k∈ord,cnt ss.length k=true)/\ss.all (inside c)=true/\c<=1000/\Wd ss c Sf Lf /\
 ∀(H':Hp) (ks' kl':List (Key×V)),Je C H' p A S L ks' kl' (goAll ss ord ⟨Sf,Lf,false⟩).S (goAll ss ord ⟨Sf,Lf,false⟩).L->H' L=some (.dK kl')->(∀b o,b≠S->b≠L->H b=some o->H' b=some o)->Q (.bl (goAll ss ord ⟨Sf,Lf,false⟩).f) H'
theorem scGo:Zd ["self","order","found","at","saying","reached"] ["self","order"] (defScope Y2):=fs7
theorem Dg{w:Ws}(e:ord[i]?=some k):goAll ss (ord.take (i+1)) w=relax ss (goAll ss (ord.take i) w) k:=by
 unfold goAll;rw[xM,e,jA];rfl
theorem Ov(F:Fun K "go_along" "Walk.go_along" Y2 f fd)(T:WK K mg C):FnOk P w K mg base CX0 1 f fd ["self","order"] (spGo C):=by
 refine F.okA scGo λ_ _ _ _ H vs Q _ hr h=>?_;obtain⟨p,A,S,L,O,ss,c,ks,kl,Sf,Lf,ord,rfl,W,hL,hA,hO,al,ar,hc,wd,k⟩:=h;have hu:=Jz hr;obtain⟨ps,hA,au⟩:=hA.ex;obtain⟨⟨dx,ob⟩,hS,rS,_,rL,aj⟩:=W;have AS:A≠S:=YL hA hS (by intro z;cases z)
 have AL:A≠L:=YL hA hL (by intro z;cases z)
 have OS:O≠S:=YL hO hS (by intro z;cases z)
 have OL:O≠L:=YL hO hL (by intro z;cases z)
 have pS:p≠S:=YL ob hS (by intro z;cases z)
 have pL:p≠L:=YL ob hL (by intro z;cases z)
 refine⟨_,Z4 (psl 2 scGo.nd ZI)
  (Z4 (Y4 PassesOwn.never rfl (Zr (pv 1)) (pgl 3 scGo.nd)
   (Z4 (psl 4 scGo.nd (Zc Zf (Zi (pv 0) rfl) (pv 3)))
   (Z7 (Zw (Jk (Qc hu (Zc ZF (pv 4) Z6) (Zi (pv 0) rfl)))
    (Z4 (psl 5 scGo.nd (Zg Yd (Yx hu (Zi (pv 0) rfl) (Zc ZF (pv 4) Z6)) (Zc ZF (pv 4) Z6)))
    (Z7 (Zw (PW.pt (Ji (Jk (J2 hu (Zc ZF (pv 4) Z6) (Zi (pv 0) rfl))) (YM (Zl VQ (pv 5) (Yx hu (Zi (pv 0) rfl) (Zc ZF (pv 4) Z6)) (nomark _)))))
     (Z4 (UC hu (Zi (pv 0) rfl) (Zc ZF (pv 4) Z6) (pv 5) rfl)
     (Z4 (UC hu (Zi (pv 0) rfl) (Zc ZF (pv 4) Z6) (pv 3) rfl)
     (Z7 (psl 2 scGo.nd ZI)))) Zh)))
    Zh))))
  (Z7 (Ze (pv 2)))),?_⟩
 refine⟨_,rfl,O,rfl,⟨_,Z8 hO⟩,ZX (K:=K) (a:=O) (xs:=ord.map V.int) (λi σ H2=>∃(G Z:List (Key×V)) (v3 v4 v5:Option V) (W2:Ws),W2=goAll ss (ord.take i) ⟨Sf,Lf,false⟩/\σ=[some (.ref p),some (.ref O),some (.bl W2.f),v3,v4,v5]/\H2 S=some (.dK G)/\DR G (iS W2.S)/\H2 L=some (.dK Z)/\DR Z (iS W2.L) /\
   (∀b o,b≠S->b≠L->H b=some o->H2 b=some o))
  ⟨ks,kl,none,none,none,_,rfl,rfl,hS,rS,hL,rL,λb o _ _ e=>e⟩ (λi σ H2 _ ⟨_,_,_,_,_,_,_,_,_,_,_,_,kp⟩=>Z8 (kp _ _ OS OL hO)) ?_ ?_⟩
 .rintro i y σ H2 hi ⟨G,Z,v3,v4,v5,W2,hW,rfl,ac,aa,af,ah,kp⟩;rw[zM] at hi;cases en:ord[i]? with
  | none=>rw[en] at hi;cases hi
  | some z =>
   rw[en] at hi;cases hi;have hz:cnt ss.length z=true:=al z (yM en);have ai:=Vw ar ⟨Sf,Lf,false⟩ wd (ord.take i) λk hk=>al k (uQ hk);rw[<-hW] at ai;have am:=ai.wd;have lS:G.length<=c:=aa.len (Ut am.rg);have lL:Z.length<=c:=ah.len (Ut λk v e=>am.lr e);have aq:=Dg (ss:=ss) (w:=⟨Sf,Lf,false⟩) en;rw[<-hW] at aq;rw[aq];obtain⟨q,eq,hq⟩:=VJ au hz;have qS:q≠S:=YL hq hS (by intro z;cases z)
   have qL:q≠L:=YL hq hL (by intro z;cases z)
   have ad:=kp _ _ qS qL hq;have ae:=kp _ _ pS pL ob;have as:=kp _ _ AS AL hA;clear ai;refine⟨_,rfl,p,C,dx,_,_,rfl,ae,T.cl,T.n1,wfl1,_,rfl,A,_,_,_,rfl,rfl,Z8 as,eq,?_⟩;refine⟨_,rfl,q,_,_,_,rfl,rfl,Zo ad,rfl,_,rfl,p,C,dx,_,_,rfl,ae,T.cl,T.n2,wfl2,S,_,rfl,DGet.k (k:=Sum.inl (sy ss z).1) ac,_,rfl,?_⟩;rw[aa.at_];cases ea:W2.S (sy ss z).1 with
   | none =>
    rw[YU.mpr ea];refine iteF ?_;exact⟨G,Z,_,_,_,_,(by unfold relax;rw[ea]),rfl,ac,aa,af,ah,kp⟩
   | some a =>
    rw[Yo ea];refine iteT ⟨_,rfl,p,C,dx,_,_,rfl,ae,T.cl,T.n2,wfl2,_,rfl,q,_,_,_,rfl,rfl,Zo ad,rfl,S,_,rfl,.inl ⟨G,Sum.inl (sy ss z).1,.inl ac,rfl,by rw[aa.at_,Yo ea]⟩,_,rfl,q,_,_,_,rfl,rfl,Zo ad,rfl,_,_,rfl,rfl,?_⟩
    have ak:∀(W3:Ws),W3=⟨put W2.S (sy ss z).2.1 (a+(sy ss z).2.2),put W2.L (sy ss z).2.1 z,true⟩->∃(ap ao:List (Key×V)) (v3 v4 v5:Option V) (W2:Ws),W2=W3/\([some (.ref p),some (.ref O),some (.bl true),some (.int z),some (.ref q),some (.int (a+(sy ss z).2.2))]:L2.St)=[some (.ref p),some (.ref O),some (.bl W2.f),v3,v4,v5] /\
      (upd (upd H2 S (.dK (putK G (Sum.inl (sy ss z).2.1) (.int (a+(sy ss z).2.2))))) L (.dK (putK Z (Sum.inl (sy ss z).2.1) (.int z)))) S=some (.dK ap)/\DR ap (iS W2.S)/\(upd (upd H2 S (.dK (putK G (Sum.inl (sy ss z).2.1) (.int (a+(sy ss z).2.2))))) L (.dK (putK Z (Sum.inl (sy ss z).2.1) (.int z)))) L=some (.dK ao)/\DR ao (iS W2.L) /\
      (∀b o,b≠S->b≠L->H b=some o->(upd (upd H2 S (.dK (putK G (Sum.inl (sy ss z).2.1) (.int (a+(sy ss z).2.2))))) L (.dK (putK Z (Sum.inl (sy ss z).2.1) (.int z)))) b=some o):=λW3 e3=>by
     subst e3;exact⟨_,_,_,_,_,_,rfl,rfl,by rw[Z5 aj,Z2],aa.iput _ _,Z2,ah.iput _ _,λb o h1 h2 e=>by rw[Z5 h2,Z5 h1];exact kp b o h1 h2 e⟩
    refine⟨_,rfl,q,_,_,_,rfl,rfl,Zo ad,rfl,_,rfl,p,C,dx,_,_,rfl,ae,T.cl,T.n2,wfl2,S,_,rfl,DGet.k (k:=Sum.inl (sy ss z).2.1) ac,_,rfl,?_⟩;rw[aa.at_];cases eb:W2.S (sy ss z).2.1 with
    | none =>
     rw[YU.mpr eb];refine⟨_,rfl,_,rfl,p,C,dx,_,_,rfl,ae,T.cl,T.n2,wfl2,_,rfl,q,_,_,_,rfl,rfl,Zo ad,rfl,S,_,rfl,DPut.k (k:=Sum.inl (sy ss z).2.1) ac (Zb (by lia)),?_⟩
     refine⟨_,rfl,_,rfl,p,C,dx,_,_,rfl,by rw[Z5 pS];exact ae,T.cl,T.n3,wfl3,_,rfl,q,_,_,_,rfl,rfl,Zo (by rw[Z5 qS];exact ad),rfl,L,_,rfl,DPut.k (k:=Sum.inl (sy ss z).2.1) (by rw[Z5 aj.symm];exact af) (Zb (by lia)),?_⟩
     exact ak _ (by unfold relax;rw[ea];simp only;rw[eb])
    | some b =>
     rw[Yo eb];refine⟨_,rfl,_,rfl,p,C,dx,_,_,rfl,ae,T.cl,T.n2,wfl2,_,rfl,q,_,_,_,rfl,rfl,Zo ad,rfl,S,_,rfl,.inl ⟨G,Sum.inl (sy ss z).2.1,.inl ac,rfl,by rw[aa.at_,Yo eb]⟩,_,_,rfl,rfl,_,rfl,?_⟩
     refine ite2 (λag=>?_) (λag=>?_)
     .have ag:a+(sy ss z).2.2<b:=by simpa using ag
      refine⟨_,rfl,_,rfl,p,C,dx,_,_,rfl,ae,T.cl,T.n2,wfl2,_,rfl,q,_,_,_,rfl,rfl,Zo ad,rfl,S,_,rfl,DPut.k (k:=Sum.inl (sy ss z).2.1) ac (Zb (by lia)),?_⟩
      refine⟨_,rfl,_,rfl,p,C,dx,_,_,rfl,by rw[Z5 pS];exact ae,T.cl,T.n3,wfl3,_,rfl,q,_,_,_,rfl,rfl,Zo (by rw[Z5 qS];exact ad),rfl,L,_,rfl,DPut.k (k:=Sum.inl (sy ss z).2.1) (by rw[Z5 aj.symm];exact af) (Zb (by lia)),?_⟩
      exact ak _ (by unfold relax;rw[ea];simp only;rw[eb];simp only;rw[xY ag])
     .have ag:¬ a+(sy ss z).2.2<b:=by simpa using ag
      exact⟨G,Z,_,_,_,_,(by unfold relax;rw[ea];simp only;rw[eb];simp only;rw[xZ ag]),rfl,ac,aa,af,ah,kp⟩
 .rintro σ H2 ⟨G,Z,v3,v4,v5,W2,hW,rfl,ac,aa,af,ah,kp⟩;rw[zK,wE] at hW;subst hW;exact⟨_,rfl,k H2 G Z ⟨⟨dx,kp _ _ pS pL ob⟩,ac,aa,.inl af,ah,aj⟩ af kp⟩
def spAhead(C:Ab):Sp:=λvs H Q _=>∃(p A S L:Ab) (ss:List Say) (ks kl:List (Key×V)) (Sf Lf:Fn) (q k:Int),vs=[.ref p,.int q]/\Je C H p A S L ks kl Sf Lf/\SaysAt H A ss/\Lf q=some k/\cnt ss.length k=true/\Q (.int (sy ss k).1) H
theorem Kw:Zd Qf Qf (defScope Zx):=fs7
theorem Xu(F:Fun K "place_ahead" "Walk.place_ahead" Zx f fd)(T:WK K mg C):FnOk P w K mg base CX0 1 f fd Qf (spAhead C):=by
 refine F.okA Kw λ_ _ _ _ H vs Q _ hr h=>?_;obtain⟨p,A,S,L,ss,ks,kl,Sf,Lf,q,k,rfl,W,O,hq,hk,G⟩:=h;have hu:=Jz hr;obtain⟨ps,O,V⟩:=O.ex;obtain⟨⟨dx,Z⟩,hS,rS,hL,rL,aa⟩:=W;refine⟨_,Z7 (Ze (Zc ZF (Zc Zf (Zi (pv 0) rfl) (Yx hu (Zi (pv 0) rfl) (pv 1))) Z6)),?_⟩;obtain⟨x,ex,hx⟩:=VJ V hk;exact⟨_,rfl,p,C,dx,_,_,rfl,Z,T.cl,T.n1,wfl1,_,rfl,p,C,dx,_,_,rfl,Z,T.cl,T.n3,wfl3,_,rfl,L,_,rfl,.inl ⟨kl,Sum.inl q,hL,rfl,by rw[rL.at_,Yo hq]⟩,A,_,_,_,rfl,rfl,Z8 O,ex,x,_,_,_,rfl,rfl,Zo hx,rfl,G⟩
def spBetween(C:Ab):Sp:=λvs H Q _=>∃(p A S L:Ab) (ss:List Say) (ks kl:List (Key×V)) (Sf Lf:Fn) (one bu:Int) (n:Nat),vs=[.ref p,.int one,.int bu]/\Je C H p A S L ks kl Sf Lf/\SaysAt H A ss/\J ss Sf Lf/\back ss Lf n bu=some one/\n<=1000 /\
 ∀(H':Hp) (d:Ab) (m:Nat),Same H H'->H d=none->m<=n->back ss Lf m bu=some one->H' d=some (.lst ((chainB ss Lf m bu).reverse.map V.int))->Q (.ref d) H'
theorem Va:Zd ["self","one","other","chain","place"] ["self","one","other"] (defScope ZE):=fs7
theorem Vr(F:Fun K "chain_between" "Walk.chain_between" ZE f fd)(M:MDef K C "place_ahead" "Walk.place_ahead" Zx Qf g gd)(T:WK K mg C):FnOk P w K mg base CX0 2 f fd ["self","one","other"] (spBetween C):=by
 have GA:FnOk P w K mg base CX0 1 g gd _ (spAhead C):=Xu M.fn T;refine F.okA Va λ_ _ _ _ H vs Q _ hr h=>?_;obtain⟨p,A,S,L,ss,ks,kl,Sf,Lf,one,bu,n,rfl,W,hA,hJ,hn,ae,k⟩:=h;have hu:=Jz hr;obtain⟨dx,ob⟩:=W.ob;refine⟨_,Z4 (psl 3 Va.nd (Zn Z3))
  (Z4 (psl 4 Va.nd (pv 2))
  (Z4 (JP PassesOwn.never (Zl VP (pv 4) (pv 1) (nomark _))
   (Z4 (ZP (U4 yH yR yQ ZZ (pv 3) (Z0 (Yx hu (Zi (pv 0) rfl) (pv 4)) Z3)))
   (Z7 (psl 4 Va.nd (Y9 (pv 0) T.cl M.me GA hr M.bd .nil Zu (Z0 (pv 4) Z3))))))
  (Z4 (ZP (ND yH PySem.F.slot_list_reverse PySem.F.type_list_reverse NR (pv 3)))
  (Z7 (Ze (pv 3)))))),?_⟩
 refine⟨szL 0,λd hd=>?_⟩;refine⟨_,rfl,?_⟩;refine⟨λm σ H2=>∃(i:Nat) (q:Int),m=n-i/\i<=n/\σ=[some (.ref p),some (.int one),some (.int bu),some (.ref d),some (.int q)]/\back ss Lf i bu=some q/\H2 d=some (.lst ((chainB ss Lf i bu).map V.int))/\Same H H2,⟨_,0,bu,rfl,xD _,rfl,rfl,Z2,Z9 hd⟩,?_⟩;rintro m σ H2 ⟨i,q,rfl,hi,rfl,hq,O,s2⟩;refine⟨_,rfl,_,rfl,rfl,_,rfl,?_⟩;rw[Zp];have cl:=(J4 hJ i bu q hq).2.2;refine ite2 (λG=>?_) (λG=>?_)
 .have G:¬ q=one:=by simpa using G
  have ad:i<n:=by
   rcases Nat.lt_or_ge i n with z | z
   .exact z
   .have:i=n:=by lia
    subst this;rw[hn] at hq;exact xX (Option.some.inj hq).symm G
  obtain⟨Z,hk⟩:∃Z,Lf q=some Z:=by
   have e:n=i+(n-i):=by lia
   rw[e,Yq,hq] at hn;have e2:n-i=(n-i-1)+1:=by lia
   rw[e2] at hn;have hn:back ss Lf (n-i-1+1) q=some one:=hn;unfold back at hn;cases e3:Lf q with
   | none=>rw[e3] at hn;cases hn
   | some Z=>exact⟨Z,rfl⟩
  have ac:=(hJ q Z hk).1;have W2:=W.same s2;obtain⟨_,_,_,aa,rL,_⟩:=id W2;refine⟨_,λσ' H' z=>z,?_⟩;refine⟨_,rfl,.inl ⟨rfl,_,Z8 O⟩,_,rfl,p,C,dx,_,_,rfl,s2 _ _ ob,T.cl,T.n3,wfl3,_,rfl,L,_,rfl,.inl ⟨kl,Sum.inl q,aa,rfl,by rw[rL.at_,Yo hk]⟩,d,_,_,rfl,rfl,O,by rw[zK,cl];exact Zb (by lia),?_⟩
  have s3:Same H (upd H2 d (.lst ((chainB ss Lf i bu).map V.int++[.int Z]))):=λb o e=>by rw[Z5 (Z1 e hd)];exact s2 b o e
  refine⟨_,rfl,p,dx,_,rfl,s3 _ _ ob,Ni,_,rfl,p,A,S,L,ss,ks,kl,Sf,Lf,q,Z,rfl,W.same s3,hA.same s3,hk,ac,?_⟩;exact⟨n-(i+1),by lia,i+1,(sy ss Z).1,rfl,ad,rfl,Qp hq hk,by rw[Z2,QG i bu q Z hq hk,zZ];rfl,s3⟩
 .have G:q=one:=by simpa using G
  subst G;refine⟨_,rfl,.inl ⟨rfl,_,Z8 O⟩,d,_,rfl,rfl,O,?_⟩;exact⟨_,rfl,k _ d i (λb o e=>by rw[Z5 (Z1 e hd)];exact s2 b o e) hd hi hq (by rw[Z2,List.map_reverse])⟩
def spOnRing(C:Ab):Sp:=λvs H Q _=>∃(p A S L:Ab) (ss:List Say) (c:Nat) (ks kl:List (Key×V)) (Sf Lf:Fn),vs=[.ref p]/\Je C H p A S L ks kl Sf Lf/\H L=some (.dK kl)/\SaysAt H A ss/\c<=1000/\Wd ss c Sf Lf /\
 (∀(H':Hp) (q:Int) (n:Nat),Same H H'->n<c->back ss Lf (n+1) q=some q->Q (.int q) H')/\∀H':Hp,Same H H'->(∀q k,Lf q=some k->Grd ss Lf q)->Q .non H'
theorem US:Zd ["self","seen","start","place"] ["self"] (defScope ZD):=fs7
theorem Grd.back{ss:List Say}{G:Fn}{i:Nat}{x q:Int}(h:back ss G i x=some q)(g:Grd ss G q):Grd ss G x:=by
 obtain⟨n,y,h1,h2⟩:=g;exact⟨i+n,y,by rw[Yq,h];exact h1,h2⟩
structure Seen(ss:List Say)(Lf:Fn)(old:Int->Prop)(start:Int)(Nf:Fn)(i:Nat)(q:Int):Prop where
 at_:back ss Lf i start=some q
 to:∀j,j<i->∀x,back ss Lf j start=some x->Nf x=some start
 of_:∀x v,Nf x=some v->(v=start/\∃j,j<i/\back ss Lf j start=some x)∨(old v/\Grd ss Lf x)
 inn:∀x v,Nf x=some v->Lf x≠none
theorem Rm(F:Fun K "place_on_ring" "Walk.place_on_ring" ZD f fd)(M:MDef K C "place_ahead" "Walk.place_ahead" Zx Qf g gd)(T:WK K mg C):FnOk P w K mg base CX0 2 f fd ["self"] (spOnRing C):=by
 have GA:FnOk P w K mg base CX0 1 g gd _ (spAhead C):=Xu M.fn T;refine F.okA US λ_ _ _ s H vs Q _ hr h=>?_;obtain⟨p,A,S,L,ss,c,ks,kl,Sf,Lf,rfl,W,hL,hA,hc,wd,k1,k2⟩:=h;have hu:=Jz hr;obtain⟨dx,ob⟩:=W.ob;refine⟨_,Z4 (psl 1 US.nd Jr)
  (Z4 (T8 (Y4 PassesOwn.never rfl (Gg (Zi (pv 0) rfl)) (pgl 2 US.nd)
   (Z4 (psl 3 US.nd (pv 2))
   (Z4 (JP PassesOwn.never (PW.pt (Q9 (Jk (Qc hu (pv 3) (Zi (pv 0) rfl))) (Vb (Jk (J2 hu (pv 3) (pv 1))))))
    (Z4 (UC hu (pv 1) (pv 3) (pv 2) rfl)
    (Z7 (psl 3 US.nd (Y9 (pv 0) T.cl M.me GA hr M.bd .nil Zu (Z0 (pv 3) Z3))))))
   (Z7 (Zw (Zl Js (LX hu (pv 1) (pv 3) ⟨rfl,rfl,rfl,rfl⟩) (pv 2) (nomark _)) (Z7 (Ze (pv 3))) Zh))))))
  (Z7 (Ze UU))),?_⟩
 intro N hN;have s0:Same H (upd H N (.dK [])):=Z9 hN;have NL:L≠N:=Z1 hL hN;refine⟨_,rfl,p,C,dx,_,_,rfl,s0 _ _ ob,T.cl,T.n3,wfl3,L,kl,rfl,s0 _ _ hL,λo=>?_⟩;have ao:∀o' u,¬ H L=some (.frz o' u):=λo' u z=>by rw[hL] at z;cases z
 have f1:∀b x,b≠L->H b=some x->(upd (upd H N (.dK [])) L (.frz o (.dK kl))) b=some x:=λb x hb e=>by rw[Z5 hb];exact s0 _ _ e
 have f2:(upd (upd H N (.dK [])) L (.frz o (.dK kl))) L=some (.frz o (.dK kl)):=Z2;have f3:(upd (upd H N (.dK [])) L (.frz o (.dK kl))) N=some (.dK []):=by rw[Z5 NL.symm,Z2]
 generalize (upd (upd H N (.dK [])) L (.frz o (.dK kl)))=H1 at f1 f2 f3;obtain⟨ps,ax,av⟩:=hA.ex;have ap:∀{H2:Hp},(∀b x,b≠N->H1 b=some x->H2 b=some x)->Je C H2 p A S L ks kl Sf Lf/\SaysAt H2 A ss:=λ{H2} kp=>by
  have g:∀b x,b≠L->H b=some x->H2 b=some x:=λb x hb e=>kp b x (Z1 e hN) (f1 b x hb e);refine⟨⟨⟨dx,g _ _ (YL ob hL (by intro z;cases z)) ob⟩,g _ _ W.ne W.hS,W.rS,.inr ⟨o,kp _ _ NL f2⟩,W.rL,W.ne⟩,⟨ps,g _ _ (YL ax hL (by intro z;cases z)) ax,av.len,λi x s h1 h2=>?_⟩⟩
  have:=av.at_ i x s h1 h2
  exact g _ _ (YL this hL (by intro z;cases z)) this
 have ad:∀{H2:Hp},(∀b x,b≠N->H1 b=some x->H2 b=some x)->Same H (upd H2 L (.dK kl)):=λ{H2} kp b x e=>by
  by_cases hb:b=L
  .subst hb;rw[Z2];rw[hL] at e;exact e
  .rw[Z5 hb];exact kp b x (Z1 e hN) (f1 b x hb e)
 have ak:∀k,Lf k≠none->∃(j:Nat) (O:Key×V),kl[j]?=some O/\keyI O.1=k:=λk hk=>by
  have hm:k∈keysI kl:=W.rL.keysMem.mpr λz=>hk (YU.mp z);obtain⟨q,hq,e⟩:=yK.mp hm;obtain⟨j,hj,ej⟩:=xO.mp hq;exact⟨j,q,by rw[<-ej];exact zN hj,e⟩
 refine N1 (d:=L) (o:=o) (kvs:=kl) (λi σ H2=>∃(kn:List (Key×V)) (Nf:Fn) (v2 v3:Option V),σ=[some (.ref p),some (.ref N),v2,v3]/\H2 N=some (.dK kn)/\DR kn (iS Nf)/\(∀b x,b≠N->H1 b=some x->H2 b=some x) /\
   (∀x v,Nf x=some v->Lf x≠none/\Grd ss Lf x/\∃j O,j<i/\kl[j]?=some O/\v=keyI O.1)/\∀j,j<i->∀O,kl[j]?=some O->Grd ss Lf (keyI O.1))
  ⟨[],λ_=>none,none,none,rfl,f3,DR.nil,(λb x _ e=>e),(λx v e=>nomatch e),λj hj=>by lia⟩
  (λi σ H2 qy=>by obtain⟨_,_,_,_,_,_,_,kp,_⟩:=qy;exact kp _ _ NL f2) ?_ ?_
 .rintro i O σ H2 hi ⟨kn,Nf,v2,v3,rfl,ay,rN,kp,ai,al⟩;obtain⟨pe,pn⟩:=W.rL.mem (yM hi);have a7:kV O.1 = .int (keyI O.1):=by rw[pe];rfl
  rw[a7];have az:Lf (keyI O.1)≠none:=λz=>pn (YU.mpr z);generalize ac:keyI O.1=start at az;have aj:∀j aa,j<i->kl[j]?=some aa->keyI aa.1≠start:=λj aa hj e z=>by
   have nd:=W.rL.keysNd;have e1:(keysI kl)[j]?=some start:=by unfold keysI;rw[zM,e];simp[z]
   have e2:(keysI kl)[i]?=some start:=by unfold keysI;rw[zM,hi];simp[ac]
   have:=(List.getElem?_inj (zT.mp e1).1 nd).mp (e1.trans e2.symm)
   lia
  refine⟨_,rfl,?_⟩;refine⟨λm σ H3=>∃(n:Nat) (q:Int) (G:List (Key×V)) (Z:Fn),m=c-G.length/\n<=G.length/\σ=[some (.ref p),some (.ref N),some (.int start),some (.int q)]/\H3 N=some (.dK G)/\DR G (iS Z)/\(∀b x,b≠N->H1 b=some x->H3 b=some x) /\
    Seen ss Lf (λv=>∃j O,j<i/\kl[j]?=some O/\v=keyI O.1) start Z n q,⟨_,0,start,kn,Nf,rfl,xD _,rfl,ay,rN,kp,⟨rfl,(λj hj=>by lia),λx v e=>.inr ⟨(ai x v e).2.2,(ai x v e).2.1⟩,λx v e=>(ai x v e).1⟩⟩,?_⟩
  rintro m σ H3 ⟨n,q,G,Z,rfl,hn,rfl,ae,af,ag,S3⟩;obtain⟨W3,bf⟩:=ap ag;obtain⟨⟨a9,a4⟩,_,_,a8,a5,_⟩:=id W3;have aq:∀x v,Z x=some v->cnt c x=true:=λx v e=>by
   cases e2:Lf x with
   | none=>exact xX e2 (S3.inn x v e)
   | some y=>exact wd.lr e2
  have lN:G.length<=c:=af.len (Ut aq);have done:∀{D:Ends},(Lf q=none∨Z q≠none) ->
    ((Z q=some start->∀n',n'<c->back ss Lf (n'+1) q=some q->D.rt (.int q) H3)/\((∀x v,Z x=some v->Grd ss Lf x)->Grd ss Lf start->D.nx [some (.ref p),some (.ref N),some (.int start),some (.int q)] H3)) ->
    ∃o,DGet H3 N (.int q) o/\scal (o.getD .non) (V.int start)=true/\∃b,b=decide (o.getD .non=V.int start)/\(if b=true then D.rt (.int q) H3 else D.nx [some (.ref p),some (.ref N),some (.int start),some (.int q)] H3):=λ{D} hq ⟨d1,d2⟩=>by
   refine⟨_,.inl ⟨G,Sum.inl q,.inl ae,rfl,rfl⟩,?_⟩;rw[af.at_];cases e:Z q with
   | none =>
    rw[YU.mpr e];refine⟨rfl,_,rfl,?_⟩;have hq:Lf q=none:=by
     rcases hq with z | z
     .exact z
     .exact xX e z
    have g0:Grd ss Lf q:=⟨0,q,rfl,hq⟩;rw[xZ (by simp)]
    refine d2 (λx v ex=>?_) (Grd.back S3.at_ g0);rcases S3.of_ x v ex with ⟨_,j,hj,hb⟩ | ⟨_,z⟩
    .refine Grd.back (i:=n-j) ?_ g0
     have:=S3.at_
     rw[show n=j+(n-j) by lia,Yq,hb] at this
     exact this
    .exact z
   | some v =>
    rw[Yo e];refine⟨rfl,_,rfl,?_⟩;by_cases hv:v=start
    .subst hv;rw[xY (by simp)]
     rcases S3.of_ q v e with ⟨_,j,hj,hb⟩ | ⟨⟨j,aa,hj,e1,e2⟩,_⟩
     .refine d1 e (n-j-1) (by lia) ?_
      have:=S3.at_
      rw[show n=j+(n-j) by lia,Yq,hb] at this
      rw[show n-j-1+1=n-j by lia]
      exact this
     .exact xX e2.symm (aj j aa hj e1)
    .rw[xZ (by simp[hv])]
     have g0:Grd ss Lf q:=by
      rcases S3.of_ q v e with ⟨z,_⟩ | ⟨_,z⟩
      .exact xX z hv
      .exact z
     refine d2 (λx v ex=>?_) (Grd.back S3.at_ g0);rcases S3.of_ x v ex with ⟨_,j,hj,hb⟩ | ⟨_,z⟩
     .refine Grd.back (i:=n-j) ?_ g0
      have:=S3.at_
      rw[show n=j+(n-j) by lia,Yq,hb] at this
      exact this
     .exact z
  have as:(Z q=some start->∀n',n'<c->back ss Lf (n'+1) q=some q->∃d o' kvs,H3 d=some (.frz o' (.dK kvs))/\(∀o u,¬ H d=some (.frz o u))/\Q (.int q) (upd H3 d (.dK kvs))):=λ_ n' h1 h2 =>
   ⟨L,o,kl,ag _ _ NL f2,ao,k1 _ q n' (ad ag) h1 h2⟩
  have a3:(∀x v,Z x=some v->Grd ss Lf x)->Grd ss Lf start->∃(kn:List (Key×V)) (Nf:Fn) (v2 v3:Option V),([some (.ref p),some (.ref N),some (.int start),some (.int q)]:L2.St)=[some (.ref p),some (.ref N),v2,v3]/\H3 N=some (.dK kn)/\DR kn (iS Nf)/\(∀b x,b≠N->H1 b=some x->H3 b=some x) /\
    (∀x v,Nf x=some v->Lf x≠none/\Grd ss Lf x/\∃j O,j<i+1/\kl[j]?=some O/\v=keyI O.1)/\∀j,j<i+1->∀O,kl[j]?=some O->Grd ss Lf (keyI O.1):=λg1 g2=>by
   refine⟨G,Z,_,_,rfl,ae,af,ag,λx v e=>⟨S3.inn x v e,g1 x v e,?_⟩,λj hj aa e=>?_⟩
   .rcases S3.of_ x v e with ⟨z,_⟩ | ⟨⟨j,aa,hj,e1,e2⟩,_⟩
    .exact⟨i,O,by lia,hi,by rw[z,ac]⟩
    .exact⟨j,aa,by lia,e1,e2⟩
   .by_cases z:j=i
    .subst z;rw[hi] at e;cases e;rw[ac];exact g2
    .exact al j (by lia) aa e
  have am:=λhh=>done (D:={ nx:=λσ H=>∃(kn:List (Key×V)) (Nf:Fn) (v2 v3:Option V),σ=[some (.ref p),some (.ref N),v2,v3]/\H N=some (.dK kn)/\DR kn (iS Nf)/\(∀b x,b≠N->H1 b=some x->H b=some x) /\
    (∀x v,Nf x=some v->Lf x≠none/\Grd ss Lf x/\∃j O,j<i+1/\kl[j]?=some O/\v=keyI O.1)/\∀j,j<i+1->∀O,kl[j]?=some O->Grd ss Lf (keyI O.1),rt:=λv H4=>∃d o' kvs,H4 d=some (.frz o' (.dK kvs))/\(∀o u,¬ H d=some (.frz o u))/\Q v (upd H4 d (.dK kvs)) }) hh ⟨as,a3⟩
  refine⟨_,rfl,_,rfl,p,C,a9,_,_,rfl,a4,T.cl,T.n3,wfl3,L,_,rfl,.inl ⟨kl,Sum.inl q,a8,rfl,rfl⟩,_,rfl,?_⟩;rw[a5.at_];cases eL:Lf q with
  | none =>
   rw[YU.mpr eL];obtain⟨oo,q1,q0,bb,q2,q3⟩:=am (.inl eL);subst q2;exact⟨_,rfl,N,rfl,.inl ⟨G,.inl ae⟩,_,rfl,oo,q1,_,rfl,q0,_,rfl,ite2 (λz=>⟨_,rfl,by rw[xY z] at q3;exact q3⟩) (λz=>by rw[xZ z] at q3;exact q3)⟩
  | some kk =>
   rw[Yo eL];refine⟨_,rfl,_,rfl,N,_,rfl,.inl ⟨G,Sum.inl q,.inl ae,rfl,rfl⟩,_,rfl,?_⟩;rw[af.at_];cases eN:Z q with
   | some v =>
    rw[Yo eN];obtain⟨oo,q1,q0,bb,q2,q3⟩:=am (.inr (by rw[eN];simp))
    subst q2;exact⟨_,rfl,N,rfl,.inl ⟨G,.inl ae⟩,_,rfl,oo,q1,_,rfl,q0,_,rfl,ite2 (λz=>⟨_,rfl,by rw[xY z] at q3;exact q3⟩) (λz=>by rw[xZ z] at q3;exact q3)⟩
   | none =>
    rw[YU.mpr eN];have ah:(putK G (Sum.inl q) (V.int start)).length=G.length+1:=af.put_new _ (YU.mpr eN);have au:=af.iput q start;have ar:∀x v,put Z q start x=some v->cnt c x=true:=λx v e=>by
     by_cases z:x=q
     .subst z;exact wd.lr eL
     .rw[ZQ z] at e;exact aq x v e
    have be:G.length+1<=c:=by rw[<-ah];exact au.len (Ut ar)
    have aw:∀b x,b≠N->H1 b=some x->(upd H3 N (.dK (putK G (Sum.inl q) (V.int start)))) b=some x:=λb x hb e=>by rw[Z5 hb];exact ag b x hb e
    obtain⟨W4,ba⟩:=ap aw;obtain⟨⟨bc,a6⟩,_⟩:=id W4;refine⟨_,λσ' H' z=>z,?_⟩;refine⟨_,rfl,_,rfl,_,rfl,N,_,rfl,DPut.k (k:=Sum.inl q) ae (Zb (by lia)),?_⟩
    refine⟨_,rfl,p,bc,_,rfl,a6,Ni,_,rfl,p,A,S,L,ss,ks,kl,Sf,Lf,q,kk,rfl,W4,ba,eL,(wd.j q kk eL).1,?_⟩;refine⟨c-(G.length+1),by lia,n+1,(sy ss kk).1,_,put Z q start,by rw[ah],by rw[ah];lia,rfl,Z2,au,aw,⟨Qp S3.at_ eL,λj hj x e=>?_,λx v e=>?_,λx v e=>?_⟩⟩
    .by_cases z:j=n
     .subst z;rw[S3.at_] at e;cases e;exact ZA
     .have:=S3.to j (by lia) x e
      by_cases z2:x=q
      .subst z2;exact ZA
      .rw[ZQ z2];exact this
    .by_cases z:x=q
     .subst z;rw[ZA] at e;cases e;exact .inl ⟨rfl,n,by lia,S3.at_⟩
     .rw[ZQ z] at e;rcases S3.of_ x v e with ⟨y,j,hj,hb⟩ | y
      .exact .inl ⟨y,j,by lia,hb⟩
      .exact .inr y
    .by_cases z:x=q
     .subst z;rw[eL];simp
     .rw[ZQ z] at e;exact S3.inn x v e
 .rintro σ H2 ⟨kn,Nf,v2,v3,rfl,ay,rN,kp,ai,al⟩;refine⟨L,o,kl,kp _ _ NL f2,ao,?_⟩;refine k2 _ (ad kp) λq kk e=>?_;obtain⟨j,O,h1,h2⟩:=ak q (by rw[e];simp)
  rw[<-h2];exact al j (zT.mp h1).1 O h1
structure BK(K:Frag)(mg:Str->Option Aa)(C C0 f:Ab):Prop where
 e:ExcI K C f
 n:YF K C "ring"
 b:OB K C0
 at_:mg "Broken"=some (.ref C)
 at0:mg "SayError"=some (.ref C0)
def spBroken(C:Ab):Sp:=λvs H Q _=>∃(e r:Ab) (ns:List Int),vs=[.ref e,.ref r]/\H e=some (.ext (exφ e C none))/\H r=some (.lst (ns.map V.int)) /\
 ∀(H':Hp) (l dx:Ab),H l=none->H dx=none->l≠dx->H' l=some (.lst (ns.map V.int))->H' dx=some (.xd [("ring",.ref l)])->H' e=some (.ext (exφ e C (some dx)))->(∀b o,b≠e->H b=some o->H' b=some o)->Q .non H'
theorem Lv:Zd Xx Xx (defScope ZJ):=fs7
theorem Rv{c:Bool}(F:Fun K "__init__" "Broken.__init__" ZJ f fd)(T:BK K mg C C0 f)(G:G1 K mg):FnOk P w K mg base (CXm c) 1 f fd Xx (spBroken C):=by
 refine F.okA Lv λ_ _ _ _ H vs Q _ hr h=>?_;obtain⟨e,r,ns,rfl,Z,aa,k⟩:=h;refine⟨_,Z4 (ZP (Mz (by rfl) T.at0 T.b (Z0 (pv 0) (Z0 OY Z3))))
  (Z7 (KB (pv 0) (Zt Zj (by rfl) G.list boot_list (Z0 (pv 1) Z3)) rfl)),?_⟩
 refine⟨_,rfl,e,C,f,_,rfl,Z,T.e,(szL 1),?_⟩;refine⟨_,rfl,r,_,rfl,.inl (Z8 aa),λl hl=>?_⟩;have el:e≠l:=Z1 Z hl;refine⟨_,rfl,e,C,f,rfl,by rw[Z5 el];exact Z,T.e,T.n,λdx V=>?_⟩
 have W:l≠dx:=λz=>by subst z;rw[Z2] at V;cases V
 have O:H dx=none:=by rw[Z5 W.symm] at V;exact V
 have ac:e≠dx:=Z1 Z O;exact k _ l dx hl O W (by rw[Z5 el.symm,Z5 W,Z2]) (by rw[Z5 ac.symm,Z2]) Z2 λb o hb q=>by rw[Z5 hb,Z5 (Z1 q O),Z5 (Z1 q hl)];exact q
theorem Rb{w:Ws}(h:w.S (sy ss k).2.1≠none)(p:Int):(relax ss w k).S p≠none↔w.S p≠none:=by
 unfold relax;cases O:w.S (sy ss k).1 with
 | none=>exact Iff.rfl
 | some a =>
  cases G:w.S (sy ss k).2.1 with
  | none=>exact xX G h
  | some b =>
   simp only;split
   .by_cases q:p=(sy ss k).2.1
    .subst q;simp only;rw[ZA,G];simp
    .simp only;rw[ZQ q]
   .exact Iff.rfl
theorem RG{c:Int}:∀(G:List Int) (w:Ws),(∀k∈G,w.S (sy ss k).2.1≠none)->∀p,(goAll ss G w).S p≠none↔w.S p≠none:=by
 intro G
 induction G with
 | nil=>intro w _ p;exact Iff.rfl
 | cons k r V =>
  intro w h p;have h1:=Rb (h k yJ);show(goAll ss r (relax ss w k)).S p≠none↔_;rw[V (relax ss w k) (λj O=>(h1 _).mpr (h j (yB _ O))) p,h1 p]
structure V3(ss:List Say)(ns:List Int):Prop where
 wk:∃p,walk ss ns p=some p
 neg:sumC ss ns<0
 ne:ns≠[]
 len:ns.length<=500
def QN(CB:Ab):Sp:=λvs H Q E=>∃(a O:Ab) (ss:List Say) (c:Nat) (ord:List Int),vs=[.ref a,.ref O]/\SaysAt H a ss/\H O=some (.lst (ord.map V.int))/\ss.length<=400/\c<=400/\ss.all (inside c)=true/\(∀k∈ord,cnt ss.length k=true)/\(∀k,cnt ss.length k=true->k∈ord) /\
 (∀(H':Hp) (S:Ab) (ks:List (Key×V)) (Sf:Fn),Same H H'->H S=none->H' S=some (.dK ks)->DR ks (iS Sf)->(∀k,cnt ss.length k=true->Tight ss Sf k)->(∀k,cnt ss.length k=true->Sf (sy ss k).1≠none/\Sf (sy ss k).2.1≠none)->(∃Lf,Wd ss c Sf Lf)->(∀q v,Sf q=some v->v<=0)->Q (.ref S) H') /\
 (∀(H':Hp) (dx l:Ab) (ns:List Int),Same H H'->H l=none->H' dx=some (.xd [("ring",.ref l)])->H' l=some (.lst (ns.map V.int))->V3 ss ns->E (.ref CB) (some dx) H')
theorem G9:Zd Da Qg (defScope JC):=fs7
structure WX(K:Frag)(mg:Str->Option Aa)(C f0:Ab)(d0:Ad)(f1:Ab)(d1:Ad)(f2:Ab)(d2:Ad)(f3:Ab)(d3:Ad)(f4:Ab)(d4:Ad):Prop where
 k:WK K mg C
 mK:Mk K C f0
 i:Fun K "__init__" "Walk.__init__" Y3 f0 d0
 bi:Binds K d0 D7 []
 go:MDef K C "go_along" "Walk.go_along" Y2 ["self","order"] f1 d1
 ah:MDef K C "place_ahead" "Walk.place_ahead" Zx Qf f2 d2
 cb:MDef K C "chain_between" "Walk.chain_between" ZE ["self","one","other"] f3 d3
 pr:MDef K C "place_on_ring" "Walk.place_on_ring" ZD ["self"] f4 d4
theorem P7{f1 f2:Ab}{dB:Ad}(D:Jf K mg f fd)(WF:WX K mg C f0 d0 f1 d1 f2 d2 f3 d3 f4 d4)(T:BK K mg CB C0 fB)(FB:Fun K "__init__" "Broken.__init__" ZJ fB dB)(bB:Binds K dB Xx [])(G:G1 K mg):FnOk P w K mg base (CXr P w) 4 f fd Qg (QN CB):=by
 have GI:FnOk P w K mg base CX0 1 f0 d0 _ (spWInit C):=ME WF.i WF.k;have GG:FnOk P w K mg base CX0 1 f1 d1 _ (spGo C):=Ov WF.go.fn WF.k;have GA:FnOk P w K mg base CX0 1 f2 d2 _ (spAhead C):=Xu WF.ah.fn WF.k;have GC:FnOk P w K mg base CX0 2 f3 d3 _ (spBetween C):=Vr WF.cb.fn WF.ah WF.k;have GR:FnOk P w K mg base CX0 2 f4 d4 _ (spOnRing C):=Rm WF.pr.fn WF.ah WF.k;have GB:FnOk P w K mg base CX0 1 fB dB _ (spBroken CB):=Rv FB T G;refine D.fn.okB G9 λ_ _ outer s H vs Q _ hr h=>?_;obtain⟨a,O,ss,c,ord,rfl,ha,hO,hz,hc,ay,am,bp,k1,k2⟩:=h;have hu:=Jz hr;have bo:Room 1 _:=hr.mono (by decide)
 have aq:Room 2 _:=hr.mono (by decide)
 refine⟨_,Z4 (psl 2 G9.nd (Ya WF.mK GI aq (by rfl) WF.k.at_ WF.bi .nil Zu (Z0 (pv 0) (Z0 (Zg YN
   (ZT (XN:=Da) (outer:=defScope JC) (N:=["saying"]) (cap:=[none]) (by exact csc (.own .nil)) rfl (Zr (pv 0))
    (λ_ _ _ _ _ _=>pgl 0 (show(["saying"]:List Str).Nodup by decide +kernel)) (λ_ _ _ _ _ _=>ZO) (λ_ _ _ _ _ _=>Zc (ixT (K:=K)) (pv 0) Z6 (λ_ _=>rfl)))
   (ZT (XN:=Da) (outer:=defScope JC) (N:=["saying"]) (cap:=[none]) (by exact csc (.own .nil)) rfl (Zr (pv 0))
    (λ_ _ _ _ _ _=>pgl 0 (show(["saying"]:List Str).Nodup by decide +kernel)) (λ_ _ _ _ _ _=>ZO) (λ_ _ _ _ _ _=>Zc (ixT (K:=K)) (pv 0) Z6 (λ_ _=>rfl)))) Z3))))
  (Z4 (JP PassesOwn.leaving (Zq (Y9 (pv 2) WF.k.cl WF.go.me GG bo WF.go.bd .nil Zu (Z0 (pv 1) Z3)))
   (Z4 (psl 3 G9.nd (LU (pv 2) WF.k.cl WF.pr.me GR aq WF.pr.bd .nil Zu))
   (Z7 (Zw (Jk (KK (pv 3)))
    (Z7 (Rf T.e Re rfl (LV T.e GB aq (by rfl) T.at_ bB Zu (Z0 (Zg YN
     (Y9 (pv 2) WF.k.cl WF.cb.me GC aq WF.cb.bd .nil Zu (Z0 (pv 3) (Z0 (Y9 (pv 2) WF.k.cl WF.ah.me GA bo WF.ah.bd .nil Zu (Z0 (pv 3) Z3)) Z3)))
     (Zn (Z0 (Yx hu (Zi (pv 2) rfl) (pv 3)) Z3))) Z3)))) Zh))))
  (Z7 (Ze (Zi (pv 2) rfl)))),?_⟩
 obtain⟨ps,ao,a7⟩:=ha.ex;have af:(ps.map V.ref).length=ss.length:=by rw[zK,a7.len]
 have one:∀{g:Say->Int} {H2:Hp} {n:Int},Same H H2->∀(aw:∀s:Say,atI [V.int s.1,V.int s.2.1,V.int s.2.2] n=some (V.int (g s))) (i:Nat) (x:V) (σc:L2.St) (Hc:Hp) (ad:V->L2.St->Hp->Prop),(ps.map V.ref)[i]?=some x->Same H2 Hc->(∃v,σc=[v]) ->
   (∀ σ2 H4 v,(∃v,σ2=[v])->Same Hc H4->((ss[i]?).map λs=>V.int (g s))=some v->ad v σ2 H4)->tOp (rIxT K) (tVar 0) (tC (V.int n)) (σc.set 0 (some x)) Hc (λv H4=>ad v (σc.set 0 (some x)) H4):=λ{g H2 n} sm aw i x σc Hc ad hx sc ⟨v,hv⟩ ak=>by
  rw[zM] at hx;cases ep:ps[i]? with
  | none=>rw[ep] at hx;cases hx
  | some p =>
   rw[ep] at hx;cases hx;subst hv;have bz:i<ss.length:=by rw[<-a7.len];exact(zT.mp ep).1
   have es:ss[i]?=some ss[i]:=zN bz;exact⟨_,rfl,p,_,_,_,rfl,rfl,Zo (sc _ _ (sm _ _ (a7.at_ i p _ ep es))),aw _,ak _ _ _ ⟨_,rfl⟩ (Za _) (by rw[es];rfl)⟩
 refine⟨_,rfl,?_⟩;refine⟨_,rfl,a,rfl,⟨_,Z8 ao⟩,λq1 c0=>?_⟩;refine Y0 (outs:=λi=>(ss[i]?).map λs=>V.int s.1) (λσ=>∃v,σ=[v]) c0 (Z8 ao) (by rw[af];exact Zb (by lia)) ⟨none,rfl⟩ (λi x σc Hc ad No hx sm _ hv ak no=>one (g:=λs=>s.1) (n:=0) (Za _) (λ_=>rfl) i x σc Hc ad hx sm hv ak) (λH1 s1 bv=>?_)
 rw[af,V1] at bv;refine⟨_,rfl,a,rfl,⟨_,Z8 (s1 _ _ ao)⟩,λq2 ca=>?_⟩;refine Y0 (outs:=λi=>(ss[i]?).map λs=>V.int s.2.1) (λσ=>∃v,σ=[v]) ca (Z8 (s1 _ _ ao)) (by rw[af];exact Zb (by lia)) ⟨none,rfl⟩ (λi x σc Hc ad No hx sm _ hv ak no=>one (g:=λs=>s.2.1) (n:=1) s1 (λ_=>rfl) i x σc Hc ad hx sm hv ak) (λH2 s2 bn=>?_)
 rw[af,V1] at bn;refine⟨q1,q2,_,_,rfl,rfl,s2 _ _ bv,bn,by rw[zK,zK];exact yW (Zb (by lia)),λB hB=>?_⟩
 have s3:Same H (upd H2 B (.lst (ss.map (λs=>V.int s.1)++ss.map λs=>V.int s.2.1))):=(s1.trans s2).trans (Z9 hB);have bk:(upd H2 B (.lst (ss.map (λs=>V.int s.1)++ss.map λs=>V.int s.2.1))) B=some (.lst (((ss.map λs=>s.1)++ss.map λs=>s.2.1).map V.int)):=by
  rw[Z2,zZ,xJ,xJ];rfl
 generalize upd H2 B (.lst (ss.map (λs=>V.int s.1)++ss.map λs=>V.int s.2.1))=H3 at s3 bk;intro p dx bf bt de;have s4:Same H3 (upd (upd H3 dx (.own p)) p (.ins C dx [])):=λb o e=>by rw[Z5 (Z1 e bf),Z5 (Z1 e bt)];exact e
 have bb:∀k∈(ss.map λs=>s.1)++ss.map (λs=>s.2.1),cnt c k=true:=λk hk=>by
  rcases yC.mp hk with z | z
  all_goals
   obtain⟨s,hs,rfl⟩:=yK.mp z
   have:=yA.mp ay s hs
   unfold inside at this;rw[yI] at this
   first | exact this.1 | exact this.2
 refine⟨p,dx,a,B,_,c,rfl,Z2,s4 _ _ bk,bb,by lia,λH5 S L ks Sf cq c5 W5 cf al c1=>⟨rfl,?_⟩⟩
 have b6:H3 S=none:=s4.free cq;have cm:H3 L=none:=s4.free c5;have s5:Same H H5:=λb o e=>c1 b o (Z1 (s3 _ _ e) bf) (s4 _ _ (s3 _ _ e));have bw:H S=none:=s3.free b6;have ck:H L=none:=s3.free cm;have a3:∀k,cnt ss.length k=true->Sf (sy ss k).1≠none/\Sf (sy ss k).2.1≠none:=λk hk=>by
  have hm:sy ss k∈ss:=yM (JO hk);have e1:=al.to (sy ss k).1 (xG _ (yK.mpr ⟨_,hm,rfl⟩));have e2:=al.to (sy ss k).2.1 (zY _ (yK.mpr ⟨_,hm,rfl⟩));rw[e1,e2];simp
 have ce:Wd ss c Sf (λ_=>none):=⟨(λp k e=>nomatch e),(λp n e=>by unfold back at e;cases e),λq v _ e=>(al.of_ q v e).1,λq v e=>bb q (al.of_ q v e).2⟩
 refine⟨λm σ H6=>∃(a9 as:List (Key×V)) (Z ac:Fn) (v3:Option V),m=meas c (-((c*bigNum ss:Nat):Int)) 0 Z/\σ=[some (.ref a),some (.ref O),some (.ref p),v3]/\Je C H6 p a S L a9 as Z ac/\H6 L=some (.dK as)/\Wd ss c Z ac/\Same H H6 /\
   (∀k,cnt ss.length k=true->Z (sy ss k).1≠none/\Z (sy ss k).2.1≠none)/\(∀q v,Z q=some v->v<=0),⟨_,ks,[],Sf,_,none,rfl,rfl,W5,cf,ce,s5,a3,λq v e=>by rw[(al.of_ q v e).1];exact wX _⟩,?_⟩
 rintro m σ H6 ⟨a9,as,Z,ac,v3,rfl,rfl,W6,b3,a6,s6,aa,br⟩;obtain⟨⟨cn,b4⟩,_⟩:=id W6;have W:=Vw ay ⟨Z,ac,false⟩ a6 ord am;have ar:=RG (ss:=ss) (c:=c) ord ⟨Z,ac,false⟩ (λk hk=>(aa k (am k hk)).2);refine⟨_,rfl,p,cn,_,rfl,b4,RS,_,rfl,p,a,S,L,O,ss,c,a9,as,Z,ac,ord,rfl,W6,b3,ha.same s6,s6 _ _ hO,am,ay,by lia,a6,λH7 ai ag W7 bh b7=>?_⟩
 have s7:Same H H7:=λb o e=>b7 b o (Z1 e bw) (Z1 e ck) (s6 _ _ e);obtain⟨⟨bl,bg⟩,_⟩:=id W7;generalize c6:goAll ss ord ⟨Z,ac,false⟩=w7 at W ar W7;have a5:∀k,cnt ss.length k=true->w7.S (sy ss k).1≠none/\w7.S (sy ss k).2.1≠none:=λk hk=>⟨(ar _).mpr (aa k hk).1,(ar _).mpr (aa k hk).2⟩;have bc:∀q v,w7.S q=some v->v<=0:=λq v e=>by
  have:Z q≠none:=(ar q).mp (by rw[e];simp)
  cases e6:Z q with
  | none=>exact xX e6 this
  | some v6 =>
   obtain⟨b',eb,cv⟩:=W.down q v6 e6;rw[e] at eb;cases eb;exact qT cv (br q v6 e6)
 refine⟨_,rfl,?_⟩;cases hf:w7.f with
 | false =>
  obtain⟨e7,az⟩:=W.still hf;refine iteF ?_;refine⟨_,rfl,p,C,bl,_,_,rfl,bg,WF.k.cl,WF.k.n2,wfl2,?_⟩;have eS:w7.S=Z:=by rw[e7]
  rw[eS] at W7;exact k1 H7 S ai Z s7 bw W7.hS W7.rS (λk hk=>az k (bp k hk)) aa ⟨ac,a6⟩ br
 | true =>
  refine iteT ⟨_,λσ' H' z=>z,?_⟩;have ba:Less Z w7.S:=by
   rcases W.less hf with z | z
   .cases z
   .exact z
  refine⟨_,rfl,p,bl,_,rfl,bg,OG,p,a,S,L,ss,c,ai,ag,w7.S,w7.L,rfl,W7,bh,ha.same s7,by lia,W.wd,λH8 q n s8 hn hq=>?_,λH8 s8 co=>?_⟩
  .-- a ring
   have a8:Same H H8:=s7.trans s8;have W8:=W7.same s8;obtain⟨⟨bj,be⟩,_,_,c7,dg,_⟩:=id W8;refine⟨_,rfl,_,rfl,iteT ?_⟩;obtain⟨kk,hk⟩:∃kk,w7.L q=some kk:=by
    cases e:w7.L q with
    | none=>unfold back at hq;rw[e] at hq;cases hq
    | some kk=>exact⟨kk,rfl⟩
   have cz:back ss w7.L n (sy ss kk).1=some q:=by unfold back at hq;rw[hk] at hq;exact hq
   have cp:=(W.wd.j q kk hk).1;refine⟨_,rfl,p,bj,_,rfl,be,WZ,_,rfl,_,rfl,p,bj,_,rfl,be,Ni,_,rfl,p,a,S,L,ss,ai,ag,w7.S,w7.L,q,kk,rfl,W8,ha.same a8,hk,cp,?_⟩;refine⟨p,a,S,L,ss,ai,ag,w7.S,w7.L,q,(sy ss kk).1,n,rfl,W8,ha.same a8,W.wd.j,cz,by lia,λH9 d mm s9 c8 hm ci b9=>?_⟩
   have b5:Same H H9:=a8.trans s9;have W9:=W8.same s9;obtain⟨⟨cc,c3⟩,_,_,cg,cw,_⟩:=id W9;refine⟨_,rfl,p,C,cc,_,_,rfl,c3,WF.k.cl,WF.k.n3,wfl3,_,rfl,L,_,rfl,.inl ⟨ag,Sum.inl q,cg,rfl,by rw[cw.at_,Yo hk]⟩,szL 1,λl1 b0=>?_⟩
   have aj:back ss w7.L (mm+1) q=some q:=by unfold back;rw[hk];exact ci
   obtain⟨r1,r2,r3⟩:=J4 W.wd.j (mm+1) q q aj;have ae:(chainB ss w7.L (mm+1) q).reverse=(chainB ss w7.L mm (sy ss kk).1).reverse++[kk]:=by
    have:chainB ss w7.L (mm+1) q=kk::chainB ss w7.L mm (sy ss kk).1:=by simp only[chainB,hk]
    rw[this,wA]
   have cu:(chainB ss w7.L mm (sy ss kk).1).reverse.length<=400:=by
    have:=xQ jI ae
    rw[zR,wM,r3] at this;have e1:[kk].length=1:=rfl;lia
   have u1:=Z9 (o:=.lst [V.int kk]) b0;refine⟨d,l1,_,_,rfl,rfl,u1 _ _ b9,Z2,by rw[zK];exact yW (Zb (by show _+1<=1000;lia)),λl2 cr=>?_⟩
   have u2:=Z9 (o:=.lst (((chainB ss w7.L mm (sy ss kk).1).reverse.map V.int)++[V.int kk])) cr;have ap:Same H (upd (upd H9 l1 (.lst [V.int kk])) l2 (.lst (((chainB ss w7.L mm (sy ss kk).1).reverse.map V.int)++[V.int kk]))):=(b5.trans u1).trans u2;have av:(upd (upd H9 l1 (.lst [V.int kk])) l2 (.lst (((chainB ss w7.L mm (sy ss kk).1).reverse.map V.int)++[V.int kk]))) l2=some (.lst ((chainB ss w7.L (mm+1) q).reverse.map V.int)):=by
    rw[Z2,ae,zZ];rfl
   generalize (upd (upd H9 l1 (.lst [V.int kk])) l2 (.lst (((chainB ss w7.L mm (sy ss kk).1).reverse.map V.int)++[V.int kk])))=di at ap av;refine⟨szL 1,λe he=>?_⟩;have ax:H e=none:=ap.free he;have u3:=Z9 (o:=.ext (exφ e CB none)) he;refine⟨e,l2,_,rfl,Z2,u3 _ _ av,λc4 l dy a4 au dj h1 h2 h3 bq=>⟨rfl,?_⟩⟩;have c2:Same H c4:=λb o z=>bq b o (Z1 z ax) (u3 _ _ (ap _ _ z));refine⟨e,some dy,rfl,h3,ax,?_⟩;have nl:l≠e:=λz=>by subst z;rw[Z2] at a4;cases a4
   have nd:dy≠e:=λz=>by subst z;rw[Z2] at au;cases au
   refine k2 _ dy l ((chainB ss w7.L (mm+1) q).reverse) (λb o z=>by rw[X4 (Z1 z ax)];exact c2 b o z) (ap.free (u3.free a4)) (by rw[X4 nd];exact h2) (by rw[X4 nl];exact h1) ⟨⟨q,r1⟩,?_,?_,?_⟩
   .rw[r2];exact W.wd.r q mm aj
   .rw[ae];simp
   .rw[wM,r3];lia
  .-- none
   refine⟨_,rfl,_,rfl,iteF ?_⟩;have cy:∀q v,w7.S q=some v->-((c*bigNum ss:Nat):Int)<=v:=λq v e=>Pw W.wd co e;refine⟨_,Tg W.down ba W.wd.rg cy bc,ai,ag,w7.S,w7.L,_,rfl,rfl,W7.same s8,s8 _ _ bh,W.wd,s7.trans s8,a5,bc⟩
structure Gone(ss:List Say)(c:Nat)(d:Int->Int)(one:Int)(Sf Lf:Fn):Prop where
 wd:Wd ss c Sf Lf
 wk:Wk ss c d one Sf Lf
 tight:∀k,cnt ss.length k=true->Tight ss Sf k
def spFrom(C:Ab):Sp:=λvs H Q _=>∃(a O:Ab) (ss:List Say) (c:Nat) (ord:List Int) (one:Int) (d:Int->Int),vs=[.ref a,.ref O,.int one]/\SaysAt H a ss/\H O=some (.lst (ord.map V.int))/\c<=400/\ss.all (inside c)=true/\cnt c one=true /\
 (∀k∈ord,cnt ss.length k=true)/\(∀k,cnt ss.length k=true->k∈ord)/\(∀s∈ss,d s.2.1-d s.1<=s.2.2) /\
 ∀(H':Hp) (p S L:Ab) (ks kl:List (Key×V)) (Sf Lf:Fn),Same H H'->H p=none->H S=none->Je C H' p a S L ks kl Sf Lf->Gone ss c d one Sf Lf->Q (.ref p) H'
theorem Ga:Zd ["sayings","order","one","walk","found"] NY (defScope Qx):=fs7
theorem Td{f1 f2:Ab}(D:U7 K mg f fd)(WF:WX K mg C f0 d0 f1 d1 f2 d2 f3 d3 f4 d4):FnOk P w K mg base CX0 3 f fd NY (spFrom C):=by
 have GI:FnOk P w K mg base CX0 1 f0 d0 _ (spWInit C):=ME WF.i WF.k;have GG:FnOk P w K mg base CX0 1 f1 d1 _ (spGo C):=Ov WF.go.fn WF.k;refine D.fn.okA Ga λ_ _ _ _ H vs Q _ hr h=>?_;obtain⟨a,O,ss,c,ord,one,d,rfl,ha,hO,hc,ah,h1,aa,ar,pt,k⟩:=h;have a9:Room 1 _:=hr.mono (by decide)
 refine⟨_,Z4 (psl 3 Ga.nd (Ya WF.mK GI hr (by rfl) WF.k.at_ WF.bi .nil Zu (Z0 (pv 0) (Z0 (Zn (Z0 (pv 2) Z3)) Z3))))
  (Z4 (psl 4 Ga.nd ZI)
  (Z4 (JP PassesOwn.never (Zq (pv 4)) (Z7 (psl 4 Ga.nd (Y9 (pv 3) WF.k.cl WF.go.me GG a9 WF.go.bd .nil Zu (Z0 (pv 1) Z3)))))
  (Z7 (Ze (pv 3))))),?_⟩
 refine⟨_,rfl,_,rfl,szL 1,λB hB=>?_⟩;have u0:=Z9 (o:=.lst [V.int one]) hB;have aq:(upd H B (.lst [V.int one])) B=some (.lst ([one].map V.int)):=Z2;generalize upd H B (.lst [V.int one])=H0 at u0 aq;intro p dx ag as be;have s1:Same H0 (upd (upd H0 dx (.own p)) p (.ins C dx [])):=λb o e=>by rw[Z5 (Z1 e ag),Z5 (Z1 e as)];exact e
 refine⟨p,dx,a,B,[one],c,rfl,Z2,s1 _ _ aq,λk hk=>?_,by lia,λH2 S L ks Sf a8 bc W2 aw st av=>⟨rfl,?_⟩⟩
 .have:k=one:=by simpa using hk
  subst this;exact h1
 have au:H S=none:=u0.free (s1.free a8);have a6:H L=none:=u0.free (s1.free bc);have a3:H p=none:=u0.free ag;have s2:Same H H2:=λb o e=>av b o (Z1 (u0 _ _ e) ag) (s1 _ _ (u0 _ _ e));have bb:Sf one=some 0:=st.to one (by simp)
 have ac:∀q v,Sf q=some v->v=0/\q=one:=λq v e=>by
  obtain⟨z1,z2⟩:=st.of_ q v e;exact⟨z1,by simpa using z2⟩
 have a5:Wd ss c Sf (λ_=>none):=⟨(λp k e=>nomatch e),(λp n e=>by unfold back at e;cases e),λq v _ e=>(ac q v e).1,λq v e=>by rw[(ac q v e).2];exact h1⟩
 have ay:Wk ss c d one Sf (λ_=>none):=by
  refine⟨λq v e=>?_,λq v e=>?_,bb,rfl,λq v e n=>xX (ac q v e).2 n⟩
  .obtain⟨rfl,rfl⟩:=ac q v e;lia
  .obtain⟨rfl,rfl⟩:=ac q v e;lia
 refine⟨λm σ H6=>∃(ae ad:List (Key×V)) (W Z:Fn) (fb:Bool),(m=meas c (-((c*bigNum ss:Nat):Int)) ((c*bigNum ss:Nat):Int) W+(if fb=true then 1 else 0))/\σ=[some (.ref a),some (.ref O),some (.int one),some (.ref p),some (.bl fb)]/\Je C H6 p a S L ae ad W Z/\H6 L=some (.dK ad)/\Wd ss c W Z/\Wk ss c d one W Z/\Same H H6 /\
   (fb=false->∀k,cnt ss.length k=true->Tight ss W k),⟨_,ks,[],Sf,_,true,rfl,rfl,W2,aw,a5,ay,s2,(λz=>nomatch z)⟩,?_⟩
 rintro m σ H6 ⟨ae,ad,W,Z,fb,rfl,rfl,W6,ax,aj,ao,s6,t6⟩;refine⟨_,rfl,_,rfl,?_⟩;cases fb with
 | false =>
  refine iteF ⟨_,rfl,?_⟩;exact k H6 p S L ae ad W Z s6 a3 au W6 ⟨aj,ao,t6 rfl⟩
 | true =>
  refine iteT ⟨_,λσ' H' z=>z,?_⟩;obtain⟨⟨a7,az⟩,_⟩:=id W6;have G:=Vw ah ⟨W,Z,false⟩ aj ord aa;have af:=Wk.goAll pt ah ord ⟨W,Z,false⟩ aa ao;refine⟨_,rfl,p,a7,_,rfl,az,RS,_,rfl,p,a,S,L,O,ss,c,ae,ad,W,Z,ord,rfl,W6,ax,ha.same s6,s6 _ _ hO,aa,ah,by lia,aj,λH7 am al W7 ap a4=>?_⟩
  have s7:Same H H7:=λb o e=>a4 b o (Z1 e au) (Z1 e a6) (s6 _ _ e);generalize goAll ss ord ⟨W,Z,false⟩=w7 at G af W7;have ba:∀q v,w7.S q=some v->-((c*bigNum ss:Nat):Int)<=v:=λq v e=>Pw G.wd (λp k _=>Tu pt G.wd p) e;have top:∀q v,w7.S q=some v->v<=((c*bigNum ss:Nat):Int):=λq v e=>qT (af.up q v e) (qR.mpr (vR _ (Ej c w7.S)));cases hf:w7.f with
  | true =>
   have ak:Less W w7.S:=by
    rcases G.less hf with z | z
    .cases z
    .exact z
   have ml:meas c (-((c*bigNum ss:Nat):Int)) ((c*bigNum ss:Nat):Int) w7.S<meas c (-((c*bigNum ss:Nat):Int)) ((c*bigNum ss:Nat):Int) W:=Tg G.down ak G.wd.rg ba top;exact⟨_,Nat.add_lt_add_right ml 1,am,al,w7.S,w7.L,true,rfl,rfl,W7,ap,G.wd,af,s7,(λz=>nomatch z)⟩
  | false =>
   obtain⟨e7,ai⟩:=G.still hf;have eS:w7.S=W:=by rw[e7]
   refine⟨_,by rw[eS];show _+0<_+1;lia,am,al,w7.S,w7.L,false,rfl,rfl,W7,ap,G.wd,af,s7,λ_ k hk=>by rw[eS];exact ai k (ar k hk)⟩
def lw (S S0:Fn)(lift:Int)(c:Nat):List Int:=(zV c).map λ(i:Nat)=>(S (i:Int)).getD ((S0 (i:Int)).getD 0+lift)
def spLW (C:Ab):Sp:=λvs H Q _=>∃(c:Nat) (p a S0 S L:Ab) (ks0 ks kl:List (Key×V)) (Sf0 Sf Lf:Fn) (one:Int),vs=[.int c,.ref S0,.ref p]/\c<=400/\H S0=some (.dK ks0)/\DR ks0 (iS Sf0)/\Je C H p a S L ks kl Sf Lf/\S0≠S/\Sf one=some 0/\(∀k v,Sf k=some v->cnt c k=true) /\
 ∀(H':Hp) (d:Ab) (lift:Int),Same H H'->H d=none->H' d=some (.lst ((lw Sf Sf0 lift c).map V.int))->(∀k v,Sf k=some v->v-(Sf0 k).getD 0<=lift)->Q (.ref d) H'
theorem Ta{f:Str}{ta:TE}(O:PE Y e ta)(V:attributeBase e f Y.env (eval e Y.env)=eval e Y.env)(G:Y.K=K:=by rfl):PE Y (.Attribute e f pos) (tFld K ta f):=by subst G;exact Zi O V
theorem scLW:Zd D8 NX (defScope YR):=fs7
theorem Ou(D:YW K mg f fd)(T:WK K mg C)(G:G1 K mg):FnOk P w K mg base CX0 1 f fd NX (spLW C):=by
 refine D.fn.okA scLW λ_ _ outer _ H vs Q _ hr h=>?_;obtain⟨c,p,a,S0,S,L,ae,ks,kl,O,Sf,Lf,one,rfl,hc,ao,ak,W,nS,h1,ar,k⟩:=h;have hu:=Jz hr;refine⟨_,Z4 (Qa (i:=3) scLW.nd rfl (Or.inr rfl) (ZC (RO rfl) (by rfl) G.max boot_max (Z0 (KG
   (ZT (XN:=D8) (outer:=defScope YR) (N:=["place","walk","sums"]) (cap:=[none,some 2,some 1])
    (by exact csc (.own (.cap rfl rfl rfl (.cap rfl rfl rfl .nil)))) rfl (Gg (Zi (pv 2) rfl))
    (λ_ _ _ _ _ _=>pgl 0 (show(["place","walk","sums"]:List Str).Nodup by decide +kernel)) (λ_ _ _ _ _ _=>ZO)
    (λ_ _ _ _ _ _=>Zg Ja (Yx hu (Ta (K:=K) (pv 1) rfl) (pv 0)) (Us hu (pv 2) (pv 0) Z6 ⟨rfl,rfl,rfl,rfl⟩)))) Z3)))
  (Z7 (Ze (ZT (XN:=D8) (outer:=defScope YR) (N:=["place","walk","sums","lift"]) (cap:=[none,some 2,some 1,some 3])
   (by exact csc (.own (.cap rfl rfl rfl (.cap rfl rfl rfl (.cap rfl rfl rfl .nil))))) rfl (Uq (by rfl) G.range (Z0 (pv 0) Z3))
   (λ_ _ _ _ _ _=>pgl 0 (show(["place","walk","sums","lift"]:List Str).Nodup by decide +kernel)) (λ_ _ _ _ _ _=>ZO)
   (λ_ _ _ _ _ _=>Us hu (Ta (K:=K) (pv 1) rfl) (pv 0) (Zg Yd (Us hu (pv 2) (pv 0) Z6 ⟨rfl,rfl,rfl,rfl⟩) (pv 3)) ⟨rfl,rfl,rfl,rfl⟩)))),?_⟩
 obtain⟨⟨dx,ob⟩,hS,rS,hL,rL,aw⟩:=id W;have ay:ks.length<=c:=rS.len λk v e=>by
  cases q:Sf k with
  | none=>rw[YU.mpr q] at e;cases e
  | some x=>exact ar k x q
 refine⟨_,rfl,p,C,dx,_,_,rfl,ob,T.cl,T.n2,wfl2,S,ks,rfl,hS,λo D1 ac=>?_⟩;have f1:∀b x,b≠S->H b=some x->(upd H S (.frz o (.dK ks))) b=some x:=λb x hb e=>by rw[Z5 hb];exact e
 have f2:(upd H S (.frz o (.dK ks))) S=some (.frz o (.dK ks)):=Z2;have al:H D1=none:=by
  by_cases z:D1=S
  .rw[z,Z2] at ac;cases ac
  .rw[Z5 z] at ac;exact ac
 generalize upd H S (.frz o (.dK ks))=H1 at f1 f2 ac;have key:∀i,i<ks.length->∃(Z:Key×V) (v:Int),ks[i]?=some Z/\Z.1=Sum.inl (keyI Z.1)/\Sf (keyI Z.1)=some v:=λi hi=>by
  have e:ks[i]?=some ks[i]:=zN hi;obtain⟨pe,pn⟩:=rS.mem (xC hi);cases q:Sf (keyI ks[i].1) with
  | none=>exact xX (YU.mpr q) pn
  | some v=>exact⟨ks[i],v,e,pe,q⟩
 refine QX (J:=Itd S o ks) (n:=ks.length) (item:=λi=>((ks[i]?).map λZ=>V.int (keyI Z.1)).getD .non) (outs:=λi=>(ks[i]?).map λZ=>V.int ((Sf (keyI Z.1)).getD 0-(O (keyI Z.1)).getD 0)) (λσ=>∃v,σ=[v,some (.ref p),some (.ref S0)]) ac (Zb (by lia))
  (λi Hc hi sm=>⟨hi,sm _ _ f2⟩) (λi Hc x H' hi sm ⟨e1,Z,e2,e3⟩=>⟨e1,?_⟩) (λHc sm=>⟨zO _,sm _ _ f2⟩) ⟨none,rfl⟩ (λi σc Hc as No hi sm _ ⟨v0,hv⟩ af no=>?_) (λHc sm hM=>?_)
 .obtain⟨av,v,e4,e5,_⟩:=key i hi;rw[e2] at e4;cases e4;rw[e3,e2,e5];rfl
 .subst hv;obtain⟨Z,v,e4,e5,e6⟩:=key i hi;have ei:((ks[i]?).map λZ=>V.int (keyI Z.1)).getD .non=V.int (keyI Z.1):=by rw[e4];rfl
  rw[ei];have au:=sm _ _ (f1 _ _ (YL ob hS (by intro z;cases z)) ob)
  have aj:=sm _ _ (f1 _ _ nS ao);refine⟨_,rfl,p,C,dx,_,_,rfl,au,T.cl,T.n2,wfl2,_,rfl,S,_,rfl,.inl ⟨ks,Sum.inl (keyI Z.1),.inr ⟨o,sm _ _ f2⟩,rfl,by rw[rS.at_,Yo e6]⟩,?_⟩
  refine⟨_,rfl,S0,rfl,.inl ⟨ae,.inl aj⟩,_,rfl,_,.inl ⟨ae,Sum.inl (keyI Z.1),.inl aj,rfl,rfl⟩,?_⟩;rw[ak.at_];have ev:(iS O (keyI Z.1)).getD (V.int 0)=V.int ((O (keyI Z.1)).getD 0):=by
   unfold iS;cases O (keyI Z.1) <;> rfl
  rw[ev];exact⟨_,_,rfl,rfl,af _ _ _ ⟨_,rfl⟩ (Za _) (by rw[e4];show some (V.int ((Sf (keyI Z.1)).getD 0-(O (keyI Z.1)).getD 0))=_;rw[e6];rfl)⟩
 have aq:Hc D1=some (.lst ((ks.map λZ=>(Sf (keyI Z.1)).getD 0-(O (keyI Z.1)).getD 0).map V.int)):=by
  rw[hM,V1,xJ];rfl
 have nD:D1≠S:=λz=>by rw[z] at al;rw[al] at hS;cases hS
 have nz:∀(o':Obj) (u:HO),¬ H S=some (.frz o' u):=λo' u z=>by
  rw[hS] at z;cases z
 refine⟨S,o,ks,sm _ _ f2,nz,?_⟩;have s2:Same H (upd Hc S (.dK ks)):=λb x e=>by
  by_cases hb:b=S
  .subst hb;rw[Z2];rw[hS] at e;exact e
  .rw[Z5 hb];exact sm _ _ (f1 b x hb e)
 refine⟨D1,_,rfl,Z8 (by rw[Z5 nD];exact aq),?_,λaa ag=>?_⟩
 .intro z
  have:one∈keysI ks:=rS.keysMem.mpr λy=>by rw[Yo h1] at y;cases y
  unfold keysI at this;cases ks with
  | nil=>simp at this
  | cons q r=>simp at z
 have hl:∀k v,Sf k=some v->v-(O k).getD 0<=aa:=λk v e=>by
  have hm:k∈keysI ks:=rS.keysMem.mpr λy=>by rw[Yo e] at y;cases y
  obtain⟨Z,hp,rfl⟩:=yK.mp hm
  have:=ag _ (yK.mpr ⟨Z,hp,rfl⟩)
  rw[e] at this;exact this
 have W2:=W.same s2;obtain⟨⟨ap,am⟩,ai,_⟩:=id W2;have ah:=s2 _ _ ao;generalize upd Hc S (.dK ks)=H2 at s2 W2 am ai ah;refine⟨_,rfl,_,rfl,by lia,by lia,λq hq=>?_⟩
 refine JY (n:=(c:Int).toNat) (outs:=λ(i:Nat)=>some (V.int ((Sf (i:Int)).getD ((O (i:Int)).getD 0+aa)))) (λσ=>∃v,σ=[v,some (.ref p),some (.ref S0),some (.int aa)]) hq (by rw[yE];exact Zb (by lia)) ⟨none,rfl⟩ (λi σc ax as No hi ad _ ⟨v,hv⟩ af no=>?_) (λHd sd hD=>?_)
 .subst hv;refine⟨_,rfl,p,C,ap,_,_,rfl,ad _ _ am,T.cl,T.n2,wfl2,S,rfl,.inl ⟨ks,.inl (ad _ _ ai)⟩,_,rfl,?_⟩;refine⟨_,rfl,S0,rfl,.inl ⟨ae,.inl (ad _ _ ah)⟩,_,rfl,_,.inl ⟨ae,Sum.inl (i:Int),.inl (ad _ _ ah),rfl,rfl⟩,?_⟩;rw[ak.at_];have ev:(iS O (i:Int)).getD (V.int 0)=V.int ((O (i:Int)).getD 0):=by
   unfold iS;cases O (i:Int) <;> rfl
  rw[ev];refine⟨_,rfl,_,_,rfl,rfl,_,.inl ⟨ks,Sum.inl (i:Int),.inl (ad _ _ ai),rfl,rfl⟩,?_⟩;refine af _ _ _ ⟨_,rfl⟩ (Za _) ?_;rw[rS.at_];unfold iS;cases Sf (i:Int) <;> rfl
 .rw[yE] at hD;refine k Hd q aa (s2.trans sd) (s2.free hq) ?_ hl;rw[hD];unfold lw;rw[xJ,show(λ(i:Nat)=>some (V.int ((Sf (i:Int)).getD ((O (i:Int)).getD 0+aa))))=some ∘ (V.int ∘ λ(i:Nat)=>(Sf (i:Int)).getD ((O (i:Int)).getD 0+aa)) from rfl,uP]
structure FS(c n:Nat)(H0:Hp)(E F:Ab)(ups:Int->List Int)(H:Hp)(T:List Int)(ke kf:List (Key×V))(Ef:Int->Bool)(Ff:Fn):Prop where
 hE:H E=some (.dK ke)
 rE:DR ke (bS Ef)
 hF:H F=some (.dK kf)
 rF:DR kf (iS Ff)
 keep:∀b o,b≠E->b≠F->H0 b=some o->H b=some o
 e1:∀k,Ef k=true->cnt c k=true
 f1:∀k v,Ff k=some v->cnt c k=true
 t1:∀k∈T,cnt c k=true
 a:∀k,Ef k=true->Ff k≠none∨k∈T
 b:∀k,Ef k=true->∀u∈ups k,Ef u=true∨u∈T
structure Oy(H:Hp)(U:Ab)(ups:Int->List Int)(c n:Nat):Prop where
 ex:∃(ku:List (Key×V)) (Uf:Int->Option Ab),Rd H U (.dK ku)/\DR ku (λk=>(Uf k).map V.ref)/\(∀k a,Uf k=some a->H a=some (.lst ((ups k).map V.int)))/\∀k,Uf k=none->ups k=[]
 len:∀k,(ups k).length<=n
 rg:∀k,∀u∈ups k,cnt c u=true
def spFinish:Sp:=λvs H Q _=>∃(start:Int) (U E F:Ab) (c n:Nat) (ups:Int->List Int) (ke kf:List (Key×V)) (Ef:Int->Bool) (Ff:Fn),vs=[.int start,.ref U,.ref E,.ref F]/\c<=1000/\n<=1000/\cnt c start=true/\E≠F/\U≠E/\U≠F /\
 Oy H U ups c n/\FS c n H E F ups H [] ke kf Ef Ff /\
 ∀H' ke' kf' Ef' Ff',FS c n H E F ups H' [] ke' kf' Ef' Ff'->(∀k,Ef k=true->Ef' k=true)->Ef' start=true->Q .non H'
theorem Xd:Zd Pn Db (defScope Ua):=fs7
theorem FS.lenE{E:Ab}(h:FS c n H0 E F ups H T ke kf Ef Ff):ke.length<=c:=h.rE.len (Uw h.e1)
theorem FS.lenF{E:Ab}(h:FS c n H0 E F ups H T ke kf Ef Ff):kf.length<=c:=h.rF.len (Ut h.f1)
theorem big6(h:n<=1100000):n<zF:=wF h (by decide)
theorem Rr(D:Jo K mg f fd)(G:G1 K mg):FnOk P w K mg base CX0 1 f fd Db spFinish:=by
 refine D.fn.okA Xd λ_ _ outer _ H vs Q _ hr h=>?_;obtain⟨start,U,E,F,c,n,ups,ke,kf,Ef,Ff,rfl,hc,hn,a6,a3,a4,ax,hU,h0,k⟩:=h;have hu:=Jz hr;refine⟨_,Z4 (psl 4 Xd.nd (Zn (Z0 (pv 0) Z3)))
  (Z7 (JP PassesOwn.never (Zl Tb (pbL G (Z0 (pv 4) Z3)) Z6 (nomark _))
   (Z4 (psl 5 Xd.nd (Zc Zf (pv 4) (Mw X5 Z6)))
   (Z7 (Zw (Jk (Qc hu (pv 5) (pv 2)))
    (Z4 (ZP (ND yH qB jY Pj (pv 4)))
     (Z7 (ZP (Xk (pv 3) (pv 5) (ZC RQ (by rfl) G.len PySem.boot_len (Z0 (pv 3) Z3)) ⟨rfl,rfl,rfl,rfl⟩))))
    (Z4 (UC hu (pv 2) (pv 5) ZI rfl)
     (Z7 (ZP (U4 yH PySem.F.slot_list_extend PySem.F.type_list_extend Ry (pv 4) (Z0
      (ZT (XN:=Pn) (outer:=defScope Ua) (N:=["upper","entered"]) (cap:=[none,some 2])
       (by exact csc (.own (.cap rfl rfl rfl .nil))) rfl (Zr (Us hu (pv 1) (pv 5) (Zn Z3) ⟨rfl,rfl,rfl,rfl⟩))
       (λ_ _ _ _ _ _=>pgl 0 (show(["upper","entered"]:List Str).Nodup by decide +kernel)) (λ_ _ _ _ _ _=>JR (Jk (J2 hu (pv 0) (pv 1))))
       (λ_ _ _ _ _ _=>pv 0)) Z3)))))))))),?_⟩
 refine⟨_,rfl,szL 1,λt ht=>?_⟩;have tE:t≠E:=(Z1 h0.hE ht).symm;have tF:t≠F:=(Z1 h0.hF ht).symm;refine⟨λm σ H2=>∃(T:List Int) (O Z:List (Key×V)) (W:Int->Bool) (ag:Fn) (v5:Option V),σ=[some (.int start),some (.ref U),some (.ref E),some (.ref F),some (.ref t),v5]/\H2 t=some (.lst (T.map V.int))/\FS c n H E F ups H2 T O Z W ag /\
   (∀k,Ef k=true->W k=true)/\(W start=true∨start∈T)/\T.length<=1+O.length*n/\m=(c-O.length)*(n+1)+T.length,⟨_,[start],ke,kf,Ef,Ff,none,rfl,Z2,?_,λ_ z=>z,.inr (by simp),by simp,rfl⟩,?_⟩
 .refine⟨by rw[Z5 tE.symm];exact h0.hE,h0.rE,by rw[Z5 tF.symm];exact h0.hF,h0.rF,λb o h1 h2 e=>by rw[Z5 (Z1 e ht)];exact e,h0.e1,h0.f1,λk hk=>?_,λk e=>?_,λk e u aa=>?_⟩
  .have:k=start:=by simpa using hk
   subst this;exact a6
  .rcases h0.a k e with z | z
   .exact .inl z
   .simp at z
  .rcases h0.b k e u aa with z | z
   .exact .inl z
   .simp at z
 rintro m σ H2 ⟨T,O,Z,W,ag,v5,rfl,hT,S,ae,ak,ap,rfl⟩;refine⟨_,rfl,t,_,rfl,.inl (Z8 hT),_,_,rfl,rfl,_,rfl,?_⟩;rw[zK];refine ite2 (λad=>?_) (λad=>?_)
 .have ad:0<T.length:=by simpa using ad
  obtain⟨T0,p,rfl⟩:∃T0 p,T=T0++[p]:=⟨T.dropLast,T.getLast (wZ.mp ad),(jO _).symm⟩;have lE:=S.lenE;have lF:=S.lenF;have cp:cnt c p=true:=S.t1 p (by simp)
  refine⟨_,λσ' H' z=>z,?_⟩;refine⟨_,rfl,_,rfl,t,_,_,_,rfl,rfl,Z8 hT,by rw[zZ];exact Kb _ _,?_⟩
  refine⟨_,rfl,_,rfl,E,_,rfl,DGet.k (k:=Sum.inl p) S.hE,_,rfl,?_⟩;rw[S.rE.at_];cases he:W p with
  | true =>
   rw[show bS W p=some (.bl true) from by unfold bS;rw[he];rfl]
   refine iteT ⟨_,rfl,.inl ⟨rfl,_,Z8 hT⟩,t,_,.int p,rfl,rfl,hT,by simp,?_⟩
   have ah:(upd H2 t (.lst ((T0++[p]).map V.int).dropLast)) F=some (.dK Z):=by rw[Z5 tF.symm];exact S.hF
   have av:(upd H2 t (.lst ((T0++[p]).map V.int).dropLast)) E=some (.dK O):=by rw[Z5 tE.symm];exact S.hE
   have bd:((T0++[p]).map V.int).dropLast=T0.map V.int:=by rw[zZ];simp
   rw[bd] at ah av ⊢;refine⟨_,rfl,F,rfl,.inl ⟨_,.inl ah⟩,_,rfl,_,rfl,F,_,rfl,ah,Z,Sum.inl p,ah,rfl,Zb (by lia),λv hv=>?_,λhv=>?_⟩
   .refine⟨_,yG ?_ (zO _),T0,O,Z,W,ag,_,rfl,Z2,⟨av,S.rE,ah,S.rF,λb o h1 h2 e=>?_,S.e1,S.f1,λk hk=>S.t1 k (by simp[hk]),λk e=>?_,λk e u aa=>?_⟩,ae,?_,?_,rfl⟩
    .rw[zR];show _+T0.length<_+(T0.length+1);lia
    .rw[Z5 (Z1 e ht)];exact S.keep b o h1 h2 e
    .rcases S.a k e with z | z
     .exact .inl z
     .rcases yC.mp z with z | z
      .exact .inr z
      .have:k=p:=by simpa using z
       subst this;left;rw[S.rF.at_] at hv;intro q;rw[YU.mpr q] at hv;cases hv
    .rcases S.b k e u aa with z | z
     .exact .inl z
     .rcases yC.mp z with z | z
      .exact .inr z
      .have:u=p:=by simpa using z
       subst this;exact .inl he
    .rcases ak with z | z
     .exact .inl z
     .rcases yC.mp z with z | z
      .exact .inr z
      .have:start=p:=by simpa using z
       subst this;exact .inl he
    .rw[zR] at ap
     have:[p].length=1:=rfl
     lia
   .have aj:=S.rF.iput p (Z.length:Int);refine⟨_,yG ?_ (zO _),T0,O,_,W,put ag p Z.length,_,rfl,by rw[Z5 tF];exact Z2,⟨by rw[Z5 a3];exact av,S.rE,Z2,aj,λb o h1 h2 e=>?_,S.e1,λk v e=>?_,λk hk=>S.t1 k (by simp[hk]),λk e=>?_,λk e u aa=>?_⟩,ae,?_,?_,rfl⟩
    .rw[zR];show _+T0.length<_+(T0.length+1);lia
    .rw[Z5 h2,Z5 (Z1 e ht)];exact S.keep b o h1 h2 e
    .by_cases z:k=p
     .subst z;exact cp
     .rw[ZQ z] at e;exact S.f1 k v e
    .by_cases z:k=p
     .subst z;left;rw[ZA];simp
     .rcases S.a k e with y | y
      .left;rw[ZQ z];exact y
      .rcases yC.mp y with y | y
       .exact .inr y
       .exact xX (by simpa using y) z
    .rcases S.b k e u aa with z | z
     .exact .inl z
     .rcases yC.mp z with z | z
      .exact .inr z
      .have:u=p:=by simpa using z
       subst this;exact .inl he
    .rcases ak with z | z
     .exact .inl z
     .rcases yC.mp z with z | z
      .exact .inr z
      .have:start=p:=by simpa using z
       subst this;exact .inl he
    .rw[zR] at ap
     have:[p].length=1:=rfl
     lia
  | false =>
   rw[show bS W p=none from Vh.mpr he]
   have aj:=S.rE.bput p;have ac:(putK O (Sum.inl p) (V.bl true)).length=O.length+1:=S.rE.put_new _ (Vh.mpr he);have al:∀k,putB W p k=true->cnt c k=true:=λk e=>by
    by_cases z:k=p
    .subst z;exact cp
    .unfold putB at e;rw[xZ z] at e;exact S.e1 k e
   have bi:O.length+1<=c:=by rw[<-ac];exact aj.len (Uw al)
   refine iteF ⟨_,rfl,_,rfl,E,_,rfl,DPut.k (k:=Sum.inl p) S.hE (Zb (by lia)),?_⟩
   obtain⟨⟨ku,Uf,bc,rU,ba,a9⟩,ai,az⟩:=hU;have kp:∀b o,b≠E->b≠F->H b=some o->(upd H2 E (.dK (putK O (Sum.inl p) (V.bl true)))) b=some o:=λb o h1 h2 e=>by rw[Z5 h1];exact S.keep b o h1 h2 e
   have am:(upd H2 E (.dK (putK O (Sum.inl p) (V.bl true)))) t=some (.lst ((T0++[p]).map V.int)):=by rw[Z5 tE];exact hT
   have a5:(upd H2 E (.dK (putK O (Sum.inl p) (V.bl true)))) F=some (.dK Z):=by rw[Z5 a3.symm];exact S.hF
   have ar:(upd H2 E (.dK (putK O (Sum.inl p) (V.bl true)))) E=some (.dK (putK O (Sum.inl p) (V.bl true))):=Z2;have aq:Rd (upd H2 E (.dK (putK O (Sum.inl p) (V.bl true)))) U (.dK ku):=by
    rcases bc with z | ⟨o,z⟩
    .exact .inl (kp _ _ a4 ax z)
    .exact .inr ⟨o,kp _ _ a4 ax z⟩
   generalize bh:upd H2 E (.dK (putK O (Sum.inl p) (V.bl true)))=HE at kp am a5 ar aq ⊢;refine⟨_,rfl,.inl ⟨rfl,_,Z8 am⟩,?_⟩;refine⟨_,rfl,U,rfl,.inl ⟨ku,aq⟩,_,rfl,szL 0,λnl a8=>?_⟩;have af:Same HE (upd HE nl (.lst [])):=λb o e=>by rw[Z5 (Z1 e a8)];exact e
   have aw:Rd (upd HE nl (.lst [])) U (.dK ku):=by
    rcases aq with z | ⟨o,z⟩
    .exact .inl (af _ _ z)
    .exact .inr ⟨o,af _ _ z⟩
   refine⟨valV ku (Sum.inl p),.inl ⟨ku,Sum.inl p,aw,rfl,rfl⟩,?_⟩;obtain⟨l,hl,ay⟩:∃l,(valV ku (Sum.inl p)).getD (.ref nl) = .ref l/\(upd HE nl (.lst [])) l=some (.lst ((ups p).map V.int)):=by
    rw[rU.at_];cases q:Uf p with
    | none=>exact⟨nl,rfl,by rw[a9 p q];exact Z2⟩
    | some a =>
     have ha:=ba p a q;exact⟨a,rfl,af _ _ (kp a _ (YL ha h0.hE (by intro z;cases z)) (YL ha h0.hF (by intro z;cases z)) ha)⟩
   refine⟨l,hl,⟨_,Z8 ay⟩,λD hD=>?_⟩;refine Y0 (outs:=λi=>(((ups p)[i]?).bind λu=>if putB W p u=true then none else some (V.int u))) (λσ=>∃v,σ=[v,some (.ref E)]) hD (Z8 ay) (by rw[zK];exact Zb (yU (ai p) hn)) ⟨none,rfl⟩ (λi x σc Hc bj No hx sm _ ⟨v,hv⟩ a7 no=>?_) (λHc sm au=>?_)
   .rw[zM] at hx;cases en:(ups p)[i]? with
    | none=>rw[en] at hx;cases hx
    | some u =>
     rw[en] at hx;cases hx;subst hv;refine⟨_,rfl,_,rfl,E,_,rfl,DGet.k (k:=Sum.inl u) (sm _ _ (af _ _ ar)),_,rfl,?_⟩;rw[aj.at_];cases eu:putB W p u with
     | true =>
      rw[show bS (putB W p) u=some (.bl true) from by unfold bS;rw[eu];rfl]
      exact iteF (no _ _ ⟨_,rfl⟩ (Za _) (by rw[en];simp[eu]))
     | false =>
      rw[Vh.mpr eu];exact iteT ⟨_,rfl,a7 _ _ _ ⟨_,rfl⟩ (Za _) (by rw[en];simp[eu])⟩
   .rw[zK] at au;have ef:((zV (ups p).length).filterMap λi=>(((ups p)[i]?).bind λu=>if putB W p u=true then none else some (V.int u)))=((ups p).filter λu=>!putB W p u).map V.int:=by
     have:∀(l:List Int) (g:Int->Option V),((zV l.length).filterMap λi=>(l[i]?).bind g)=l.filterMap g:=by
      intro l g
      induction l with
      | nil=>rfl
      | cons x r ih =>
       rw[xF,List.range_succ_eq_map,yY,List.filterMap_map];have e2:((λi=>((x::r)[i]?).bind g) ∘ Nat.succ)=λi=>(r[i]?).bind g:=by funext i;simp
       rw[e2,ih];simp only[List.getElem?_cons_zero,Option.bind_some,yY]
     rw[this]
     induction ups p with
     | nil=>rfl
     | cons x r ih =>
      rw[yY,List.filter_cons];cases putB W p x <;> simp[ih]
    rw[ef] at au;have bk:((ups p).filter λu=>!putB W p u).length<=n:=yU (uO _ _) (ai p);have bb:Hc t=some (.lst ((T0++[p]).map V.int)):=sm _ _ (af _ _ am);have bf:(O.length+1)*n=O.length*n+n:=by rw[jL,jK]
    have be:O.length*n<=1000*1000:=Nat.mul_le_mul (by lia) hn
    have bg:(T0++[p]).length<=1+O.length*n:=ap;refine⟨t,D,_,_,rfl,rfl,bb,au,yW (big6 (by rw[zK,zK];lia)),?_⟩
    have ao:∀b o,b≠t->HE b=some o->(upd Hc t (.lst ((T0++[p]).map V.int++((ups p).filter λu=>!putB W p u).map V.int))) b=some o:=λb o hb e=>by rw[Z5 hb];exact sm _ _ (af _ _ e)
    refine⟨(c-(putK O (Sum.inl p) (V.bl true)).length)*(n+1)+((T0++[p])++(ups p).filter λu=>!putB W p u).length,?_,(T0++[p])++(ups p).filter (λu=>!putB W p u),_,Z,putB W p,ag,_,rfl,by rw[Z2,<-zZ],
     ⟨ao _ _ tE.symm ar,aj,ao _ _ tF.symm a5,S.rF,λb o h1 h2 e=>ao _ _ (Z1 e ht) (kp b o h1 h2 e),al,S.f1,λk hk=>?_,λk e=>?_,λk e u aa=>?_⟩,λk e=>?_,?_,?_,rfl⟩
    .rw[ac,zR (as:=T0++[p])];have e1:c-O.length=(c-(O.length+1))+1:=by lia
     rw[e1,jL (c-(O.length+1)) 1 (n+1),jK];lia
    .rcases yC.mp hk with z | z
     .exact S.t1 k z
     .exact az p k (wJ.mp z).1
    .by_cases z:k=p
     .subst z;right;simp
     .unfold putB at e;rw[xZ z] at e;rcases S.a k e with y | y
      .exact .inl y
      .right;exact xG _ y
    .by_cases z:k=p
     .subst z;cases q:putB W k u with
      | true=>exact .inl rfl
      | false=>right;exact zY _ (wJ.mpr ⟨aa,by simp[q]⟩)
     .unfold putB at e;rw[xZ z] at e;rcases S.b k e u aa with y | y
      .left;unfold putB;split <;> first | rfl | exact y
      .right;exact xG _ y
    .unfold putB;split
     .rfl
     .exact ae k e
    .rcases ak with z | z
     .left;unfold putB;split <;> first | rfl | exact z
     .right;exact xG _ z
    .rw[ac,zR (as:=T0++[p])];lia
 .have ad:T=[]:=by
   cases T with
   | nil=>rfl
   | cons x r=>simp at ad
  subst ad;refine k H2 O Z W ag S ae ?_;rcases ak with z | z
  .exact z
  .simp at z
def lowIn(ss:List Say)(k:Int):List Int:=(ss.filter λs=>decide (s.1=k)).map λs=>s.2.1
theorem Vu(ss:List Say)(s:Say)(k:Int):lowIn (ss++[s]) k=lowIn ss k++(if s.1=k then [s.2.1] else []):=by
 unfold lowIn;rw[List.filter_append,zZ];congr 1;by_cases e:s.1=k
 .simp[e]
 .simp[e]
theorem Ql(ss:List Say)(k:Int):(lowIn ss k).length<=ss.length:=by
 unfold lowIn;rw[zK];exact uO _ _
theorem WB(h:s∈ss):s.2.1∈lowIn ss s.1:=by
 unfold lowIn;exact yK.mpr ⟨s,wJ.mpr ⟨h,by simp⟩,rfl⟩
theorem Px{c:Int}(G:ss.all (inside c)=true)(k:Int):∀u∈lowIn ss k,cnt c u=true:=by
 intro u O;obtain⟨s,hs,rfl⟩:=yK.mp O
 have:=yA.mp G s (wJ.mp hs).1
 unfold inside at this;rw[yI] at this;exact this.2
def spFinOrd:Sp:=λvs H Q _=>∃(a:Ab) (ss:List Say) (c:Nat),vs=[.ref a]/\SaysAt H a ss/\ss.length<=1000/\c<=1000/\ss.all (inside c)=true /\
 ∀H' d kf Ff,Same H H'->H d=none->H' d=some (.dK kf)->DR kf (iS Ff)->(∀s∈ss,Ff s.1≠none/\Ff s.2.1≠none)->Q (.ref d) H'
theorem Uo:Zd ["sayings","uppers","saying","entered","finished","start"] UG (defScope U3):=fs7
theorem Rs(D:Jg K mg f fd)(DF:Jo K mg g gd)(G:G1 K mg):FnOk P w K mg base CX0 2 f fd UG spFinOrd:=by
 have GF:FnOk P w K mg base CX0 1 g gd _ spFinish:=Rr DF G;refine D.fn.okA Uo λ_ _ _ s H vs Q _ hr h=>?_;obtain⟨a,ss,c,rfl,ha,hz,hc,az,k⟩:=h;have hu:=Jz hr;obtain⟨ps,ha,hS⟩:=ha.ex;refine⟨_,Z4 (psl 1 Uo.nd Jr)
  (Z4 (Y4 PassesOwn.never rfl (Zr (pv 0)) (pgl 2 Uo.nd)
   (Z7 (ZP (U4 yH yR yQ ZZ (Xk (pv 1) (Zc ZF (pv 2) Z6) (Zn Z3) ⟨rfl,rfl,rfl,rfl⟩) (Z0 (Zc ZF (pv 2) Z6) Z3)))))
  (Z4 (psl 3 Uo.nd Jr)
  (Z4 (psl 4 Uo.nd Jr)
  (Z4 (T8 (Y4 PassesOwn.never rfl (Gg (pv 1)) (pgl 5 Uo.nd)
   (Z7 (ZP (pcD DF GF hr (Z0 (pv 5) (Z0 (pv 1) (Z0 (pv 3) (Z0 (pv 4) Z3)))))))))
  (Z7 (Ze (pv 4))))))),?_⟩
 intro U hU;have s0:Same H (upd H U (.dK [])):=λb o e=>by rw[Z5 (Z1 e hU)];exact e
 refine⟨_,rfl,a,rfl,⟨_,Z8 (s0 _ _ ha)⟩,ZX (K:=K) (a:=a) (xs:=ps.map V.ref) (λi σ H2=>∃(W:List (Key×V)) (O:Int->Option Ab) (v2:Option V),σ=[some (.ref a),some (.ref U),v2,none,none,none]/\Same H H2/\H2 U=some (.dK W)/\DR W (λk=>(O k).map V.ref) /\
   (∀k b,O k=some b->H b=none/\b≠U/\H2 b=some (.lst ((lowIn (ss.take i) k).map V.int))/\cnt c k=true)/\(∀k,O k=none->lowIn (ss.take i) k=[])/\(∀k j b,O k=some b->O j=some b->k=j)/\(∀s∈ss.take i,O s.1≠none))
  ⟨[],λ_=>none,none,rfl,s0,Z2,DR.nil,(λk b z=>nomatch z),λk _=>by simp[lowIn],(λk j b z=>nomatch z),λs hs=>by simp at hs⟩ (λi σ H2 _ ⟨_,_,_,_,s2,_⟩=>Z8 (s2 _ _ ha)) ?_ ?_⟩
 .rintro i y σ H2 hi ⟨W,O,v2,rfl,s2,ac,rU,hl,hn,as,ao⟩;rw[zM] at hi;cases ep:ps[i]? with
  | none=>rw[ep] at hi;cases hi
  | some p =>
   rw[ep] at hi;cases hi;have ax:i<ss.length:=by rw[<-hS.len];exact(zT.mp ep).1
   have es:ss[i]?=some ss[i]:=zN ax;have ae:inside c ss[i]=true:=yA.mp az _ (xC ax);have hp:=s2 _ _ (hS.at_ i p _ ep es);have a7:ss.take (i+1)=ss.take i++[ss[i]]:=by rw[xM,es];rfl
   rw[a7];generalize ss[i]=sx at es ae hp a7;obtain⟨lo,up,nu⟩:=sx;have hp:H2 p=some (.tup [.int lo,.int up,.int nu]):=hp;have bo:cnt c lo=true:=by unfold inside at ae;rw[yI] at ae;exact ae.1
   have lU:W.length<=c:=rU.len λk v e=>by
    cases q:O k with
    | none=>rw[q] at e;cases e
    | some b=>exact(hl k b q).2.2.2
   refine⟨_,rfl,U,rfl,.inl ⟨W,.inl ac⟩,_,rfl,_,_,_,_,rfl,rfl,Zo hp,rfl,szL 0,λnl ad=>?_⟩;have af:Same H2 (upd H2 nl (.lst [])):=λb o e=>by rw[Z5 (Z1 e ad)];exact e
   have a8:nl≠U:=(Z1 ac ad).symm;have ay:∀(b:Ab) (ap:List (Key×V)) (aa:Int->Option Ab) (H3:Hp),(∀x o,x≠U->x≠nl->H2 x=some o->H3 x=some o)->H3 U=some (.dK ap)->DR ap (λk=>(aa k).map V.ref)->aa lo=some b->(∀k d,aa k=some d->H d=none/\d≠U/\H3 d=some (.lst ((lowIn (ss.take i) k).map V.int))/\cnt c k=true) ->
     (∀k,aa k=none->lowIn (ss.take i) k=[]/\k≠lo)->(∀k j d,aa k=some d->aa j=some d->k=j)->(∀k,O k≠none->aa k≠none) ->
     tyV K "list" (.ref b) H3/\tVar 2 [some (V.ref a),some (.ref U),some (.ref p),none,none,none] H3 λv H3=>rIxT K v (.int 1) H3 λw H3=>∃l xs y,V.ref b = .ref l/\[w]=[y]/\H3 l=some (.lst xs)/\xs.length<zF /\
      ∃(W:List (Key×V)) (O:Int->Option Ab) (v2:Option V),[some (V.ref a),some (.ref U),some (.ref p),none,none,none]=[some (.ref a),some (.ref U),v2,none,none,none]/\Same H (upd H3 l (.lst (xs++[y])))/\(upd H3 l (.lst (xs++[y]))) U=some (.dK W)/\DR W (λk=>(O k).map V.ref) /\
      (∀k b,O k=some b->H b=none/\b≠U/\(upd H3 l (.lst (xs++[y]))) b=some (.lst ((lowIn (ss.take i++[(lo,up,nu)]) k).map V.int))/\cnt c k=true)/\(∀k,O k=none->lowIn (ss.take i++[(lo,up,nu)]) k=[])/\(∀k j b,O k=some b->O j=some b->k=j)/\(∀s∈ss.take i++[(lo,up,nu)],O s.1≠none):=by
    intro b ap aa H3 kp a9 am hb a4 bj ar ak;obtain⟨b1,b2,b3,b4⟩:=a4 lo b hb;have bf:p≠U:=YL hp ac (by intro z;cases z)
    have bg:p≠nl:=Z1 hp ad;have bq:=kp p _ bf bg hp;refine⟨.inl ⟨rfl,_,Z8 b3⟩,_,rfl,p,_,_,_,rfl,rfl,Zo bq,rfl,b,_,_,rfl,rfl,b3,by rw[zK];exact Zb (yU (Ql _ _) (by rw[yL];lia)),ap,aa,_,rfl,λx o e=>?_,?_,am,λk d hd=>?_,λk Z=>?_,ar,λs hs=>?_⟩
    .have nx:x≠b:=Z1 e b1;rw[Z5 nx];exact kp x o (Z1 e hU) (λz=>by subst z;rw[s2 _ _ e] at ad;cases ad) (s2 _ _ e)
    .rw[Z5 b2.symm];exact a9
    .obtain⟨d1,d2,d3,d4⟩:=a4 k d hd;refine⟨d1,d2,?_,d4⟩;rw[Vu];by_cases q:k=lo
     .subst q;rw[hb] at hd;cases hd;rw[Z2,xY rfl,zZ];rfl
     .have nd:d≠b:=λz=>by subst z;exact q (ar k lo d hd hb)
      rw[Z5 nd,xZ (λz=>q z.symm),wC];exact d3
    .obtain⟨e1,e2⟩:=bj k Z;rw[Vu,e1,xZ (λz=>e2 z.symm)];rfl
    .rcases yC.mp hs with z | z
     .exact ak _ (ao s z)
     .have:s=(lo,up,nu):=by simpa using z
      subst this;show aa lo≠none;rw[hb];simp
   refine⟨W,Sum.inl lo,af _ _ ac,rfl,Zb (by lia),λv hv=>?_,λhv=>?_⟩
   .rw[rU.at_] at hv;cases q:O lo with
    | none=>rw[q] at hv;cases hv
    | some b =>
     rw[q] at hv;have hv:V.ref b=v:=Option.some.inj hv;subst hv;refine ay b W O _ (λx o _ _ e=>af _ _ e) (af _ _ ac) rU q (λk d hd=>?_) (λk Z=>⟨hn k Z,λz=>by subst z;rw[q] at Z;cases Z⟩) as (λ_ z=>z)
     obtain⟨d1,d2,d3,d4⟩:=hl k d hd;exact⟨d1,d2,af _ _ d3,d4⟩
   .rw[rU.at_] at hv;have q:O lo=none:=by
     cases q:O lo with
     | none=>rfl
     | some b=>rw[q] at hv;cases hv
    have am:=rU.put lo (.ref nl);have e1:putV (λk=>(O k).map V.ref) lo (.ref nl)=λk=>((if k=lo then some nl else O k).map V.ref):=by
     funext k;unfold putV;split <;> rfl
    rw[e1] at am;have bi:H nl=none:=s2.free ad;refine ay nl _ (λk=>if k=lo then some nl else O k) _ (λx o bc br e=>by rw[Z5 bc];exact af _ _ e) Z2 am (xY rfl) (λk d hd=>?_) (λk Z=>?_) (λk j d Z hj=>?_) (λk Z=>?_)
    .by_cases z:k=lo
     .rw[xY z] at hd;cases hd;subst z;refine⟨bi,a8,?_,bo⟩;rw[Z5 a8,Z2,hn k q];rfl
     .rw[xZ z] at hd;obtain⟨d1,d2,d3,d4⟩:=hl k d hd;refine⟨d1,d2,?_,d4⟩;rw[Z5 d2];exact af _ _ d3
    .by_cases z:k=lo
     .rw[xY z] at Z;cases Z
     .rw[xZ z] at Z;exact⟨hn k Z,z⟩
    .have fr:∀k,O k=some nl->False:=λk e=>by
      have:=(hl k nl e).2.2.1
      rw[ad] at this;cases this
     by_cases z:k=lo
     .rw[xY z] at Z;cases Z;by_cases z2:j=lo
      .rw[z,z2]
      .rw[xZ z2] at hj;exact(fr j hj).elim
     .rw[xZ z] at Z;by_cases z2:j=lo
      .rw[xY z2] at hj;cases hj;exact(fr k Z).elim
      .rw[xZ z2] at hj;exact as k j d Z hj
    .split
     .simp
     .exact Z
 .rintro σ H2 ⟨W,O,v2,rfl,s2,ac,rU,hl,hn,as,ao⟩;rw[zK,hS.len,wE] at hl hn ao;intro E hE F hF;have ah:U≠E:=Z1 ac hE;have ag:U≠F:=λz=>by subst z;rw[Z5 ah,ac] at hF;cases hF
  have av:E≠F:=λz=>by subst z;rw[Z2] at hF;cases hF
  have al:H2 F=none:=by rw[Z5 av.symm] at hF;exact hF
  have a3:Same H2 (upd (upd H2 E (.dK [])) F (.dK [])):=λb o e=>by rw[Z5 (Z1 e al),Z5 (Z1 e hE)];exact e
  refine⟨_,rfl,U,W,rfl,a3 _ _ ac,λo=>?_⟩;have aw:∀{b:Ab} {x:HO},H2 b=some x->b≠U->(upd (upd (upd H2 E (.dK [])) F (.dK [])) U (.frz o (.dK W))) b=some x:=λ{b x} e hb=>by rw[Z5 hb];exact a3 _ _ e
  have eE:(upd (upd (upd H2 E (.dK [])) F (.dK [])) U (.frz o (.dK W))) E=some (.dK []):=by rw[Z5 ah.symm,Z5 av,Z2]
  have eF:(upd (upd (upd H2 E (.dK [])) F (.dK [])) U (.frz o (.dK W))) F=some (.dK []):=by rw[Z5 ag.symm,Z2]
  have eU:(upd (upd (upd H2 E (.dK [])) F (.dK [])) U (.frz o (.dK W))) U=some (.frz o (.dK W)):=Z2;generalize (upd (upd (upd H2 E (.dK [])) F (.dK [])) U (.frz o (.dK W)))=H3 at aw eE eF eU;have aj:∀k b,O k=some b->H3 b=some (.lst ((lowIn ss k).map V.int)):=λk b e=>aw (hl k b e).2.2.1 (hl k b e).2.1;have au:∀{H4:Hp},(∀b x,b≠E->b≠F->H3 b=some x->H4 b=some x)->Oy H4 U (lowIn ss) c ss.length:=λ{H4} kp =>
   ⟨⟨W,O,.inr ⟨o,kp _ _ ah ag eU⟩,rU,λk b e=>kp _ _ (YL (aj k b e) eE (by intro z;cases z)) (YL (aj k b e) eF (by intro z;cases z)) (aj k b e),hn⟩,Ql ss,Px az⟩
  refine N1 (d:=U) (o:=o) (kvs:=W) (λi σ H4=>∃(ke kf:List (Key×V)) (Ef:Int->Bool) (Ff:Fn) (v5:Option V),σ=[some (.ref a),some (.ref U),v2,some (.ref E),some (.ref F),v5]/\FS c ss.length H3 E F (lowIn ss) H4 [] ke kf Ef Ff/\∀j,j<i->∀p,W[j]?=some p->Ef (keyI p.1)=true)
   ⟨[],[],λ_=>false,λ_=>none,none,rfl,⟨eE,DR.nil,eF,DR.nil,(λb o _ _ e=>e),(λk e=>nomatch e),(λk v e=>nomatch e),(λk Z=>by simp at Z),(λk e=>nomatch e),(λk e=>nomatch e)⟩,λj hj=>by lia⟩
   (λi σ H4 qy=>by obtain⟨_,_,_,_,_,_,S,_⟩:=qy;exact S.keep _ _ ah ag eU) ?_ ?_
  .rintro i p σ H4 hi ⟨ke,kf,Ef,Ff,v5,rfl,S,ai⟩;have bp:p∈W:=yM hi;obtain⟨pe,pn⟩:=rU.mem bp;have bh:cnt c (keyI p.1)=true:=by
    cases q:O (keyI p.1) with
    | none=>rw[q] at pn;exact xX rfl pn
    | some b=>exact(hl _ b q).2.2.2
   have be:kV p.1 = .int (keyI p.1):=by rw[pe];rfl
   rw[be];refine⟨_,rfl,_,rfl,_,rfl,_,rfl,keyI p.1,U,E,F,c,ss.length,lowIn ss,ke,kf,Ef,Ff,rfl,hc,hz,bh,av,ah,ag,au S.keep,⟨S.hE,S.rE,S.hF,S.rF,(λb o _ _ e=>e),S.e1,S.f1,S.t1,S.a,S.b⟩,λH5 ba bk bn bl S' ak bb=>?_⟩;refine⟨ba,bk,bn,bl,_,rfl,⟨S'.hE,S'.rE,S'.hF,S'.rF,λb x h1 h2 e=>S'.keep b x h1 h2 (S.keep b x h1 h2 e),S'.e1,S'.f1,S'.t1,S'.a,S'.b⟩,λj hj q hq=>?_⟩;by_cases z:j=i
   .subst z;rw[hi] at hq;cases hq;exact bb
   .exact ak _ (ai j (by lia) q hq)
  .rintro σ H4 ⟨ke,kf,Ef,Ff,v5,rfl,S,ai⟩;have bd:=S.keep _ _ ah ag eU;refine⟨U,o,W,bd,(λo' u z=>by
    have z:H U=some (.frz o' u):=z;rw[hU] at z;cases z),?_⟩
   have a5:∀k,O k≠none->Ef k=true:=λk Z=>by
    have hm:k∈keysI W:=rU.keysMem.mpr (by cases q:O k with
     | none=>exact xX q Z
     | some b=>simp)
    obtain⟨q,hq,e⟩:=yK.mp hm;obtain⟨j,hj,ej⟩:=xO.mp hq;rw[<-e];exact ai j hj q (by rw[<-ej];simp)
   have aq:∀k,Ef k=true->Ff k≠none:=λk e=>by
    rcases S.a k e with z | z
    .exact z
    .simp at z
   refine⟨_,rfl,k _ F kf Ff (λb x e=>?_) (s2.free al) ?_ S.rF λsx a6=>?_⟩
   .have hb:b≠U:=Z1 e hU;rw[Z5 hb];exact S.keep b x (λz=>by subst z;rw[s2 _ _ e] at hE;cases hE) (λz=>by subst z;rw[s2 _ _ e] at al;cases al) (aw (s2 _ _ e) hb)
   .rw[Z5 ag.symm];exact S.hF
   .have e1:=a5 sx.1 (ao sx a6);refine⟨aq _ e1,aq _ ?_⟩;rcases S.b sx.1 e1 sx.2.1 (WB a6) with z | z
    .exact z
    .simp at z
inductive Rch(ss:List Say)(ord:List Int)(bu:Int):Int->Prop
 | refl:Rch ss ord bu bu
 | step {k:Int} (h:k∈ord) (r:Rch ss ord bu (sy ss k).2.1):Rch ss ord bu (sy ss k).1
def flip1(ss:List Say)(k:Int):Say:=((sy ss k).2.1,(sy ss k).1,0)
def spLead:Sp:=λvs H Q _=>∃(a O:Ab) (ss:List Say) (c:Nat) (ord:List Int) (bu:Int),vs=[.ref a,.ref O,.int bu]/\SaysAt H a ss/\H O=some (.lst (ord.map V.int))/\ord.length<=400/\c<=400/\ss.all (inside c)=true/\cnt c bu=true/\(∀k∈ord,cnt ss.length k=true) /\
 ∀(H':Hp) (d:Ab) (kd:List (Key×V)) (Ef:Int->Bool),Same H H'->H d=none->H' d=some (.dK kd)->DR kd (bS Ef)->Ef bu=true->(∀k∈ord,Ef (sy ss k).2.1=true->Ef (sy ss k).1=true)->(∀p,Ef p=true->cnt c p=true/\Rch ss ord bu p)->Q (.ref d) H'
theorem Vm:Zd ["sayings","order","other","lowers","at","leading","todo","place","lower"] D6 (defScope VL):=fs7
theorem MY :∀{l:Int},l∈lowIn (ord.map (flip1 ss)) p->∃k∈ord,(sy ss k).2.1=p/\(sy ss k).1=l:=λ{l} h=>by
 unfold lowIn at h;obtain⟨s,hs,rfl⟩:=yK.mp h;obtain⟨h1,h2⟩:=wJ.mp hs;obtain⟨k,G,rfl⟩:=yK.mp h1;exact⟨k,G,xU h2,rfl⟩
theorem K2(h:k∈ord):(sy ss k).1∈lowIn (ord.map (flip1 ss)) (sy ss k).2.1:=WB (s:=flip1 ss k) (yK.mpr ⟨k,h,rfl⟩)
theorem Tc(D:JI K mg f fd)(G:G1 K mg):FnOk P w K mg base CX0 1 f fd D6 spLead:=by
 refine D.fn.okA Vm λ_ _ _ _ H vs Q _ hr h=>?_;obtain⟨a,O,ss,c,ord,bu,rfl,ha,hO,hz,hc,bj,ci,a4,k⟩:=h;have hu:=Jz hr;obtain⟨ps,ha,hS⟩:=ha.ex;refine⟨_,Z4 (psl 3 Vm.nd Jr)
  (Z4 (Y4 PassesOwn.never rfl (Zr (pv 1)) (pgl 4 Vm.nd)
   (Z7 (ZP (U4 yH yR yQ ZZ (Xk (pv 3) (Zc ZF (Zc Zf (pv 0) (pv 4)) Z6) (Zn Z3) ⟨rfl,rfl,rfl,rfl⟩) (Z0 (Zc ZF (Zc Zf (pv 0) (pv 4)) Z6) Z3)))))
  (Z4 (psl 5 Vm.nd (KI (LJ (pv 2) ZI KE) rfl rfl (by simp) (by decide)))
  (Z4 (psl 6 Vm.nd (Zn (Z0 (pv 2) Z3)))
  (Z4 (JP PassesOwn.never (Zl Tb (pbL G (Z0 (pv 6) Z3)) Z6 (nomark _))
   (Z4 (psl 7 Vm.nd (ND yH qB jY Pj (pv 6)))
   (Z7 (Y4 PassesOwn.never rfl (Zr (Us hu (pv 3) (pv 7) (Zn Z3) ⟨rfl,rfl,rfl,rfl⟩)) (pgl 8 Vm.nd)
    (Z7 (Zw (Jk (J2 hu (pv 8) (pv 5)))
     (Z4 (UC hu (pv 5) (pv 8) ZI rfl)
     (Z7 (ZP (U4 yH yR yQ ZZ (pv 6) (Z0 (pv 8) Z3))))) Zh))))))
  (Z7 (Ze (pv 5))))))),?_⟩
 intro U hU;have s0:Same H (upd H U (.dK [])):=Z9 hU;have ck:∀j,cnt ss.length j=true->cnt c (sy ss j).2.1=true:=λj hj=>(Dx bj hj).2;refine⟨_,rfl,O,rfl,⟨_,Z8 (s0 _ _ hO)⟩,ZX (K:=K) (a:=O) (xs:=ord.map V.int) (λi σ H2=>∃(ku:List (Key×V)) (Uf:Int->Option Ab) (v4:Option V),σ=[some (.ref a),some (.ref O),some (.int bu),some (.ref U),v4,none,none,none,none]/\Same H H2/\H2 U=some (.dK ku)/\DR ku (λk=>(Uf k).map V.ref) /\
   (∀k b,Uf k=some b->H b=none/\b≠U/\H2 b=some (.lst ((lowIn ((ord.map (flip1 ss)).take i) k).map V.int))/\cnt c k=true)/\(∀k,Uf k=none->lowIn ((ord.map (flip1 ss)).take i) k=[])/\(∀k j b,Uf k=some b->Uf j=some b->k=j))
  ⟨[],λ_=>none,none,rfl,s0,Z2,DR.nil,(λk b z=>nomatch z),λk _=>by simp[lowIn],(λk j b z=>nomatch z)⟩ (λi σ H2 _ ⟨_,_,_,_,s2,_⟩=>Z8 (s2 _ _ hO)) ?_ ?_⟩
 .rintro i y σ H2 hi ⟨ku,Uf,v4,rfl,s2,ag,rU,hl,hn,ba⟩;rw[zM] at hi;cases en:ord[i]? with
  | none=>rw[en] at hi;cases hi
  | some z =>
   rw[en] at hi;cases hi;have b5:cnt ss.length z=true:=a4 z (yM en);obtain⟨p,ep,bi⟩:=VJ hS b5;have hp:=s2 _ _ bi;have cb:=s2 _ _ ha;have bf:(ord.map (flip1 ss)).take (i+1)=(ord.map (flip1 ss)).take i++[flip1 ss z]:=by rw[xM,zM,en];rfl
   rw[bf];have cr:=ck z b5;have lU:ku.length<=c:=rU.len λk v e=>by
    cases q:Uf k with
    | none=>rw[q] at e;cases e
    | some b=>exact(hl k b q).2.2.2
   refine⟨_,rfl,U,rfl,.inl ⟨ku,.inl ag⟩,_,rfl,_,rfl,a,_,_,_,rfl,rfl,Z8 cb,ep,p,_,_,_,rfl,rfl,Zo hp,rfl,szL 0,λnl ad=>?_⟩;have aa:Same H2 (upd H2 nl (.lst [])):=Z9 ad;have b7:nl≠U:=(Z1 ag ad).symm;have ae:((lowIn ((ord.map (flip1 ss)).take i) (sy ss z).2.1).map V.int).length<zF:=by
    rw[zK];exact Zb (yU (Ql _ _) (by rw[yL,zK];lia))
   have lf:∀k,lowIn ((ord.map (flip1 ss)).take i++[flip1 ss z]) k=lowIn ((ord.map (flip1 ss)).take i) k++(if(sy ss z).2.1=k then [(sy ss z).1] else []):=λk=>Vu _ _ k;have bt:∀(b:Ab) (az:List (Key×V)) (ai:Int->Option Ab) (H3:Hp),(∀x o,x≠U->x≠nl->H2 x=some o->H3 x=some o)->H3 U=some (.dK az)->DR az (λk=>(ai k).map V.ref)->ai (sy ss z).2.1=some b->(∀k d,ai k=some d->H d=none/\d≠U/\H3 d=some (.lst ((lowIn ((ord.map (flip1 ss)).take i) k).map V.int))/\cnt c k=true) ->
     (∀k,ai k=none->lowIn ((ord.map (flip1 ss)).take i) k=[]/\k≠(sy ss z).2.1)->(∀k j d,ai k=some d->ai j=some d->k=j) ->
     H3 a=some (.lst (ps.map V.ref))/\H3 p=some (.tup [.int (sy ss z).1,.int (sy ss z).2.1,.int (sy ss z).2.2])/\H3 b=some (.lst ((lowIn ((ord.map (flip1 ss)).take i) (sy ss z).2.1).map V.int)) /\
     ∃(ku:List (Key×V)) (Uf:Int->Option Ab) (v4:Option V),[some (.ref a),some (.ref O),some (.int bu),some (.ref U),some (V.int z),none,none,none,none]=[some (.ref a),some (.ref O),some (.int bu),some (.ref U),v4,none,none,none,none]/\Same H (upd H3 b (.lst ((lowIn ((ord.map (flip1 ss)).take i) (sy ss z).2.1).map V.int++[V.int (sy ss z).1])))/\(upd H3 b (.lst ((lowIn ((ord.map (flip1 ss)).take i) (sy ss z).2.1).map V.int++[V.int (sy ss z).1]))) U=some (.dK ku)/\DR ku (λk=>(Uf k).map V.ref) /\
      (∀k b',Uf k=some b'->H b'=none/\b'≠U/\(upd H3 b (.lst ((lowIn ((ord.map (flip1 ss)).take i) (sy ss z).2.1).map V.int++[V.int (sy ss z).1]))) b'=some (.lst ((lowIn ((ord.map (flip1 ss)).take i++[flip1 ss z]) k).map V.int))/\cnt c k=true)/\(∀k,Uf k=none->lowIn ((ord.map (flip1 ss)).take i++[flip1 ss z]) k=[])/\(∀k j b,Uf k=some b->Uf j=some b->k=j):=by
    intro b az ai H3 kp b9 ay hb ax bd a5;obtain⟨b1,b2,b3,b4⟩:=ax _ b hb;have bc:∀x o,H x=some o->H3 x=some o:=λx o e=>kp x o (Z1 e hU) (λq=>by subst q;rw[s2 _ _ e] at ad;cases ad) (s2 _ _ e)
    refine⟨bc _ _ ha,bc _ _ bi,b3,az,ai,_,rfl,λx o e=>?_,?_,ay,λk d hd=>?_,λk hk=>?_,a5⟩
    .rw[Z5 (Z1 e b1)];exact bc x o e
    .rw[Z5 b2.symm];exact b9
    .obtain⟨d1,d2,d3,d4⟩:=ax k d hd;refine⟨d1,d2,?_,d4⟩;rw[lf];by_cases q:k=(sy ss z).2.1
     .subst q;rw[hb] at hd;cases hd;rw[Z2,xY rfl,zZ];rfl
     .have nd:d≠b:=λy=>by subst y;exact q (a5 k _ d hd hb)
      rw[Z5 nd,xZ (λy=>q y.symm),wC];exact d3
    .obtain⟨e1,e2⟩:=bd k hk;rw[lf,e1,xZ (λy=>e2 y.symm)];rfl
   refine⟨ku,Sum.inl (sy ss z).2.1,aa _ _ ag,rfl,Zb (by lia),λv hv=>?_,λhv=>?_⟩
   .rw[rU.at_] at hv;cases q:Uf (sy ss z).2.1 with
    | none=>rw[q] at hv;cases hv
    | some b =>
     rw[q] at hv;have hv:V.ref b=v:=Option.some.inj hv;subst hv;obtain⟨g1,g2,g3,g4⟩:=bt b ku Uf _ (λx o _ _ e=>aa _ _ e) (aa _ _ ag) rU q (λk d hd=>by
      obtain⟨d1,d2,d3,d4⟩:=hl k d hd;exact⟨d1,d2,aa _ _ d3,d4⟩) (λk hk=>⟨hn k hk,λy=>by subst y;rw[q] at hk;cases hk⟩) ba
     exact⟨.inl ⟨rfl,_,Z8 g3⟩,_,rfl,_,rfl,a,_,_,_,rfl,rfl,Z8 g1,ep,p,_,_,_,rfl,rfl,Zo g2,rfl,b,_,_,rfl,rfl,g3,ae,g4⟩
   .rw[rU.at_] at hv;have q:Uf (sy ss z).2.1=none:=by
     cases q:Uf (sy ss z).2.1 with
     | none=>rfl
     | some b=>rw[q] at hv;cases hv
    have ay:=rU.put (sy ss z).2.1 (.ref nl);have e1:putV (λk=>(Uf k).map V.ref) (sy ss z).2.1 (.ref nl)=λk=>((if k=(sy ss z).2.1 then some nl else Uf k).map V.ref):=by
     funext k;unfold putV;split <;> rfl
    rw[e1] at ay;have co:H nl=none:=s2.free ad;have fr:∀k,Uf k=some nl->False:=λk e=>by
     have:=(hl k nl e).2.2.1
     rw[ad] at this;cases this
    obtain⟨g1,g2,g3,g4⟩:=bt nl _ (λk=>if k=(sy ss z).2.1 then some nl else Uf k) _ (λx o cv cz e=>by rw[Z5 cv];exact aa _ _ e) Z2 ay (xY rfl) (λk d hd=>by
     by_cases y:k=(sy ss z).2.1
     .rw[xY y] at hd;cases hd;subst y;refine⟨co,b7,?_,cr⟩;rw[Z5 b7,Z2,hn _ q];rfl
     .rw[xZ y] at hd;obtain⟨d1,d2,d3,d4⟩:=hl k d hd;refine⟨d1,d2,?_,d4⟩;rw[Z5 d2];exact aa _ _ d3) (λk hk=>by
     by_cases y:k=(sy ss z).2.1
     .rw[xY y] at hk;cases hk
     .rw[xZ y] at hk;exact⟨hn k hk,y⟩) (λk j d hk hj=>by
     by_cases y:k=(sy ss z).2.1
     .rw[xY y] at hk;cases hk;by_cases y2:j=(sy ss z).2.1
      .rw[y,y2]
      .rw[xZ y2] at hj;exact(fr j hj).elim
     .rw[xZ y] at hk;by_cases y2:j=(sy ss z).2.1
      .rw[xY y2] at hj;cases hj;exact(fr k hk).elim
      .rw[xZ y2] at hj;exact ba k j d hk hj)
    exact⟨.inl ⟨rfl,_,Z8 g3⟩,_,rfl,_,rfl,a,_,_,_,rfl,rfl,Z8 g1,ep,p,_,_,_,rfl,rfl,Zo g2,rfl,nl,_,_,rfl,rfl,g3,ae,g4⟩
 .rintro σ H2 ⟨ku,Uf,v4,rfl,s2,ag,rU,hl,hn,ba⟩;rw[zK,show ord.length=(ord.map (flip1 ss)).length by rw[zK],wE] at hl hn
  have cp:∀p,∀l∈lowIn (ord.map (flip1 ss)) p,cnt c l=true:=λp l ax=>by
   obtain⟨j,hj,_,e⟩:=MY ax;rw[<-e];exact(Dx bj (a4 j hj)).1
  intro E hE;have cn:U≠E:=Z1 ag hE;refine⟨_,rfl,Z2,[(Sum.inl bu,.bl true)],rfl,(by show 1<=15;decide),?_⟩
  have bh:H E=none:=s2.free hE;have s3:∀b o,H2 b=some o->(upd (upd H2 E (.dK [])) E (.dK (mergeK [] [(Sum.inl bu,.bl true)]))) b=some o:=λb o e=>by rw[Z5 (Z1 e hE),Z5 (Z1 e hE)];exact e
  have be:(upd (upd H2 E (.dK [])) E (.dK (mergeK [] [(Sum.inl bu,.bl true)]))) E=some (.dK (putK [] (Sum.inl bu) (.bl true))):=Z2;generalize (upd (upd H2 E (.dK [])) E (.dK (mergeK [] [(Sum.inl bu,.bl true)])))=H3 at s3 be;have r0:DR (putK [] (Sum.inl bu) (.bl true)) (bS (putB (λ_=>false) bu)):=DR.bput (E:=λ_=>false) DR.nil bu;refine⟨_,rfl,szL 1,λT hT=>?_⟩;have ar:T≠E:=(Z1 be hT).symm;have cf:T≠U:=(Z1 (s3 _ _ ag) hT).symm;have cc:H T=none:=s2.free (by
   cases q:H2 T with
   | none=>rfl
   | some o=>rw[s3 _ _ q] at hT;cases hT)
  have cg:∀p b,Uf p=some b->b≠E/\b≠T:=λp b e=>by
   have h4:=(hl p b e).2.2.1;exact⟨Z1 h4 hE,Z1 (s3 _ _ h4) hT⟩
  refine⟨λm σ H4=>∃(kd:List (Key×V)) (Ef:Int->Bool) (ts:List Int) (v7 v8:Option V),m=2*(c-kd.length)+ts.length/\σ=[some (.ref a),some (.ref O),some (.int bu),some (.ref U),v4,some (.ref E),some (.ref T),v7,v8]/\H4 E=some (.dK kd)/\DR kd (bS Ef)/\H4 T=some (.lst (ts.map V.int)) /\
    (∀b o,b≠E->b≠T->H3 b=some o->H4 b=some o)/\Ef bu=true/\(∀p,Ef p=true->cnt c p=true/\Rch ss ord bu p)/\(∀p∈ts,Ef p=true)/\(∀p,Ef p=true->p∉ts->∀l∈lowIn (ord.map (flip1 ss)) p,Ef l=true)/\ts.length<=kd.length,⟨_,_,_,[bu],none,none,rfl,rfl,by rw[Z5 ar.symm];exact be,r0,Z2,λb o _ h2 e=>by rw[Z5 h2];exact e,by simp[putB],λp e=>?_,λp hp=>?_,λp e bd=>?_,?_⟩,?_⟩
  .have:p=bu:=by
    unfold putB at e;split at e
    .assumption
    .cases e
   subst this;exact⟨ci,.refl⟩
  .have:p=bu:=by simpa using hp
   subst this;simp[putB]
  .have:p=bu:=by
    unfold putB at e;split at e
    .assumption
    .cases e
   subst this;simp at bd
  .exact zO _
  rintro m σ H4 ⟨kd,Ef,ts,v7,v8,rfl,rfl,br,rE,a9,bv,bq,aw,bw,bk,len4⟩;have lE:kd.length<=c:=rE.len (Uw λp e=>(aw p e).1);refine⟨_,rfl,T,_,rfl,.inl (Z8 a9),_,_,rfl,rfl,_,rfl,?_⟩;rw[zK];refine ite2 (λae=>?_) (λae=>?_)
  .have ae:0<ts.length:=by simpa using ae
   obtain⟨T0,p,rfl⟩:∃T0 p,ts=T0++[p]:=⟨ts.dropLast,ts.getLast (wZ.mp ae),(jO _).symm⟩;have ce:Ef p=true:=bw p (by simp)
   refine⟨_,λσ' H' z=>z,?_⟩;refine⟨_,rfl,.inl ⟨rfl,_,Z8 a9⟩,T,_,.int p,rfl,rfl,a9,by simp,?_⟩
   have cm:((T0++[p]).map V.int).dropLast=T0.map V.int:=by rw[zZ];simp
   rw[cm];have a7:(upd H4 T (.lst (T0.map V.int))) E=some (.dK kd):=by rw[Z5 ar.symm];exact br
   have bg:(upd H4 T (.lst (T0.map V.int))) T=some (.lst (T0.map V.int)):=Z2;have a3:∀b o,b≠E->b≠T->H3 b=some o->(upd H4 T (.lst (T0.map V.int))) b=some o:=λb o h1 h2 e=>by rw[Z5 h2];exact bv b o h1 h2 e
   generalize (upd H4 T (.lst (T0.map V.int)))=H5 at a7 bg a3;have b6:=a3 _ _ cn cf.symm (s3 _ _ ag);refine⟨_,rfl,U,rfl,.inl ⟨ku,.inl b6⟩,_,rfl,szL 0,λnl ad=>?_⟩;have aa:Same H5 (upd H5 nl (.lst [])):=Z9 ad;refine⟨valV ku (Sum.inl p),.inl ⟨ku,Sum.inl p,.inl (aa _ _ b6),rfl,rfl⟩,?_⟩;obtain⟨l,ca,bb,cu,cw⟩:∃l,(valV ku (Sum.inl p)).getD (.ref nl) = .ref l/\(upd H5 nl (.lst [])) l=some (.lst ((lowIn (ord.map (flip1 ss)) p).map V.int))/\l≠E/\l≠T:=by
    rw[rU.at_];cases q:Uf p with
    | none=>exact⟨nl,rfl,by rw[hn p q];exact Z2,(Z1 a7 ad).symm,(Z1 bg ad).symm⟩
    | some b =>
     obtain⟨h1,h2⟩:=cg p b q;exact⟨b,rfl,aa _ _ (a3 b _ h1 h2 (s3 _ _ (hl p b q).2.2.1)),h1,h2⟩
   refine⟨l,ca,⟨_,Z8 bb⟩,?_⟩;have bz:=aa _ _ a7;have bn:=aa _ _ bg;have b0:∀b o,b≠E->b≠T->H3 b=some o->(upd H5 nl (.lst [])) b=some o:=λb o h1 h2 e=>aa _ _ (a3 b o h1 h2 e);generalize (upd H5 nl (.lst []))=H6 at bz bn b0 bb;refine ZX (K:=K) (a:=l) (xs:=(lowIn (ord.map (flip1 ss)) p).map V.int) (λi σ H7=>∃(Z:List (Key×V)) (W:Int->Bool) (ac:List Int) (v8:Option V),σ=[some (.ref a),some (.ref O),some (.int bu),some (.ref U),v4,some (.ref E),some (.ref T),some (.int p),v8]/\H7 E=some (.dK Z)/\DR Z (bS W)/\H7 T=some (.lst (ac.map V.int)) /\
     (∀b o,b≠E->b≠T->H6 b=some o->H7 b=some o)/\(∀q,Ef q=true->W q=true)/\(∀q,W q=true->cnt c q=true/\Rch ss ord bu q)/\(∀q∈ac,W q=true)/\(∀q∈T0,q∈ac)/\(∀q,W q=true->Ef q=true∨q∈ac)/\(∀q∈(lowIn (ord.map (flip1 ss)) p).take i,W q=true)/\2*(c-Z.length)+ac.length<=2*(c-kd.length)+T0.length/\ac.length<=Z.length)
    ⟨kd,Ef,T0,_,rfl,bz,rE,bn,(λb o _ _ e=>e),(λ_ z=>z),aw,λq hq=>bw q (by simp[hq]),(λ_ z=>z),(λ_ z=>.inl z),λq hq=>by simp at hq,zO _,by rw[zR] at len4;have:[p].length=1:=rfl;lia⟩
    (λi σ H7 _ qy=>by obtain⟨_,_,_,_,_,_,_,_,aq,_⟩:=qy;exact Z8 (aq _ _ cu cw bb)) ?_ ?_
   .rintro i y σ H7 hi ⟨Z,W,ac,v8,rfl,as,ak,au,aq,ah,af,am,ao,ap,aj,bp,a8⟩;rw[zM] at hi;cases en:(lowIn (ord.map (flip1 ss)) p)[i]? with
    | none=>rw[en] at hi;cases hi
    | some q =>
     rw[en] at hi;cases hi;have hq:q∈lowIn (ord.map (flip1 ss)) p:=yM en;have cq:=cp p q hq;have rq:Rch ss ord bu q:=by
      obtain⟨j,hj,e1,e2⟩:=MY hq;rw[<-e2];exact .step hj (by rw[e1];exact(aw p ce).2)
     have bf:(lowIn (ord.map (flip1 ss)) p).take (i+1)=(lowIn (ord.map (flip1 ss)) p).take i++[q]:=by rw[xM,en];rfl
     rw[bf];have cy:Z.length<=c:=ak.len (Uw λp e=>(af p e).1);refine⟨_,rfl,_,rfl,E,_,rfl,.inl ⟨Z,Sum.inl q,.inl as,rfl,rfl⟩,_,rfl,?_⟩;rw[ak.at_];cases av:W q with
     | true =>
      rw[show bS W q=some (.bl true) from by unfold bS;rw[av];rfl]
      refine iteF ⟨Z,W,ac,_,rfl,as,ak,au,aq,ah,af,am,ao,ap,λx hx=>?_,bp,a8⟩;rcases yC.mp hx with z | z
      .exact aj x z
      .have:x=q:=by simpa using z
       subst this;exact av
     | false =>
      rw[Vh.mpr av];have r8:=ak.bput q;have al:(putK Z (Sum.inl q) (V.bl true)).length=Z.length+1:=ak.put_new _ (Vh.mpr av);have pB:∀x,putB W q x=true↔x=q∨W x=true:=λx=>by
       unfold putB;by_cases e:x=q
       .simp[e]
       .simp[e]
      have a6:∀x,putB W q x=true->cnt c x=true/\Rch ss ord bu x:=λx e=>by
       rcases (pB x).mp e with rfl | e
       .exact⟨cq,rq⟩
       .exact af x e
      have c0:Z.length+1<=c:=by rw[<-al];exact r8.len (Uw λp e=>(a6 p e).1)
      refine iteT ⟨_,rfl,_,rfl,E,_,rfl,DPut.k (k:=Sum.inl q) as (Zb (by lia)),?_⟩
      refine⟨_,rfl,.inl ⟨rfl,_,Z8 (by rw[Z5 ar];exact au)⟩,_,rfl,T,_,_,rfl,rfl,by rw[Z5 ar];exact au,by rw[zK];exact Zb (by lia),?_⟩
      refine⟨_,putB W q,ac++[q],_,rfl,by rw[Z5 ar.symm,Z2],r8,by rw[Z2,zZ];rfl,λb o h1 h2 e=>by rw[Z5 h2,Z5 h1];exact aq b o h1 h2 e,λx e=>(pB x).mpr (.inr (ah x e)),a6,λx hx=>?_,λx hx=>xG _ (ao x hx),λx e=>?_,λx hx=>?_,?_,?_⟩
      .rcases yC.mp hx with z | z
       .exact(pB x).mpr (.inr (am x z))
       .exact(pB x).mpr (.inl (by simpa using z))
      .rcases (pB x).mp e with rfl | e
       .exact .inr (by simp)
       .rcases ap x e with z | z
        .exact .inl z
        .exact .inr (xG _ z)
      .rcases yC.mp hx with z | z
       .exact(pB x).mpr (.inr (aj x z))
       .exact(pB x).mpr (.inl (by simpa using z))
      .rw[al,zR,vO];lia
      .rw[al,zR,vO];lia
   .rintro σ H7 ⟨Z,W,ac,v8,rfl,as,ak,au,aq,ah,af,am,ao,ap,aj,bp,a8⟩;rw[zK,wE] at aj;refine⟨2*(c-Z.length)+ac.length,?_,Z,W,ac,_,_,rfl,rfl,as,ak,au,λb o h1 h2 e=>aq b o h1 h2 (b0 b o h1 h2 e),ah _ bq,af,am,λq hq bo x hx=>?_,a8⟩
    .rw[zR,vO];lia
    .rcases ap q hq with z | z
     .by_cases qp:q=p
      .subst qp;exact aj x hx
      .refine ah _ (bk q z (λm=>?_) x hx);rcases yC.mp m with y | y
       .exact bo (ao q y)
       .exact qp (by simpa using y)
     .exact xX z bo
  .have ae:ts=[]:=by
    have:¬ 0<ts.length:=by simpa using ae
    exact uA.mp (by lia)
   subst ae;refine⟨_,rfl,k H4 E kd Ef (λb o e=>bv b o (Z1 e bh) (Z1 e cc) (s3 _ _ (s2 _ _ e))) bh br rE bq (λj hj e=>bk _ e (by simp) _ (K2 hj)) aw⟩
theorem Q0(e:Y.K=K:=by rfl):Jt Y (.builtin "isinstance") (λxs H Q=>∃(x c:V) (t G:Aa) (b:Bool),xs=[x,c]/\TyOf K H x t/\ClsV c G/\PySem.W.kitOne K t G=some b/\Q (.bl b) H):=by subst e;exact QH
theorem VM{k:Nat}{t:TGs}(V:True=True)(h:PGs Y es t)(O:(assignEach es Y.env).length=n)(G:(assignEach es Y.env).findIdx? (·.1)=none:=by rfl)(e:Y.K=K:=by rfl):PG Y (.Tuple es k pos) (gTup K n t):=by subst e;exact Uc V h O G
def mvd (ns:List Int)(E:Int->Bool)(by_:Int):List Int:=(zV ns.length).map λ(i:Nat)=>if E (i:Int)=true then ns.getD i 0+by_ else ns.getD i 0
theorem K1{F:Nat->Option V}{G:Nat->V}:∀n,(∀i,i<n->F i=some (G i))->(zV n).filterMap F=(zV n).map G
 | 0,_=>rfl
 | n+1,h=>by
  rw[wI,xN,zZ,K1 n λi hi=>h i (by lia)]
  show _++[n].filterMap F=_++[G n];rw[yY,h n (by lia)];rfl
def spMoved:Sp:=λvs H Q _=>∃(g p:Ab) (ns:List Int) (ks:List (Key×V)) (E:Int->Bool) (b:Int),vs=[.ref g,.ref p,.int b]/\H g=some (.lst (ns.map V.int))/\ns.length<=1000/\H p=some (.dK ks)/\DR ks (bS E)/\∀(H':Hp) (d:Ab),Same H H'->H d=none->H' d=some (.lst ((mvd ns E b).map V.int))->Q (.ref d) H'
theorem Kq:Zd XC XC (defScope Vo):=fs7
theorem P6(D:VA K mg f fd)(G:G1 K mg):FnOk P w K mg base CX0 1 f fd XC spMoved:=by
 refine D.fn.okA Kq λ_ _ outer _ H vs Q _ hr h=>?_;obtain⟨g,p,ns,ks,E,b,rfl,hg,hz,hp,rE,k⟩:=h;have hu:=Jz hr;refine⟨_,Z7 (Ze (ZT (XN:=XC) (outer:=defScope Vo) (N:=lst_37) (cap:=[none,none,some 2,some 1])
   (by exact csc (.own (.own (.cap rfl rfl rfl (.cap rfl rfl rfl .nil))))) rfl (QR (by rfl) G.enumerate (Z0 (pv 0) Z3))
   (λ_ _ _ _ _ _=>VM (K:=K) (n:=2) rfl (Zk (pgl 0 (show(lst_37:List Str).Nodup by decide +kernel)) (Zk (pgl 1 (show(lst_37:List Str).Nodup by decide +kernel)) Yw)) rfl) (λ_ _ _ _ _ _=>ZO)
   (λ_ _ _ _ _ _=>Ur (Jk (Qc hu (pv 0) (pv 3))) (Zg Yd (pv 1) (pv 2)) (pv 1)))),?_⟩
 refine⟨_,rfl,g,rfl,⟨_,Z8 hg⟩,λq hq=>?_⟩;refine Qo (outs:=λ(i:Nat)=>(ns[i]?).map λv=>V.int (if E (i:Int)=true then v+b else v)) (λσ=>∃v1 v2,σ=[v1,v2,some (.int b),some (.ref p)]) hq (Z8 hg) (by rw[zK];exact Zb hz) ⟨none,none,rfl⟩ (λi x t σc Hc ac No O sm aa ht ⟨v1,v2,hv⟩ W no=>?_) (λHc sm hD=>?_)
 .subst hv;rw[zM] at O;cases ex:ns[i]? with
  | none=>rw[ex] at O;cases O
  | some y =>
   rw[ex] at O;cases O;refine⟨t,_,rfl,Zo ht,rfl,_,_,rfl,_,_,rfl,rfl,?_⟩;refine⟨_,rfl,_,rfl,p,_,rfl,.inl ⟨ks,Sum.inl (i:Int),.inl (sm _ _ hp),rfl,rfl⟩,_,rfl,?_⟩;rw[rE.at_];cases Z:E (i:Int) with
   | true =>
    rw[show(bS E (i:Int)).isSome=true from by unfold bS;rw[Z];rfl]
    exact iteT ⟨_,rfl,_,rfl,_,_,rfl,rfl,W _ _ _ ⟨_,_,rfl⟩ (Za _) (by rw[ex,Z];rfl)⟩
   | false =>
    rw[show(bS E (i:Int)).isSome=false from by unfold bS;rw[Z];rfl]
    exact iteF ⟨_,rfl,W _ _ _ ⟨_,_,rfl⟩ (Za _) (by rw[ex,Z];rfl)⟩
 .refine k Hc q sm hq ?_;rw[hD,zK];unfold mvd;rw[xJ];refine xQ some (xQ HO.lst (K1 _ λi hi=>?_));rw[zN hi];show some (V.int _)=some (V.int (if E (i:Int)=true then ns.getD i 0+b else ns.getD i 0));rw[wO,zN hi];rfl
structure OneK(K:Frag)(mg:Str->Option Aa)(x f:Str)(C fI:Ab):Prop where
 cl:Cls K C
 n:YF K C f
 at_:mg x=some (.ref C)
 mK:Mk K C fI
def spOne(C:Ab)(f:Str):Sp:=λvs H Q _=>∃(x dx l:Ab) (ys:List V),vs=[.ref x,.ref l]/\H x=some (.ins C dx [])/\H l=some (.lst ys)/\∀q,H q=none->Q .non (upd (upd H q (.lst ys)) x (.ins C dx [(f,.ref q)]))
theorem Ku:Zd UI UI (defScope Ym):=fs7
theorem Kp:Zd UH UH (defScope YS):=fs7
theorem MK{c:Bool}(F:Fun K "__init__" "Heights.__init__" Ym f fd)(T:OneK K mg "Heights" "heights" C f)(G:G1 K mg):FnOk P w K mg base (CXm c) 1 f fd UI (spOne C "heights"):=by
 refine F.okA Ku λ_ _ _ _ H vs Q _ Z h=>?_;obtain⟨x,dx,l,ys,rfl,V,W,k⟩:=h;refine⟨_,Z7 (J8 (pv 0) (Zt Zj (by rfl) G.list boot_list (Z0 (pv 1) Z3)) rfl),?_⟩
 refine⟨_,rfl,l,_,rfl,.inl (Z8 W),λq O=>?_⟩;exact⟨_,rfl,x,C,dx,[],rfl,by rw[Z5 (Z1 V O)];exact V,T.cl,T.n,(by show 0<1000;decide),k q O⟩
theorem Xp{c:Bool}(F:Fun K "__init__" "Ring.__init__" YS f fd)(T:OneK K mg "Ring" "chain" C f)(G:G1 K mg):FnOk P w K mg base (CXm c) 1 f fd UH (spOne C "chain"):=by
 refine F.okA Kp λ_ _ _ _ H vs Q _ Z h=>?_;obtain⟨x,dx,l,ys,rfl,V,W,k⟩:=h;refine⟨_,Z7 (J8 (pv 0) (Zt Zj (by rfl) G.list boot_list (Z0 (pv 1) Z3)) rfl),?_⟩
 refine⟨_,rfl,l,_,rfl,.inl (Z8 W),λq O=>?_⟩;exact⟨_,rfl,x,C,dx,[],rfl,by rw[Z5 (Z1 V O)];exact V,T.cl,T.n,(by show 0<1000;decide),k q O⟩
structure AnsAt(H:Hp)(x C l:Ab)(f:Str)(ns:List Int):Prop where
 ex:∃dx,H x=some (.ins C dx [(f,.ref l)])
 ls:H l=some (.lst (ns.map V.int))
def ansC (cH cR:Ab)(b:Bool):Ab:=cond b cH cR
def ansF (b:Bool):Str:=cond b "heights" "chain"
theorem AnsAt.same{x:Ab}{f:Str}(h:AnsAt H x C l f ns)(e:Same H H'):AnsAt H' x C l f ns:=by
 obtain⟨dx,G⟩:=h.ex;exact⟨⟨dx,e _ _ G⟩,e _ _ h.ls⟩
abbrev QL:Str:=(("walking_order":Str)++(".<locals>.":Str))++("<lambda>":Str)
structure LamIn(base:Heap)(mg:Str->Option Aa)(fd:Ad)(Pt:Ab):Prop where
 ex:∃c,fd.code = .ref c/\PySem.W.CodeHd base c Pt/\base.BuiltinsAt mg Pt
def fv (F:Fn)(k:Int):Int:=(F k).getD 0
def onw (F:Fn)(ss:List Say)(i:Nat):Bool:=(ss[i]?).elim false λs=>decide (fv F s.2.1<fv F s.1)
def bkw (F:Fn)(ss:List Say)(i:Nat):Bool:=(ss[i]?).elim false λs=>decide (fv F s.1<=fv F s.2.1)
def idx (p:Nat->Bool)(n:Nat):List Int:=((zV n).filter p).map λi=>((i:Nat):Int)
theorem PZ(p:Nat->Bool)(n:Nat):((zV n).filterMap λi=>if p i=true then some (V.int ((i:Nat):Int)) else none)=(idx p n).map V.int:=by
 unfold idx;rw[xJ];generalize zV n=l
 induction l with
 | nil=>rfl
 | cons x r G =>
  rw[yY,List.filter_cons];cases p x <;> simp[G]
theorem Tk(p:Nat->Bool)(n:Nat):(idx p n).length<=n:=by
 unfold idx;rw[zK];exact yU (uO _ _) (by simp)
theorem Vd{p:Nat->Bool}:k∈idx p n↔cnt n k=true/\p k.toNat=true:=by
 unfold idx;rw[yK];constructor
 .rintro⟨i,hi,rfl⟩;rw[wJ,xB] at hi;refine⟨Zm.mpr ⟨by lia,by lia⟩,by simpa using hi.2⟩
 .rintro⟨h1,h2⟩;obtain⟨h0,G⟩:=Zm.mp h1;exact⟨k.toNat,wJ.mpr ⟨xB.mpr (by lia),h2⟩,by lia⟩
def V8(Pt:Ab):Sp:=λvs H Q _=>∃(a:Ab) (ss:List Say) (c:Nat),vs=[.ref a]/\SaysAt H a ss/\ss.length<64/\c<=1000/\ss.all (inside c)=true/\YG H Pt QL /\
 ∀(H':Hp) (d:Ab) (ord:List Int),SameN H H'->YG H' Pt QL->H d=none->H' d=some (.lst (ord.map V.int))->(∀k∈ord,cnt ss.length k=true)->(∀k,cnt ss.length k=true->k∈ord)->ord.length<=400->Q (.ref d) H'
theorem JK:Zd XF UG (defScope ZL):=fs7
theorem frWO:∀x∈([("at",.local),("finished",.free),("sayings",.free)]:List (Str×NameKind)),x.2=NameKind.free->(defScope ZL).names.lookup x.1=some .cell:=by decide +kernel
theorem NG{h1:Ab}{hd:Ad}(D:Yr K mg f fd)(DO:Jg K mg g gd)(DF:Jo K mg h1 hd)(G:G1 K mg)(L:LamIn base mg fd Pt):
  FnOk P w K mg base CX0 3 f fd UG (V8 Pt):=by
 have GO:FnOk P w K mg base CX0 2 g gd _ spFinOrd:=Rs DO DF G;refine Fun.okC D.fn JK (λvs H Q E h=>?_) (λbh A outer s H vs Q X a8 hr h=>?_)
 .obtain⟨_,_,_,rfl,_⟩:=h;rfl
 .obtain⟨a,ss,c,rfl,ha,hz,hc,aw,hL,k⟩:=h;obtain⟨cc,ay,hC,hB⟩:=L.ex;have az:bh = .ref cc:=a8.symm.trans ay;subst az;have hu:=Jz hr;obtain⟨ps,ha,hS⟩:=ha.ex;have as:∀e,((A.deeper (envOfC "walking_order" (defScope ZL) s.heap.objs.size f (.ref cc))).in1.in1.deeper e).units+1<cLine:=λe=>by
   have:=hr.un
   show(A.deeper (envOfC "walking_order" (defScope ZL) s.heap.objs.size f (.ref cc))).units+1+1+3+1<cLine;lia
  refine⟨_,Z4 (Qa (i:=1) JK.nd rfl (Or.inr rfl) (pcD DO GO hr (Z0 (pv 0) Z3)))
   (Z4 (JQ (j:=2) (XN:=XF) (outer:=defScope ZL) (N:=lst_16) (cap:=[none,none,some 1])
     (by exact csc (.own (.own (.cap rfl rfl rfl .nil)))) rfl JK.nd rfl (Or.inl rfl) (QR (by rfl) G.enumerate (Z0 (pv 0) Z3))
     (λ_ _ _ _ _ _=>VM (K:=K) (n:=2) rfl (Zk (pgl 0 (show(lst_16:List Str).Nodup by decide +kernel)) (Zk (pgl 1 (show(lst_16:List Str).Nodup by decide +kernel)) Yw)) rfl)
     (λ_ _ _ _ _ _=>JR (Zl Tb (Yx hu (pv 2) (Zc (ixT (K:=K)) (pv 1) Z6)) (Yx hu (pv 2) (Zc (ixT (K:=K)) (pv 1) Z6)) (nomark _)))
     (λ_ _ _ _ _ _=>pv 0))
   (Z4 (JQ (j:=3) (XN:=XF) (outer:=defScope ZL) (N:=lst_16) (cap:=[none,none,some 1])
     (by exact csc (.own (.own (.cap rfl rfl rfl .nil)))) rfl JK.nd rfl (Or.inl rfl) (QR (by rfl) G.enumerate (Z0 (pv 0) Z3))
     (λ_ _ _ _ _ _=>VM (K:=K) (n:=2) rfl (Zk (pgl 0 (show(lst_16:List Str).Nodup by decide +kernel)) (Zk (pgl 1 (show(lst_16:List Str).Nodup by decide +kernel)) Yw)) rfl)
     (λ_ _ _ _ _ _=>JR (Zl QC (Yx hu (pv 2) (Zc (ixT (K:=K)) (pv 1) Z6)) (Yx hu (pv 2) (Zc (ixT (K:=K)) (pv 1) Z6)) (nomark _)))
     (λ_ _ _ _ _ _=>pv 0))
   (Z4 (psl 2 JK.nd (LR (XN:=XF) (outer:=defScope ZL) (x:="at") (N:=["finished","sayings"]) (cap:=[some 1,some 0]) rfl
     (by exact⟨rfl,rfl,rfl,by decide +kernel,rfl,.cap rfl rfl rfl (.cap rfl rfl rfl .nil),by decide +kernel,by decide⟩) hr.depth
     (λ_ _ _ _ _ _ _=>Yx (as _) (pv 1) (Zc (ixT (K:=K)) (Zc (ixL (K:=K)) (pv 2) (pv 0)) Z6) (λ_ _=>rfl))
     (λ_ _ _ _ _=>rfl) (by rfl) G.sorted (Z0 (pv 2) Z3) (Gf (LW rfl hC hB frWO) (Gf ZI LL))))
   (Z4 (psl 3 JK.nd (LS (XN:=XF) (outer:=defScope ZL) (x:="at") (N:=["finished","sayings"]) (cap:=[some 1,some 0]) rfl
     (by exact⟨rfl,rfl,rfl,by decide +kernel,rfl,.cap rfl rfl rfl (.cap rfl rfl rfl .nil),by decide +kernel,by decide⟩) hr.depth
     (λ_ _ _ _ _ _ _=>Yx (as _) (pv 1) (Zc (ixT (K:=K)) (Zc (ixL (K:=K)) (pv 2) (pv 0)) Z6) (λ_ _=>rfl))
     (λ_ _ _ _ _=>rfl) (by rfl) G.sorted (Z0 (pv 3) Z3) (Gf (LW rfl hC hB frWO) LL)))
   (Z7 (Ze (Zg YN (pv 2) (pv 3)))))))),?_⟩
  refine⟨_,rfl,a,ss,c,rfl,⟨ps,ha,hS⟩,by lia,hc,aw,λH1 d kf Ff s1 bd hd rF a4=>?_⟩
  have aa:∀k,Ff k≠none->valV kf (Sum.inl k)=some (.int (fv Ff k)):=λk hk=>by
   rw[rF.at_];cases q:Ff k with
   | none=>exact xX q hk
   | some v=>unfold iS fv;rw[q];rfl
  have item:∀{H2:Hp},Same H1 H2->∀(i:Nat) (p:Ab),ps[i]?=some p->∃O,ss[i]?=some O/\H2 p=some (.tup [.int O.1,.int O.2.1,.int O.2.2])/\Ff O.1≠none/\Ff O.2.1≠none:=λ{H2} sm i p ep=>by
   have am:i<ss.length:=by rw[<-hS.len];exact(zT.mp ep).1
   have es:ss[i]?=some ss[i]:=zN am
   have:=a4 ss[i] (xC am)
   exact⟨ss[i],es,sm _ _ (s1 _ _ (hS.at_ i p _ ep es)),this.1,this.2⟩
  have ac:=s1 _ _ ha;have W:(ps.map V.ref).length=ss.length:=by rw[zK,hS.len]
  refine⟨_,rfl,a,rfl,⟨_,Z8 ac⟩,λD1 a9=>?_⟩;refine Qo (outs:=λi=>if onw Ff ss i=true then some (V.int ((i:Nat):Int)) else none) (λσ=>∃v1 v2,σ=[v1,v2,some (.ref d)]) a9 (Z8 ac) (by rw[W];exact Zb (by lia)) ⟨none,none,rfl⟩ (λi x t σc Hc a7 No hx sm _ ad ⟨v1,v2,hv⟩ ai no=>?_) (λH2 s2 ag=>?_)
  .rw[zM] at hx;cases ep:ps[i]? with
   | none=>rw[ep] at hx;cases hx
   | some p =>
    rw[ep] at hx;cases hx;subst hv;obtain⟨O,es,hp,f1,f2⟩:=item sm i p ep;have ae:=sm _ _ hd;refine⟨t,_,rfl,Zo ad,rfl,_,_,rfl,_,_,rfl,rfl,?_⟩;refine⟨_,rfl,_,rfl,p,_,_,_,rfl,rfl,Zo hp,rfl,d,_,rfl,.inl ⟨kf,Sum.inl O.1,.inl ae,rfl,(aa _ f1).symm⟩,_,rfl,_,rfl,p,_,_,_,rfl,rfl,Zo hp,rfl,d,_,rfl,.inl ⟨kf,Sum.inl O.2.1,.inl ae,rfl,(aa _ f2).symm⟩,_,_,rfl,rfl,_,rfl,?_⟩;have eo:onw Ff ss i=decide (fv Ff O.2.1<fv Ff O.1):=by unfold onw;rw[es];rfl
    rw[<-eo];refine ite2 (λq=>?_) (λq=>?_)
    .exact⟨_,rfl,ai _ _ _ ⟨_,_,rfl⟩ (Za _) (by rw[xY q])⟩
    .exact no _ _ ⟨_,_,rfl⟩ (Za _) (by rw[xZ q])
  rw[W,PZ] at ag;refine⟨_,rfl,a,rfl,⟨_,Z8 (s2 _ _ ac)⟩,λD2 a5=>?_⟩;refine Qo (outs:=λi=>if bkw Ff ss i=true then some (V.int ((i:Nat):Int)) else none) (λσ=>∃v1 v2,σ=[v1,v2,some (.ref d)]) a5 (Z8 (s2 _ _ ac)) (by rw[W];exact Zb (by lia)) ⟨none,none,rfl⟩ (λi x t σc Hc a7 No hx sm _ ad ⟨v1,v2,hv⟩ ai no=>?_) (λH3 s3 ah=>?_)
  .rw[zM] at hx;cases ep:ps[i]? with
   | none=>rw[ep] at hx;cases hx
   | some p =>
    rw[ep] at hx;cases hx;subst hv;obtain⟨O,es,hp,f1,f2⟩:=item (s2.trans sm) i p ep;have ae:=sm _ _ (s2 _ _ hd);refine⟨t,_,rfl,Zo ad,rfl,_,_,rfl,_,_,rfl,rfl,?_⟩;refine⟨_,rfl,_,rfl,p,_,_,_,rfl,rfl,Zo hp,rfl,d,_,rfl,.inl ⟨kf,Sum.inl O.1,.inl ae,rfl,(aa _ f1).symm⟩,_,rfl,_,rfl,p,_,_,_,rfl,rfl,Zo hp,rfl,d,_,rfl,.inl ⟨kf,Sum.inl O.2.1,.inl ae,rfl,(aa _ f2).symm⟩,_,_,rfl,rfl,_,rfl,?_⟩;have eo:bkw Ff ss i=decide (fv Ff O.1<=fv Ff O.2.1):=by unfold bkw;rw[es];rfl
    rw[<-eo];refine ite2 (λq=>?_) (λq=>?_)
    .exact⟨_,rfl,ai _ _ _ ⟨_,_,rfl⟩ (Za _) (by rw[xY q])⟩
    .exact no _ _ ⟨_,_,rfl⟩ (Za _) (by rw[xZ q])
  rw[W,PZ] at ah;have af:Same H1 H3:=s2.trans s3;have ar:Same H H3:=s1.trans af;have ap:∀{H4:Hp},SameN H3 H4->∀(n:Int),cnt ss.length n=true->Oj (tVar 1) (tOp (rIxT K) (tOp (rIxL K) (tVar 2) (tVar 0)) (tC (V.int 0))) [some (V.int n),some (.ref d),some (.ref a)] H4 (λr H'=>H'=H4/\∃k,r = .int k):=λ{H4} sm n Z=>by
   obtain⟨p,ep,h0⟩:=YZ (xs:=ps) (i:=n) (by rw[hS.len];exact Z)
   obtain⟨O,es,hp,f1,f2⟩:=item af n.toNat p ep;exact⟨_,rfl,_,rfl,_,rfl,a,_,n,.ref p,rfl,rfl,Z8 (sm _ _ rfl (af _ _ ac)),Jn h0 (by rw[zM,ep];rfl),p,_,0,.int O.1,rfl,rfl,Zo (sm _ _ rfl hp),rfl,d,.int (fv Ff O.1),rfl,.inl ⟨kf,Sum.inl O.1,.inl (sm _ _ rfl (af _ _ hd)),rfl,(aa _ f1).symm⟩,rfl,_,rfl⟩
  have l1:=Tk (onw Ff ss) ss.length;have l2:=Tk (bkw Ff ss) ss.length;refine⟨_,rfl,⟨hL.same ar,λq1 H4 be s4 ax hq=>?_⟩⟩;refine⟨D1,idx (onw Ff ss) ss.length,q1,rfl,rfl,Z8 (s4 _ _ rfl (s3 _ _ ag)),by lia,hq,λn Z=>ap s4 n (Vd.mp Z).1,λD3 ms1 aj a3=>?_⟩
  have u5:=Z9 (o:=.lst (ms1.map V.int)) a3;have ak:SameN H3 (upd H4 D3 (.lst (ms1.map V.int))):=s4.trans u5.n;refine⟨_,rfl,⟨ax.same u5,λq2 H6 bc s6 av a6=>?_⟩⟩;refine⟨D2,idx (bkw Ff ss) ss.length,q2,rfl,rfl,Z8 (s6 _ _ rfl (ak _ _ rfl ah)),by lia,a6,λn Z=>ap (ak.trans s6) n (Vd.mp Z).1,λD4 ms2 al au=>?_⟩
  have u7:=Z9 (o:=.lst (ms2.map V.int)) au;have e3:(upd H6 D4 (.lst (ms2.map V.int))) D3=some (.lst (ms1.map V.int)):=u7 _ _ (s6 _ _ rfl Z2);have e4:(upd H6 D4 (.lst (ms2.map V.int))) D4=some (.lst (ms2.map V.int)):=Z2;have ao:SameN H (upd H6 D4 (.lst (ms2.map V.int))):=ar.n.trans ((ak.trans s6).trans u7.n);have ba:=aj.length_eq;have bb:=al.length_eq;refine⟨_,rfl,_,rfl,D3,D4,_,_,rfl,rfl,e3,e4,by rw[zK,zK];exact yW (Zb (by lia)),λD5 aq=>?_⟩
  have u8:=Z9 (o:=.lst (ms1.map V.int++ms2.map V.int)) aq;have fr:H D5=none:=ao.tb _ aq;refine k _ D5 (ms1++ms2) (ao.trans u8.n) ((av.same u7).same u8) fr (by rw[Z2,zZ]) (λn Z=>?_) (λn Z=>?_) (by rw[zR];lia)
  .rcases yC.mp Z with z | z
   .exact(Vd.mp (aj.mem_iff.mp z)).1
   .exact(Vd.mp (al.mem_iff.mp z)).1
  .obtain⟨O,es,h0⟩:=YZ Z;by_cases q:fv Ff O.2.1<fv Ff O.1
   .exact xG _ (aj.mem_iff.mpr (Vd.mpr ⟨Z,by unfold onw;rw[es];simpa using q⟩))
   .exact zY _ (al.mem_iff.mpr (Vd.mpr ⟨Z,by unfold bkw;rw[es];simp;lia⟩))
def spWhole:Sp:=λvs H Q _=>∃i:Int,vs=[.int i]/\Q (.bl true) H
theorem Ko:Zd ["value"] ["value"] (defScope Lx):=fs7
theorem VR(D:Yp K mg f fd)(G:G1 K mg):FnOk P w K mg base CX0 1 f fd ["value"] spWhole:=by
 refine D.fn.okA Ko λ_ _ _ _ H vs Q _ O h=>?_;obtain⟨i,rfl,k⟩:=h;refine⟨_,Z7 (Ze (Y1 (pbI G (Z0 (pv 0) (Z0 (UP (by rfl) G.int boot_int) Z3)))
  (Y8 (Qb (pbI G (Z0 (pv 0) (Z0 (UP (by rfl) G.bool boot_bool) Z3))))))),?_⟩
 refine⟨_,rfl,_,_,_,_,_,rfl,.int i,rfl,G.kii,true,rfl,iteT ?_⟩;exact⟨_,rfl,_,_,_,_,_,rfl,.int i,rfl,G.kib,false,rfl,k⟩
def spCounted:Sp:=λvs H Q _=>∃c i:Int,vs=[.int c,.int i]/\Q (.bl (cnt c i)) H
theorem R7:Zd Yt Yt (defScope Mq):=fs7
theorem JS(D:Y5 K mg f fd)(O:Yp K mg g gd)(G:G1 K mg):FnOk P w K mg base CX0 2 f fd Yt spCounted:=by
 have V:FnOk P w K mg base CX0 1 g gd _ spWhole:=VR O G;refine D.fn.okA R7 λ_ _ _ _ H vs Q _ W h=>?_;obtain⟨c,i,rfl,k⟩:=h;refine⟨_,Z7 (Ze (Y1 (pcD O V W (Z0 (pv 1) Z3)) (Y8 (My QC VQ Z6 (pv 1) (pv 0))))),?_⟩;refine⟨_,rfl,i,rfl,true,rfl,iteT ?_⟩;refine⟨_,rfl,_,_,rfl,rfl,_,rfl,?_⟩;unfold cnt at k;refine ite2 (λh0=>?_) (λh0=>?_)
 .rw[h0,vD] at k;exact⟨_,rfl,_,_,rfl,rfl,k⟩
 .rw[vG.mpr h0,wP] at k;exact k
def spSaying:Sp:=λvs H Q _=>∃(c:Int) (p:Ab) (s:Say),vs=[.int c,.ref p]/\H p=some (Ul s)/\Q (.bl (cnt c s.1&&cnt c s.2.1)) H
theorem Lk:Zd Yt Yt (defScope QQ):=fs7
theorem Rl(D:Def K mg "is_saying" QQ Yt f fd)(V:Y5 K mg fc dc)(Z:Yp K mg fw dw)(G:G1 K mg):FnOk P w K mg base CX0 3 f fd Yt spSaying:=by
 have GC:FnOk P w K mg base CX0 2 fc dc _ spCounted:=JS V Z G;have GW:FnOk P w K mg base CX0 2 fw dw _ spWhole:=(VR Z G).mono (by decide)
 refine D.fn.okA Lk λ_ _ _ _ H vs Q _ W h=>?_;obtain⟨c,p,⟨l,u,n⟩,rfl,O,k⟩:=h;have O:H p=some (.tup [.int l,.int u,.int n]):=O;refine⟨_,Z4 (Zw (PW.pt (Ji (Zy (Zq (pbI G (Z0 (pv 1) (Z0 (UP (by rfl) G.tuple boot_tuple) Z3)))))
   (YM (Zl VP (pbL G (Z0 (pv 1) Z3)) Z6 (nomark _))))) (Z7 (Ze ZI)) Zh)
  (Z7 (Ze (Y1 (pcD V GC W (Z0 (pv 0) (Z0 (Zc ZF (pv 1) Z6) Z3)))
   (Y1 (pcD V GC W (Z0 (pv 0) (Z0 (Zc ZF (pv 1) Z6) Z3)))
    (Y8 (pcD Z GW W (Z0 (Zc ZF (pv 1) Z6) Z3))))))),?_⟩
 refine⟨_,rfl,_,_,_,_,_,rfl,.tup O,rfl,G.ktt,true,rfl,iteF ?_⟩;refine⟨_,rfl,p,_,rfl,.inr (Zo O),rfl,_,rfl,iteF ?_⟩;refine⟨_,rfl,_,rfl,p,_,_,_,rfl,rfl,Zo O,rfl,c,l,rfl,_,rfl,?_⟩;dsimp only at k;refine ite2 (λh0=>?_) (λh0=>?_)
 .rw[h0,vD] at k;refine⟨_,rfl,_,rfl,p,_,_,_,rfl,rfl,Zo O,rfl,c,u,rfl,_,rfl,?_⟩;refine ite2 (λh1=>?_) (λh1=>?_)
  .rw[h1] at k;exact⟨_,rfl,p,_,_,_,rfl,rfl,Zo O,rfl,n,rfl,k⟩
  .rw[vG.mpr h1] at k;exact k
 .rw[vG.mpr h0,wP] at k;exact k
def VF:Sp:=λvs H Q _=>∃(c:Int) (a:Ab) (ss:List Say),vs=[.int c,.ref a]/\1<=c/\SaysAt H a ss/\ss.all (inside c)=true/\Q .non H
theorem Mo:Zd ["count","sayings","saying"] Ug (defScope T4):=fs7
theorem Rt(D:Ys K mg f fd)(DS:Def K mg "is_saying" QQ Yt fs ds)(DC:Y5 K mg fc dc)(Z:Yp K mg fw dw)(G:G1 K mg):FnOk P w K mg base CX0 4 f fd Ug VF:=by
 have GS:FnOk P w K mg base CX0 3 fs ds _ spSaying:=Rl DS DC Z G;have GW:FnOk P w K mg base CX0 3 fw dw _ spWhole:=(VR Z G).mono (by decide)
 refine D.fn.okA Mo λ_ _ _ _ H vs Q _ hr h=>?_;obtain⟨c,a,ss,rfl,hc,O,W,k⟩:=h;obtain⟨ps,O,hS⟩:=O.ex;refine⟨_,Z4 (Zw (PW.pt (Ji (Zy (Zq (pcD Z GW hr (Z0 (pv 0) Z3)))) (YM (Zl VQ (pv 0) Z6 (nomark _))))) Up Zh)
  (Z4 (Zw (Zy (Zq (pbI G (Z0 (pv 1) (Z0 (UP (by rfl) G.list boot_list) Z3))))) Up Zh)
  (Z7 (Y4 PassesOwn.never rfl (Zr (pv 1)) (pgl 2 Mo.nd)
   (Z7 (Zw (Zy (Zq (pcD DS GS hr (Z0 (pv 0) (Z0 (pv 2) Z3))))) Up Zh))))),?_⟩
 refine⟨_,rfl,c,rfl,true,rfl,iteF ?_⟩;refine⟨_,rfl,_,_,rfl,rfl,_,rfl,?_⟩;rw[xW (by lia)]
 refine iteF ?_;refine⟨_,rfl,_,_,_,_,_,rfl,.lst O,rfl,G.kll,true,rfl,iteF ?_⟩;refine⟨_,rfl,a,rfl,⟨_,Z8 O⟩,ZX (K:=K) (a:=a) (xs:=ps.map V.ref) (λi σ H2=>H2=H/\∃(v:Option V),σ=[some (.int c),some (.ref a),v])
  ⟨rfl,none,rfl⟩ (λi σ H2 _ ⟨e,_⟩=>by rw[e];exact Z8 O) ?_ ?_⟩
 .rintro i y σ H2 hi ⟨rfl,v,rfl⟩;rw[zM] at hi;cases ep:ps[i]? with
  | none=>rw[ep] at hi;cases hi
  | some p =>
   rw[ep] at hi;cases hi;have hl:i<ss.length:=by rw[<-hS.len];exact(zT.mp ep).1
   have es:ss[i]?=some ss[i]:=zN hl;have hb:inside c ss[i]=true:=yA.mp W _ (xC hl);refine⟨_,rfl,_,rfl,c,p,ss[i],rfl,hS.at_ i p _ ep es,_,rfl,?_⟩;unfold inside at hb;rw[hb];exact iteF ⟨rfl,_,rfl⟩
 .rintro σ H2 ⟨rfl,v,rfl⟩;exact k
theorem Ti(S:Fn)(c:Nat):(lev S c).length=c:=by unfold lev;simp
theorem QU(S:Fn){i:Int}(h:cnt c i=true):(lev S c).getD i.toNat 0=(S i).getD 0:=by
 obtain⟨h0,h1⟩:=Zm.mp h;have G:i.toNat<c:=by lia
 unfold lev;rw[wO,zM,uT G];simp[Int.toNat_of_nonneg h0]
theorem WG(V:ss.all (inside c)=true)(G:∀k,cnt ss.length k=true->Tight ss S k)(O:∀k,cnt ss.length k=true->S (sy ss k).1≠none/\S (sy ss k).2.1≠none):ss.all (keeps (lev S c))=true:=by
 refine yA.mpr λs hs=>?_;obtain⟨i,hi,rfl⟩:=xO.mp hs;have Z:cnt ss.length (i:Int)=true:=Zm.mpr ⟨by lia,by lia⟩
 have es:sy ss (i:Int)=ss[i]:=by unfold sy;rw[yE,zN hi];rfl
 have h1:=yA.mp V _ (xC hi);unfold inside at h1;rw[yI] at h1;have h2:=(O i Z).1;have W:=G i Z;unfold Tight at W;rw[es] at h2 W;unfold keeps;rw[QU S h1.1,QU S h1.2];cases ea:S ss[i].1 with
 | none=>exact xX ea h2
 | some a =>
  obtain⟨b,eb,hb⟩:=W a ea;rw[eb];have e1:(some a:Option Int).getD 0=a:=rfl;have e2:(some b:Option Int).getD 0=b:=rfl;rw[e1,e2];exact xV (by lia)
structure BX(K:Frag)(C:Ab):Prop where
 look:QY K C
 hd:hasDictIn K C=true
 m:ExcM K C C
def Good (b:Bool)(c:Nat)(ss:List Say)(ns:List Int):Prop:=cond b (ns.length=c/\ss.all (keeps ns)=true) (V3 ss ns)
def On(Pt CH CR:Ab):Sp:=λvs H Q _=>∃(a:Ab) (ss:List Say) (c:Nat),vs=[.int c,.ref a]/\1<=c/\c<=400/\SaysAt H a ss/\ss.length<64/\ss.all (inside c)=true/\YG H Pt QL /\
 ∀(b:Bool) (H':Hp) (x l:Ab) (ns:List Int),SameN H H'->YG H' Pt QL->H x=none->H l=none->x≠l->AnsAt H' x (ansC CH CR b) l (ansF b) ns->Good b c ss ns->Q (.ref x) H'
theorem Xc:Zd ["count","sayings","sums","broken"] Ug (defScope Wq):=fs7
theorem MJ{fv CH CR:Ab}(D:Qr K mg f fd)(DC:Ys K mg fc dc)(GC:FnOk P w K mg base CX0 4 fc dc Ug VF)(DL:Jf K mg fl dl)(GL:FnOk P w K mg base (CXr P w) 4 fl dl Qg (QN CB))(DV:QZ K mg fv dv)(DO:Yr K mg fo do_)(GO:FnOk P w K mg base CX0 3 fo do_ UG (V8 Pt))(T:BK K mg CB C0 fB)(TX:BX K CB)(TH:OneK K mg "Heights" "heights" CH fH)(FH:Fun K "__init__" "Heights.__init__" Ym fH dH)(bH:Binds K dH UI [])(TR:OneK K mg "Ring" "chain" CR fR)(FR:Fun K "__init__" "Ring.__init__" YS fR dR)(bR:Binds K dR UH [])(G:G1 K mg):FnOk P w K mg base CX0 5 f fd Ug (On Pt CH CR):=by
 have GV:FnOk P w K mg base CX0 1 fv dv _ spLevel:=MG DV G;have GH:FnOk P w K mg base CX0 1 fH dH _ (spOne CH "heights"):=MK FH TH G;have GR:FnOk P w K mg base (CXm false) 1 fR dR _ (spOne CR "chain"):=Xp FR TR G;refine D.fn.okA Xc λ_ _ _ _ H vs Q _ hr h=>?_;obtain⟨a,ss,c,rfl,ar,hc,ha,hz,aa,hL,k1⟩:=h;have ao:Room 1 _:=hr.mono (by decide)
 have ad:Room 2 _:=hr.mono (by decide)
 have aq:Room 3 _:=hr.mono (by decide)
 refine⟨_,Z4 (ZP (pcD DC GC hr (Z0 (pv 0) (Z0 (pv 1) Z3))))
  (Z4 (KC (i:=3) (j:=2) (LO GL hr (by rfl) DL.at_ DL.fn.kp DL.bd (Z0 (pv 1) (Z0 (pcD DO GO aq (Z0 (pv 1) Z3)) Z3)))
    Xc.nd rfl (Or.inl rfl) rfl rfl (by rfl) T.at_ (λx=>Z7 (Ze (Ya TR.mK GR ⟨ad.dp,ad.un⟩ (by rfl) TR.at_ bR .nil Zu (Z0 (KF (pv 3) rfl) Z3)))))
  (Z7 (Ze (Ya TH.mK GH ad (by rfl) TH.at_ bH .nil Zu (Z0 (pcD DV GV ao (Z0 (pv 0) (Z0 (pv 2) Z3))) Z3))))),?_⟩
 refine⟨_,rfl,_,rfl,c,a,ss,rfl,by lia,ha,aa,?_⟩
 refine⟨_,rfl,_,rfl,a,ss,c,rfl,ha,hz,by lia,aa,hL,λH1 O ord s1 ah as hO ap al av=>?_⟩
 refine⟨a,O,ss,c,ord,rfl,ha.sameN s1,hO,by lia,hc,aa,ap,al,λH2 S ks Sf s2 az hS rS ac af _ _=>?_,λH2 dx l ns s2 aw aj hl ring=>?_⟩
 .-- heights
  refine⟨_,rfl,_,rfl,c,S,ks,Sf,rfl,by lia,hS,rS,λW d s3 ay hd=>?_⟩
  intro x dx hx ai ax;have s4:Same W (upd (upd W dx (.own x)) x (.ins CH dx [])):=λb o e=>by rw[Z5 (Z1 e hx),Z5 (Z1 e ai)];exact e
  refine⟨x,dx,d,_,rfl,Z2,s4 _ _ hd,λq hq=>⟨rfl,?_⟩⟩;have Z:W q=none:=s4.free hq;have xq:x≠q:=λz=>by subst z;rw[Z2] at hq;cases hq
  have s5:Same W (upd (upd (upd (upd W dx (.own x)) x (.ins CH dx [])) q (.lst ((lev Sf c).map V.int))) x (.ins CH dx [("heights",.ref q)])):=λb o e=>by
   rw[Z5 (Z1 e hx),Z5 (Z1 e Z)];exact s4 _ _ e
  have sN:SameN H W:=s1.trans (s2.trans s3).n;refine k1 true _ x q (lev Sf c) (sN.trans s5.n) (ah.same ((s2.trans s3).trans s5)) (sN.tb _ hx) (sN.tb _ Z) xq ⟨⟨dx,Z2⟩,by rw[Z5 xq.symm,Z2]⟩ ⟨Ti Sf c,WG aa ac af⟩
 .-- a ring
  refine⟨CB,rfl,TX.m,λx W ak am ag=>?_⟩;have s3:Same H2 W:=λb o e=>by rw[am b (Z1 e ak)];exact e
  refine⟨_,rfl,x,CB,dx,_,_,rfl,⟨_,ag⟩,s3 _ _ aj,rfl,TX.look,TX.hd,T.n,?_⟩;intro y dy hy ae au;have s4:Same W (upd (upd W dy (.own y)) y (.ins CR dy [])):=λb o e=>by rw[Z5 (Z1 e hy),Z5 (Z1 e ae)];exact e
  refine⟨y,dy,l,_,rfl,Z2,s4 _ _ (s3 _ _ hl),λq hq=>⟨rfl,?_⟩⟩;have Z:W q=none:=s4.free hq;have yq:y≠q:=λz=>by subst z;rw[Z2] at hq;cases hq
  have s5:Same W (upd (upd (upd (upd W dy (.own y)) y (.ins CR dy [])) q (.lst (ns.map V.int))) y (.ins CR dy [("chain",.ref q)])):=λb o e=>by
   rw[Z5 (Z1 e hy),Z5 (Z1 e Z)];exact s4 _ _ e
  have sN:SameN H W:=s1.trans (s2.trans s3).n;refine k1 false _ y q ns (sN.trans s5.n) (ah.same ((s2.trans s3).trans s5)) (sN.tb _ hy) (sN.tb _ Z) yq ⟨⟨dy,Z2⟩,by rw[Z5 yq.symm,Z2]⟩ ring
def gt (ls:List Int)(p:Int):Int:=ls.getD p.toNat 0
theorem LD(d:Int->Int)(h:∀s∈ss,d s.2.1-d s.1<=s.2.2)(r:V3 ss ns):False:=by
 obtain⟨p,G⟩:=r.wk
 have:=X2 h ns p p G
 have:=r.neg
 lia
theorem PF :keeps hs s=true↔gt hs s.2.1<=gt hs s.1+s.2.2:=by
 unfold keeps;rw[decide_eq_true_eq];show gt hs s.2.1-gt hs s.1<=_↔_;lia
theorem ins2{c:Int}(G:ss.all (inside c)=true)(hs:s∈ss):cnt c s.1=true/\cnt c s.2.1=true:=by
 have:=yA.mp G s hs
 unfold inside at this;rwa[yI] at this
theorem pot0(O:ss.all (inside c)=true)(G:∀k,cnt ss.length k=true->Tight ss S k)(V:∀k,cnt ss.length k=true->S (sy ss k).1≠none/\S (sy ss k).2.1≠none):∀s∈ss,(S s.2.1).getD 0-(S s.1).getD 0<=s.2.2:=λs hs=>by
 have h:=PF.mp (yA.mp (WG O G V) s hs);obtain⟨Z,W⟩:=ins2 O hs;have e1:gt (lev S c) s.1=_:=QU S Z;have e2:gt (lev S c) s.2.1=_:=QU S W;rw[e1,e2] at h;lia
theorem Ge{bu:Int}(O:∀k∈ord,cnt ss.length k=true)(G:∀k,cnt ss.length k=true->Tight ss S k)(h:Rch ss ord bu p):S p≠none->S bu≠none:=by
 induction h with
 | refl=>exact id
 | step Z _ V =>
  intro hs;refine V ?_;cases e:S (sy ss _).1 with
  | none=>exact xX e hs
  | some a =>
   obtain⟨b,W,_⟩:=G _ (O _ Z) a e;rw[W];simp
def Wi:Sp:=λvs H Q _=>∃(c:Int) (a:Ab) (ns:List Int),vs=[.int c,.ref a]/\H a=some (.lst (ns.map V.int))/\ns.length<=1000/\∀H',Same H H'->Q (.bl (decide ((ns.length:Int)=c))) H'
theorem R5:Zd Yt Yt (defScope Xi):=fs7
theorem To(n:Nat):((zV n).filterMap λ_=>some (V.bl true))=(yN n true).map V.bl:=by
 induction n with
 | zero=>rfl
 | succ n G=>rw[wI,xN,G,qW,zZ];rfl
theorem M0(n:Nat):(yN n true).all id=true:=by rw[yA];intro b G;exact(List.mem_replicate.mp G).2
theorem NM(D:Ui K mg f fd)(DW:Yp K mg fw dw)(G:G1 K mg):FnOk P w K mg base CX0 2 f fd Yt Wi:=by
 have GW:FnOk P w K mg base CX0 1 fw dw _ spWhole:=VR DW G;refine D.fn.okA R5 λ_ _ outer _ H vs Q _ hr h=>?_;obtain⟨c,a,ns,rfl,W,hz,k⟩:=h;refine⟨_,Z4 (Zw (PW.pt (Ji (Zy (Zq (pbI G (Z0 (pv 1) (Z0 (UP (by rfl) G.list boot_list) Z3)))))
   (YM (Zl VP (pbL G (Z0 (pv 1) Z3)) (pv 0) (nomark _))))) (Z7 (Ze ZI)) Zh)
  (Z7 (Ze (ZC (Jm rfl) (by rfl) G.all boot_all (Z0
   (ZT (XN:=Yt) (outer:=defScope Xi) (N:=["height"]) (cap:=[none]) (by exact csc (.own .nil)) rfl (Zr (pv 1))
    (λ_ _ _ _ _ _=>pgl 0 (show(["height"]:List Str).Nodup by decide +kernel)) (λ_ _ _ _ _ _=>ZO)
    (λ_ _ _ _ _ _=>pcD DW GW hr (Z0 (pv 0) Z3))) Z3)))),?_⟩
 refine⟨_,rfl,_,_,_,_,_,rfl,.lst W,rfl,G.kll,true,rfl,iteF ?_⟩;refine⟨_,rfl,a,_,rfl,.inl (Z8 W),_,rfl,rfl,_,rfl,?_⟩;refine ite2 (λh0=>?_) (λh0=>?_)
 .have e:decide ((ns.length:Int)=c)=false:=by
   rw[Zp] at h0;simp at h0;exact xW h0
  rw[<-e];exact k H (Za _)
 .have e:decide ((ns.length:Int)=c)=true:=by
   rw[Zp] at h0;simp at h0;exact xV h0
  rw[e] at k;refine⟨_,rfl,a,rfl,⟨_,Z8 W⟩,λq hq=>?_⟩;refine Y0 (outs:=λ_=>some (V.bl true)) (λσ=>∃v,σ=[v]) hq (Z8 W) (by rw[zK];exact Zb hz) ⟨none,rfl⟩ (λi x σc Hc aa No O sm _ ⟨v,hv⟩ Z no=>?_) (λHc sm hD=>?_)
  .rw[zM] at O;cases en:ns[i]? with
   | none=>rw[en] at O;cases O
   | some z =>
    rw[en] at O;cases O;subst hv;exact⟨_,rfl,z,rfl,Z _ _ _ ⟨_,rfl⟩ (Za _) rfl⟩
  .rw[To] at hD;refine⟨q,yN _ true,rfl,Z8 hD,?_⟩;rw[M0];exact k Hc sm
def spAbove:Sp:=λvs H Q _=>∃(b:Ab) (hs:List Int) (one bu:Int),vs=[.ref b,.int one,.int bu]/\H b=some (.lst (hs.map V.int))/\cnt hs.length one=true/\cnt hs.length bu=true/\Q (.int (hs.getD bu.toNat 0-hs.getD one.toNat 0)) H
theorem Kx:Zd Vs Vs (defScope Lz):=fs7
theorem MN(D:UM K mg f fd):FnOk P w K mg base CX0 1 f fd Vs spAbove:=by
 refine D.fn.okA Kx λ_ _ _ _ H vs Q _ O h=>?_;obtain⟨b,hs,one,bu,rfl,G,h1,h2,k⟩:=h;refine⟨_,Z7 (Ze (Zg Ja (Zc Zf (pv 0) (pv 2)) (Zc Zf (pv 0) (pv 1)))),?_⟩;exact⟨_,rfl,_,rfl,b,_,_,_,rfl,rfl,Z8 G,ZM h2,_,rfl,_,rfl,b,_,_,_,rfl,rfl,Z8 G,ZM h1,_,_,rfl,rfl,k⟩
def spKeepOne:Sp:=λvs H Q _=>∃(p b:Ab) (s:Say) (hs:List Int),vs=[.ref p,.ref b]/\H p=some (Ul s)/\H b=some (.lst (hs.map V.int))/\inside hs.length s=true/\Q (.bl (keeps hs s)) H
theorem R3:Zd lst_15 lst_15 (defScope Mp):=fs7
theorem Xr(D:U0 K mg f fd)(V:UM K mg fa da):FnOk P w K mg base CX0 2 f fd lst_15 spKeepOne:=by
 have GA:FnOk P w K mg base CX0 1 fa da _ spAbove:=MN V;refine D.fn.okA R3 λ_ _ _ _ H vs Q _ Z h=>?_;obtain⟨p,b,⟨l,u,n⟩,hs,rfl,O,W,G,k⟩:=h;have O:H p=some (.tup [.int l,.int u,.int n]):=O;unfold inside at G;rw[yI] at G;refine⟨_,Z7 (Ze (ZH QC (pcD V GA Z (Z0 (pv 1) (Z0 (Zc ZF (pv 0) Z6) (Z0 (Zc ZF (pv 0) Z6) Z3)))) (Zc ZF (pv 0) Z6) (nomark _))),?_⟩;exact⟨_,rfl,_,rfl,p,_,_,_,rfl,rfl,Zo O,rfl,_,rfl,p,_,_,_,rfl,rfl,Zo O,rfl,b,hs,l,u,rfl,W,G.1,G.2,_,rfl,p,_,_,_,rfl,rfl,Zo O,rfl,_,_,rfl,rfl,k⟩
def Wh:Sp:=λvs H Q _=>∃(a b:Ab) (ss:List Say) (hs:List Int),vs=[.ref a,.ref b]/\SaysAt H a ss/\ss.length<=1000/\H b=some (.lst (hs.map V.int))/\ss.all (inside hs.length)=true/\∀H',Same H H'->Q (.bl (ss.all (keeps hs))) H'
theorem R4:Zd Qh Qh (defScope Xh):=fs7
theorem NK(D:VB K mg f fd)(DO:U0 K mg fo d1)(DA:UM K mg fa da)(G:G1 K mg):FnOk P w K mg base CX0 3 f fd Qh Wh:=by
 have GO:FnOk P w K mg base CX0 2 fo d1 _ spKeepOne:=Xr DO DA;refine D.fn.okA R4 λ_ _ outer s H vs Q _ hr h=>?_;obtain⟨a,b,ss,hs,rfl,ha,hz,hb,aa,k⟩:=h;obtain⟨ps,ha,Z⟩:=ha.ex;refine⟨_,Z7 (Ze (ZC (Jm rfl) (by rfl) G.all boot_all (Z0
   (ZT (XN:=Qh) (outer:=defScope Xh) (N:=lst_15) (cap:=[none,some 1]) (by exact csc (.own (.cap rfl rfl rfl .nil))) rfl (Zr (pv 0))
    (λ_ _ _ _ _ _=>pgl 0 (show(lst_15:List Str).Nodup by decide +kernel)) (λ_ _ _ _ _ _=>ZO)
    (λ_ _ _ _ _ _=>pcD DO GO hr (Z0 (pv 0) (Z0 (pv 1) Z3)))) Z3))),?_⟩
 refine⟨_,rfl,a,rfl,⟨_,Z8 ha⟩,λq hq=>?_⟩;refine Y0 (outs:=λi=>(ss[i]?).map λs=>V.bl (keeps hs s)) (λσ=>∃v,σ=[v,some (.ref b)]) hq (Z8 ha) (by rw[zK,Z.len];exact Zb hz) ⟨none,rfl⟩ (λi x σc Hc ad No O W _ ⟨v,hv⟩ ac no=>?_) (λHc W hD=>?_)
 .rw[zM] at O;cases ep:ps[i]? with
  | none=>rw[ep] at O;cases O
  | some p =>
   rw[ep] at O;cases O;subst hv;have hl:i<ss.length:=by rw[<-Z.len];exact(zT.mp ep).1
   have es:ss[i]?=some ss[i]:=zN hl;exact⟨_,rfl,_,rfl,p,b,ss[i],hs,rfl,W _ _ (Z.at_ i p _ ep es),W _ _ hb,yA.mp aa _ (xC hl),ac _ _ _ ⟨_,rfl⟩ (Za _) (by rw[es];rfl)⟩
 .rw[zK,Z.len,V1] at hD;refine⟨q,ss.map (keeps hs),rfl,?_,?_⟩
  .rw[xJ];exact Z8 hD
  .rw[uJ];exact k Hc W
def hDue (c:Int)(hs:List Int)(ss:List Say):Bool:=decide ((hs.length:Int)=c)&&ss.all (keeps hs)
def JJ:Sp:=λvs H Q _=>∃(c:Int) (a b:Ab) (ss:List Say) (hs:List Int),vs=[.int c,.ref a,.ref b]/\SaysAt H a ss/\ss.length<=1000/\ss.all (inside c)=true/\H b=some (.lst (hs.map V.int))/\hs.length<=1000/\∀H',Same H H'->Q (.bl (hDue c hs ss)) H'
theorem R8:Zd UJ UJ (defScope Xg):=fs7
theorem NP{k1:Nat}(D:J0 K mg f fd)(DH:Ui K mg fh dh)(Z:FnOk P w K mg base CX0 3 fh dh Yt Wi)(W:VB K mg fk dk)(GK:FnOk P w K mg base CX0 3 fk dk Qh Wh):FnOk P w K mg base CX0 4 f fd UJ JJ:=by
 refine D.fn.okA R8 λ_ _ _ _ H vs Q _ V h=>?_;obtain⟨c,a,b,ss,hs,rfl,ha,hz,G,O,hl,k⟩:=h;refine⟨_,Z7 (Ze (Y1 (pcD DH Z V (Z0 (pv 0) (Z0 (pv 2) Z3))) (Y8 (pcD W GK V (Z0 (pv 1) (Z0 (pv 2) Z3)))))),?_⟩;refine⟨_,rfl,_,rfl,c,b,hs,rfl,O,hl,λH1 s1=>⟨_,rfl,?_⟩⟩;unfold hDue at k;refine ite2 (λh0=>?_) (λh0=>?_)
 .have e:(hs.length:Int)=c:=xU h0;rw[h0,vD] at k;exact⟨_,rfl,_,rfl,a,b,ss,hs,rfl,ha.same s1,hz,s1 _ _ O,by rw[e];exact G,λH2 s2=>k H2 (s1.trans s2)⟩
 .rw[vG.mpr h0,wP] at k;exact k H1 s1
def spHShows(C:Ab):Sp:=λvs H Q _=>∃(x l a:Ab) (c:Int) (ss:List Say) (hs:List Int),vs=[.ref x,.int c,.ref a]/\AnsAt H x C l "heights" hs/\SaysAt H a ss/\ss.length<=1000/\ss.all (inside c)=true/\hs.length<=1000/\∀H',Same H H'->Q (.bl (hDue c hs ss)) H'
theorem Lp:Zd Vt Vt (defScope Jv):=fs7
theorem Rq(F:Fun K "shows" "Heights.shows" Jv f fd)(T:OneK K mg "Heights" "heights" C fI)(V:J0 K mg fk dk)(Z:FnOk P w K mg base CX0 4 fk dk UJ JJ):
  FnOk P w K mg base CX0 5 f fd Vt (spHShows C):=by
 refine F.okA Lp λ_ _ _ _ H vs Q _ hr h=>?_;obtain⟨x,l,a,c,ss,hs,rfl,⟨⟨dx,W⟩,hl⟩,ha,hz,O,G,k⟩:=h;refine⟨_,Z7 (Ze (pcD V Z hr (Z0 (pv 1) (Z0 (pv 2) (Z0 (Zi (pv 0) rfl) Z3))))),?_⟩;exact⟨_,rfl,_,rfl,_,rfl,x,C,dx,_,_,rfl,W,T.cl,T.n,rfl,c,a,l,ss,hs,rfl,ha,hz,O,hl,G,k⟩
def Uz:Sp:=λvs H Q _=>∃(a:Ab) (ss:List Say) (b:Ab) (ns:List Int) (one bu:Int),vs=[.ref a,.ref b,.int one,.int bu]/\SaysAt H a ss/\H b=some (.lst (ns.map V.int))/\ss.length<=1000/\Q (.bl (decide (walk ss ns one=some bu))) H
theorem QP:Zd ["sayings","value","one","other","place","at"] UK (defScope Ly):=fs7
theorem Pf(D:YH K mg f fd)(DC:Y5 K mg fc dc)(DW:Yp K mg fw dw)(G:G1 K mg):FnOk P w K mg base CX0 3 f fd UK Uz:=by
 have GC:FnOk P w K mg base CX0 2 fc dc _ spCounted:=JS DC DW G;refine D.fn.okA QP λ_ _ _ _ H vs Q _ hr h=>?_;obtain⟨a,ss,b,ns,one,bu,rfl,ha,hb,hz,k⟩:=h;obtain⟨ps,ha,hS⟩:=ha.ex;refine⟨_,Z4 (Zw (Zy (Zq (pbI G (Z0 (pv 1) (Z0 (UP (by rfl) G.list boot_list) Z3))))) (Z7 (Ze ZI)) Zh)
  (Z4 (psl 4 QP.nd (pv 2))
  (Z4 (Y4 PassesOwn.never rfl (Zr (pv 1)) (pgl 5 QP.nd)
   (Z4 (Zw (PW.pt (Ji (Zy (Zq (pcD DC GC hr (Z0 (pbL G (Z0 (pv 0) Z3)) (Z0 (pv 5) Z3)))))
     (YM (Zl VP (Zc ZF (Zc Zf (pv 0) (pv 5)) Z6) (pv 4) (nomark _))))) (Z7 (Ze ZI)) Zh)
    (Z7 (psl 4 QP.nd (Zc ZF (Zc Zf (pv 0) (pv 5)) Z6)))))
  (Z7 (Ze (ZH Js (pv 4) (pv 3) (nomark _)))))),?_⟩
 refine⟨_,rfl,_,_,_,_,_,rfl,.lst hb,rfl,G.kll,true,rfl,iteF ?_⟩;refine⟨_,rfl,?_⟩;refine⟨_,rfl,b,rfl,⟨_,Z8 hb⟩,ZX (K:=K) (a:=b) (xs:=ns.map V.int) (λi σ H2=>H2=H/\∃(p:Int) (v:Option V),σ=[some (.ref a),some (.ref b),some (.int one),some (.int bu),some (.int p),v]/\walk ss ns one=walk ss (ns.drop i) p)
  ⟨rfl,one,none,rfl,rfl⟩ (λi σ H2 _ ⟨e,_⟩=>by rw[e];exact Z8 hb) ?_ ?_⟩
 .rintro i y σ H2 hi ⟨rfl,p,v,rfl,W⟩;rw[zM] at hi;cases en:ns[i]? with
  | none=>rw[en] at hi;cases hi
  | some z =>
   rw[en] at hi;cases hi;have ed:ns.drop i=z::ns.drop (i+1):=by
    obtain⟨hl,rfl⟩:=zT.mp en;exact xH hl
   rw[ed] at W;refine⟨_,rfl,a,_,rfl,.inl (Z8 ha),_,rfl,_,z,rfl,_,rfl,?_⟩;have el:((ps.map V.ref).length:Int)=ss.length:=by rw[zK,hS.len]
   rw[el];cases hc:cnt ss.length z with
   | false =>
    have aa:walk ss ns one=none:=by rw[W];unfold walk;rw[hc];rfl
    rw[aa] at k;exact k
   | true =>
    obtain⟨⟨l,u,n⟩,es,h0⟩:=YZ hc;obtain⟨q,eq,hq⟩:=hS.get es;have hq:H2 q=some (.tup [.int l,.int u,.int n]):=hq;have e1:(ps.map V.ref)[z.toNat]?=some (.ref q):=by rw[zM,eq];rfl
    have Z:walk ss ns one=if l=p then walk ss (ns.drop (i+1)) u else none:=by
     rw[W];conv=>lhs;unfold walk
     rw[hc,xY rfl,es]
    refine⟨_,rfl,_,rfl,a,_,_,_,rfl,rfl,Z8 ha,Jn h0 e1,q,_,_,_,rfl,rfl,Zo hq,rfl,_,rfl,rfl,_,rfl,?_⟩;refine ite2 (λO=>?_) (λO=>?_)
    .rw[Zp] at O;have O:¬ l=p:=by simpa using O
     rw[Z,xZ O] at k;exact k
    .rw[Zp] at O;have O:l=p:=by simpa using O
     refine⟨_,rfl,_,rfl,a,_,_,_,rfl,rfl,Z8 ha,Jn h0 e1,q,_,_,_,rfl,rfl,Zo hq,rfl,?_⟩;exact⟨rfl,u,_,rfl,by rw[Z,xY O]⟩
 .rintro σ H2 ⟨rfl,p,v,rfl,W⟩;rw[zK,List.drop_length] at W;refine⟨_,rfl,_,rfl,rfl,?_⟩;have e:decide (V.int p=V.int bu)=decide (walk ss ns one=some bu):=by
   rw[W,Zp,wK];simp[walk]
  rw[e];exact k
def YX:Sp:=λvs H Q _=>∃(a b:Ab) (ss:List Say) (ns:List Int),vs=[.ref a,.ref b]/\SaysAt H a ss/\H b=some (.lst (ns.map V.int))/\ns.length<=1000/\ns.all (cnt ss.length)=true/\∀H',Same H H'->Q (.int (sumC ss ns)) H'
theorem Nv:Zd JV JV (defScope Q8):=fs7
theorem MM(D:Yi K mg f fd)(G:G1 K mg):FnOk P w K mg base CX0 1 f fd JV YX:=by
 refine D.fn.okA Nv λ_ _ outer _ H vs Q _ hr h=>?_;obtain⟨a,b,ss,ns,rfl,ha,hb,hz,aa,k⟩:=h;obtain⟨ps,ha,hS⟩:=ha.ex;refine⟨_,Z7 (Ze (ZC (Vg rfl) (by rfl) G.sum boot_sum (Z0
   (ZT (XN:=JV) (outer:=defScope Q8) (N:=["at","sayings"]) (cap:=[none,some 0]) (by exact csc (.own (.cap rfl rfl rfl .nil))) rfl (Zr (pv 1))
    (λ_ _ _ _ _ _=>pgl 0 (show(["at","sayings"]:List Str).Nodup by decide +kernel)) (λ_ _ _ _ _ _=>ZO)
    (λ_ _ _ _ _ _=>Zc (ixT (K:=K)) (Zc (ixL (K:=K)) (pv 1) (pv 0)) Z6 (λ_ _=>rfl))) Z3))),?_⟩
 refine⟨_,rfl,b,rfl,⟨_,Z8 hb⟩,λq hq=>?_⟩;refine Y0 (outs:=λi=>(ns[i]?).map λz=>V.int (num ss z)) (λσ=>∃v,σ=[v,some (.ref a)]) hq (Z8 hb) (by rw[zK];exact Zb hz) ⟨none,rfl⟩ (λi x σc Hc ad No O W _ ⟨v,hv⟩ ac no=>?_) (λHc W hD=>?_)
 .rw[zM] at O;cases Z:ns[i]? with
  | none=>rw[Z] at O;cases O
  | some z =>
   rw[Z] at O;cases O;subst hv;obtain⟨⟨l,u,n⟩,es,h0⟩:=YZ (yA.mp aa z (yM Z));obtain⟨p,ep,hp⟩:=hS.get es;have hp:Hc p=some (.tup [.int l,.int u,.int n]):=W _ _ hp;have e1:(ps.map V.ref)[z.toNat]?=some (.ref p):=by rw[zM,ep];rfl
   exact⟨_,rfl,_,rfl,a,_,_,_,rfl,rfl,Z8 (W _ _ ha),Jn h0 e1,p,_,_,_,rfl,rfl,Zo hp,rfl,ac _ _ _ ⟨_,rfl⟩ (Za _) (by rw[Z];simp[num,es])⟩
 .rw[zK,V1] at hD;refine⟨q,ns.map (num ss),rfl,?_,k Hc W⟩;rw[xJ];exact Z8 hD
def rDue (ss:List Say)(ns:List Int):Bool:=match ns with
 | []=>false
 | k::r=>cnt ss.length k&&(decide (walk ss (k::r) (sy ss k).1=some (sy ss k).1)&&decide (sumC ss (k::r)<0))
theorem Wt(ss:List Say)(k:Int)(r:List Int):rDue ss (k::r)=(cnt ss.length k&&(decide (walk ss (k::r) (sy ss k).1=some (sy ss k).1)&&decide (sumC ss (k::r)<0))):=rfl
theorem Uk{ss:List Say}:∀(ns:List Int) (p q:Int),walk ss ns p=some q->ns.all (cnt ss.length)=true
 | [],_,_,_=>rfl
 | k::r,p,q,h=>by
  unfold walk at h;cases G:cnt ss.length k with
  | false=>rw[G] at h;cases h
  | true =>
   obtain⟨s,es,_⟩:=YZ G;rw[G,xY rfl,es] at h;dsimp only at h;rw[uW,G,vD];split at h
   .exact Uk r _ _ h
   .cases h
def spRShows(C:Ab):Sp:=λvs H Q _=>∃(x l a:Ab) (c:Int) (ss:List Say) (ns:List Int),vs=[.ref x,.int c,.ref a]/\AnsAt H x C l "chain" ns/\SaysAt H a ss/\ss.length<=1000/\ns.length<=1000/\∀H',Same H H'->Q (.bl (rDue ss ns)) H'
theorem Mn:Zd ["self","count","sayings","place"] Vt (defScope UF):=fs7
theorem Wv(F:Fun K "shows" "Ring.shows" UF f fd)(T:OneK K mg "Ring" "chain" C fI)(DC:Y5 K mg fc dc)(GC:FnOk P w K mg base CX0 3 fc dc Yt spCounted)(DH:YH K mg fh dh)(GH:FnOk P w K mg base CX0 3 fh dh UK Uz)(DS:Yi K mg fs ds)(GS:FnOk P w K mg base CX0 3 fs ds JV YX)(G:G1 K mg):FnOk P w K mg base CX0 4 f fd Vt (spRShows C):=by
 refine F.okA Mn λ_ _ _ _ H vs Q _ hr h=>?_;obtain⟨x,l,a,c,ss,ns,rfl,⟨⟨dx,O⟩,W⟩,ha,hz,aa,k⟩:=h;refine⟨_,Z4 (Zw (PW.pt (Ji (Zl Js (pbL G (Z0 (Zi (pv 0) rfl) Z3)) Z6 (nomark _))
   (YM (Zy (Zq (pcD DC GC hr (Z0 (pbL G (Z0 (pv 2) Z3)) (Z0 (Zc Zf (Zi (pv 0) rfl) Z6) Z3)))))))) (Z7 (Ze ZI)) Zh)
  (Z4 (psl 3 Mn.nd (Zc ZF (Zc Zf (pv 2) (Zc Zf (Zi (pv 0) rfl) Z6)) Z6))
  (Z7 (Ze (Y1 (pcD DH GH hr (Z0 (pv 2) (Z0 (Zi (pv 0) rfl) (Z0 (pv 3) (Z0 (pv 3) Z3)))))
   (Y8 (ZH VQ (pcD DS GS hr (Z0 (pv 2) (Z0 (Zi (pv 0) rfl) Z3))) Z6 (nomark _))))))),?_⟩
 obtain⟨ps,V,hS⟩:=ha.ex;refine⟨_,rfl,x,C,dx,_,_,rfl,O,T.cl,T.n,rfl,l,_,rfl,.inl (Z8 W),rfl,_,rfl,?_⟩;rw[Zp,zK];cases ns with
 | nil =>
  exact k H (Za _)
 | cons z r =>
  rw[show((((z::r).length:Nat):Int)==0)=false from xT.mpr (by rw[xF];lia)]
  refine iteF ?_;refine⟨_,rfl,a,_,rfl,.inl (Z8 V),_,rfl,x,C,dx,_,_,rfl,O,T.cl,T.n,rfl,l,_,_,_,rfl,rfl,Z8 W,Jn (wX 0) rfl,_,z,rfl,_,rfl,?_⟩;rw[zK,hS.len];rw[Wt] at k;cases hc:cnt ss.length z with
  | false =>
   rw[hc,wP] at k;exact k H (Za _)
  | true =>
   rw[hc,vD] at k;obtain⟨q,eq,hq⟩:=VJ hS hc;refine⟨_,rfl,_,rfl,x,C,dx,_,_,rfl,O,T.cl,T.n,rfl,l,_,_,_,rfl,rfl,Z8 W,Jn (wX 0) rfl,a,_,_,_,rfl,rfl,Z8 V,eq,q,_,_,_,rfl,rfl,Zo hq,rfl,?_⟩;refine⟨_,rfl,_,rfl,x,C,dx,_,_,rfl,O,T.cl,T.n,rfl,_,rfl,_,rfl,a,ss,l,z::r,_,_,rfl,ha,W,hz,_,rfl,?_⟩;refine ite2 (λZ=>?_) (λZ=>?_)
   .have ac:=xU Z;rw[Z,vD] at k;exact⟨_,rfl,_,rfl,x,C,dx,_,_,rfl,O,T.cl,T.n,rfl,a,l,ss,z::r,rfl,ha,W,aa,Uk _ _ _ ac,λH2 s2=>⟨_,_,rfl,rfl,k H2 s2⟩⟩
   .rw[vG.mpr Z,wP] at k;exact k H (Za _)
structure TwoK(K:Frag)(mg:Str->Option Aa)(x f1 f2:Str)(C fI:Ab):Prop where
 cl:Cls K C
 n1:YF K C f1
 n2:YF K C f2
 at_:mg x=some (.ref C)
 mK:Mk K C fI
def spTwo(C:Ab)(f1 f2:Str):Sp:=λvs H Q _=>∃(x dx l1 l2:Ab) (ys1 ys2:List V),vs=[.ref x,.ref l1,.ref l2]/\H x=some (.ins C dx [])/\H l1=some (.lst ys1)/\H l2=some (.lst ys2) /\
 ∀(H':Hp) (q1 q2:Ab),H q1=none->H q2=none->q1≠q2->H' x=some (.ins C dx [(f1,.ref q1),(f2,.ref q2)])->H' q1=some (.lst ys1)->H' q2=some (.lst ys2)->(∀b o,b≠x->H b=some o->H' b=some o)->Q .non H'
theorem Kv:Zd XB XB (defScope YK):=fs7
theorem Ln:Zd XD XD (defScope YJ):=fs7
theorem X7{x:Ab}{O W:List V}(hx:H x=some (.ins C dx []))(k:∀(H':Hp) (q1 q2:Ab),H q1=none->H q2=none->q1≠q2->H' x=some (.ins C dx [(f1,.ref q1),(f2,.ref q2)])->H' q1=some (.lst O)->H' q2=some (.lst W)->(∀b o,b≠x->H b=some o->H' b=some o)->Q .non H')(h1:H q1=none)(h2:(upd (upd H q1 (.lst O)) x (.ins C dx [(f1,.ref q1)])) q2=none):
  Q .non (upd (upd (upd (upd H q1 (.lst O)) x (.ins C dx [(f1,.ref q1)])) q2 (.lst W)) x (.ins C dx [(f1,.ref q1),(f2,.ref q2)])):=by
 have Z:x≠q1:=Z1 hx h1;have x2:x≠q2:=λz=>by rw[<-z,Z2] at h2;cases h2
 rw[Z5 x2.symm] at h2;have G:q2≠q1:=λz=>by rw[z,Z2] at h2;cases h2
 rw[Z5 G] at h2;refine k _ q1 q2 h1 h2 G.symm Z2 (by rw[Z5 Z.symm,Z5 G.symm,Z5 Z.symm,Z2]) (by rw[Z5 x2.symm,Z2]) λb o hb e=>?_
 rw[Z5 hb,Z5 (Z1 e h2),Z5 hb,Z5 (Z1 e h1)];exact e
theorem Xt(F:Fun K "__init__" "Fixed.__init__" YK f fd)(T:TwoK K mg "Fixed" "there" "back" C f)(G:G1 K mg):FnOk P w K mg base CX0 1 f fd XB (spTwo C "there" "back"):=by
 refine F.okA Kv λ_ _ _ _ H vs Q _ hr h=>?_;obtain⟨x,dx,l1,l2,ac,aa,rfl,W,h1,h2,k⟩:=h;refine⟨_,Z4 (J8 (pv 0) (Zt Zj (by rfl) G.list boot_list (Z0 (pv 1) Z3)) rfl) (Z7 (J8 (pv 0) (Zt Zj (by rfl) G.list boot_list (Z0 (pv 2) Z3)) rfl)),?_⟩
 refine⟨_,rfl,l1,_,rfl,.inl (Z8 h1),λq1 O=>?_⟩;have x1:x≠q1:=Z1 W O;refine⟨_,rfl,x,C,dx,[],rfl,by rw[Z5 x1];exact W,T.cl,T.n1,(by show 0<1000;decide),?_⟩
 have Z:l2≠x:=YL h2 W (by intro z;cases z)
 refine⟨_,rfl,l2,_,rfl,.inl (Z8 (by rw[Z5 Z,Z5 (Z1 h2 O)];exact h2)),λq2 V=>?_⟩
 have x2:x≠q2:=λz=>by rw[<-z,Z2] at V;cases V
 exact⟨_,rfl,x,C,dx,[("there",.ref q1)],rfl,by rw[Z5 x2,Z2];rfl,T.cl,T.n2,(by show 1<1000;decide),X7 W k O V⟩
theorem Wx(F:Fun K "__init__" "Loose.__init__" YJ f fd)(T:TwoK K mg "Loose" "first" "second" C f)(G:G1 K mg):FnOk P w K mg base CX0 1 f fd XD (spTwo C "first" "second"):=by
 refine F.okA Ln λ_ _ _ _ H vs Q _ hr h=>?_;obtain⟨x,dx,l1,l2,ac,aa,rfl,W,h1,h2,k⟩:=h;refine⟨_,Z4 (J8 (pv 0) (Zt Zj (by rfl) G.list boot_list (Z0 (pv 1) Z3)) rfl) (Z7 (J8 (pv 0) (Zt Zj (by rfl) G.list boot_list (Z0 (pv 2) Z3)) rfl)),?_⟩
 refine⟨_,rfl,l1,_,rfl,.inl (Z8 h1),λq1 O=>?_⟩;have x1:x≠q1:=Z1 W O;refine⟨_,rfl,x,C,dx,[],rfl,by rw[Z5 x1];exact W,T.cl,T.n1,(by show 0<1000;decide),?_⟩
 have Z:l2≠x:=YL h2 W (by intro z;cases z)
 refine⟨_,rfl,l2,_,rfl,.inl (Z8 (by rw[Z5 Z,Z5 (Z1 h2 O)];exact h2)),λq2 V=>?_⟩
 have x2:x≠q2:=λz=>by rw[<-z,Z2] at V;cases V
 exact⟨_,rfl,x,C,dx,[("first",.ref q1)],rfl,by rw[Z5 x2,Z2];rfl,T.cl,T.n2,(by show 1<1000;decide),X7 W k O V⟩
structure AnsTwo(H:Hp)(x C:Ab)(f1 f2:Str)(l1 l2:Ab)(xs ys:List Int):Prop where
 ex:∃dx,H x=some (.ins C dx [(f1,.ref l1),(f2,.ref l2)])
 h1:H l1=some (.lst (xs.map V.int))
 h2:H l2=some (.lst (ys.map V.int))
 ne:l1≠l2
theorem AnsTwo.same{x:Ab}(h:AnsTwo H x C f1 f2 l1 l2 xs ys)(e:Same H H'):AnsTwo H' x C f1 f2 l1 l2 xs ys:=by
 obtain⟨dx,G⟩:=h.ex;exact⟨⟨dx,e _ _ G⟩,e _ _ h.h1,e _ _ h.h2,h.ne⟩
def fixC (cF cL:Ab)(b:Bool):Ab:=cond b cF cL
def fx1 (b:Bool):Str:=cond b "there" "first"
def fx2 (b:Bool):Str:=cond b "back" "second"
def UO(b:Bool)(c:Int)(ss:List Say)(one bu:Int)(xs ys:List Int):Bool:=cond b
 (decide (walk ss xs one=some bu)&&(decide (walk ss ys bu=some one)&&decide (sumC ss xs+sumC ss ys=0)))
 (hDue c xs ss&&(hDue c ys ss && !decide (gt xs bu-gt xs one=gt ys bu-gt ys one)))
def spShow(b:Bool)(C:Ab):Sp:=λvs H Q _=>∃(x l1 l2 a:Ab) (c one bu:Int) (ss:List Say) (xs ys:List Int),vs=[.ref x,.int c,.ref a,.int one,.int bu]/\AnsTwo H x C (fx1 b) (fx2 b) l1 l2 xs ys/\SaysAt H a ss/\ss.length<=1000/\ss.all (inside c)=true/\xs.length<=1000/\ys.length<=1000/\cnt c one=true/\cnt c bu=true/\∀H',Same H H'->Q (.bl (UO b c ss one bu xs ys)) H'
theorem Ls:Zd YY YY (defScope Ue):=fs7
theorem Wz(F:Fun K "shows" "Fixed.shows" Ue f fd)(T:TwoK K mg "Fixed" "there" "back" C fI)(DH:YH K mg fh dh)(GH:FnOk P w K mg base CX0 4 fh dh UK Uz)(DS:Yi K mg fs ds)(GS:FnOk P w K mg base CX0 4 fs ds JV YX):FnOk P w K mg base CX0 5 f fd YY (spShow true C):=by
 refine F.okA Ls λ_ _ _ _ H vs Q _ W h=>?_;obtain⟨x,l1,l2,a,c,one,bu,ss,xs,ys,rfl,an,Z,hz,aa,hx,hy,_,_,k⟩:=h;refine⟨_,Z4 (Zw (PW.pt (Ji (Zy (Zq (pcD DH GH W (Z0 (pv 2) (Z0 (Zi (pv 0) rfl) (Z0 (pv 3) (Z0 (pv 4) Z3)))))))
   (YM (Zy (Zq (pcD DH GH W (Z0 (pv 2) (Z0 (Zi (pv 0) rfl) (Z0 (pv 4) (Z0 (pv 3) Z3)))))))))) (Z7 (Ze ZI)) Zh)
  (Z7 (Ze (ZH Js (Zg Yd (pcD DS GS W (Z0 (pv 2) (Z0 (Zi (pv 0) rfl) Z3))) (pcD DS GS W (Z0 (pv 2) (Z0 (Zi (pv 0) rfl) Z3)))) Z6 (nomark _)))),?_⟩
 obtain⟨⟨dx,G⟩,h1,h2,ne⟩:=id an;unfold UO at k;refine⟨_,rfl,_,rfl,x,C,dx,_,_,rfl,G,T.cl,T.n1,rfl,_,rfl,_,rfl,a,ss,l1,xs,one,bu,rfl,Z,h1,hz,_,rfl,?_⟩;cases V:decide (walk ss xs one=some bu) with
 | false=>rw[V] at k;exact k H (Za _)
 | true =>
  rw[V] at k;refine iteF ?_;refine⟨_,rfl,_,rfl,x,C,dx,_,_,rfl,G,T.cl,T.n2,rfl,_,rfl,_,rfl,a,ss,l2,ys,bu,one,rfl,Z,h2,hz,_,rfl,?_⟩;cases O:decide (walk ss ys bu=some one) with
  | false=>rw[O] at k;exact k H (Za _)
  | true =>
   rw[O] at k;refine iteF ?_;refine⟨_,rfl,_,rfl,x,C,dx,_,_,rfl,G,T.cl,T.n1,rfl,a,l1,ss,xs,rfl,Z,h1,hx,Uk _ _ _ (xU V),λH1 s1=>?_⟩;refine⟨_,rfl,_,rfl,x,C,dx,_,_,rfl,s1 _ _ G,T.cl,T.n2,rfl,a,l2,ss,ys,rfl,Z.same s1,s1 _ _ h2,hy,Uk _ _ _ (xU O),λH2 s2=>?_⟩;refine⟨_,_,rfl,rfl,rfl,?_⟩
   have:=k H2 (s1.trans s2)
   rw[Zp];rw[show(sumC ss xs+sumC ss ys==(0:Int))=decide (sumC ss xs+sumC ss ys=0) from rfl]
   exact this
theorem Lo:Zd YY YY (defScope Ud):=fs7
theorem Ro(F:Fun K "shows" "Loose.shows" Ud f fd)(T:TwoK K mg "Loose" "first" "second" C fI)(DK:J0 K mg fk dk)(GK:FnOk P w K mg base CX0 4 fk dk UJ JJ)(DA:UM K mg fa da)(GA:FnOk P w K mg base CX0 4 fa da Vs spAbove):FnOk P w K mg base CX0 5 f fd YY (spShow false C):=by
 refine F.okA Lo λ_ _ _ _ H vs Q _ hr h=>?_;obtain⟨x,l1,l2,a,c,one,bu,ss,xs,ys,rfl,an,ha,hz,Z,hx,hy,co,ct,k⟩:=h;refine⟨_,Z4 (Zw (PW.pt (Ji (Zy (Zq (pcD DK GK hr (Z0 (pv 1) (Z0 (pv 2) (Z0 (Zi (pv 0) rfl) Z3))))))
   (YM (Zy (Zq (pcD DK GK hr (Z0 (pv 1) (Z0 (pv 2) (Z0 (Zi (pv 0) rfl) Z3))))))))) (Z7 (Ze ZI)) Zh)
  (Z7 (Ze (ZH VP (pcD DA GA hr (Z0 (Zi (pv 0) rfl) (Z0 (pv 3) (Z0 (pv 4) Z3)))) (pcD DA GA hr (Z0 (Zi (pv 0) rfl) (Z0 (pv 3) (Z0 (pv 4) Z3)))) (nomark _)))),?_⟩
 obtain⟨⟨dx,W⟩,h1,h2,ne⟩:=id an;unfold UO at k;refine⟨_,rfl,_,rfl,_,rfl,x,C,dx,_,_,rfl,W,T.cl,T.n1,rfl,c,a,l1,ss,xs,rfl,ha,hz,Z,h1,hx,λH1 s1=>⟨_,rfl,?_⟩⟩;cases V:hDue c xs ss with
 | false=>rw[V] at k;exact k H1 s1
 | true =>
  rw[V] at k;refine iteF ?_;refine⟨_,rfl,_,rfl,_,rfl,x,C,dx,_,_,rfl,s1 _ _ W,T.cl,T.n2,rfl,c,a,l2,ss,ys,rfl,ha.same s1,hz,Z,s1 _ _ h2,hy,λH2 s2=>⟨_,rfl,?_⟩⟩;have G:=s1.trans s2;cases O:hDue c ys ss with
  | false=>rw[O] at k;exact k H2 G
  | true =>
   rw[O] at k;refine iteF ?_;have lx:(xs.length:Int)=c:=by
    unfold hDue at V;rw[yI] at V;exact xU V.1
   have ly:(ys.length:Int)=c:=by
    unfold hDue at O;rw[yI] at O;exact xU O.1
   refine⟨_,rfl,x,C,dx,_,_,rfl,G _ _ W,T.cl,T.n1,rfl,_,rfl,_,rfl,l1,xs,one,bu,rfl,G _ _ h1,by rw[lx];exact co,by rw[lx];exact ct,?_⟩
   refine⟨_,rfl,x,C,dx,_,_,rfl,G _ _ W,T.cl,T.n2,rfl,_,rfl,_,rfl,l2,ys,one,bu,rfl,G _ _ h2,by rw[ly];exact co,by rw[ly];exact ct,rfl,?_⟩
   have:=k H2 G
   rw[Zp];exact this
theorem Lr:Zd XE XE (defScope Yn):=fs7
theorem Lq:Zd Xz Xz (defScope YT):=fs7
theorem Qd(F:Fun K "__init__" "Follows.__init__" Yn f fd)(T:TwoK K mg "Follows" "chain" "heights" C f)(G:G1 K mg):FnOk P w K mg base CX0 1 f fd XE (spTwo C "chain" "heights"):=by
 refine F.okA Lr λ_ _ _ _ H vs Q _ hr h=>?_;obtain⟨x,dx,l1,l2,ac,aa,rfl,W,h1,h2,k⟩:=h;refine⟨_,Z4 (J8 (pv 0) (Zt Zj (by rfl) G.list boot_list (Z0 (pv 1) Z3)) rfl) (Z7 (J8 (pv 0) (Zt Zj (by rfl) G.list boot_list (Z0 (pv 2) Z3)) rfl)),?_⟩
 refine⟨_,rfl,l1,_,rfl,.inl (Z8 h1),λq1 O=>?_⟩;have x1:x≠q1:=Z1 W O;refine⟨_,rfl,x,C,dx,[],rfl,by rw[Z5 x1];exact W,T.cl,T.n1,(by show 0<1000;decide),?_⟩
 have Z:l2≠x:=YL h2 W (by intro z;cases z)
 refine⟨_,rfl,l2,_,rfl,.inl (Z8 (by rw[Z5 Z,Z5 (Z1 h2 O)];exact h2)),λq2 V=>?_⟩
 have x2:x≠q2:=λz=>by rw[<-z,Z2] at V;cases V
 exact⟨_,rfl,x,C,dx,[("chain",.ref q1)],rfl,by rw[Z5 x2,Z2];rfl,T.cl,T.n2,(by show 1<1000;decide),X7 W k O V⟩
theorem Wy(F:Fun K "__init__" "Free.__init__" YT f fd)(T:OneK K mg "Free" "places" C f)(G:G1 K mg):FnOk P w K mg base CX0 1 f fd Xz (spOne C "places"):=by
 refine F.okA Lq λ_ _ _ _ H vs Q _ Z h=>?_;obtain⟨x,dx,l,ys,rfl,V,W,k⟩:=h;refine⟨_,Z7 (J8 (pv 0) (Zt Zj (by rfl) G.list boot_list (Z0 (pv 1) Z3)) rfl),?_⟩
 refine⟨_,rfl,l,_,rfl,.inl (Z8 W),λq O=>?_⟩;exact⟨_,rfl,x,C,dx,[],rfl,by rw[Z5 (Z1 V O)];exact V,T.cl,T.n,(by show 0<1000;decide),k q O⟩
def AnsW (H:Hp)(x cF cR:Ab)(b:Bool)(l1 l2:Ab)(xs ys:List Int):Prop:=cond b (AnsTwo H x cF "chain" "heights" l1 l2 xs ys) (AnsAt H x cR l1 "places" xs)
theorem AnsW.same{H H':Hp}{x cF cR:Ab}{b:Bool}{l1 l2:Ab}{xs ys:List Int}(h:AnsW H x cF cR b l1 l2 xs ys)(e:Same H H'):AnsW H' x cF cR b l1 l2 xs ys:=by
 cases b with
 | true=>exact AnsTwo.same (show AnsTwo H x cF "chain" "heights" l1 l2 xs ys from h) e
 | false=>exact AnsAt.same (show AnsAt H x cR l1 "places" xs from h) e
def UB(c:Int)(xs:List Int):Bool:=(zV xs.length).all λi=>cnt c (xs.getD i 0)&&(decide (i=0) || decide (xs.getD (i-1) 0<xs.getD i 0))
def YV(xs:List Int)(s:Say):Bool:=!(decide (s.2.1∈xs) && !decide (s.1∈xs))
def Wm(b:Bool)(c:Int)(ss:List Say)(one bu:Int)(xs ys:List Int):Bool:=cond b
 (decide (walk ss xs one=some bu)&&(hDue c ys ss&&decide (gt ys bu-gt ys one=sumC ss xs)))
 (UB c xs&&(!decide (one∈xs)&&(decide (bu∈xs)&&ss.all (YV xs))))
def spShowW(b:Bool)(cF cR:Ab):Sp:=λvs H Q _=>∃(x l1 l2 a:Ab) (c one bu:Int) (ss:List Say) (xs ys:List Int),vs=[.ref x,.int c,.ref a,.int one,.int bu]/\AnsW H x cF cR b l1 l2 xs ys/\SaysAt H a ss/\ss.length<=1000/\ss.all (inside c)=true/\xs.length<=1000/\ys.length<=1000/\cnt c one=true/\cnt c bu=true/\∀H',Same H H'->Q (.bl (Wm b c ss one bu xs ys)) H'
theorem R6:Zd YY YY (defScope Jw):=fs7
theorem Xs(F:Fun K "shows" "Follows.shows" Jw f fd)(T:TwoK K mg "Follows" "chain" "heights" C fI)(DH:YH K mg fh dh)(GH:FnOk P w K mg base CX0 4 fh dh UK Uz)(DK:J0 K mg fk dk)(GK:FnOk P w K mg base CX0 4 fk dk UJ JJ)(DA:UM K mg fa da)(GA:FnOk P w K mg base CX0 4 fa da Vs spAbove)(DS:Yi K mg fs ds)(GS:FnOk P w K mg base CX0 4 fs ds JV YX):FnOk P w K mg base CX0 5 f fd YY (spShowW true C cR):=by
 refine F.okA R6 λ_ _ _ _ H vs Q _ W h=>?_;obtain⟨x,l1,l2,a,c,one,bu,ss,xs,ys,rfl,an,ha,hz,Z,hx,hy,co,ct,k⟩:=h;refine⟨_,Z4 (Zw (PW.pt (Ji (Zy (Zq (pcD DH GH W (Z0 (pv 2) (Z0 (Zi (pv 0) rfl) (Z0 (pv 3) (Z0 (pv 4) Z3)))))))
   (YM (Zy (Zq (pcD DK GK W (Z0 (pv 1) (Z0 (pv 2) (Z0 (Zi (pv 0) rfl) Z3))))))))) (Z7 (Ze ZI)) Zh)
  (Z7 (Ze (ZH Js (pcD DA GA W (Z0 (Zi (pv 0) rfl) (Z0 (pv 3) (Z0 (pv 4) Z3)))) (pcD DS GS W (Z0 (pv 2) (Z0 (Zi (pv 0) rfl) Z3))) (nomark _)))),?_⟩
 obtain⟨⟨dx,O⟩,h1,h2,ne⟩:=(show AnsTwo H x C "chain" "heights" l1 l2 xs ys from an)
 unfold Wm at k;refine⟨_,rfl,_,rfl,x,C,dx,_,_,rfl,O,T.cl,T.n1,rfl,_,rfl,_,rfl,a,ss,l1,xs,one,bu,rfl,ha,h1,hz,_,rfl,?_⟩;cases V:decide (walk ss xs one=some bu) with
 | false=>rw[V] at k;exact k H (Za _)
 | true =>
  rw[V] at k;refine iteF ?_;refine⟨_,rfl,_,rfl,_,rfl,x,C,dx,_,_,rfl,O,T.cl,T.n2,rfl,c,a,l2,ss,ys,rfl,ha,hz,Z,h2,hy,λH1 s1=>⟨_,rfl,?_⟩⟩;cases G:hDue c ys ss with
  | false=>rw[G] at k;exact k H1 s1
  | true =>
   rw[G] at k;refine iteF ?_;have ly:(ys.length:Int)=c:=by
    unfold hDue at G;rw[yI] at G;exact xU G.1
   refine⟨_,rfl,x,C,dx,_,_,rfl,s1 _ _ O,T.cl,T.n2,rfl,_,rfl,_,rfl,l2,ys,one,bu,rfl,s1 _ _ h2,by rw[ly];exact co,by rw[ly];exact ct,?_⟩
   refine⟨_,rfl,_,rfl,x,C,dx,_,_,rfl,s1 _ _ O,T.cl,T.n1,rfl,a,l1,ss,xs,rfl,ha.same s1,s1 _ _ h1,hx,Uk _ _ _ (xU V),λH2 s2=>⟨rfl,?_⟩⟩
   have:=k H2 (s1.trans s2)
   rw[Zp];exact this
def G2:Sp:=λvs H Q _=>∃(c:Int) (l:Ab) (xs:List Int),vs=[.int c,.ref l]/\H l=some (.lst (xs.map V.int))/\xs.length<=1000/\∀H',Same H H'->Q (.bl (UB c xs)) H'
theorem G8:Zd ["count","places","at","place"] XA (defScope Jy):=fs7
theorem QB{c:Int}(hi:i<xs.length)(h:(cnt c (xs.getD i 0)&&(decide (i=0) || decide (xs.getD (i-1) 0<xs.getD i 0)))=false):UB c xs=false:=by
 unfold UB;cases e:(zV xs.length).all λi=>cnt c (xs.getD i 0)&&(decide (i=0) || decide (xs.getD (i-1) 0<xs.getD i 0)) with
 | false=>rfl
 | true =>
  have:=yA.mp e i (xB.mpr hi)
  rw[h] at this;cases this
theorem WM{y:V}(h:(xs.map V.int)[i]?=some y):i<xs.length/\y = .int (xs.getD i 0):=by
 rw[zM] at h;cases e:xs[i]? with
 | none=>rw[e] at h;cases h
 | some z =>
  rw[e] at h;cases h;refine⟨(zT.mp e).1,?_⟩;rw[wO,e];rfl
theorem P5(D:Yg K mg f fd)(DC:Y5 K mg fc dc)(DW:Yp K mg fw dw)(G:G1 K mg):FnOk P w K mg base CX0 4 f fd XA G2:=by
 have GC:FnOk P w K mg base CX0 3 fc dc _ spCounted:=(JS DC DW G).mono (by decide)
 refine D.fn.okA G8 λ_ _ _ _ H vs Q _ hr h=>?_;obtain⟨c,l,xs,rfl,hl,hz,k⟩:=h;refine⟨_,Z4 (Y4 PassesOwn.never rfl (QR (by rfl) G.enumerate (Z0 (pv 1) Z3)) (Uc rfl (Zk (pgl 2 G8.nd) (Zk (pgl 3 G8.nd) Yw)))
   (Z7 (Zw (PW.pt (Ji (Zy (Zq (pcD DC GC hr (Z0 (pv 0) (Z0 (pv 3) Z3))))) (YM (PW.pt (Q9 (Zl Tb (pv 2) Z6 (nomark _)) (Vb (Zl ED (Zc Zf (pv 1) (Zg Ja (pv 2) Z6)) (pv 3) (nomark _)))))))) (Z7 (Ze ZI)) Zh)))
  (Z7 (Ze ZI)),?_⟩
 refine⟨_,rfl,l,rfl,⟨_,Z8 hl⟩,PV (K:=K) (a:=l) (xs:=xs.map V.int) (λi σ H2=>Same H H2/\(∃v2 v3,σ=[some (.int c),some (.ref l),v2,v3])/\∀j,j<i->(cnt c (xs.getD j 0)&&(decide (j=0) || decide (xs.getD (j-1) 0<xs.getD j 0)))=true)
  ⟨Za _,⟨none,none,rfl⟩,λj hj=>by lia⟩ (λi σ H2 _ ⟨s2,_⟩=>Z8 (s2 _ _ hl)) ?_ ?_⟩
 .rintro i y t σ H2 hi ⟨s2,⟨v2,v3,rfl⟩,hb⟩ ht;obtain⟨O,rfl⟩:=WM hi;have st:=Z9 (o:=.tup [V.int (i:Nat),V.int (xs.getD i 0)]) ht;have e1:(upd H2 t (.tup [V.int (i:Nat),V.int (xs.getD i 0)])) t=some (.tup [V.int (i:Nat),V.int (xs.getD i 0)]):=Z2;generalize upd H2 t (.tup [V.int (i:Nat),V.int (xs.getD i 0)])=H3 at st e1;have W:=s2.trans st;refine⟨t,_,rfl,Zo e1,rfl,_,_,rfl,_,_,rfl,rfl,?_⟩;refine⟨_,rfl,_,rfl,c,xs.getD i 0,rfl,_,rfl,?_⟩;cases Z:cnt c (xs.getD i 0) with
  | false =>
   have:=k H3 W
   rw[QB O (by rw[Z];rfl)] at this
   exact this
  | true =>
   refine iteF ?_;refine⟨_,rfl,_,_,rfl,rfl,_,rfl,?_⟩;by_cases h0:i=0
   .subst h0;rw[show decide (((0:Nat):Int)>0)=false from rfl]
    refine iteF ?_;refine⟨W,⟨_,_,rfl⟩,λj hj=>?_⟩
    have:j=0:=by lia
    subst this;rw[Z];rfl
   .rw[xV (show((i:Nat):Int)>0 by lia)]
    refine iteT ?_;have ei:((i:Nat):Int)-1=((i-1:Nat):Int):=by lia
    refine⟨_,rfl,_,rfl,_,_,rfl,rfl,l,_,((i:Nat):Int)-1,.int (xs.getD (i-1) 0),rfl,rfl,Z8 (W _ _ hl),?_,_,rfl,_,_,rfl,rfl,_,rfl,?_⟩
    .rw[ei];exact ZM (Zm.mpr ⟨by lia,by lia⟩)
    .by_cases hg:xs.getD (i-1) 0<xs.getD i 0
     .rw[xW (show ¬ xs.getD i 0<=xs.getD (i-1) 0 by lia)]
      refine iteF ?_;refine⟨W,⟨_,_,rfl⟩,λj hj=>?_⟩;by_cases e:j=i
      .subst e;rw[Z,xV hg,jD];rfl
      .exact hb j (by lia)
     .rw[xV (show xs.getD i 0<=xs.getD (i-1) 0 by lia)]
      have:=k H3 W
      rw[QB O (by rw[Z,xW hg,xW h0];rfl)] at this
      exact iteT this
 .rintro σ H2 ⟨s2,⟨v2,v3,rfl⟩,hb⟩
  have:=k H2 s2
  rw[show UB c xs=true from yA.mpr λi hi=>hb i (by rw[zK];exact xB.mp hi)] at this
  exact this
theorem Q5:Zd Pp YY (defScope JH):=fs7
def memB (xs:List Int):Int->Bool:=λk=>decide (k∈xs)
theorem NN(F:Fun K "shows" "Free.shows" JH f fd)(T:OneK K mg "Free" "places" C fI)(al:Yg K mg fr dr)(GR:FnOk P w K mg base CX0 4 fr dr XA G2)(G:G1 K mg):
  FnOk P w K mg base CX0 5 f fd YY (spShowW false cF C):=by
 refine F.okA Q5 λ_ _ outer s H vs Q _ hr h=>?_;obtain⟨x,l1,l2,a,c,one,bu,ss,xs,ys,rfl,an,ha,hz,ap,hx,hy,co,ct,k⟩:=h;have hu:=Jz hr;refine⟨_,Z4 (Zw (Zy (Zq (pcD al GR hr (Z0 (pv 1) (Z0 (Zi (pv 0) rfl) Z3))))) (Z7 (Ze ZI)) Zh)
  (Z4 (Qa (i:=5) Q5.nd rfl (Or.inr rfl) Jr)
  (Z4 (Y4 PassesOwn.never rfl (Zr (Zi (pv 0) rfl)) (pgl 6 Q5.nd) (Z7 (UC hu (pv 5) (pv 6) ZI rfl)))
  (Z4 (Zw (PW.pt (Ji (Jk (Qc hu (pv 3) (pv 5))) (YM (Jk (J2 hu (pv 4) (pv 5)))))) (Z7 (Ze ZI)) Zh)
  (Z7 (Ze (Qb (ZC (WR rfl) (by rfl) G.any boot_any (Z0
   (ZT (XN:=Pp) (outer:=defScope JH) (N:=["saying","moved"]) (cap:=[none,some 5]) (by exact csc (.own (.cap rfl rfl rfl .nil))) rfl (Zr (pv 2))
    (λ_ _ _ _ _ _=>pgl 0 (show(["saying","moved"]:List Str).Nodup by decide +kernel)) (λ_ _ _ _ _ _=>ZO)
    (λ_ _ _ _ _ _=>Y1 (LY (Qc hu (Zc (ixT (K:=K)) (pv 0) Z6) (pv 1))) (Y8 (LY (J2 hu (Zc (ixT (K:=K)) (pv 0) Z6) (pv 1)))))) Z3)))))))),?_⟩
 obtain⟨⟨dx,ag⟩,h1⟩:=(show AnsAt H x C l1 "places" xs from an)
 obtain⟨ps,ak,hS⟩:=ha.ex;unfold Wm at k;refine⟨_,rfl,_,rfl,x,C,dx,_,_,rfl,ag,T.cl,T.n,rfl,c,l1,xs,rfl,h1,hx,λH1 s1=>⟨_,rfl,?_⟩⟩;cases aa:UB c xs with
 | false=>rw[aa] at k;exact k H1 s1
 | true =>
  rw[aa] at k;refine iteF ?_;intro U hU;have s2:=Z9 (o:=.dK []) hU;have eU:(upd H1 U (.dK [])) U=some (.dK []):=Z2;generalize upd H1 U (.dK [])=H2 at s2 eU;have Z:=s1.trans s2;have ao:∀y∈xs,cnt c y=true:=λy hy=>by
   obtain⟨i,hi,e⟩:=xO.mp hy
   have:=yA.mp aa i (xB.mpr hi)
   rw[yI] at this;have e2:xs.getD i 0=y:=by rw[wO,zN hi,<-e];rfl
   rw[e2] at this;exact this.1
  have ah:H U=none:=s1.free hU;refine⟨_,rfl,x,C,dx,_,_,rfl,Z _ _ ag,T.cl,T.n,rfl,l1,rfl,⟨_,Z8 (Z _ _ h1)⟩,ZX (K:=K) (a:=l1) (xs:=xs.map V.int) (λi σ H3=>(∃v6,σ=[some (.ref x),some (.int c),some (.ref a),some (.int one),some (.int bu),some (.ref U),v6])/\(∀b o,b≠U->H2 b=some o->H3 b=some o)/\∃ks,H3 U=some (.dK ks)/\DR ks (bS (memB (xs.take i)))/\ks.length<=i)
   ⟨⟨none,rfl⟩,λb o _ e=>e,[],eU,?_,zO _⟩ (λi σ H3 _ ⟨_,kp,_⟩=>Z8 (kp _ _ (Z1 h1 ah) (Z _ _ h1))) ?_ ?_⟩
  .have e:bS (memB (xs.take 0))=λ_=>none:=by
    funext k;unfold bS memB;simp
   rw[e];exact DR.nil
  .rintro i y σ H3 hi ⟨⟨v6,rfl⟩,kp,ks,O,rU,am⟩;obtain⟨ac,rfl⟩:=WM hi;refine⟨_,rfl,_,rfl,U,_,rfl,DPut.k (k:=Sum.inl (xs.getD i 0)) O (Zb (by lia)),?_⟩
   refine⟨⟨_,rfl⟩,λb o hb e=>by rw[Z5 hb];exact kp b o hb e,_,Z2,?_,?_⟩
   .have r8:=rU.bput (xs.getD i 0);have e:putB (memB (xs.take i)) (xs.getD i 0)=memB (xs.take (i+1)):=by
     funext k;unfold putB memB;have e2:xs.take (i+1)=xs.take i++[xs.getD i 0]:=by rw[xM,zN ac,wO,zN ac];rfl
     rw[e2];by_cases q:k=xs.getD i 0
     .rw[xY q];exact(xV (by rw[q];simp)).symm
     .rw[xZ q];exact decide_eq_decide.mpr ⟨λh=>xG _ h,λh=>(yC.mp h).resolve_right λz=>q (yO.mp z)⟩
    rw[e] at r8;exact r8
   .by_cases q:bS (memB (xs.take i)) (xs.getD i 0)=none
    .rw[rU.put_new _ q];lia
    .rw[rU.put_old _ q];lia
  .rintro σ H3 ⟨⟨v6,rfl⟩,kp,ks,O,rU,am⟩;rw[zK,wE] at rU;have s3:Same H H3:=λb o e=>kp b o (Z1 e ah) (Z b o e);have W:∀k,(bS (memB xs) k).isSome=decide (k∈xs):=λk=>by unfold bS memB;by_cases q:k∈xs <;> simp[q]
   refine⟨_,rfl,_,rfl,U,_,rfl,.inl ⟨ks,Sum.inl one,.inl O,rfl,rfl⟩,_,rfl,?_⟩;rw[rU.at_,W];cases af:decide (one∈xs) with
   | true=>rw[af] at k;exact k H3 s3
   | false =>
    rw[af] at k;refine iteF ?_;refine⟨_,rfl,_,rfl,U,_,rfl,.inl ⟨ks,Sum.inl bu,.inl O,rfl,rfl⟩,_,rfl,?_⟩;rw[rU.at_,W];cases ai:decide (bu∈xs) with
    | false=>rw[ai] at k;exact k H3 s3
    | true =>
     rw[ai] at k;refine iteF ?_;have aj:=s3 _ _ ak;refine⟨_,rfl,a,rfl,⟨_,Z8 aj⟩,λq hq=>?_⟩;refine Y0 (outs:=λi=>(ss[i]?).map λs=>V.bl (decide (s.2.1∈xs) && !decide (s.1∈xs))) (λσ=>∃v,σ=[v,some (.ref U)]) hq (Z8 aj) (by rw[zK,hS.len];exact Zb hz) ⟨none,rfl⟩ (λi x σc Hc aq No hx sm _ ⟨v,hv⟩ ad no=>?_) (λHc sm hD=>?_)
     .rw[zM] at hx;cases ep:ps[i]? with
      | none=>rw[ep] at hx;cases hx
      | some p =>
       rw[ep] at hx;cases hx;subst hv;have hl:i<ss.length:=by rw[<-hS.len];exact(zT.mp ep).1
       have es:ss[i]?=some ss[i]:=zN hl;have hp:=sm _ _ (s3 _ _ (hS.at_ i p _ ep es));generalize ss[i]=sa at es hp;obtain⟨lo,up,n⟩:=sa;have hp:Hc p=some (.tup [.int lo,.int up,.int n]):=hp;refine⟨_,rfl,p,_,_,_,rfl,rfl,Zo hp,rfl,_,rfl,U,_,rfl,.inl ⟨ks,Sum.inl up,.inl (sm _ _ O),rfl,rfl⟩,_,rfl,?_⟩;rw[rU.at_,W];cases ae:decide (up∈xs) with
       | false=>exact iteF (ad _ _ _ ⟨_,rfl⟩ (Za _) (by rw[es];show some (V.bl (decide (up∈xs)&&_))=_;rw[ae];rfl))
       | true =>
        refine iteT ?_;refine⟨_,rfl,p,_,_,_,rfl,rfl,Zo hp,rfl,_,rfl,U,_,rfl,.inl ⟨ks,Sum.inl lo,.inl (sm _ _ O),rfl,rfl⟩,?_⟩;rw[rU.at_,W];exact ad _ _ _ ⟨_,rfl⟩ (Za _) (by rw[es];show some (V.bl (decide (up∈xs) && !decide (lo∈xs)))=_;rw[ae];rfl)
     .rw[zK,hS.len,V1] at hD;refine⟨q,ss.map (λs=>decide (s.2.1∈xs) && !decide (s.1∈xs)),rfl,?_,?_⟩
      .rw[xJ];exact Z8 hD
      .have:=k Hc (s3.trans sm)
       rw[show(true&&(!false&&(true&&ss.all (YV xs)))) = !(ss.map (λs=>decide (s.2.1∈xs) && !decide (s.1∈xs))).any id from ?_] at this
       .exact⟨_,rfl,this⟩
       .rw[List.any_map];show ss.all (YV xs)=_;unfold YV;rw[List.not_any_eq_all_not];rfl
section
variable {H:Hp}{Q:VK}{E:XK}
theorem Qe(h1:H a1=some (.lst (xs.map V.int))){x:Ab}(W:H x=none)(hd:H dx=none)(k:∀(H':Hp) (q:Ab),Same H H'->H q=none->AnsAt H' x C q f1 xs->Q .non H'):
  spOne C f1 (.ref x::([.ref a1]++[])) (upd (upd H dx (.own x)) x (.ins C dx [])) Q E:=by
 have s:Same H (upd (upd H dx (.own x)) x (.ins C dx [])):=λb o e=>by rw[Z5 (Z1 e W),Z5 (Z1 e hd)];exact e
 refine⟨x,dx,a1,_,rfl,Z2,s _ _ h1,λq O=>?_⟩;have G:=s.free O;have Z:q≠x:=λz=>by rw[z,Z2] at O;cases O
 refine k _ q (λb o e=>?_) G ⟨⟨dx,Z2⟩,by rw[Z5 Z,Z2]⟩
 rw[Z5 (Z1 e W),Z5 (Z1 e G)];exact s _ _ e
theorem Gm(h1:H a1=some (.lst (xs.map V.int)))(h2:H a2=some (.lst (ys.map V.int))){x:Ab}(O:H x=none)(W:H dx=none)(k:∀(H':Hp) (q1 q2:Ab),Same H H'->H q1=none->H q2=none->AnsTwo H' x C f1 f2 q1 q2 xs ys->Q .non H'):
  spTwo C f1 f2 (.ref x::([.ref a1,.ref a2]++[])) (upd (upd H dx (.own x)) x (.ins C dx [])) Q E:=by
 have s:Same H (upd (upd H dx (.own x)) x (.ins C dx [])):=λb o e=>by rw[Z5 (Z1 e O),Z5 (Z1 e W)];exact e
 refine⟨x,dx,a1,a2,_,_,rfl,Z2,s _ _ h1,s _ _ h2,λH' q1 q2 z1 Z G ex e1 e2 kp=>?_⟩;exact k _ q1 q2 (λb o e=>kp b o (Z1 e O) (s _ _ e)) (s.free z1) (s.free Z) ⟨⟨dx,ex⟩,e1,e2,G⟩
theorem Dk{p q:Ab}{as bs:List Ab}{O:Bool}(hp:H p=some (.lst (as.map V.ref)))(hq:H q=some (.lst (bs.map V.ref)))(hz:as.length=bs.length)(h:∀(i:Nat) a b,as[i]?=some a->bs[i]?=some b->∃xs:List Int,H a=some (.lst (xs.map V.int))/\H b=some (.lst (xs.map V.int)))(k:Q (.bl (!O)) H):rEqL K O (.ref p) (.ref q) H Q:=by
 refine⟨p,q,_,_,rfl,rfl,Z8 hp,Z8 hq,.inr ⟨by rw[zK,zK];exact hz,λ_=>true,λi x y ex G=>?_,?_⟩⟩
 .rw[zM] at ex G;cases ea:as[i]? with
  | none=>rw[ea] at ex;cases ex
  | some a =>
   cases Z:bs[i]? with
   | none=>rw[Z] at G;cases G
   | some b =>
    rw[ea] at ex;rw[Z] at G;cases ex;cases G;obtain⟨xs,h1,h2⟩:=h i a b ea Z;by_cases W:a=b
    .subst W;exact .same
    .have e:(zV (xs.map V.int).length).all (λ_=>true)=true:=yA.mpr λ_ _=>rfl;rw[<-e];refine .lst (n:=7) W (Z8 h1) (Z8 h2) rfl λj x y ex G=>?_;rw[ex] at G;cases G;rw[zM] at ex;cases ez:xs[j]? with
     | none=>rw[ez] at ex;cases ex
     | some z =>
      rw[ez] at ex;cases ex;have e:eqV (.int z) (.int z)=true:=by show(z==z)=true;exact xR z
      rw[<-e];exact .flat rfl rfl
 .have e:(zV (as.map V.ref).length).all (λ_=>true)=true:=yA.mpr λ_ _=>rfl;rw[e];cases O <;> exact k
end
theorem Em(h1:H a1=some (.lst (xs.map V.int)))(g1:H b1=some (.lst (xs.map V.int)))(h2:H a2=some (.lst (ys.map V.int)))(g2:H b2=some (.lst (ys.map V.int))):
  ∀(i:Nat) a b,[a1,a2][i]?=some a->[b1,b2][i]?=some b->∃xs:List Int,H a=some (.lst (xs.map V.int))/\H b=some (.lst (xs.map V.int)):=λi a b G O=>by
 match i,G,O with
 | 0,G,O=>cases G;cases O;exact⟨xs,h1,g1⟩
 | 1,G,O=>cases G;cases O;exact⟨ys,h2,g2⟩
structure OneF(K:Frag)(mg:Str->Option Aa)(x f1 qI qS:Str)(sI sS:Ai)(pI pS:List Str)(C fI:Ab)(dI:Ad)(gS:Ab)(eS:Ad):Prop where
 o:OneK K mg x f1 C fI
 i:Fun K "__init__" qI sI fI dI
 b:Binds K dI pI []
 s:MDef K C "shows" qS sS pS gS eS
structure TwoF(K:Frag)(mg:Str->Option Aa)(x f1 f2 qI qS:Str)(sI sS:Ai)(pI pS:List Str)(C fI:Ab)(dI:Ad)(gS:Ab)(eS:Ad):Prop where
 o:TwoK K mg x f1 f2 C fI
 i:Fun K "__init__" qI sI fI dI
 b:Binds K dI pI []
 s:MDef K C "shows" qS sS pS gS eS
abbrev M3(K:Frag)(mg:Str->Option Aa):=TwoF K mg "Fixed" "there" "back" "Fixed.__init__" "Fixed.shows" YK Ue XB YY
abbrev Ke(K:Frag)(mg:Str->Option Aa):=OneF K mg "Free" "places" "Free.__init__" "Free.shows" YT JH Xz YY
theorem UL{σ:L2.St}{d:Bool}(x:Bool)(G:∀Q':VK,(∀H',Same H H'->Q' (.bl x) H')->tb σ H Q')(k:∀H',Same H H'->Q (.bl (d&&x)) H'):(if d=true then tb σ H Q else Q (.bl false) H):=by
 cases d with
 | false=>exact k H (Za _)
 | true=>exact G Q k
theorem N7{outs:Nat->Option V}{g:TG}{tt:TT}{σ0:L2.St}{D:Ab}(O:L2.St->Prop)(hD:H1 D=none)(hn:n<zF)(s0:O σ0)(step:∀(i:Nat) (σc:L2.St) (Hc:Hp) (Z:V->L2.St->Hp->Prop) (No:L2.St->Hp->Prop),i<n->Same H1 Hc->Hc D≠none->O σc ->
 (∀G H4 v,O G->Same Hc H4->outs i=some v->Z v G H4)->(∀G W,O G->Same Hc W->outs i=none->No G W) ->
 g (.int (lo+(i:Int))) σc Hc λG H2=>tt G H2 λb W=>if b=true then te G W λv H4=>Z v G H4 else No G W)(aa:∀Hc,Same H1 Hc->Hc D=some (.lst ((zV n).filterMap outs))->Q (.ref D) Hc):
  QJ (Itr lo n) g tt te σ0 H1 D Q :=
 QX (J:=Itr lo n) (n:=n) (item:=λi=>.int (lo+(i:Int))) O hD hn (λi Hc hi _=>hi) (λi Hc x H' _ _ y=>⟨y.1,y.2⟩) (λHc _=>zO _) s0 step aa
theorem Tq{α:Type}(f:Nat->α)(g:α->V):∀n:Nat,((zV n).filterMap λi=>some (g (f i)))=((zV n).map f).map g
 | 0=>rfl
 | n+1=>by rw[wI,xN,Tq f g n,zZ,zZ];rfl
theorem Kc{a3 a4 Z b4:Ab}{zs W:List Int}(h1:H a1=some (.lst (xs.map V.int)))(g1:H b1=some (.lst (xs.map V.int)))(h2:H a2=some (.lst (ys.map V.int)))(g2:H b2=some (.lst (ys.map V.int)))(h3:H a3=some (.lst (zs.map V.int)))(g3:H Z=some (.lst (zs.map V.int)))(h4:H a4=some (.lst (W.map V.int)))(g4:H b4=some (.lst (W.map V.int))):
  ∀(i:Nat) a b,[a1,a2,a3,a4][i]?=some a->[b1,b2,Z,b4][i]?=some b->∃xs:List Int,H a=some (.lst (xs.map V.int))/\H b=some (.lst (xs.map V.int)):=λi a b O G=>by
 match i,O,G with
 | 0,O,G=>cases O;cases G;exact⟨xs,h1,g1⟩
 | 1,O,G=>cases O;cases G;exact⟨ys,h2,g2⟩
 | 2,O,G=>cases O;cases G;exact⟨zs,h3,g3⟩
 | 3,O,G=>cases O;cases G;exact⟨W,h4,g4⟩
abbrev TC(K:Frag)(mg:Str->Option Aa):=OneF K mg "Ring" "chain" "Ring.__init__" "Ring.shows" YS UF UH Vt
abbrev XW(K:Frag)(mg:Str->Option Aa):=OneF K mg "Heights" "heights" "Heights.__init__" "Heights.shows" Ym Jv UI Vt
abbrev Qq(K:Frag)(mg:Str->Option Aa):=OneF K mg "Needless" "chain" "Needless.__init__" "Needless.shows" YO Jl UH Qj
abbrev TD(K:Frag)(mg:Str->Option Aa):=OneF K mg "Needed" "heights" "Needed.__init__" "Needed.shows" Jc JT UI Qj
abbrev XX(K:Frag)(mg:Str->Option Aa):=TwoF K mg "Follows" "chain" "heights" "Follows.__init__" "Follows.shows" Yn Jw XE YY
abbrev Dt(K:Frag)(mg:Str->Option Aa):=TwoF K mg "Loose" "first" "second" "Loose.__init__" "Loose.shows" YJ Ud XD YY
structure Subs(P:Ae)(w:Af)(K:Frag)(mg:Str->Option Aa)(base:Heap)(fc fh fm fk fa fo:Ab)(dc dh dm dk da do_:Ad):Prop where
 C:Y5 K mg fc dc
 gC:FnOk P w K mg base CX0 2 fc dc Yt spCounted
 H:YH K mg fh dh
 gH:FnOk P w K mg base CX0 3 fh dh UK Uz
 M:Yi K mg fm dm
 gM:FnOk P w K mg base CX0 1 fm dm JV YX
 k:J0 K mg fk dk
 gk:FnOk P w K mg base CX0 4 fk dk UJ JJ
 A:UM K mg fa da
 gA:FnOk P w K mg base CX0 1 fa da Vs spAbove
 O:U0 K mg fo do_
 gO:FnOk P w K mg base CX0 2 fo do_ lst_15 spKeepOne
theorem GU{σ:L2.St}{d:Bool}(x:Bool)(G:d=true->∀Q':VK,(∀H',Same H H'->Q' (.bl x) H')->tb σ H Q')(k:∀H',Same H H'->Q (.bl (d&&x)) H'):(if d=true then tb σ H Q else Q (.bl false) H):=by
 cases d with
 | false=>exact k H (Za _)
 | true=>exact G rfl Q k
theorem QS{t:TS}{σ:L2.St}(R:L2.St->Hp->Prop)(h:∀N:L2.St->Hp->Prop,(∀G H',R G H'->N G H')->t { D with nx:=N } σ H)(u:∀G H',R G H'->U D G H'):tSeq t U D σ H:=h _ u
theorem cut{t:TS}{σ:L2.St}(h:∀N:L2.St->Hp->Prop,(∀ σ H,U D σ H->N σ H)->t { D with nx:=N } σ H):tSeq t U D σ H:=h _ λ_ _ z=>z
structure InsK(K:Frag)(C:Ab):Prop where
 cl:Cls K C
 ha:findIn K (.ref C) "__class__"=some (some (.builtin "object.__class__"))
 hn:PySem.W.specialIn K (.builtin "object.__class__") "__get__"=some (some (.builtin "getset_descriptor.__get__"))
 htk:takesIn K (.builtin "object.__class__")=some true
 hm:PySem.W.mroIn K C (.type "object")=some true
theorem AnsTwo.ty{x:Ab}(h:AnsTwo H x C f1 f2 l1 l2 xs ys)(i:InsK K C):TyOf K H (.ref x) (.ref C):=by
 obtain⟨dx,G⟩:=h.ex;exact .ins G i.cl i.ha i.hn i.htk i.hm
theorem AnsAt.ty{x:Ab}{f:Str}(h:AnsAt H x C l f ns)(i:InsK K C):TyOf K H (.ref x) (.ref C):=by
 obtain⟨dx,G⟩:=h.ex;exact .ins G i.cl i.ha i.hn i.htk i.hm
theorem AnsTwo.sameN{x:Ab}(h:AnsTwo H x C f1 f2 l1 l2 xs ys)(e:SameN H H'):AnsTwo H' x C f1 f2 l1 l2 xs ys:=by
 obtain⟨dx,G⟩:=h.ex;exact⟨⟨dx,e _ _ rfl G⟩,e _ _ rfl h.h1,e _ _ rfl h.h2,h.ne⟩
theorem AnsAt.sameN{x:Ab}{f:Str}(h:AnsAt H x C l f ns)(e:SameN H H'):AnsAt H' x C l f ns:=by
 obtain⟨dx,G⟩:=h.ex;exact⟨⟨dx,e _ _ rfl G⟩,e _ _ rfl h.ls⟩
theorem AnsW.sameN{H H':Hp}{x cF cR:Ab}{b:Bool}{l1 l2:Ab}{xs ys:List Int}(h:AnsW H x cF cR b l1 l2 xs ys)(e:SameN H H'):AnsW H' x cF cR b l1 l2 xs ys:=by
 cases b with
 | true=>exact AnsTwo.sameN (show AnsTwo H x cF "chain" "heights" l1 l2 xs ys from h) e
 | false=>exact AnsAt.sameN (show AnsAt H x cR l1 "places" xs from h) e
structure AnsN(K:Frag)(cF cR cX cL cH cG:Ab):Prop where
 iF:InsK K cF
 iR:InsK K cR
 iX:InsK K cX
 iL:InsK K cL
 iH:InsK K cH
 iG:InsK K cG
 kFR:PySem.W.kitOne K (.ref cF) (.ref cR)=some false
 kRR:PySem.W.kitOne K (.ref cR) (.ref cR)=some true
 kXL:PySem.W.kitOne K (.ref cX) (.ref cL)=some false
 kLL:PySem.W.kitOne K (.ref cL) (.ref cL)=some true
 kHG:PySem.W.kitOne K (.ref cH) (.ref cG)=some false
 kGG:PySem.W.kitOne K (.ref cG) (.ref cG)=some true
 kHH:PySem.W.kitOne K (.ref cH) (.ref cH)=some true
 kGH:PySem.W.kitOne K (.ref cG) (.ref cH)=some false
theorem Xm{bx:Bool}:Passes (CXq bx X.prog X.w) X (λ_ _ _=>False):=λ_ _ _ _ _ _ _ h=>by
 obtain⟨_,_,_,_,_,_,_,_,_,_,z⟩:=h;exact z.elim
def spDrawn(K:Frag):Sp:=λvs H Q _=>∃(a:Ab) (ns:List Int) (c:Nat),vs=[.ref a,.int c]/\SqL K H a (ns.map V.int)/\ns.length<=63/\c<=1000/\∀q H',H q=none->Same H H'->H' q=some (.lst ((drawn ns c).map V.int))->Q (.ref q) H'
theorem DU:Zd ["_law_script","_law_count","_law_most"] D0 (defScope Nw):=fs7
theorem Pe(D:UN K mg f fd)(G:G1 K mg):FnOk P w K mg base CX0 1 f fd D0 (spDrawn K):=by
 refine D.fn.okA DU λ_ _ outer _ H vs Q _ hr h=>?_;obtain⟨a,ns,c,rfl,ha,hz,hc,k⟩:=h;have hu:=hr.units;refine⟨_,Z4 (Qa (i:=2) DU.nd rfl (Or.inr rfl) (Zc ZF (J9 (Z0 Z6 (Z0 Z6 Z3))) (Zg ZS (Zg ZY (ZC (Vg rfl) (by rfl) G.sum boot_sum (Z0 (pv 0) Z3)) Z6) Z6)))
  (Z7 (Ze (ZT (XN:=["_law_script","_law_count","_law_most"]) (outer:=defScope Nw) (N:=["_law_place","_law_script","_law_most"]) (cap:=[none,some 0,some 2])
   (by exact csc (.own (.cap rfl rfl rfl (.cap rfl rfl rfl .nil)))) rfl (Uq (by rfl) G.range (Z0 (pv 1) Z3))
    (λ_ _ _ _ _ _=>pgl 0 (show(["_law_place","_law_script","_law_most"]:List Str).Nodup by decide +kernel)) (λ_ _ _ _ _ _=>ZO)
    (λ_ _ _ _ _ _=>Ur (Zl (E1 (K:=K) hu) (pv 1) (Zn Z3) (nomark _))
     (Zg ZS (Zg ZY (Zc (ixL (K:=K)) (pv 1) (Zg ZS (pv 0) (ZC (RP (K:=K)) (by rfl) G.len PySem.boot_len (Z0 (pv 1) Z3)))) Z6) (pv 2)) Z6)))),?_⟩
 refine⟨szL 2,λt ht=>?_⟩;have s1:Same H (upd H t (.tup [.int 10,.int 1000])):=λb o e=>by rw[Z5 (Z1 e ht)];exact e
 refine⟨_,rfl,a,ns,rfl,s1.seq ha,_,_,rfl,rfl,⟨by decide,by decide⟩,_,_,rfl,rfl,(by show(0:Int)<2;decide),t,_,_,_,rfl,rfl,Zo Z2,ZM (hs:=[10,1000]) (VY (n:=2) (by decide)),?_⟩
 refine⟨_,rfl,_,rfl,by lia,by lia,λq hq=>?_⟩
 have aa:H q=none:=s1.free hq;refine JY (n:=(c:Int).toNat) (outs:=λi=>some (V.int (Ve ns i))) (λσ=>∃v,σ=[v,some (.ref a),some (.int (Gk ns))]) hq (by rw[yE];exact Zb hc) ⟨none,rfl⟩ (λi σc Hc ae No hi sm _ ⟨v,hv⟩ Z no=>?_) (λHc sm hD=>?_)
 .subst hv;refine⟨_,rfl,szL 0,λq2 ad=>?_⟩;have s2:Same Hc (upd Hc q2 (.lst [])):=λb o e=>by rw[Z5 (Z1 e ad)];exact e
  have O:=((s1.trans sm).trans s2).seq ha;refine⟨a,q2,ns,[],rfl,rfl,O,Z8 Z2,_,rfl,?_⟩;by_cases W:ns=[]
  .rw[xV W];refine iteF ?_;exact Z _ _ _ ⟨_,rfl⟩ s2 (by unfold Ve;rw[xY W])
  .rw[xW W];refine iteT ?_;have hl:0<ns.length:=wZ.mpr W;have ac:((ns.map V.int).length:Int)=(ns.length:Int):=by rw[zK]
   refine⟨_,rfl,_,rfl,_,rfl,a,_,rfl,.inl O,?_⟩;rw[ac];refine⟨_,_,rfl,rfl,(by show(0:Int)<ns.length;lia),a,_,_,_,rfl,rfl,O,ZM (hs:=ns) (VY hl),_,_,rfl,rfl,⟨by decide,by decide⟩,_,rfl,_,_,rfl,rfl,NS ns,?_⟩
   refine Z _ _ _ ⟨_,rfl⟩ s2 ?_;unfold Ve;rw[xZ W];have e:((i:Int) % (ns.length:Int)).toNat=i % ns.length:=by lia
   rw[e]
 .refine k q Hc aa (s1.trans sm) ?_;rw[hD,yE];unfold drawn;rw[xJ];rw[show(λi=>some (V.int (Ve ns i)))=some ∘ (V.int ∘ Ve ns) from rfl,uP]
theorem Uv(xs:List V)(k:Nat):cutV xs none (some (k:Int))=xs.take k:=by
 unfold cutV;rw[HT.sIx_none,HT.sIx_nat,jV,Nat.sub_zero];by_cases h:k<=xs.length
 .rw[Nat.min_eq_left h]
 .rw[Nat.min_eq_right (by lia),xP (zO _),xP (by lia)]
theorem Yy.snoc{ps:List Ab}{p:Ab}(h:Yy H ps ss)(e:H p=some (Ul s)):Yy H (ps++[p]) (ss++[s]):=by
 refine⟨by rw[zR,zR,h.len];rfl,λi q t a b=>?_⟩
 by_cases hi:i<ps.length
 .rw[wT hi] at a;rw[wT (by rw[<-h.len];exact hi)] at b
  exact h.at_ i q t a b
 .rw[wB (by lia)] at a
  rw[wB (by rw[<-h.len];lia)] at b
  rw[h.len] at a;cases G:i-ss.length with
  | zero=>rw[G] at a b;simp at a b;subst a b;exact e
  | succ j=>rw[G] at a;simp at a
theorem Yy.take{H:Hp}{ps:List Ab}{ss:List Say}(h:Yy H ps ss)(k:Nat):Yy H (ps.take k) (ss.take k):=by
 refine⟨by rw[yL,yL,h.len],λi p s a b=>?_⟩
 rw[List.getElem?_take] at a b;by_cases hi:i<k
 .rw[xY hi] at a b;exact h.at_ i p s a b
 .rw[xZ hi] at a;cases a
def Lc(K:Frag):Sp:=λvs H Q _=>∃(a:Ab) (ns:List Int),vs=[.ref a]/\SqL K H a (ns.map V.int)/\ns.length<=63/\∀(c:Nat) (p q:Ab) (H':Hp) (ss:List Say),1<=c->c<=65->ss.length<=63->ss.all (inside c)=true->Same H H'->H' p=some (.tup [.int c,.ref q])->SaysAt H' q ss->Q (.ref p) H'
def SayJ (a q d:Ab)(ns ds:List Int)(c:Nat)(H:Hp)(i:Nat)(σ:L2.St)(H2:Hp):Prop:=∃(ps:List Ab) (ss:List Say) (v7 v8 v9 v10 v11 v12 v13:Option V),
 σ=[some (.ref a),some (.int ns.sum),some (.int ns.length),some (.ref q),some (.int c),some (.ref d),some (.int (ns.sum % 4)),v7,v8,v9,v10,v11,v12,v13]/\Same H H2/\H2 q=some (.lst (ps.map V.ref))/\Yy H2 ps ss/\ss.length=i/\ss.all (inside c)=true/\H2 d=some (.lst (ds.map V.int))
theorem Lw{q d p:Ab}{ds:List Int}{G:Hp}{ps:List Ab}{Z n:Int}{v7 v8 v9 v10 v11 v12 v13:Option V}(s:Same H G)(hq:H q=none)(O:G q=some (.lst (ps.map V.ref)))(hS:Yy G ps ss)(hl:ss.length=i)(hi:i<100)(ha:ss.all (inside c)=true)(ad:G d=some (.lst (ds.map V.int)))(ac:d≠q)(cl:cnt c lo=true)(cu:cnt c Z=true)(hp:G p=none):∃l xs y,V.ref q = .ref l/\[V.ref p]=[y]/\(upd G p (.tup [.int lo,.int Z,.int n])) l=some (.lst xs)/\xs.length<zF /\
   SayJ a q d ns ds c H (i+1) [some (.ref a),some (.int ns.sum),some (.int ns.length),some (.ref q),some (.int c),some (.ref d),some (.int (ns.sum % 4)),v7,v8,v9,v10,v11,v12,v13] (upd (upd G p (.tup [.int lo,.int Z,.int n])) l (.lst (xs++[y]))):=by
 have aa:q≠p:=Z1 O hp;have W:∀{b:Ab} {o:HO},G b=some o->b≠q->(upd (upd G p (.tup [.int lo,.int Z,.int n])) q (.lst (ps.map V.ref++[.ref p]))) b=some o:=λ{b o} e hb=>by
  rw[Z5 hb,Z5 (Z1 e hp)];exact e
 refine⟨q,ps.map V.ref,.ref p,rfl,rfl,by rw[Z5 aa];exact O,by rw[zK,hS.len,hl];exact Zb (by lia),ps++[p],ss++[(lo,Z,n)],_,_,_,_,_,_,_,rfl,λb o e=>W (s _ _ e) (Z1 e hq),by rw[Z2,zZ];rfl,Yy.snoc ⟨hS.len,λj r t e1 e2=>?_⟩ ?_,by rw[zR,hl];rfl,?_,W ad ac⟩
 .have e3:=hS.at_ j r t e1 e2;exact W e3 λz=>by rw[z,O] at e3;cases e3
 .rw[Z5 aa.symm,Z2];rfl
 .rw[uN,ha];show(true&&((cnt c lo&&cnt c Z)&&true))=true;rw[cl,cu];rfl
theorem at4(W Z G O k:Int):∃m:Int,atI ([.int W,.int Z,.int G,.int O]:List V) (k % 4)=some (.int m):=⟨_,ZM (hs:=[W,Z,G,O]) (VY (n:=4) (by decide))⟩
theorem U9:Zd ["_law_script","_law_code","_law_many","_law_found","_law_count","_law_drawn_here","_law_kind","_law_cell","_law_lower","_law_upper","_law_high","_law_rest","_law_any_one","_law_more"] JU (defScope T1):=fs7
theorem KL(D:Def K mg "_law_sayings" T1 JU f fd)(DR:UN K mg fr dr)(G:G1 K mg):FnOk P w K mg base CX0 2 f fd JU (Lc K):=by
 have GR:FnOk P w K mg base CX0 1 fr dr _ (spDrawn K):=Pe DR G;refine D.fn.okA U9 λ_ _ _ s H vs Q _ hr h=>?_;obtain⟨a,ns,rfl,ha,hz,k⟩:=h;refine⟨_,Z4 (KD (i:=1) (j:=2) (l:=3) rfl U9.nd rfl rfl rfl (by decide) (by decide) (by decide) rfl rfl rfl (Z0 (ZC (Vg rfl) (by rfl) G.sum boot_sum (Z0 (pv 0) Z3)) (Z0 (pbL G (Z0 (pv 0) Z3)) (Z0 (Zn Z3) Z3))) rfl)
  (Z4 (psl 4 U9.nd (Zc ZF (J9 (Z0 (Zg Yd Z6 (Zg ZY (pv 2) Z6)) (Z0 (Zg Yd Z6 (Zg ZS (Zg ZY (pv 1) Z6) Z6)) (Z0 (Zg Yd (pv 2) Z6) (Z0 (Zg Yd Z6 (Zg ZS (Zg ZY (pv 1) Z6) (Zg Yd (pv 2) Z6))) Z3)))))
    (Zg ZS (Zg ZY (pv 1) Z6) Z6)))
  (Z4 (Vp (i:=5) (j:=6) rfl U9.nd rfl rfl (by decide) rfl rfl (Z0 (pcD DR GR hr (Z0 (pv 0) (Z0 (pv 4) Z3))) (Z0 (Zg ZS (pv 1) Z6) Z3)) rfl)
  (Z4 (Y4 PassesOwn.never rfl (Zr (pv 0)) (pgl 7 U9.nd)
   (Z4 (Vp (i:=8) (j:=9) rfl U9.nd rfl rfl (by decide) rfl rfl (Z0 (Zg ZS (pv 7) (pv 4)) (Z0 (Zg ZS (Zg ZY (pv 7) (pv 4)) (pv 4)) Z3)) rfl)
   (Z4 (psl 10 U9.nd (Zg ZY (Zg ZY (pv 7) (pv 4)) (pv 4)))
   (Z4 (Vp (i:=11) (j:=12) rfl U9.nd rfl rfl (by decide) rfl rfl (Z0 (Zg Yd (pv 10) (Zg ZY (pv 7) Z6)) (Z0 (Zc ZF (J9 (Z0 (Zg ZY (pv 7) Z6) (Z0 (pv 10) Z3))) (Zg ZS (Zg ZY (pv 1) Z6) Z6)) Z3)) rfl)
   (Z4 (psl 13 U9.nd (Zc ZF (J9 (Z0 (Zg ZS (pv 11) Z6) (Z0 (Zg ZS (pv 11) Z6) (Z0 (Zg Ja (Zg ZS (pv 11) Z6) Z6)
     (Z0 (Zg P1 (Zg ZS (Zg ZY (pv 12) Z6) (Zg OZ Z6 Z6)) (Zg Ja Z6 (Zg P1 (Zg ZS (pv 12) Z6) Z6))) Z3))))) (pv 6)))
   (Z7 (ZP (U4 yH yR yQ ZZ (pv 3) (Z0 (J9 (Z0 (pv 8) (Z0 (pv 9) (Z0 (Ur (Zl Js (pv 6) Z6 (nomark _)) (pv 13)
     (Zg Yd (Zg Ja (Zc Zf (pv 5) (pv 9)) (Zc Zf (pv 5) (pv 8))) (pv 13))) Z3)))) Z3))))))))) 
  (Z4 (Zw (Zl Js (Zg ZS (Zg ZY (pv 1) Z6) Z6) Z6 (nomark _)) (Z7 (psl 3 U9.nd (Y7 Yj (pv 3) Yl (Yf (Zg ZS (Zg ZY (pv 1) Z6) (Zg Yd (pv 2) Z6)))))) Zh)
  (Z7 (Ze (J9 (Z0 (pv 4) (Z0 (pv 3) Z3))))))))),?_⟩
 obtain⟨c,al,au,ax⟩:∃c:Nat,1<=c/\c<=65/\atI ([.int (1+(ns.length:Int) / 2),.int (1+ns.sum / 8 % 4),.int ((ns.length:Int)+2),.int (1+ns.sum / 8 % ((ns.length:Int)+1))]:List V) (ns.sum / 32 % 4)=some (.int c):=by
  obtain⟨h1,h2⟩:=Dp ns hz;refine⟨(Vf ns).toNat,by lia,by lia,?_⟩
  rw[show((Vf ns).toNat:Int)=Vf ns by lia]
  exact ZM (hs:=[1+(ns.length:Int) / 2,1+ns.sum / 8 % 4,(ns.length:Int)+2,1+ns.sum / 8 % ((ns.length:Int)+1)]) (VY (n:=4) (by decide))
 have a5:((ns.map V.int).length:Int)=(ns.length:Int):=by rw[zK]
 have aj:∀x:Int,CDiv x c:=λx=>⟨by lia,by lia⟩
 refine⟨_,rfl,a,ns,rfl,ha,_,rfl,a,_,rfl,.inl ha,szL 0,λq hq=>⟨_,_,_,rfl,?_⟩⟩;rw[a5];refine⟨_,rfl,_,_,rfl,rfl,⟨by decide,by decide⟩,_,_,rfl,rfl,_,rfl,_,_,rfl,rfl,⟨by decide,by decide⟩,_,_,rfl,rfl,(by show(0:Int)<4;decide),_,_,rfl,rfl,_,rfl,_,_,rfl,rfl,
  _,rfl,_,_,rfl,rfl,⟨by decide,by decide⟩,_,rfl,_,_,rfl,rfl,_,_,rfl,rfl,(by show(0:Int)<(ns.length:Int)+1;lia),_,_,rfl,rfl,szL 4,λt ht=>?_⟩
 refine⟨_,rfl,_,_,rfl,rfl,⟨by decide,by decide⟩,_,_,rfl,rfl,(by show(0:Int)<4;decide),t,_,_,_,rfl,rfl,Zo Z2,ax,?_⟩
 refine⟨_,rfl,_,rfl,a,ns,c,rfl,((Z9 hq).trans (Z9 ht)).seq ha,hz,by lia,λd H3 hd s3 am=>⟨_,rfl,_,_,rfl,rfl,(by show(0:Int)<4;decide),_,_,rfl,?_⟩⟩
 have ar:Same H H3:=((Z9 hq).trans (Z9 ht)).trans s3;have ay:H3 q=some (.lst []):=s3 _ _ (Z9 ht _ _ Z2);have az:d≠q:=(Z1 (Z9 ht _ _ Z2) hd).symm;have ag:=RK ns c;generalize drawn ns c=ds at am ag;refine⟨_,rfl,a,rfl,⟨_,ar.seq ha⟩,ZX (K:=K) (a:=a) (xs:=ns.map V.int) (SayJ a q d ns ds c H) ⟨[],[],none,none,none,none,none,none,none,rfl,ar,ay,⟨rfl,λi p s e=>nomatch e⟩,rfl,rfl,am⟩ (λi σ H2 _ h=>by
   obtain⟨_,_,_,_,_,_,_,_,_,_,s2,_⟩:=h;exact s2.seq ha) ?_ ?_⟩
 .rintro i y σ H2 hi ⟨ps,ss,v7,v8,v9,ac,W,Z,aa,rfl,s2,ae,hS,hl,ad,aq⟩;rw[zM] at hi;cases en:ns[i]? with
  | none=>rw[en] at hi;cases hi
  | some z =>
   rw[en] at hi;cases hi;have a8:i<ns.length:=(zT.mp en).1;obtain⟨an,as⟩:∃an:Int,atI ([.int (z / 3),.int (z / c / c)]:List V) (ns.sum / 128 % 2)=some (.int an):=⟨_,ZM (hs:=[z / 3,z / c / c]) (VY (n:=2) (by decide))⟩
   obtain⟨mo,ah⟩:=at4 ((z / c / c+z / 7) % 4) ((z / c / c+z / 7) % 40) ((z / c / c+z / 7) % 9-1) (an / 2 % 10 ^ 60*(1-an % 2*2)) ns.sum;have cl:cnt c (z % c)=true:=Zm.mpr ⟨wW _ (by lia),wR _ (by lia)⟩
   have cu:cnt c (z / c % c)=true:=Zm.mpr ⟨wW _ (by lia),wR _ (by lia)⟩
   refine⟨_,rfl,_,rfl,_,_,rfl,rfl,(by show(0:Int)<c;lia),_,rfl,_,rfl,_,_,rfl,rfl,aj _,_,rfl,_,_,rfl,rfl,(by show(0:Int)<c;lia),_,_,rfl,?_⟩
   refine⟨_,rfl,_,rfl,_,_,rfl,rfl,aj _,_,rfl,_,_,rfl,rfl,aj _,?_⟩;refine⟨_,rfl,_,rfl,_,_,rfl,rfl,⟨by decide,by decide⟩,_,_,rfl,rfl,_,rfl,_,_,rfl,rfl,⟨by decide,by decide⟩,_,rfl,szL 2,λt1 a4=>?_⟩
   refine⟨_,rfl,_,_,rfl,rfl,⟨by decide,by decide⟩,_,_,rfl,rfl,(by show(0:Int)<2;decide),t1,_,_,_,rfl,rfl,Zo Z2,as,_,_,rfl,?_⟩
   refine⟨_,rfl,_,_,rfl,rfl,(by show(0:Int)<4;decide),_,rfl,_,_,rfl,rfl,(by show(0:Int)<40;decide),_,rfl,_,_,rfl,rfl,(by show(0:Int)<9;decide),_,_,rfl,rfl,
    _,rfl,_,_,rfl,rfl,⟨by decide,by decide⟩,_,_,rfl,rfl,⟨by decide,by decide,by decide⟩,_,_,rfl,rfl,(by show(0:Int)<10 ^ 60;decide),_,rfl,_,_,rfl,rfl,(by show(0:Int)<2;decide),_,_,rfl,rfl,.inr ⟨by decide,by decide⟩,_,_,rfl,rfl,_,_,rfl,rfl,?_,szL 4,λt2 av=>?_⟩
   .have hb:an % 2=0∨an % 2=1:=by lia
    refine .inr ?_;rcases hb with e | e <;> rw[e] <;> exact⟨by decide,by decide⟩
   refine⟨_,rfl,t2,_,_,_,rfl,rfl,Zo Z2,ah,?_⟩;generalize a6:upd (upd H2 t1 _) t2 _=H4;have af:Same H2 H4:=by rw[<-a6];exact(Z9 a4).trans (Z9 av)
   have ap:=af _ _ ae;have ai:=af _ _ aq;have ak:∀{n:Int} {p:Ab} {v7 v8 v9 ac W Z aa:Option V},H4 p=none->_:=λ{n p v7 v8 v9 ac W Z aa} O=>Lw (a:=a) (ns:=ns) (n:=n) (v7:=v7) (v8:=v8) (v9:=v9) (v10:=ac) (v11:=W) (v12:=Z) (v13:=aa) (s2.trans af) hq ap (hS.same af) hl (by lia) ad ai az cl cu O
   refine⟨_,rfl,.inl ⟨rfl,_,Z8 ap⟩,_,rfl,_,rfl,_,rfl,rfl,_,rfl,?_⟩;cases decide (V.int (ns.sum % 4)=V.int 3) with
   | true=>exact iteT ⟨_,rfl,szL 3,λp O=>ak O⟩
   | false =>
    have c1:cnt ds.length (z / c % c)=true:=by rw[ag];exact cu
    have c2:cnt ds.length (z % c)=true:=by rw[ag];exact cl
    exact iteF ⟨_,rfl,_,rfl,d,_,_,_,rfl,rfl,Z8 ai,ZM c1,_,rfl,_,rfl,d,_,_,_,rfl,rfl,Z8 ai,ZM c2,_,_,rfl,rfl,_,rfl,_,_,rfl,rfl,szL 3,λp O=>ak O⟩
 .rintro σ H2 ⟨ps,ss,v7,v8,v9,ac,W,Z,aa,rfl,s2,ae,hS,hl,ad,aq⟩;rw[zK] at hl;refine⟨_,rfl,_,_,rfl,rfl,⟨by decide,by decide⟩,_,_,rfl,rfl,(by show(0:Int)<4;decide),rfl,_,rfl,?_⟩
  cases decide (V.int (ns.sum / 256 % 4)=V.int 3) with
  | true =>
   refine iteT ⟨_,rfl,_,rfl,_,_,rfl,rfl,⟨by decide,by decide⟩,_,rfl,_,_,rfl,rfl,_,_,rfl,rfl,(by show(0:Int)<(ns.length:Int)+1;lia),_,rfl,q,_,rfl,Z8 ae,λq2 a7=>?_⟩
   have aw:=wW (ns.sum / 1024) (show((ns.length:Int)+1)≠0 by lia)
   obtain⟨m,a3⟩:∃m:Nat,ns.sum / 1024 % ((ns.length:Int)+1)=m:=⟨_,(Int.toNat_of_nonneg aw).symm⟩;have ao:=Z9 (o:=.lst (cutV (ps.map V.ref) none (some (ns.sum / 1024 % ((ns.length:Int)+1))))) a7;refine⟨_,rfl,_,rfl,szL 2,λp O=>k c p q2 _ (ss.take m) al au (by rw[yL];lia) (yA.mpr λs hs=>yA.mp ad s (uQ hs)) ((s2.trans ao).trans (Z9 O)) Z2 ⟨ps.take m,?_,(hS.take m).same (ao.trans (Z9 O))⟩⟩
   refine Z9 O _ _ ?_;rw[Z2,vI,<-Uv,<-a3]
  | false=>exact iteF ⟨_,rfl,_,rfl,szL 2,λp O=>k c p q _ ss al au (by lia) ad (s2.trans (Z9 O)) Z2 ⟨ps,Z9 O _ _ ae,hS.same (Z9 O)⟩⟩
def wo (ss:List Say)(at_:Int):List Say:=ss.take at_.toNat++ss.drop (at_.toNat+1)
theorem OF(h:s∈wo ss at_):∃k:Int,cnt ss.length k=true/\k≠at_/\sy ss k=s:=by
 have key:∀i:Nat,i<ss.length->i≠at_.toNat->ss[i]?=some s->∃k:Int,cnt ss.length k=true/\k≠at_/\sy ss k=s:=λi hi G e =>
  ⟨(i:Int),Zm.mpr ⟨by lia,by lia⟩,by lia,by unfold sy;rw[yE,e];rfl⟩
 rcases yC.mp h with h | h
 .obtain⟨i,hi,e⟩:=xO.mp h;rw[yL] at hi;rw[List.getElem_take] at e;exact key i (by lia) (by lia) (by rw[zN (by lia),e])
 .obtain⟨i,hi,e⟩:=xO.mp h;rw[xE] at hi;rw[List.getElem_drop] at e;exact key (at_.toNat+1+i) (by lia) (by lia) (by rw[zN (by lia),e])
theorem OE(h:s∈wo ss at_):s∈ss:=by
 obtain⟨k,G,_,rfl⟩:=OF h;exact yM (JO G)
theorem Oe{c:Int}(G:ss.all (inside c)=true):(wo ss at_).all (inside c)=true:=yA.mpr λs hs=>yA.mp G s (OE hs)
theorem Lm:Zd UI UI (defScope Jc):=fs7
theorem Ll:Zd UH UH (defScope YO):=fs7
theorem Rn(F:Fun K "__init__" "Needed.__init__" Jc f fd)(T:OneK K mg "Needed" "heights" C f)(G:G1 K mg):FnOk P w K mg base CX0 1 f fd UI (spOne C "heights"):=by
 refine F.okA Lm λ_ _ _ _ H vs Q _ Z h=>?_;obtain⟨x,dx,l,ys,rfl,V,W,k⟩:=h;refine⟨_,Z7 (J8 (pv 0) (Zt Zj (by rfl) G.list boot_list (Z0 (pv 1) Z3)) rfl),?_⟩
 refine⟨_,rfl,l,_,rfl,.inl (Z8 W),λq O=>?_⟩;exact⟨_,rfl,x,C,dx,[],rfl,by rw[Z5 (Z1 V O)];exact V,T.cl,T.n,(by show 0<1000;decide),k q O⟩
theorem Ww(F:Fun K "__init__" "Needless.__init__" YO f fd)(T:OneK K mg "Needless" "chain" C f)(G:G1 K mg):FnOk P w K mg base CX0 1 f fd UH (spOne C "chain"):=by
 refine F.okA Ll λ_ _ _ _ H vs Q _ Z h=>?_;obtain⟨x,dx,l,ys,rfl,V,W,k⟩:=h;refine⟨_,Z7 (J8 (pv 0) (Zt Zj (by rfl) G.list boot_list (Z0 (pv 1) Z3)) rfl),?_⟩
 refine⟨_,rfl,l,_,rfl,.inl (Z8 W),λq O=>?_⟩;exact⟨_,rfl,x,C,dx,[],rfl,by rw[Z5 (Z1 V O)];exact V,T.cl,T.n,(by show 0<1000;decide),k q O⟩
def Wn(b:Bool)(c:Int)(ss:List Say)(at_:Int)(xs:List Int):Bool:=cond b
 (hDue c xs (wo ss at_) && !keeps xs (sy ss at_))
 (!decide (at_∈xs)&&(decide (walk ss xs (sy ss at_).1=some (sy ss at_).2.1)&&decide (sumC ss xs<=(sy ss at_).2.2)))
theorem Jd(n:Int):∀xs:List Int,inV (.int n) (xs.map V.int)=decide (n∈xs)
 | []=>by simp[inV]
 | x::r=>by
  have G:=Jd n r;unfold inV at G ⊢;rw[yV,vP,G];have e:eqV (.int x) (.int n)=decide (n=x):=by
   show(x==n)=_;by_cases q:n=x
   .subst q;simp
   .rw[xW q,xT];exact λz=>q z.symm
  rw[e];by_cases h1:n=x
  .subst h1;simp
  .simp[h1]
theorem Qn(xs:List Int):(xs.map V.int).all Uu=true:=by
 rw[uJ];exact yA.mpr λ_ _=>rfl
theorem Yy.wo{H:Hp}{ps:List Ab}{ss:List Say}(h:Yy H ps ss)(at_:Int):Yy H (ps.take at_.toNat++ps.drop (at_.toNat+1)) (wo ss at_):=by
 have h1:=h.take at_.toNat;have G:=h.len;have e1:(ps.take at_.toNat).length=(ss.take at_.toNat).length:=by rw[yL,yL,G]
 refine⟨by unfold At.wo;rw[zR,zR,e1,xE,xE,G],λi p s a b=>?_⟩
 unfold At.wo at b;by_cases hi:i<(ps.take at_.toNat).length
 .rw[wT hi] at a;rw[wT (by lia)] at b
  exact h1.at_ i p s a b
 .rw[wB (by lia),List.getElem?_drop] at a
  rw[wB (by lia),List.getElem?_drop,<-e1] at b
  exact h.at_ _ p s a b
theorem VX(xs:List V)(k:Nat):cutV xs (some (k:Int)) none=xs.drop k:=by
 unfold cutV;rw[HT.sIx_none,HT.sIx_nat];by_cases h:k<=xs.length
 .rw[Nat.min_eq_left h];exact xP (by rw[xE];lia)
 .rw[Nat.min_eq_right (by lia),qM (zO _),qM (by lia)];simp
def spShowN(b:Bool)(C:Ab):Sp:=λvs H Q _=>∃(x l a:Ab) (c at_:Int) (ss:List Say) (xs:List Int),vs=[.ref x,.int c,.ref a,.int at_]/\AnsAt H x C l (ansF b) xs/\SaysAt H a ss/\ss.length<=400/\ss.all (inside c)=true/\xs.length<=1000/\cnt ss.length at_=true/\∀H',Same H H'->Q (.bl (Wn b c ss at_ xs)) H'
theorem Wo:Zd ["self","count","sayings","at","saying"] Qj (defScope Jl):=fs7
theorem Xf{ps:List Ab}(h:Yy H ps ss)(G:cnt ss.length at_=true):∃p,atI (ps.map V.ref) at_=some (.ref p)/\H p=some (.tup [.int (sy ss at_).1,.int (sy ss at_).2.1,.int (sy ss at_).2.2]):=by
 obtain⟨h0,h1⟩:=Zm.mp G;obtain⟨p,e,O⟩:=h.get (JO G);exact⟨p,Jn h0 (by rw[zM,e];rfl),O⟩
theorem Xq(F:Fun K "shows" "Needless.shows" Jl f fd)(T:OneK K mg "Needless" "chain" C fI)(DH:YH K mg fh dh)(GH:FnOk P w K mg base CX0 4 fh dh UK Uz)(DS:Yi K mg fs ds)(GS:FnOk P w K mg base CX0 4 fs ds JV YX):FnOk P w K mg base CX0 5 f fd Qj (spShowN false C):=by
 refine F.okA Wo λ_ _ _ _ H vs Q _ hr h=>?_;obtain⟨x,l,a,c,at_,ss,xs,rfl,an,ha,hz,aa,hx,Z,k⟩:=h;refine⟨_,Z4 (psl 4 Wo.nd (Zc Zf (pv 2) (pv 3)))
  (Z4 (Zw (PW.pt (Ji (Zl Vc (pv 3) (Zi (pv 0) rfl) (by with_unfolding_all rfl)) (YM (Zy (Zq (pcD DH GH hr (Z0 (pv 2) (Z0 (Zi (pv 0) rfl) (Z0 (Zc ZF (pv 4) Z6) (Z0 (Zc ZF (pv 4) Z6) Z3)))))))))) (Z7 (Ze ZI)) Zh)
  (Z7 (Ze (ZH QC (pcD DS GS hr (Z0 (pv 2) (Z0 (Zi (pv 0) rfl) Z3))) (Zc ZF (pv 4) Z6) (nomark _))))),?_⟩
 obtain⟨⟨dx,G⟩,h1⟩:=id an;obtain⟨ps,hq,hS⟩:=ha.ex;obtain⟨p,ep,W⟩:=Xf hS Z;refine⟨_,rfl,_,rfl,a,_,_,_,rfl,rfl,Z8 hq,ep,?_⟩;unfold Wn at k;refine⟨_,rfl,_,rfl,x,C,dx,_,_,rfl,G,T.cl,T.n,rfl,l,_,rfl,.inl (Z8 h1),rfl,Qn xs,_,rfl,?_⟩;rw[show(if false=true then !inV (V.int at_) (xs.map V.int) else inV (V.int at_) (xs.map V.int))=decide (at_∈xs) from Jd at_ xs]
 cases hm:decide (at_∈xs) with
 | true=>rw[hm] at k;exact k H (Za _)
 | false =>
  rw[hm] at k;refine iteF ?_;refine⟨_,rfl,_,rfl,x,C,dx,_,_,rfl,G,T.cl,T.n,rfl,_,rfl,p,_,_,_,rfl,rfl,Zo W,rfl,_,rfl,p,_,_,_,rfl,rfl,Zo W,rfl,a,ss,l,xs,_,_,rfl,ha,h1,by lia,_,rfl,?_⟩
  cases O:decide (walk ss xs (sy ss at_).1=some (sy ss at_).2.1) with
  | false=>rw[O] at k;exact k H (Za _)
  | true =>
   rw[O] at k;refine iteF ?_;refine⟨_,rfl,_,rfl,x,C,dx,_,_,rfl,G,T.cl,T.n,rfl,a,l,ss,xs,rfl,ha,h1,hx,Uk _ _ _ (xU O),λH1 s1=>?_⟩;exact⟨_,rfl,p,_,_,_,rfl,rfl,Zo (s1 _ _ W),rfl,_,_,rfl,rfl,k H1 s1⟩
theorem Wp:Zd ["self","count","sayings","at","others"] Qj (defScope JT):=fs7
theorem NH(F:Fun K "shows" "Needed.shows" JT f fd)(T:OneK K mg "Needed" "heights" C fI)(DK:J0 K mg fk dk)(GK:FnOk P w K mg base CX0 4 fk dk UJ JJ)(DO:U0 K mg fo d1)(GO:FnOk P w K mg base CX0 4 fo d1 lst_15 spKeepOne):FnOk P w K mg base CX0 5 f fd Qj (spShowN true C):=by
 refine F.okA Wp λ_ _ _ _ H vs Q _ hr h=>?_;obtain⟨x,l,a,c,at_,ss,xs,rfl,an,ha,hz,ac,hx,W,k⟩:=h;refine⟨_,Z4 (psl 4 Wp.nd (Zg YN (Y7 Yj (pv 2) Yl (Yf (pv 3))) (Y7 Yj (pv 2) (Yf (Zg Yd (pv 3) Z6)) Yl)))
  (Z7 (Ze (Y1 (pcD DK GK hr (Z0 (pv 1) (Z0 (pv 4) (Z0 (Zi (pv 0) rfl) Z3)))) (Y8 (Qb (pcD DO GO hr (Z0 (Zc Zf (pv 2) (pv 3)) (Z0 (Zi (pv 0) rfl) Z3)))))))),?_⟩
 obtain⟨⟨dx,aa⟩,h1⟩:=id an;obtain⟨ps,hq,hS⟩:=ha.ex;obtain⟨p,ep,hp⟩:=Xf hS W;obtain⟨c0,c1⟩:=Zm.mp W;have G:((at_.toNat:Nat):Int)=at_:=by lia
 have ag:=hS.len;refine⟨_,rfl,_,rfl,at_,rfl,a,_,rfl,Z8 hq,λL1 ae=>?_⟩;rw[<-G,Uv];have u1:=Z9 (o:=.lst ((ps.map V.ref).take at_.toNat)) ae;have e1:(upd H L1 (.lst ((ps.map V.ref).take at_.toNat))) L1=some (.lst ((ps.take at_.toNat).map V.ref)):=by rw[Z2,vI]
 generalize upd H L1 (.lst ((ps.map V.ref).take at_.toNat))=H1 at u1 e1;refine⟨_,rfl,_,rfl,_,_,rfl,rfl,((at_.toNat:Nat):Int)+1,rfl,a,_,rfl,Z8 (u1 _ _ hq),λL2 ad=>?_⟩;rw[show(((at_.toNat:Nat):Int)+1)=((at_.toNat+1:Nat):Int) by lia,VX]
 have u2:=Z9 (o:=.lst ((ps.map V.ref).drop (at_.toNat+1))) ad;have e2:(upd H1 L2 (.lst ((ps.map V.ref).drop (at_.toNat+1)))) L2=some (.lst ((ps.drop (at_.toNat+1)).map V.ref)):=by rw[Z2,vY]
 generalize upd H1 L2 (.lst ((ps.map V.ref).drop (at_.toNat+1)))=H2 at u2 e2;refine⟨L1,L2,_,_,rfl,rfl,u2 _ _ e1,e2,by rw[zK,zK,yL,xE];exact yW (Zb (by lia)),λO hO=>?_⟩
 have u3:=Z9 (o:=.lst ((ps.take at_.toNat).map V.ref++(ps.drop (at_.toNat+1)).map V.ref)) hO;have e3:(upd H2 O (.lst ((ps.take at_.toNat).map V.ref++(ps.drop (at_.toNat+1)).map V.ref))) O=some (.lst ((ps.take at_.toNat++ps.drop (at_.toNat+1)).map V.ref)):=by rw[Z2,zZ]
 have u:=(u1.trans u2).trans u3;show tSeq _ _ _ _ (upd H2 O (.lst ((ps.take at_.toNat).map V.ref++(ps.drop (at_.toNat+1)).map V.ref)));generalize upd H2 O (.lst ((ps.take at_.toNat).map V.ref++(ps.drop (at_.toNat+1)).map V.ref))=H3 at e3 u;have hW:SaysAt H3 O (wo ss at_):=⟨_,e3,(hS.wo at_).same u⟩;have af:(wo ss at_).length<=1000:=by unfold wo;rw[zR,yL,xE];lia
 unfold Wn at k;refine⟨_,rfl,_,rfl,_,rfl,x,C,dx,_,_,rfl,u _ _ aa,T.cl,T.n,rfl,c,O,l,wo ss at_,xs,rfl,hW,af,Oe ac,u _ _ h1,hx,λH4 s4=>?_⟩;have Z:=u.trans s4;refine⟨_,rfl,?_⟩;cases hw:hDue c xs (wo ss at_) with
 | false=>rw[hw] at k;exact k H4 Z
 | true =>
  rw[hw] at k;have lx:(xs.length:Int)=c:=by
   unfold hDue at hw;rw[yI] at hw;exact xU hw.1
  have hi:inside xs.length (sy ss at_)=true:=by rw[lx];exact yA.mp ac _ (yM (JO W))
  refine iteT ?_;refine⟨_,rfl,_,rfl,a,_,_,_,rfl,rfl,Z8 (Z _ _ hq),by rw[G];exact ep,_,rfl,x,C,dx,_,_,rfl,Z _ _ aa,T.cl,T.n,rfl,p,l,sy ss at_,xs,rfl,Z _ _ hp,Z _ _ h1,hi,_,rfl,?_⟩
  exact k H4 Z
def spLSays:Sp:=λvs H Q _=>∃b d:Bool,vs=[.bl b,.bl d]/\Q (.bl (b==d)) H
theorem Ks:Zd Gs Gs (defScope Qy):=fs7
theorem UW(D:YI K mg f fd)(G:G1 K mg):FnOk P w K mg base CX0 1 f fd Gs spLSays:=by
 refine D.fn.okA Ks λ_ _ _ _ H vs Q _ O h=>?_;obtain⟨b,d,rfl,k⟩:=h;refine⟨_,Z7 (Ze (Y1 (pbI G (Z0 (pv 0) (Z0 (UP (by rfl) G.bool boot_bool) Z3))) (Y8 (ZH Js (pv 0) (pv 1) (nomark _))))),?_⟩
 refine⟨_,rfl,_,_,_,_,_,rfl,.bl b,rfl,G.kbb,true,rfl,iteT ⟨_,rfl,_,rfl,rfl,?_⟩⟩;rw[Dn];exact k
def spLBent(K:Frag):Sp:=λvs H Q _=>∃(b sc:Ab) (xs ns:List Int),vs=[.ref b,.ref sc]/\H b=some (.lst (xs.map V.int))/\SqL K H sc (ns.map V.int)/\xs.length<=700/\ns.length<=63/\∀(H':Hp) (l:Ab) (ks:List Int),Same H H'->H l=none->H' l=some (.lst (ks.map V.int))->ks.length<=xs.length+ns.length->Q (.ref l) H'
abbrev EG:List Str:=["_law_some","_law_script","_law_found","_law_cell","_law_at"]
theorem Q7:Zd EG NZ (defScope QA):=fs7
theorem Pc(D:V6 K mg f fd)(G:G1 K mg):FnOk P w K mg base CX0 1 f fd NZ (spLBent K):=by
 refine D.fn.okA Q7 λ_ A _ _ H vs Q _ hr h=>?_;obtain⟨b,sc,xs,ns,rfl,hb,hs,x7,hz,k⟩:=h;have hu:=hr.units;refine⟨_,Z4 (psl 2 Q7.nd (Zt Zj (by rfl) G.list boot_list (Z0 (pv 0) Z3)))
  (Z4 (Y4 PassesOwn.never rfl (Zr (pv 1)) (pgl 3 Q7.nd)
   (Z4 (psl 4 Q7.nd (Zg ZS (Zg ZY (pv 3) Z6) (ZC (WQ rfl) (by rfl) G.max boot_max (Z0 Z6 (Z0 (pbL G (Z0 (pv 2) Z3)) Z3)))))
   (Z4 (Zw (Zl Js (Zg ZS (pv 3) Z6) Z6 (nomark _)) (Z7 (psl 2 Q7.nd (Zg YN (Y7 Yj (pv 2) Yl (Yf (pv 4))) (Y7 Yj (pv 2) (Yf (Zg Yd (pv 4) Z6)) Yl)))) Zh)
   (Z4 (Zw (Zl Js (Zg ZS (pv 3) Z6) Z6 (nomark _)) (Z7 (psl 2 Q7.nd (Zg YN (Zg YN (Y7 Yj (pv 2) Yl (Yf (pv 4))) (Zn (Z0 (Zg Ja (Zg ZS (Zg ZY (pv 3) Z6) Z6) Z6) Z3))) (Y7 Yj (pv 2) (Yf (pv 4)) Yl)))) Zh)
   (Z4 (Zw (PW.pt (Q9 (Zl Js (Zg ZS (pv 3) Z6) Z6 (nomark _)) (Vb (Zl (Xo hu) (pv 2) (Zn Z3) (nomark _)))))
    (Z7 (Ub (Zg Ja (Zg Yd (Zc Zf (pv 2) (pv 4)) (Zg ZS (Zg ZY (pv 3) Z6) Z6)) Z6) (NC (pv 2) (pv 4) Xa))) Zh)
   (Z7 (Zw (PW.pt (Q9 (Zl Js (Zg ZS (pv 3) Z6) Z6 (nomark _)) (Vb (Zl (Xo hu) (pv 2) (Zn Z3) (nomark _)))))
    (Z7 (Ub (J9 (Z0 (Zc Zf (pv 2) Z6) (Z0 (Zc Zf (pv 2) (pv 4)) Z3))) (Uc rfl (Zk (NC (pv 2) (pv 4) Xa) (Zk (NC (pv 2) Z6 Xa) Yw))))) Zh)))))))
  (Z7 (Ze (pv 2)))),?_⟩
 refine⟨_,rfl,b,_,rfl,.inl (Z8 hb),λl0 n0=>?_⟩;have u0:Same H (upd H l0 (.lst (xs.map V.int))):=Z9 n0;have e0:(upd H l0 (.lst (xs.map V.int))) l0=some (.lst (xs.map V.int)):=Z2;generalize upd H l0 (.lst (xs.map V.int))=H0 at u0 e0;refine⟨_,rfl,sc,rfl,⟨_,u0.seq hs⟩,ZX (K:=K) (a:=sc) (xs:=ns.map V.int) (λi σ H1=>Same H H1/\∃l ks v3 v4,σ=[some (.ref b),some (.ref sc),some (.ref l),v3,v4]/\H l=none/\H1 l=some (.lst (ks.map V.int))/\ks.length<=xs.length+i)
  ⟨u0,l0,xs,none,none,rfl,n0,e0,by lia⟩ (λi σ H1 _ ⟨s1,_⟩=>s1.seq hs) ?_ ?_⟩
 .rintro i y σ H1 hi ⟨s1,l,ks,v3,v4,rfl,nl,hl,hk⟩;have aj:i<ns.length:=by rw[zM] at hi;cases en:ns[i]? with
   | none=>rw[en] at hi;cases hi
   | some z=>exact(zT.mp en).1
  obtain⟨z,rfl⟩:∃z:Int,y = .int z:=by
   rw[zM] at hi;cases en:ns[i]? with
   | none=>rw[en] at hi;cases hi
   | some z=>rw[en] at hi;cases hi;exact⟨z,rfl⟩
  clear hi;have ql:=Z8 (K:=K) hl;refine⟨_,rfl,_,_,rfl,rfl,⟨by decide,by decide⟩,_,rfl,l,_,rfl,.inl ql,_,_,rfl,_,_,rfl,rfl,?_,?_⟩
  .show(0:Int)<(if((ks.map V.int).length:Int)>1 then((ks.map V.int).length:Int) else 1);split <;> lia
  have ae:(0:Int)<(if((ks.map V.int).length:Int)>1 then((ks.map V.int).length:Int) else 1):=by split <;> lia
  have ad:ks≠[]->(if((ks.map V.int).length:Int)>1 then((ks.map V.int).length:Int) else 1)<=ks.length:=λW=>by
   have:0<ks.length:=wZ.mpr W
   rw[zK];split <;> lia
  generalize (if((ks.map V.int).length:Int)>1 then((ks.map V.int).length:Int) else 1)=M at ae ad ⊢;show V0 4 (.int (z / 13 % M)) [some (.ref b),some (.ref sc),some (.ref l),some (.int z),v4] H1 _;have a0:0<=z / 13 % M:=wW _ (by lia)
  have a1:z / 13 % M<M:=wR _ ae;generalize z / 13 % M=A0 at a0 a1 ⊢;obtain⟨A,rfl⟩:∃A:Nat,A0=(A:Int):=⟨A0.toNat,by lia⟩
  have ha:ks≠[]->A<ks.length:=λW=>by have:=ad W;lia
  clear ae ad a0 a1 M;by_cases h0:z % 13=0
  .refine⟨_,rfl,_,_,rfl,rfl,(show(0:Int)<13 by decide),rfl,_,rfl,?_⟩
   rw[Zp,show(z % 13==(0:Int))=true from xS.mpr h0]
   refine iteT ?_;refine⟨_,rfl,_,rfl,(A:Int),rfl,l,_,rfl,ql,λL1 af=>?_⟩;rw[Uv];have u1:=Z9 (o:=.lst ((ks.map V.int).take A)) af;have e1:(upd H1 L1 (.lst ((ks.map V.int).take A))) L1=some (.lst ((ks.take A).map V.int)):=by rw[Z2,vI]
   generalize upd H1 L1 (.lst ((ks.map V.int).take A))=H2 at u1 e1;refine⟨_,rfl,_,rfl,_,_,rfl,rfl,(A:Int)+1,rfl,l,_,rfl,Z8 (u1 _ _ hl),λL2 aa=>?_⟩;rw[show(A:Int)+1=((A+1:Nat):Int) by lia,VX]
   have u2:=Z9 (o:=.lst ((ks.map V.int).drop (A+1))) aa;have e2:(upd H2 L2 (.lst ((ks.map V.int).drop (A+1)))) L2=some (.lst ((ks.drop (A+1)).map V.int)):=by rw[Z2,vY]
   generalize upd H2 L2 (.lst ((ks.map V.int).drop (A+1)))=H3 at u2 e2;refine⟨L1,L2,_,_,rfl,rfl,u2 _ _ e1,e2,yW (Zb (by rw[zK,zK,yL,xE];lia)),λO hO=>?_⟩
   have u3:=Z9 (o:=.lst ((ks.take A).map V.int++(ks.drop (A+1)).map V.int)) hO;have e3:(upd H3 O (.lst ((ks.take A).map V.int++(ks.drop (A+1)).map V.int))) O=some (.lst ((ks.take A++ks.drop (A+1)).map V.int)):=by rw[Z2,zZ]
   have uu:=(s1.trans (u1.trans u2)).free hO;have u:=s1.trans ((u1.trans u2).trans u3);refine⟨_,rfl,_,_,rfl,rfl,(show(0:Int)<13 by decide),rfl,_,rfl,?_⟩
   rw[Zp,show(z % 13==(1:Int))=false from xT.mpr (by lia)]
   refine iteF ?_;refine⟨_,rfl,_,_,rfl,rfl,(show(0:Int)<13 by decide),rfl,_,rfl,?_⟩
   rw[Zp,show(z % 13==(2:Int))=false from xT.mpr (by lia)]
   refine iteF ?_;refine⟨_,rfl,_,_,rfl,rfl,(show(0:Int)<13 by decide),rfl,_,rfl,?_⟩
   rw[Zp,show(z % 13==(3:Int))=false from xT.mpr (by lia)]
   refine iteF ?_;exact⟨u,O,_,_,_,rfl,uu,e3,by rw[zR,yL,xE];lia⟩
  refine⟨_,rfl,_,_,rfl,rfl,(show(0:Int)<13 by decide),rfl,_,rfl,?_⟩
  rw[Zp,show(z % 13==(0:Int))=false from xT.mpr (by lia)]
  refine iteF ?_;by_cases h1:z % 13=1
  .refine⟨_,rfl,_,_,rfl,rfl,(show(0:Int)<13 by decide),rfl,_,rfl,?_⟩
   rw[Zp,show(z % 13==(1:Int))=true from xS.mpr h1]
   refine iteT ?_;refine⟨_,rfl,_,rfl,(A:Int),rfl,l,_,rfl,ql,λL1 af=>?_⟩;rw[Uv];have u1:=Z9 (o:=.lst ((ks.map V.int).take A)) af;have e1:(upd H1 L1 (.lst ((ks.map V.int).take A))) L1=some (.lst ((ks.take A).map V.int)):=by rw[Z2,vI]
   generalize upd H1 L1 (.lst ((ks.map V.int).take A))=H2 at u1 e1;refine⟨_,rfl,_,_,rfl,rfl,⟨by decide,by decide⟩,_,_,rfl,rfl,(show(0:Int)<5 by decide),_,_,rfl,rfl,szL 1,λL3 ah=>?_⟩
   have u2:=Z9 (o:=.lst [.int (z / 169 % 5-1)]) ah;have e2:(upd H2 L3 (.lst [.int (z / 169 % 5-1)])) L3=some (.lst ([z / 169 % 5-1].map V.int)):=Z2;generalize upd H2 L3 (.lst [.int (z / 169 % 5-1)])=H3 at u2 e2;generalize z / 169 % 5-1=w at e2;refine⟨L1,L3,_,_,rfl,rfl,u2 _ _ e1,e2,yW (Zb (by rw[zK,zK,yL];show _+1<=1000;lia)),λO1 ag=>?_⟩
   have u3:=Z9 (o:=.lst ((ks.take A).map V.int++[w].map V.int)) ag;have e3:(upd H3 O1 (.lst ((ks.take A).map V.int++[w].map V.int))) O1=some (.lst ((ks.take A++[w]).map V.int)):=by rw[Z2,zZ]
   generalize upd H3 O1 (.lst ((ks.take A).map V.int++[w].map V.int))=H4 at u3 e3;have ac:=(u1.trans u2).trans u3;refine⟨_,rfl,_,rfl,(A:Int),rfl,l,_,rfl,Z8 (ac _ _ hl),λL2 aa=>?_⟩;rw[VX];have u4:=Z9 (o:=.lst ((ks.map V.int).drop A)) aa;have e4:(upd H4 L2 (.lst ((ks.map V.int).drop A))) L2=some (.lst ((ks.drop A).map V.int)):=by rw[Z2,vY]
   generalize upd H4 L2 (.lst ((ks.map V.int).drop A))=H5 at u4 e4;refine⟨O1,L2,_,_,rfl,rfl,u4 _ _ e3,e4,yW (Zb (by rw[zK,zK,zR,yL,xE];show _+1+_<=1000;lia)),λO hO=>?_⟩
   have u5:=Z9 (o:=.lst ((ks.take A++[w]).map V.int++(ks.drop A).map V.int)) hO;have e5:(upd H5 O (.lst ((ks.take A++[w]).map V.int++(ks.drop A).map V.int))) O=some (.lst (((ks.take A++[w])++ks.drop A).map V.int)):=by rw[Z2,<-zZ]
   have uu:=(s1.trans (ac.trans u4)).free hO;have u:=s1.trans ((ac.trans u4).trans u5);refine⟨_,rfl,_,_,rfl,rfl,(show(0:Int)<13 by decide),rfl,_,rfl,?_⟩
   rw[Zp,show(z % 13==(2:Int))=false from xT.mpr (by lia)]
   refine iteF ?_;refine⟨_,rfl,_,_,rfl,rfl,(show(0:Int)<13 by decide),rfl,_,rfl,?_⟩
   rw[Zp,show(z % 13==(3:Int))=false from xT.mpr (by lia)]
   refine iteF ?_;exact⟨u,O,_,_,_,rfl,uu,e5,by rw[zR,zR,yL,xE];show _+1+_<=_;lia⟩
  refine⟨_,rfl,_,_,rfl,rfl,(show(0:Int)<13 by decide),rfl,_,rfl,?_⟩
  rw[Zp,show(z % 13==(1:Int))=false from xT.mpr (by lia)]
  refine iteF ?_;by_cases h2:z % 13=2
  .refine⟨_,rfl,_,_,rfl,rfl,(show(0:Int)<13 by decide),rfl,_,rfl,?_⟩
   rw[Zp,show(z % 13==(2:Int))=true from xS.mpr h2]
   refine iteT ?_;refine⟨_,rfl,szL 0,λm nm=>?_⟩;have u1:=Z9 (o:=.lst []) nm;have e1:(upd H1 m (.lst [])) m=some (.lst (([]:List Int).map V.int)):=Z2;generalize upd H1 m (.lst [])=H2 at u1 e1;have Z:=u1 _ _ hl;have s2:=s1.trans u1;refine⟨l,m,ks,[],rfl,rfl,Z8 Z,Z8 e1,_,rfl,?_⟩;by_cases W:ks=[]
   .subst W;rw[show(if true=true then !decide (([]:List Int)=[]) else decide (([]:List Int)=[]))=false from rfl]
    refine iteF ?_;refine⟨_,rfl,_,_,rfl,rfl,(show(0:Int)<13 by decide),rfl,_,rfl,?_⟩
    rw[Zp,show(z % 13==(3:Int))=false from xT.mpr (by lia)]
    refine iteF ?_;exact⟨s2,l,[],_,_,rfl,nl,Z,by lia⟩
   rw[show(if true=true then !decide (ks=[]) else decide (ks=[]))=true from by rw[xW W];rfl]
   refine iteT ?_;have hA:=ha W;have q2:=Z8 (K:=K) Z;have cA:cnt ks.length (A:Int)=true:=Zm.mpr (by lia)
   have xA:ixN (ks.map V.int).length (A:Int)=some A:=by
    unfold ixN;rw[zK,xY (by lia),xY (by lia),yE]
   have kn:∀(o:HO),Same H (upd H2 l o):=λo b' o' e=>by rw[Z5 (Z1 e nl)];exact s2 _ _ e
   refine⟨_,rfl,_,rfl,l,_,_,_,rfl,rfl,q2,ZM cA,_,rfl,_,_,rfl,rfl,⟨by decide,by decide⟩,_,_,rfl,rfl,(show(0:Int)<3 by decide),_,_,rfl,rfl,_,_,rfl,rfl,?_⟩
   refine⟨_,rfl,_,rfl,l,_,_,A,rfl,rfl,Z,xA,?_⟩;refine⟨_,rfl,_,_,rfl,rfl,(show(0:Int)<13 by decide),rfl,_,rfl,?_⟩
   rw[Zp,show(z % 13==(3:Int))=false from xT.mpr (by lia)]
   refine iteF ?_;exact⟨kn _,l,ks.set A (ks.getD (A:Int).toNat 0+z / 169 % 3-1),_,_,rfl,nl,by rw[Z2,qK],by rw[vS];lia⟩
  refine⟨_,rfl,_,_,rfl,rfl,(show(0:Int)<13 by decide),rfl,_,rfl,?_⟩
  rw[Zp,show(z % 13==(2:Int))=false from xT.mpr (by lia)]
  refine iteF ?_;by_cases h3:z % 13=3
  .refine⟨_,rfl,_,_,rfl,rfl,(show(0:Int)<13 by decide),rfl,_,rfl,?_⟩
   rw[Zp,show(z % 13==(3:Int))=true from xS.mpr h3]
   refine iteT ?_;refine⟨_,rfl,szL 0,λm nm=>?_⟩;have u1:=Z9 (o:=.lst []) nm;have e1:(upd H1 m (.lst [])) m=some (.lst (([]:List Int).map V.int)):=Z2;generalize upd H1 m (.lst [])=H2 at u1 e1;have Z:=u1 _ _ hl;have s2:=s1.trans u1;refine⟨l,m,ks,[],rfl,rfl,Z8 Z,Z8 e1,_,rfl,?_⟩;by_cases W:ks=[]
   .subst W;rw[show(if true=true then !decide (([]:List Int)=[]) else decide (([]:List Int)=[]))=false from rfl]
    refine iteF ?_;exact⟨s2,l,[],_,_,rfl,nl,Z,by lia⟩
   rw[show(if true=true then !decide (ks=[]) else decide (ks=[]))=true from by rw[xW W];rfl]
   refine iteT ?_;have hA:=ha W;have q2:=Z8 (K:=K) Z;have cA:cnt ks.length (A:Int)=true:=Zm.mpr (by lia)
   have xA:ixN (ks.map V.int).length (A:Int)=some A:=by
    unfold ixN;rw[zK,xY (by lia),xY (by lia),yE]
   have kn:∀(o:HO),Same H (upd H2 l o):=λo b' o' e=>by rw[Z5 (Z1 e nl)];exact s2 _ _ e
   have c0:cnt ks.length 0=true:=Zm.mpr (by lia)
   refine⟨_,rfl,l,_,_,_,rfl,rfl,q2,ZM c0,_,rfl,_,rfl,l,_,_,_,rfl,rfl,q2,ZM cA,szL 2,λtt nt=>?_⟩;generalize ks.getD (0:Int).toNat 0=w0;generalize ks.getD (A:Int).toNat 0=w1;have u2:=Z9 (o:=.tup [.int w0,.int w1]) nt;have e2:(upd H2 tt (.tup [.int w0,.int w1])) tt=some (.tup [.int w0,.int w1]):=Z2;generalize upd H2 tt (.tup [.int w0,.int w1])=H3 at u2 e2;have ai:=u2 _ _ Z;have s3:=s2.trans u2;have x0:ixN ((ks.map V.int).set A (.int w0)).length 0=some 0:=by
    unfold ixN;rw[vS,zK,xY (by lia),xY (by lia)];rfl
   refine⟨tt,_,rfl,Zo e2,rfl,_,_,rfl,_,rfl,_,rfl,l,_,_,A,rfl,rfl,ai,xA,_,_,rfl,_,rfl,l,_,_,0,rfl,rfl,Z2,x0,rfl,?_⟩;refine⟨λb' o' e=>?_,l,(ks.set A w0).set 0 w1,_,_,rfl,nl,by rw[Z2,qK,qK],by rw[vS,vS];lia⟩
   rw[Z5 (Z1 e nl),Z5 (Z1 e nl)];exact s3 _ _ e
  refine⟨_,rfl,_,_,rfl,rfl,(show(0:Int)<13 by decide),rfl,_,rfl,?_⟩
  rw[Zp,show(z % 13==(3:Int))=false from xT.mpr (by lia)]
  refine iteF ?_;exact⟨s1,l,ks,_,_,rfl,nl,hl,by lia⟩
 .rintro σ H1 ⟨s1,l,ks,v3,v4,rfl,nl,hl,hk⟩;exact⟨_,rfl,k H1 l ks s1 nl hl (by rw[zK] at hk;exact hk)⟩
theorem Tr{outs:Nat->Option V}{p:Int->Prop}(h:∀i v,outs i=some v->∃k:Int,v = .int k/\p k):∀n:Nat,∃U:List Int,((zV n).filterMap outs)=U.map V.int/\(∀k∈U,p k)/\U.length<=n
 | 0=>⟨[],rfl,λ_ h=>(by cases h),zO _⟩
 | n+1=>by
  obtain⟨U,e,O,hl⟩:=Tr h n;rw[wI,xN,e];cases G:outs n with
  | none=>exact⟨U,by rw[yY,G];simp,O,by lia⟩
  | some v =>
   obtain⟨k,rfl,Z⟩:=h n v G;refine⟨U++[k],by rw[zZ,yY,G];rfl,λj W=>?_,by rw[zR];show _+1<=_;lia⟩
   rcases yC.mp W with z | z
   .exact O j z
   .rw[yO] at z;subst z;exact Z
theorem K9(U:List Int)(lo hi:Option Int):∃W:List Int,cutV (U.map V.int) lo hi=W.map V.int/\W.length<=U.length:=by
 unfold cutV;exact⟨(U.drop (HT.sIx (U.map V.int).length 0 lo)).take (HT.sIx (U.map V.int).length (U.map V.int).length hi-HT.sIx (U.map V.int).length 0 lo),by rw[vI,vY],by rw[yL,xE];lia⟩
section
variable {K:Frag}{H0:Hp}{σ:L2.St}{te te1 te2:TE}{ta:TA}{tl th:TO}{g:TG}{n m:Nat}{sc:Ab}{ns:List Int}{E:XK}
def MI (H0:Hp)(te:TE)(σ:L2.St)(n:Nat):Prop:=∀H,Same H0 H->∀Q:VK,(∀H' b (xs:List Int),Same H H'->H' b=some (.lst (xs.map V.int))->xs.length<=n->Q (.ref b) H')->te σ H Q
def MQ (K:Frag)(H0:Hp)(te:TE)(σ:L2.St)(n:Nat):Prop:=∀H,Same H0 H->∀Q:VK,(∀H' b (xs:List Int),Same H H'->SqL K H' b (xs.map V.int)->xs.length<=n->Q (.ref b) H')->te σ H Q
theorem MI.q(h:MI H0 te σ n):MQ K H0 te σ n:=λH s Q k=>h H s Q λH' b xs s e z=>k H' b xs s (Z8 e) z
def IL (H:Hp)(v:V):Prop:=∃(b:Ab) (xs:List Int),v = .ref b/\H b=some (.lst (xs.map V.int))/\xs.length<=900
def MIs (H0:Hp)(ta:TA)(σ:L2.St)(n:Nat):Prop:=∀H,Same H0 H->∀Q:List V->Hp->Prop,(∀H' vs,Same H H'->vs.length=n->(∀v∈vs,IL H' v)->Q vs H')->ta σ H Q
theorem QT:MIs H0 tNil σ 0:=λH _ _ k=>k H [] (Za _) rfl λ_ h=>by cases h
theorem ZK(h:MI H0 te σ n)(t:MIs H0 ta σ m)(W:n<=900:=by decide):MIs H0 (Zs te ta) σ (m+1):=λH s Q k=>h H s _ λH1 b xs s1 e z=>t H1 (s.trans s1) _ λH2 vs s2 V O=>k H2 (.ref b::vs) (s1.trans s2) (by rw[xF,V]) λv G=>by
 rcases yF.mp G with rfl | h'
 .exact⟨b,xs,rfl,s2 _ _ e,by lia⟩
 .exact O v h'
theorem mi_v{b:Ab}(e:σ[i]?=some (some (.ref b)))(h:H0 b=some (.lst (xs.map V.int)))(z:xs.length<=n):MI H0 (tVar i) σ n:=λH s _ k=>⟨_,e,k H b xs (Za _) (s _ _ h) z⟩
theorem mq_v(e:σ[i]?=some (some (.ref sc)))(h:SqL K H0 sc (ns.map V.int))(z:ns.length<=n):MQ K H0 (tVar i) σ n:=λH s _ k=>⟨_,e,k H sc ns (Za _) (s.seq h) z⟩
theorem Gn(h:∀(H:Hp) (Q:List V->Hp->Prop),Q (xs.map V.int) H->ta σ H Q)(z:xs.length<=1000):MI H0 (tLst ta) σ xs.length:=λH _ _ k=>h H _ ⟨by rw[zK];exact yW (Zb z),λp G=>k _ p xs (Z9 G) Z2 (zO _)⟩
theorem Go{lo hi:Option Int}(h:MQ K H0 te σ n)(hl:∀(H:Hp) (Q:Option Int->Hp->Prop),Q lo H->tl σ H Q)(G:∀(H:Hp) (Q:Option Int->Hp->Prop),Q hi H->th σ H Q):MI H0 (tSl (rSlL K) te tl th) σ n:=λH s _ k=>h H s _ λH1 b xs s1 e z=>hl H1 _ (G H1 _ ⟨b,_,rfl,e,λp V=>by
 obtain⟨W,O,Z⟩:=K9 xs lo hi;exact k _ p W (s1.trans (Z9 V)) (by rw[Z2,O]) (yU Z z)⟩)
theorem Tf(h:MQ K H0 te σ n):MI H0 (tSl (rSlL K) te Dv (Oh (tC (.int 1)))) σ 1:=λH s _ k=>h H s _ λH1 b xs s1 e _=>⟨1,rfl,b,_,rfl,e,λp G =>
 k _ p (xs.take 1) (s1.trans (Z9 G)) (by rw[Z2,vI];exact xQ (λz=>some (HO.lst z)) (Uv _ 1)) (by rw[yL];lia)⟩
theorem Xv(h1:MI H0 te1 σ n)(h2:MI H0 te2 σ m)(z:n+m<=1000):MI H0 (tOp rCat te1 te2) σ (n+m):=λH s _ k=>h1 H s _ λH1 b xs s1 e1 V=>h2 H1 (s.trans s1) _ λH2 b2 ys s2 e2 O=>⟨b,b2,_,_,rfl,rfl,s2 _ _ e1,e2,yW (Zb (by rw[zK,zK];lia)),λp G =>
 k _ p (xs++ys) ((s1.trans s2).trans (Z9 G)) (by rw[Z2,zZ]) (by rw[zR];lia)⟩
theorem Pk(h:MQ K H0 te σ n):MI H0 (tRev K te) σ n:=λH s _ k=>h H s _ λH1 b xs s1 e z=>⟨b,_,rfl,e,λp G=>k _ p xs.reverse (s1.trans (Z9 G)) (by rw[Z2,List.map_reverse]) (by rw[wM];exact z)⟩
theorem T6:∀k:Nat,(yN k [V.int 0]).flatten=(yN k (0:Int)).map V.int
 | 0=>rfl
 | k+1=>by rw[wL,wL,vN,T6 k];rfl
theorem Pl(h:∀H,Same H0 H->∀Q:VK,Q (.int k) H->te σ H Q)(h0:-1000<=k)(W:k<=n)(V:n<=900):MI H0 (tOp rRep (tLst (Zs (tC (.int 0)) tNil)) te) σ n:=λH s _ q=>⟨szL 1,λp O=>h _ (s.trans (Z9 O)) _ ⟨p,k,_,rfl,rfl,Z2,by lia,by lia,by
  show 1*k.toNat<=zF;exact yW (Zb (by lia)),λp2 G=>q _ p2 (yN k.toNat 0) ((Z9 O).trans (Z9 G)) (by rw[Z2];exact xQ (λz=>some (HO.lst z)) (T6 _)) (by rw[qO];lia)⟩⟩
theorem Gp(f:Int->Int)(h:MQ K H0 te1 σ n)(hn:n<=900)(st:∀(z:Int) (v:Option V) (Hc:Hp) (R:V->L2.St->Hp->Prop),(∀v',R (.int (f z)) [v'] Hc)->g (.int z) [v] Hc λσ2 H2=>te σ2 H2 λv H4=>R v σ2 H4):
  MI H0 (tComp [none] (PP K te1) g tYes te) σ n:=λH s Q k=>h H s _ λH1 b xs s1 e z=>⟨b,rfl,⟨_,e⟩,λD hD=>by
 refine Y0 (outs:=λi=>(xs[i]?).map λz=>V.int (f z)) (λσ=>∃v,σ=[v]) hD e (Zb (by rw[zK];lia)) ⟨none,rfl⟩ (λi x σc Hc Z No O sm _ hv W no=>?_) (λHc s2 e2=>?_)
 .obtain⟨v,rfl⟩:=hv;rw[zM] at O;cases G:xs[i]? with
  | none=>rw[G] at O;cases O
  | some z=>rw[G] at O;cases O;exact st z v Hc (λv σ H=>Z v σ H) λv'=>W _ _ _ ⟨_,rfl⟩ (Za _) (by rw[G];rfl)
 .obtain⟨U,eU,_,lU⟩:=Tr (p:=λ_=>True) (outs:=λi=>(xs[i]?).map λz=>V.int (f z)) (λi v h=>by
   cases G:xs[i]? with
   | none=>rw[G] at h;cases h
   | some z=>rw[G] at h;cases h;exact⟨_,rfl,trivial⟩) (xs.map V.int).length
  rw[eU] at e2;exact k _ D U (s1.trans s2) e2 (by rw[zK] at lU;lia)⟩
theorem Gq(h:MI H0 te σ n)(G:n<=700)(e:σ[0]?=some (some (.ref sc)))(hs:SqL K H0 sc (ns.map V.int))(z:ns.length<=63):MI H0 (Dw (spLBent K) [] E (Zs te (Zs (tVar 0) tNil))) σ (n+63):=λH s _ k=>h H s _ λH1 b xs s1 e1 W=>⟨_,e,b,sc,xs,ns,rfl,e1,(s.trans s1).seq hs,by lia,z,λH' l ks s2 _ e2 O=>k H' l ks (s1.trans s2) e2 (by lia)⟩
theorem OV(h:MI H te σ n)(k:∀H1 b (xs:List Int),Same H H1->H1 b=some (.lst (xs.map V.int))->xs.length<=n->U D (σ.set i (some (.ref b))) H1):tSeq (tAsg te (V0 i)) U D σ H:=h H (Za _) _ k
def MV (H:Hp)(te:TE)(σ:L2.St):Prop:=∀Q:VK,(∀H1 L vs,Same H H1->H1 L=some (.lst vs)->(∀v∈vs,IL H1 v)->Q (.ref L) H1)->te σ H Q
theorem MIs.mv(h:MIs H ta σ n)(z:n<=1000):MV H (tLst ta) σ:=λQ k=>h H (Za _) _ λH1 vs s1 V W=>⟨by rw[V];exact yW (Zb z),λb G=>k _ b vs (s1.trans (Z9 G)) Z2 λv h=>by
  obtain⟨O,xs,e,h1,h2⟩:=W v h;exact⟨O,xs,e,Z9 G _ _ h1,h2⟩⟩
theorem OT(h:MV H te σ)(k:∀H1 b vs,Same H H1->H1 b=some (.lst vs)->(∀v∈vs,IL H1 v)->U D (σ.set i (some (.ref b))) H1):tSeq (tAsg te (V0 i)) U D σ H:=h _ k
theorem G7{tb:TS}(h:MV H te σ)(S:L2.St->Prop)(h0:S σ)(hs:∀H1 b (xs:List Int) O,Same H H1->S O->H1 b=some (.lst (xs.map V.int))->xs.length<=900->∀Z:Ends,(∀G H2,S G->Same H1 H2->Z.nx G H2)->g (.ref b) O H1 λG H2=>tb Z G H2)(hd:∀H1 O,Same H H1->S O->U D O H1):tSeq (tFor (PP K te) g tb) U D σ H :=
 h _ λH1 L vs s1 W hv=>⟨L,rfl,⟨_,Z8 W⟩,ZX (K:=K) (a:=L) (xs:=vs) (λ_ G H2=>Same H1 H2/\S G) ⟨Za _,h0⟩ (λ_ _ _ _ h=>Z8 (h.1 _ _ W)) (λi y G H2 hi h2=>by
  obtain⟨b,xs,rfl,hb,zb⟩:=hv y (yM hi);exact hs H2 b xs G (s1.trans h2.1) h2.2 (h2.1 _ _ hb) zb _ λσ3 H3 h3 s3=>⟨h2.1.trans s3,h3⟩) λG H2 h2=>hd H2 G (s1.trans h2.1) h2.2⟩
end
def spLWalk(K:Frag):Sp:=λvs H Q _=>∃(a sc:Ab) (ss:List Say) (ns:List Int) (c p:Int),vs=[.ref a,.ref sc,.int p]/\SaysAt H a ss/\SqL K H sc (ns.map V.int)/\ss.length<=400/\ss.all (inside c)=true/\cnt c p=true/\ns.length<=63 /\
 ∀(H':Hp) (t l:Ab) (ks:List Int) (q:Int),Same H H'->H l=none->H' t=some (.tup [.ref l,.int q])->H' l=some (.lst (ks.map V.int))->ks.length<=ns.length->cnt c q=true->Q (.ref t) H'
abbrev Ow:List Str:=["_law_sayings_here","_law_script","_law_place","_law_found","_law_cell","_law_ways"]
theorem VI:Zd Ow Dc (defScope UT):=fs7
theorem ndW:(lst_54:List Str).Nodup:=by decide +kernel
theorem PY(p:Nat->Prop)[DecidablePred p]:∀n:Nat,∃G:List Int,((zV n).filterMap λi=>if p i then some (V.int (i:Int)) else none)=G.map V.int/\(∀k∈G,cnt n k=true)/\G.length<=n
 | 0=>⟨[],rfl,λ_ h=>(by cases h),zO _⟩
 | n+1=>by
  obtain⟨G,e,h,Z⟩:=PY p n;have h':∀k∈G,cnt ((n+1:Nat):Int) k=true:=λk O=>by
   obtain⟨a,b⟩:=Zm.mp (h k O);exact Zm.mpr (by lia)
  rw[wI,xN,e];by_cases W:p n
  .refine⟨G++[(n:Int)],?_,λk O=>?_,by rw[zR];show _+1<=_;lia⟩
   .rw[zZ,yY,xY W];rfl
   .rcases yC.mp O with z | z
    .exact h' k z
    .rw[yO] at z;subst z;exact Zm.mpr (by lia)
  .refine⟨G,?_,h',by lia⟩
   rw[yY,xZ W];simp
theorem O6(ks:List Int)(g:Int):atI ((ks++[g]).map V.int) (-1)=some (.int g):=by
 unfold atI ixN;have G:((ks++[g]).map V.int).length=ks.length+1:=by rw[zK,zR];rfl
 rw[G,xZ (by decide),xY (by lia),show((-1:Int)+((ks.length+1:Nat):Int)).toNat=ks.length by lia]
 show((ks++[g]).map V.int)[ks.length]?=_;rw[zM,wB (zO _),Nat.sub_self];rfl
theorem P8(D:V4 K mg f fd)(G:G1 K mg):FnOk P w K mg base CX0 1 f fd Dc (spLWalk K):=by
 refine D.fn.okA VI λ_ _ outer _ H vs Q _ hr h=>?_;obtain⟨a,sc,ss,ns,c,p,rfl,ha,hs,hz,ai,cp,as,k⟩:=h;have hu:=hr.units;refine⟨_,Z4 (psl 3 VI.nd (Zn Z3))
  (Z4 (Y4 PassesOwn.never rfl (Zr (pv 1)) (pgl 4 VI.nd)
   (Z4 (JQ (j:=5) (XN:=Ow) (outer:=defScope UT) (N:=lst_54) (cap:=[none,some 0,some 2])
    (by exact csc (.own (.cap rfl rfl rfl (.cap rfl rfl rfl .nil)))) rfl VI.nd rfl (Or.inl rfl) (Uq (by rfl) G.range (Z0 (pbL G (Z0 (pv 0) Z3)) Z3))
    (λ_ _ _ _ _ _=>pgl 0 ndW) (λ_ _ _ _ _ _=>JR (Zl Js (Zc (ixT (K:=K)) (Zc (ixL (K:=K)) (pv 1) (pv 0)) Z6) (pv 2) (nomark _)))
    (λ_ _ _ _ _ _=>pv 0))
   (Z7 (Zw (Zl (Xo hu) (pv 5) (Zn Z3) (nomark _))
    (Z4 (ZP (U4 yH yR yQ ZZ (pv 3) (Z0 (Zc Zf (pv 5) (Zg ZS (Zg ZY (pv 4) Z6) (pbL G (Z0 (pv 5) Z3)))) Z3)))
    (Z7 (Ub (Zc ZF (Zc Zf (pv 0) (Zc Zf (pv 3) (Mw X5 Z6))) Z6) (VN (i:=2) VI.nd rfl (Or.inr rfl))))) Zh))))
  (Z7 (Ze (J9 (Z0 (pv 3) (Z0 (pv 2) Z3)))))),?_⟩
 obtain⟨ps,ae,hS⟩:=ha.ex;refine⟨szL 0,λl nl=>?_⟩;have u0:Same H (upd H l (.lst [])):=Z9 nl;have e0:(upd H l (.lst [])) l=some (.lst (([]:List Int).map V.int)):=Z2;generalize upd H l (.lst [])=H0 at u0 e0;refine⟨_,rfl,sc,rfl,⟨_,u0.seq hs⟩,ZX (K:=K) (a:=sc) (xs:=ns.map V.int) (λi σ H1=>Same H H1/\∃ks q v4 v5,σ=[some (.ref a),some (.ref sc),some (.int q),some (.ref l),v4,v5]/\H1 l=some (.lst (ks.map V.int))/\ks.length<=i/\cnt c q=true)
  ⟨u0,[],p,none,none,rfl,e0,zO _,cp⟩ (λi σ H1 _ ⟨s1,_⟩=>s1.seq hs) ?_ ?_⟩
 .rintro i y σ H1 hi ⟨s1,ks,q,v4,v5,rfl,hl,hk,cq⟩;obtain⟨z,rfl,ap⟩:∃z:Int,y = .int z/\i<ns.length:=by
   rw[zM] at hi;cases en:ns[i]? with
   | none=>rw[en] at hi;cases hi
   | some z=>rw[en] at hi;cases hi;exact⟨z,rfl,(zT.mp en).1⟩
  clear hi;have af:=s1 _ _ ae;have al:=hS.same s1;have ak:(((ps.map V.ref).length:Nat):Int).toNat=ss.length:=by rw[yE,zK,hS.len]
  refine⟨_,rfl,a,_,rfl,.inl (Z8 af),_,rfl,by lia,by rw[zK,hS.len];lia,λD hD=>?_⟩
  rw[ak];refine JY (outs:=λi=>if(sy ss (i:Int)).1=q then some (V.int (i:Int)) else none) (λσ=>∃v,σ=[v,some (.ref a),some (.int q)]) hD (Zb (by lia)) ⟨none,rfl⟩ (λj σc Hc ar No hj sm au ⟨v,hv⟩ aj no=>?_) (λH2 s2 ah=>?_)
  .subst hv;obtain⟨pp,Z,ac⟩:=Xf (at_:=(j:Int)) (al.same sm) (Zm.mpr (by lia))
   refine⟨_,rfl,_,rfl,a,_,_,_,rfl,rfl,Z8 (sm _ _ af),Z,pp,_,_,_,rfl,rfl,Zo ac,rfl,_,rfl,rfl,_,rfl,?_⟩;rw[Zp];by_cases hq:(sy ss (j:Int)).1=q
   .rw[show((sy ss (j:Int)).1==q)=true from xS.mpr hq]
    exact iteT ⟨_,rfl,aj _ _ _ ⟨_,rfl⟩ (Za _) (xY hq)⟩
   .rw[show((sy ss (j:Int)).1==q)=false from xT.mpr hq]
    exact iteF (no _ _ ⟨_,rfl⟩ (Za _) (xZ hq))
  obtain⟨O,ew,hw,av⟩:=PY (λi:Nat=>(sy ss (i:Int)).1=q) ss.length;rw[ew] at ah;have ao:=s1.trans s2;have am:=s2 _ _ hl;refine⟨_,rfl,szL 0,λm nm=>?_⟩;have u3:=Z9 (o:=.lst []) nm;have e3:(upd H2 m (.lst [])) m=some (.lst (([]:List Int).map V.int)):=Z2;generalize upd H2 m (.lst [])=H3 at u3 e3;have ag:=u3 _ _ ah;have ad:=u3 _ _ am;have s3:=ao.trans u3;refine⟨D,m,O,[],rfl,rfl,Z8 ag,Z8 e3,_,rfl,?_⟩;by_cases aa:O=[]
  .rw[show(if true=true then !decide (O=[]) else decide (O=[]))=false from by rw[xV aa];rfl]
   exact iteF ⟨s3,ks,q,_,_,rfl,ad,by lia,cq⟩
  rw[show(if true=true then !decide (O=[]) else decide (O=[]))=true from by rw[xW aa];rfl]
  refine iteT ?_;have aq:0<O.length:=wZ.mpr aa;have qD:=Z8 (K:=K) ag;have b0:0<=z / 11 % ((O.map V.int).length:Int):=wW _ (by rw[zK];lia)
  have b1:z / 11 % ((O.map V.int).length:Int)<O.length:=by
   have:=wR (z / 11) (b:=((O.map V.int).length:Int)) (by rw[zK];lia)
   rw[zK] at this ⊢;exact this
  refine⟨_,rfl,.inl ⟨rfl,_,Z8 ad⟩,_,rfl,_,rfl,_,_,rfl,rfl,⟨by decide,by decide⟩,_,rfl,D,_,rfl,.inl qD,_,_,rfl,rfl,(show(0:Int)<((O.map V.int).length:Int) by rw[zK];lia),D,_,_,_,rfl,rfl,qD,ZM (Zm.mpr ⟨b0,b1⟩),l,_,_,rfl,rfl,ad,Zb (by rw[zK];lia),?_⟩
  have W:cnt ss.length (O.getD (z / 11 % ((O.map V.int).length:Int)).toNat 0)=true:=hw _ (by
   rw[uB,zN (by lia)];exact xC _)
  generalize O.getD (z / 11 % ((O.map V.int).length:Int)).toNat 0=g at W;have e4:(upd H3 l (.lst (ks.map V.int++[.int g]))) l=some (.lst ((ks++[g]).map V.int)):=by rw[Z2,zZ];rfl
  have k4:∀b o,b≠l->H3 b=some o->(upd H3 l (.lst (ks.map V.int++[.int g]))) b=some o:=λb o hb e=>by rw[Z5 hb];exact e
  generalize upd H3 l (.lst (ks.map V.int++[.int g]))=H4 at e4 k4;have s4:Same H H4:=λb o e=>k4 b o (Z1 e nl) (s3 b o e);obtain⟨pp,Z,ac⟩:=Xf (hS.same s4) W;refine⟨_,rfl,_,rfl,1,rfl,l,_,_,_,rfl,rfl,Z8 e4,O6 ks g,a,_,_,_,rfl,rfl,Z8 (s4 _ _ ae),Z,pp,_,_,_,rfl,rfl,Zo ac,rfl,?_⟩;refine⟨s4,ks++[g],(sy ss g).2.1,_,_,rfl,e4,by rw[zR];show _+1<=_;lia,?_⟩
  have hm:sy ss g∈ss:=by
   obtain⟨g0,g1⟩:=Zm.mp W;unfold sy;rw[zN (by lia)];exact xC _
  exact(ins2 ai hm).2
 .rintro σ H1 ⟨s1,ks,q,v4,v5,rfl,hl,hk,cq⟩;refine⟨_,rfl,_,rfl,szL 2,λt nt=>?_⟩;have u2:=Z9 (o:=.tup [.ref l,.int q]) nt;exact k _ t l ks q (s1.trans u2) nl Z2 (u2 _ _ hl) (by rw[zK] at hk;exact hk) cq
def dueSum(ss:List Say)(ns:List Int)(one bu:Int):V:=if walk ss ns one=some bu then .int (sumC ss ns) else .non
inductive TK(vs:List V)(H:Hp)(Q:VK):Prop
 | mk (a:Ab) (ss:List Say) (b:Ab) (ns:List Int) (one bu:Int) (h0:vs=[.ref a,.ref b,.int one,.int bu]) (h1:SaysAt H a ss) (h2:H b=some (.lst (ns.map V.int))) (h3:Q (dueSum ss ns one bu) H):TK vs H Q
def spLSum:Sp:=λvs H Q _=>TK vs H Q
theorem Vn:Zd ["_law_sayings_here","_law_chain","_law_one","_law_other","_law_total","_law_place","_law_at","_law_lower","_law_upper","_law_number"] Dd (defScope Op):=fs7
theorem TY(ss:List Say)(k:Int)(r:List Int):sumC ss (k::r)=num ss k+sumC ss r:=by unfold sumC;rw[yV,vH]
theorem Gi{c:Bool}(D:U1 K mg f fd)(G:G1 K mg):FnOk P w K mg base (CXm c) 1 f fd Dd spLSum:=by
 refine D.fn.okA Vn λ_ _ _ _ H vs Q _ hr h=>?_;obtain⟨a,ss,b,ns,one,bu,rfl,ha,hb,k⟩:=h;obtain⟨ps,ha,hS⟩:=ha.ex;refine⟨_,Z4 (Vp (i:=4) (j:=5) rfl Vn.nd rfl rfl (by decide) rfl rfl (Z0 Z6 (Z0 (pv 2) Z3)) rfl)
  (Z4 (Y4 PassesOwn.never rfl (Zr (pv 1)) (pgl 6 Vn.nd)
   (Z4 (Zw (PW.pt (Ji (Zq (pbI G (Z0 (pv 6) (Z0 (UP (by rfl) G.bool boot_bool) Z3))))
     (Ji (Zy (Zq (pbI G (Z0 (pv 6) (Z0 (UP (by rfl) G.int boot_int) Z3)))))
     (YM (Zy (LH QC VQ Z6 (pv 6) (pbL G (Z0 (pv 0) Z3)))))))) (Z7 (Ze UU)) Zh)
   (Z4 (Ub (Zc Zf (pv 0) (pv 6)) (Uc rfl (Zk (pgl 7 Vn.nd) (Zk (pgl 8 Vn.nd) (Zk (pgl 9 Vn.nd) Yw)))))
   (Z4 (Zw (Zl VP (pv 7) (pv 5) (nomark _)) (Z7 (Ze UU)) Zh)
   (Z7 (Vp (i:=4) (j:=5) rfl Vn.nd rfl rfl (by decide) rfl rfl (Z0 (Zg Yd (pv 4) (pv 9)) (Z0 (pv 8) Z3)) rfl))))))
  (Z7 (Ze (Ur (Zl Js (pv 5) (pv 3) (nomark _)) (pv 4) UU)))),?_⟩
 refine⟨_,rfl,_,_,rfl,?_⟩;refine⟨_,rfl,b,rfl,⟨_,Z8 hb⟩,ZX (K:=K) (a:=b) (xs:=ns.map V.int) (λi σ H2=>H2=H/\∃(t p:Int) (v6 v7 v8 v9:Option V),σ=[some (.ref a),some (.ref b),some (.int one),some (.int bu),some (.int t),some (.int p),v6,v7,v8,v9]/\walk ss ns one=walk ss (ns.drop i) p/\sumC ss ns=t+sumC ss (ns.drop i))
  ⟨rfl,0,one,none,none,none,none,rfl,rfl,by rw[jV,qQ]⟩ (λi σ H2 _ ⟨e,_⟩=>by rw[e];exact Z8 hb) ?_ ?_⟩
 .rintro i y σ H2 hi ⟨rfl,t,p,v6,v7,v8,v9,rfl,hw,O⟩;rw[zM] at hi;cases en:ns[i]? with
  | none=>rw[en] at hi;cases hi
  | some z =>
   rw[en] at hi;cases hi;have ed:ns.drop i=z::ns.drop (i+1):=by
    obtain⟨hl,rfl⟩:=zT.mp en;exact xH hl
   rw[ed] at hw O;rw[TY] at O;have el:((ps.map V.ref).length:Int)=ss.length:=by rw[zK,hS.len]
   have kn:walk ss ns one=none->Q .non H2:=λe=>by
    unfold dueSum at k;rw[e,xZ (by simp)] at k
    exact k
   refine⟨_,rfl,_,_,_,_,_,rfl,.int z,rfl,G.kib,false,rfl,iteF ?_⟩;refine⟨_,rfl,_,_,_,_,_,rfl,.int z,rfl,G.kii,true,rfl,iteF ?_⟩;refine⟨_,rfl,_,_,rfl,rfl,_,rfl,?_⟩;refine ite2 (λh0=>?_) (λh0=>?_)
   .refine⟨_,rfl,a,_,rfl,.inl (Z8 ha),_,_,rfl,rfl,_,rfl,?_⟩;rw[el];cases ac:decide (z<(ss.length:Int)) with
    | false =>
     refine kn ?_;rw[hw];unfold walk;rw[xZ];unfold cnt;rw[ac];simp
    | true =>
     have hc:cnt ss.length z=true:=by unfold cnt;rw[h0,ac];rfl
     obtain⟨⟨l,u,n⟩,es,ad⟩:=YZ hc;obtain⟨q,eq,hq⟩:=hS.get es;have hq:H2 q=some (.tup [.int l,.int u,.int n]):=hq;have e1:(ps.map V.ref)[z.toNat]?=some (.ref q):=by rw[zM,eq];rfl
     have aa:walk ss ns one=if l=p then walk ss (ns.drop (i+1)) u else none:=by
      rw[hw];conv=>lhs;unfold walk
      rw[hc,xY rfl,es]
     have hn:num ss z=n:=by unfold num;rw[es];rfl
     refine⟨_,rfl,_,rfl,a,_,_,_,rfl,rfl,Z8 ha,Jn ad e1,q,_,rfl,Zo hq,rfl,_,_,rfl,_,_,rfl,_,_,rfl,rfl,?_⟩;refine⟨_,rfl,_,rfl,rfl,_,rfl,?_⟩;refine ite2 (λW=>?_) (λW=>?_)
     .rw[Zp] at W;have W:¬ l=p:=by simpa using W
      exact kn (by rw[aa,xZ W])
     .rw[Zp] at W;have W:l=p:=by simpa using W
      refine⟨_,rfl,_,rfl,_,_,rfl,rfl,_,rfl,_,_,rfl,?_⟩;exact⟨rfl,_,u,_,_,_,_,rfl,by rw[aa,xY W],by rw[O,hn];lia⟩
   .refine⟨false,rfl,kn ?_⟩;rw[hw];unfold walk;rw[xZ];unfold cnt;rw[vG.mpr h0];simp
 .rintro σ H2 ⟨rfl,t,p,v6,v7,v8,v9,rfl,hw,O⟩;rw[zK,List.drop_length] at hw O;have hw:walk ss ns one=some p:=hw;have O:sumC ss ns=t:=by rw[O];simp[sumC]
  refine⟨_,rfl,_,rfl,rfl,_,rfl,?_⟩;unfold dueSum at k;rw[hw,O] at k;refine ite2 (λZ=>?_) (λZ=>?_)
  .rw[Zp] at Z;have Z:p=bu:=by simpa using Z
   rw[xY (by rw[Z])] at k
   exact⟨_,rfl,k⟩
  .rw[Zp] at Z;have Z:¬ p=bu:=by simpa using Z
   rw[xZ (by intro z;exact Z (Option.some.inj z))] at k
   exact k
def spLRing:Sp:=λvs H Q _=>∃(a l:Ab) (ss:List Say) (ns:List Int),vs=[.ref a,.ref l]/\SaysAt H a ss/\H l=some (.lst (ns.map V.int))/\∀H',Same H H'->Q (.bl (rDue ss ns)) H'
theorem DQ:Zd ["_law_sayings_here","_law_chain","_law_total"] D9 (defScope Qz):=fs7
theorem Pa{c:Bool}(D:V5 K mg f fd)(DS:U1 K mg fs ds)(G:G1 K mg):FnOk P w K mg base (CXm c) 2 f fd D9 spLRing:=by
 have GS:FnOk P w K mg base (CXm c) 1 fs ds _ spLSum:=Gi DS G;refine D.fn.okA DQ λ_ _ _ _ H vs Q _ hr h=>?_;obtain⟨a,l,ss,ns,rfl,ha,hl,k⟩:=h;have hu:=hr.units;refine⟨_,Z4 (Zw (PW.pt (Ji (Zy (Zq (pbI G (Z0 (pv 1) (Z0 (UP (by rfl) G.list boot_list) Z3)))))
   (Ji (Zl (E3 (K:=K) hu) (pv 1) (Zn Z3) (nomark _))
   (YM (Zy (Zl Rk (Zc Zf (pv 1) Z6) (Zt WP (by rfl) G.range boot_range (Z0 (pbL G (Z0 (pv 0) Z3)) Z3)) (by with_unfolding_all rfl))))))) (Z7 (Ze ZI)) Zh)
  (Z4 (psl 2 DQ.nd (UD (hcc:=λz=>z) GS hr (by rfl) DS.at_ DS.fn.kp DS.bd .nil Zu (Z0 (pv 0) (Z0 (pv 1)
   (Z0 (Zc ZF (Zc Zf (pv 0) (Zc Zf (pv 1) Z6)) Z6)
   (Z0 (Zc ZF (Zc Zf (pv 0) (Zc Zf (pv 1) Z6)) Z6) Z3))))))
  (Z7 (Ze (Y1 (ZH Gh (pv 2) UU (nomark _)) (Y8 (ZH VQ (pv 2) Z6 (nomark _))))))),?_⟩
 obtain⟨ps,aa,hS⟩:=ha.ex;refine⟨_,rfl,_,_,_,_,_,rfl,.lst hl,rfl,G.kll,true,rfl,iteF ?_⟩;refine⟨_,rfl,szL 0,λq hq=>?_⟩;have s1:Same H (upd H q (.lst [])):=Z9 hq;refine⟨l,q,ns,[],rfl,rfl,Z8 (s1 _ _ hl),Z8 Z2,_,rfl,?_⟩;cases ns with
 | nil=>exact k _ s1
 | cons z r =>
  rw[show(if false=true then !decide (z::r=[]) else decide (z::r=[]))=false from rfl]
  refine iteF ?_;have ae:=s1 _ _ hl;have af:=s1 _ _ aa;refine⟨_,rfl,l,_,_,_,rfl,rfl,Z8 ae,Jn (wX 0) rfl,_,rfl,a,_,rfl,.inl (Z8 af),_,rfl,λp hp=>?_⟩;have s2:Same H (upd (upd H q (.lst [])) p (.rng 0 ((ps.map V.ref).length:Nat))):=s1.trans (Z9 hp);refine⟨z,0,_,p,rfl,rfl,Z2,_,rfl,?_⟩;have O:=s2 _ _ hl;have Z:=s2 _ _ aa;have W:=ha.same s2;rw[zK,hS.len];rw[zK,hS.len] at s2 O Z W;have ec:(decide ((0:Int)<=z)&&decide (z<(ss.length:Int)))=cnt ss.length z:=rfl;rw[ec];rw[Wt] at k;cases hc:cnt ss.length z with
  | false =>
   rw[hc,wP] at k;exact k _ s2
  | true =>
   rw[hc,vD] at k;obtain⟨qq,eq,ad⟩:=VJ hS hc;have ac:=s2 _ _ ad;refine⟨_,rfl,_,rfl,_,rfl,_,rfl,l,_,_,_,rfl,rfl,Z8 O,Jn (wX 0) rfl,a,_,_,_,rfl,rfl,Z8 Z,eq,qq,_,_,_,rfl,rfl,Zo ac,rfl,_,rfl,_,rfl,l,_,_,_,rfl,rfl,Z8 O,Jn (wX 0) rfl,a,_,_,_,rfl,rfl,Z8 Z,eq,qq,_,_,_,rfl,rfl,Zo ac,rfl,?_⟩;refine⟨a,ss,l,z::r,_,_,rfl,W,O,?_⟩;unfold dueSum;by_cases hw:walk ss (z::r) (sy ss z).1=some (sy ss z).1
   .rw[xY hw];rw[xV hw,vD] at k;exact⟨_,rfl,rfl,_,rfl,⟨_,rfl,_,_,rfl,rfl,k _ s2⟩⟩
   .rw[xZ hw];rw[xW hw,wP] at k;exact⟨_,rfl,rfl,_,rfl,k _ s2⟩
def XH(hs:List Int)(s:Say):Bool:=decide (hs.getD s.2.1.toNat 0<=hs.getD s.1.toNat 0+s.2.2)
theorem PH(hs:List Int)(s:Say):XH hs s=keeps hs s:=by
 unfold XH keeps;rw[wK,decide_eq_true_eq,decide_eq_true_eq];lia
inductive Ng(vs:List V)(H:Hp)(Q:VK):Prop
 | mk (c:Int) (a b:Ab) (ss:List Say) (hs:List Int) (h0:vs=[.int c,.ref a,.ref b]) (h1:SaysAt H a ss) (h2:ss.length<=1000) (h3:ss.all (inside c)=true) (h4:H b=some (.lst (hs.map V.int))) (h5:hs.length<=1000) (h6:∀H',Same H H'->Q (.bl (hDue c hs ss)) H'):Ng vs H Q
def spLKept:Sp:=λvs H Q _=>Ng vs H Q
theorem Kt:Zd Qk Qk (defScope Gc):=fs7
theorem K0(n:Nat):((zV n).filterMap λ_=>some (V.bl false))=(yN n false).map V.bl:=by
 induction n with
 | zero=>rfl
 | succ n G=>rw[wI,xN,G,qW,zZ];rfl
theorem O8(n:Nat):(yN n false).any id=false:=by
 rw[jC];intro b G;rw[(List.mem_replicate.mp G).2];decide
theorem MF(D:U8 K mg f fd)(G:G1 K mg):FnOk P w K mg base CX0 1 f fd Qk spLKept:=by
 refine D.fn.okA Kt λ_ _ outer s H vs Q _ hr h=>?_;obtain⟨c,a,b,ss,hs,rfl,ha,hz,aj,hb,ag,k⟩:=h;obtain⟨ps,ha,hS⟩:=ha.ex;refine⟨_,Z4 (Zw (PW.pt (Ji (Zl VP (pbL G (Z0 (pv 2) Z3)) (pv 0) (nomark _))
   (YM (Zq (ZC (WR rfl) (by rfl) G.any boot_any (Z0
    (ZT (XN:=Qk) (outer:=defScope Gc) (N:=["_law_one"]) (cap:=[none]) (by exact csc (.own .nil)) rfl (Zr (pv 2))
     (λ_ _ _ _ _ _=>pgl 0 (show(["_law_one"]:List Str).Nodup by decide +kernel)) (λ_ _ _ _ _ _=>ZO)
     (λ_ _ _ _ _ _=>EC (ZC (Q0 (K:=K)) (by rfl) G.isi boot_isinstance (Z0 (pv 0) (Z0 (UP (by rfl) G.bool boot_bool) Z3)))
      (Y8 (Qb (ZC (Q0 (K:=K)) (by rfl) G.isi boot_isinstance (Z0 (pv 0) (Z0 (UP (by rfl) G.int boot_int) Z3))))))) Z3)))))) (Z7 (Ze ZI)) Zh)
  (Z7 (Ze (ZC (Jm rfl) (by rfl) G.all boot_all (Z0
   (ZT (XN:=Qk) (outer:=defScope Gc) (N:=lst_08) (cap:=[none,none,none,some 2]) (by exact csc (.own (.own (.own (.cap rfl rfl rfl .nil))))) rfl (Zr (pv 1))
    (λ_ _ _ _ _ _=>VM (K:=K) (n:=3) rfl (Zk (pgl 0 (show(lst_08:List Str).Nodup by decide +kernel)) (Zk (pgl 1 (show(lst_08:List Str).Nodup by decide +kernel)) (Zk (pgl 2 (show(lst_08:List Str).Nodup by decide +kernel)) Yw))) rfl) (λ_ _ _ _ _ _=>ZO)
    (λ_ _ _ _ _ _=>ZH QC (Zc (ixL (K:=K)) (pv 3) (pv 1)) (Zg Yd (Zc (ixL (K:=K)) (pv 3) (pv 0)) (pv 2)) (nomark _))) Z3)))),?_⟩
 by_cases hl:(hs.length:Int)=c
 case neg =>
  refine⟨_,rfl,b,_,rfl,.inl (Z8 hb),_,rfl,rfl,_,rfl,?_⟩;rw[xW (by rw[zK];exact λz=>hl (V.int.inj z))]
  have e:hDue c hs ss=false:=by unfold hDue;rw[xW hl];rfl
  rw[e] at k;exact k H (Za _)
 have k:∀H',Same H H'->Q (.bl (ss.all (keeps hs))) H':=λH' s=>by
  have:=k H' s
  unfold hDue at this;rw[xV hl] at this;exact this
 have ah:(((hs.map V.int).length:Nat):Int)=c:=by rw[zK];exact hl
 refine⟨_,rfl,b,_,rfl,.inl (Z8 hb),_,rfl,rfl,_,rfl,?_⟩;rw[ah,xV rfl];refine iteF ⟨_,rfl,b,rfl,⟨_,Z8 hb⟩,λq hq=>?_⟩;refine Y0 (outs:=λ_=>some (V.bl false)) (λσ=>∃v,σ=[v]) hq (Z8 hb) (by rw[zK];exact Zb ag) ⟨none,rfl⟩ (λi x σc Hc ak No O sm _ ⟨v,hv⟩ ac no=>?_) (λHc sm hD=>?_)
 .rw[zM] at O;cases en:hs[i]? with
  | none=>rw[en] at O;cases O
  | some z =>
   rw[en] at O;cases O;subst hv;refine⟨_,rfl,_,_,_,_,_,rfl,.int z,rfl,G.kib,false,rfl,iteF ?_⟩;exact⟨_,rfl,_,_,_,_,_,rfl,.int z,rfl,G.kii,true,rfl,ac _ _ _ ⟨_,rfl⟩ (Za _) rfl⟩
 .rw[K0] at hD;refine⟨q,yN _ false,rfl,Z8 hD,_,rfl,?_⟩;rw[O8];refine iteF ⟨_,rfl,a,rfl,⟨_,Z8 (sm _ _ ha)⟩,λq2 ai=>?_⟩;refine Y0 (outs:=λi=>(ss[i]?).map λs=>V.bl (XH hs s)) (λσ=>∃v1 v2 v3,σ=[v1,v2,v3,some (.ref b)]) ai (Z8 (sm _ _ ha)) (by rw[zK,hS.len];exact Zb hz) ⟨none,none,none,rfl⟩ (λi x σc aa ak No O Z _ ⟨v1,v2,v3,hv⟩ ac no=>?_) (λaa Z ae=>?_)
  .rw[zM] at O;cases ep:ps[i]? with
   | none=>rw[ep] at O;cases O
   | some p =>
    rw[ep] at O;cases O;subst hv;have af:i<ss.length:=by rw[<-hS.len];exact(zT.mp ep).1
    have es:ss[i]?=some ss[i]:=zN af;have W:inside c ss[i]=true:=yA.mp aj _ (xC af);have hp:=Z _ _ (sm _ _ (hS.at_ i p _ ep es));generalize ss[i]=t at es W hp;obtain⟨l,u,n⟩:=t;have hp:aa p=some (.tup [.int l,.int u,.int n]):=hp;unfold inside at W;rw[yI,<-hl] at W;have ad:=Z _ _ (sm _ _ hb);refine⟨p,_,rfl,Zo hp,rfl,_,_,rfl,_,_,rfl,_,_,rfl,rfl,?_⟩;exact⟨_,rfl,_,rfl,b,_,_,_,rfl,rfl,Z8 ad,ZM W.2,_,rfl,_,rfl,b,_,_,_,rfl,rfl,Z8 ad,ZM W.1,_,rfl,_,_,rfl,rfl,_,_,rfl,rfl,ac _ _ _ ⟨_,_,_,rfl⟩ (Za _) (by rw[es];rfl)⟩
  .rw[zK,hS.len,V1] at ae;refine⟨q2,ss.map (XH hs),rfl,?_,?_⟩
   .rw[xJ];exact Z8 ae
   .rw[uJ];have e:(ss.all (id ∘ XH hs))=ss.all (keeps hs):=by
     congr 1;funext s;exact PH hs s
    rw[e];exact k aa (sm.trans Z)
def Wg:Sp:=λvs H Q _=>∃(c one bu:Int) (a b1 b2:Ab) (ss:List Say) (xs ys:List Int),vs=[.int c,.ref a,.int one,.int bu,.ref b1,.ref b2]/\SaysAt H a ss/\ss.length<=400/\ss.all (inside c)=true/\H b1=some (.lst (xs.map V.int))/\H b2=some (.lst (ys.map V.int))/\xs.length<=900/\ys.length<=900/\cnt c one=true/\cnt c bu=true/\∀H',Same H H'->Q (.bl true) H'
abbrev VO:List Str:=Ps
abbrev KS:List Str:=["_law_count","_law_sayings_here","_law_one","_law_other","_law_chain","_law_told","_law_handed","_law_answers","_law_total","_law_keeps","_law_due","_law_at","_law_lower","_law_upper","_law_number"]
theorem YC:Zd KS VO (defScope Ye):=fs7
theorem dueN(ss:List Say)(xs:List Int)(p q:Int):(!decide (dueSum ss xs p q = .non))=decide (walk ss xs p=some q):=by
 by_cases w:walk ss xs p=some q
 .rw[show dueSum ss xs p q = .int (sumC ss xs) from xY w,xV w];rfl
 .rw[show dueSum ss xs p q = .non from xZ w,xW w];rfl
theorem NJ(D:Def K mg "_law_chains_right" Ye VO f fd)(DS:U1 K mg fs ds)(DY:YI K mg fy dy)(bc:V5 K mg fr dr)(DK:U8 K mg fk' dk')(B:Subs P w K mg base fc fh fm fk fa fo dc dh dm dk da do_)(R:TC K mg cR fR dR gR eR)(F:XX K mg cF fF dF gF eF)(N:Qq K mg cN fN dN gN eN)(G:G1 K mg):FnOk P w K mg base CX0 7 f fd VO Wg:=by
 have GS:FnOk P w K mg base CX0 5 fs ds _ spLSum:=(Gi DS G).mono (by decide)
 have GY:FnOk P w K mg base CX0 5 fy dy _ spLSays:=(UW DY G).mono (by decide)
 have GR:FnOk P w K mg base CX0 5 fr dr _ spLRing:=(Pa bc DS G).mono (by decide)
 have GK:FnOk P w K mg base CX0 5 fk' dk' _ spLKept:=(MF DK G).mono (by decide)
 have b3:FnOk P w K mg base CX0 1 fR dR _ (spOne cR "chain"):=Xp R.i R.o G;have b0:FnOk P w K mg base CX0 1 fF dF _ (spTwo cF "chain" "heights"):=Qd F.i F.o G;have b6:FnOk P w K mg base CX0 1 fN dN _ (spOne cN "chain"):=Ww N.i N.o G;have bv:FnOk P w K mg base CX0 5 gR eR _ (spRShows cR):=(Wv R.s.fn R.o B.C (B.gC.mono (by decide)) B.H B.gH B.M (B.gM.mono (by decide)) G).mono (by decide)
 have bt:FnOk P w K mg base CX0 5 gF eF _ (spShowW true cF cF):=Xs F.s.fn F.o B.H (B.gH.mono (by decide)) B.k B.gk B.A (B.gA.mono (by decide)) B.M (B.gM.mono (by decide))
 have bj:FnOk P w K mg base CX0 5 gN eN _ (spShowN false cN):=Xq N.s.fn N.o B.H (B.gH.mono (by decide)) B.M (B.gM.mono (by decide))
 refine D.fn.okA YC λ_ _ _ _ H vs Q _ hr h=>?_;obtain⟨c,one,bu,a,b1,b2,ss,xs,ys,rfl,ha,hz,av,h1,h2,x9,y9,co,ct,k⟩:=h;have hu:=hr.units;have ag:Room 5 _:=hr.mono (by decide)
 have a5:Room 2 _:=hr.mono (by decide)
 refine⟨_,Z4 (psl 6 YC.nd (Zn (Z0 (Zt Zj (by rfl) G.list boot_list (Z0 (pv 4) Z3)) (Z0 (Zt Zj (by rfl) G.list boot_list (Z0 (pv 5) Z3)) Z3))))
  (Z4 (psl 7 YC.nd (Zn (Z0 (Ya R.o.mK b3 a5 (by rfl) R.o.at_ R.b .nil Zu (Z0 (Zc Zf (pv 6) Z6) Z3)) (Z0 (Ya F.o.mK b0 a5 (by rfl) F.o.at_ F.b .nil Zu (Z0 (Zc Zf (pv 6) Z6) (Z0 (Zc Zf (pv 6) Z6) Z3))) (Z0 (Ya N.o.mK b6 a5 (by rfl) N.o.at_ N.b .nil Zu (Z0 (Zc Zf (pv 6) Z6) Z3)) Z3)))))
  (Z4 (ZP (U4 yH yR yQ ZZ (Zc Zf (pv 6) Z6) (Z0 Z6 Z3)))
  (Z4 (ZP (U4 yH yR yQ ZZ (Zc Zf (pv 6) Z6) (Z0 Z6 Z3)))
  (Z4 (Zw (Zl (NE hu) (Zn (Z0 (Zi (Zc Zf (pv 7) Z6) rfl) (Z0 (Zi (Zc Zf (pv 7) Z6) rfl) (Z0 (Zi (Zc Zf (pv 7) Z6) rfl) (Z0 (Zi (Zc Zf (pv 7) Z6) rfl) Z3))))) (Zn (Z0 (pv 4) (Z0 (pv 4) (Z0 (pv 5) (Z0 (pv 4) Z3))))) (nomark _)) (Z7 (Ze ZI)) Zh)
  (Z4 (Zw (Zy (Zq (pcD DY GY ag (Z0 (Y9 (Zc Zf (pv 7) Z6) R.o.cl R.s.me bv ag R.s.bd .nil Zu (Z0 (pv 0) (Z0 (pv 1) Z3))) (Z0 (pcD bc GR ag (Z0 (pv 1) (Z0 (pv 4) Z3))) Z3))))) (Z7 (Ze ZI)) Zh)
  (Z4 (Vp (i:=8) (j:=9) rfl YC.nd rfl rfl (by decide) rfl rfl (Z0 (pcD DS GS ag (Z0 (pv 1) (Z0 (pv 4) (Z0 (pv 2) (Z0 (pv 3) Z3))))) (Z0 (pcD DK GK ag (Z0 (pv 0) (Z0 (pv 1) (Z0 (pv 5) Z3)))) Z3)) rfl)
  (Z4 (psl 10 YC.nd (Y1 (ZH Gh (pv 8) UU (nomark _)) (Y8 (pv 9))))
  (Z4 (Zw (Zy (Zq (pcD DY GY ag (Z0 (Y9 (Zc Zf (pv 7) Z6) F.o.cl F.s.me bt ag F.s.bd .nil Zu (Z0 (pv 0) (Z0 (pv 1) (Z0 (pv 2) (Z0 (pv 3) Z3))))) (Z0 (Y1 (pv 10) (Y8 (ZH Js (Zg Ja (Zc Zf (pv 5) (pv 3)) (Zc Zf (pv 5) (pv 2))) (pv 8) (nomark _)))) Z3))))) (Z7 (Ze ZI)) Zh)
  (Z4 (Y4 PassesOwn.never rfl (Wu (by rfl) G.range rfl (Z0 Z6 (Z0 (pbL G (Z0 (pv 1) Z3)) (Z0 Z6 Z3)))) (pgl 11 YC.nd)
   (Z4 (Ub (Zc Zf (pv 1) (pv 11)) (Uc rfl (Zk (pgl 12 YC.nd) (Zk (pgl 13 YC.nd) (Zk (pgl 14 YC.nd) Yw)))))
   (Z4 (psl 8 YC.nd (pcD DS GS ag (Z0 (pv 1) (Z0 (pv 4) (Z0 (pv 12) (Z0 (pv 13) Z3))))))
   (Z4 (psl 10 YC.nd (Y1 (ZH Gh (pv 8) UU (nomark _)) (Y1 (ZH Jb (pv 11) (pv 4) (by with_unfolding_all rfl)) (Y8 (ZH QC (pv 8) (pv 14) (nomark _))))))
   (Z7 (Zw (Zy (Zq (pcD DY GY ag (Z0 (Y9 (Zc Zf (pv 7) Z6) N.o.cl N.s.me bj ag N.s.bd .nil Zu (Z0 (pv 0) (Z0 (pv 1) (Z0 (pv 11) Z3)))) (Z0 (pv 10) Z3))))) (Z7 (Ze ZI)) Zh))))))
  (Z7 (Ze ZI))))))))))),?_⟩
 refine⟨_,rfl,b1,_,rfl,.inl (Z8 h1),λp1 n1=>?_⟩;have u1:Same H (upd H p1 (.lst (xs.map V.int))):=Z9 n1;have e1:(upd H p1 (.lst (xs.map V.int))) p1=some (.lst (xs.map V.int)):=Z2;generalize upd H p1 (.lst (xs.map V.int))=H1 at u1 e1;have e0:=e1;refine⟨_,rfl,b2,_,rfl,.inl (Z8 (u1 _ _ h2)),λp2 n2=>?_⟩;have u2:Same H1 (upd H1 p2 (.lst (ys.map V.int))):=Z9 n2;have e2:(upd H1 p2 (.lst (ys.map V.int))) p2=some (.lst (ys.map V.int)):=Z2;generalize upd H1 p2 (.lst (ys.map V.int))=H2 at u2 e2;refine⟨szL 2,λhl nl=>?_⟩;have u3:Same H2 (upd H2 hl (.lst [.ref p1,.ref p2])):=Z9 nl;have e3:(upd H2 hl (.lst [.ref p1,.ref p2])) hl=some (.lst [.ref p1,.ref p2]):=Z2;generalize upd H2 hl (.lst [.ref p1,.ref p2])=H3 at u3 e3;have e1:=u3 _ _ (u2 _ _ e1);have e2:=u3 _ _ e2;have a9:p1≠p2:=Z1 e0 n2;have ao:p1≠hl:=Z1 (u2 _ _ e0) nl;refine⟨_,rfl,hl,_,_,_,rfl,rfl,Z8 e3,rfl,?_⟩;intro x dx x0 d0 nd;refine Qe e1 x0 d0 λH4 r1 s4 zr an=>⟨rfl,?_⟩;refine⟨_,rfl,hl,_,_,_,rfl,rfl,Z8 (s4 _ _ e3),rfl,_,rfl,hl,_,_,_,rfl,rfl,Z8 (s4 _ _ e3),rfl,?_⟩;intro x' ca bb bq ce;refine Gm (s4 _ _ e1) (s4 _ _ e2) bb bq λH5 q1 q2 s5 z1 z2 bw=>⟨rfl,?_⟩;have ah:=s4.trans s5;refine⟨_,rfl,hl,_,_,_,rfl,rfl,Z8 (ah _ _ e3),rfl,?_⟩;intro x2 ck ba bz cm;refine Qe (ah _ _ e1) ba bz λH6 r3 s6 b5 br=>⟨rfl,?_⟩;refine⟨szL 3,λal bi=>?_⟩;have u7:Same H6 (upd H6 al (.lst [.ref x,.ref x',.ref x2])):=Z9 bi;have e7:(upd H6 al (.lst [.ref x,.ref x',.ref x2])) al=some (.lst [.ref x,.ref x',.ref x2]):=Z2;generalize upd H6 al (.lst [.ref x,.ref x',.ref x2])=H7 at u7 e7;have aj:=s6.trans u7;have s7:=ah.trans aj;have f3:=s7 _ _ e3;have f1:=s7 _ _ e1;have f2:=s7 _ _ e2;refine⟨_,rfl,hl,_,_,_,rfl,rfl,Z8 f3,rfl,.inl ⟨rfl,_,Z8 f1⟩,p1,_,_,rfl,rfl,f1,Zb (by rw[zK];lia),?_⟩
 have k8:∀b o,b≠p1->H7 b=some o->(upd H7 p1 (.lst (xs.map V.int++[.int 0]))) b=some o:=λb o hb e=>by rw[Z5 hb];exact e
 generalize upd H7 p1 (.lst (xs.map V.int++[.int 0]))=H8 at k8;refine⟨_,rfl,hl,_,_,_,rfl,rfl,Z8 (k8 _ _ ao.symm f3),rfl,.inl ⟨rfl,_,Z8 (k8 _ _ a9.symm f2)⟩,p2,_,_,rfl,rfl,k8 _ _ a9.symm f2,Zb (by rw[zK];lia),?_⟩
 have k9:∀b o,b≠p2->H8 b=some o->(upd H8 p2 (.lst (ys.map V.int++[.int 0]))) b=some o:=λb o hb e=>by rw[Z5 hb];exact e
 generalize upd H8 p2 (.lst (ys.map V.int++[.int 0]))=H9 at k9;have sA:Same H H9:=λb o e=>k9 b o (Z1 e (u1.free n2)) (k8 b o (Z1 e n1) ((((u1.trans u2).trans u3).trans s7) b o e));have kk:∀b o,H3 b=none->H7 b=some o->H9 b=some o:=λb o hb e=>k9 b o (Z1 e2 hb).symm (k8 b o (Z1 e1 hb).symm e);have ar:=s5.trans aj;obtain⟨⟨a7,hx⟩,a1⟩:=an;obtain⟨⟨ai,W⟩,a2,a3,nq⟩:=bw;obtain⟨⟨ak,O⟩,a4⟩:=br;have hx:=kk _ _ x0 (ar _ _ hx);have a1:=kk _ _ zr (ar _ _ a1);have W:=kk _ _ (s4.free bb) (aj _ _ W);have a2:=kk _ _ (s4.free z1) (aj _ _ a2);have a3:=kk _ _ (s4.free z2) (aj _ _ a3);have O:=kk _ _ (ah.free ba) (u7 _ _ O);have a4:=kk _ _ (ah.free b5) (u7 _ _ a4);have e7:=kk _ _ ((ah.trans s6).free bi) e7;have ha:=ha.same sA;have h1:=sA _ _ h1;have h2:=sA _ _ h2;clear kk k9 k8 f1 f2 f3 ar s7 aj u7 s6 ah s5 s4 u3 u2 u1 e1 e2 e3 e0 ao a9;have q7:=Z8 (K:=K) e7;refine⟨_,rfl,al,_,_,_,rfl,rfl,q7,rfl,x,cR,a7,_,_,rfl,hx,R.o.cl,R.o.n,rfl,_,rfl,al,_,_,_,rfl,rfl,q7,rfl,x',cF,ai,_,_,rfl,W,F.o.cl,F.o.n1,rfl,_,rfl,al,_,_,_,rfl,rfl,q7,rfl,x',cF,ai,_,_,rfl,W,F.o.cl,F.o.n2,rfl,
  _,rfl,al,_,_,_,rfl,rfl,q7,rfl,x2,cN,ak,_,_,rfl,O,N.o.cl,N.o.n,rfl,szL 4,λm1 bh=>?_⟩
 have be:=Z9 (o:=.lst [.ref r1,.ref q1,.ref q2,.ref r3]) bh;refine⟨_,rfl,_,rfl,_,rfl,_,rfl,szL 4,λm2 bg=>?_⟩;have a6:=Z9 (o:=.lst [.ref b1,.ref b1,.ref b2,.ref b1]) bg;have sB:=be.trans a6;refine Dk (as:=[r1,q1,q2,r3]) (bs:=[b1,b1,b2,b1]) (a6 _ _ Z2) Z2 rfl (Kc (sB _ _ a1) (sB _ _ h1) (sB _ _ a2) (sB _ _ h1) (sB _ _ a3) (sB _ _ h2) (sB _ _ a4) (sB _ _ h1)) ⟨_,rfl,iteF ?_⟩;generalize upd (upd H9 m1 (.lst [.ref r1,.ref q1,.ref q2,.ref r3])) m2 (.lst [.ref b1,.ref b1,.ref b2,.ref b1])=cn at sB;have hx:=sB _ _ hx;have a1:=sB _ _ a1;have W:=sB _ _ W;have a2:=sB _ _ a2;have a3:=sB _ _ a3;have O:=sB _ _ O;have a4:=sB _ _ a4;have e7:=sB _ _ e7;have ha:=ha.same sB;have h1:=sB _ _ h1;have h2:=sB _ _ h2;have sA:=sA.trans sB;clear sB be a6 bh bg q7;refine⟨_,rfl,al,_,_,_,rfl,rfl,Z8 e7,rfl,x,a7,_,rfl,hx,rfl,_,rfl,_,rfl,x,r1,a,c,ss,xs,rfl,⟨⟨a7,hx⟩,a1⟩,ha,by lia,by lia,λb9 ap=>?_⟩
 refine⟨_,rfl,_,rfl,a,b1,ss,xs,rfl,ha.same ap,ap _ _ h1,λcb Z=>⟨_,_,rfl,_,rfl,?_⟩⟩;rw[xR];refine iteF ?_;have Z:=ap.trans Z;have hx:=Z _ _ hx;have a1:=Z _ _ a1;have W:=Z _ _ W;have a2:=Z _ _ a2;have a3:=Z _ _ a3;have O:=Z _ _ O;have a4:=Z _ _ a4;have e7:=Z _ _ e7;have ha:=ha.same Z;have h1:=Z _ _ h1;have h2:=Z _ _ h2;have sA:=sA.trans Z;clear Z ap;refine⟨_,rfl,_,rfl,_,rfl,_,rfl,a,ss,b1,xs,one,bu,rfl,ha,h1,?_⟩;refine⟨_,rfl,_,rfl,_,rfl,c,a,b2,ss,ys,rfl,ha,by lia,av,h2,by lia,λb7 ae=>⟨_,_,rfl,?_⟩⟩
 have hx:=ae _ _ hx;have a1:=ae _ _ a1;have W:=ae _ _ W;have a2:=ae _ _ a2;have a3:=ae _ _ a3;have O:=ae _ _ O;have a4:=ae _ _ a4;have e7:=ae _ _ e7;have ha:=ha.same ae;have h1:=ae _ _ h1;have h2:=ae _ _ h2;have sA:=sA.trans ae;clear ae;refine⟨_,rfl,rfl,_,rfl,UL (hDue c ys ss) (λQ' k'=>⟨_,rfl,k' _ (Za _)⟩) λcc ac=>?_⟩;have hx:=ac _ _ hx;have a1:=ac _ _ a1;have W:=ac _ _ W;have a2:=ac _ _ a2;have a3:=ac _ _ a3;have O:=ac _ _ O;have a4:=ac _ _ a4;have e7:=ac _ _ e7;have ha:=ha.same ac;have h1:=ac _ _ h1;have h2:=ac _ _ h2;have sA:=sA.trans ac;clear ac;have bk:∃tv:V,dueSum ss xs one bu=tv/\(!decide (dueSum ss xs one bu = .non))=decide (walk ss xs one=some bu)/\(walk ss xs one=some bu->tv = .int (sumC ss xs)):=by
  by_cases w1:walk ss xs one=some bu
  .exact⟨.int (sumC ss xs),xY w1,by rw[show dueSum ss xs one bu = .int (sumC ss xs) from xY w1,xV w1];rfl,λ_=>rfl⟩
  .exact⟨.non,xZ w1,by rw[show dueSum ss xs one bu = .non from xZ w1,xW w1];rfl,λz=>xX z w1⟩
 obtain⟨tv,et,ed,ev⟩:=bk;rw[ed];rw[et];refine⟨_,rfl,al,_,_,_,rfl,rfl,Z8 e7,rfl,x',ai,_,rfl,W,rfl,_,rfl,_,rfl,_,rfl,_,rfl,x',q1,q2,a,c,one,bu,ss,xs,ys,rfl,⟨⟨ai,W⟩,a2,a3,nq⟩,ha,by lia,av,by lia,by lia,co,ct,λci ad=>?_⟩
 have hx:=ad _ _ hx;have a1:=ad _ _ a1;have W:=ad _ _ W;have a2:=ad _ _ a2;have a3:=ad _ _ a3;have O:=ad _ _ O;have a4:=ad _ _ a4;have e7:=ad _ _ e7;have ha:=ha.same ad;have h1:=ad _ _ h1;have h2:=ad _ _ h2;have sA:=sA.trans ad;clear ad;refine⟨_,rfl,_,rfl,GU (decide (gt ys bu-gt ys one=sumC ss xs)) (λhd Q' k'=>?_) λbo af=>?_⟩
 .rw[yI] at hd;have w1:=xU hd.1;have ly:(ys.length:Int)=c:=by
   have:=hd.2
   unfold hDue at this;rw[yI] at this;exact xU this.1
  rw[ev w1];have q2:=Z8 (K:=K) h2;refine⟨_,rfl,_,rfl,b2,_,_,_,rfl,rfl,q2,ZM (by rw[ly];exact ct),_,rfl,_,rfl,b2,_,_,_,rfl,rfl,q2,ZM (by rw[ly];exact co),_,_,rfl,rfl,_,rfl,rfl,?_⟩
  rw[Zp];exact k' _ (Za _)
 refine⟨_,_,rfl,_,rfl,?_⟩;have hd:Wm true c ss one bu xs ys=((decide (walk ss xs one=some bu)&&hDue c ys ss)&&decide (gt ys bu-gt ys one=sumC ss xs)):=by rw[uR];rfl
 rw[hd,xR];refine iteF ?_;have hx:=af _ _ hx;have a1:=af _ _ a1;have W:=af _ _ W;have a2:=af _ _ a2;have a3:=af _ _ a3;have O:=af _ _ O;have a4:=af _ _ a4;have e7:=af _ _ e7;have ha:=ha.same af;have h1:=af _ _ h1;have h2:=af _ _ h2;have sA:=sA.trans af;clear af hd;obtain⟨ps,bl,hS⟩:=id ha;refine⟨_,rfl,a,_,rfl,.inl (Z8 bl),(ps.map V.ref).length,rfl,by rw[zK,hS.len];lia,?_⟩
 rw[zK,hS.len];refine Tm (λi σ ax=>Same bo ax/\∃v8 v9 a8 aq au ay aw,σ=[some (.int c),some (.ref a),some (.int one),some (.int bu),some (.ref b1),some (.ref b2),some (.ref hl),some (.ref al),v8,v9,a8,aq,au,ay,aw]) ⟨Za _,_,_,_,none,none,none,none,rfl⟩ ?_ ?_
 .rintro i σ ax hi ⟨aa,v8,v9,a8,aq,au,ay,aw,rfl⟩;have hx:=aa _ _ hx;have a1:=aa _ _ a1;have W:=aa _ _ W;have a2:=aa _ _ a2;have a3:=aa _ _ a3;have O:=aa _ _ O;have a4:=aa _ _ a4;have e7:=aa _ _ e7;have ha:=ha.same aa;have h1:=aa _ _ h1;have h2:=aa _ _ h2;have sA:=sA.trans aa;have az:cnt ss.length ((i:Int)*6)=true:=Zm.mpr (by lia)
  obtain⟨cg,bp,bn⟩:=id ha;obtain⟨p,ao,bf⟩:=Xf bn az;generalize (i:Int)*6=at_ at az ao bf ⊢;refine⟨_,rfl,_,rfl,a,_,_,_,rfl,rfl,Z8 bp,ao,p,_,rfl,Zo bf,rfl,_,_,rfl,_,_,rfl,_,_,rfl,rfl,?_⟩;refine⟨_,rfl,_,rfl,_,rfl,_,rfl,a,ss,b1,xs,_,_,rfl,ha,h1,?_⟩;refine⟨_,rfl,rfl,_,rfl,GU (!decide (at_∈xs)&&decide (sumC ss xs<=(sy ss at_).2.2)) (λhd Q' k'=>?_) λcp am=>?_⟩
  .rw[dueN] at hd;rw[show dueSum ss xs (sy ss at_).1 (sy ss at_).2.1 = .int (sumC ss xs) from xY (xU hd)]
   refine⟨_,rfl,_,rfl,b1,_,rfl,.inl (Z8 h1),rfl,Qn xs,_,rfl,?_⟩;rw[Jd];exact UL (d:=!decide (at_∈xs)) (decide (sumC ss xs<=(sy ss at_).2.2)) (λQ2 k2=>⟨_,rfl,_,rfl,_,_,rfl,rfl,k2 _ (Za _)⟩) k'
  rw[dueN];have O:=am _ _ O;refine⟨_,rfl,al,_,_,_,rfl,rfl,Z8 (am _ _ e7),rfl,x2,ak,_,rfl,O,rfl,_,rfl,_,rfl,_,rfl,x2,r3,a,c,at_,ss,xs,rfl,⟨⟨ak,O⟩,am _ _ a4⟩,ha.same am,by lia,av,by lia,az,λcf b4=>?_⟩
  refine⟨_,rfl,_,_,rfl,_,rfl,?_⟩;have hd:Wn false c ss at_ xs=(decide (walk ss xs (sy ss at_).1=some (sy ss at_).2.1)&&(!decide (at_∈xs)&&decide (sumC ss xs<=(sy ss at_).2.2))):=by
   show(!decide (at_∈xs)&&(decide (walk ss xs (sy ss at_).1=some (sy ss at_).2.1)&&decide (sumC ss xs<=(sy ss at_).2.2)))=_;cases decide (walk ss xs (sy ss at_).1=some (sy ss at_).2.1) <;> cases decide (at_∈xs) <;> rfl
  rw[hd,xR];exact iteF ⟨(aa.trans am).trans b4,_,_,_,_,_,_,_,rfl⟩
 .rintro σ ax ⟨aa,v8,v9,a8,aq,au,ay,aw,rfl⟩;exact k _ (sA.trans aa)
inductive QI(vs:List V)(H:Hp)(Q:VK):Prop
 | mk (c one bu:Int) (a b1 b2:Ab) (ss:List Say) (xs ys:List Int) (h0:vs=[.int c,.ref a,.int one,.int bu,.ref b1,.ref b2]) (h1:SaysAt H a ss) (h2:ss.length<=400) (h3:ss.all (inside c)=true) (h4:H b1=some (.lst (xs.map V.int))) (h5:H b2=some (.lst (ys.map V.int))) (h6:xs.length<=900) (h7:ys.length<=900) (h8:cnt c one=true) (h9:cnt c bu=true) (h10:∀H',Same H H'->Q (.bl true) H'):QI vs H Q
def X8:Sp:=λvs H Q _=>QI vs H Q
abbrev UV:List Str:=Pr
abbrev Pi:List Str:=["_law_count","_law_sayings_here","_law_one","_law_other","_law_told","_law_more","_law_handed","_law_answers","_law_keeps","_law_at","_law_due"]
theorem YB:Zd Pi UV (defScope Yb):=fs7
theorem El{p:Say->Bool}(h:cnt ss.length at_=true):ss.all p=((wo ss at_).all p&&p (sy ss at_)):=by
 obtain⟨h0,h1⟩:=Zm.mp h;have G:at_.toNat<ss.length:=by lia
 have e:ss=ss.take at_.toNat++(ss[at_.toNat]::ss.drop (at_.toNat+1)):=by
  rw[List.getElem_cons_drop,xI]
 have es:sy ss at_=ss[at_.toNat]:=by unfold sy;rw[zN G];rfl
 unfold wo;rw[es,uN];generalize ss[at_.toNat]=x at e es
 conv=>lhs;rw[e]
 rw[uN,uW];cases (ss.take at_.toNat).all p <;> cases p x <;> cases (ss.drop (at_.toNat+1)).all p <;> rfl
theorem Ee{c:Int}(h:cnt ss.length at_=true):hDue c xs ss=(hDue c xs (wo ss at_)&&keeps xs (sy ss at_)):=by
 unfold hDue;rw[El h,uR]
theorem Py{c:Int}(h:hDue c xs ss=true):(xs.length:Int)=c:=by
 unfold hDue at h;rw[yI] at h;exact xU h.1
theorem MH{cD fD gD:Ab}{dD eD:Ad}(D:Def K mg "_law_heights_right" Yb UV f fd)(DY:YI K mg fy dy)(DK:U8 K mg fk' dk')(B:Subs P w K mg base fc fh fm fk fa fo dc dh dm dk da do_)(R:XW K mg cH fH dH gH eH)(N:TD K mg cD fD dD gD eD)(F:Dt K mg cL fL dL gL eL)(G:G1 K mg):FnOk P w K mg base CX0 7 f fd UV X8:=by
 have GY:FnOk P w K mg base CX0 5 fy dy _ spLSays:=(UW DY G).mono (by decide)
 have GK:FnOk P w K mg base CX0 5 fk' dk' _ spLKept:=(MF DK G).mono (by decide)
 have b6:FnOk P w K mg base CX0 1 fH dH _ (spOne cH "heights"):=MK R.i R.o G;have b9:FnOk P w K mg base CX0 1 fD dD _ (spOne cD "heights"):=Rn N.i N.o G;have b5:FnOk P w K mg base CX0 1 fL dL _ (spTwo cL "first" "second"):=Wx F.i F.o G;have bz:FnOk P w K mg base CX0 5 gH eH _ (spHShows cH):=Rq R.s.fn R.o B.k B.gk;have bo:FnOk P w K mg base CX0 5 gD eD _ (spShowN true cD):=NH N.s.fn N.o B.k B.gk B.O (B.gO.mono (by decide))
 have bv:FnOk P w K mg base CX0 5 gL eL _ (spShow false cL):=Ro F.s.fn F.o B.k B.gk B.A (B.gA.mono (by decide))
 refine D.fn.okA YB λ_ _ _ _ H vs Q _ hr h=>?_;obtain⟨c,one,bu,a,b1,b2,ss,xs,ys,rfl,ha,hz,ak,h1,h2,x9,y9,co,ct,k⟩:=h;have hu:=hr.units;have ah:Room 5 _:=hr.mono (by decide)
 have aw:Room 2 _:=hr.mono (by decide)
 refine⟨_,Z4 (psl 6 YB.nd (Zn (Z0 (Zt Zj (by rfl) G.list boot_list (Z0 (pv 4) Z3)) (Z0 (Zt Zj (by rfl) G.list boot_list (Z0 (pv 5) Z3)) Z3))))
  (Z4 (psl 7 YB.nd (Zn (Z0 (Ya R.o.mK b6 aw (by rfl) R.o.at_ R.b .nil Zu (Z0 (Zc Zf (pv 6) Z6) Z3)) (Z0 (Ya N.o.mK b9 aw (by rfl) N.o.at_ N.b .nil Zu (Z0 (Zc Zf (pv 6) Z6) Z3)) (Z0 (Ya F.o.mK b5 aw (by rfl) F.o.at_ F.b .nil Zu (Z0 (Zc Zf (pv 6) Z6) (Z0 (Zc Zf (pv 6) Z6) Z3))) Z3)))))
  (Z4 (ZP (U4 yH yR yQ ZZ (Zc Zf (pv 6) Z6) (Z0 Z6 Z3)))
  (Z4 (ZP (U4 yH yR yQ ZZ (Zc Zf (pv 6) Z6) (Z0 Z6 Z3)))
  (Z4 (Zw (Zl (NE hu) (Zn (Z0 (Zi (Zc Zf (pv 7) Z6) rfl) (Z0 (Zi (Zc Zf (pv 7) Z6) rfl) (Z0 (Zi (Zc Zf (pv 7) Z6) rfl) (Z0 (Zi (Zc Zf (pv 7) Z6) rfl) Z3))))) (Zn (Z0 (pv 4) (Z0 (pv 4) (Z0 (pv 4) (Z0 (pv 5) Z3))))) (nomark _)) (Z7 (Ze ZI)) Zh)
  (Z4 (psl 8 YB.nd (pcD DK GK ah (Z0 (pv 0) (Z0 (pv 1) (Z0 (pv 4) Z3)))))
  (Z4 (Zw (Zy (Zq (pcD DY GY ah (Z0 (Y9 (Zc Zf (pv 7) Z6) R.o.cl R.s.me bz ah R.s.bd .nil Zu (Z0 (pv 0) (Z0 (pv 1) Z3))) (Z0 (pv 8) Z3))))) (Z7 (Ze ZI)) Zh)
  (Z4 (Y4 PassesOwn.never rfl (Wu (by rfl) G.range rfl (Z0 Z6 (Z0 (pbL G (Z0 (pv 1) Z3)) (Z0 Z6 Z3)))) (pgl 9 YB.nd)
   (Z4 (psl 10 YB.nd (Y1 (pcD DK GK ah (Z0 (pv 0) (Z0 (Zg YN (Y7 Yj (pv 1) Yl (Yf (pv 9))) (Y7 Yj (pv 1) (Yf (Zg Yd (pv 9) Z6)) Yl)) (Z0 (pv 4) Z3)))) (Y8 (Qb (pv 8)))))
   (Z7 (Zw (Zy (Zq (pcD DY GY ah (Z0 (Y9 (Zc Zf (pv 7) Z6) N.o.cl N.s.me bo ah N.s.bd .nil Zu (Z0 (pv 0) (Z0 (pv 1) (Z0 (pv 9) Z3)))) (Z0 (pv 10) Z3))))) (Z7 (Ze ZI)) Zh))))
  (Z4 (psl 10 YB.nd (Y1 (pv 8) (Y8 (pcD DK GK ah (Z0 (pv 0) (Z0 (pv 1) (Z0 (pv 5) Z3)))))))
  (Z4 (psl 10 YB.nd (Y1 (pv 10) (Y8 (ZH VP (Zg Ja (Zc Zf (pv 4) (pv 3)) (Zc Zf (pv 4) (pv 2))) (Zg Ja (Zc Zf (pv 5) (pv 3)) (Zc Zf (pv 5) (pv 2))) (nomark _)))))
  (Z7 (Ze (pcD DY GY ah (Z0 (Y9 (Zc Zf (pv 7) Z6) F.o.cl F.s.me bv ah F.s.bd .nil Zu (Z0 (pv 0) (Z0 (pv 1) (Z0 (pv 2) (Z0 (pv 3) Z3))))) (Z0 (pv 10) Z3)))))))))))))),?_⟩
 refine⟨_,rfl,b1,_,rfl,.inl (Z8 h1),λp1 n1=>?_⟩;have u1:Same H (upd H p1 (.lst (xs.map V.int))):=Z9 n1;have e1:(upd H p1 (.lst (xs.map V.int))) p1=some (.lst (xs.map V.int)):=Z2;generalize upd H p1 (.lst (xs.map V.int))=H1 at u1 e1;have e0:=e1;refine⟨_,rfl,b2,_,rfl,.inl (Z8 (u1 _ _ h2)),λp2 n2=>?_⟩;have u2:Same H1 (upd H1 p2 (.lst (ys.map V.int))):=Z9 n2;have e2:(upd H1 p2 (.lst (ys.map V.int))) p2=some (.lst (ys.map V.int)):=Z2;generalize upd H1 p2 (.lst (ys.map V.int))=H2 at u2 e2;refine⟨szL 2,λhl nl=>?_⟩;have u3:Same H2 (upd H2 hl (.lst [.ref p1,.ref p2])):=Z9 nl;have e3:(upd H2 hl (.lst [.ref p1,.ref p2])) hl=some (.lst [.ref p1,.ref p2]):=Z2;generalize upd H2 hl (.lst [.ref p1,.ref p2])=H3 at u3 e3;have e1:=u3 _ _ (u2 _ _ e1);have e2:=u3 _ _ e2;have a6:p1≠p2:=Z1 e0 n2;have bb:p1≠hl:=Z1 (u2 _ _ e0) nl;refine⟨_,rfl,hl,_,_,_,rfl,rfl,Z8 e3,rfl,?_⟩;intro x dx x0 d0 nd;refine Qe e1 x0 d0 λH4 r1 s4 zr an=>⟨rfl,?_⟩;refine⟨_,rfl,hl,_,_,_,rfl,rfl,Z8 (s4 _ _ e3),rfl,?_⟩;intro x' cc bc br cf;refine Qe (s4 _ _ e1) bc br λH5 q1 s5 z1 b3=>⟨rfl,?_⟩;have ag:=s4.trans s5;refine⟨_,rfl,hl,_,_,_,rfl,rfl,Z8 (ag _ _ e3),rfl,_,rfl,hl,_,_,_,rfl,rfl,Z8 (ag _ _ e3),rfl,?_⟩;intro x2 ck ba b4 cm;refine Gm (ag _ _ e1) (ag _ _ e2) ba b4 λH6 q2 r3 s6 z2 b7 bt=>⟨rfl,?_⟩;refine⟨szL 3,λal bj=>?_⟩;have u7:Same H6 (upd H6 al (.lst [.ref x,.ref x',.ref x2])):=Z9 bj;have e7:(upd H6 al (.lst [.ref x,.ref x',.ref x2])) al=some (.lst [.ref x,.ref x',.ref x2]):=Z2;generalize upd H6 al (.lst [.ref x,.ref x',.ref x2])=H7 at u7 e7;have ar:=s6.trans u7;have s7:=ag.trans ar;have f3:=s7 _ _ e3;have f1:=s7 _ _ e1;have f2:=s7 _ _ e2;refine⟨_,rfl,hl,_,_,_,rfl,rfl,Z8 f3,rfl,.inl ⟨rfl,_,Z8 f1⟩,p1,_,_,rfl,rfl,f1,Zb (by rw[zK];lia),?_⟩
 have k8:∀b o,b≠p1->H7 b=some o->(upd H7 p1 (.lst (xs.map V.int++[.int 0]))) b=some o:=λb o hb e=>by rw[Z5 hb];exact e
 generalize upd H7 p1 (.lst (xs.map V.int++[.int 0]))=H8 at k8;refine⟨_,rfl,hl,_,_,_,rfl,rfl,Z8 (k8 _ _ bb.symm f3),rfl,.inl ⟨rfl,_,Z8 (k8 _ _ a6.symm f2)⟩,p2,_,_,rfl,rfl,k8 _ _ a6.symm f2,Zb (by rw[zK];lia),?_⟩
 have k9:∀b o,b≠p2->H8 b=some o->(upd H8 p2 (.lst (ys.map V.int++[.int 0]))) b=some o:=λb o hb e=>by rw[Z5 hb];exact e
 generalize upd H8 p2 (.lst (ys.map V.int++[.int 0]))=H9 at k9;have sA:Same H H9:=λb o e=>k9 b o (Z1 e (u1.free n2)) (k8 b o (Z1 e n1) ((((u1.trans u2).trans u3).trans s7) b o e));have kk:∀b o,H3 b=none->H7 b=some o->H9 b=some o:=λb o hb e=>k9 b o (Z1 e2 hb).symm (k8 b o (Z1 e1 hb).symm e);have av:=s5.trans ar;obtain⟨⟨az,hx⟩,a1⟩:=an;obtain⟨⟨aq,aa⟩,a2⟩:=b3;obtain⟨⟨aj,Z⟩,a3,a4,nq⟩:=bt;have hx:=kk _ _ x0 (av _ _ hx);have a1:=kk _ _ zr (av _ _ a1);have aa:=kk _ _ (s4.free bc) (ar _ _ aa);have a2:=kk _ _ (s4.free z1) (ar _ _ a2);have Z:=kk _ _ (ag.free ba) (u7 _ _ Z);have a3:=kk _ _ (ag.free z2) (u7 _ _ a3);have a4:=kk _ _ (ag.free b7) (u7 _ _ a4);have e7:=kk _ _ ((ag.trans s6).free bj) e7;have ha:=ha.same sA;have h1:=sA _ _ h1;have h2:=sA _ _ h2;clear kk k9 k8 f1 f2 f3 av s7 ar u7 s6 ag s5 s4 u3 u2 u1 e1 e2 e3 e0 bb a6;have q7:=Z8 (K:=K) e7;refine⟨_,rfl,al,_,_,_,rfl,rfl,q7,rfl,x,cH,az,_,_,rfl,hx,R.o.cl,R.o.n,rfl,_,rfl,al,_,_,_,rfl,rfl,q7,rfl,x',cD,aq,_,_,rfl,aa,N.o.cl,N.o.n,rfl,_,rfl,al,_,_,_,rfl,rfl,q7,rfl,x2,cL,aj,_,_,rfl,Z,F.o.cl,F.o.n1,rfl,
  _,rfl,al,_,_,_,rfl,rfl,q7,rfl,x2,cL,aj,_,_,rfl,Z,F.o.cl,F.o.n2,rfl,szL 4,λm1 bi=>?_⟩
 have be:=Z9 (o:=.lst [.ref r1,.ref q1,.ref q2,.ref r3]) bi;refine⟨_,rfl,_,rfl,_,rfl,_,rfl,szL 4,λm2 bh=>?_⟩;have ax:=Z9 (o:=.lst [.ref b1,.ref b1,.ref b1,.ref b2]) bh;have sB:=be.trans ax;refine Dk (as:=[r1,q1,q2,r3]) (bs:=[b1,b1,b1,b2]) (ax _ _ Z2) Z2 rfl (Kc (sB _ _ a1) (sB _ _ h1) (sB _ _ a2) (sB _ _ h1) (sB _ _ a3) (sB _ _ h1) (sB _ _ a4) (sB _ _ h2)) ⟨_,rfl,iteF ?_⟩;generalize upd (upd H9 m1 (.lst [.ref r1,.ref q1,.ref q2,.ref r3])) m2 (.lst [.ref b1,.ref b1,.ref b1,.ref b2])=cn at sB;have hx:=sB _ _ hx;have a1:=sB _ _ a1;have aa:=sB _ _ aa;have a2:=sB _ _ a2;have Z:=sB _ _ Z;have a3:=sB _ _ a3;have a4:=sB _ _ a4;have e7:=sB _ _ e7;have ha:=ha.same sB;have h1:=sB _ _ h1;have h2:=sB _ _ h2;have sA:=sA.trans sB;clear sB be ax bi bh q7;refine⟨_,rfl,_,rfl,_,rfl,c,a,b1,ss,xs,rfl,ha,by lia,ak,h1,by lia,λcb ae=>?_⟩
 have hx:=ae _ _ hx;have a1:=ae _ _ a1;have aa:=ae _ _ aa;have a2:=ae _ _ a2;have Z:=ae _ _ Z;have a3:=ae _ _ a3;have a4:=ae _ _ a4;have e7:=ae _ _ e7;have ha:=ha.same ae;have h1:=ae _ _ h1;have h2:=ae _ _ h2;have sA:=sA.trans ae;clear ae;refine⟨_,rfl,al,_,_,_,rfl,rfl,Z8 e7,rfl,x,az,_,rfl,hx,rfl,_,rfl,_,rfl,x,r1,a,c,ss,xs,rfl,⟨⟨az,hx⟩,a1⟩,ha,by lia,ak,by lia,λbq af=>?_⟩
 refine⟨_,rfl,_,_,rfl,_,rfl,?_⟩;rw[xR];refine iteF ?_;have hx:=af _ _ hx;have a1:=af _ _ a1;have aa:=af _ _ aa;have a2:=af _ _ a2;have Z:=af _ _ Z;have a3:=af _ _ a3;have a4:=af _ _ a4;have e7:=af _ _ e7;have ha:=ha.same af;have h1:=af _ _ h1;have h2:=af _ _ h2;have sA:=sA.trans af;clear af;obtain⟨ps,bp,hS⟩:=id ha;refine⟨_,rfl,a,_,rfl,.inl (Z8 bp),(ps.map V.ref).length,rfl,by rw[zK,hS.len];lia,?_⟩
 rw[zK,hS.len];refine Tm (λi σ ap=>Same bq ap/\∃v9 a5,σ=[some (.int c),some (.ref a),some (.int one),some (.int bu),some (.ref b1),some (.ref b2),some (.ref hl),some (.ref al),some (.bl (hDue c xs ss)),v9,a5]) ⟨Za _,none,none,rfl⟩ ?_ ?_
 .rintro i σ ap hi ⟨W,v9,a5,rfl⟩;have hx:=W _ _ hx;have a1:=W _ _ a1;have aa:=W _ _ aa;have a2:=W _ _ a2;have Z:=W _ _ Z;have a3:=W _ _ a3;have a4:=W _ _ a4;have e7:=W _ _ e7;have ha:=ha.same W;have h1:=W _ _ h1;have h2:=W _ _ h2;have sA:=sA.trans W;have au:cnt ss.length ((i:Int)*6)=true:=Zm.mpr (by lia)
  obtain⟨ac,hq,a9⟩:=id ha;generalize (i:Int)*6=at_ at au ⊢;obtain⟨c0,c1⟩:=Zm.mp au;have bf:((at_.toNat:Nat):Int)=at_:=by lia
  have ce:=a9.len;refine⟨_,rfl,_,rfl,_,rfl,at_,rfl,a,_,rfl,Z8 hq,λL1 b0=>?_⟩;rw[show cutV (ac.map V.ref) none (some at_)=(ac.map V.ref).take at_.toNat from by rw[<-bf,Uv];rfl]
  have u1:=Z9 (o:=.lst ((ac.map V.ref).take at_.toNat)) b0;have e1:(upd ap L1 (.lst ((ac.map V.ref).take at_.toNat))) L1=some (.lst ((ac.take at_.toNat).map V.ref)):=by rw[Z2,vI]
  generalize upd ap L1 (.lst ((ac.map V.ref).take at_.toNat))=a7 at u1 e1;refine⟨_,rfl,_,rfl,_,_,rfl,rfl,at_+1,rfl,a,_,rfl,Z8 (u1 _ _ hq),λL2 bn=>?_⟩;rw[show at_+1=((at_.toNat+1:Nat):Int) by lia,VX]
  have u2:=Z9 (o:=.lst ((ac.map V.ref).drop (at_.toNat+1))) bn;have e2:(upd a7 L2 (.lst ((ac.map V.ref).drop (at_.toNat+1)))) L2=some (.lst ((ac.drop (at_.toNat+1)).map V.ref)):=by rw[Z2,vY]
  generalize upd a7 L2 (.lst ((ac.map V.ref).drop (at_.toNat+1)))=ay at u2 e2;refine⟨L1,L2,_,_,rfl,rfl,u2 _ _ e1,e2,by rw[zK,zK,yL,xE];exact yW (Zb (by lia)),λO hO=>?_⟩
  have u3:=Z9 (o:=.lst ((ac.take at_.toNat).map V.ref++(ac.drop (at_.toNat+1)).map V.ref)) hO;have e3:(upd ay O (.lst ((ac.take at_.toNat).map V.ref++(ac.drop (at_.toNat+1)).map V.ref))) O=some (.lst ((ac.take at_.toNat++ac.drop (at_.toNat+1)).map V.ref)):=by rw[Z2,zZ]
  have u:=(u1.trans u2).trans u3;have hW:SaysAt (upd ay O (.lst ((ac.take at_.toNat).map V.ref++(ac.drop (at_.toNat+1)).map V.ref))) O (wo ss at_):=⟨_,e3,(a9.wo at_).same u⟩;have ca:(wo ss at_).length<=1000:=by unfold wo;rw[zR,yL,xE];lia
  refine⟨_,rfl,c,O,b1,wo ss at_,xs,rfl,hW,ca,Oe ak,u _ _ h1,by lia,λbw ao=>⟨_,rfl,?_⟩⟩
  have ao:=u.trans ao;refine UL (!hDue c xs ss) (λQ' k'=>⟨_,rfl,_,rfl,k' _ (Za _)⟩) λcg ai=>?_;have ai:=ao.trans ai;have aa:=ai _ _ aa;refine⟨_,rfl,al,_,_,_,rfl,rfl,Z8 (ai _ _ e7),rfl,x',aq,_,rfl,aa,rfl,_,rfl,_,rfl,_,rfl,x',q1,a,c,at_,ss,xs,rfl,⟨⟨aq,aa⟩,ai _ _ a2⟩,ha.same ai,by lia,ak,by lia,au,λci bk=>?_⟩
  refine⟨_,rfl,_,_,rfl,_,rfl,?_⟩;have hd:Wn true c ss at_ xs=(hDue c xs (wo ss at_) && !hDue c xs ss):=by
   show(hDue c xs (wo ss at_) && !keeps xs (sy ss at_))=_;rw[Ee (xs:=xs) (c:=c) au];cases hDue c xs (wo ss at_) <;> rfl
  rw[hd,xR];exact iteF ⟨(W.trans ai).trans bk,_,_,rfl⟩
 .rintro σ ap ⟨W,v9,a5,rfl⟩;have hx:=W _ _ hx;have a1:=W _ _ a1;have aa:=W _ _ aa;have a2:=W _ _ a2;have Z:=W _ _ Z;have a3:=W _ _ a3;have a4:=W _ _ a4;have e7:=W _ _ e7;have ha:=ha.same W;have h1:=W _ _ h1;have h2:=W _ _ h2;have sA:=sA.trans W;clear W;refine⟨_,rfl,_,rfl,UL (hDue c ys ss) (λQ' k'=>⟨_,rfl,_,rfl,_,rfl,c,a,b2,ss,ys,rfl,ha,by lia,ak,h2,by lia,k'⟩) λa7 ad=>?_⟩
  have hx:=ad _ _ hx;have a1:=ad _ _ a1;have aa:=ad _ _ aa;have a2:=ad _ _ a2;have Z:=ad _ _ Z;have a3:=ad _ _ a3;have a4:=ad _ _ a4;have e7:=ad _ _ e7;have ha:=ha.same ad;have h1:=ad _ _ h1;have h2:=ad _ _ h2;have sA:=sA.trans ad;clear ad;refine⟨_,rfl,_,rfl,GU (!decide (gt xs bu-gt xs one=gt ys bu-gt ys one)) (λhd Q' k'=>?_) λay am=>?_⟩
  .rw[yI] at hd;have lx:=Py hd.1;have ly:=Py hd.2;have a8:=Z8 (K:=K) h1;have bg:=Z8 (K:=K) h2;refine⟨_,rfl,_,rfl,b1,_,_,_,rfl,rfl,a8,ZM (by rw[lx];exact ct),_,rfl,_,rfl,b1,_,_,_,rfl,rfl,a8,ZM (by rw[lx];exact co),_,_,rfl,rfl,_,rfl,_,rfl,b2,_,_,_,rfl,rfl,bg,ZM (by rw[ly];exact ct),_,rfl,_,rfl,b2,_,_,_,rfl,rfl,bg,ZM (by rw[ly];exact co),_,_,rfl,rfl,rfl,?_⟩
   rw[Zp];exact k' _ (Za _)
  have Z:=am _ _ Z;refine⟨_,rfl,al,_,_,_,rfl,rfl,Z8 (am _ _ e7),rfl,x2,aj,_,rfl,Z,rfl,_,rfl,_,rfl,_,rfl,_,rfl,x2,q2,r3,a,c,one,bu,ss,xs,ys,rfl,⟨⟨aj,Z⟩,am _ _ a3,am _ _ a4,nq⟩,ha.same am,by lia,ak,by lia,by lia,co,ct,λbw ao=>?_⟩
  refine⟨_,rfl,_,_,rfl,?_⟩;have hd:UO false c ss one bu xs ys=((hDue c xs ss&&hDue c ys ss) && !decide (gt xs bu-gt xs one=gt ys bu-gt ys one)):=by rw[uR];rfl
  rw[hd,xR];exact k _ ((sA.trans am).trans ao)
inductive Nh(vs:List V)(H:Hp)(Q:VK):Prop
 | mk (c one bu:Int) (a b1 b2:Ab) (ss:List Say) (xs ys:List Int) (h0:vs=[.int c,.ref a,.int one,.int bu,.ref b1,.ref b2]) (h1:SaysAt H a ss) (h2:ss.length<=1000) (h3:ss.all (inside c)=true) (h4:H b1=some (.lst (xs.map V.int))) (h5:H b2=some (.lst (ys.map V.int))) (h6:xs.length<=900) (h7:ys.length<=900) (h8:cnt c one=true) (h9:cnt c bu=true) (h10:∀H',Same H H'->Q (.bl true) H'):Nh vs H Q
def G3:Sp:=λvs H Q _=>Nh vs H Q
abbrev Xn:List Str:=Pu
theorem Q6:Zd ["_law_count","_law_sayings_here","_law_one","_law_other","_law_there","_law_back","_law_handed","_law_answer","_law_ways","_law_due"] Xn (defScope Yc):=fs7
theorem Pb(D:Def K mg "_law_both_right" Yc Xn f fd)(DS:U1 K mg fs ds)(DY:YI K mg fy dy)(A:M3 K mg C fI dI gS eS)(DH:YH K mg fh dh)(GH:FnOk P w K mg base CX0 4 fh dh UK Uz)(DM:Yi K mg fm dm)(GM:FnOk P w K mg base CX0 4 fm dm JV YX)(G:G1 K mg):
  FnOk P w K mg base CX0 7 f fd Xn G3:=by
 have GS:FnOk P w K mg base CX0 5 fs ds _ spLSum:=(Gi DS G).mono (by decide)
 have GY:FnOk P w K mg base CX0 5 fy dy _ spLSays:=(UW DY G).mono (by decide)
 have GI:FnOk P w K mg base CX0 1 fI dI _ (spTwo C "there" "back"):=Xt A.i A.o G;have GW:FnOk P w K mg base CX0 5 gS eS _ (spShow true C):=Wz A.s.fn A.o DH GH DM GM;refine D.fn.okA Q6 λ_ _ _ _ H vs Q _ hr h=>?_;obtain⟨c,one,bu,a,b1,b2,ss,xs,ys,rfl,ha,hz,aj,h1,h2,x9,y9,co,ct,k⟩:=h;have hu:=hr.units;have ad:Room 5 _:=hr.mono (by decide)
 have al:Room 2 _:=hr.mono (by decide)
 refine⟨_,Z4 (psl 6 Q6.nd (Zn (Z0 (Zt Zj (by rfl) G.list boot_list (Z0 (pv 4) Z3)) (Z0 (Zt Zj (by rfl) G.list boot_list (Z0 (pv 5) Z3)) Z3))))
  (Z4 (psl 7 Q6.nd (Ya A.o.mK GI al (by rfl) A.o.at_ A.b .nil Zu (Z0 (Zc Zf (pv 6) Z6) (Z0 (Zc Zf (pv 6) Z6) Z3))))
  (Z4 (ZP (U4 yH yR yQ ZZ (Zc Zf (pv 6) Z6) (Z0 Z6 Z3)))
  (Z4 (ZP (U4 yH yR yQ ZZ (Zc Zf (pv 6) Z6) (Z0 Z6 Z3)))
  (Z4 (psl 8 Q6.nd (Zn (Z0 (pcD DS GS ad (Z0 (pv 1) (Z0 (pv 4) (Z0 (pv 2) (Z0 (pv 3) Z3))))) (Z0 (pcD DS GS ad (Z0 (pv 1) (Z0 (pv 5) (Z0 (pv 3) (Z0 (pv 2) Z3))))) Z3))))
  (Z4 (psl 9 Q6.nd (ZH Jb UU (pv 8) (by with_unfolding_all rfl)))
  (Z4 (Zw (Zq (pv 9)) (Z7 (psl 9 Q6.nd (ZH Js (Zg Yd (Zc Zf (pv 8) Z6) (Zc Zf (pv 8) Z6)) Z6 (nomark _)))) Zh)
  (Z7 (Ze (Y1 (ZH (P2 hu) (Zn (Z0 (Zi (pv 7) rfl) (Z0 (Zi (pv 7) rfl) Z3))) (Zn (Z0 (pv 4) (Z0 (pv 5) Z3))) (nomark _))
   (Y8 (pcD DY GY ad (Z0 (Y9 (pv 7) A.o.cl A.s.me GW ad A.s.bd .nil Zu (Z0 (pv 0) (Z0 (pv 1) (Z0 (pv 2) (Z0 (pv 3) Z3))))) (Z0 (pv 9) Z3))))))))))))),?_⟩
 refine cut λN O=>?_;refine⟨_,rfl,b1,_,rfl,.inl (Z8 h1),λp1 n1=>?_⟩;have u1:Same H (upd H p1 (.lst (xs.map V.int))):=Z9 n1;have e1:(upd H p1 (.lst (xs.map V.int))) p1=some (.lst (xs.map V.int)):=Z2;generalize upd H p1 (.lst (xs.map V.int))=H1 at u1 e1;have e0:=e1;refine⟨_,rfl,b2,_,rfl,.inl (Z8 (u1 _ _ h2)),λp2 n2=>?_⟩;have u2:Same H1 (upd H1 p2 (.lst (ys.map V.int))):=Z9 n2;have e2:(upd H1 p2 (.lst (ys.map V.int))) p2=some (.lst (ys.map V.int)):=Z2;generalize upd H1 p2 (.lst (ys.map V.int))=H2 at u2 e2;refine⟨szL 2,λW nl=>?_⟩;have u3:Same H2 (upd H2 W (.lst [.ref p1,.ref p2])):=Z9 nl;have e3:(upd H2 W (.lst [.ref p1,.ref p2])) W=some (.lst [.ref p1,.ref p2]):=Z2;generalize upd H2 W (.lst [.ref p1,.ref p2])=H3 at u3 e3;refine O _ _ (cut λN O=>?_);have e1:=u3 _ _ (u2 _ _ e1);have e2:=u3 _ _ e2;have af:p1≠p2:=Z1 e0 n2;refine⟨_,rfl,W,_,_,_,rfl,rfl,Z8 e3,rfl,_,rfl,W,_,_,_,rfl,rfl,Z8 e3,rfl,?_⟩;intro x dx x0 d0 nd;refine Gm e1 e2 x0 d0 λH4 q1 q2 s4 z1 z2 an=>⟨rfl,?_⟩;refine O _ _ (cut λN O=>?_);have x1:=Z1 e1 x0;have x2:=Z1 e2 x0;have f1:=s4 _ _ e1;have f2:=s4 _ _ e2;have f3:=s4 _ _ e3;have ag:p1≠W:=Z1 (u2 _ _ e0) nl;refine⟨_,rfl,W,_,_,_,rfl,rfl,Z8 f3,rfl,.inl ⟨rfl,_,Z8 f1⟩,p1,_,_,rfl,rfl,f1,Zb (by rw[zK];lia),?_⟩
 have k5:∀b o,b≠p1->H4 b=some o->(upd H4 p1 (.lst (xs.map V.int++[.int 0]))) b=some o:=λb o hb e=>by rw[Z5 hb];exact e
 generalize upd H4 p1 (.lst (xs.map V.int++[.int 0]))=H5 at k5;refine O _ _ (cut λN O=>?_);refine⟨_,rfl,W,_,_,_,rfl,rfl,Z8 (k5 _ _ ag.symm f3),rfl,.inl ⟨rfl,_,Z8 (k5 _ _ af.symm f2)⟩,p2,_,_,rfl,rfl,k5 _ _ af.symm f2,Zb (by rw[zK];lia),?_⟩
 have k6:∀b o,b≠p2->H5 b=some o->(upd H5 p2 (.lst (ys.map V.int++[.int 0]))) b=some o:=λb o hb e=>by rw[Z5 hb];exact e
 generalize upd H5 p2 (.lst (ys.map V.int++[.int 0]))=H6 at k6;refine O _ _ (cut λN O=>?_);have sA:Same H H6:=λb o e=>k6 b o (Z1 e (u1.free n2)) (k5 b o (Z1 e n1) ((((u1.trans u2).trans u3).trans s4) b o e));obtain⟨⟨ac,hx⟩,a1,a2,nq⟩:=an;have aa:=k6 _ _ x2.symm (k5 _ _ x1.symm hx);have a1:=k6 _ _ (Z1 e2 z1).symm (k5 _ _ (Z1 e1 z1).symm a1);have a2:=k6 _ _ (Z1 e2 z2).symm (k5 _ _ (Z1 e1 z2).symm a2);have ae:=ha.same sA;have ai:=sA _ _ h1;have ah:=sA _ _ h2;clear k6 k5 f1 f2 f3 s4 u3 u2 u1 e1 e2 e3 e0 ag af x1 x2;refine⟨_,rfl,_,rfl,_,rfl,_,rfl,a,ss,b1,xs,one,bu,rfl,ae,ai,?_⟩;refine⟨_,rfl,_,rfl,_,rfl,_,rfl,a,ss,b2,ys,bu,one,rfl,ae,ah,?_⟩;refine⟨szL 2,λwl nw=>?_⟩;have u7:Same H6 (upd H6 wl (.lst [dueSum ss xs one bu,dueSum ss ys bu one])):=Z9 nw;have e7:(upd H6 wl (.lst [dueSum ss xs one bu,dueSum ss ys bu one])) wl=some (.lst [dueSum ss xs one bu,dueSum ss ys bu one]):=Z2;generalize upd H6 wl (.lst [dueSum ss xs one bu,dueSum ss ys bu one])=H7 at u7 e7;refine O _ _ (cut λN O=>?_);have ak:[dueSum ss xs one bu,dueSum ss ys bu one].all Uu=true:=by unfold dueSum;split <;> split <;> rfl
 refine⟨_,rfl,wl,_,rfl,.inl (Z8 e7),rfl,ak,?_⟩;refine O _ _ ?_;refine QS (λσ H'=>H7=H'/\σ=[some (.int c),some (.ref a),some (.int one),some (.int bu),some (.ref b1),some (.ref b2),some (.ref W),some (.ref x),some (.ref wl),some (.bl (UO true c ss one bu xs ys))]) (λN0 O=>?_) ?_
 .refine⟨_,rfl,_,rfl,?_⟩;by_cases w1:walk ss xs one=some bu;by_cases w2:walk ss ys bu=some one
  .have i1:dueSum ss xs one bu = .int (sumC ss xs):=xY w1;have i2:dueSum ss ys bu one = .int (sumC ss ys):=xY w2;rw[i1,i2] at e7 ⊢;refine iteT ?_;refine⟨_,rfl,wl,_,_,_,rfl,rfl,Z8 e7,rfl,_,rfl,wl,_,_,_,rfl,rfl,Z8 e7,rfl,_,_,rfl,rfl,rfl,O _ _ ⟨rfl,?_⟩⟩;have hd:UO true c ss one bu xs ys=decide (V.int (sumC ss xs+sumC ss ys)=V.int 0):=by
    unfold UO;rw[xV w1,xV w2,Zp];rfl
   rw[hd];rfl
  .have i1:dueSum ss xs one bu = .int (sumC ss xs):=xY w1;have i2:dueSum ss ys bu one = .non:=xZ w2;rw[i1,i2];have hd:UO true c ss one bu xs ys=false:=by
    unfold UO;rw[xW w2,xV w1];rfl
   exact iteF (O _ _ ⟨rfl,by rw[hd];rfl⟩)
  .have i1:dueSum ss xs one bu = .non:=xZ w1;rw[i1];have hd:UO true c ss one bu xs ys=false:=by
    unfold UO;rw[xW w1];rfl
   exact iteF (O _ _ ⟨rfl,by rw[hd];rfl⟩)
 rintro σ H' ⟨rfl,rfl⟩;refine⟨_,rfl,x,C,ac,_,_,rfl,u7 _ _ aa,A.o.cl,A.o.n1,rfl,_,rfl,x,C,ac,_,_,rfl,u7 _ _ aa,A.o.cl,A.o.n2,rfl,szL 2,λm1 ao=>?_⟩;have u8:=Z9 (o:=.lst [.ref q1,.ref q2]) ao;refine⟨_,rfl,_,rfl,szL 2,λm2 am=>?_⟩;have u9:=Z9 (o:=.lst [.ref b1,.ref b2]) am;have Z:=(u7.trans u8).trans u9;refine Dk (as:=[q1,q2]) (bs:=[b1,b2]) (u9 _ _ Z2) Z2 rfl (Em (Z _ _ a1) (Z _ _ ai) (Z _ _ a2) (Z _ _ ah)) ⟨_,rfl,iteT ?_⟩;refine⟨_,rfl,x,ac,_,rfl,Z _ _ aa,rfl,_,rfl,_,rfl,_,rfl,_,rfl,x,q1,q2,a,c,one,bu,ss,xs,ys,rfl,⟨⟨ac,Z _ _ aa⟩,Z _ _ a1,Z _ _ a2,nq⟩,ae.same Z,hz,aj,by lia,by lia,co,ct,λH9 s9=>?_⟩
 refine⟨_,rfl,_,_,rfl,?_⟩;rw[xR];exact k _ ((sA.trans Z).trans s9)
inductive XV(vs:List V)(H:Hp)(Q:VK):Prop
 | mk (c one bu:Int) (a b:Ab) (ss:List Say) (xs:List Int) (h0:vs=[.int c,.ref a,.int one,.int bu,.ref b]) (h1:SaysAt H a ss) (h2:ss.length<=1000) (h3:ss.all (inside c)=true) (h4:H b=some (.lst (xs.map V.int))) (h5:xs.length<=900) (h6:cnt c one=true) (h7:cnt c bu=true) (h8:∀H',Same H H'->Q (.bl true) H'):XV vs H Q
def V9:Sp:=λvs H Q _=>XV vs H Q
abbrev JE:List Str:=Pq
abbrev Gj:List Str:=["_law_count","_law_sayings_here","_law_one","_law_other","_law_places","_law_handed","_law_answer","_law_due","_law_lower","_law_upper","_law_number"]
theorem YQ:Zd Gj JE (defScope Zz):=fs7
def upB (xs:List Int):Bool:=(zV (xs.length-1)).all λi=>decide (xs.getD i 0<xs.getD (i+1) 0)
theorem LB(c:Int)(xs:List Int):UB c xs=(xs.all (cnt c)&&upB xs):=by
 rw[wK,yI];unfold UB upB;rw[yA,yA,yA];constructor
 .intro h;constructor
  .intro x O;obtain⟨i,hi⟩:=qZ O;have G:=(zT.mp hi).1
   have:=h i (xB.mpr G)
   rw[yI] at this;have e:xs.getD i 0=x:=by rw[uB,hi];rfl
   rw[e] at this;exact this.1
  .intro i hi;have G:=xB.mp hi
   have:=h (i+1) (xB.mpr (by lia))
   rw[yI,Bool.or_eq_true] at this;rcases this.2 with z | z
   .exact xX (xU z) (by lia)
   .exact z
 .rintro⟨h1,h2⟩ i hi;have G:=xB.mp hi;rw[yI,Bool.or_eq_true];refine⟨h1 _ ?_,?_⟩
  .rw[uB,zN G];exact xC G
  .cases i with
   | zero=>exact .inl rfl
   | succ i=>exact .inr (h2 i (xB.mpr (by lia)))
theorem ndP1:(["_law_place","_law_count"]:List Str).Nodup:=by decide +kernel
theorem ndP2:(["_law_at","_law_places"]:List Str).Nodup:=by decide +kernel
theorem NI(D:Def K mg "_law_places_right" Zz JE f fd)(DY:YI K mg fy dy)(A:Ke K mg C fI dI gS eS)(am:Yg K mg fr dr)(GR:FnOk P w K mg base CX0 4 fr dr XA G2)(G:G1 K mg):FnOk P w K mg base CX0 7 f fd JE V9:=by
 have GY:FnOk P w K mg base CX0 5 fy dy _ spLSays:=(UW DY G).mono (by decide)
 have GI:FnOk P w K mg base CX0 1 fI dI _ (spOne C "places"):=Wy A.i A.o G;have GW:FnOk P w K mg base CX0 5 gS eS _ (spShowW false C C):=NN A.s.fn A.o am GR G;refine D.fn.okA YQ λ_ _ outer _ H vs Q _ hr h=>?_;obtain⟨c,one,bu,a,b,ss,xs,rfl,ha,hz,al,O,x9,co,ct,k⟩:=h;have hu:=hr.units;have ak:Room 5 _:=hr.mono (by decide)
 have ap:Room 2 _:=hr.mono (by decide)
 refine⟨_,Z4 (psl 5 YQ.nd (Zt Zj (by rfl) G.list boot_list (Z0 (pv 4) Z3)))
  (Z4 (psl 6 YQ.nd (Ya A.o.mK GI ap (by rfl) A.o.at_ A.b .nil Zu (Z0 (pv 5) Z3)))
  (Z4 (ZP (U4 yH yR yQ ZZ (pv 5) (Z0 Z6 Z3)))
  (Z4 (psl 7 YQ.nd (ZC (Jm rfl) (by rfl) G.all boot_all (Z0
   (ZT (XN:=Gj) (outer:=defScope Zz) (N:=["_law_place","_law_count"]) (cap:=[none,some 0]) (by exact csc (.own (.cap rfl rfl rfl .nil))) rfl (Zr (pv 4))
    (λ_ _ _ _ _ _=>pgl 0 ndP1) (λ_ _ _ _ _ _=>ZO)
    (λ_ _ _ _ _ _=>My QC VQ Z6 (pv 0) (pv 1))) Z3)))
  (Z4 (psl 7 YQ.nd (Y1 (pv 7) (Y8 (ZC (Jm rfl) (by rfl) G.all boot_all (Z0
   (ZT (XN:=Gj) (outer:=defScope Zz) (N:=["_law_at","_law_places"]) (cap:=[none,some 4]) (by exact csc (.own (.cap rfl rfl rfl .nil))) rfl (Ri (by rfl) G.range (Z0 Z6 (Z0 (pbL G (Z0 (pv 4) Z3)) Z3)))
    (λ_ _ _ _ _ _=>pgl 0 ndP2) (λ_ _ _ _ _ _=>ZO)
    (λ_ _ _ _ _ _=>ZH VQ (Zc (ixL (K:=K)) (pv 1) (Zg Ja (pv 0) Z6)) (Zc (ixL (K:=K)) (pv 1) (pv 0)) (nomark _))) Z3)))))
  (Z4 (psl 7 YQ.nd (Y1 (pv 7) (Y1 (ZH Vc (pv 3) (pv 4) (by with_unfolding_all rfl)) (Y8 (ZH Jb (pv 2) (pv 4) (by with_unfolding_all rfl))))))
  (Z4 (Y4 PassesOwn.never rfl (Zr (pv 1)) (Uc rfl (Zk (pgl 8 YQ.nd) (Zk (pgl 9 YQ.nd) (Zk (pgl 10 YQ.nd) Yw))))
   (Z7 (psl 7 YQ.nd (Y1 (pv 7) (Y8 (Qb (Y1 (ZH Vc (pv 9) (pv 4) (by with_unfolding_all rfl)) (Y8 (ZH Jb (pv 8) (pv 4) (by with_unfolding_all rfl))))))))))
  (Z7 (Ze (Y1 (ZH (P3 hu) (Zi (pv 6) rfl) (pv 4) (nomark _))
   (Y8 (pcD DY GY ak (Z0 (Y9 (pv 6) A.o.cl A.s.me GW ak A.s.bd .nil Zu (Z0 (pv 0) (Z0 (pv 1) (Z0 (pv 2) (Z0 (pv 3) Z3))))) (Z0 (pv 7) Z3))))))))))))),?_⟩
 refine⟨_,rfl,b,_,rfl,.inl (Z8 O),λp1 n1=>?_⟩;have u1:Same H (upd H p1 (.lst (xs.map V.int))):=Z9 n1;have e1:(upd H p1 (.lst (xs.map V.int))) p1=some (.lst (xs.map V.int)):=Z2;generalize upd H p1 (.lst (xs.map V.int))=H1 at u1 e1;refine⟨_,rfl,?_⟩;intro x dx x0 d0 nd;refine Qe e1 x0 d0 λH2 q s2 z1 an=>⟨rfl,?_⟩;have f1:=s2 _ _ e1;refine⟨_,rfl,.inl ⟨rfl,_,Z8 f1⟩,p1,_,_,rfl,rfl,f1,Zb (by rw[zK];lia),?_⟩
 have k3:∀b o,b≠p1->H2 b=some o->(upd H2 p1 (.lst (xs.map V.int++[.int 0]))) b=some o:=λb o O e=>by rw[Z5 O];exact e
 generalize upd H2 p1 (.lst (xs.map V.int++[.int 0]))=H3 at k3;have sA:Same H H3:=λb o e=>k3 b o (Z1 e n1) ((u1.trans s2) b o e);obtain⟨⟨ad,W⟩,a1⟩:=an;have W:=k3 _ _ (Z1 e1 x0).symm W;have a1:=k3 _ _ (Z1 e1 z1).symm a1;have ha:=ha.same sA;have O:=sA _ _ O;clear k3 f1 s2 u1 e1;refine⟨_,rfl,b,rfl,⟨_,Z8 O⟩,λD1 aj=>?_⟩;refine Y0 (outs:=λi=>(xs[i]?).map λp=>V.bl (cnt c p)) (λσ=>∃v,σ=[v,some (.int c)]) aj (Z8 O) (Zb (by rw[zK];lia)) ⟨none,rfl⟩ (λi y σc Hc ar No hy sm _ ⟨v,hv⟩ aa no=>?_) (λH4 s4 ac=>?_)
 .rw[zM] at hy;cases en:xs[i]? with
  | none=>rw[en] at hy;cases hy
  | some z =>
   rw[en] at hy;cases hy;subst hv;refine⟨_,rfl,_,_,rfl,rfl,_,rfl,?_⟩;by_cases h0:0<=z
   .rw[xV h0];exact iteT ⟨_,rfl,_,_,rfl,rfl,aa _ _ _ ⟨_,rfl⟩ (Za _) (by rw[en];show some (V.bl (cnt c z))=_;unfold cnt;rw[xV h0];rfl)⟩
   .rw[xW h0];exact iteF (aa _ _ _ ⟨_,rfl⟩ (Za _) (by rw[en];show some (V.bl (cnt c z))=_;unfold cnt;rw[xW h0];rfl))
 rw[zK,V1 (λp=>V.bl (cnt c p))] at ac;refine⟨D1,xs.map (cnt c),rfl,Z8 (by rw[xJ];exact ac),?_⟩
 rw[show(xs.map (cnt c)).all id=xs.all (cnt c) from by rw[uJ];rfl]
 clear ac aj;have W:=s4 _ _ W;have a1:=s4 _ _ a1;have ha:=ha.same s4;have O:=s4 _ _ O;have sA:=sA.trans s4;clear s4;refine⟨_,rfl,_,rfl,UL (upB xs) (λQ' k'=>?_) λH5 s5=>?_⟩
 .refine⟨_,rfl,b,_,rfl,.inl (Z8 O),1,_,rfl,⟨by decide,by decide,by lia,by rw[zK];lia⟩,λD2 aq=>?_⟩
  have hn:(((xs.map V.int).length:Int)-1).toNat=xs.length-1:=by rw[zK];lia
  rw[hn];refine N7 (outs:=λi=>some (V.bl (decide (xs.getD ((1:Int)+(i:Int)-1).toNat 0<xs.getD ((1:Int)+(i:Int)).toNat 0)))) (λσ=>∃v,σ=[v,some (.ref b)]) aq (Zb (by lia)) ⟨none,rfl⟩ (λi σc Hc ar No hi sm _ ⟨v,hv⟩ aa no=>?_) (λH5 s5 ah=>?_)
  .subst hv;have af:=Z8 (K:=K) (sm _ _ O);exact⟨_,rfl,_,rfl,_,_,rfl,rfl,b,_,_,_,rfl,rfl,af,ZM (Zm.mpr (by lia)),_,rfl,_,rfl,b,_,_,_,rfl,rfl,af,ZM (Zm.mpr (by lia)),_,_,rfl,rfl,aa _ _ _ ⟨_,rfl⟩ (Za _) rfl⟩
  rw[Tq (λi:Nat=>decide (xs.getD ((1:Int)+(i:Int)-1).toNat 0<xs.getD ((1:Int)+(i:Int)).toNat 0)) V.bl] at ah;refine⟨D2,_,rfl,Z8 ah,?_⟩;rw[uJ,show(zV (xs.length-1)).all (id ∘ λi:Nat=>decide (xs.getD ((1:Int)+(i:Int)-1).toNat 0<xs.getD ((1:Int)+(i:Int)).toNat 0))=upB xs from by
   unfold upB;congr 1;funext i;show decide (xs.getD ((1:Int)+(i:Int)-1).toNat 0<xs.getD ((1:Int)+(i:Int)).toNat 0)=_;rw[show((1:Int)+(i:Int)-1).toNat=i by lia,show((1:Int)+(i:Int)).toNat=i+1 by lia]]
  exact k' H5 s5
 have W:=s5 _ _ W;have a1:=s5 _ _ a1;have ha:=ha.same s5;have O:=s5 _ _ O;have sA:=sA.trans s5;clear s5;have fx:(xs.map V.int).all Uu=true:=yA.mpr λy hy=>by obtain⟨z,_,rfl⟩:=yK.mp hy;rfl
 refine⟨_,rfl,_,rfl,UL (decide (bu∈xs) && !decide (one∈xs)) (λQ' k'=>?_) λH6 s6=>?_⟩
 .refine⟨_,rfl,_,rfl,b,_,rfl,.inl (Z8 O),rfl,fx,_,rfl,?_⟩;rw[Jd];exact UL (d:=decide (bu∈xs)) (!decide (one∈xs)) (λQ2 k2=>⟨_,rfl,_,rfl,b,_,rfl,.inl (Z8 O),rfl,fx,by rw[Jd];exact k2 _ (Za _)⟩) k'
 have W:=s6 _ _ W;have a1:=s6 _ _ a1;have ha:=ha.same s6;have O:=s6 _ _ O;have sA:=sA.trans s6;clear s6;have hd:Wm false c ss one bu xs []=(((xs.all (cnt c)&&upB xs)&&(decide (bu∈xs) && !decide (one∈xs)))&&ss.all (YV xs)):=by
  show(UB c xs&&(!decide (one∈xs)&&(decide (bu∈xs)&&ss.all (YV xs))))=_;rw[LB];cases xs.all (cnt c)&&upB xs <;> cases decide (bu∈xs) <;> cases decide (one∈xs) <;> cases ss.all (YV xs) <;> rfl
 generalize ((xs.all (cnt c)&&upB xs)&&(decide (bu∈xs) && !decide (one∈xs)))=d3 at hd ⊢;obtain⟨ps,ag,hS⟩:=ha.ex;refine⟨_,rfl,a,rfl,⟨_,Z8 ag⟩,ZX (K:=K) (a:=a) (xs:=ps.map V.ref) (λi σ H7=>Same H6 H7/\∃v8 v9 ae,σ=[some (.int c),some (.ref a),some (.int one),some (.int bu),some (.ref b),some (.ref p1),some (.ref x),some (.bl (d3&&(ss.take i).all (YV xs))),v8,v9,ae])
  ⟨Za _,none,none,none,by rw[List.take_zero,List.all_nil,Bool.and_true];rfl⟩ (λi σ H7 _ ⟨Z,_⟩=>Z8 (Z _ _ ag)) ?_ ?_⟩
 .rintro i y σ H7 hi ⟨Z,v8,v9,ae,rfl⟩;rw[zM] at hi;cases ep:ps[i]? with
  | none=>rw[ep] at hi;cases hi
  | some p =>
   rw[ep] at hi;cases hi;have ao:i<ss.length:=by rw[<-hS.len];exact(zT.mp ep).1
   have es:ss[i]?=some ss[i]:=zN ao;have hp:=Z _ _ (hS.at_ i p _ ep es);have ht:(ss.take (i+1)).all (YV xs)=((ss.take i).all (YV xs)&&YV xs ss[i]):=by rw[xM,es,uN];simp
   generalize ss[i]=t at es hp ht;obtain⟨l,u,n⟩:=t;have hp:H7 p=some (.tup [.int l,.int u,.int n]):=hp;have ai:=Z8 (K:=K) (Z _ _ O);refine⟨p,_,rfl,Zo hp,rfl,_,_,rfl,_,_,rfl,_,_,rfl,rfl,?_⟩;refine⟨_,rfl,_,rfl,UL (YV xs (l,u,n)) (λQ2 k2=>?_) λH8 s8=>?_⟩
   .refine⟨_,rfl,_,rfl,b,_,rfl,.inl ai,rfl,fx,_,rfl,?_⟩;rw[Jd];exact UL (d:=decide (u∈xs)) (!decide (l∈xs)) (λQ3 k3=>⟨_,rfl,_,rfl,b,_,rfl,.inl ai,rfl,fx,by rw[Jd];exact k3 _ (Za _)⟩) λH9 s9=>⟨_,rfl,k2 _ s9⟩
   .exact⟨Z.trans s8,some (.int l),some (.int u),some (.int n),by rw[ht,<-uR];rfl⟩
 .rintro σ H7 ⟨Z,v8,v9,ae,rfl⟩;rw[zK,hS.len,wE,<-hd];have W:=Z _ _ W;have a1:=Z _ _ a1;have O:=Z _ _ O;refine⟨_,rfl,x,C,ad,_,_,rfl,W,A.o.cl,A.o.n,rfl,_,rfl,q,b,xs,xs,rfl,rfl,Z8 a1,Z8 O,_,rfl,?_⟩;rw[show(if false=true then !decide (xs=xs) else decide (xs=xs))=true from xV rfl]
  refine iteT ?_;refine⟨_,rfl,x,ad,_,rfl,W,rfl,_,rfl,_,rfl,_,rfl,_,rfl,x,q,q,a,c,one,bu,ss,xs,[],rfl,⟨⟨ad,W⟩,a1⟩,ha.same Z,hz,al,by lia,by decide,co,ct,λH9 s9=>?_⟩
  refine⟨_,rfl,_,_,rfl,?_⟩;rw[xR];exact k _ ((sA.trans Z).trans s9)
def Mh:Sp:=λvs H Q _=>∃(c:Nat) (a:Ab) (ss:List Say) (one:Int),vs=[.int c,.ref a,.int one]/\c<=120/\SaysAt H a ss/\ss.length<64/\ss.all (inside c)=true/\cnt c one=true/\∀H',Same H H'->Q (.bl true) H'
abbrev NQ:List Str:=["_law_count","_law_sayings_here","_law_one","_law_reach","_law_rest","_law_some"]
theorem UA:Zd NQ Gu (defScope Yk):=fs7
theorem E2(e:Y.K=K:=by rfl):OpR Y (Ak .In) (rIn K false):=by subst e;exact Vc
theorem Rj(e:Y.K=K:=by rfl):OpR Y (Ak .NotIn) (rIn K true):=by subst e;exact Jb
theorem ndF1:(lst_46:List Str).Nodup:=by decide +kernel
theorem ndF2:(["_law_place","_law_reach"]:List Str).Nodup:=by decide +kernel
theorem Rp(D:J1 K mg f fd)(DP:Def K mg "_law_places_right" Zz JE fp dp)(GP:FnOk P w K mg base CX0 7 fp dp JE V9)(st:mg "set"=none)(G:G1 K mg):
  FnOk P w K mg base CX0 8 f fd Gu Mh:=by
 refine D.fn.okA UA λ_ _ outer s H vs Q _ hr h=>?_;obtain⟨c,a,ss,one,rfl,hc,ha,hz,al,co,k⟩:=h;have hu:=hr.units;refine⟨_,Z4 (Ub (J9 (Z0 (Zn (Z0 (pv 2) Z3)) (Z0 (Zn Z3) Z3))) (Uc rfl (Zk (VN (i:=3) UA.nd rfl (Or.inr rfl)) (Zk (pgl 4 UA.nd) Yw))))
  (Z4 (JP PassesOwn.never (Zl VQ (pbL G (Z0 (pv 4) Z3)) (pbL G (Z0 (pv 3) Z3)) (nomark _))
   (Z4 (psl 4 UA.nd (Zt Zj (by rfl) G.list boot_list (Z0 (pv 3) Z3)))
   (Z7 (Ub (Mx (by rfl) G.sorted (by rfl) st (Z0 (Zg YN (pv 3) (ZT (XN:=NQ) (outer:=defScope Yk) (N:=lst_46) (cap:=[none,none,none,some 3])
     (by exact csc (.own (.own (.own (.cap rfl rfl rfl .nil))))) rfl (Zr (pv 1))
     (λ_ _ _ _ _ _=>VM (K:=K) (n:=3) rfl (Zk (pgl 0 ndF1) (Zk (pgl 1 ndF1) (Zk (pgl 2 ndF1) Yw))) rfl) (λ_ _ _ _ _ _=>JR (Zl (E2 (K:=K)) (pv 0) (pv 3) (by with_unfolding_all rfl)))
     (λ_ _ _ _ _ _=>pv 1))) Z3)) (VN (i:=3) UA.nd rfl (Or.inr rfl))))))
  (Z4 (JQ (j:=4) (XN:=NQ) (outer:=defScope Yk) (N:=["_law_place","_law_reach"]) (cap:=[none,some 3])
    (by exact csc (.own (.cap rfl rfl rfl .nil))) rfl UA.nd rfl (Or.inl rfl) (Uq (by rfl) G.range (Z0 (pv 0) Z3))
    (λ_ _ _ _ _ _=>pgl 0 ndF2) (λ_ _ _ _ _ _=>JR (Zl (Rj (K:=K)) (pv 0) (pv 1) (by with_unfolding_all rfl)))
    (λ_ _ _ _ _ _=>pv 0))
  (Z4 (Y4 PassesOwn.never rfl (Zr (Ur (Zl (Xo hu) (pv 4) (Zn Z3) (nomark _)) (Zn (Z0 (pv 4) (Z0 (LT (pv 4)) (Z0 (Zg YN (pv 4) (Y7 Yj (pv 4) (Yf (Mw X5 Z6)) Yl)) (Z0 (Zg YN (Y7 Yj (pv 4) Yl (Yf Z6)) (pv 4)) Z3))))) (Zn Z3))) (pgl 5 UA.nd)
   (Z7 (Zw (Zy (Zq (pcD DP GP hr (Z0 (pv 0) (Z0 (pv 1) (Z0 (pv 2) (Z0 (Zc Zf (pv 4) Z6) (Z0 (pv 5) Z3)))))))) (Z7 (Ze ZI)) Zh)))
  (Z7 (Ze ZI))))),?_⟩
 obtain⟨ps,az,hS⟩:=ha.ex;refine⟨_,rfl,szL 1,λr0 a4=>?_⟩;have u0:=Z9 (o:=.lst [.int one]) a4;have e0:(upd H r0 (.lst [.int one])) r0=some (.lst ([one].map V.int)):=Z2;generalize upd H r0 (.lst [.int one])=H0 at u0 e0;refine⟨szL 0,λt0 a5=>?_⟩;have u1:=Z9 (o:=.lst []) a5;have e1:(upd H0 t0 (.lst [])) t0=some (.lst (([]:List Int).map V.int)):=Z2;generalize upd H0 t0 (.lst [])=H1 at u1 e1;refine⟨szL 2,λtt a8=>?_⟩;have u2:=Z9 (o:=.tup [.ref r0,.ref t0]) a8;have e2:(upd H1 tt (.tup [.ref r0,.ref t0])) tt=some (.tup [.ref r0,.ref t0]):=Z2;generalize upd H1 tt (.tup [.ref r0,.ref t0])=H2 at u2 e2;refine⟨tt,_,rfl,Zo e2,rfl,_,_,rfl,_,_,rfl,rfl,?_⟩;refine⟨λm σ H3=>Same H H3/\∃(r t:Ab) (R T:List Int),m=c+1-T.length/\σ=[some (.int c),some (.ref a),some (.int one),some (.ref r),some (.ref t),none]/\H3 r=some (.lst (R.map V.int))/\H3 t=some (.lst (T.map V.int))/\R.Nodup/\(∀k∈R,cnt c k=true)/\T.length<=c,
  ⟨_,(u0.trans u1).trans u2,r0,t0,[one],[],rfl,rfl,u2 _ _ (u1 _ _ e0),u2 _ _ e1,qH _ _,λk hk=>by rw[yO] at hk;subst hk;exact co,xD _⟩,?_⟩
 clear u0 u1 u2 e0 e1 e2;rintro m σ H3 ⟨s3,r,t,R,T,rfl,rfl,aa,au,bb,ay,a6⟩;have a3:R.length<=c:=J3 c R bb λx hx=>Zm.mp (ay x hx);have am:=Qn R;refine⟨_,rfl,t,_,rfl,.inl (Z8 au),_,rfl,r,_,rfl,.inl (Z8 aa),_,_,rfl,rfl,_,rfl,?_⟩;rw[zK,zK];by_cases ag:(T.length:Int)<(R.length:Int)
 .rw[xV ag];refine iteT ⟨_,λσ' H' z=>z,?_⟩;refine⟨_,rfl,r,_,rfl,.inl (Z8 aa),λt' bc=>?_⟩;have u4:=Z9 (o:=.lst (R.map V.int)) bc;have e4:(upd H3 t' (.lst (R.map V.int))) t'=some (.lst (R.map V.int)):=Z2;generalize upd H3 t' (.lst (R.map V.int))=H4 at u4 e4;have s4:=s3.trans u4;have av:=s4 _ _ az;have as:=u4 _ _ aa;refine⟨_,rfl,_,rfl,a,rfl,⟨_,Z8 av⟩,λD hD=>?_⟩;refine Y0 (outs:=λi=>(ss[i]?).bind λs=>if s.1∈R then some (V.int s.2.1) else none) (λσ=>∃v1 v2 v3,σ=[v1,v2,v3,some (.ref r)]) hD (Z8 av) (Zb (by rw[zK,hS.len];lia)) ⟨none,none,none,rfl⟩ (λi y σc Hc ba No hy sm _ ⟨v1,v2,v3,hv⟩ af no=>?_) (λH5 s5 O=>?_)
  .rw[zM] at hy;cases ep:ps[i]? with
   | none=>rw[ep] at hy;cases hy
   | some p =>
    rw[ep] at hy;cases hy;subst hv;have a7:i<ss.length:=by rw[<-hS.len];exact(zT.mp ep).1
    have es:ss[i]?=some ss[i]:=zN a7;have hp:=sm _ _ (s4 _ _ (hS.at_ i p _ ep es));generalize ss[i]=tp at es hp;obtain⟨l,u,n⟩:=tp;have hp:Hc p=some (.tup [.int l,.int u,.int n]):=hp;refine⟨p,_,rfl,Zo hp,rfl,_,_,rfl,_,_,rfl,_,_,rfl,rfl,?_⟩;refine⟨_,rfl,_,rfl,r,_,rfl,.inl (Z8 (sm _ _ as)),rfl,am,_,rfl,?_⟩;rw[Jd];by_cases W:l∈R
    .rw[xV W];exact iteT ⟨_,rfl,af _ _ _ ⟨_,_,_,rfl⟩ (Za _) (by rw[es];exact xY W)⟩
    .rw[xW W];exact iteF (no _ _ ⟨_,_,_,rfl⟩ (Za _) (by rw[es];exact xZ W))
  obtain⟨U,eU,hU,ao⟩:=Tr (p:=λk=>cnt c k=true) (outs:=λi=>(ss[i]?).bind λs=>if s.1∈R then some (V.int s.2.1) else none) (λi v e=>by
   cases es:ss[i]? with
   | none=>rw[es] at e;cases e
   | some tp =>
    rw[es] at e;by_cases W:tp.1∈R
    .have e:(if tp.1∈R then some (V.int tp.2.1) else none)=some v:=e;rw[xY W] at e;cases e;exact⟨_,rfl,(ins2 al (yM es)).2⟩
    .have e:(if tp.1∈R then some (V.int tp.2.1) else none)=some v:=e;rw[xZ W] at e;cases e) ((ps.map V.ref).length)
  rw[eU] at O;rw[zK,hS.len] at ao;have bg:=s5 _ _ as;refine⟨r,D,_,_,rfl,rfl,bg,O,yW (Zb (by rw[zK,zK];lia)),λL nL=>?_⟩
  have u6:=Z9 (o:=.lst (R.map V.int++U.map V.int)) nL;have e6:(upd H5 L (.lst (R.map V.int++U.map V.int))) L=some (.lst ((R++U).map V.int)):=by rw[Z2,zZ]
  generalize upd H5 L (.lst (R.map V.int++U.map V.int))=H6 at u6 e6;have ar:∀k∈R++U,cnt c k=true:=λk hk=>(yC.mp hk).elim (ay k) (hU k);refine⟨L,R++U,rfl,Z8 e6,by rw[zR];lia,λds nd ae=>wF (J3 c ds nd λx hx=>Zm.mp (ar x ((ae x).mp hx))) (by lia),λD' ms nd ae bf=>?_⟩
  have u7:=Z9 (o:=.lst (ms.map V.int)) bf;have aj:=(s5.trans u6).trans u7;exact⟨c+1-R.length,by lia,s4.trans aj,D',t',ms,R,rfl,rfl,Z2,aj _ _ e4,nd,λk hk=>ar k ((ae k).mp hk),a3⟩
 rw[xW ag];refine iteF ?_;clear ag a6 au;refine⟨_,rfl,_,rfl,by lia,by lia,λD hD=>?_⟩
 rw[yE];refine JY (outs:=λi=>if(i:Int)∈R then none else some (V.int (i:Int))) (λσ=>∃v1,σ=[v1,some (.ref r)]) hD (Zb (by lia)) ⟨none,rfl⟩ (λi σc Hc ba No hi sm _ ⟨v1,hv⟩ af no=>?_) (λH4 s4 ak=>?_)
 .subst hv;refine⟨_,rfl,_,rfl,r,_,rfl,.inl (Z8 (sm _ _ aa)),rfl,am,_,rfl,?_⟩;rw[Jd];by_cases W:(i:Int)∈R
  .rw[show(if true=true then !decide ((i:Int)∈R) else decide ((i:Int)∈R))=false from by rw[xV W];rfl]
   exact iteF (no _ _ ⟨_,rfl⟩ (Za _) (xY W))
  .rw[show(if true=true then !decide ((i:Int)∈R) else decide ((i:Int)∈R))=true from by rw[xW W];rfl]
   exact iteT ⟨_,rfl,af _ _ _ ⟨_,rfl⟩ (Za _) (xZ W)⟩
 obtain⟨U,eU,hU,ao⟩:∃U:List Int,((zV c).filterMap λ(i:Nat)=>if(i:Int)∈R then none else some (V.int (i:Int)))=U.map V.int/\(∀k∈U,cnt c k=true)/\U.length<=c:=by
  obtain⟨ws,e,h1,h2⟩:=PY (λi:Nat=>¬ (i:Int)∈R) c;refine⟨ws,?_,h1,h2⟩;rw[<-e];congr 1;funext i;by_cases W:(i:Int)∈R
  .rw[xY W,xZ (λz=>z W)]
  .rw[xZ W,xY W]
 rw[eU] at ak;have s4:=s3.trans s4;clear aa eU;refine⟨_,rfl,szL 0,λm nm=>?_⟩;have u5:=Z9 (o:=.lst []) nm;have e5:(upd H4 m (.lst [])) m=some (.lst (([]:List Int).map V.int)):=Z2;generalize upd H4 m (.lst [])=H5 at u5 e5;have O:=u5 _ _ ak;have s5:=s4.trans u5;have qD:=Z8 (K:=K) O;refine⟨D,m,U,[],rfl,rfl,qD,Z8 e5,_,rfl,?_⟩;by_cases ah:U=[]
 .rw[show(if true=true then !decide (U=[]) else decide (U=[]))=false from by rw[xV ah];rfl]
  refine iteF ⟨szL 0,λq nq=>?_⟩;have u6:=Z9 (o:=.lst []) nq;refine⟨q,rfl,⟨_,Z8 Z2⟩,ZX (K:=K) (a:=q) (xs:=[]) (λi σ H6=>Same H H6/\(upd H5 q (.lst []))=H6) ⟨s5.trans u6,rfl⟩ (λi σ H6 _ qy=>by obtain⟨_,e⟩:=qy;rw[<-e];exact Z8 Z2) (λi y σ H6 hi=>by cases hi) λσ H6 qy=>by obtain⟨s6,_⟩:=qy;exact k _ s6⟩
 rw[show(if true=true then !decide (U=[]) else decide (U=[]))=true from by rw[xW ah];rfl]
 refine iteT ?_;have a9:0<U.length:=wZ.mpr ah;have c0:cnt U.length 0=true:=Zm.mpr (by lia)
 have ct:cnt c (U.getD (0:Int).toNat 0)=true:=hU _ (by
  show U.getD 0 0∈U;rw[uB,zN a9];exact xC _)
 refine ZK (mi_v (n:=120) rfl O (by lia)) (ZK (Pk (K:=K) (mi_v (n:=120) rfl O (by lia)).q) (ZK (Xv (mi_v (n:=120) rfl O (by lia)) (Go (K:=K) (lo:=some (-1)) (hi:=none) (mi_v (n:=120) rfl O (by lia)).q (λ_ _ q=>⟨1,rfl,_,rfl,q⟩) (λ_ _ q=>q)) (by decide)) (ZK (Xv (Tf (K:=K) (mi_v (n:=120) rfl O (by lia)).q) (mi_v (n:=120) rfl O (by lia)) (by decide)) QT))) (by decide) H5 (Za _) _ λax vs ap lv hv=>⟨by rw[lv];decide,λq nq=>?_⟩
 have ad:=Z9 (o:=.lst vs) nq;have ai:(upd ax q (.lst vs)) q=some (.lst vs):=Z2;generalize upd ax q (.lst vs)=be at ad ai;have aw:=s5.trans (ap.trans ad);have aq:=(ap.trans ad) _ _ O;refine⟨q,rfl,⟨_,Z8 ai⟩,ZX (K:=K) (a:=q) (xs:=vs) (λi σ ac=>Same be ac/\∃v5,σ=[some (.int c),some (.ref a),some (.int one),some (.ref r),some (.ref D),v5]) ⟨Za _,none,rfl⟩ (λi σ ac _ qy=>by obtain⟨Z,_⟩:=qy;exact Z8 (Z _ _ ai)) ?_ ?_⟩
 .rintro i y σ ac hi ⟨Z,v5,rfl⟩;obtain⟨x,xs,rfl,hx,hl⟩:=hv y (yM hi);have hx:=ad _ _ hx;exact⟨_,rfl,_,rfl,_,rfl,_,rfl,D,_,_,_,rfl,rfl,Z8 (Z _ _ aq),ZM c0,_,rfl,c,one,_,a,x,ss,xs,rfl,ha.same (aw.trans Z),by lia,al,Z _ _ hx,hl,co,ct,λbh bd=>⟨_,rfl,iteF ⟨Z.trans bd,_,rfl⟩⟩⟩
 .rintro σ ac ⟨Z,v5,rfl⟩;exact k _ (aw.trans Z)
def X9:Sp:=λvs H Q _=>∃(c one bu:Int),vs=[.int c,.int one,.int bu]/\cnt c one=true/\cnt c bu=true/\Q .non H
theorem Lu:Zd Qi Qi (defScope T5):=fs7
theorem Ru(D:Jh K mg f fd)(O:Y5 K mg fc dc)(Z:Yp K mg fw dw)(G:G1 K mg):FnOk P w K mg base CX0 3 f fd Qi X9:=by
 have V:FnOk P w K mg base CX0 2 fc dc _ spCounted:=JS O Z G;refine D.fn.okA Lu λ_ _ _ _ H vs Q _ W h=>?_;obtain⟨c,one,bu,rfl,h1,h2,k⟩:=h;refine⟨_,Z4 (Zw (Zy (Zq (pcD O V W (Z0 (pv 0) (Z0 (pv 1) Z3))))) Up Zh)
  (Z7 (Zw (Zy (Zq (pcD O V W (Z0 (pv 0) (Z0 (pv 2) Z3))))) Up Zh)),?_⟩
 refine⟨_,rfl,_,rfl,c,one,rfl,_,rfl,?_⟩;rw[h1];refine iteF ?_;refine⟨_,rfl,_,rfl,c,bu,rfl,_,rfl,?_⟩;rw[h2];exact iteF k
def Wj(Pt CB cF cR:Ab):Sp:=λvs H Q _=>∃(a:Ab) (ss:List Say) (c:Nat) (one bu:Int),vs=[.int c,.ref a,.int one,.int bu]/\1<=c/\c<=120/\SaysAt H a ss/\ss.length<64/\ss.all (inside c)=true/\cnt c one=true/\cnt c bu=true/\YG H Pt QL /\
 (∀(b:Bool) (H':Hp) (x l1 l2:Ab) (xs ys:List Int),SameN H H'->YG H' Pt QL->AnsW H' x cF cR b l1 l2 xs ys->(b=false->xs.length<=900)->Q (.ref x) H')/\∀ns,V3 ss ns->False
theorem Um:Zd ["count","sayings","one","other","order","sums","leading","walk"] UY (defScope Wr):=fs7
theorem TN{x:Ab}(O:H x=none)(Z:H dx=none)(e:H' x=some (.ins C dx [(f1,.ref q1),(f2,.ref q2)]))(e1:H' q1=some (.lst (xs.map V.int)))(e2:H' q2=some (.lst (ys.map V.int)))(n:q1≠q2)(h1:(upd (upd H dx (.own x)) x (.ins C dx [])) q1=none)(h2:(upd (upd H dx (.own x)) x (.ins C dx [])) q2=none)(W:∀G o,G≠x->(upd (upd H dx (.own x)) x (.ins C dx [])) G=some o->H' G=some o):Same H H'/\H q1=none/\H q2=none/\x≠q1/\x≠q2/\AnsTwo H' x C f1 f2 q1 q2 xs ys:=by
 have s:Same H (upd (upd H dx (.own x)) x (.ins C dx [])):=λb o e=>by rw[Z5 (Z1 e O),Z5 (Z1 e Z)];exact e
 refine⟨λG o q=>W G o (Z1 q O) (s _ _ q),s.free h1,s.free h2,λz=>?_,λz=>?_,⟨dx,e⟩,e1,e2,n⟩
 .rw[<-z,Z2] at h1;cases h1
 .rw[<-z,Z2] at h2;cases h2
theorem P4{x q:Ab}{f:Str}(hx:H x=none)(W:H dx=none)(O:(upd (upd H dx (.own x)) x (.ins C dx [])) q=none):
  Same H (upd (upd (upd (upd H dx (.own x)) x (.ins C dx [])) q (.lst (xs.map V.int))) x (.ins C dx [(f,.ref q)]))/\H q=none/\x≠q/\AnsAt (upd (upd (upd (upd H dx (.own x)) x (.ins C dx [])) q (.lst (xs.map V.int))) x (.ins C dx [(f,.ref q)])) x C q f xs:=by
 have Z:Same H (upd (upd H dx (.own x)) x (.ins C dx [])):=λb o e=>by rw[Z5 (Z1 e hx),Z5 (Z1 e W)];exact e
 have G:H q=none:=Z.free O;have xq:x≠q:=λz=>by subst z;rw[Z2] at O;cases O
 refine⟨λb o e=>?_,G,xq,⟨dx,Z2⟩,by rw[Z5 xq.symm,Z2]⟩
 rw[Z5 (Z1 e hx),Z5 (Z1 e G)];exact Z _ _ e
theorem PD{G:List (Key×V)}{S:Int->Option V}(d:DR G S):G.map (·.1)=(keysI G).map Sum.inl:=by
 unfold keysI;rw[xJ];exact uS λp O=>(d.mem O).1
theorem NO(D:Qs K mg f fd)(DC:Ys K mg fc dc)(GC:FnOk P w K mg base CX0 4 fc dc Ug VF)(DP:Jh K mg fp dp)(GP:FnOk P w K mg base CX0 4 fp dp Qi X9)(DL:Jf K mg fl dl)(GL:FnOk P w K mg base (CXr P w) 4 fl dl Qg (QN CB))(DO:Yr K mg fo do_)(GO:FnOk P w K mg base CX0 3 fo do_ UG (V8 Pt))(DD:JI K mg fd' dd)(DF:U7 K mg ff df)(DW:YW K mg fw dw)(WF:WX K mg C g0 e0 g1 e1 g2 e2 g3 e3 g4 e4)(TF:TwoK K mg "Follows" "chain" "heights" cF fF)(FF:Fun K "__init__" "Follows.__init__" Yn fF dF)(bF:Binds K dF XE [])(TR:OneK K mg "Free" "places" cR fR)(FR:Fun K "__init__" "Free.__init__" YT fR dR)(bR:Binds K dR Xz [])(G:G1 K mg):FnOk P w K mg base (CXr P w) 5 f fd UY (Wj Pt CB cF cR):=by
 have GD:FnOk P w K mg base CX0 1 fd' dd _ spLead:=Tc DD G;have GF:FnOk P w K mg base CX0 3 ff df _ (spFrom C):=Td DF WF;have GW:FnOk P w K mg base CX0 1 fw dw _ (spLW C):=Ou DW WF.k G;have GB:FnOk P w K mg base CX0 2 g3 e3 _ (spBetween C):=Vr WF.cb.fn WF.ah WF.k;have bj:FnOk P w K mg base CX0 1 fF dF _ (spTwo cF "chain" "heights"):=Qd FF TF G;have bl:FnOk P w K mg base CX0 1 fR dR _ (spOne cR "places"):=Wy FR TR G;refine D.fn.okB Um λ_ _ _ _ H vs Q _ hr h=>?_;obtain⟨a,ss,c,one,bu,rfl,b6,hc,ha,hz,W,co,ct,hL,k1,a9⟩:=h;have hu:=Jz hr;have au:Room 1 _:=hr.mono (by decide)
 have af:Room 2 _:=hr.mono (by decide)
 have ay:Room 3 _:=hr.mono (by decide)
 refine⟨_,Z4 (ZP (pcD DC GC hr (Z0 (pv 0) (Z0 (pv 1) Z3))))
  (Z4 (ZP (pcD DP GP hr (Z0 (pv 0) (Z0 (pv 2) (Z0 (pv 3) Z3)))))
  (Z4 (psl 4 Um.nd (pcD DO GO ay (Z0 (pv 1) Z3)))
  (Z4 (psl 5 Um.nd (UD GL hr (by rfl) DL.at_ DL.fn.kp DL.bd .nil MC (Z0 (pv 1) (Z0 (pv 4) Z3))))
  (Z4 (psl 6 Um.nd (pcD DD GD au (Z0 (pv 1) (Z0 (pv 4) (Z0 (pv 3) Z3)))))
  (Z4 (Zw (Jk (J2 hu (pv 2) (pv 6))) (Z7 (Ze (Ya TR.mK bl af (by rfl) TR.at_ bR .nil Zu (Z0 (ZC (Nb rfl) (by rfl) G.sorted boot_sorted (Z0 (pv 6) Z3)) Z3)))) Zh)
  (Z4 (psl 7 Um.nd (pcD DF GF ay (Z0 (pv 1) (Z0 (pv 4) (Z0 (pv 2) Z3)))))
  (Z7 (Ze (Ya TF.mK bj af (by rfl) TF.at_ bF .nil Zu (Z0 (Y9 (pv 7) WF.k.cl WF.cb.me GB af WF.cb.bd .nil Zu (Z0 (pv 2) (Z0 (pv 3) Z3))) (Z0 (pcD DW GW au (Z0 (pv 0) (Z0 (pv 5) (Z0 (pv 7) Z3)))) Z3))))))))))),?_⟩
 refine⟨_,rfl,_,rfl,c,a,ss,rfl,by lia,ha,W,?_⟩
 refine⟨_,rfl,_,rfl,_,rfl,c,one,bu,rfl,co,ct,?_⟩;refine⟨_,rfl,a,ss,c,rfl,ha,hz,by lia,W,hL,λH1 O ord s1 bh ce hO ac ak ba=>?_⟩
 refine⟨_,rfl,_,rfl,a,O,ss,c,ord,rfl,ha.sameN s1,hO,by lia,by lia,W,ac,ak,λH2 S0 bn al s2 b0 bi a7 ad ae _ _=>?_,λ_ _ _ _ _ _ _ _ ring=>(a9 _ ring).elim⟩
 have pt:=pot0 W ad ae;have n2:SameN H H2:=s1.trans s2.n;have a4:=bh.same s2;have ai:=ha.sameN n2;have am:=s2 _ _ hO;refine⟨_,rfl,_,rfl,_,rfl,a,O,ss,c,ord,bu,rfl,ai,am,ba,by lia,W,ct,ac,λH3 d kd Ef s3 ck hd rE ca b7 aq=>?_⟩
 have n3:SameN H H3:=n2.trans s3.n;have ar:=a4.same s3;have a3:=ai.same s3;have bb:=s3 _ _ am;have aw:=s3 _ _ bi;refine⟨_,rfl,_,rfl,d,_,rfl,.inl ⟨kd,Sum.inl one,.inl hd,rfl,rfl⟩,_,rfl,?_⟩;rw[rE.at_];cases hE:Ef one with
 | false =>
  rw[show(!(bS Ef one).isSome)=true from by unfold bS;rw[hE];rfl]
  refine iteT ?_;have bp:(keysI kd).length<128:=by
   have:=rE.len (c:=c) (Uw λp e=>(aq p e).1)
   unfold keysI;rw[zK];lia
  refine⟨_,rfl,d,kd,keysI kd,rfl,hd,PD rE,bp,λL ms pm bv=>?_⟩;have uL:=Z9 (o:=.lst (ms.map V.int)) bv;have eL:(upd H3 L (.lst (ms.map V.int))) L=some (.lst (ms.map V.int)):=Z2;generalize upd H3 L (.lst (ms.map V.int))=H4 at uL eL;intro x dx hx Z bc;have sx:Same H4 (upd (upd H4 dx (.own x)) x (.ins cR dx [])):=λb o e=>by rw[Z5 (Z1 e hx),Z5 (Z1 e Z)];exact e
  refine⟨x,dx,L,_,rfl,Z2,sx _ _ eL,λq bk=>⟨rfl,?_⟩⟩;obtain⟨sA,z1,nx,ag⟩:=P4 (f:="places") hx Z bk;have n4:SameN H H4:=n3.trans uL.n;exact k1 false _ x q q _ [] (n4.trans sA.n) (ar.same (uL.trans sA)) ag λ_=>by rw[pm.length_eq];lia
 | true =>
  rw[show(!(bS Ef one).isSome)=false from by unfold bS;rw[hE];rfl]
  refine iteF ?_;have r1:=(aq one hE).2;refine⟨_,rfl,_,rfl,_,rfl,a,O,ss,c,ord,one,λp=>(al p).getD 0,rfl,a3,bb,by lia,W,co,ac,ak,pt,λH4 p1 S1 L1 as az aa ap s4 b4 ax W1 g1=>?_⟩
  obtain⟨w1,be⟩:∃v,aa bu=some v:=by
   cases e:aa bu with
   | none=>exact xX e (Ge ac g1.tight r1 (by rw[g1.wk.st];simp))
   | some v=>exact⟨v,rfl⟩
  obtain⟨⟨a5,br⟩,cf,b9,_⟩:=id W1;obtain⟨m1,cc,bo⟩:=XO pt g1.wd g1.wk be;refine⟨_,rfl,p1,a5,_,rfl,br,WZ,_,rfl,_,rfl,p1,a,S1,L1,ss,as,az,aa,ap,one,bu,m1,rfl,W1,a3.same s4,g1.wd.j,bo,by lia,λH5 c1 cn s5 bw cm b3 av=>?_⟩
  have a8:S0≠S1:=Z1 aw ax;refine⟨_,rfl,_,rfl,_,rfl,c,p1,a,S0,S1,L1,bn,as,az,al,aa,ap,one,rfl,by lia,(s4.trans s5) _ _ aw,a7,W1.same s5,a8,g1.wk.st,g1.wd.rg,λH6 c2 li s6 bz ao cg=>?_⟩
  intro x dx hx Z bc;have bf:(upd (upd H6 dx (.own x)) x (.ins cF dx [])) x=some (.ins cF dx []):=Z2;have sx:Same H6 (upd (upd H6 dx (.own x)) x (.ins cF dx [])):=λb o e=>by rw[Z5 (Z1 e hx),Z5 (Z1 e Z)];exact e
  refine⟨x,dx,c1,c2,_,_,rfl,bf,sx _ _ (s6 _ _ av),sx _ _ ao,λH' q1 q2 h1 h2 bq a6 bg bt kp=>⟨rfl,?_⟩⟩;obtain⟨sA,z1,z2,ci,b5,ag⟩:=TN hx Z a6 bg bt bq h1 h2 kp;have aj:Same H3 H6:=(s4.trans s5).trans s6;have n6:SameN H H6:=n3.trans aj.n;exact k1 true H' x q1 q2 _ _ (n6.trans sA.n) (ar.same (aj.trans sA)) ag (λz=>by cases z)
def Dz(Pt CB cF cL:Ab):Sp:=λvs H Q _=>∃(a:Ab) (ss:List Say) (c:Nat) (one bu:Int),vs=[.int c,.ref a,.int one,.int bu]/\1<=c/\c<=400/\SaysAt H a ss/\ss.length<64/\ss.all (inside c)=true/\cnt c one=true/\cnt c bu=true/\YG H Pt QL /\
 (∀(b:Bool) (H':Hp) (x l1 l2:Ab) (xs ys:List Int),SameN H H'->YG H' Pt QL->AnsTwo H' x (fixC cF cL b) (fx1 b) (fx2 b) l1 l2 xs ys->(b=true->xs.length<=900/\ys.length<=900)->Q (.ref x) H')/\∀ns,V3 ss ns->False
theorem U2:Zd ["count","sayings","one","other","order","sums","pair","leading","ground","there","back"] UY (defScope DZ):=fs7
theorem X6{x:Ab}{b:Bool}(O:H x=none)(Z:H dx=none)(e:H' x=some (.ins (fixC cF cL b) dx [(fx1 b,.ref q1),(fx2 b,.ref q2)]))(e1:H' q1=some (.lst (xs.map V.int)))(e2:H' q2=some (.lst (ys.map V.int)))(n:q1≠q2)(h1:(upd (upd H dx (.own x)) x (.ins (fixC cF cL b) dx [])) q1=none)(h2:(upd (upd H dx (.own x)) x (.ins (fixC cF cL b) dx [])) q2=none)(W:∀G o,G≠x->(upd (upd H dx (.own x)) x (.ins (fixC cF cL b) dx [])) G=some o->H' G=some o):Same H H'/\H q1=none/\H q2=none/\x≠q1/\x≠q2/\AnsTwo H' x (fixC cF cL b) (fx1 b) (fx2 b) q1 q2 xs ys:=by
 have s:Same H (upd (upd H dx (.own x)) x (.ins (fixC cF cL b) dx [])):=λb o e=>by rw[Z5 (Z1 e O),Z5 (Z1 e Z)];exact e
 refine⟨λG o q=>W G o (Z1 q O) (s _ _ q),s.free h1,s.free h2,λz=>?_,λz=>?_,⟨dx,e⟩,e1,e2,n⟩
 .rw[<-z,Z2] at h1;cases h1
 .rw[<-z,Z2] at h2;cases h2
theorem Pd{fv:Ab}(D:M4 K mg f fd)(DC:Ys K mg fc dc)(GC:FnOk P w K mg base CX0 4 fc dc Ug VF)(DP:Jh K mg fp dp)(GP:FnOk P w K mg base CX0 4 fp dp Qi X9)(DL:Jf K mg fl dl)(GL:FnOk P w K mg base (CXr P w) 4 fl dl Qg (QN CB))(DV:QZ K mg fv dv)(DO:Yr K mg fo do_)(GO:FnOk P w K mg base CX0 3 fo do_ UG (V8 Pt))(DD:JI K mg fd' dd)(DM:VA K mg fm dm)(DF:U7 K mg ff df)(DW:YW K mg fw dw)(WF:WX K mg C g0 e0 g1 e1 g2 e2 g3 e3 g4 e4)(TF:TwoK K mg "Fixed" "there" "back" cF fF)(FF:Fun K "__init__" "Fixed.__init__" YK fF dF)(bF:Binds K dF XB [])(TL:TwoK K mg "Loose" "first" "second" cL fL)(FL:Fun K "__init__" "Loose.__init__" YJ fL dL)(bL:Binds K dL XD [])(G:G1 K mg):FnOk P w K mg base (CXr P w) 5 f fd UY (Dz Pt CB cF cL):=by
 have GV:FnOk P w K mg base CX0 1 fv dv _ spLevel:=MG DV G;have GD:FnOk P w K mg base CX0 1 fd' dd _ spLead:=Tc DD G;have GM:FnOk P w K mg base CX0 1 fm dm _ spMoved:=P6 DM G;have GF:FnOk P w K mg base CX0 3 ff df _ (spFrom C):=Td DF WF;have GW:FnOk P w K mg base CX0 1 fw dw _ (spLW C):=Ou DW WF.k G;have GB:FnOk P w K mg base CX0 2 g3 e3 _ (spBetween C):=Vr WF.cb.fn WF.ah WF.k;have dj:FnOk P w K mg base CX0 1 fF dF _ (spTwo cF "there" "back"):=Xt FF TF G;have bl:FnOk P w K mg base CX0 1 fL dL _ (spTwo cL "first" "second"):=Wx FL TL G;refine D.fn.okB U2 λ_ _ _ _ H vs Q _ hr h=>?_;obtain⟨a,ss,c,one,bu,rfl,d9,hc,ha,hz,ad,co,ct,hL,k1,c0⟩:=h;have hu:=Jz hr;have ar:Room 1 _:=hr.mono (by decide)
 have ao:Room 2 _:=hr.mono (by decide)
 have bg:Room 3 _:=hr.mono (by decide)
 refine⟨_,Z4 (ZP (pcD DC GC hr (Z0 (pv 0) (Z0 (pv 1) Z3))))
  (Z4 (ZP (pcD DP GP hr (Z0 (pv 0) (Z0 (pv 2) (Z0 (pv 3) Z3)))))
  (Z4 (psl 4 U2.nd (pcD DO GO bg (Z0 (pv 1) Z3)))
  (Z4 (psl 5 U2.nd (UD GL hr (by rfl) DL.at_ DL.fn.kp DL.bd .nil MC (Z0 (pv 1) (Z0 (pv 4) Z3))))
  (Z4 (Y4 PassesOwn.leaving rfl (OX (J9 (Z0 (J9 (Z0 (pv 2) (Z0 (pv 3) Z3))) (Z0 (J9 (Z0 (pv 3) (Z0 (pv 2) Z3))) Z3)))) (pgl 6 U2.nd)
   (Z4 (psl 7 U2.nd (pcD DD GD ar (Z0 (pv 1) (Z0 (pv 4) (Z0 (Zc ZF (pv 6) Z6) Z3)))))
   (Z7 (Zw (Jk (J2 hu (Zc ZF (pv 6) Z6) (pv 7)))
    (Z4 (psl 8 U2.nd (pcD DV GV ar (Z0 (pv 0) (Z0 (pv 5) Z3))))
    (Z7 (Ze (Ya TL.mK bl ao (by rfl) TL.at_ bL .nil Zu (Z0 (pv 8) (Z0 (pcD DM GM ar (Z0 (pv 8) (Z0 (pv 7) (Z0 Z6 Z3)))) Z3)))))) Zh))))
  (Z4 (psl 9 U2.nd (pcD DF GF bg (Z0 (pv 1) (Z0 (pv 4) (Z0 (pv 2) Z3)))))
  (Z4 (psl 10 U2.nd (pcD DF GF bg (Z0 (pv 1) (Z0 (pv 4) (Z0 (pv 3) Z3)))))
  (Z4 (Zw (Zl Js (Zg Yd (Yx hu (Zi (pv 9) rfl) (pv 3)) (Yx hu (Zi (pv 10) rfl) (pv 2))) Z6 (nomark _))
   (Z7 (Ze (Ya TF.mK dj ao (by rfl) TF.at_ bF .nil Zu (Z0 (Y9 (pv 9) WF.k.cl WF.cb.me GB ao WF.cb.bd .nil Zu (Z0 (pv 2) (Z0 (pv 3) Z3))) (Z0 (Y9 (pv 10) WF.k.cl WF.cb.me GB ao WF.cb.bd .nil Zu (Z0 (pv 3) (Z0 (pv 2) Z3))) Z3))))) Zh)
  (Z7 (Ze (Ya TL.mK bl ao (by rfl) TL.at_ bL .nil Zu (Z0 (pcD DW GW ar (Z0 (pv 0) (Z0 (pv 5) (Z0 (pv 9) Z3)))) (Z0 (pcD DW GW ar (Z0 (pv 0) (Z0 (pv 5) (Z0 (pv 10) Z3)))) Z3)))))))))))),?_⟩
 refine⟨_,rfl,_,rfl,c,a,ss,rfl,by lia,ha,ad,?_⟩
 refine⟨_,rfl,_,rfl,_,rfl,c,one,bu,rfl,co,ct,?_⟩;refine⟨_,rfl,a,ss,c,rfl,ha,hz,by lia,ad,hL,λH1 O ord s1 c8 ee hO af a9 c4=>?_⟩
 refine⟨_,rfl,_,rfl,a,O,ss,c,ord,rfl,ha.sameN s1,hO,by lia,hc,ad,af,a9,λH2 S0 bf ae s2 d5 de ba a5 bb _ _=>?_,λ_ _ _ _ _ _ _ _ ring=>(c0 _ ring).elim⟩
 have pt:=pot0 ad a5 bb;have n2:SameN H H2:=s1.trans s2.n;have cm:=c8.same s2;have cn:=ha.sameN n2;have cz:=s2 _ _ hO;refine⟨_,rfl,_,rfl,szL 2,λt1 di=>?_⟩;have u1:=Z9 (o:=.tup [V.int one,V.int bu]) di;refine⟨_,rfl,_,rfl,szL 2,λt2 cv=>?_⟩;have u2:=Z9 (o:=.tup [V.int bu,V.int one]) cv;refine⟨szL 2,λt3 dn=>?_⟩;have u3:=Z9 (o:=.tup [V.ref t1,V.ref t2]) dn;have e1:=u3 _ _ (u2 _ _ (show(upd H2 t1 (.tup [V.int one,V.int bu])) t1=_ from Z2))
 have e2:=u3 _ _ (show(upd (upd H2 t1 (.tup [V.int one,V.int bu])) t2 (.tup [V.int bu,V.int one])) t2=_ from Z2)
 have e3:(upd (upd (upd H2 t1 (.tup [V.int one,V.int bu])) t2 (.tup [V.int bu,V.int one])) t3 (.tup [V.ref t1,V.ref t2])) t3=some (.tup [V.ref t1,V.ref t2]):=Z2;have s5:=(u1.trans u2).trans u3;generalize upd (upd (upd H2 t1 (.tup [V.int one,V.int bu])) t2 (.tup [V.int bu,V.int one])) t3 (.tup [V.ref t1,V.ref t2])=H5 at s5 e1 e2 e3;have n5:SameN H H5:=n2.trans s5.n;have bz:=cm.same s5;have am:=cn.same s5;have bc:=s5 _ _ cz;have ay:=s5 _ _ de;refine⟨t3,rfl,⟨_,Zo e3⟩,O0 (K:=K) (a:=t3) (xs:=[V.ref t1,V.ref t2]) (λi σ H6=>∃v6 v7,σ=[some (.int c),some (.ref a),some (.int one),some (.int bu),some (.ref O),some (.ref S0),v6,v7,none,none,none]/\Same H5 H6/\(1<=i->Rch ss ord bu one)/\(2<=i->Rch ss ord one bu))
  ⟨none,none,rfl,Za _,λz=>xX z (by decide),λz=>xX z (by decide)⟩ (λi σ H6 _ ⟨_,_,_,s6,_⟩=>Zo (s6 _ _ e3)) ?_ ?_⟩
 .rintro i y σ H6 hi ⟨v6,v7,rfl,s6,r1,r2⟩;obtain⟨tx,p,q,rfl,c3,a4⟩:∃tx p q,y=V.ref tx/\H5 tx=some (.tup [.int p,.int q])/\((i=0/\p=one/\q=bu)∨(i=1/\p=bu/\q=one)):=by
   match i,hi with
   | 0,hi=>cases hi;exact⟨t1,one,bu,rfl,e1,.inl ⟨rfl,rfl,rfl⟩⟩
   | 1,hi=>cases hi;exact⟨t2,bu,one,rfl,e2,.inr ⟨rfl,rfl,rfl⟩⟩
   | n+2,hi=>simp at hi
  have cq:cnt c q=true:=by rcases a4 with ⟨_,_,rfl⟩ | ⟨_,_,rfl⟩ <;> assumption
  have cp:cnt c p=true:=by rcases a4 with ⟨_,rfl,_⟩ | ⟨_,rfl,_⟩ <;> assumption
  have bk:=s6 _ _ c3;refine⟨_,rfl,_,rfl,_,rfl,tx,_,_,_,rfl,rfl,Zo bk,rfl,a,O,ss,c,ord,q,rfl,am.same s6,s6 _ _ bc,c4,hc,ad,cq,af,λH7 d kd Ef s7 eh hd rE ec ea c6=>?_⟩;have ac:=s6.trans s7;refine⟨_,rfl,tx,_,_,_,rfl,rfl,Zo (s7 _ _ bk),rfl,_,rfl,d,_,rfl,.inl ⟨kd,Sum.inl p,.inl hd,rfl,rfl⟩,_,rfl,?_⟩;rw[rE.at_];cases hE:Ef p with
  | true =>
   rw[show(!(bS Ef p).isSome)=false from by unfold bS;rw[hE];rfl]
   refine iteF ?_;have bw:=(c6 p hE).2;refine⟨_,_,rfl,ac,λ_=>?_,λz=>?_⟩
   .rcases a4 with ⟨_,rfl,rfl⟩ | ⟨rfl,_,_⟩
    .exact bw
    .exact r1 (zO _)
   .rcases a4 with ⟨rfl,_,_⟩ | ⟨_,rfl,rfl⟩
    .exact xX z (by decide)
    .exact bw
  | false =>
   rw[show(!(bS Ef p).isSome)=true from by unfold bS;rw[hE];rfl]
   refine iteT ?_;refine⟨_,rfl,_,rfl,c,S0,bf,ae,rfl,by lia,ac _ _ ay,ba,λH8 g s8 ej hg=>?_⟩
   refine⟨_,rfl,_,rfl,_,rfl,g,d,lev ae c,kd,Ef,1,rfl,hg,by rw[Ti];lia,s8 _ _ hd,rE,λH9 m s9 ef hm=>?_⟩
   intro x dx hx Z b7;have ap:(upd (upd H9 dx (.own x)) x (.ins cL dx [])) x=some (.ins cL dx []):=Z2;have sx:Same H9 (upd (upd H9 dx (.own x)) x (.ins cL dx [])):=λb o e=>by rw[Z5 (Z1 e hx),Z5 (Z1 e Z)];exact e
   refine⟨x,dx,g,m,_,_,rfl,ap,sx _ _ (s9 _ _ hg),sx _ _ hm,λH' q1 q2 h1 h2 au aj aq aw kp=>⟨rfl,?_⟩⟩;obtain⟨sA,z1,z2,b0,bh,av⟩:=X6 (b:=false) (cF:=cF) (cL:=cL) hx Z aj aq aw au h1 h2 kp;have cf:Same H5 H9:=(ac.trans s8).trans s9;have n9:SameN H H9:=n5.trans cf.n;exact k1 false H' x q1 q2 _ _ (n9.trans sA.n) (bz.same (cf.trans sA)) av (λz=>by cases z)
 .rintro σ H6 ⟨v6,v7,rfl,s6,r1,r2⟩;have r1:=r1 (by show 1<=2;decide)
  have r2:=r2 (by show 2<=2;decide)
  refine⟨_,rfl,_,rfl,_,rfl,a,O,ss,c,ord,one,λp=>(ae p).getD 0,rfl,am.same s6,s6 _ _ bc,hc,ad,co,af,a9,pt,λH7 p1 S1 L1 be ci az bt s7 d6 ce W1 g1=>?_⟩;have ac:=s6.trans s7;refine⟨_,rfl,_,rfl,_,rfl,a,O,ss,c,ord,bu,λp=>(ae p).getD 0,rfl,am.same ac,ac _ _ bc,hc,ad,ct,af,a9,pt,λH8 p2 S2 L2 a6 b4 ax b5 s8 d8 cc W2 g2=>?_⟩;have ag:=ac.trans s8;have a7:=W1.same s8;obtain⟨w1,ca⟩:∃v,az bu=some v:=by
   cases e:az bu with
   | none=>exact xX e (Ge af g1.tight r1 (by rw[g1.wk.st];simp))
   | some v=>exact⟨v,rfl⟩
  obtain⟨w2,bq⟩:∃v,ax one=some v:=by
   cases e:ax one with
   | none=>exact xX e (Ge af g2.tight r2 (by rw[g2.wk.st];simp))
   | some v=>exact⟨v,rfl⟩
  obtain⟨⟨bj,cg⟩,cw,cr,_⟩:=id a7;obtain⟨⟨cu,c7⟩,dg,c5,_⟩:=id W2;refine⟨_,rfl,p1,C,bj,_,_,rfl,cg,WF.k.cl,WF.k.n2,wfl2,_,rfl,S1,_,rfl,.inl ⟨be,Sum.inl bu,.inl cw,rfl,by rw[cr.at_,Yo ca]⟩,_,rfl,p2,C,cu,_,_,rfl,c7,WF.k.cl,WF.k.n2,wfl2,_,rfl,S2,_,rfl,.inl ⟨a6,Sum.inl one,.inl dg,rfl,by rw[c5.at_,Yo bq]⟩,_,_,rfl,rfl,rfl,_,rfl,?_⟩
  rw[Zp];have n8:SameN H H8:=n5.trans ag.n;have br:=bz.same ag;by_cases ai:w1+w2=0
  .rw[show(w1+w2==(0:Int))=true from xS.mpr ai]
   refine iteT ?_;obtain⟨m1,ed,du⟩:=XO pt g1.wd g1.wk ca;obtain⟨m2,eg,dq⟩:=XO pt g2.wd g2.wk bq;refine⟨_,rfl,p1,bj,_,rfl,cg,WZ,_,rfl,_,rfl,p1,a,S1,L1,ss,be,ci,az,bt,one,bu,m1,rfl,a7,am.same ag,g1.wd.j,du,by lia,λH9 c1 el s9 bi ei b6 as=>?_⟩
   have bp:=W2.same s9;obtain⟨⟨b9,bo⟩,_⟩:=id bp;refine⟨_,rfl,p2,b9,_,rfl,bo,WZ,_,rfl,_,rfl,p2,a,S2,L2,ss,a6,b4,ax,b5,bu,one,m2,rfl,bp,am.same (ag.trans s9),g2.wd.j,dq,by lia,λW c2 em al bn eb bv ak=>?_⟩
   intro x dx hx Z b7;have ap:(upd (upd W dx (.own x)) x (.ins cF dx [])) x=some (.ins cF dx []):=Z2;have sx:Same W (upd (upd W dx (.own x)) x (.ins cF dx [])):=λb o e=>by rw[Z5 (Z1 e hx),Z5 (Z1 e Z)];exact e
   refine⟨x,dx,c1,c2,_,_,rfl,ap,sx _ _ (al _ _ as),sx _ _ ak,λH' q1 q2 h1 h2 au aj aq aw kp=>⟨rfl,?_⟩⟩;obtain⟨sA,z1,z2,b0,bh,av⟩:=X6 (b:=true) (cF:=cF) (cL:=cL) hx Z aj aq aw au h1 h2 kp;have aa:Same H8 W:=s9.trans al;have a8:SameN H W:=n8.trans aa.n;have a3:=(J4 g1.wd.j _ _ _ b6).2.2;have b3:=(J4 g2.wd.j _ _ _ bv).2.2;exact k1 true H' x q1 q2 _ _ (a8.trans sA.n) (br.same (aa.trans sA)) av λ_=>⟨by rw[wM];lia,by rw[wM];lia⟩
  .rw[show(w1+w2==(0:Int))=false from by rw[xT];exact ai]
   refine iteF ?_;have ck:=ag _ _ ay;have cy:S0≠S1:=Z1 (s6 _ _ ay) ce;have dt:S0≠S2:=Z1 (ac _ _ ay) cc;refine⟨_,rfl,_,rfl,_,rfl,c,p1,a,S0,S1,L1,bf,be,ci,ae,az,bt,one,rfl,hc,ck,ba,a7,cy,g1.wk.st,g1.wd.rg,λH9 c1 ek s9 bi as d7=>?_⟩;refine⟨_,rfl,_,rfl,_,rfl,c,p2,a,S0,S2,L2,bf,a6,b4,ae,ax,b5,bu,rfl,hc,s9 _ _ ck,ba,W2.same s9,dt,g2.wk.st,g2.wd.rg,λW c2 en al bn ak dz=>?_⟩;intro x dx hx Z b7;have ap:(upd (upd W dx (.own x)) x (.ins cL dx [])) x=some (.ins cL dx []):=Z2;have sx:Same W (upd (upd W dx (.own x)) x (.ins cL dx [])):=λb o e=>by rw[Z5 (Z1 e hx),Z5 (Z1 e Z)];exact e
   refine⟨x,dx,c1,c2,_,_,rfl,ap,sx _ _ (al _ _ as),sx _ _ ak,λH' q1 q2 h1 h2 au aj aq aw kp=>⟨rfl,?_⟩⟩;obtain⟨sA,z1,z2,b0,bh,av⟩:=X6 (b:=false) (cF:=cF) (cL:=cL) hx Z aj aq aw au h1 h2 kp;have aa:Same H8 W:=s9.trans al;have a8:SameN H W:=n8.trans aa.n;exact k1 false H' x q1 q2 _ _ (a8.trans sA.n) (br.same (aa.trans sA)) av (λz=>by cases z)
def Dy(Pt:Ab):Sp:=λvs H Q _=>∃(a:Ab) (ss:List Say) (c:Nat) (one bu:Int),vs=[.int c,.ref a,.int one,.int bu]/\1<=c/\c<=120/\SaysAt H a ss/\ss.length<64/\ss.all (inside c)=true/\cnt c one=true/\cnt c bu=true/\(∀ns,V3 ss ns->False)/\YG H Pt QL /\
 ∀H',SameN H H'->YG H' Pt QL->Q (.bl true) H'
abbrev MD:List Str:=Po
theorem Nu:Zd ["_law_count","_law_sayings_here","_law_one","_law_other","_law_answer"] MD (defScope Yv):=fs7
theorem P9{fx av aw a5:Ab}{dx ak au az:Ad}(D:Def K mg "_law_told_right" Yv MD f fd)(DF:Qs K mg ff df)(GF:FnOk P w K mg base (CXr P w) 5 ff df UY (Wj Pt CB cF cR))(DX:M4 K mg fx dx)(GX:FnOk P w K mg base (CXr P w) 5 fx dx UY (Dz Pt CB cX cL))(DP:Def K mg "_law_places_right" Zz JE fp dp)(GP:FnOk P w K mg base CX0 7 fp dp JE V9)(DB:Def K mg "_law_both_right" Yc Xn fb db)(GB:FnOk P w K mg base CX0 7 fb db Xn G3)(R:Ke K mg cR av ak gR eR)(X':M3 K mg cX aw au gX eX)(L:Dt K mg cL a5 az gL eL)(N:AnsN K cF cR cX cL cH cG)(G:G1 K mg):FnOk P w K mg base CX0 8 f fd MD (Dy Pt):=by
 refine D.fn.okA Nu λ_ _ _ _ H vs Q _ hr h=>?_;obtain⟨a,ss,c,one,bu,rfl,aa,hc,ha,hz,O,co,ct,ae,hL,k⟩:=h;have af:Room 5 _:=hr.mono (by decide)
 refine⟨_,Z4 (Y4 PassesOwn.never rfl (Zr (Zn (Z0 (UD GF af (by rfl) DF.at_ DF.fn.kp DF.bd .nil Xm (Z0 (pv 0) (Z0 (pv 1) (Z0 (pv 2) (Z0 (pv 3) Z3))))) (Z0 (UD GF af (by rfl) DF.at_ DF.fn.kp DF.bd .nil Xm (Z0 (pv 0) (Z0 (pv 1) (Z0 (pv 3) (Z0 (pv 2) Z3))))) Z3)))) (pgl 4 Nu.nd)
   (Z7 (Zw (PW.pt (Q9 (Zq (pbI G (Z0 (pv 4) (Z0 (Xl (by rfl) R.o.at_) Z3)))) (Vb (Zy (Zq (pcD DP GP hr (Z0 (pv 0) (Z0 (pv 1) (Z0 (pv 2) (Z0 (pv 3) (Z0 (Zi (pv 4) rfl) Z3)))))))))))
    (Z7 (Ze ZI)) Zh)))
  (Z4 (psl 4 Nu.nd (UD GX af (by rfl) DX.at_ DX.fn.kp DX.bd .nil Xm (Z0 (pv 0) (Z0 (pv 1) (Z0 (pv 2) (Z0 (pv 3) Z3))))))
  (Z4 (Zw (Zq (pbI G (Z0 (pv 4) (Z0 (Xl (by rfl) L.o.at_) Z3)))) (Z7 (Ze ZI)) Zh)
  (Z7 (Ze (pcD DB GB hr (Z0 (pv 0) (Z0 (pv 1) (Z0 (pv 2) (Z0 (pv 3) (Z0 (Zi (pv 4) rfl) (Z0 (Zi (pv 4) rfl) Z3))))))))))),?_⟩
 refine⟨_,rfl,_,rfl,_,rfl,_,rfl,a,ss,c,one,bu,rfl,aa,hc,ha,hz,O,co,ct,hL,λb1 H1 x1 l1 a4 a3 ar n1 ay an1 ac=>?_,ae⟩;refine⟨_,rfl,_,rfl,_,rfl,_,rfl,a,ss,c,bu,one,rfl,aa,hc,ha.sameN n1,hz,O,ct,co,ay,λb2 H2 x2 l2 a8 aq am n2 ao ap ad=>?_,ae⟩;have a6:=n1.trans n2;have an1:=an1.sameN n2;refine⟨szL 2,λal a7=>?_⟩;have u3:=Z9 (o:=.lst [.ref x1,.ref x2]) a7;have e3:(upd H2 al (.lst [.ref x1,.ref x2])) al=some (.lst [.ref x1,.ref x2]):=Z2;generalize upd H2 al (.lst [.ref x1,.ref x2])=H3 at u3 e3;have n3:=a6.trans u3.n;have ax:=ao.same u3;have ag:=ha.sameN n3;have c9:∀(i:Nat) y,[V.ref x1,V.ref x2][i]?=some y->∃(b:Bool) (x l l':Ab) (xs ys:List Int),y = .ref x/\AnsW H3 x cF cR b l l' xs ys/\(b=false->xs.length<=900):=λi y e=>by
  match i,e with
  | 0,e=>cases e;exact⟨b1,x1,l1,a4,a3,ar,rfl,an1.same u3,ac⟩
  | 1,e=>cases e;exact⟨b2,x2,l2,a8,aq,am,rfl,ap.same u3,ad⟩
 refine⟨al,rfl,⟨_,Z8 e3⟩,ZX (K:=K) (a:=al) (xs:=[V.ref x1,V.ref x2]) (λi σ H4=>Same H3 H4/\∃v4,σ=[some (.int c),some (.ref a),some (.int one),some (.int bu),v4]) ⟨Za _,none,rfl⟩ (λi σ H4 _ qy=>by obtain⟨W,_⟩:=qy;exact Z8 (W _ _ e3)) ?_ ?_⟩
 .rintro i y σ H4 hi ⟨W,v4,rfl⟩;obtain⟨b,x,l,l',xs,ys,rfl,an,hl⟩:=c9 i y hi;have an:=an.same W;cases b with
  | true =>
   have an:AnsTwo H4 x cF "chain" "heights" l l' xs ys:=an;exact⟨_,rfl,_,_,_,_,_,rfl,an.ty N.iF,rfl,N.kFR,_,rfl,iteF ⟨W,_,rfl⟩⟩
  | false =>
   have an:AnsAt H4 x cR l "places" xs:=an;refine⟨_,rfl,_,_,_,_,_,rfl,an.ty N.iR,rfl,N.kRR,_,rfl,iteT ?_⟩;obtain⟨⟨Z,hx⟩,h1⟩:=an;exact⟨_,rfl,_,rfl,_,rfl,_,rfl,_,rfl,x,cR,Z,_,_,rfl,hx,R.o.cl,R.o.n,rfl,c,one,bu,a,l,ss,xs,rfl,ag.same W,by lia,O,h1,hl rfl,co,ct,λH5 s5=>⟨_,rfl,iteF ⟨W.trans s5,_,rfl⟩⟩⟩
 .rintro σ H4 ⟨W,v4,rfl⟩;have n4:=n3.trans W.n;have as:=ax.same W;refine⟨_,rfl,_,rfl,_,rfl,_,rfl,a,ss,c,one,bu,rfl,aa,by lia,ag.same W,hz,O,co,ct,as,λb H5 x l l' xs ys n5 ah an aj=>?_,ae⟩
  have ai:=n4.trans n5;cases b with
  | false =>
   have an:AnsTwo H5 x cL "first" "second" l l' xs ys:=an;exact⟨_,rfl,_,_,_,_,_,rfl,an.ty N.iL,rfl,N.kLL,_,rfl,iteT (k _ ai ah)⟩
  | true =>
   have an:AnsTwo H5 x cX "there" "back" l l' xs ys:=an;obtain⟨zx,zy⟩:=aj rfl;refine⟨_,rfl,_,_,_,_,_,rfl,an.ty N.iX,rfl,N.kXL,_,rfl,iteF ?_⟩;obtain⟨⟨Z,hx⟩,h1,h2,ne⟩:=an;exact⟨_,rfl,_,rfl,_,rfl,_,rfl,_,rfl,x,cX,Z,_,_,rfl,hx,X'.o.cl,X'.o.n2,rfl,_,rfl,x,cX,Z,_,_,rfl,hx,X'.o.cl,X'.o.n1,rfl,c,one,bu,a,l',l,ss,ys,xs,rfl,(ag.same W).sameN n5,by lia,O,h2,h1,by lia,by lia,co,ct,λH6 s6=>k _ (ai.trans s6.n) (ah.same s6)⟩
structure WE(X:Cx)(e:Ah)(t:TE):Prop where
 h:PE X e t
structure WA(X:Cx)(es:List Ah)(t:TA):Prop where
 h:PA X es t
structure WS(X:Cx)(s:Ai)(t:TS):Prop where
 h:PS X s t
structure WSs(X:Cx)(s:List Ai)(t:TS):Prop where
 h:PSs X s t
section
variable {X:Cx}{a b e:Ah}{es xs:List Ah}{ta tb te:TE}{t:TA}{pos:Pos}{st:Ai}{rest:List Ai}{ts us:TS}
theorem ZR{i j}:WE X (.Constant (.int i) j pos) (tC (.int i)):=⟨Z6⟩
theorem wv(i:Nat)(O:X.N[i]?=some x:=by rfl)(V:Vis X.env.scope x:=by first | exact Or.inl rfl | exact Or.inr (Or.inl rfl) | exact Or.inr (Or.inr rfl))(W:(x==("__debug__":Str))=false:=by decide)(G:(x==("__classdict__":Str))=false:=by decide):WE X (.Name x pos) (tVar i):=⟨LQ O V W G⟩
theorem Of{G:Operator}{r:R2}(O:OpR X (Al G) r)(W:WE X a ta)(V:WE X b tb):WE X (.BinOp a G b pos) (tOp r ta tb):=⟨Zg O W.h V.h⟩
theorem En{G:UnaryOp}{r:V->Hp->VK->Prop}(W:UnR X (unaryOp G) r)(O:WE X a ta):WE X (.UnaryOp G a pos) (tUn r ta):=⟨Mw W O.h⟩
theorem Ju(h:WA X es t):WE X (.List es pos) (tLst t):=⟨Zn h.h⟩
theorem RT{x1}(h:WA X es t):WE X (.Tuple es x1 pos) (tTup t):=⟨J9 h.h⟩
theorem ZG:WA X [] tNil:=⟨Z3⟩
theorem wa_C{c}{j}(O:WE X (.Constant c j pos) te)(G:WA X es t):WA X (.Constant c j pos::es) (Zs te t):=⟨Z0 O.h G.h⟩
theorem wa_L(O:WE X (.List xs pos) te)(G:WA X es t):WA X (.List xs pos::es) (Zs te t):=⟨Z0 O.h G.h⟩
theorem wa_T{j}(O:WE X (.Tuple xs j pos) te)(G:WA X es t):WA X (.Tuple xs j pos::es) (Zs te t):=⟨Z0 O.h G.h⟩
theorem wa_U{op}(O:WE X (.UnaryOp op a pos) te)(G:WA X es t):WA X (.UnaryOp op a pos::es) (Zs te t):=⟨Z0 O.h G.h⟩
theorem wa_N(O:WE X (.Name x pos) te)(G:WA X es t):WA X (.Name x pos::es) (Zs te t):=⟨Z0 O.h G.h⟩
theorem wa_K{kw}(O:WE X (.Call a xs kw pos) te)(G:WA X es t):WA X (.Call a xs kw pos::es) (Zs te t):=⟨Z0 O.h G.h⟩
theorem X1(G:X.N.Nodup)(hi:X.N[i]?=some x)(V:Loc X.env.scope x)(O:WE X e te)(hs:swapsWith e (some (.Name x pos')) pos.line X.env=pure false:=by rfl)(W:X.fn x=true∨X.env.scope.names.lookup x=some .local:=by first | exact .inl rfl | exact .inr rfl | assumption):
  WS X (.Assign [.Name x pos'] e pos) (tAsg te (V0 i)):=⟨Qa G hi V O.h hs W⟩
theorem OD{j:Nat}{y:Str}{O py V:Pos}{kt k2 pt2}(hN:X.N.Nodup)(hi:X.N[i]?=some x)(Z:X.N[j]?=some y)(G:i≠j)(hx:X.env.scope.names.lookup x=some .local)(hy:X.env.scope.names.lookup y=some .local)(ha:WA X [a,b] t)(W:swappedStores [.Tuple [.Name x O,.Name y py] kt V] (.Tuple [a,b] k2 pt2) X.env=pure (some [x,y]))(hs:swapsWithSole [.Tuple [.Name x O,.Name y py] kt V] (.Tuple [a,b] k2 pt2) pos.line X.env=pure false:=by rfl):
  WS X (.Assign [.Tuple [.Name x O,.Name y py] kt V] (.Tuple [a,b] k2 pt2) pos) (tPar i j t):=⟨Vp rfl hN hi Z G hx hy ha.h W hs⟩
theorem OC{G:List Ai}(h:PSs X G ts):WSs X G ts:=⟨h⟩
theorem Uj(h1:WS X st ts)(h2:WSs X rest us):WSs X (st::rest) (tSeq ts us):=⟨Z4 h1.h h2.h⟩
variable {CX:CXT}{k:Nat}{C f:Ab}{fd:Ad}{ps:List Str}{sp:Sp}{ds:List Aa}{dvs:List V}{E:XK}{x:Str}{p q cj:Pos}{m:Str}
theorem JB(M:Mk X.K C f)(F:FnOk X.prog X.w X.K X.mg X.base CX k f fd ps sp)(Z:Room (k+1) X.A)(hg:Gl X x)(hm:X.mg x=some (.ref C))(V:Binds X.K fd ps ds)(W:Vals dvs ds)(hx:Passes CX X E)(ha:WA X (.List xs q::es) t)(O:(x==("__debug__":Str))=false:=by decide)(G:(Ao pos (zG es X.env)).any (·.1)=false:=by rfl)(hcc:CX.calm=true->X.calm=true:=by first | exact λ_=>rfl | exact λz=>nomatch z):
  WE X (.Call (.Name x p) (.List xs q::es) [] pos) (Qv C sp dvs E t):=⟨Ya M F Z hg hm V W hx ha.h O rfl G hcc⟩
theorem JA{c j}{o:Ah}{pl:Sem Bool}(O:WE X o ta)(cl:Cls X.K C)(hm:Meth X.K C m f)(F:FnOk X.prog X.w X.K X.mg X.base CX k f fd ps sp)(hr:Room k X.A)(W:Binds X.K fd ps ds)(Z:Vals dvs ds)(V:Passes CX X E)(ha:WA X (.Constant c j q::es) t)(G:(Ao pos (zG es X.env)).any (·.1)=false:=by rfl)(ht:eval (.Call (.Attribute o m cj) (.Constant c j q::es) [] pos) X.env=(do
 let ov <- eval o X.env
 standAt cj.atName
 let (f,first) <- holding [ov] (getMethod ov m pl)
 callWith pos f first (Ao pos (zG (.Constant c j q::es) X.env)) (An pos (Am [] X.env))):=by rfl)(hcc:CX.calm=true->X.calm=true:=by first | exact λ_=>rfl | exact λz=>nomatch z):
  WE X (.Call (.Attribute o m cj) (.Constant c j q::es) [] pos) (VE C m sp dvs E ta t):=⟨Y9 O.h cl hm F hr W Z V ha.h rfl G ht hcc⟩
end
theorem okW{k:Nat}(F:Fun K x qual st f fd)(S:Zd N ps (defScope st))(W:∀vs H Q E,sp vs H Q E->vs.length=ps.length)(G:∀(O:Aa) (A:Ag) (outer:List Env) (s:Ac) (H:Hp) (vs:List V) (Q:VK) (E:XK),Room k (A.deeper (envOfC qual (defScope st) s.heap.objs.size f O))->sp vs H Q E ->
 ∃t,WSs (cxOf CX0 P w K mg base N qual (defScope st) f O A outer s H E).nox (ZB st) t/\t { nx:=λ_ H'=>Q .non H',rt:=Q } (start N vs) H):FnOk P w K mg base CX0 (k+1) f fd ps sp :=
 F.ok S W λO A outer s H vs Q E Z h=>by
  obtain⟨t,h,q⟩:=G O A outer s H vs Q E Z h;exact⟨t,h.h,q⟩
def Ld:Sp:=λvs H Q _=>vs=[]/\∀H',Same H H'->Q (.bl true) H'
abbrev nFew:List Str:=["_law_way","_law_rings","_law_just","_law_bad","_law_good"]
theorem Xe:Zd nFew [] (defScope Y6):=fs7
section
variable {H0:Hp}{σ:L2.St}{te te1 te2:TE}{ta:TA}{E E':XK}{C:Ab}{b:Bool}{bs:List Bool}{c n x y at_ one bu:Int}{xs ys:List Int}{s1 s2:Say}{ss:List Say}
def ML (te:TE)(σ:L2.St)(xs:List Int):Prop:=∀(H:Hp) (Q:VK),(∀p,H p=none->Q (.ref p) (upd H p (.lst (xs.map V.int))))->te σ H Q
def MT (te:TE)(σ:L2.St)(s:Say):Prop:=∀(H:Hp) (Q:VK),(∀p,H p=none->Q (.ref p) (upd H p (Ul s)))->te σ H Q
def MS (H0:Hp)(te:TE)(σ:L2.St)(ss:List Say):Prop:=∀H,Same H0 H->∀Q:VK,(∀H' a,Same H H'->SaysAt H' a ss->Q (.ref a) H')->te σ H Q
def MB (H0:Hp)(te:TE)(σ:L2.St)(b:Bool):Prop:=∀H,Same H0 H->∀Q:VK,(∀H',Same H H'->Q (.bl b) H')->te σ H Q
def MA (H0:Hp)(ta:TA)(σ:L2.St)(bs:List Bool):Prop:=∀H,Same H0 H->∀Q:List V->Hp->Prop,(∀H',Same H H'->Q (bs.map V.bl) H')->ta σ H Q
theorem ml1:ML (tLst (Zs (tC (.int x)) tNil)) σ [x]:=λ_ _ k=>⟨szL 1,k⟩
theorem ml2:ML (tLst (Zs (tC (.int x)) (Zs (tC (.int y)) tNil))) σ [x,y]:=λ_ _ k=>⟨szL 2,k⟩
theorem mt :MT (tTup (Zs (tC (.int x)) (Zs (tC (.int y)) (Zs (tC (.int n)) tNil)))) σ (x,y,n):=λ_ _ k=>⟨szL 3,k⟩
theorem mtn :MT (tTup (Zs (tC (.int x)) (Zs (tC (.int y)) (Zs (tUn (rU λi=>.int (-i)) (tC (.int n))) tNil)))) σ (x,y,-n):=λ_ _ k=>⟨n,rfl,szL 3,k⟩
theorem sl0 :Yy H [] []:=⟨rfl,λi p s a _=>by simp at a⟩
theorem ms1(h:MT te σ s1):MS H0 (tLst (Zs te tNil)) σ [s1]:=λH _ Q k=>h H _ λp O=>⟨szL 1,λl G =>
 k _ l ((Z9 O).trans (Z9 G)) ⟨[p],Z2,(sl0.snoc (show(upd H p (Ul s1)) p=some (Ul s1) from Z2)).same (Z9 G)⟩⟩
theorem ms2(h:MT te1 σ s1)(h2:MT te2 σ s2):MS H0 (tLst (Zs te1 (Zs te2 tNil))) σ [s1,s2]:=λH _ Q k=>h H _ λp V=>h2 _ _ λp2 G=>⟨szL 2,λl O =>
 k _ l (((Z9 V).trans (Z9 G)).trans (Z9 O)) ⟨[p,p2],Z2,((((sl0.snoc (show(upd H p (Ul s1)) p=some (Ul s1) from Z2)).same (Z9 G)).snoc (show(upd (upd H p (Ul s1)) p2 (Ul s2)) p2=some (Ul s2) from Z2)).same (Z9 O))⟩⟩
theorem ms_v(e:σ[i]?=some (some (.ref a)))(h:SaysAt H0 a ss):MS H0 (tVar i) σ ss:=λH s Q k=>⟨_,e,k H a (Za _) (h.same s)⟩
theorem Gr:MA H0 tNil σ []:=λH _ Q k=>k H (Za _)
theorem JG(h:MB H0 te σ b)(k:MA H0 ta σ bs):MA H0 (Zs te ta) σ (b::bs):=λH s Q q=>h H s _ λH1 s1=>k H1 (s.trans s1) _ λH2 s2=>q H2 (s1.trans s2)
variable {U:TS}{D:Ends}{H:Hp}{i j:Nat}
theorem Km{G:List Say}(h1:MS H te1 σ ss)(h2:∀H1,MS H1 te2 σ G)(k:∀H2 a1 a2,Same H H2->SaysAt H2 a1 ss->SaysAt H2 a2 G->U D ((σ.set i (some (.ref a1))).set j (some (.ref a2))) H2):tSeq (tPar i j (Zs te1 (Zs te2 tNil))) U D σ H :=
 h1 H (Za _) _ λH1 a1 s1 V=>h2 H1 H1 (Za _) _ λH2 a2 s2 O=>⟨_,_,rfl,k H2 a1 a2 (s1.trans s2) (V.same s2) O⟩
theorem OU(h:MS H te σ ss)(k:∀H1 a,Same H H1->SaysAt H1 a ss->U D (σ.set i (some (.ref a))) H1):tSeq (tAsg te (V0 i)) U D σ H:=h H (Za _) _ λH1 a s1 G=>k H1 a s1 G
theorem Lj(h:MA H ta σ bs)(k:∀H1 l,Same H H1->H1 l=some (.lst (bs.map V.bl))->U D (σ.set i (some (.ref l))) H1)(z:bs.length<=1000:=by decide):tSeq (tAsg (tLst ta) (V0 i)) U D σ H :=
 h H (Za _) _ λH1 s1=>⟨by rw[zK];exact yW (Zb z),λl G=>k _ l (s1.trans (Z9 G)) Z2⟩
theorem DJ{G:Ab}{as:List Bool}(e:σ[i]?=some (some (.ref G)))(h0:H G=some (.lst (as.map V.bl)))(h:MA H ta σ bs)(k:∀H1 l,Same H H1->H1 l=some (.lst ((as++bs).map V.bl))->U D (σ.set i (some (.ref l))) H1)(z:as.length+bs.length<=1000:=by decide):tSeq (tAsg (tOp rCat (tVar i) (tLst ta)) (V0 i)) U D σ H :=
 ⟨_,e,h H (Za _) _ λH1 s1=>⟨by rw[zK];exact yW (Zb (by lia)),λl W=>⟨G,l,_,_,rfl,rfl,Z9 W _ _ (s1 _ _ h0),Z2,by rw[zK,zK];exact yW (Zb z),λl2 O=>k _ l2 ((s1.trans (Z9 W)).trans (Z9 O)) (by rw[Z2,zZ])⟩⟩⟩
theorem Lg(hl:ML te σ xs)(hf:∀q:V,([(f1,q)]:List (Str×V)).lookup ("shows":Str)=none)(hs:∀H1 a q,Same H0 H1->AnsAt H1 a C q f1 xs->∀Q':VK,(∀H',Same H1 H'->Q' (.bl b) H')->ta σ H1 λvs H2=>sp (.ref a::(vs++[])) H2 Q' E):
  MB H0 (VE C "shows" sp [] E (Qv C (spOne C f1) [] E' (Zs te tNil)) ta) σ b:=λH s Q k=>hl H _ λp Z a dx W O _=>Qe Z2 W O λH1 q s1 _ an=>⟨rfl,by
  obtain⟨d,G⟩:=an.ex;have s2:=(Z9 Z).trans s1;exact⟨a,d,_,rfl,G,hf _,hs H1 a q (s.trans s2) an Q λH' s3=>k H' (s2.trans s3)⟩⟩
theorem Le(hl:ML te1 σ xs)(O:ML te2 σ ys)(hf:∀q r:V,([(f1,q),(f2,r)]:List (Str×V)).lookup ("shows":Str)=none)(hs:∀H1 a q r,Same H0 H1->AnsTwo H1 a C f1 f2 q r xs ys->∀Q':VK,(∀H',Same H1 H'->Q' (.bl b) H')->ta σ H1 λvs H2=>sp (.ref a::(vs++[])) H2 Q' E):
  MB H0 (VE C "shows" sp [] E (Qv C (spTwo C f1 f2) [] E' (Zs te1 (Zs te2 tNil))) ta) σ b:=λH s Q k=>hl H _ λp hp=>O _ _ λp2 G a dx hx Z _=>Gm (Z9 G _ _ Z2) Z2 hx Z λH1 q r s1 _ _ an=>⟨rfl,by
  obtain⟨d,W⟩:=an.ex;have s2:=((Z9 hp).trans (Z9 G)).trans s1;exact⟨a,d,_,rfl,W,hf _ _,hs H1 a q r (s.trans s2) an Q λH' s3=>k H' (s2.trans s3)⟩⟩
theorem G6(V:ML te1 σ xs)(hs:MS H0 te2 σ ss)(G:ss.length<=1000:=by decide)(W:xs.length<=1000:=by decide)(e:rDue ss xs=b:=by decide):
  MB H0 (VE C "shows" (spRShows C) [] E (Qv C (spOne C "chain") [] E' (Zs te1 tNil)) (Zs (tC (.int c)) (Zs te2 tNil))) σ b :=
 Lg V (λ_=>rfl) λH1 a q s1 an Q k=>hs H1 s1 _ λH2 l s2 sl=>⟨a,q,l,c,ss,xs,rfl,an.same s2,sl,G,W,λH' O=>e▸k H' (s2.trans O)⟩
theorem Oo(V:ML te1 σ xs)(hs:MS H0 te2 σ ss)(Z:ss.length<=400:=by decide)(G:xs.length<=1000:=by decide)(i:ss.all (inside c)=true:=by decide)(O:cnt ss.length at_=true:=by decide)(e:Wn false c ss at_ xs=b:=by decide):
  MB H0 (VE C "shows" (spShowN false C) [] E (Qv C (spOne C "chain") [] E' (Zs te1 tNil)) (Zs (tC (.int c)) (Zs te2 (Zs (tC (.int at_)) tNil)))) σ b :=
 Lg V (λ_=>rfl) λH1 a q s1 an Q k=>hs H1 s1 _ λH2 l s2 sl=>⟨a,q,l,c,at_,ss,xs,rfl,an.same s2,sl,Z,i,G,O,λH' W=>e▸k H' (s2.trans W)⟩
theorem Li(hl:ML te σ xs)(G:ML te1 σ ys)(hs:MS H0 te2 σ ss)(Z:ss.length<=1000:=by decide)(O:xs.length<=1000:=by decide)(V:ys.length<=1000:=by decide)(i:ss.all (inside c)=true:=by decide)(co:cnt c one=true:=by decide)(ct:cnt c bu=true:=by decide)(e:UO true c ss one bu xs ys=b:=by decide):
  MB H0 (VE C "shows" (spShow true C) [] E (Qv C (spTwo C "there" "back") [] E' (Zs te (Zs te1 tNil))) (Zs (tC (.int c)) (Zs te2 (Zs (tC (.int one)) (Zs (tC (.int bu)) tNil))))) σ b :=
 Le hl G (λ_ _=>rfl) λH1 a q r s1 an Q k=>hs H1 s1 _ λH2 l s2 sl=>⟨a,q,r,l,c,one,bu,ss,xs,ys,rfl,an.same s2,sl,Z,i,O,V,co,ct,λH' W=>e▸k H' (s2.trans W)⟩
theorem Lh(hl:ML te σ xs)(G:ML te1 σ ys)(hs:MS H0 te2 σ ss)(Z:ss.length<=1000:=by decide)(O:xs.length<=1000:=by decide)(V:ys.length<=1000:=by decide)(i:ss.all (inside c)=true:=by decide)(co:cnt c one=true:=by decide)(ct:cnt c bu=true:=by decide)(e:Wm true c ss one bu xs ys=b:=by decide):
  MB H0 (VE C "shows" (spShowW true C C) [] E (Qv C (spTwo C "chain" "heights") [] E' (Zs te (Zs te1 tNil))) (Zs (tC (.int c)) (Zs te2 (Zs (tC (.int one)) (Zs (tC (.int bu)) tNil))))) σ b :=
 Le hl G (λ_ _=>rfl) λH1 a q r s1 an Q k=>hs H1 s1 _ λH2 l s2 sl=>⟨a,q,r,l,c,one,bu,ss,xs,ys,rfl,an.same s2,sl,Z,i,O,V,co,ct,λH' W=>e▸k H' (s2.trans W)⟩
end
theorem N8{xs:List V}{g:TG}{σ0:L2.St}{D:Ab}(W:L2.St->Prop)(hD:H1 D=none)(hq:SqL K H1 a xs)(hn:xs.length<=1000)(s0:W σ0)(step:∀(x:V) (Z:L2.St) (Hc:Hp) (R:V->L2.St->Hp->Prop),x∈xs->Same H1 Hc->W Z->(∀G O,W G->Same Hc O->R (.bl true) G O)->g x Z Hc λG H2=>te G H2 λv O=>R v G O)(aa:∀Hc,Same H1 Hc->SqL K Hc D ((yN xs.length true).map V.bl)->Q (.ref D) Hc):QJ (Itl K a) g tYes te σ0 H1 D Q:=by
 refine Y0 (outs:=λ_=>some (.bl true)) W hD hq (Zb hn) s0 (λi x Z Hc ae No hx sm _ sg ad _=>?_) (λHc s e=>aa Hc s ?_)
 .exact step x Z Hc (λv σ H=>ae v σ H) (yM hx) sm sg λG O ac s4=>ad G O _ ac s4 rfl
 .rw[To] at e;exact Z8 e
section
variable {X:Cx}{pos q p1 p2 p3 p4:Pos}{i1 i2 i3 i4:Option Str}{x y n:Int}
theorem w1{j}:WE X (.List [.Constant (.int x) j p1] pos) (tLst (Zs (tC (.int x)) tNil)):=Ju (wa_C ZR ZG)
theorem w2{j j'}:WE X (.List [.Constant (.int x) j p1,.Constant (.int y) j' p2] pos) (tLst (Zs (tC (.int x)) (Zs (tC (.int y)) tNil))):=Ju (wa_C ZR (wa_C ZR ZG))
theorem w3{j j' j'' k}:WE X (.Tuple [.Constant (.int x) j p1,.Constant (.int y) j' p2,.Constant (.int n) j'' p3] k pos) (tTup (Zs (tC (.int x)) (Zs (tC (.int y)) (Zs (tC (.int n)) tNil)))):=RT (wa_C ZR (wa_C ZR (wa_C ZR ZG)))
theorem w4{j j' j'' k}:WE X (.Tuple [.Constant (.int x) j p1,.Constant (.int y) j' p2,.UnaryOp .USub (.Constant (.int n) j'' p3) p4] k pos) (tTup (Zs (tC (.int x)) (Zs (tC (.int y)) (Zs (tUn (rU λi=>.int (-i)) (tC (.int n))) tNil)))):=RT (wa_C ZR (wa_C ZR (wa_U (En X5 ZR) ZG)))
end
theorem KM{fX:Ab}{dX:Ad}(D:Def K mg "_law_few_right" Y6 [] f fd)(DY:YI K mg fy dy)(B:Subs P w K mg base fc fh fm fk fa fo dc dh dm dk da do_)(R:TC K mg cR fR dR gR eR)(F:XX K mg cF fF dF gF eF)(N:Qq K mg cN fN dN gN eN)(A:M3 K mg cX fX dX gX eX)(G:G1 K mg):FnOk P w K mg base CX0 7 f fd [] Ld:=by
 have GY:FnOk P w K mg base CX0 5 fy dy _ spLSays:=(UW DY G).mono (by decide)
 have ac:FnOk P w K mg base CX0 1 fR dR _ (spOne cR "chain"):=Xp R.i R.o G;have ag:FnOk P w K mg base CX0 1 fF dF _ (spTwo cF "chain" "heights"):=Qd F.i F.o G;have ah:FnOk P w K mg base CX0 1 fN dN _ (spOne cN "chain"):=Ww N.i N.o G;have ai:FnOk P w K mg base CX0 1 fX dX _ (spTwo cX "there" "back"):=Xt A.i A.o G;have GH:=B.gH.mono (show 3<=4 by decide)
 have GM:=B.gM.mono (show 1<=4 by decide)
 have aa:FnOk P w K mg base CX0 5 gR eR _ (spRShows cR):=(Wv R.s.fn R.o B.C (B.gC.mono (by decide)) B.H B.gH B.M (B.gM.mono (by decide)) G).mono (by decide)
 have af:FnOk P w K mg base CX0 5 gF eF _ (spShowW true cF cF):=Xs F.s.fn F.o B.H GH B.k B.gk B.A (B.gA.mono (by decide)) B.M GM
 have ad:FnOk P w K mg base CX0 5 gN eN _ (spShowN false cN):=Xq N.s.fn N.o B.H GH B.M GM;have ae:FnOk P w K mg base CX0 5 gX eX _ (spShow true cX):=Wz A.s.fn A.o B.H GH B.M GM;refine okW D.fn Xe (λvs H Q E h=>?_) (λbh A0 outer s H vs Q E hr h=>?_)
 .obtain⟨rfl,_⟩:=h;rfl
 .obtain⟨rfl,k⟩:=h;have O:Room 5 _:=hr.mono (by decide)
  have V:Room 2 _:=hr.mono (by decide)
  refine⟨_,Uj (OD (i:=0) (j:=1) Xe.nd rfl rfl (by decide) rfl rfl (wa_L (Ju (wa_T w3 (wa_T w4 ZG))) (wa_L (Ju (wa_T w3 (wa_T w4 ZG))) ZG)) rfl)
   (Uj (X1 (i:=2) Xe.nd rfl (Or.inl rfl) (Ju (wa_T w3 (wa_T w4 ZG))))
   (Uj (X1 (i:=3) Xe.nd rfl (Or.inl rfl) (Ju (wa_K (JA (JB R.o.mK ac V (by rfl) R.o.at_ R.b .nil Zu (wa_L w1 ZG)) R.o.cl R.s.me aa O R.s.bd .nil Zu (wa_C ZR (wa_L (Ju (wa_T w3 ZG)) ZG)))
    (wa_K (JA (JB R.o.mK ac V (by rfl) R.o.at_ R.b .nil Zu (wa_L w2 ZG)) R.o.cl R.s.me aa O R.s.bd .nil Zu (wa_C ZR (wa_N (wv 0) ZG)))
    (wa_K (JA (JB N.o.mK ah V (by rfl) N.o.at_ N.b .nil Zu (wa_L w1 ZG)) N.o.cl N.s.me ad O N.s.bd .nil Zu (wa_C ZR (wa_L (Ju (wa_T w3 ZG)) (wa_C ZR ZG)))) ZG)))))
   (Uj (X1 (i:=3) Xe.nd rfl (Or.inl rfl) (Of YN (wv 3) (Ju (wa_K (JA (JB A.o.mK ai V (by rfl) A.o.at_ A.b .nil Zu (wa_L w1 (wa_L w1 ZG))) A.o.cl A.s.me ae O A.s.bd .nil Zu (wa_C ZR (wa_N (wv 0) (wa_C ZR (wa_C ZR ZG)))))
    (wa_K (JA (JB F.o.mK ag V (by rfl) F.o.at_ F.b .nil Zu (wa_L w1 (wa_L w2 ZG))) F.o.cl F.s.me af O F.s.bd .nil Zu (wa_C ZR (wa_N (wv 1) (wa_C ZR (wa_C ZR ZG))))) ZG)))))
   (Uj (X1 (i:=4) Xe.nd rfl (Or.inl rfl) (Ju (wa_K (JA (JB R.o.mK ac V (by rfl) R.o.at_ R.b .nil Zu (wa_L w2 ZG)) R.o.cl R.s.me aa O R.s.bd .nil Zu (wa_C ZR (wa_N (wv 1) ZG)))
    (wa_K (JA (JB N.o.mK ah V (by rfl) N.o.at_ N.b .nil Zu (wa_L w1 ZG)) N.o.cl N.s.me ad O N.s.bd .nil Zu (wa_C ZR (wa_L (Ju (wa_T w3 (wa_T w3 ZG))) (wa_C ZR ZG)))) ZG))))
   (Uj (X1 (i:=4) Xe.nd rfl (Or.inl rfl) (Of YN (wv 4) (Ju (wa_K (JA (JB A.o.mK ai V (by rfl) A.o.at_ A.b .nil Zu (wa_L w1 (wa_L w1 ZG))) A.o.cl A.s.me ae O A.s.bd .nil Zu (wa_C ZR (wa_N (wv 2) (wa_C ZR (wa_C ZR ZG)))))
    (wa_K (JA (JB F.o.mK ag V (by rfl) F.o.at_ F.b .nil Zu (wa_L w1 (wa_L w2 ZG))) F.o.cl F.s.me af O F.s.bd .nil Zu (wa_C ZR (wa_N (wv 0) (wa_C ZR (wa_C ZR ZG))))) ZG)))))
   (OC (Z7 (Ze (Y1 (ZC (Jm rfl) (by rfl) G.all boot_all (Z0
     (ZT (XN:=nFew) (outer:=defScope Y6) (N:=["_law_said"]) (cap:=[none]) (by exact csc (.own .nil)) rfl (Zr (pv 4))
      (λ_ _ _ _ _ _=>pgl 0 (show(["_law_said"]:List Str).Nodup by decide +kernel)) (λ_ _ _ _ _ _=>ZO)
      (λ_ _ _ _ _ _=>pcD DY GY O (Z0 (pv 0) (Z0 ZI Z3)))) Z3))
    (Y8 (ZC (Jm rfl) (by rfl) G.all boot_all (Z0
     (ZT (XN:=nFew) (outer:=defScope Y6) (N:=["_law_said"]) (cap:=[none]) (by exact csc (.own .nil)) rfl (Zr (pv 3))
      (λ_ _ _ _ _ _=>pgl 0 (show(["_law_said"]:List Str).Nodup by decide +kernel)) (λ_ _ _ _ _ _=>ZO)
      (λ_ _ _ _ _ _=>pcD DY GY O (Z0 (pv 0) (Z0 ZI Z3)))) Z3)))))))))))),?_⟩
  refine Km (ms2 mt mtn) (λ_=>ms2 mt mtn) λH2 a1 a2 s2 W v2=>?_;refine OU (ms2 mt mtn) λH3 a3 s3 v3=>?_;have W:=W.same s3;have v2:=v2.same s3;have s3:=s2.trans s3;refine Lj (JG (b:=false) (G6 ml1 (ms1 mt)) (JG (b:=false) (G6 ml2 (ms_v rfl W)) (JG (b:=false) (Oo ml1 (ms1 mt)) Gr))) λH4 b4 s4 e4=>?_;have W:=W.same s4;have v2:=v2.same s4;have v3:=v3.same s4;have s4:=s3.trans s4;refine DJ rfl e4 (JG (b:=false) (Li ml1 ml1 (ms_v rfl W)) (JG (b:=false) (Lh ml1 ml2 (ms_v rfl v2)) Gr)) λH6 b6 s6 Z=>?_;have W:=W.same s6;have v2:=v2.same s6;have v3:=v3.same s6;have s6:=s4.trans s6;refine Lj (JG (b:=true) (G6 ml2 (ms_v rfl v2)) (JG (b:=true) (Oo ml1 (ms2 mt mt)) Gr)) λH7 b7 s7 e7=>?_;have W:=W.same s7;have v3:=v3.same s7;have Z:=s7 _ _ Z;have s7:=s6.trans s7;refine DJ rfl e7 (JG (b:=true) (Li ml1 ml1 (ms_v rfl v3)) (JG (b:=true) (Lh ml1 ml2 (ms_v rfl W)) Gr)) λH9 b9 s9 e9=>?_;have Z:=s9 _ _ Z;have s9:=s7.trans s9;refine⟨_,rfl,b9,rfl,⟨_,Z8 e9⟩,λD1 ak=>?_⟩;refine N8 (λσ=>∃v,σ=[v]) ak (Z8 e9) (by decide) ⟨none,rfl⟩ (λx σc Hc R hx sm hv kR=>?_) (λHa sa ea=>?_)
  .obtain⟨v,rfl⟩:=hv;obtain⟨b,hb,rfl⟩:=yK.mp hx
   have:b=true:=by revert hb;cases b <;> simp
   subst this;exact⟨_,rfl,true,true,rfl,kR _ _ ⟨_,rfl⟩ (Za _)⟩
  refine⟨D1,_,rfl,ea,_,rfl,?_⟩;rw[M0];refine iteT ?_;have Z:=sa _ _ Z;refine⟨_,rfl,b6,rfl,⟨_,Z8 Z⟩,λD2 aj=>?_⟩;refine N8 (λσ=>∃v,σ=[v]) aj (Z8 Z) (by decide) ⟨none,rfl⟩ (λx σc Hc R hx sm hv kR=>?_) (λHb sb eb=>?_)
  .obtain⟨v,rfl⟩:=hv;obtain⟨b,hb,rfl⟩:=yK.mp hx
   have:b=false:=by revert hb;cases b <;> simp
   subst this;exact⟨_,rfl,false,false,rfl,kR _ _ ⟨_,rfl⟩ (Za _)⟩
  refine⟨D2,_,rfl,eb,?_⟩;rw[M0];exact k _ ((s9.trans sa).trans sb)
def Mg(K:Frag)(Pt:Ab):Sp:=λvs H Q _=>∃(a:Ab) (ns:List Int),vs=[.ref a]/\SqL K H a (ns.map V.int)/\ns.length<=63/\YG H Pt QL/\∀H',Q (.bl true) H'
abbrev LN:List Str:=["_law_script","_law_count","_law_sayings_here","_law_found","_law_one","_law_walk_here","_law_other","_law_told","_law_ring_here","_law_chain","_law_bent_here","_law_more","_law_places","_law_others","_law_some"]
theorem Jx:Zd LN JU (defScope sLaw):=fs7
theorem ndC:(["_law_cell"]:List Str).Nodup:=by decide +kernel
theorem ndH:(["_law_height"]:List Str).Nodup:=by decide +kernel
theorem ndP:(["_law_place","_law_one"]:List Str).Nodup:=by decide +kernel
theorem Gx(h:ss.all (keeps hs)=true)(r:V3 ss ns):False:=LD (λp=>hs.getD p.toNat 0) (λs hs=>xU (yA.mp h s hs)) r
theorem E4{fg ft fe fG gG:Ab}{dg dt de dG eG:Ad}(D:Fun K "law" "law" sLaw f fd)(DY:Def K mg "_law_sayings" T1 JU fy dy)(GY:FnOk P w K mg base CX0 8 fy dy JU (Lc K))(DH:Qr K mg fh dh)(GH:FnOk P w K mg base CX0 8 fh dh Ug (On Pt cH cG))(DW:V4 K mg fw dw)(DB:V6 K mg fb db)(DC:Def K mg "_law_chains_right" Ye VO fc dc)(GC:FnOk P w K mg base CX0 8 fc dc VO Wg)(DG:Def K mg "_law_heights_right" Yb UV fg dg)(GG:FnOk P w K mg base CX0 8 fg dg UV X8)(DP:Def K mg "_law_places_right" Zz JE fp dp)(GP:FnOk P w K mg base CX0 8 fp dp JE V9)(bc:J1 K mg fr dr)(GR:FnOk P w K mg base CX0 8 fr dr Gu Mh)(DT:Def K mg "_law_told_right" Yv MD ft dt)(GT:FnOk P w K mg base CX0 8 ft dt MD (Dy Pt))(DO:Def K mg "_law_both_right" Yc Xn fo do_)(GO:FnOk P w K mg base CX0 8 fo do_ Xn G3)(DE:Def K mg "_law_few_right" Y6 [] fe de)(GE:FnOk P w K mg base CX0 8 fe de [] Ld)(AH:XW K mg cH fH dH gH eH)(AG:TC K mg cG fG dG gG eG)(N:AnsN K cF cR cX cL cH cG)(G:G1 K mg):FnOk P w K mg base CX0 9 f fd JU (Mg K Pt):=by
 have GW:FnOk P w K mg base CX0 8 fw dw _ (spLWalk K):=(P8 DW G).mono (by decide)
 have GB:FnOk P w K mg base CX0 8 fb db _ (spLBent K):=(Pc DB G).mono (by decide)
 refine D.okA Jx λ_ _ outer s H vs Q _ hr h=>?_;obtain⟨a,ns,rfl,O,hz,hL,k⟩:=h;refine⟨_,Z4 (Ub (pcD DY GY hr (Z0 (pv 0) Z3)) (Uc rfl (Zk (pgl 1 Jx.nd) (Zk (pgl 2 Jx.nd) Yw))))
  (Z4 (Ub (J9 (Z0 (pcD DH GH hr (Z0 (pv 1) (Z0 (pv 2) Z3))) (Z0 (Zg ZS (ZC (Vg rfl) (by rfl) G.sum boot_sum (Z0 (pv 0) Z3)) (pv 1)) Z3))) (Uc rfl (Zk (pgl 3 Jx.nd) (Zk (VN (i:=4) Jx.nd rfl (Or.inr rfl)) Yw))))
  (Z4 (Ub (pcD DW GW hr (Z0 (pv 2) (Z0 (pv 0) (Z0 (pv 4) Z3)))) (Uc rfl (Zk (pgl 5 Jx.nd) (Zk (pgl 6 Jx.nd) Yw))))
  (Z4 (psl 7 Jx.nd (Zg YN
    (ZT (XN:=LN) (outer:=defScope sLaw) (N:=["_law_cell"]) (cap:=[none]) (by exact csc (.own .nil)) rfl (Zr (Y7 Yj (pv 0) Yl (Yf (pv 1))))
     (λ_ _ _ _ _ _=>pgl 0 ndC) (λ_ _ _ _ _ _=>ZO) (λ_ _ _ _ _ _=>Zg ZS (Zg ZY (pv 0) Z6) Z6))
    (Zg P0 (Zn (Z0 Z6 Z3)) (ZC (WQ rfl) (by rfl) G.max boot_max (Z0 Z6 (Z0 (Zg Ja (pv 1) (pbL G (Z0 (pv 0) Z3))) Z3))))))
  (Z4 (psl 8 Jx.nd (Ur (Zq (pbI G (Z0 (pv 3) (Z0 (Xl (by rfl) AG.o.at_) Z3)))) (Zi (pv 3) rfl) (pv 5)))
  (Z4 (Zw (Zq (pbI G (Z0 (pv 3) (Z0 (Xl (by rfl) AH.o.at_) Z3)))) (Z7 (psl 7 Jx.nd (Zi (pv 3) rfl))) Zh)
  (Z4 (Y4 PassesOwn.never rfl (Zr (Zn (Z0 (pv 5) (Z0 (pv 8) (Z0 (pcD DB GB hr (Z0 (pv 8) (Z0 (pv 0) Z3))) (Z0 (Zg YN (Y7 Yj (pv 8) (Yf Z6) Yl) (Y7 Yj (pv 8) Yl (Yf Z6))) (Z0 (Zn Z3) (Z0
    (ZT (XN:=LN) (outer:=defScope sLaw) (N:=["_law_cell"]) (cap:=[none]) (by exact csc (.own .nil)) rfl (Zr (pv 0))
     (λ_ _ _ _ _ _=>pgl 0 ndC) (λ_ _ _ _ _ _=>ZO) (λ_ _ _ _ _ _=>Zg Ja (Zg ZS (pv 0) Z6) Z6)) Z3)))))))) (pgl 9 Jx.nd)
   (Z7 (Zw (Zy (Zq (pcD DC GC hr (Z0 (pv 1) (Z0 (pv 2) (Z0 (pv 4) (Z0 (pv 6) (Z0 (pv 9) (Z0 (pv 7) Z3))))))))) (Z7 (Ze ZI)) Zh)))
  (Z4 (psl 10 Jx.nd (Zn (Z0 (pcD DB GB hr (Z0 (pv 7) (Z0 (pv 0) Z3))) (Z0
    (ZT (XN:=LN) (outer:=defScope sLaw) (N:=["_law_height"]) (cap:=[none]) (by exact csc (.own .nil)) rfl (Zr (pv 7))
     (λ_ _ _ _ _ _=>pgl 0 ndH) (λ_ _ _ _ _ _=>ZO) (λ_ _ _ _ _ _=>Zg Yd (pv 0) Z6))
    (Z0 (Zg P0 (Zn (Z0 Z6 Z3)) (pv 1)) (Z0 (LT (pv 7)) (Z0 (Zg YN (pv 7) (Zn (Z0 Z6 Z3))) Z3)))))))
  (Z4 (Y4 PassesOwn.never rfl (Zr (pv 10)) (pgl 11 Jx.nd)
   (Z4 (Zw (Zy (Zq (pcD DG GG hr (Z0 (pv 1) (Z0 (pv 2) (Z0 (pv 4) (Z0 (pv 6) (Z0 (pv 11) (Z0 (pv 7) Z3))))))))) (Z7 (Ze ZI)) Zh)
   (Z7 (Zw (Zy (Zq (pcD DG GG hr (Z0 (pv 1) (Z0 (pv 2) (Z0 (pv 4) (Z0 (pv 6) (Z0 (pv 7) (Z0 (pv 11) Z3))))))))) (Z7 (Ze ZI)) Zh))))
  (Z4 (psl 12 Jx.nd (Zt (Wb rfl) (by rfl) G.list boot_list (Z0 (Zt WP (by rfl) G.range boot_range (Z0 (pv 1) Z3)) Z3)))
  (Z4 (JQ (j:=13) (XN:=LN) (outer:=defScope sLaw) (N:=["_law_place","_law_one"]) (cap:=[none,some 4]) (by exact csc (.own (.cap rfl rfl rfl .nil))) rfl Jx.nd rfl (Or.inl rfl) (Zr (pv 12))
     (λ_ _ _ _ _ _=>pgl 0 ndP) (λ_ _ _ _ _ _=>JR (Zl VP (pv 0) (pv 1) (nomark _))) (λ_ _ _ _ _ _=>pv 0))
  (Z4 (Y4 PassesOwn.never rfl (Zr (Zn (Z0 (pv 12) (Z0 (Y7 Yj (pv 12) (Yf Z6) Yl) (Z0 (Zn (Z0 (pv 6) Z3)) (Z0 (Zn Z3) (Z0 (pcD DB GB hr (Z0 (pv 12) (Z0 (pv 0) Z3))) (Z0 (pv 13) Z3)))))))) (pgl 14 Jx.nd)
   (Z7 (Zw (Zy (Zq (pcD DP GP hr (Z0 (pv 1) (Z0 (pv 2) (Z0 (pv 4) (Z0 (pv 6) (Z0 (pv 14) Z3)))))))) (Z7 (Ze ZI)) Zh)))
  (Z4 (Zw (Zy (Zq (pcD bc GR hr (Z0 (pv 1) (Z0 (pv 2) (Z0 (pv 4) Z3)))))) (Z7 (Ze ZI)) Zh)
  (Z4 (Zw (PW.pt (Q9 (Zq (pbI G (Z0 (pv 3) (Z0 (Xl (by rfl) AH.o.at_) Z3)))) (Vb (Zy (Zq (pcD DT GT hr (Z0 (pv 1) (Z0 (pv 2) (Z0 (pv 4) (Z0 (pv 6) Z3)))))))))) (Z7 (Ze ZI)) Zh)
  (Z4 (Zw (PW.pt (Ji (Zy (Zq (pcD DO GO hr (Z0 (pv 1) (Z0 (pv 2) (Z0 (pv 4) (Z0 (pv 6) (Z0 (pv 5) (Z0 (Zn Z3) Z3))))))))) (YM (Zy (Zq (LZ GE hr (by rfl) DE.at_ DE.fn.kp DE.bd .nil Zu)))))) (Z7 (Ze ZI)) Zh)
  (Z7 (Ze (pcD DO GO hr (Z0 (pv 1) (Z0 (pv 2) (Z0 (pv 4) (Z0 (pv 4) (Z0 (Zn Z3) (Z0 (Zn Z3) Z3))))))))))))))))))))))),?_⟩
 refine⟨_,rfl,a,ns,rfl,O,hz,λc p q H1 ss ax bj bl W s1 ae ak=>⟨p,_,rfl,Zo ae,rfl,_,_,rfl,_,_,rfl,rfl,?_⟩⟩;have aq:ss.length<64:=by lia
 clear ae;refine⟨_,rfl,_,rfl,q,ss,c,rfl,ax,by lia,ak,aq,W,hL.same s1,λb H2 x l rs n2 av bk bn bp an ag=>?_⟩
 have al:=n2.seq (s1.seq O);have a4:=ak.sameN n2;clear ak hL O;refine⟨_,rfl,a,ns,rfl,al,_,rfl,_,_,rfl,rfl,(by show(0:Int)<c;lia),szL 2,λt nt=>?_⟩
 dsimp only;have co:cnt c (ns.sum % (c:Int))=true:=Zm.mpr ⟨wW _ (by lia),wR _ (by lia)⟩
 generalize ns.sum % (c:Int)=one at co;have u3:=Z9 (o:=.tup [V.ref x,V.int one]) nt;have e3:(upd H2 t (.tup [V.ref x,V.int one])) t=some (.tup [V.ref x,V.int one]):=Z2;generalize upd H2 t (.tup [V.ref x,V.int one])=H3 at u3 e3;refine⟨t,_,rfl,Zo e3,rfl,_,_,rfl,_,_,rfl,rfl,?_⟩;have O:=u3.seq al;have hs:=a4.same u3;have an:=an.same u3;have hL:=av.same u3;clear al a4 av u3 e3 n2 s1;refine⟨_,rfl,_,rfl,_,rfl,q,a,ss,ns,c,one,rfl,hs,O,by lia,W,co,hz,λH4 t4 wl ws bu s4 _ aw hw zw ct=>⟨t4,_,rfl,Zo aw,rfl,_,_,rfl,_,_,rfl,rfl,?_⟩⟩
 have O:=s4.seq O;have hs:=hs.same s4;have an:=an.same s4;have hL:=hL.same s4;clear s4 aw;refine OV (Xv (n:=63) (m:=65) (Gp (K:=K) (n:=63) (λz=>z / 3 % 10) (Go (K:=K) (lo:=none) (hi:=some (c:Int)) (mq_v rfl O hz) (λ_ _ q=>q) (λ_ _ q=>⟨_,rfl,_,rfl,q⟩)).q (by decide) (λz v Hc R h=>⟨_,rfl,_,_,rfl,rfl,⟨by decide,by decide⟩,_,_,rfl,rfl,(by show(0:Int)<10;decide),h _⟩))
  (Pl (k:=if(c:Int)-((ns.map V.int).length:Int)>0 then(c:Int)-((ns.map V.int).length:Int) else 0) (λH s Q q=>⟨_,rfl,_,rfl,a,_,rfl,.inl (s.seq O),_,_,rfl,rfl,_,_,rfl,q⟩) (by split <;> lia) (by split <;> lia) (by decide)) (by decide)) λH5 b5 ts s5 e5 z5=>?_
 have O:=s5.seq O;have hs:=hs.same s5;have an:=an.same s5;have hL:=hL.same s5;have hw:=s5 _ _ hw;clear s5;refine QS (λσ H'=>H5=H'/\∃(r:Ab) (rr:List Int),σ=[some (.ref a),some (.int c),some (.ref q),some (.ref x),some (.int one),some (.ref wl),some (.int bu),some (.ref b5),some (.ref r),none,none,none,none,none,none]/\H5 r=some (.lst (rr.map V.int))/\rr.length<=500) (λN0 hN=>?_) ?_
 .cases b with
  | true =>
   have an:AnsAt H5 x cH l "heights" rs:=an;exact⟨_,rfl,_,_,_,_,_,rfl,an.ty N.iH,rfl,N.kHG,_,rfl,iteF ⟨_,rfl,hN _ _ ⟨rfl,wl,ws,rfl,hw,by lia⟩⟩⟩
  | false =>
   have an:AnsAt H5 x cG l "chain" rs:=an;have zr:=(show V3 ss rs from ag).len
   refine⟨_,rfl,_,_,_,_,_,rfl,an.ty N.iG,rfl,N.kGG,_,rfl,iteT ?_⟩;obtain⟨⟨dx,ex⟩,el⟩:=an;exact⟨_,rfl,x,cG,dx,_,_,rfl,ex,AG.o.cl,AG.o.n,rfl,hN _ _ ⟨rfl,l,rs,rfl,el,zr⟩⟩
 rintro σ H' ⟨rfl,r,rr,rfl,er,zr⟩;refine QS (λσ H'=>H5=H'/\∃(td:Ab) (tt:List Int),σ=[some (.ref a),some (.int c),some (.ref q),some (.ref x),some (.int one),some (.ref wl),some (.int bu),some (.ref td),some (.ref r),none,none,none,none,none,none]/\H5 td=some (.lst (tt.map V.int))/\tt.length<=128) (λN0 hN=>?_) ?_
 .cases b with
  | true =>
   have an:AnsAt H5 x cH l "heights" rs:=an;have zr:=(show rs.length=c/\_ from ag).1
   refine⟨_,rfl,_,_,_,_,_,rfl,an.ty N.iH,rfl,N.kHH,_,rfl,iteT ?_⟩;obtain⟨⟨dx,ex⟩,el⟩:=an;exact⟨_,rfl,x,cH,dx,_,_,rfl,ex,AH.o.cl,AH.o.n,rfl,hN _ _ ⟨rfl,l,rs,rfl,el,by lia⟩⟩
  | false =>
   have an:AnsAt H5 x cG l "chain" rs:=an;exact⟨_,rfl,_,_,_,_,_,rfl,an.ty N.iG,rfl,N.kGH,_,rfl,iteF (hN _ _ ⟨rfl,b5,ts,rfl,e5,z5⟩)⟩
 rintro σ H' ⟨rfl,td,tt,rfl,et,zt⟩;clear e5 z5;refine G7 (K:=K) (MIs.mv (ZK (mi_v (n:=63) rfl hw (by lia)) (ZK (mi_v (n:=500) rfl er zr) (ZK (Gq (mi_v (n:=500) rfl er zr) (by decide) rfl O hz) (ZK (Xv (Go (K:=K) (lo:=some 1) (hi:=none) (mi_v (n:=500) rfl er zr).q (λ_ _ q=>⟨_,rfl,q⟩) (λ_ _ q=>q)) (Tf (K:=K) (mi_v (n:=500) rfl er zr).q) (by decide)) (ZK (Gn (xs:=[]) (λ_ _ q=>q) (by decide)) (ZK (Gp (K:=K) (n:=63) (λz=>z % 9-2) (mq_v rfl O hz) (by decide) (λz v Hc R h=>⟨_,rfl,_,_,rfl,rfl,(by show(0:Int)<9;decide),_,_,rfl,rfl,h _⟩)) QT)))))) (by decide)) (λσ=>∃v9,σ=[some (.ref a),some (.int c),some (.ref q),some (.ref x),some (.int one),some (.ref wl),some (.int bu),some (.ref td),some (.ref r),v9,none,none,none,none,none]) ⟨none,rfl⟩ (λH8 b1 xs σ s8 hv hb zb D' hn=>?_) λH8 σ s8 hv=>?_
 .obtain⟨v9,rfl⟩:=hv;exact⟨_,rfl,_,rfl,_,rfl,_,rfl,_,rfl,_,rfl,c,one,bu,q,b1,td,ss,xs,tt,rfl,hs.same s8,by lia,W,hb,s8 _ _ et,zb,by lia,co,ct,λH9 s9=>⟨_,rfl,iteF (hn _ _ ⟨_,rfl⟩ s9)⟩⟩
 obtain⟨v9,rfl⟩:=hv;have O:=s8.seq O;have hs:=hs.same s8;have an:=an.same s8;have hL:=hL.same s8;have hw:=s8 _ _ hw;have et:=s8 _ _ et;clear s8 er zr;refine OT (MIs.mv (ZK (Gq (mi_v (n:=128) rfl et zt) (by decide) rfl O hz) (ZK (Gp (K:=K) (n:=128) (λz=>z+1) (mi_v rfl et zt).q (by decide) (λz v Hc R h=>⟨_,rfl,_,_,rfl,rfl,h _⟩)) (ZK (Pl (n:=65) (k:=c) (λH s Q q=>⟨_,rfl,q⟩) (by lia) (by lia) (by decide)) (ZK (Pk (K:=K) (mi_v (n:=128) rfl et zt).q) (ZK (Xv (mi_v (n:=128) rfl et zt) (Gn (xs:=[0]) (λ_ _ q=>q) (by decide)) (by decide)) QT))))) (by decide)) λbr L bi ap az hv=>?_
 refine G7 (K:=K) (λQ k=>⟨_,rfl,k _ L bi (Za _) az hv⟩) (λσ=>∃ad,σ=[some (.ref a),some (.int c),some (.ref q),some (.ref x),some (.int one),some (.ref wl),some (.int bu),some (.ref td),some (.ref r),v9,some (.ref L),ad,none,none,none]) ⟨none,rfl⟩ (λaj b1 xs σ ai hv hb zb D' hn=>?_) λaj σ ai hv=>?_
 .obtain⟨ad,rfl⟩:=hv;have s:=ap.trans ai;refine⟨_,rfl,_,rfl,_,rfl,_,rfl,_,rfl,_,rfl,c,one,bu,q,b1,td,ss,xs,tt,rfl,hs.same s,by lia,W,hb,s _ _ et,zb,by lia,co,ct,λa7 ar=>⟨_,rfl,iteF ?_⟩⟩
  have s:=s.trans ar;exact⟨_,rfl,_,rfl,_,rfl,_,rfl,_,rfl,_,rfl,c,one,bu,q,td,b1,ss,tt,xs,rfl,hs.same s,by lia,W,s _ _ et,ar _ _ hb,by lia,zb,co,ct,λa9 af=>⟨_,rfl,iteF (hn _ _ ⟨_,rfl⟩ (ar.trans af))⟩⟩
 obtain⟨ad,rfl⟩:=hv;have s:=ap.trans ai;have O:=s.seq O;have hs:=hs.same s;have an:=an.same s;have hL:=hL.same s;have hw:=s _ _ hw;clear s ai ap az et zt;refine⟨_,rfl,c,rfl,λp1 ae=>⟨p1,c,rfl,Z2,by lia,by lia,λpl a3=>?_⟩⟩
 have am:=(Z9 (o:=.rng 0 c) ae).trans (Z9 (o:=.lst ((zV (c:Int).toNat).map λi=>V.int (i:Nat))) a3);have Z:(upd (upd aj p1 (.rng 0 c)) pl (.lst ((zV (c:Int).toNat).map λi=>V.int (i:Nat)))) pl=some (.lst (((zV c).map λ(i:Nat)=>(i:Int)).map V.int)):=by rw[Z2,xJ];rfl
 show tSeq _ _ _ _ (upd (upd aj p1 (.rng 0 c)) pl (.lst ((zV (c:Int).toNat).map λi=>V.int (i:Nat))));generalize upd (upd aj p1 (.rng 0 c)) pl (.lst ((zV (c:Int).toNat).map λi=>V.int (i:Nat)))=a7 at am Z;have zp:((zV c).map λ(i:Nat)=>(i:Int)).length<=65:=by rw[zK,wH];exact bj
 generalize ((zV c).map λ(i:Nat)=>(i:Int))=pp at Z zp;refine⟨_,rfl,pl,rfl,⟨_,Z8 Z⟩,λod a6=>?_⟩;refine Y0 (outs:=λi=>(pp[i]?).bind λz=>if z=one then none else some (V.int z)) (λσ=>∃v,σ=[v,some (.int one)]) a6 (Z8 Z) (Zb (by rw[zK];lia)) ⟨none,rfl⟩ (λi y σc Hc bq No hy sm _ hv ba no=>?_) (λa9 af as=>?_)
 .obtain⟨v,rfl⟩:=hv;rw[zM] at hy;cases ez:pp[i]? with
  | none=>rw[ez] at hy;cases hy
  | some z =>
   rw[ez] at hy;cases hy;refine⟨_,rfl,_,rfl,rfl,_,rfl,?_⟩;rw[Zp];by_cases hd:z=one
   .rw[show(z==one)=true from xS.mpr hd]
    exact iteF (no _ _ ⟨_,rfl⟩ (Za _) (by rw[ez];exact xY hd))
   .rw[show(z==one)=false from xT.mpr hd]
    exact iteT ⟨_,rfl,ba _ _ _ ⟨_,rfl⟩ (Za _) (by rw[ez];exact xZ hd)⟩
 obtain⟨oo,eo,_,zo⟩:=Tr (p:=λ_=>True) (outs:=λi=>(pp[i]?).bind λz=>if z=one then none else some (V.int z)) (λi v h=>by
  cases ez:pp[i]? with
  | none=>rw[ez] at h;cases h
  | some z =>
   rw[ez] at h;by_cases hd:z=one
   .rw[show((some z).bind λz=>if z=one then none else some (V.int z))=none from xY hd] at h;cases h
   .rw[show((some z).bind λz=>if z=one then none else some (V.int z))=some (V.int z) from xZ hd] at h;cases h;exact⟨_,rfl,trivial⟩) (pp.map V.int).length
 rw[eo] at as;rw[zK] at zo;have s:=am.trans af;have Z:=af _ _ Z;have O:=s.seq O;have hs:=hs.same s;have an:=an.same s;have hL:=hL.same s;have hw:=s _ _ hw;clear s af am eo a6 a3 ae;refine G7 (K:=K) (MIs.mv (ZK (mi_v (n:=65) rfl Z zp) (ZK (Go (K:=K) (lo:=some 1) (hi:=none) (mi_v (n:=65) rfl Z zp).q (λ_ _ q=>⟨_,rfl,q⟩) (λ_ _ q=>q)) (ZK (Gn (xs:=[bu]) (λ_ _ q=>⟨_,rfl,q⟩) (by show 1<=1000;decide)) (ZK (Gn (xs:=[]) (λ_ _ q=>q) (by decide)) (ZK (Gq (mi_v (n:=65) rfl Z zp) (by decide) rfl O hz) (ZK (mi_v (n:=65) rfl as (by lia)) QT))) (by show 1<=900;decide)))) (by decide)) (λσ=>∃ah,σ=[some (.ref a),some (.int c),some (.ref q),some (.ref x),some (.int one),some (.ref wl),some (.int bu),some (.ref td),some (.ref r),v9,some (.ref L),ad,some (.ref pl),some (.ref od),ah]) ⟨none,rfl⟩ (λbe b1 xs σ aa hv hb zb D' hn=>?_) λbe σ aa hv=>?_
 .obtain⟨ah,rfl⟩:=hv;exact⟨_,rfl,_,rfl,_,rfl,_,rfl,_,rfl,c,one,bu,q,b1,ss,xs,rfl,hs.same aa,by lia,W,hb,zb,co,ct,λao ac=>⟨_,rfl,iteF (hn _ _ ⟨_,rfl⟩ ac)⟩⟩
 obtain⟨ah,rfl⟩:=hv;have hs:=hs.same aa;have an:=an.same aa;have hL:=hL.same aa;have hw:=aa _ _ hw;clear aa Z as;refine⟨_,rfl,_,rfl,_,rfl,c,q,ss,one,rfl,by lia,hs,aq,W,co,λao ac=>⟨_,rfl,iteF ?_⟩⟩
 have hs:=hs.same ac;have an:=an.same ac;have hL:=hL.same ac;have hw:=ac _ _ hw;clear ac;dsimp only[Oi];refine QS (λσ H'=>σ=[some (.ref a),some (.int c),some (.ref q),some (.ref x),some (.int one),some (.ref wl),some (.int bu),some (.ref td),some (.ref r),v9,some (.ref L),ad,some (.ref pl),some (.ref od),ah]/\SaysAt H' q ss/\H' wl=some (.lst (ws.map V.int))) (λN0 hN=>?_) ?_
 .cases b with
  | true =>
   have an:AnsAt ao x cH l "heights" rs:=an;have gd:=(show rs.length=c/\ss.all (keeps rs)=true from ag).2
   refine⟨_,rfl,_,_,_,_,_,rfl,an.ty N.iH,rfl,N.kHH,_,rfl,iteT ?_⟩;exact⟨_,rfl,_,rfl,_,rfl,_,rfl,q,ss,c,one,bu,rfl,ax,by lia,hs,aq,W,co,ct,λns r=>Gx gd r,hL,λbb ay _=>⟨_,rfl,iteF (hN _ _ ⟨rfl,hs.sameN ay,ay _ _ rfl hw⟩)⟩⟩
  | false =>
   have an:AnsAt ao x cG l "chain" rs:=an;exact⟨_,rfl,_,_,_,_,_,rfl,an.ty N.iG,rfl,N.kGH,_,rfl,iteF (hN _ _ ⟨rfl,hs,hw⟩)⟩
 rintro σ bb ⟨rfl,hs,hw⟩;refine⟨_,rfl,_,rfl,_,rfl,_,rfl,_,rfl,szL 0,λz1 au=>⟨c,one,bu,q,wl,z1,ss,ws,[],rfl,hs.same (Z9 au),by lia,W,Z9 au _ _ hw,Z2,by lia,by decide,co,ct,λbt a8=>⟨_,rfl,iteF ⟨rfl,λbo bg=>⟨_,rfl,iteF ?_⟩⟩⟩⟩⟩
 have hs:=hs.same (((Z9 au).trans a8).trans bg);refine⟨_,rfl,_,rfl,_,rfl,_,rfl,szL 0,λz2 bh=>⟨szL 0,λz3 a5=>⟨c,one,one,q,z2,z3,ss,[],[],rfl,(hs.same (Z9 bh)).same (Z9 a5),by lia,W,Z9 a5 _ _ Z2,Z2,by decide,by decide,co,co,λbf _=>k bf⟩⟩⟩
theorem lenS(h:us.length=n+1):∃a vs,us=a::vs/\vs.length=n:=by
 cases us with
 | nil=>cases h
 | cons a vs=>exact⟨a,vs,rfl,Nat.succ.inj h⟩
theorem len1(h:us.length=1)(k:∀a,bindArgs fd ⟨[a],[]⟩=pure (ps.zip [a])):bindArgs fd ⟨us,[]⟩=pure (ps.zip us):=by
 obtain⟨O,G,rfl,h0⟩:=lenS h;cases G with
 | nil=>exact k _
 | cons=>cases h0
theorem len2(h:us.length=2)(k:∀a b,bindArgs fd ⟨[a,b],[]⟩=pure (ps.zip [a,b])):bindArgs fd ⟨us,[]⟩=pure (ps.zip us):=by
 obtain⟨O,V,rfl,h0⟩:=lenS h;obtain⟨W,G,rfl,h1⟩:=lenS h0;cases G with
 | nil=>exact k _ _
 | cons=>cases h1
theorem len3(h:us.length=3)(k:∀a b c,bindArgs fd ⟨[a,b,c],[]⟩=pure (ps.zip [a,b,c])):bindArgs fd ⟨us,[]⟩=pure (ps.zip us):=by
 obtain⟨V,W,rfl,h0⟩:=lenS h;obtain⟨Z,O,rfl,h1⟩:=lenS h0;obtain⟨x2,G,rfl,h2⟩:=lenS h1;cases G with
 | nil=>exact k _ _ _
 | cons=>cases h2
theorem len4(h:us.length=4)(k:∀a b c d,bindArgs fd ⟨[a,b,c,d],[]⟩=pure (ps.zip [a,b,c,d])):bindArgs fd ⟨us,[]⟩=pure (ps.zip us):=by
 obtain⟨Z,u0,rfl,h0⟩:=lenS h;obtain⟨x1,W,rfl,h1⟩:=lenS h0;obtain⟨x2,u2,rfl,h2⟩:=lenS h1;obtain⟨V,O,rfl,G⟩:=lenS h2;cases O with
 | nil=>exact k _ _ _ _
 | cons=>cases G
theorem len5(h:us.length=5)(k:∀a b c d e,bindArgs fd ⟨[a,b,c,d,e],[]⟩=pure (ps.zip [a,b,c,d,e])):bindArgs fd ⟨us,[]⟩=pure (ps.zip us):=by
 obtain⟨x0,u0,rfl,h0⟩:=lenS h;obtain⟨x1,u1,rfl,h1⟩:=lenS h0;obtain⟨x2,u2,rfl,h2⟩:=lenS h1;obtain⟨W,Z,rfl,V⟩:=lenS h2;obtain⟨x4,O,rfl,G⟩:=lenS V;cases O with
 | nil=>exact k _ _ _ _ _
 | cons=>cases G
section
variable {h:Heap}
theorem Vz(X:K.In h)(G:h.Ns zE mg){dc:Aa}(a:nsIn K zE x=some (some (.ref f)))(l:K.lookup f=some ⟨oc,od,.func (fnOf x x (ZV st) (ZB st) (defScope st) .none kV dc pm an cd ct),sl⟩)(c:codeIn K cd x=true)(k:keepIn K (.ref f)=true)(V:∀(kV W pm:Aa) (an:Option Ab) (O ct:Aa) (us:List Aa),us.length=ps.length->bindArgs (fnOf x x (ZV st) (ZB st) (defScope st) .none kV W pm an O ct) ⟨us,[]⟩=pure (ps.zip us)):∃f fd,Def K mg x st ps f fd :=
 ⟨f,_,YD l c k,mg_of X G a,(YD l c k).binds V⟩
def Ol(es:Array DictEntry):Bool:=es.toList.all λe=>match e.key with
 | .str _ _=>true
 | _=>false
theorem EF{N:Ab}{V:Aa}{d1:Option Ab}{es:Array DictEntry}{ep:Nat}(l:K.lookup N=some ⟨V,d1,.dict es ep,sl1⟩)(G:Ol es=true)(hi:nsIn K N "__init__"=some none):
  ∃O:Str->Option Aa,(∀h:Heap,K.In h->h.Ns N O)/\O "__init__"=none:=by
 refine⟨λn=>nsFind es n,λh X=>⟨_,es,ep,X _ _ l,rfl,λe W=>?_,λ_=>rfl⟩,?_⟩
 .have:=yA.mp G e (qU.mpr W)
  cases G:e.key <;> rw[G] at this <;> first | exact⟨_,_,rfl⟩ | cases this
 .unfold nsIn at hi;rw[l] at hi;dsimp only at hi;show nsFind es (Str.ofString "__init__")=none;unfold nsFind findBy;rw[<-Array.find?_toList];split at hi
  .cases hi
  .rename_i e;rw[e];rfl
theorem EO(X:K.In h)(G:h.Ns zE mg)(n0:nsIn K zE "isinstance"=some none)(n1:nsIn K zE "int"=some none)(n2:nsIn K zE "bool"=some none)(O:nsIn K zE "tuple"=some none)(n4:nsIn K zE "list"=some none)(n5:nsIn K zE "len"=some none)(n6:nsIn K zE "all"=some none)(n7:nsIn K zE "any"=some none)(n8:nsIn K zE "sum"=some none)(Z:nsIn K zE "range"=some none)(V:nsIn K zE "enumerate"=some none)(m2:nsIn K zE "sorted"=some none)(m3:nsIn K zE "max"=some none)(m4:nsIn K zE "min"=some none)(k1:PySem.W.kitOne K (.type "int") (.type "int")=some true)(k2:PySem.W.kitOne K (.type "int") (.type "bool")=some false)(k3:PySem.W.kitOne K (.type "tuple") (.type "tuple")=some true)(k4:PySem.W.kitOne K (.type "list") (.type "list")=some true)(k5:PySem.W.kitOne K (.type "bool") (.type "bool")=some true):G1 K mg :=
 ⟨mg_none_of X G n0,mg_none_of X G n1,mg_none_of X G n2,mg_none_of X G O,mg_none_of X G n4,mg_none_of X G n5,mg_none_of X G n6,mg_none_of X G n7,mg_none_of X G n8,mg_none_of X G Z,
  mg_none_of X G V,mg_none_of X G m2,mg_none_of X G m3,mg_none_of X G m4,k1,k2,k3,k4,k5⟩
theorem Fun.codeT{c:Ab}(F:Fun K x x st f fd)(at_:mg x=some (.ref f))(X:K.In h)(G:h.Ns zE mg)(O:tabIn K x=some (c,Pt)):fd.code = .ref c:=by
 obtain⟨oc,od,kV,bw,pm,an,bh,ct,bz,rfl,V,Z⟩:=F.ex;exact PySem.W.law_code X G O at_ (X _ _ V) rfl
end
theorem Me{c:Ab}{vs:Array Aa}(a:nsIn K zE x=some (some (.ref f)))(l:K.lookup f=some ⟨oc,od,.func fd,sl⟩)(O:fd.code = .ref c)(l2:K.lookup c=some ⟨oc2,od2,.fields vs,sl2⟩)(G:vs[11]?=some (.ref Pt)):tabIn K x=some (c,Pt):=by
 unfold tabIn;rw[a];dsimp only;rw[l];dsimp only;rw[O];dsimp only;rw[l2];dsimp only;rw[G]
section
variable {h:Heap}
theorem RW(X:K.In h)(G:h.Ns zE mg){f1 f2:Ab}{aa ao ah aw av:Option Ab}{sl0 aj as:Array (Option Aa)}{ag au ae W ax am al ai ap V ac ad aq af ar Z ak:Aa}(aC:nsIn K zE "Walk"=some (some (.ref C)))(pg:plainGet K C Str.empty=true)(hd:hasDictIn K C=true)(po:plainOver K C=true)(sa:findIn K (.ref C) "__setattr__"=some (some (.builtin "object.__setattr__")))(mk:makesIn K C=true)(kc:keepIn K (.ref C)=true)(n1:findIn K (.ref C) "sayings"=some none)(n2:findIn K (.ref C) "sums"=some none)(n3:findIn K (.ref C) "last"=some none)(a0:findIn K (.ref C) "__init__"=some (some (.ref f0)))(i0:isFn K (.ref f0)=true)(l0:K.lookup f0=some ⟨oc0,od0,.func (fnOf "__init__" "Walk.__init__" (ZV Y3) (ZB Y3) (defScope Y3) .none kV0 dc0 pm0 an0 cd0 ct0),sl0⟩)(c0:codeIn K cd0 "Walk.__init__"=true)(k0:keepIn K (.ref f0)=true)(a1:findIn K (.ref C) "go_along"=some (some (.ref f1)))(i1:isFn K (.ref f1)=true)(l1:K.lookup f1=some ⟨oc1,od1,.func (fnOf "go_along" "Walk.go_along" (ZV Y2) (ZB Y2) (defScope Y2) .none kV1 dc1 pm1 an1 cd1 ct1),sl1⟩)(c1:codeIn K cd1 "Walk.go_along"=true)(k1:keepIn K (.ref f1)=true)(a2:findIn K (.ref C) "place_ahead"=some (some (.ref f2)))(i2:isFn K (.ref f2)=true)(l2:K.lookup f2=some ⟨oc2,od2,.func (fnOf "place_ahead" "Walk.place_ahead" (ZV Zx) (ZB Zx) (defScope Zx) .none ag au ae aa W ax),sl2⟩)(c2:codeIn K W "Walk.place_ahead"=true)(k2:keepIn K (.ref f2)=true)(a3:findIn K (.ref C) "chain_between"=some (some (.ref f3)))(i3:isFn K (.ref f3)=true)(l3:K.lookup f3=some ⟨am,ao,.func (fnOf "chain_between" "Walk.chain_between" (ZV ZE) (ZB ZE) (defScope ZE) .none al ai ap ah V ac),aj⟩)(c3:codeIn K V "Walk.chain_between"=true)(k3:keepIn K (.ref f3)=true)(a4:findIn K (.ref C) "place_on_ring"=some (some (.ref f4)))(i4:isFn K (.ref f4)=true)(l4:K.lookup f4=some ⟨ad,aw,.func (fnOf "place_on_ring" "Walk.place_on_ring" (ZV ZD) (ZB ZD) (defScope ZD) .none aq af ar av Z ak),as⟩)(c4:codeIn K Z "Walk.place_on_ring"=true)(k4:keepIn K (.ref f4)=true):
  ∃C f0 d0 f1 d1 f2 d2 f3 d3 f4 d4,WX K mg C f0 d0 f1 d1 f2 d2 f3 d3 f4 d4:=by
 have F0:=YD (st:=Y3) l0 c0 k0;have F1:=YD (st:=Y2) l1 c1 k1;have F2:=YD (st:=Zx) l2 c2 k2;have F3:=YD (st:=ZE) l3 c3 k3;have F4:=YD (st:=ZD) l4 c4 k4;exact⟨C,f0,_,f1,_,f2,_,f3,_,f4,_,⟨⟨⟨pg,hd,po,sa⟩,n1,n2,n3,mg_of X G aC⟩,⟨mk,a0,i0,kc⟩,F0,F0.binds λ_ _ _ _ _ _ _ O=>len3 O λ_ _ _=>rfl,
  ⟨F1,⟨a1,i1,k1⟩,F1.binds λ_ _ _ _ _ _ _ O=>len2 O λ_ _=>rfl⟩,⟨F2,⟨a2,i2,k2⟩,F2.binds λ_ _ _ _ _ _ _ O=>len2 O λ_ _=>rfl⟩,
  ⟨F3,⟨a3,i3,k3⟩,F3.binds λ_ _ _ _ _ _ _ O=>len3 O λ_ _ _=>rfl⟩,⟨F4,⟨a4,i4,k4⟩,F4.binds λ_ _ _ _ _ _ _ O=>len1 O λ_=>rfl⟩⟩⟩
end
structure TM(K:Frag)(mg:Str->Option Aa)(C C0 f:Ab)(fd:Ad):Prop where
 k:BK K mg C C0 f
 x:BX K C
 fn:Fun K "__init__" "Broken.__init__" ZJ f fd
 bd:Binds K fd Xx []
section
variable {h:Heap}
theorem Dq(X:K.In h)(G:h.Ns zE mg){N N0:Ab}{nm q ao q0:Str}{bs au:List Aa}{ak:Bool}{sn ar:List Str}{sub O:List Aa}{ab as:Bool}{col Z:Option Bool}{dd ad:Option Ab}{k0 k1 k2 k3 k5 j0 j1 j2 j3 j5:Option Aa}{x0:Aa}{y0:Option Ab}{aa:Array DictEntry}{ae:Nat}{z0:Array (Option Aa)}{dc:Aa}(aB:nsIn K zE "Broken"=some (some (.ref C)))(a0:nsIn K zE "SayError"=some (some (.ref C0)))(lB:K.lookup C=some (excClassObj nm q C N bs (.ref C0::WD) true sn sub ab col dd k0 k1 k2 k3 k5 "ValueError.__new__"))(l0:K.lookup C0=some (excClassObj ao q0 C0 N0 au WD ak ar O as Z ad j0 j1 j2 j3 j5 "ValueError.__new__"))(n0:K.lookup N0=some ⟨x0,y0,.dict aa ae,z0⟩)(s0:Ol aa=true)(i0:nsIn K N0 "__init__"=some none)(al:findIn K (.ref C) "__init__"=some (some (.ref f)))(aq:isFn K (.ref f)=true)(ah:keepIn K (.ref C)=true)(sa:findIn K (.ref C) "__setattr__"=some (some (.builtin "object.__setattr__")))(mo:PySem.W.mroIn K C (.type "object")=some true)(nr:findIn K (.ref C) "ring"=some none)(am:PySem.W.specialIn K (.ref C0) "__getattribute__"=some (some (.builtin "type.__getattribute__")))(ac:readsIn K C0 (.type "type")=true)(af:findCls K (.ref C0) (.type "type") "__init__"=some (.val (.builtin "ValueError.__init__")))(lf:K.lookup f=some ⟨oc,od,.func (fnOf "__init__" "Broken.__init__" (ZV ZJ) (ZB ZJ) (defScope ZJ) .none kV dc pm an cd ct),sl⟩)(cf:codeIn K cd "Broken.__init__"=true)(kf:keepIn K (.ref f)=true)(ga:findIn K (.ref C) "__getattribute__"=some (some (.builtin "BaseException.__getattribute__")))(gr:findIn K (.ref C) "__getattr__"=some none)(cl:findIn K (.ref C) "__class__"=some (some (.builtin "object.__class__")))(ai:PySem.W.specialIn K (.builtin "object.__class__") "__get__"=some (some (.builtin "getset_descriptor.__get__")))(tk:takesIn K (.builtin "object.__class__")=some true)(V:PySem.W.mroIn K C (.type "BaseException")=some true)(aj:hasDictIn K C=true):
  ∃C C0 f fd,TM K mg C C0 f fd:=by
 obtain⟨m0,ag,ap⟩:=EF n0 s0 i0;have F:=YD (st:=ZJ) lf cf kf;refine⟨C,C0,f,_,⟨⟨⟨⟨_,_,_,_,_,_,_,_,_,_,_,_,_,_,_,lB,λh X=>.own (X _ _ l0) (ag h X) ap .base,λself=>?_⟩,al,aq,ah,sa,mo⟩,nr,⟨am,ac,af⟩,mg_of X G aB,mg_of X G a0⟩,
  ⟨⟨⟨_,by unfold clsIn;rw[lB]⟩,ga,gr,cl,ai,tk,mo,V⟩,aj,⟨⟨_,_,_,_,_,_,_,_,_,_,_,_,_,_,_,_,_,lB,by simp⟩,⟨_,_,_,_,_,_,_,_,_,_,_,_,_,_,_,_,_,lB,by simp⟩⟩⟩,F,F.binds λ_ _ _ _ _ _ _ hl=>len2 hl λ_ _=>rfl⟩⟩
 rw[refuseLoop_ref];exact PySem.F.store_ValueError.passes self
end
theorem len0(h:us.length=0)(k:bindArgs fd ⟨[],[]⟩=pure (ps.zip [])):bindArgs fd ⟨us,[]⟩=pure (ps.zip us):=match us,h with | [],_=>k
theorem len6(h:us.length=6)(k:∀a b c d e f,bindArgs fd ⟨[a,b,c,d,e,f],[]⟩=pure (ps.zip [a,b,c,d,e,f])):bindArgs fd ⟨us,[]⟩=pure (ps.zip us):=by
 obtain⟨x0,u0,rfl,h0⟩:=lenS h;obtain⟨x1,u1,rfl,h1⟩:=lenS h0;obtain⟨x2,u2,rfl,h2⟩:=lenS h1;obtain⟨Z,u3,rfl,W⟩:=lenS h2;obtain⟨x4,u4,rfl,O⟩:=lenS W;obtain⟨x5,G,rfl,V⟩:=lenS O;cases G with
 | nil=>exact k _ _ _ _ _ _
 | cons=>cases V
structure AnsM(K:Frag)(mg:Str->Option Aa)(cF cR cX cL cH cG:Ab):Prop where
 aF:mg "Follows"=some (.ref cF)
 aR:mg "Free"=some (.ref cR)
 aX:mg "Fixed"=some (.ref cX)
 aL:mg "Loose"=some (.ref cL)
 aH:mg "Heights"=some (.ref cH)
 aG:mg "Ring"=some (.ref cG)
 st:mg "set"=none
 hn:PySem.W.specialIn K (.builtin "object.__class__") "__get__"=some (some (.builtin "getset_descriptor.__get__"))
 htk:takesIn K (.builtin "object.__class__")=some true
 hF:findIn K (.ref cF) "__class__"=some (some (.builtin "object.__class__"))/\PySem.W.mroIn K cF (.type "object")=some true
 hR:findIn K (.ref cR) "__class__"=some (some (.builtin "object.__class__"))/\PySem.W.mroIn K cR (.type "object")=some true
 hX:findIn K (.ref cX) "__class__"=some (some (.builtin "object.__class__"))/\PySem.W.mroIn K cX (.type "object")=some true
 hL:findIn K (.ref cL) "__class__"=some (some (.builtin "object.__class__"))/\PySem.W.mroIn K cL (.type "object")=some true
 hH:findIn K (.ref cH) "__class__"=some (some (.builtin "object.__class__"))/\PySem.W.mroIn K cH (.type "object")=some true
 hG:findIn K (.ref cG) "__class__"=some (some (.builtin "object.__class__"))/\PySem.W.mroIn K cG (.type "object")=some true
 kFR:PySem.W.kitOne K (.ref cF) (.ref cR)=some false
 kRR:PySem.W.kitOne K (.ref cR) (.ref cR)=some true
 kXL:PySem.W.kitOne K (.ref cX) (.ref cL)=some false
 kLL:PySem.W.kitOne K (.ref cL) (.ref cL)=some true
 kHG:PySem.W.kitOne K (.ref cH) (.ref cG)=some false
 kGG:PySem.W.kitOne K (.ref cG) (.ref cG)=some true
 kHH:PySem.W.kitOne K (.ref cH) (.ref cH)=some true
 kGH:PySem.W.kitOne K (.ref cG) (.ref cH)=some false
section
variable {h:Heap}
theorem NF(X:K.In h)(G:h.Ns zE mg){sl0:Array (Option Aa)}(a:nsIn K zE x=some (some (.ref C)))(pg:plainGet K C Str.empty=true)(Z:hasDictIn K C=true)(po:plainOver K C=true)(sa:findIn K (.ref C) "__setattr__"=some (some (.builtin "object.__setattr__")))(mk:makesIn K C=true)(kc:keepIn K (.ref C)=true)(n0:findIn K (.ref C) f1'=some none)(f0:findIn K (.ref C) "__init__"=some (some (.ref fI)))(i0:isFn K (.ref fI)=true)(W:K.lookup fI=some ⟨oc0,od0,.func (fnOf "__init__" qI (ZV sI) (ZB sI) (defScope sI) .none kV0 dc0 pm0 an0 cd0 ct0),sl0⟩)(d0:codeIn K cd0 qI=true)(k0:keepIn K (.ref fI)=true)(f1:findIn K (.ref C) "shows"=some (some (.ref gS)))(i1:isFn K (.ref gS)=true)(l1:K.lookup gS=some ⟨oc1,od1,.func (fnOf "shows" qS (ZV sS) (ZB sS) (defScope sS) .none kV1 dc1 pm1 an1 cd1 ct1),sl1⟩)(d1:codeIn K cd1 qS=true)(k1:keepIn K (.ref gS)=true)(bI:∀(kV O pm:Aa) (an:Option Ab) (V ct:Aa) (us:List Aa),us.length=pI.length->bindArgs (fnOf "__init__" qI (ZV sI) (ZB sI) (defScope sI) .none kV O pm an V ct) ⟨us,[]⟩=pure (pI.zip us))(bS:∀(kV O pm:Aa) (an:Option Ab) (V ct:Aa) (us:List Aa),us.length=pS.length->bindArgs (fnOf "shows" qS (ZV sS) (ZB sS) (defScope sS) .none kV O pm an V ct) ⟨us,[]⟩=pure (pS.zip us)):
  ∃C fI dI gS eS,OneF K mg x f1' qI qS sI sS pI pS C fI dI gS eS :=
 ⟨C,fI,_,gS,_,⟨⟨⟨pg,Z,po,sa⟩,n0,mg_of X G a,⟨mk,f0,i0,kc⟩⟩,YD (st:=sI) W d0 k0,(YD (st:=sI) W d0 k0).binds bI,⟨YD (st:=sS) l1 d1 k1,⟨f1,i1,k1⟩,(YD (st:=sS) l1 d1 k1).binds bS⟩⟩⟩
theorem OH(X:K.In h)(G:h.Ns zE mg){O:Str}{sl0:Array (Option Aa)}(a:nsIn K zE x=some (some (.ref C)))(pg:plainGet K C Str.empty=true)(hd:hasDictIn K C=true)(po:plainOver K C=true)(sa:findIn K (.ref C) "__setattr__"=some (some (.builtin "object.__setattr__")))(mk:makesIn K C=true)(kc:keepIn K (.ref C)=true)(n0:findIn K (.ref C) f1'=some none)(n1:findIn K (.ref C) O=some none)(f0:findIn K (.ref C) "__init__"=some (some (.ref fI)))(i0:isFn K (.ref fI)=true)(Z:K.lookup fI=some ⟨oc0,od0,.func (fnOf "__init__" qI (ZV sI) (ZB sI) (defScope sI) .none kV0 dc0 pm0 an0 cd0 ct0),sl0⟩)(d0:codeIn K cd0 qI=true)(k0:keepIn K (.ref fI)=true)(f1:findIn K (.ref C) "shows"=some (some (.ref gS)))(i1:isFn K (.ref gS)=true)(l1:K.lookup gS=some ⟨oc1,od1,.func (fnOf "shows" qS (ZV sS) (ZB sS) (defScope sS) .none kV1 dc1 pm1 an1 cd1 ct1),sl1⟩)(d1:codeIn K cd1 qS=true)(k1:keepIn K (.ref gS)=true)(bI:∀(kV V pm:Aa) (an:Option Ab) (W ct:Aa) (us:List Aa),us.length=pI.length->bindArgs (fnOf "__init__" qI (ZV sI) (ZB sI) (defScope sI) .none kV V pm an W ct) ⟨us,[]⟩=pure (pI.zip us))(bS:∀(kV V pm:Aa) (an:Option Ab) (W ct:Aa) (us:List Aa),us.length=pS.length->bindArgs (fnOf "shows" qS (ZV sS) (ZB sS) (defScope sS) .none kV V pm an W ct) ⟨us,[]⟩=pure (pS.zip us)):
  ∃C fI dI gS eS,TwoF K mg x f1' O qI qS sI sS pI pS C fI dI gS eS :=
 ⟨C,fI,_,gS,_,⟨⟨⟨pg,hd,po,sa⟩,n0,n1,mg_of X G a,⟨mk,f0,i0,kc⟩⟩,YD (st:=sI) Z d0 k0,(YD (st:=sI) Z d0 k0).binds bI,⟨YD (st:=sS) l1 d1 k1,⟨f1,i1,k1⟩,(YD (st:=sS) l1 d1 k1).binds bS⟩⟩⟩
theorem O9(X:K.In h)(G:h.Ns zE mg)(aF:nsIn K zE "Follows"=some (some (.ref cF)))(aR:nsIn K zE "Free"=some (some (.ref cR)))(aX:nsIn K zE "Fixed"=some (some (.ref cX)))(aL:nsIn K zE "Loose"=some (some (.ref cL)))(aH:nsIn K zE "Heights"=some (some (.ref cH)))(aG:nsIn K zE "Ring"=some (some (.ref cG)))(st:nsIn K zE "set"=some none)(ac:PySem.W.specialIn K (.builtin "object.__class__") "__get__"=some (some (.builtin "getset_descriptor.__get__")))(tk:takesIn K (.builtin "object.__class__")=some true)(hF:findIn K (.ref cF) "__class__"=some (some (.builtin "object.__class__")))(mF:PySem.W.mroIn K cF (.type "object")=some true)(hR:findIn K (.ref cR) "__class__"=some (some (.builtin "object.__class__")))(mR:PySem.W.mroIn K cR (.type "object")=some true)(hX:findIn K (.ref cX) "__class__"=some (some (.builtin "object.__class__")))(mX:PySem.W.mroIn K cX (.type "object")=some true)(hL:findIn K (.ref cL) "__class__"=some (some (.builtin "object.__class__")))(mL:PySem.W.mroIn K cL (.type "object")=some true)(hH:findIn K (.ref cH) "__class__"=some (some (.builtin "object.__class__")))(mH:PySem.W.mroIn K cH (.type "object")=some true)(hG:findIn K (.ref cG) "__class__"=some (some (.builtin "object.__class__")))(mG:PySem.W.mroIn K cG (.type "object")=some true)(ad:PySem.W.kitOne K (.ref cF) (.ref cR)=some false)(Z:PySem.W.kitOne K (.ref cR) (.ref cR)=some true)(af:PySem.W.kitOne K (.ref cX) (.ref cL)=some false)(ae:PySem.W.kitOne K (.ref cL) (.ref cL)=some true)(aa:PySem.W.kitOne K (.ref cH) (.ref cG)=some false)(V:PySem.W.kitOne K (.ref cG) (.ref cG)=some true)(ag:PySem.W.kitOne K (.ref cH) (.ref cH)=some true)(O:PySem.W.kitOne K (.ref cG) (.ref cH)=some false):
  ∃cF cR cX cL cH cG,AnsM K mg cF cR cX cL cH cG :=
 ⟨cF,cR,cX,cL,cH,cG,⟨mg_of X G aF,mg_of X G aR,mg_of X G aX,mg_of X G aL,mg_of X G aH,mg_of X G aG,mg_none_of X G st,ac,tk,⟨hF,mF⟩,⟨hR,mR⟩,⟨hX,mX⟩,⟨hL,mL⟩,⟨hH,mH⟩,⟨hG,mG⟩,ad,Z,af,ae,aa,V,ag,O⟩⟩
end
structure OA(K:Frag)(mg:Str->Option Aa):Prop where
 g:G1 K mg
 d1:∃f fd,Yp K mg f fd
 d2:∃f fd,Y5 K mg f fd
 d3:∃f fd,Def K mg "is_saying" QQ Yt f fd
 d4:∃f fd,Ui K mg f fd
 d5:∃f fd,YH K mg f fd
 d6:∃f fd,Ys K mg f fd
 d7:∃f fd,Jh K mg f fd
 d8:∃f fd,UM K mg f fd
 d9:∃f fd,U0 K mg f fd
 d10:∃f fd,VB K mg f fd
 d11:∃f fd,Yi K mg f fd
 d12:∃f fd,J0 K mg f fd
 d13:∃f fd,Jo K mg f fd
 d14:∃f fd,Jg K mg f fd
 d15:∃f fd,Yr K mg f fd
 d16:∃f fd,Jf K mg f fd
 d17:∃f fd,U7 K mg f fd
 d18:∃f fd,JI K mg f fd
 d19:∃f fd,QZ K mg f fd
 d20:∃f fd,YW K mg f fd
 d21:∃f fd,VA K mg f fd
 d22:∃f fd,Yg K mg f fd
 d23:∃f fd,Qr K mg f fd
 d24:∃f fd,Qs K mg f fd
 d25:∃f fd,M4 K mg f fd
 d26:∃f fd,UN K mg f fd
 d27:∃f fd,Def K mg "_law_sayings" T1 JU f fd
 d28:∃f fd,U1 K mg f fd
 d29:∃f fd,U8 K mg f fd
 d30:∃f fd,V5 K mg f fd
 d31:∃f fd,YI K mg f fd
 d32:∃f fd,V6 K mg f fd
 d33:∃f fd,V4 K mg f fd
 d34:∃f fd,Def K mg "_law_chains_right" Ye Ps f fd
 d35:∃f fd,Def K mg "_law_heights_right" Yb Pr f fd
 d36:∃f fd,Def K mg "_law_places_right" Zz Pq f fd
 d37:∃f fd,J1 K mg f fd
 d38:∃f fd,Def K mg "_law_both_right" Yc Pu f fd
 d39:∃f fd,Def K mg "_law_told_right" Yv Po f fd
 d40:∃f fd,Def K mg "_law_few_right" Y6 [] f fd
 w:∃C f0 d0 f1 d1 f2 d2 f3 d3 f4 d4,WX K mg C f0 d0 f1 d1 f2 d2 f3 d3 f4 d4
 b:∃C C0 f fd,TM K mg C C0 f fd
 c1:∃C fI dI gS eS,TC K mg C fI dI gS eS
 c2:∃C fI dI gS eS,XW K mg C fI dI gS eS
 c3:∃C fI dI gS eS,Qq K mg C fI dI gS eS
 c4:∃C fI dI gS eS,TD K mg C fI dI gS eS
 c5:∃C fI dI gS eS,Ke K mg C fI dI gS eS
 c6:∃C fI dI gS eS,M3 K mg C fI dI gS eS
 c7:∃C fI dI gS eS,XX K mg C fI dI gS eS
 c8:∃C fI dI gS eS,Dt K mg C fI dI gS eS
 a:∃cF cR cX cL cH cG,AnsM K mg cF cR cX cL cH cG
theorem E7{c:Ab}(F:Fun K "law" "law" sLaw f fd)(M:OA K mg)(ht:tabIn K "walking_order"=some (c,Pt))(X:K.In base)(N:base.Ns zE mg)(hC:PySem.W.CodeHd base c Pt)(hB:base.BuiltinsAt mg Pt):FnOk P w K mg base CX0 9 f fd JU (Mg K Pt):=by
 have G:=M.g;obtain⟨_,_,ad⟩:=M.d1;obtain⟨_,_,Z⟩:=M.d2;obtain⟨_,_,bk⟩:=M.d3;obtain⟨_,_,az⟩:=M.d4;obtain⟨_,_,aw⟩:=M.d5;obtain⟨_,_,aa⟩:=M.d6;obtain⟨_,_,al⟩:=M.d7;obtain⟨_,_,a7⟩:=M.d8;obtain⟨_,_,ay⟩:=M.d9;obtain⟨_,_,ba⟩:=M.d10;obtain⟨_,_,as⟩:=M.d11;obtain⟨_,_,a9⟩:=M.d12;obtain⟨_,_,be⟩:=M.d13;obtain⟨_,_,a5⟩:=M.d14;obtain⟨_,_,O⟩:=M.d15;obtain⟨_,_,ai⟩:=M.d16;obtain⟨_,_,a6⟩:=M.d17;obtain⟨_,_,a3⟩:=M.d18;obtain⟨_,_,bp⟩:=M.d19;obtain⟨_,_,ar⟩:=M.d20;obtain⟨_,_,bo⟩:=M.d21;obtain⟨_,_,aj⟩:=M.d22;obtain⟨_,_,bc⟩:=M.d23;obtain⟨_,_,bf⟩:=M.d24;obtain⟨_,_,bn⟩:=M.d25;obtain⟨_,_,bh⟩:=M.d26;obtain⟨_,_,av⟩:=M.d27;obtain⟨_,_,bb⟩:=M.d28;obtain⟨_,_,a8⟩:=M.d29;obtain⟨_,_,bl⟩:=M.d30;obtain⟨_,_,ae⟩:=M.d31;obtain⟨_,_,bj⟩:=M.d32;obtain⟨_,_,bi⟩:=M.d33;obtain⟨_,_,ak⟩:=M.d34;obtain⟨_,_,af⟩:=M.d35;obtain⟨_,_,V⟩:=M.d36;obtain⟨_,_,am⟩:=M.d37;obtain⟨_,_,ac⟩:=M.d38;obtain⟨_,_,ao⟩:=M.d39;obtain⟨_,_,aq⟩:=M.d40;obtain⟨_,_,_,_,_,_,_,_,_,_,_,W⟩:=M.w;obtain⟨CB,_,_,_,B⟩:=M.b;obtain⟨_,_,_,_,_,ax⟩:=M.c1;obtain⟨_,_,_,_,_,ah⟩:=M.c2;obtain⟨_,_,_,_,_,bg⟩:=M.c3;obtain⟨_,_,_,_,_,bq⟩:=M.c4;obtain⟨_,_,_,_,_,a4⟩:=M.c5;obtain⟨_,_,_,_,_,ap⟩:=M.c6;obtain⟨_,_,_,_,_,ag⟩:=M.c7;obtain⟨_,_,_,_,_,au⟩:=M.c8;obtain⟨_,_,_,_,_,_,A⟩:=M.a;obtain rfl:=Value.ref.inj (Option.some.inj (ag.o.at_.symm.trans A.aF));obtain rfl:=Value.ref.inj (Option.some.inj (a4.o.at_.symm.trans A.aR));obtain rfl:=Value.ref.inj (Option.some.inj (ap.o.at_.symm.trans A.aX));obtain rfl:=Value.ref.inj (Option.some.inj (au.o.at_.symm.trans A.aL));obtain rfl:=Value.ref.inj (Option.some.inj (ah.o.at_.symm.trans A.aH));obtain rfl:=Value.ref.inj (Option.some.inj (ax.o.at_.symm.trans A.aG));have L:LamIn base mg _ Pt:=⟨⟨c,Fun.codeT O.fn O.at_ X N ht,hC,hB⟩⟩;have AN:AnsN K _ _ _ _ _ _:=⟨⟨ag.o.cl,A.hF.1,A.hn,A.htk,A.hF.2⟩,⟨a4.o.cl,A.hR.1,A.hn,A.htk,A.hR.2⟩,⟨ap.o.cl,A.hX.1,A.hn,A.htk,A.hX.2⟩,⟨au.o.cl,A.hL.1,A.hn,A.htk,A.hL.2⟩,⟨ah.o.cl,A.hH.1,A.hn,A.htk,A.hH.2⟩,⟨ax.o.cl,A.hG.1,A.hn,A.htk,A.hG.2⟩,A.kFR,A.kRR,A.kXL,A.kLL,A.kHG,A.kGG,A.kHH,A.kGH⟩;have GO:=NG (P:=P) (w:=w) O a5 be G L;have GS:=P7 (P:=P) (w:=w) (base:=base) ai W B.k B.fn B.bd G;have GC:=Rt (P:=P) (w:=w) (base:=base) aa bk Z ad G;have GP:=(Ru (P:=P) (w:=w) (base:=base) al Z ad G).mono (show 3<=4 by decide)
 have GH:=(MJ bc aa GC ai GS bp O GO B.k B.x ah.o ah.i ah.b ax.o ax.i ax.b G).mono (show 5<=8 by decide)
 have GF:=NO bf aa GC al GP ai GS O GO a3 a6 ar W ag.o ag.i ag.b a4.o a4.i a4.b G;have GX:=Pd bn aa GC al GP ai GS bp O GO a3 bo a6 ar W ap.o ap.i ap.b au.o au.i au.b G;have GI:=Pf (P:=P) (w:=w) (base:=base) aw Z ad G;have GM:=MM (P:=P) (w:=w) (base:=base) as G;have GE:=(NM (P:=P) (w:=w) (base:=base) az ad G).mono (show 2<=3 by decide)
 have GA:=NK (P:=P) (w:=w) (base:=base) ba ay a7 G;have GK:=NP (k1:=0) a9 az GE ba GA;have GZ:=P5 (P:=P) (w:=w) (base:=base) aj Z ad G;have S:Subs P w K mg base _ _ _ _ _ _ _ _ _ _ _ _:=⟨Z,JS Z ad G,aw,GI,as,GM,a9,GK,a7,MN a7,ay,Xr ay a7⟩;have gC:=(NJ ak bb ae bl a8 S ax ag bg G).mono (show 7<=8 by decide)
 have gG:=(MH af ae a8 S ah bq au G).mono (show 7<=8 by decide)
 have gP:=NI V ae a4 aj GZ G;have gO:=Pb ac bb ae ap aw (GI.mono (by decide)) as (GM.mono (by decide)) G
 have gR:=Rp am V gP A.st G;have gT:=P9 ao bf GF bn GX V gP ac gO a4 ap au AN G;have gE:=(KM aq ae S ax ag bg ap G).mono (show 7<=8 by decide)
 have GY:=(KL (P:=P) (w:=w) (base:=base) av bh G).mono (show 2<=8 by decide)
 exact E4 F av GY bc GH bi bj ak gC af gG V (gP.mono (by decide)) am gR ao gT ac (gO.mono (by decide)) aq gE ah ax AN G
theorem Eo{l:OpenLaw}{q:Ae}{G:List Str}{XP:(Str->Option Aa)->Heap->Prop}{YP:Af->Heap->Prop}{d d0:DefRec}{K:Params->Frag}{c:Ab}(hn:l.most=some 63)(aa:d.params.defaults=[])(hY:∀(w:Af) (h:Heap),YP w h->(K w.params).In h)(O:(recsOf q).find? (λe=>e.name==("walking_order":Str))=some d0)(V:∀w:Af,tabIn (K w.params) "walking_order"=some (c,Pt))(Z:∀w:Af,(K w.params).lookup Pt=none)(F:∀(w:Af) (mg:Str->Option Aa) (fa:Ab) (h:Heap),(K w.params).In h->h.Ns zE mg->mg d.name=some (.ref fa) ->
 ∃fd:Ad,(∀(s:Ac) (u:Aa),BindsTo s fd ⟨[u],[]⟩ [("_law_script",u)])/\∀base:Heap,(K w.params).In base->base.Ns zE mg->PySem.W.CodeHd base c Pt->base.BuiltinsAt mg Pt->FnOk l.prog w (K w.params) mg base CX0 9 fa fd JU (Mg (K w.params) Pt)):
  PySem.W.WalkO q G XP YP l.row.toRowW d [] (λf vs=>PySem.call f vs):=
 L2.RU (n:=63) (k:=9) (x:="_law_script") (CX:=λ_=>CX0) (sp:=λw=>Mg (K w.params) Pt) hn (by decide) aa ⟨by decide,by decide⟩ hY O V Z F
  (λ_ _ a ns hl hS hT=>⟨a,ns,rfl,hS,hl,⟨#[],hT,by simp[TriplesOk],λpos cv e=>by simp[codeAmong] at e⟩,λ_=>rfl⟩) λ_ _ _ _ _ z=>z
section
variable {h:Heap}
theorem E6(X:K.In h)(G:h.Ns zE mg){V:Ab}(O:mg "law"=some (.ref fa)){dc:Aa}(a:nsIn K zE "law"=some (some (.ref f)))(l:K.lookup f=some ⟨oc,od,.func (fnOf "law" "law" (ZV sLaw) (ZB sLaw) (defScope sLaw) .none kV dc pm an cd ct),sl⟩)(c:codeIn K cd "law"=true)(k:keepIn K (.ref f)=true)(Z:tabIn K "walking_order"=some (V,Pt))(M:OA K mg)(P:Ae)(w:Af):
  ∃fd:Ad,(∀(s:Ac) (v:Aa),BindsTo s fd ⟨[v],[]⟩ [("_law_script",v)])/\∀base:Heap,K.In base->base.Ns zE mg->PySem.W.CodeHd base V Pt->base.BuiltinsAt mg Pt->FnOk P w K mg base CX0 9 fa fd JU (Mg K Pt):=by
 have e:=O.symm.trans (mg_of X G a);cases e;exact⟨fnOf "law" "law" (ZV sLaw) (ZB sLaw) (defScope sLaw) .none kV dc pm an cd ct,λs v=>.of_eq rfl,λbase X N hC hB=>E7 (YD l c k) M Z X N hC hB⟩
end
end
end At
open PySem PySem.W PyProof.Rows
structure PySem.W.Fast:Prop where(tw380373368170333765 tw3092184238013460265 tw18251769574834526372 tw15283021560639473950 tw10210515245636151227 tw6126441558405743576 tw15109767544393986180 tw4473910010535179570 tw4794151929695994794 tw13346733897543087390 tw17842290373812868781 tw6600019731868306484 tw2693738190248700993 tw1207027840097609333 tw14202186118905997937 tw6670845006698053412 tw3958124668493504918 tw7928001191439094941 tw3750423981208566184 tw12193654527637072430 tw13499078244175567937 tw16990713004499041754 tw5608745209811734905 tw14107850903178278760 tw942929217835643634 tw13560156473083797999 tw7179836039321349580 tw13926645375690942638 tw13146351287911781878 tw13924334193188632337 tw13117722425128427928 tw3964664171828341474 tw2207878487925880820 tw6159041535198406712 tw3636832279012942130 tw4636571699666842279 tw4568888599682264758 tw12047785527279484858 tw11597401321572014352 tw7196604268597476934 tw15906119088863917652 tw12522329523625705043 tw699284291624374432 tw18430217553226165836 tw3713215099676165014 tw12894123303107151702 tw4214002618530784544 tw7751295701319284598 tw13887039723437976405 tw617394652998329007 tw4401164067411459867 tw8670720614289282235 tw9364037692782342882 tw6592967673229293269 tw8977917303492295795 tw6606553220811654311 tw16092745200652276999 tw2309008170420184481 tw12523000821392320278 tw6385910473778845636 tw9239037355392415440 tw11463796495411026152 tw17573921552730283672 tw2196817549854054088 tw14682024622416236365 tw13731419168700414456 tw16382036652199283685 tw9373855914368708188 tw9040564474370001918 tw3818735829729159750 tw2687664229467058737 tw6906123971051552277 tw1206679748906253420 tw9118515272357779663 tw10079802759959035798 tw2812924461471108340 tw18029267569388118197 tw13624950249355850311 tw3918909655671035439 tw17407566736027914451 tw1784264765937477825 tw4335484445131607524 tw13578970477800981979 tw9912894701426555520 tw9336349836130613263 tw15996186938915398874 tw11360240499784250910 tw12933196290542002488 tw1438098791810242983 tw16238897547979989707 tw12327165493964555926 tw18354248005656888934 tw11921669087230753725 tw7925845569045091977 tw12416228355142749419 tw1388664205532332258 tw1913259524061928998 tw14583453642679423043 tw4218670768343576000 tw8245023013840922661 tw3087620681552757028 tw14658162417326300598 tw11504960548755422693 tw5133526217450790278 tw17779432341955984867 tw10407401721006329812 tw1943024815694966159 tw1132317501009912087 tw8103528088342997421 tw15459299453702832073 tw12585584058555410541 tw2673608635549569001 tw15398417480156243500 tw1193016436161471703 tw5945762379541873737 tw17174836274259474080 tw3238213936956162626 tw958728400016333420 tw2268784763445360827 tw12149683673922621160 tw13053363607229563777 tw14172261449956379780 tw6593501544733380562 tw10676819979107779166 tw14388070332829373811 tw17870394583598693376 tw72876880370109714 tw9779869616308579772 tw6512434615800833711 tw16282499150534286317 tw109780323351035745 tw181892409984152288 tw15646535472439105891 tw4641152200146609274 tw9650984955649303650 tw16459715138525965306 tw7463525556529629847 tw2467009614892664267 tw8892367812887266201 tw4565724060212257772 tw91468111820332538 tw4592948123548504384 tw8007603805805500498 tw11005384015632336650 tw1916773583521174627 tw14812685463617333022 tw2536053705545893285 tw18061623526284961601 tw538642506784656247 tw10145867597973900281 tw23608262342097820 tw15368226492924792032 tw6774094261016916788 tw1595102832962505100 tw15997988647423234044 tw18101674826125072268 tw106395246312867931 tw22284577519574689 tw2098627449430595274 tw18263434189834956215 tw4445105218470740671 tw9499734019274206772 tw10126914985156943634 tw8556250970244448754 tw12980023543555236818 tw15006608425250582433 tw437248970625292049 tw13159032315182954922 tw7526976373307797416 tw12757488317372778231 tw14785914095470894449 tw12449837266415680022 tw6753679265715785905 tw3123387251508693891 tw6388479324968440215 tw11642500484627415066 tw18037256679760526552 tw2085038277420607365 tw8371611814810295443 tw7607809016823594494 tw6780991188779373347 tw14285366593600118809 tw4554701673987263220 tw6712715578441450111 tw5905668716034242350 tw14492412143435168803 tw25483159306618658 tw8600703715004139592 tw10568469745377533483 tw14436363259106543237 tw16250969357284972479 tw18111353215106568822 tw9462011469682560213 tw9420359130697405545 tw5383406951449141211 tw16494707845258516744 tw12635998206039756385 tw15598333583048509626 tw13977910096190992540 tw4826732408055744027 tw15663874928139787932 tw7845407233991972549 tw9374522209087809233 tw2658984817402784546 tw8288711876803878656 tw415905565254086465 tw13048468478154155668 tw14853661024267242292 tw15517381793950099070 tw8889267486215470716 tw14621399756972391953 tw4420123313837492821 tw984168584663357376 tw11309760395757368025 tw4033065055973643703 tw3768125208090381820 tw4233758393658021148 tw1085842273466166586 tw8986549321002106746 tw8742348732065507837 tw17627374769821689631 tw3235400308059519165 tw8476156680352666216 tw9308541758429939600 tw13251156459459976185 tw13444162739831458552 tw1900712604867061083 tw5358089895707905764 tw10990408860672991897 tw11779210765388270634 tw1003261888603836729 tw1398717819613752253 tw14327323878286116654 tw1410150525467529209 tw10044919934290373931 tw457959196090426318 tw17466575990650057706 tw10801504783754983658 tw13440344673183708779 tw10495057163940005855 tw2658344833062151043 tw4726233056246117813 tw2058951437568754316 tw2045609173544040242 tw11056362572196659381 tw16419272142542514562 tw6986971622315606001 tw2358256886767826949 tw5425597198659383360 tw1189144274011441700 tw16847886156513797085 tw8286283387078031853 tw11401791485956021000 tw15299741387192357289 tw7907696202816484762 tw1791995005433629147 tw6768937966370164980 tw5824070753032458020 tw9249728975896496966 tw5890355010592751124 tw3890277932418571038 tw17137189277429096218 tw6388623419295572077 tw6423806438982378859 tw11245290774373000068 tw14860664169853061629 tw15790443254740411338 tw6020464551145163536 tw12100004224956223598 tw5394746750835194259 tw11702523127371626730 tw1513996640365898607 tw10162281603058424259 tw13982118035217888603 tw17975900876359438830 tw9652991136481710530 tw3799089046831912436 tw17143975931905978793 tw16075690543151749682 tw10639515591606067675 tw17970776267791417845 tw10860638682174056187 tw7285323265546094466 tw10233166621493887807 tw12602208342459115664 tw1612642514091419063 tw5033823250487012131 tw9482595230750983867 tw12976661695245323508 tw15833994315247137663 tw14626852552007406665 tw6557415134945672618 tw14316729844400580923 tw10874231117865829160 tw14952404082299120512 tw14067588778088289356 tw8461905419016755695 tw15657933948155543189 tw15114338408034096868 tw16679225781845029541 tw7818591303307833632 tw4719401494192169805 tw11337879179018129856 tw2662489957243912045 tw8559640516126482184 tw10663727093546632353 tw13232429437762318853 tw8210988013005849594 tw6664156393887950501 tw16409725117594377132 tw3414348820824886863 tw5470454629566295877 tw12671834304761387132 tw4065244730603200371 tw13575827631842291551 tw17996508455027636038 tw11130700983505631190 tw9826284077129186695 tw9116259376873484038 tw14476440614874217331 tw7046075979991574518 tw2063997135163565300 tw12534197902442962111 tw8972353388194566813 tw16205850254813314006:True)
set_option maxRecDepth 100000 in
set_option maxHeartbeats 0 in
theorem PySem.Challenge.cw_atmost_k07_answers_by_hand_holds : PySem.Challenge.rw_atmost_k07_answers_by_hand.Holds := by
 w_on;o_law;k_head;(case hw=>w_witness2)
 k_fill
 refine' At.Eo (l:=PySem.Challenge.rw_atmost_k07_answers_by_hand) rfl rfl (fun w h Y=>PySem.W.km_in_of Y) ?hRec ?hTab ?hNo ?hFF
 case hRec=>rfl
 case hTab =>
  intro w
  refine' At.Me ?ta ?tl ?th ?tm ?tv
  (case ta|tl=>k_is)
  (case th=>rfl)
  (case tm=>k_is)
  (case tv=>rfl)
 case hNo=>intro w;kernel_rfl
 case hFF =>
  intro w mg fa h KX G hmg
  refine' At.E6 KX G hmg ?la ?ll ?lc ?lk ?lt ?hDf _ w
  (case la=>k_is);(case ll=>k_is);(case lc=>k_is);(case lk=>k_is);(case lt=>refine' At.Me ?ta ?tl ?th ?tm ?tv;(case ta=>k_is);(case tl=>k_is);(case th=>rfl);(case tm=>k_is);(case tv=>rfl))
  refine' ⟨?g,?d1,?d2,?d3,?d4,?d5,?d6,?d7,?d8,?d9,?d10,?d11,?d12,?d13,?d14,?d15,?d16,?d17,?d18,?d19,?d20,?d21,?d22,?d23,?d24,?d25,?d26,?d27,?d28,?d29,?d30,?d31,?d32,?d33,?d34,?d35,?d36,?d37,?d38,?d39,?d40,?w,?b,?c1,?c2,?c3,?c4,?c5,?c6,?c7,?c8,?a⟩
  case g =>
   refine' At.EO KX G ?q18 ?q19 ?q20 ?q21 ?q22 ?q23 ?q24 ?q25 ?q26 ?q27 ?q28 ?q29 ?q30 ?q31 ?q32 ?q33 ?q34 ?q35 ?q36
   (case q18|q19|q20|q21|q22|q23|q24|q25|q26|q27|q28|q29|q30|q31=>k_is)
   (case q32|q33|q34|q35|q36=>kit_is)
  case w =>
   refine' At.RW KX G ?q37 ?q38 ?q39 ?q40 ?q41 ?q42 ?q43 ?q44 ?q45 ?q46 ?q47 ?q48 ?q49 ?q50 ?q51 ?q52 ?q53 ?q54 ?q55 ?q56 ?q57 ?q58 ?q59 ?q60 ?q61 ?q62 ?q63 ?q64 ?q65 ?q66 ?q67 ?q68 ?q69 ?q70 ?q71
   (case q37|q38|q39|q40|q41|q42|q43|q44|q45|q46|q47|q48|q49|q50|q51|q52|q53|q54|q55|q56|q57|q58|q59|q60|q61|q62|q63|q64|q65|q66|q67|q68|q69|q70|q71=>k_is)
  case b =>
   refine' At.Dq KX G ?q72 ?q73 ?q74 ?q75 ?q76 ?q77 ?q78 ?q1 ?q2 ?q3 ?q79 ?q80 ?q81 ?q4 ?q5 ?q6 ?q82 ?q83 ?q84 ?q85 ?q86 ?q87 ?q7 ?q88 ?q0 ?q8
   (case q72|q73|q74|q75|q76=>k_is)
   (case q77=>rfl)
   (case q78|q1|q2|q3|q79|q80|q81|q4|q5|q6|q82|q83|q84|q85|q86|q87|q7|q88|q0|q8=>k_is)
  case a =>
   refine' At.O9 KX G ?q89 ?q90 ?q91 ?q92 ?q93 ?q94 ?q95 ?q9 ?q96 ?q97 ?q98 ?q99 ?q100 ?q101 ?q102 ?q103 ?q104 ?q105 ?q106 ?q107 ?q108 ?q10 ?q11 ?q12 ?q13 ?q14 ?q15 ?q16 ?q17
   (case q89|q90|q91|q92|q93|q94|q95|q9|q96|q97|q98|q99|q100|q101|q102|q103|q104|q105|q106|q107|q108=>k_is)
   (case q10|q11|q12|q13|q14|q15|q16|q17=>kit_is)
  case d1 | d14 | d15 | d27 =>
   refine' At.Vz KX G ?a ?l ?c ?k (fun _ _ _ _ _ _ _ hl=>At.len1 hl fun _=>rfl)
   (case a|l|c|k=>k_is)
  case d2 | d3 | d4 | d6 | d9 | d10 | d11 | d16 | d19 | d22 | d23 | d26 | d30 | d31 | d32 =>
   refine' At.Vz KX G ?a ?l ?c ?k (fun _ _ _ _ _ _ _ hl=>At.len2 hl fun _ _=>rfl)
   (case a|l|c|k=>k_is)
  case d5 | d13 | d24 | d25 | d28 | d39 =>
   refine' At.Vz KX G ?a ?l ?c ?k (fun _ _ _ _ _ _ _ hl=>At.len4 hl fun _ _ _ _=>rfl)
   (case a|l|c|k=>k_is)
  case d7 | d8 | d12 | d17 | d18 | d20 | d21 | d29 | d33 | d37 =>
   refine' At.Vz KX G ?a ?l ?c ?k (fun _ _ _ _ _ _ _ hl=>At.len3 hl fun _ _ _=>rfl)
   (case a|l|c|k=>k_is)
  case d34 | d35 | d38 =>
   refine' At.Vz KX G ?a ?l ?c ?k (fun _ _ _ _ _ _ _ hl=>At.len6 hl fun _ _ _ _ _ _=>rfl)
   (case a|l|c|k=>k_is)
  case d36 =>
   refine' At.Vz KX G ?a ?l ?c ?k (fun _ _ _ _ _ _ _ hl=>At.len5 hl fun _ _ _ _ _=>rfl)
   (case a|l|c|k=>k_is)
  case d40 =>
   refine' At.Vz KX G ?a ?l ?c ?k (fun _ _ _ _ _ _ _ hl=>At.len0 hl rfl)
   (case a|l|c|k=>k_is)
  case c1 | c2 =>
   refine' At.NF KX G ?za ?zpg ?zhd ?zpo ?zsa ?zmk ?zkc ?zn0 ?zf0 ?zi0 ?zl0 ?zd0 ?zk0 ?zf1 ?zi1 ?zl1 ?zd1 ?zk1 (fun _ _ _ _ _ _ _ hl=>At.len2 hl fun _ _=>rfl) (fun _ _ _ _ _ _ _ hl=>At.len3 hl fun _ _ _=>rfl)
   (case za|zpg|zhd|zpo|zsa|zmk|zkc|zn0|zf0|zi0|zl0|zd0|zk0|zf1|zi1|zl1|zd1|zk1=>k_is)
  case c3 | c4 =>
   refine' At.NF KX G ?za ?zpg ?zhd ?zpo ?zsa ?zmk ?zkc ?zn0 ?zf0 ?zi0 ?zl0 ?zd0 ?zk0 ?zf1 ?zi1 ?zl1 ?zd1 ?zk1 (fun _ _ _ _ _ _ _ hl=>At.len2 hl fun _ _=>rfl) (fun _ _ _ _ _ _ _ hl=>At.len4 hl fun _ _ _ _=>rfl)
   (case za|zpg|zhd|zpo|zsa|zmk|zkc|zn0|zf0|zi0|zl0|zd0|zk0|zf1|zi1|zl1|zd1|zk1=>k_is)
  case c5 =>
   refine' At.NF KX G ?za ?zpg ?zhd ?zpo ?zsa ?zmk ?zkc ?zn0 ?zf0 ?zi0 ?zl0 ?zd0 ?zk0 ?zf1 ?zi1 ?zl1 ?zd1 ?zk1 (fun _ _ _ _ _ _ _ hl=>At.len2 hl fun _ _=>rfl) (fun _ _ _ _ _ _ _ hl=>At.len5 hl fun _ _ _ _ _=>rfl)
   (case za|zpg|zhd|zpo|zsa|zmk|zkc|zn0|zf0|zi0|zl0|zd0|zk0|zf1|zi1|zl1|zd1|zk1=>k_is)
  case c6 | c7 | c8 =>
   refine' At.OH KX G ?za ?zpg ?zhd ?zpo ?zsa ?zmk ?zkc ?zn0 ?zn1 ?zf0 ?zi0 ?zl0 ?zd0 ?zk0 ?zf1 ?zi1 ?zl1 ?zd1 ?zk1 (fun _ _ _ _ _ _ _ hl=>At.len3 hl fun _ _ _=>rfl) (fun _ _ _ _ _ _ _ hl=>At.len5 hl fun _ _ _ _ _=>rfl)
   (case za|zpg|zhd|zpo|zsa|zmk|zkc|zn0|zn1|zf0|zi0|zl0|zd0|zk0|zf1|zi1|zl1|zd1|zk1=>k_is)
