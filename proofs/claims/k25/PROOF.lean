import PyProof.Rows.All
import Wide.All
import OpenK.AllK
import Wide.FinOn
import Lean
import PyProof.EqAt
import PyProof.EqKinds
import PyProof.TupleCall
import PyProof.NeKinds
import KE.KSortTup
import PySem.Challenge.RW_overfold_k25_whole_written_and_read
set_option Elab.async false
set_option linter.all false
set_option maxRecDepth 100000
set_option maxHeartbeats 1000000
section
open PySem PyProof.Rows
abbrev Aj:=@List.length_map
abbrev Aq:=@Heap.get?_push_of_some
abbrev Ax:=@List.mem_singleton
abbrev Az:=@decide_eq_true
abbrev AJ:=@of_decide_eq_true
abbrev AQ:=@wpAny_bind
abbrev AX:=@wpAny_pure
abbrev AZ:=@Nat.le_refl
abbrev Bj:=@List.length_append
abbrev Bq:=@List.mem_append
abbrev Bz:=@List.getElem?_eq_getElem
abbrev BJ:=@List.map_append
abbrev BQ:=@List.mem_of_getElem?
abbrev BX:=@List.mem_cons_of_mem
abbrev BZ:=@List.mem_cons_self
abbrev Cj:=@List.mem_cons
abbrev Cq:=@Array.length_toList
abbrev Cz:=@List.length_cons
abbrev CJ:=@List.map_cons
abbrev CQ:=@List.getElem?_map
abbrev CZ:=@List.length_take
abbrev Dj:=@Str.length_append
abbrev Dq:=@Int.toNat_natCast
abbrev Dz:=@wpAny_mono
abbrev DJ:=@Heap.get?_push_size
abbrev DQ:=@List.take_of_length_le
abbrev DZ:=@Heap.get?_update_other
abbrev Ej:=@Heap.lt_size
abbrev Ex:=@List.getElem?_eq_some_iff
abbrev Ez:=@List.mem_map
abbrev EJ:=@Option.some.inj
abbrev EQ:=@List.length_drop
abbrev EX:=@List.take_succ
abbrev EZ:=@Int.emod_nonneg
abbrev Fj:=@Int.emod_lt_of_pos
abbrev Fq:=@wpAny_newObj_type
abbrev Fx:=@Bool.false_ne_true
abbrev Fz:=@decide_eq_false
abbrev FJ:=@Nat.zero_le
abbrev FQ:=@Nat.le_trans
abbrev FX:=@Nat.le_succ
end
namespace Srt
open PySem PyProof.Rows
set_option autoImplicit false
def d52:Bool->Keyed->Array Keyed->Nat->Nat->Nat->StateT SortSt Sem (Option Nat):=sortPriv% PySem.Builtin.gallop
def f05:Array Keyed->Array Keyed->StateT SortSt Sem (Array Keyed):=sortPriv% PySem.Builtin.mergeLo
def f07:Array Keyed->Array Keyed->StateT SortSt Sem (Array Keyed):=sortPriv% PySem.Builtin.mergeHi
structure Sm (st st':SortSt):Prop where
 kind:kindOf st'=kindOf st
 arr:arrOf st'=arrOf st
 pend:pendingOf st'=pendingOf st
 fail:failedOf st'=failedOf st
theorem Sm.refl (st:SortSt):Sm st st:=⟨rfl,rfl,rfl,rfl⟩
theorem Sm.trans {a b c:SortSt}(h:Sm a b)(h':Sm b c):Sm a c:=⟨h'.kind.trans h.kind,h'.arr.trans h.arr,h'.pend.trans h.pend,h'.fail.trans h.fail⟩
section
variable {prog:Program}{w:World}{A:Around}{E:Value->Shared->Prop}{s:Shared}
structure Cmp (prog:Program)(w:World)(A:Around) (E:Value->Shared->Prop)(s:Shared)(O:KeyOrd)(key:Keyed->O.α)(D:Keyed->Prop)(kd:SortKind):Prop where
 lt:∀(x y:Keyed)(st:SortSt)(Q:Option Bool->SortSt->Prop),D x->D y->kindOf st=kd->Q (some (O.blt (key x) (key y))) st->wpS (model prog w) A E s (lt' x y) Q st
variable {O:KeyOrd}{key:Keyed->O.α}{D:Keyed->Prop}{kd:SortKind}
theorem a46 {arr:Array Keyed}{i:Nat}{x:Keyed}{st:SortSt}{Q:Keyed->SortSt->Prop}(hi:arr[i]?=some x)(h:Q x st):wpS (model prog w) A E s (elem' arr i) Q st:=by
 rw[elem'_eq,hi]
 exact wpS_pure h
theorem c07 {left:Bool}{x:Keyed}{arr:Array Keyed}{base n hint:Nat}{st:SortSt}{Q:Option Nat->SortSt->Prop}{b:Nat->Bool}
 (hb:∀ i,i < n->∀ Q:Option Bool->SortSt->Prop,Q (some (b i)) st->wpS (model prog w) A E s (do
   let y ← elem' arr (base+i)
   if left=true then lt' y x else do
    let r ← lt' x y
    pure (Option.map (fun z=>!z) r)) Q st)
 (hm:∀ i j,i<=j->j < n->b j=true->b i=true)(hh:hint < n)
 (h:∀ k,k<=n->(∀ i,i < k->b i=true)->(∀ i,k<=i->i < n->b i=false)->Q (some k) st):wpS (model prog w) A E s (d52 left x arr base n hint) Q st:=by
 have hm':∀ i j,i<=j->j < n->b i=false->b j=false:=fun i j h1 h2 h3=>by
  cases q:b j with
  | false=>rfl
  | true=>rw[hm i j h1 h2 q] at h3;cases h3
 unfold d52
 k_delta "gallop"
 refine wpS_bind (hb hint hh _ ?_)
 dsimp only
 have last:∀ lo hi:Nat,lo<=hi->hi<=n->(∀ i,i < lo->b i=true)->(∀ i,hi<=i->i < n->b i=false)->∀(f:Option (Option Nat)×Nat×Nat->StateT SortSt Sem (Option Nat)),(∀ k,Q (some k) st->wpS (model prog w) A E s (f (none,k,k)) Q st) ->
  ∀ g:Nat->Option (Option Nat)×Nat×Nat->StateT SortSt Sem (ForInStep (Option (Option Nat)×Nat×Nat)),
  (∀(i lo hi:Nat)(R:ForInStep (Option (Option Nat)×Nat×Nat)->SortSt->Prop),hi<=n->(lo ≥ hi->R (.done (none,lo,hi)) st)->(lo < hi->(b (lo+(hi-lo) / 2)=true->R (.yield (none,lo+(hi-lo) / 2+1,hi)) st)/\(b (lo+(hi-lo) / 2)=false->R (.yield (none,lo,lo+(hi-lo) / 2)) st))->wpS (model prog w) A E s (g i (none,lo,hi)) R st) ->
  wpS (model prog w) A E s (forIn [:n] ((none,lo,hi):Option (Option Nat)×Nat×Nat) g >>= f) Q st:=by
  intro lo hi h1 h2 h3 h4 f hf g hg
  refine wpS_bind (wpS_forRange (a:=0) (b:=n) (I:=fun x c st'=>st'=st/\∃ lo hi,c=(none,lo,hi)/\lo<=hi/\hi<=n/\hi-lo<=n-x/\(∀ i,i < lo->b i=true)/\(∀ i,hi<=i->i < n->b i=false)) ?step ?fin ⟨rfl,lo,hi,rfl,h1,h2,by omega,h3,h4⟩)
  case fin =>
   rintro c st' ⟨rfl,lo,hi,rfl,h1,h2,h3,h4,h5⟩
   have:lo=hi:=by omega
   subst this
   exact hf lo (h lo h2 h4 h5)
  case step =>
   rintro x c st' _ hx ⟨rfl,lo,hi,rfl,h1,h2,h3,h4,h5⟩
   refine hg x lo hi _ h2 (fun q=>?_) (fun q=>⟨fun q1=>?_,fun q1=>?_⟩)
   ·have:lo=hi:=by omega
    subst this
    exact hf lo (h lo h2 h4 h5)
   ·exact⟨rfl,_,_,rfl,by omega,h2,by omega,fun i hi'=>hm i _ (by omega) (by omega) q1,h5⟩
   ·exact⟨rfl,_,_,rfl,by omega,by omega,by omega,h4,fun i hi1 hi2=>hm' _ i hi1 hi2 q1⟩
 have lstep:∀(i lo hi:Nat)(R:ForInStep (Option (Option Nat)×Nat×Nat)->SortSt->Prop),hi<=n->(lo ≥ hi->R (.done (none,lo,hi)) st)->(lo < hi->(b (lo+(hi-lo) / 2)=true->R (.yield (none,lo+(hi-lo) / 2+1,hi)) st)/\(b (lo+(hi-lo) / 2)=false->R (.yield (none,lo,lo+(hi-lo) / 2)) st)) ->
  wpS (model prog w) A E s (if lo ≥ hi then pure (.done (none,lo,hi)) else do
   let z ← (do
    let y ← elem' arr (base+(lo+(hi-lo) / 2))
    if left=true then lt' y x else do
     let r ← lt' x y
     pure (Option.map (fun z=>!z) r))
   match z with
   | some more=>if more=true then pure (.yield (none,lo+(hi-lo) / 2+1,hi)) else pure (.yield (none,lo,lo+(hi-lo) / 2))
   | x=>pure (.done (some none,lo,hi))) R st:=by
  intro i lo hi R h2 h3 h4
  by_cases q:lo ≥ hi
  ·rw[if_pos q]
   exact wpS_pure (h3 q)
  ·rw[if_neg q]
   refine wpS_bind (hb _ (by omega) _ ?_)
   obtain⟨k1,k2⟩:=h4 (by omega)
   cases q1:b (lo+(hi-lo) / 2) with
   | true=>exact wpS_pure (k1 q1)
   | false=>exact wpS_pure (k2 q1)
 cases hr:b hint with
 | true =>
  rw[if_pos rfl]
  refine wpS_bind (wpS_forRange (a:=0) (b:=n) (I:=fun x c st'=>st'=st/\∃ l o,c=(none,l,o)/\l < o/\x < o/\hint+l < n/\b (hint+l)=true) ?step ?fin ⟨rfl,0,1,rfl,by omega,by omega,by omega,hr⟩)
  case fin =>
   rintro c st' ⟨rfl,l,o,rfl,h1,h2,h3,h4⟩
   dsimp only
   have e:hint+min o (n-hint)=n:=by omega
   rw[e]
   exact last _ _ (by omega) (AZ _) (fun i hi=>hm i _ (by omega) h3 h4) (fun i h1 h2=>absurd h1 (by omega)) _ (fun k q=>wpS_pure q) _ lstep
  case step =>
   rintro x c st' _ hx ⟨rfl,l,o,rfl,h1,h2,h3,h4⟩
   dsimp only
   by_cases q:o ≥ n-hint
   ·rw[if_pos q]
    refine wpS_pure ?_
    dsimp only
    have e:hint+min o (n-hint)=n:=by omega
    rw[e]
    exact last _ _ (by omega) (AZ _) (fun i hi=>hm i _ (by omega) h3 h4) (fun i h1 h2=>absurd h1 (by omega)) _ (fun k q=>wpS_pure q) _ lstep
   ·rw[if_neg q]
    refine wpS_bind (hb _ (by omega) _ ?_)
    cases q1:b (hint+o) with
    | true=>exact wpS_pure ⟨rfl,_,_,rfl,by omega,by omega,by omega,q1⟩
    | false =>
     refine wpS_pure ?_
     dsimp only
     have e:hint+min o (n-hint)=hint+o:=by omega
     rw[e]
     exact last _ _ (by omega) (by omega) (fun i hi=>hm i _ (by omega) h3 h4) (fun i h1 h2=>hm' _ i h1 h2 q1) _ (fun k q=>wpS_pure q) _ lstep
 | false =>
  rw[if_neg Fx]
  refine wpS_bind (wpS_forRange (a:=0) (b:=n) (I:=fun x c st'=>st'=st/\∃ l o,c=(none,l,o)/\l < o/\x < o/\l<=hint/\b (hint-l)=false) ?step ?fin ⟨rfl,0,1,rfl,by omega,by omega,by omega,hr⟩)
  case fin =>
   rintro c st' ⟨rfl,l,o,rfl,h1,h2,h3,h4⟩
   dsimp only
   have e:hint+1-min o (hint+1)=0:=by omega
   rw[e]
   exact last _ _ (by omega) (by omega) (fun i hi=>absurd hi (by omega)) (fun i h1 h2=>hm' _ i h1 h2 h4) _ (fun k q=>wpS_pure q) _ lstep
  case step =>
   rintro x c st' _ hx ⟨rfl,l,o,rfl,h1,h2,h3,h4⟩
   dsimp only
   by_cases q:o ≥ hint+1
   ·rw[if_pos q]
    refine wpS_pure ?_
    dsimp only
    have e:hint+1-min o (hint+1)=0:=by omega
    rw[e]
    exact last _ _ (by omega) (by omega) (fun i hi=>absurd hi (by omega)) (fun i h1 h2=>hm' _ i h1 h2 h4) _ (fun k q=>wpS_pure q) _ lstep
   ·rw[if_neg q]
    refine wpS_bind (hb _ (by omega) _ ?_)
    cases q1:b (hint-o) with
    | false=>exact wpS_pure ⟨rfl,_,_,rfl,by omega,by omega,by omega,q1⟩
    | true =>
     refine wpS_pure ?_
     dsimp only
     have e:hint+1-min o (hint+1)=hint+1-o:=by omega
     rw[e]
     exact last _ _ (by omega) (by omega) (fun i hi=>hm i (hint-o) (by omega) (by omega) q1) (fun i h1 h2=>hm' _ i h1 h2 h4) _ (fun k q=>wpS_pure q) _ lstep
end
end Srt
namespace Srt
open PySem PyProof.Rows
set_option autoImplicit false
structure MM (R:Keyed->Keyed->Prop) (la lb o:List Keyed) (i j:Nat):Prop where
 perm:o.Perm (la.take i++lb.take j)
 srt:o.Pairwise R
 ra:∀ x∈o,∀ y∈la.drop i,R x y
 rb:∀ x∈o,∀ y∈lb.drop j,R x y
section
variable {R:Keyed->Keyed->Prop}{la lb o:List Keyed}{i j:Nat}
theorem MM.nil:MM R la lb [] 0 0:=⟨by simp,.nil,fun _ h=>(nomatch h),fun _ h=>(nomatch h)⟩
theorem MM.swap (h:MM R la lb o i j):MM R lb la o j i:=⟨h.perm.trans List.perm_append_comm,h.srt,h.rb,h.ra⟩
theorem MM.chunk (h:MM R la lb o i j)(ha:la.Pairwise R){k:Nat}(hx:∀ x∈(la.drop i).take k,∀ y∈lb.drop j,R x y):MM R la lb (o++(la.drop i).take k) (i+k) j:=by
 have ha1:((la.drop i).take k++(la.drop i).drop k).Pairwise R:=by
  rw[List.take_append_drop]
  exact ha.sublist (List.drop_sublist _ _)
 rw[List.drop_drop] at ha1
 obtain⟨p1,p2,p3⟩:=List.pairwise_append.mp ha1
 have sub:∀ y∈(la.drop i).take k,y∈la.drop i:=fun y hy=>List.mem_of_mem_take hy
 have sub2:∀ y∈la.drop (i+k),y∈la.drop i:=fun y hy=>by
  rw[← List.drop_drop] at hy
  exact List.mem_of_mem_drop hy
 refine⟨?_,List.pairwise_append.mpr ⟨h.srt,p1,fun x hx y hy=>h.ra x hx y (sub y hy)⟩,fun x hx' y hy=>?_,fun x hx' y hy=>?_⟩
 ·rw[List.take_add]
  refine(h.perm.append_right _).trans ?_
  rw[List.append_assoc,List.append_assoc]
  exact(List.perm_append_comm).append_left _
 ·rcases Bq.mp hx' with q | q
  ·exact h.ra x q y (sub2 y hy)
  ·exact p3 x q y hy
 ·rcases Bq.mp hx' with q | q
  ·exact h.rb x q y hy
  ·exact hx x q y hy
theorem MM.fin (h:MM R la lb o i j)(ha:la.Pairwise R)(hb:lb.Pairwise R)(hx:∀ x∈la.drop i,∀ y∈lb.drop j,R x y) :
 (o++la.drop i++lb.drop j).Perm (la++lb)/\(o++la.drop i++lb.drop j).Pairwise R:=by
 have h1:=h.chunk ha (k:=la.length) (by
  rw[DQ (by rw[EQ];omega)]
  exact hx)
 have h2:=h1.swap.chunk hb (k:=lb.length) (by
  intro x _ y hy
  rw[List.drop_of_length_le (by omega)] at hy
  cases hy)
 have h3:=h2.swap
 rw[DQ (by rw[EQ];omega),DQ (by rw[EQ];omega)] at h3
 refine⟨h3.perm.trans (.of_eq ?_),h3.srt⟩
 rw[DQ (by omega),DQ (by omega)]
theorem MM.finB (h:MM R la lb o i j)(ha:la.Pairwise R)(hb:lb.Pairwise R)(hx:∀ x∈lb.drop j,∀ y∈la.drop i,R x y) :
 (o++lb.drop j++la.drop i).Perm (la++lb)/\(o++lb.drop j++la.drop i).Pairwise R :=
 have q:=h.swap.fin hb ha hx
 ⟨q.1.trans List.perm_append_comm,q.2⟩
end
def at' (xs:Array Keyed) (i:Nat):Keyed:=xs.getD i (.none,.none)
theorem a48 {xs:Array Keyed}{i:Nat}(h:i < xs.size):xs[i]?=some (at' xs i):=by
 unfold at' Array.getD
 rw[dif_pos h,getElem?_pos xs i h]
 rfl
theorem at_toList {xs:Array Keyed}{i:Nat}(h:i < xs.size):xs.toList[i]?=some (at' xs i):=by
 rw[Array.getElem?_toList]
 exact a48 h
theorem d20 {xs:Array Keyed}{y:Keyed}{i:Nat}(h:y∈xs.toList.drop i):∃ j,i<=j/\j < xs.size/\y=at' xs j:=by
 obtain⟨k,hk,e⟩:=List.mem_iff_getElem.mp h
 rw[EQ,Cq] at hk
 refine⟨i+k,by omega,by omega,?_⟩
 have q:=at_toList (xs:=xs) (i:=i+k) (by omega)
 rw[List.getElem_drop] at e
 rw[Bz (by rw[Cq];omega)] at q
 rw[← e]
 exact EJ q
theorem b18 {xs:Array Keyed}{y:Keyed}{i k:Nat}(h:y∈(xs.toList.drop i).take k):∃ j,i<=j/\j < i+k/\j < xs.size/\y=at' xs j:=by
 obtain⟨m,hm,e⟩:=List.mem_iff_getElem.mp h
 rw[CZ,EQ,Cq] at hm
 refine⟨i+m,by omega,by omega,by omega,?_⟩
 have q:=at_toList (xs:=xs) (i:=i+m) (by omega)
 rw[List.getElem_take,List.getElem_drop] at e
 rw[Bz (by rw[Cq];omega)] at q
 rw[← e]
 exact EJ q
theorem c80 {xs:Array Keyed}{i:Nat}(h:i < xs.size):(xs.toList.drop i).take 1=[at' xs i]:=by
 have q:=at_toList h
 rw[List.drop_eq_getElem_cons (by rw[Cq];exact h)]
 rw[Bz (by rw[Cq];exact h)] at q
 rw[← EJ q]
 rfl
theorem a60 (xs:Array Keyed) (i j:Nat):(xs.extract i j).toList=(xs.toList.drop i).take (j-i):=by
 rw[Array.toList_extract,List.extract_eq_take_drop]
theorem d61 (xs:Array Keyed) (i:Nat):(xs.extract i xs.size).toList=xs.toList.drop i:=by
 rw[a60,DQ (by rw[EQ,Cq];omega)]
section
variable {prog:Program}{w:World}{A:Around}{E:Value->Shared->Prop}{s:Shared}
variable {O:KeyOrd}{key:Keyed->O.α}{D:Keyed->Prop}{kd:SortKind}
def LE (key:Keyed->O.α)(x y:Keyed):Prop:=O.kle (key x) (key y)
def LT (key:Keyed->O.α)(x y:Keyed):Prop:=O.klt (key x) (key y)
def Sg (key:Keyed->O.α)(xs:Array Keyed) (lo hi:Nat):Prop:=∀ i j,lo<=i->i<=j->j < hi->LE key (at' xs i) (at' xs j)
def AllD (D:Keyed->Prop)(xs:Array Keyed):Prop:=∀ i,i < xs.size->D (at' xs i)
theorem LE.trans {x y z:Keyed}(h:LE key x y)(h':LE key y z):LE key x z:=KeyOrd.kle_trans h h'
theorem LT.le {x y:Keyed}(h:LT key x y):LE key x y:=KeyOrd.kle_of_klt h
theorem Sg.pw {xs:Array Keyed}(h:Sg key xs 0 xs.size):xs.toList.Pairwise (LE key):=by
 rw[List.pairwise_iff_getElem]
 intro i j hi hj hij
 rw[Cq] at hi hj
 have q:=h i j (by omega) (by omega) hj
 have e1:=at_toList hi
 have e2:=at_toList hj
 rw[Bz (by rw[Cq];omega)] at e1 e2
 rw[EJ e1,EJ e2]
 exact q
theorem b92 (C:Cmp prog w A E s O key D kd){x:Keyed}{arr:Array Keyed}{base n hint:Nat}{st:SortSt}{Q:Option Nat->SortSt->Prop}(hk:kindOf st=kd)(hx:D x)(hD:AllD D arr)(hn:base+n<=arr.size)(hs:Sg key arr base (base+n))(hh:hint < n)
 (h:∀ k,k<=n->(∀ i,base<=i->i < base+k->LE key (at' arr i) x)->(∀ i,base+k<=i->i < base+n->LT key x (at' arr i))->Q (some k) st):wpS (model prog w) A E s (d52 false x arr base n hint) Q st:=by
 refine c07 (b:=fun i=>!O.blt (key x) (key (at' arr (base+i)))) (fun i hi Q hQ=>?_) (fun i j hij hj q=>?_) hh (fun k hk h1 h2=>h k hk (fun i i1 i2=>?_) fun i i1 i2=>?_)
 ·refine wpS_bind (a46 (a48 (by omega)) ?_)
  rw[if_neg Fx]
  exact wpS_bind (C.lt _ _ _ _ hx (hD _ (by omega)) hk (wpS_pure hQ))
 ·have q1:LE key (at' arr (base+j)) x:=by
   unfold LE KeyOrd.kle
   simpa using q
  have q2:LE key (at' arr (base+i)) x:=LE.trans (hs _ _ (by omega) (by omega) (by omega)) q1
  unfold LE KeyOrd.kle at q2
  simpa using q2
 ·have q:=h1 (i-base) (by omega)
  rw[show base+(i-base)=i by omega] at q
  unfold LE KeyOrd.kle
  simpa using q
 ·have q:=h2 (i-base) (by omega) (by omega)
  rw[show base+(i-base)=i by omega] at q
  unfold LT KeyOrd.klt
  simpa using q
theorem b99 (C:Cmp prog w A E s O key D kd){x:Keyed}{arr:Array Keyed}{base n hint:Nat}{st:SortSt}{Q:Option Nat->SortSt->Prop}(hk:kindOf st=kd)(hx:D x)(hD:AllD D arr)(hn:base+n<=arr.size)(hs:Sg key arr base (base+n))(hh:hint < n)
 (h:∀ k,k<=n->(∀ i,base<=i->i < base+k->LT key (at' arr i) x)->(∀ i,base+k<=i->i < base+n->LE key x (at' arr i))->Q (some k) st):wpS (model prog w) A E s (d52 true x arr base n hint) Q st:=by
 refine c07 (b:=fun i=>O.blt (key (at' arr (base+i))) (key x)) (fun i hi Q hQ=>?_) (fun i j hij hj q=>?_) hh (fun k hk h1 h2=>h k hk (fun i i1 i2=>?_) fun i i1 i2=>?_)
 ·refine wpS_bind (a46 (a48 (by omega)) ?_)
  rw[if_pos rfl]
  exact C.lt _ _ _ _ (hD _ (by omega)) hx hk hQ
 ·exact KeyOrd.klt_of_kle_of_klt (hs _ _ (by omega) (by omega) (by omega)) q
 ·have q:=h1 (i-base) (by omega)
  rw[show base+(i-base)=i by omega] at q
  exact q
 ·have q:=h2 (i-base) (by omega) (by omega)
  rw[show base+(i-base)=i by omega] at q
  exact q
end
end Srt
namespace Srt
open PySem PyProof.Rows
set_option autoImplicit false
def i11:Nat->StateT SortSt Sem Unit:=sortPriv% PySem.Builtin.setMinGallop
section
variable {prog:Program}{w:World}{A:Around}{E:Value->Shared->Prop}{s:Shared}
variable {O:KeyOrd}{key:Keyed->O.α}{D:Keyed->Prop}{kd:SortKind}
theorem b63 {g:Nat}{st:SortSt}{Q:Unit->SortSt->Prop}(h:∀ st',Sm st st'->Q () st'):wpS (model prog w) A E s (i11 g) Q st :=
 wpS_modify (h _ ⟨rfl,rfl,rfl,rfl⟩)
theorem b43 {α:Type}{m:StateT SortSt Sem α}{Q:α->SortSt->Prop}{st:SortSt}(P:(α->SortSt->Prop)->Prop)(h1:P Q)(h2:P Q->wpS (model prog w) A E s m Q st):wpS (model prog w) A E s m Q st:=h2 h1
abbrev MA (key:Keyed->O.α)(a b out:Array Keyed) (i j:Nat):Prop:=MM (LE key) a.toList b.toList out.toList i j
variable {a b out:Array Keyed}{i j:Nat}
theorem MM.oneA (h:MA key a b out i j)(sa:Sg key a 0 a.size)(hi:i < a.size)(hx:∀ k,j<=k->k < b.size->LE key (at' a i) (at' b k)):MA key a b (out.push (at' a i)) (i+1) j:=by
 have q:=h.chunk sa.pw (k:=1) (by
  intro x hx' y hy
  rw[c80 hi] at hx'
  obtain⟨k,k1,k2,rfl⟩:=d20 hy
  rw[Ax.mp hx']
  exact hx k k1 k2)
 rw[c80 hi] at q
 show MM _ _ _ (out.push (at' a i)).toList _ _
 rw[Array.toList_push]
 exact q
theorem MM.oneB (h:MA key a b out i j)(sb:Sg key b 0 b.size)(hj:j < b.size)(hx:∀ k,i<=k->k < a.size->LE key (at' b j) (at' a k)):MA key a b (out.push (at' b j)) i (j+1) :=
 (MM.oneA (a:=b) (b:=a) h.swap sb hj hx).swap
theorem MM.someA (h:MA key a b out i j)(sa:Sg key a 0 a.size){k:Nat}(hx:∀ m,i<=m->m < i+k->m < a.size->∀ n,j<=n->n < b.size->LE key (at' a m) (at' b n)):MA key a b (out++a.extract i (i+k)) (i+k) j:=by
 have q:=h.chunk sa.pw (k:=k) (by
  intro x hx' y hy
  obtain⟨m,m1,m2,m3,rfl⟩:=b18 hx'
  obtain⟨n,n1,n2,rfl⟩:=d20 hy
  exact hx m m1 m2 m3 n n1 n2)
 show MM _ _ _ (out++a.extract i (i+k)).toList _ _
 rw[Array.toList_append,a60,show i+k-i=k by omega]
 exact q
theorem MM.someB (h:MA key a b out i j)(sb:Sg key b 0 b.size){k:Nat}(hx:∀ m,j<=m->m < j+k->m < b.size->∀ n,i<=n->n < a.size->LE key (at' b m) (at' a n)):MA key a b (out++b.extract j (j+k)) i (j+k) :=
 (MM.someA (a:=b) (b:=a) h.swap sb hx).swap
theorem MM.doneA (h:MA key a b out i j)(sa:Sg key a 0 a.size)(sb:Sg key b 0 b.size)(he:a.size<=i∨b.size<=j) :
 (out++a.extract i a.size++b.extract j b.size).toList.Perm (a.toList++b.toList)/\(out++a.extract i a.size++b.extract j b.size).toList.Pairwise (LE key):=by
 rw[Array.toList_append,Array.toList_append,d61,d61]
 refine h.fin sa.pw sb.pw fun x hx y hy=>?_
 obtain⟨m,m1,m2,rfl⟩:=d20 hx
 obtain⟨n,n1,n2,rfl⟩:=d20 hy
 omega
theorem MM.doneL (h:MA key a b out i j)(sa:Sg key a 0 a.size)(sb:Sg key b 0 b.size)(he:i+1=a.size)(h9:∀ j,j < b.size->LT key (at' b j) (at' a (a.size-1))) :
 (out++b.extract j b.size++a.extract i a.size).toList.Perm (a.toList++b.toList)/\(out++b.extract j b.size++a.extract i a.size).toList.Pairwise (LE key):=by
 rw[Array.toList_append,Array.toList_append,d61,d61]
 refine h.finB sa.pw sb.pw fun x hx y hy=>?_
 obtain⟨m,m1,m2,rfl⟩:=d20 hx
 obtain⟨n,n1,n2,rfl⟩:=d20 hy
 have:=h9 m m2
 rw[show n=a.size-1 by omega]
 exact this.le
theorem e46 (C:Cmp prog w A E s O key D kd){st:SortSt}{Q:Array Keyed->SortSt->Prop}(hk:kindOf st=kd)(Da:AllD D a)(Db:AllD D b)(sa:Sg key a 0 a.size)(sb:Sg key b 0 b.size)(ha:0 < a.size)(hb:0 < b.size)
 (h0:LT key (at' b 0) (at' a 0))(h9:∀ j,j < b.size->LT key (at' b j) (at' a (a.size-1)))
 (h:∀ out st',Sm st st'->out.toList.Perm (a.toList++b.toList)->out.toList.Pairwise (LE key)->Q out st'):wpS (model prog w) A E s (f05 a b) Q st:=by
 unfold f05
 k_delta "mergeLo"
 refine wpS_bind (wpS_lift (wpAny_rule ⟨rfl,?_⟩))
 try extract_lets
 refine wpS_bind (a46 (a48 hb) ?_)
 try extract_lets
 have M0:MA key a b #[at' b 0] 0 1:=MM.oneB (out:=#[]) MM.nil sb hb fun k _ hk=>h0.le.trans (sa 0 k (by omega) (by omega) hk)
 have fD:∀ {out:Array Keyed}{i j:Nat}{st':SortSt},Sm st st'->MA key a b out i j->(a.size<=i∨b.size<=j)->Q (out++a.extract i a.size++b.extract j b.size) st':=fun sm m he=>h _ _ sm (m.doneA sa sb he).1 (m.doneA sa sb he).2
 have fL:∀ {out:Array Keyed}{i j:Nat}{st':SortSt},Sm st st'->MA key a b out i j->i+1=a.size->Q (out++b.extract j b.size++a.extract i a.size) st':=fun sm m he=>h _ _ sm (m.doneL sa sb he h9).1 (m.doneL sa sb he h9).2
 by_cases e1:(1 == b.size)=true
 ·rw[if_pos e1]
  exact wpS_pure (fD (Sm.refl _) M0 (.inr (by have:=eq_of_beq e1;omega)))
 rw[if_neg e1]
 have e1':1 < b.size:=by
  have:¬ 1=b.size:=fun q=>e1 (by rw[← q];rfl)
  omega
 by_cases e2:(0+1 == a.size)=true
 ·rw[if_pos e2]
  exact wpS_pure (fL (Sm.refl _) M0 (eq_of_beq e2))
 rw[if_neg e2]
 have e2':0+1 < a.size:=by
  have:¬ 0+1=a.size:=fun q=>e2 (by rw[← q];rfl)
  omega
 refine wpS_bind (wpS_get ?_)
 try extract_lets
 refine wpS_bind (wpS_mono (wpS_forRange (a:=0) (b:=a.size+b.size)
  (I:=fun x c st'=>Sm st st'/\∃ out i j mg,c=(none,out,i,j,mg)/\MA key a b out i j/\i+1 < a.size/\j < b.size/\x<=i+j)
  (Q:=fun c st'=>∃ r rest,c=(some r,rest)/\Q r st') ?step ?fin ⟨Sm.refl _,_,_,_,_,rfl,M0,e2',e1',by omega⟩) ?post)
 case post =>
  rintro c st' ⟨r,rest,rfl,hq⟩
  exact wpS_pure hq
 case fin =>
  rintro c st' ⟨_,out,i,j,mg,_,_,h1,h2,h3⟩
  omega
 case step =>
  rintro x c st1 _ hx ⟨sm1,out,i,j,mg,rfl,m1,hi,hj,hp⟩
  try extract_lets
  refine wpS_bind (wpS_mono (wpS_forRange (a:=0) (b:=a.size+b.size)
   (I:=fun _ c st'=>Sm st st'/\∃ out i j ac bc,c=(none,out,i,j,ac,bc)/\MA key a b out i j/\i+1 < a.size/\j < b.size/\x<=i+j)
   (Q:=fun c st'=>(∃ r rest,c=(some r,rest)/\Q r st')∨(Sm st st'/\∃ out i j ac bc,c=(none,out,i,j,ac,bc)/\MA key a b out i j/\i+1 < a.size/\j < b.size/\x<=i+j)) ?step1 ?fin1 ⟨sm1,_,_,_,_,_,rfl,m1,hi,hj,hp⟩) ?post1)
  case fin1=>exact fun c st' q=>.inr q
  case step1 =>
   rintro _ c st2 _ _ ⟨sm2,out,i,j,ac,bc,rfl,m2,hi,hj,hp⟩
   dsimp only
   refine wpS_bind (a46 (a48 hj) ?_)
   refine wpS_bind (a46 (a48 (by omega)) ?_)
   refine wpS_bind (C.lt _ _ _ _ (Db _ hj) (Da _ (by omega)) (sm2.kind.trans hk) ?_)
   dsimp only
   cases q:O.blt (key (at' b j)) (key (at' a i)) with
   | true =>
    rw[if_pos rfl]
    refine wpS_bind (a46 (a48 hj) ?_)
    have q':LT key (at' b j) (at' a i):=q
    have m3:=MM.oneB m2 sb hj fun k k1 k2=>q'.le.trans (sa i k (by omega) k1 k2)
    by_cases e:(j+1 == b.size)=true
    ·rw[if_pos e]
     exact wpS_pure (.inl ⟨_,_,rfl,fD sm2 m3 (.inr (by have:=eq_of_beq e;omega))⟩)
    ·rw[if_neg e]
     have e':j+1 < b.size:=by
      have:¬ j+1=b.size:=fun q=>e (by rw[← q];exact beq_self_eq_true _)
      omega
     have fin:Sm st st2/\∃ o i' j' ac' bc',((none,out.push (at' b j),i,j+1,0,bc+1):Option (Array Keyed)×Array Keyed×Nat×Nat×Nat×Nat)=(none,o,i',j',ac',bc')/\MA key a b o i' j'/\i'+1 < a.size/\j' < b.size/\x<=i'+j':=⟨sm2,_,_,_,_,_,rfl,m3,hi,e',by omega⟩
     by_cases g:bc+1 ≥ mg
     ·rw[if_pos g]
      exact wpS_pure (.inr fin)
     ·rw[if_neg g]
      exact wpS_pure fin
   | false =>
    rw[if_neg Fx]
    refine wpS_bind (a46 (a48 (by omega)) ?_)
    have q':LE key (at' a i) (at' b j):=q
    have m3:=MM.oneA m2 sa (by omega) fun k k1 k2=>q'.trans (sb j k (by omega) k1 k2)
    by_cases e:(i+1+1 == a.size)=true
    ·rw[if_pos e]
     exact wpS_pure (.inl ⟨_,_,rfl,fL sm2 m3 (eq_of_beq e)⟩)
    ·rw[if_neg e]
     have e':i+1+1 < a.size:=by
      have:¬ i+1+1=a.size:=fun q=>e (by rw[← q];exact beq_self_eq_true _)
      omega
     have fin:Sm st st2/\∃ o i' j' ac' bc',((none,out.push (at' a i),i+1,j,ac+1,0):Option (Array Keyed)×Array Keyed×Nat×Nat×Nat×Nat)=(none,o,i',j',ac',bc')/\MA key a b o i' j'/\i'+1 < a.size/\j' < b.size/\x<=i'+j':=⟨sm2,_,_,_,_,_,rfl,m3,e',hj,by omega⟩
     by_cases g:ac+1 ≥ mg
     ·rw[if_pos g]
      exact wpS_pure (.inr fin)
     ·rw[if_neg g]
      exact wpS_pure fin
  case post1 =>
   rintro c st2 (⟨r,rest,rfl,hq⟩ | ⟨sm2,out,i,j,ac,bc,rfl,m2,hi,hj,hp⟩)
   ·exact wpS_pure ⟨_,_,rfl,hq⟩
   try extract_lets
   refine wpS_bind (wpS_lift (wpAny_rule ⟨rfl,?_⟩))
   try extract_lets
   refine wpS_bind (wpS_mono (wpS_forRange (a:=0) (b:=a.size+b.size)
    (I:=fun y c st'=>Sm st st'/\∃ out i j mg ac bc,c=(none,out,i,j,mg,ac,bc)/\MA key a b out i j/\i+1 < a.size/\j < b.size/\x+y<=i+j)
    (Q:=fun c st'=>(∃ r rest,c=(some r,rest)/\Q r st')∨(Sm st st'/\∃ out i j mg ac bc,c=(none,out,i,j,mg,ac,bc)/\MA key a b out i j/\i+1 < a.size/\j < b.size/\x+1<=i+j)) ?step2 ?fin2 ⟨sm2,_,_,_,_,_,_,rfl,m2,hi,hj,hp⟩) ?post2)
   case fin2 =>
    rintro c st3 ⟨sm3,out,i,j,mg,ac,bc,rfl,m3,hi,hj,hp⟩
    exact .inr ⟨sm3,_,_,_,_,_,_,rfl,m3,hi,hj,by omega⟩
   case post2 =>
    rintro c st3 (⟨r,rest,rfl,hq⟩ | ⟨sm3,out,i,j,mg,ac,bc,rfl,m3,hi,hj,hp⟩)
    ·exact wpS_pure ⟨_,_,rfl,hq⟩
    try extract_lets
    exact wpS_bind (b63 fun st4 sm4=>wpS_pure ⟨sm3.trans sm4,_,_,_,_,rfl,m3,hi,hj,hp⟩)
   case step2 =>
    rintro y c st3 _ hy ⟨sm3,out,i,j,mg,ac,bc,rfl,m3,hi,hj,hp⟩
    extract_lets -merge +onlyGivenNames s1 o1 s2 i1 s3 j1 s4 g1 s5 c1 d1 ib2 jp
    refine b43 (fun Q=>∀ mg,wpS (model prog w) A E s (jp () mg) Q st3) ?_ (fun hjp=>?_)
    case refine_2 =>
     by_cases g:mg > 1
     ·rw[if_pos g]
      exact hjp _
     ·rw[if_neg g]
      exact hjp _
    intro mg
    refine wpS_bind (b63 fun st4 sm4=>?_)
    have sm5:=sm3.trans sm4
    refine wpS_bind (a46 (a48 hj) ?_)
    refine wpS_bind (b92 (arr:=a) (base:=i) (n:=a.size-i) (hint:=0) C (sm5.kind.trans hk) (Db _ hj) Da (by omega) (fun m n h1 h2 h3=>sa m n (by omega) h2 (by omega)) (by omega) fun k hk1 hk2 hk3=>?_)
    dsimp -zeta -zetaHave only
    extract_lets -merge +onlyGivenNames c2 jp2
    refine b43 (fun Q=>∀(out:Array Keyed) (i:Nat),MA key a b out i j->i+1 < a.size->(∀ m,i<=m->m < a.size->LT key (at' b j) (at' a m))->x+y<=i+j->wpS (model prog w) A E s (jp2 () out i) Q st4) ?_ (fun hjp=>?_)
    case refine_2 =>
     by_cases g:k > 0
     ·rw[if_pos g]
      have m4:=MM.someA m3 sa (k:=k) fun m m1 m2 _ n n1 n2=>(hk2 m m1 m2).trans (sb j n (by omega) n1 n2)
      by_cases e:(i+k+1 == a.size)=true
      ·try extract_lets
       rw[if_pos e]
       exact wpS_pure (.inl ⟨_,_,rfl,fL (i:=i+k) (j:=j) sm5 m4 (eq_of_beq e)⟩)
      ·try extract_lets
       rw[if_neg e]
       by_cases e2:(i+k == a.size)=true
       ·rw[if_pos e2]
        exact wpS_pure (.inl ⟨_,_,rfl,fD (i:=i+k) (j:=j) sm5 m4 (.inl (by have:=eq_of_beq e2;omega))⟩)
       ·rw[if_neg e2]
        have n1:¬ i+k+1=a.size:=fun q=>e (by rw[← q];exact beq_self_eq_true _)
        have n2:¬ i+k=a.size:=fun q=>e2 (by rw[← q];exact beq_self_eq_true _)
        exact hjp _ (i+k) m4 (by omega) (fun m m1 m2=>hk3 m m1 (by omega)) (by omega)
     ·rw[if_neg g]
      exact hjp _ i m3 hi (fun m m1 m2=>hk3 m (by omega) (by omega)) hp
    intro out i m4 hi hlt hp
    refine wpS_bind (a46 (a48 hj) ?_)
    have m5:=MM.oneB m4 sb hj fun n n1 n2=>(hlt n n1 n2).le
    try extract_lets
    by_cases e:(j+1 == b.size)=true
    ·rw[if_pos e]
     exact wpS_pure (.inl ⟨_,_,rfl,fD (i:=i) (j:=j+1) sm5 m5 (.inr (by have:=eq_of_beq e;omega))⟩)
    rw[if_neg e]
    have n1:¬ j+1=b.size:=fun q=>e (by rw[← q];exact beq_self_eq_true _)
    refine wpS_bind (a46 (a48 (by omega)) ?_)
    refine wpS_bind (b99 (arr:=b) (base:=j+1) (n:=b.size-(j+1)) (hint:=0) C (sm5.kind.trans hk) (Da i (by omega)) Db (by omega) (fun m n h1 h2 h3=>sb m n (by omega) h2 (by omega)) (by omega) fun k2 hk21 hk22 hk23=>?_)
    dsimp -zeta -zetaHave only
    extract_lets -merge +onlyGivenNames c3 jp3
    refine b43 (fun Q=>∀(out:Array Keyed) (j':Nat),MA key a b out i j'->j' < b.size->(∀ m,j'<=m->m < b.size->LE key (at' a i) (at' b m))->x+(y+1)<=i+j'->wpS (model prog w) A E s (jp3 () out j') Q st4) ?_ (fun hjp=>?_)
    case refine_2 =>
     by_cases g:k2 > 0
     ·rw[if_pos g]
      have m6:=MM.someB m5 sb (k:=k2) fun m m1 m2 _ n n1 n2=>(hk22 m m1 m2).le.trans (sa i n (by omega) n1 n2)
      try extract_lets
      by_cases e:(j+1+k2 == b.size)=true
      ·rw[if_pos e]
       exact wpS_pure (.inl ⟨_,_,rfl,fD (i:=i) (j:=j+1+k2) sm5 m6 (.inr (by have:=eq_of_beq e;omega))⟩)
      ·rw[if_neg e]
       have n2:¬ j+1+k2=b.size:=fun q=>e (by rw[← q];exact beq_self_eq_true _)
       exact hjp _ (j+1+k2) m6 (by omega) (fun m m1 m2=>hk23 m m1 (by omega)) (by omega)
     ·rw[if_neg g]
      exact hjp _ (j+1) m5 (by omega) (fun m m1 m2=>hk23 m (by omega) (by omega)) (by omega)
    intro out j' m6 hj' hle hp'
    refine wpS_bind (a46 (a48 (by omega)) ?_)
    have m7:=MM.oneA m6 sa (by omega) hle
    try extract_lets
    by_cases e3:(i+1+1 == a.size)=true
    ·rw[if_pos e3]
     exact wpS_pure (.inl ⟨_,_,rfl,fL (i:=i+1) (j:=j') sm5 m7 (eq_of_beq e3)⟩)
    rw[if_neg e3]
    have n3:¬ i+1+1=a.size:=fun q=>e3 (by rw[← q];exact beq_self_eq_true _)
    by_cases g:(decide (k < 7) && decide (k2 < 7))=true
    ·rw[if_pos g]
     exact wpS_pure (.inr ⟨sm5,_,_,_,_,_,_,rfl,m7,by omega,hj',by omega⟩)
    ·rw[if_neg g]
     exact wpS_pure ⟨sm5,_,_,_,_,_,_,rfl,m7,by omega,hj',by omega⟩
end
end Srt
namespace Srt
open PySem PyProof.Rows
set_option autoImplicit false
section
variable {prog:Program}{w:World}{A:Around}{E:Value->Shared->Prop}{s:Shared}
variable {O:KeyOrd}{key:Keyed->O.α}{D:Keyed->Prop}{kd:SortKind}
def MH (key:Keyed->O.α)(a b out:Array Keyed) (i j:Nat):Prop:=MM (fun x y=>LE key y x) a.toList.reverse b.toList.reverse out.toList (a.size-i) (b.size-j)
variable {a b out:Array Keyed}{i j:Nat}
theorem Sg.pwr {xs:Array Keyed}(h:Sg key xs 0 xs.size):xs.toList.reverse.Pairwise (fun x y=>LE key y x):=List.pairwise_reverse.mpr h.pw
theorem b73 (xs:Array Keyed){i:Nat}(h:i<=xs.size):xs.toList.reverse.drop (xs.size-i)=(xs.toList.take i).reverse:=by
 rw[List.drop_reverse,Cq,show xs.size-(xs.size-i)=i by omega]
theorem d86 (xs:Array Keyed){i k:Nat}(h:i<=xs.size)(hk:k<=i):(xs.toList.reverse.drop (xs.size-i)).take (i-k)=(xs.extract k i).reverse.toList:=by
 rw[b73 xs h,List.take_reverse,CZ,Cq,show min i xs.size-(i-k)=k by omega,Array.toList_reverse,a60,List.drop_take]
theorem c89 {xs:Array Keyed}{y:Keyed}{i:Nat}(hi:i<=xs.size)(h:y∈xs.toList.reverse.drop (xs.size-i)):∃ j,j < i/\y=at' xs j:=by
 rw[b73 xs hi,List.mem_reverse] at h
 obtain⟨j,_,h2,_,rfl⟩:=b18 (xs:=xs) (i:=0) (k:=i) (by rw[List.drop_zero];exact h)
 exact⟨j,by omega,rfl⟩
theorem d64 {xs:Array Keyed}{y:Keyed}{i k:Nat}(hi:i<=xs.size)(hk:k<=i)(h:y∈(xs.toList.reverse.drop (xs.size-i)).take (i-k)):∃ j,k<=j/\j < i/\y=at' xs j:=by
 rw[d86 xs hi hk,Array.toList_reverse,List.mem_reverse,a60] at h
 obtain⟨j,h1,h2,_,rfl⟩:=b18 h
 exact⟨j,h1,by omega,rfl⟩
theorem MH.swap (h:MH key a b out i j):MH key b a out j i:=MM.swap h
theorem MH.someA (h:MH key a b out i j)(sa:Sg key a 0 a.size){k:Nat}(hi:i<=a.size)(hj:j<=b.size)(hk:k<=i)(hx:∀ m,k<=m->m < i->∀ n,n < j->LE key (at' b n) (at' a m)):MH key a b (out++(a.extract k i).reverse) k j:=by
 have q:=MM.chunk h sa.pwr (k:=i-k) (by
  intro x hx' y hy
  obtain⟨m,m1,m2,rfl⟩:=d64 hi hk hx'
  obtain⟨n,n1,rfl⟩:=c89 hj hy
  exact hx m m1 m2 n n1)
 rw[d86 a hi hk,show a.size-i+(i-k)=a.size-k by omega] at q
 unfold MH
 rw[Array.toList_append]
 exact q
theorem MH.oneA (h:MH key a b out i j)(sa:Sg key a 0 a.size)(h0:0 < i)(hi:i<=a.size)(hj:j<=b.size)(hx:∀ n,n < j->LE key (at' b n) (at' a (i-1))):MH key a b (out.push (at' a (i-1))) (i-1) j:=by
 have q:=MH.someA h sa (k:=i-1) hi hj (by omega) fun m m1 m2 n n1=>by
  rw[show m=i-1 by omega]
  exact hx n n1
 have e:(a.extract (i-1) i).reverse=#[at' a (i-1)]:=by
  apply Array.toList_inj.mp
  rw[Array.toList_reverse,a60,show i-(i-1)=1 by omega,c80 (by omega)]
  rfl
 rw[e] at q
 exact q
theorem MH.someB (h:MH key a b out i j)(sb:Sg key b 0 b.size){k:Nat}(hi:i<=a.size)(hj:j<=b.size)(hk:k<=j)(hx:∀ m,k<=m->m < j->∀ n,n < i->LE key (at' a n) (at' b m)):MH key a b (out++(b.extract k j).reverse) i k :=
 (MH.someA (a:=b) (b:=a) h.swap sb hj hi hk hx).swap
theorem MH.oneB (h:MH key a b out i j)(sb:Sg key b 0 b.size)(h0:0 < j)(hi:i<=a.size)(hj:j<=b.size)(hx:∀ n,n < i->LE key (at' a n) (at' b (j-1))):MH key a b (out.push (at' b (j-1))) i (j-1) :=
 (MH.oneA (a:=b) (b:=a) h.swap sb h0 hj hi hx).swap
theorem f80 {r:List Keyed}(h:r.reverse.Perm (a.toList.reverse++b.toList.reverse)/\r.reverse.Pairwise (fun x y=>LE key y x)):r.Perm (a.toList++b.toList)/\r.Pairwise (LE key) :=
 ⟨r.reverse_perm.symm.trans (h.1.trans ((a.toList.reverse_perm).append b.toList.reverse_perm)),List.pairwise_reverse.mp h.2⟩
theorem MH.doneA (h:MH key a b out i j)(sa:Sg key a 0 a.size)(sb:Sg key b 0 b.size)(hi:i<=a.size)(hj:j<=b.size)(he:i=0∨j=0) :
 (a.extract 0 i++b.extract 0 j++out.reverse).toList.Perm (a.toList++b.toList)/\(a.extract 0 i++b.extract 0 j++out.reverse).toList.Pairwise (LE key):=by
 refine f80 ?_
 have q:=MM.finB h sa.pwr sb.pwr (fun x hx y hy=>by
  obtain⟨m,m1,rfl⟩:=c89 hj hx
  obtain⟨n,n1,rfl⟩:=c89 hi hy
  omega)
 rw[b73 a hi,b73 b hj] at q
 rw[Array.toList_append,Array.toList_append,List.reverse_append,List.reverse_append,Array.toList_reverse,List.reverse_reverse,a60,a60,List.drop_zero,List.drop_zero,← List.append_assoc]
 exact q
theorem MH.doneF (h:MH key a b out i j)(sa:Sg key a 0 a.size)(sb:Sg key b 0 b.size)(hi:i<=a.size)(hj:j<=b.size)(he:j=1)(h0:LT key (at' b 0) (at' a 0)) :
 (b.extract 0 j++a.extract 0 i++out.reverse).toList.Perm (a.toList++b.toList)/\(b.extract 0 j++a.extract 0 i++out.reverse).toList.Pairwise (LE key):=by
 refine f80 ?_
 have q:=MM.fin h sa.pwr sb.pwr (fun x hx y hy=>by
  obtain⟨m,m1,rfl⟩:=c89 hi hx
  obtain⟨n,n1,rfl⟩:=c89 hj hy
  rw[show n=0 by omega]
  exact h0.le.trans (sa 0 m (by omega) (by omega) (by omega)))
 rw[b73 a hi,b73 b hj] at q
 rw[Array.toList_append,Array.toList_append,List.reverse_append,List.reverse_append,Array.toList_reverse,List.reverse_reverse,a60,a60,List.drop_zero,List.drop_zero,← List.append_assoc]
 exact q
theorem e39 (C:Cmp prog w A E s O key D kd){st:SortSt}{Q:Array Keyed->SortSt->Prop}(hk:kindOf st=kd)(Da:AllD D a)(Db:AllD D b)(sa:Sg key a 0 a.size)(sb:Sg key b 0 b.size)(ha:0 < a.size)(hb:0 < b.size)
 (h0:LT key (at' b 0) (at' a 0))(h9:∀ j,j < b.size->LT key (at' b j) (at' a (a.size-1)))
 (h:∀ out st',Sm st st'->out.toList.Perm (a.toList++b.toList)->out.toList.Pairwise (LE key)->Q out st'):wpS (model prog w) A E s (f07 a b) Q st:=by
 unfold f07
 k_delta "mergeHi"
 refine wpS_bind (wpS_lift (wpAny_rule ⟨rfl,?_⟩))
 try extract_lets
 refine wpS_bind (a46 (i:=a.size-1) (a48 (by omega)) ?_)
 try extract_lets
 have M0:MH key a b #[at' a (a.size-1)] (a.size-1) b.size:=MH.oneA (i:=a.size) (out:=#[]) (by
  unfold MH
  rw[Nat.sub_self,Nat.sub_self]
  exact MM.nil) sa ha (AZ _) (AZ _) fun n hn=>(h9 n hn).le
 have fD:∀ {out:Array Keyed}{i j:Nat}{st':SortSt},Sm st st'->MH key a b out i j->i<=a.size->j<=b.size->(i=0∨j=0)->Q (a.extract 0 i++b.extract 0 j++out.reverse) st':=fun sm m hi hj he=>h _ _ sm (m.doneA sa sb hi hj he).1 (m.doneA sa sb hi hj he).2
 have fF:∀ {out:Array Keyed}{i j:Nat}{st':SortSt},Sm st st'->MH key a b out i j->i<=a.size->j<=b.size->j=1->Q (b.extract 0 j++a.extract 0 i++out.reverse) st':=fun sm m hi hj he=>h _ _ sm (m.doneF sa sb hi hj he h0).1 (m.doneF sa sb hi hj he h0).2
 by_cases e1:(a.size-1 == 0)=true
 ·rw[if_pos e1]
  exact wpS_pure (fD (i:=a.size-1) (j:=b.size) (Sm.refl _) M0 (by omega) (by omega) (.inl (eq_of_beq e1)))
 rw[if_neg e1]
 have e1':¬ a.size-1=0:=fun q=>e1 (by rw[q];rfl)
 by_cases e2:(b.size == 1)=true
 ·rw[if_pos e2]
  exact wpS_pure (fF (i:=a.size-1) (j:=b.size) (Sm.refl _) M0 (by omega) (by omega) (eq_of_beq e2))
 rw[if_neg e2]
 have e2':¬ b.size=1:=fun q=>e2 (by rw[q];rfl)
 refine wpS_bind (wpS_get ?_)
 try extract_lets
 refine wpS_bind (wpS_mono (wpS_forRange (a:=0) (b:=a.size+b.size)
  (I:=fun x c st'=>Sm st st'/\∃ i j out mg,c=(none,i,j,out,mg)/\MH key a b out i j/\0 < i/\i<=a.size/\1 < j/\j<=b.size/\x+i+j<=a.size+b.size)
  (Q:=fun c st'=>∃ r rest,c=(some r,rest)/\Q r st') ?step ?fin ⟨Sm.refl _,_,_,_,_,rfl,M0,by omega,by omega,by omega,by omega,by omega⟩) ?post)
 case post =>
  rintro c st' ⟨r,rest,rfl,hq⟩
  exact wpS_pure hq
 case fin =>
  rintro c st' ⟨_,i,j,out,mg,_,_,h1,h2,h3,h4,h5⟩
  omega
 case step =>
  rintro x c st1 _ hx ⟨sm1,i,j,out,mg,rfl,m1,hi0,hi,hj0,hj,hp⟩
  try extract_lets
  refine wpS_bind (wpS_mono (wpS_forRange (a:=0) (b:=a.size+b.size)
   (I:=fun _ c st'=>Sm st st'/\∃ i j out ac bc,c=(none,i,j,out,ac,bc)/\MH key a b out i j/\0 < i/\i<=a.size/\1 < j/\j<=b.size/\x+i+j<=a.size+b.size)
   (Q:=fun c st'=>(∃ r rest,c=(some r,rest)/\Q r st')∨(Sm st st'/\∃ i j out ac bc,c=(none,i,j,out,ac,bc)/\MH key a b out i j/\0 < i/\i<=a.size/\1 < j/\j<=b.size/\x+i+j<=a.size+b.size)) ?step1 ?fin1 ⟨sm1,_,_,_,_,_,rfl,m1,hi0,hi,hj0,hj,hp⟩) ?post1)
  case fin1=>exact fun c st' q=>.inr q
  case step1 =>
   rintro _ c st2 _ _ ⟨sm2,i,j,out,ac,bc,rfl,m2,hi0,hi,hj0,hj,hp⟩
   dsimp only
   refine wpS_bind (a46 (a48 (by omega)) ?_)
   refine wpS_bind (a46 (a48 (by omega)) ?_)
   refine wpS_bind (C.lt _ _ _ _ (Db _ (by omega)) (Da _ (by omega)) (sm2.kind.trans hk) ?_)
   dsimp only
   cases q:O.blt (key (at' b (j-1))) (key (at' a (i-1))) with
   | true =>
    rw[if_pos rfl]
    refine wpS_bind (a46 (a48 (by omega)) ?_)
    have q':LT key (at' b (j-1)) (at' a (i-1)):=q
    have m3:=MH.oneA m2 sa hi0 hi hj fun n n1=>(sb n (j-1) (by omega) (by omega) (by omega)).trans q'.le
    by_cases e:(i-1 == 0)=true
    ·rw[if_pos e]
     exact wpS_pure (.inl ⟨_,_,rfl,fD sm2 m3 (by omega) hj (.inl (eq_of_beq e))⟩)
    ·rw[if_neg e]
     have e':¬ i-1=0:=fun q=>e (by rw[q];rfl)
     have fin:Sm st st2/\∃ i' j' o ac' bc',((none,i-1,j,out.push (at' a (i-1)),ac+1,0):Option (Array Keyed)×Nat×Nat×Array Keyed×Nat×Nat)=(none,i',j',o,ac',bc')/\MH key a b o i' j'/\0 < i'/\i'<=a.size/\1 < j'/\j'<=b.size/\x+i'+j'<=a.size+b.size:=⟨sm2,_,_,_,_,_,rfl,m3,by omega,by omega,hj0,hj,by omega⟩
     by_cases g:ac+1 ≥ mg
     ·rw[if_pos g]
      exact wpS_pure (.inr fin)
     ·rw[if_neg g]
      exact wpS_pure fin
   | false =>
    rw[if_neg Fx]
    refine wpS_bind (a46 (a48 (by omega)) ?_)
    have q':LE key (at' a (i-1)) (at' b (j-1)):=q
    have m3:=MH.oneB m2 sb (by omega) hi hj fun n n1=>(sa n (i-1) (by omega) (by omega) (by omega)).trans q'
    by_cases e:(j-1 == 1)=true
    ·rw[if_pos e]
     exact wpS_pure (.inl ⟨_,_,rfl,fF sm2 m3 hi (by omega) (eq_of_beq e)⟩)
    ·rw[if_neg e]
     have e':¬ j-1=1:=fun q=>e (by rw[q];rfl)
     have fin:Sm st st2/\∃ i' j' o ac' bc',((none,i,j-1,out.push (at' b (j-1)),0,bc+1):Option (Array Keyed)×Nat×Nat×Array Keyed×Nat×Nat)=(none,i',j',o,ac',bc')/\MH key a b o i' j'/\0 < i'/\i'<=a.size/\1 < j'/\j'<=b.size/\x+i'+j'<=a.size+b.size:=⟨sm2,_,_,_,_,_,rfl,m3,hi0,hi,by omega,by omega,by omega⟩
     by_cases g:bc+1 ≥ mg
     ·rw[if_pos g]
      exact wpS_pure (.inr fin)
     ·rw[if_neg g]
      exact wpS_pure fin
  case post1 =>
   rintro c st2 (⟨r,rest,rfl,hq⟩ | ⟨sm2,i,j,out,ac,bc,rfl,m2,hi0,hi,hj0,hj,hp⟩)
   ·exact wpS_pure ⟨_,_,rfl,hq⟩
   try extract_lets
   refine wpS_bind (wpS_lift (wpAny_rule ⟨rfl,?_⟩))
   try extract_lets
   refine wpS_bind (wpS_mono (wpS_forRange (a:=0) (b:=a.size+b.size)
    (I:=fun y c st'=>Sm st st'/\∃ i j out mg ac bc,c=(none,i,j,out,mg,ac,bc)/\MH key a b out i j/\0 < i/\i<=a.size/\1 < j/\j<=b.size/\x+y+i+j<=a.size+b.size)
    (Q:=fun c st'=>(∃ r rest,c=(some r,rest)/\Q r st')∨(Sm st st'/\∃ i j out mg ac bc,c=(none,i,j,out,mg,ac,bc)/\MH key a b out i j/\0 < i/\i<=a.size/\1 < j/\j<=b.size/\x+1+i+j<=a.size+b.size)) ?step2 ?fin2 ⟨sm2,_,_,_,_,_,_,rfl,m2,hi0,hi,hj0,hj,hp⟩) ?post2)
   case fin2 =>
    rintro c st3 ⟨sm3,i,j,out,mg,ac,bc,rfl,m3,hi0,hi,hj0,hj,hp⟩
    exact .inr ⟨sm3,_,_,_,_,_,_,rfl,m3,hi0,hi,hj0,hj,by omega⟩
   case post2 =>
    rintro c st3 (⟨r,rest,rfl,hq⟩ | ⟨sm3,i,j,out,mg,ac,bc,rfl,m3,hi0,hi,hj0,hj,hp⟩)
    ·exact wpS_pure ⟨_,_,rfl,hq⟩
    try extract_lets
    exact wpS_bind (b63 fun st4 sm4=>wpS_pure ⟨sm3.trans sm4,_,_,_,_,rfl,m3,hi0,hi,hj0,hj,hp⟩)
   case step2 =>
    rintro y c st3 _ hy ⟨sm3,i,j,out,mg,ac,bc,rfl,m3,hi0,hi,hj0,hj,hp⟩
    extract_lets -merge +onlyGivenNames s1 i1 s2 j1 s3 o1 s4 g1 s5 c1 d1 j2 jp
    refine b43 (fun Q=>∀ mg,wpS (model prog w) A E s (jp () mg) Q st3) ?_ (fun hjp=>?_)
    case refine_2 =>
     by_cases g:mg > 1
     ·rw[if_pos g]
      exact hjp _
     ·rw[if_neg g]
      exact hjp _
    intro mg
    refine wpS_bind (b63 fun st4 sm4=>?_)
    have sm5:=sm3.trans sm4
    refine wpS_bind (a46 (i:=j-1) (a48 (by omega)) ?_)
    refine wpS_bind (b92 (arr:=a) (base:=0) (n:=i) (hint:=i-1) C (sm5.kind.trans hk) (Db _ (by omega)) Da (by omega) (fun m n h1 h2 h3=>sa m n (by omega) h2 (by omega)) (by omega) fun k hk1 hk2 hk3=>?_)
    dsimp -zeta -zetaHave only
    extract_lets -merge +onlyGivenNames k1 c2 jp2
    refine b43 (fun Q=>∀(i:Nat)(out:Array Keyed),MH key a b out i j->0 < i->i<=a.size->(∀ m,m < i->LE key (at' a m) (at' b (j-1)))->x+y+i+j<=a.size+b.size->wpS (model prog w) A E s (jp2 () i out) Q st4) ?_ (fun hjp=>?_)
    case refine_2 =>
     by_cases g:i-k > 0
     ·rw[if_pos g]
      have m4:=MH.someA m3 sa (k:=k) hi hj hk1 fun m m1 m2 n n1=>(sb n (j-1) (by omega) (by omega) (by omega)).trans (hk3 m (by omega) (by omega)).le
      by_cases e:(k == 0)=true
      ·try extract_lets
       rw[if_pos e]
       exact wpS_pure (.inl ⟨_,_,rfl,fD (i:=k) (j:=j) sm5 m4 (by omega) hj (.inl (eq_of_beq e))⟩)
      ·try extract_lets
       rw[if_neg e]
       have n1:¬ k=0:=fun q=>e (by rw[q];rfl)
       exact hjp k _ m4 (by omega) (by omega) (fun m m1=>hk2 m (by omega) (by omega)) (by omega)
     ·rw[if_neg g]
      exact hjp i _ m3 hi0 hi (fun m m1=>hk2 m (by omega) (by omega)) hp
    intro i out m4 hi0 hi hle hp
    refine wpS_bind (a46 (i:=j-1) (a48 (by omega)) ?_)
    have m5:=MH.oneB m4 sb (by omega) hi hj hle
    try extract_lets
    by_cases e:(j-1 == 1)=true
    ·rw[if_pos e]
     exact wpS_pure (.inl ⟨_,_,rfl,fF (i:=i) (j:=j-1) sm5 m5 hi (by omega) (eq_of_beq e)⟩)
    rw[if_neg e]
    have n1:¬ j-1=1:=fun q=>e (by rw[q];rfl)
    refine wpS_bind (a46 (i:=i-1) (a48 (by omega)) ?_)
    refine wpS_bind (b99 (arr:=b) (base:=0) (n:=j-1) (hint:=j-1-1) C (sm5.kind.trans hk) (Da (i-1) (by omega)) Db (by omega) (fun m n h1 h2 h3=>sb m n (by omega) h2 (by omega)) (by omega) fun k2 hk21 hk22 hk23=>?_)
    dsimp -zeta -zetaHave only
    extract_lets -merge +onlyGivenNames k3 c3 jp3
    refine b43 (fun Q=>∀(j':Nat)(out:Array Keyed),MH key a b out i j'->1 < j'->j'<=b.size->(∀ m,m < j'->LE key (at' b m) (at' a (i-1)))->x+(y+1)+i+j'<=a.size+b.size->wpS (model prog w) A E s (jp3 () j' out) Q st4) ?_ (fun hjp=>?_)
    case refine_2 =>
     by_cases g:j-1-k2 > 0
     ·rw[if_pos g]
      have m6:=MH.someB m5 sb (k:=k2) hi (by omega) hk21 fun m m1 m2 n n1=>(sa n (i-1) (by omega) (by omega) (by omega)).trans (hk23 m (by omega) (by omega))
      by_cases e:(k2 == 1)=true
      ·try extract_lets
       rw[if_pos e]
       exact wpS_pure (.inl ⟨_,_,rfl,fF (i:=i) (j:=k2) sm5 m6 hi (by omega) (eq_of_beq e)⟩)
      ·try extract_lets
       rw[if_neg e]
       by_cases e2:(k2 == 0)=true
       ·rw[if_pos e2]
        exact wpS_pure (.inl ⟨_,_,rfl,fD (i:=i) (j:=k2) sm5 m6 hi (by omega) (.inr (eq_of_beq e2))⟩)
       ·rw[if_neg e2]
        have n2:¬ k2=1:=fun q=>e (by rw[q];rfl)
        have n3:¬ k2=0:=fun q=>e2 (by rw[q];rfl)
        exact hjp k2 _ m6 (by omega) (by omega) (fun m m1=>(hk22 m (by omega) (by omega)).le) (by omega)
     ·rw[if_neg g]
      exact hjp (j-1) _ m5 (by omega) (by omega) (fun m m1=>(hk22 m (by omega) (by omega)).le) (by omega)
    intro j' out m6 hj0' hj' hle2 hp'
    refine wpS_bind (a46 (arr:=a) (i:=i-1) (a48 (by omega)) ?_)
    have m7:=MH.oneA m6 sa hi0 hi hj' hle2
    try extract_lets
    by_cases e3:(i-1 == 0)=true
    ·rw[if_pos e3]
     exact wpS_pure (.inl ⟨_,_,rfl,fD (i:=i-1) (j:=j') sm5 m7 (by omega) hj' (.inl (eq_of_beq e3))⟩)
    rw[if_neg e3]
    have n3:¬ i-1=0:=fun q=>e3 (by rw[q];rfl)
    by_cases g:(decide (k1 < 7) && decide (k3 < 7))=true
    ·rw[if_pos g]
     exact wpS_pure (.inr ⟨sm5,i-1,j',_,_,_,_,rfl,m7,by omega,by omega,hj0',hj',by omega⟩)
    ·rw[if_neg g]
     exact wpS_pure ⟨sm5,i-1,j',_,_,_,_,rfl,m7,by omega,by omega,hj0',hj',by omega⟩
end
end Srt
namespace Srt
open PySem PyProof.Rows
set_option autoImplicit false
def wb (o:Nat) (l:List Keyed)(xs:Array Keyed):Array Keyed:=l.zipIdx.foldl (fun a p=>a.setIfInBounds (o+p.2) p.1) xs
theorem g19 (o:Nat):∀(l:List Keyed) (n:Nat)(xs:Array Keyed),o+n+l.length<=xs.size->((l.zipIdx n).foldl (fun a p=>a.setIfInBounds (o+p.2) p.1) xs).size=xs.size /\
 ∀ i,((l.zipIdx n).foldl (fun a p=>a.setIfInBounds (o+p.2) p.1) xs)[i]?=if o+n<=i/\i < o+n+l.length then l[i-(o+n)]? else xs[i]?
 | [],n,xs,h=>⟨rfl,fun i=>by rw[if_neg (by simp only[List.length_nil];omega)];rfl⟩
 | x::l,n,xs,h=>by
  rw[Cz] at h
  obtain⟨ih1,ih2⟩:=g19 o l (n+1) (xs.setIfInBounds (o+n) x) (by rw[Array.size_setIfInBounds];omega)
  rw[List.zipIdx_cons,List.foldl_cons]
  refine⟨by rw[ih1,Array.size_setIfInBounds],fun i=>?_⟩
  rw[ih2,Cz]
  by_cases h1:o+(n+1)<=i/\i < o+(n+1)+l.length
  ·rw[if_pos h1,if_pos (by omega),show i-(o+n)=(i-(o+(n+1)))+1 by omega,List.getElem?_cons_succ]
  ·rw[if_neg h1]
   by_cases h2:i=o+n
   ·subst h2
    rw[if_pos (by omega),Nat.sub_self,List.getElem?_cons_zero,Array.getElem?_setIfInBounds_self_of_lt (by omega)]
   ·rw[if_neg (by omega),Array.getElem?_setIfInBounds_ne (by omega)]
theorem e61 {o:Nat}{l:List Keyed}{xs:Array Keyed}(h:o+l.length<=xs.size):(wb o l xs).size=xs.size:=(g19 o l 0 xs h).1
theorem d93 {o:Nat}{l:List Keyed}{xs:Array Keyed}(h:o+l.length<=xs.size) (i:Nat):(wb o l xs)[i]?=if o<=i/\i < o+l.length then l[i-o]? else xs[i]?:=(g19 o l 0 xs h).2 i
theorem i26 {o:Nat}{l:List Keyed}{xs:Array Keyed}(h:o+l.length<=xs.size):(wb o l xs).toList=xs.toList.take o++l++xs.toList.drop (o+l.length):=by
 apply List.ext_getElem?
 intro i
 rw[Array.getElem?_toList,d93 h]
 have ht:(xs.toList.take o).length=o:=by rw[CZ,Cq];omega
 by_cases h1:o<=i/\i < o+l.length
 ·rw[if_pos h1,List.append_assoc,List.getElem?_append_right (by omega),ht,List.getElem?_append_left (by omega)]
 ·rw[if_neg h1]
  by_cases h2:i < o
  ·rw[List.append_assoc,List.getElem?_append_left (by omega),List.getElem?_take_of_lt h2,Array.getElem?_toList]
  ·rw[List.getElem?_append_right (by rw[Bj];omega),Bj,ht,List.getElem?_drop,Array.getElem?_toList]
   congr 1
   omega
theorem b74 {xs ys:Array Keyed}{i j:Nat}(h:xs[i]?=ys[j]?):at' xs i=at' ys j:=by
 have e:∀(zs:Array Keyed) (k:Nat),at' zs k=(zs[k]?).getD (.none,.none):=fun zs k=>by
  unfold at' Array.getD
  by_cases h:k < zs.size
  ·rw[dif_pos h,getElem?_pos zs k h]
   rfl
  ·rw[dif_neg h,getElem?_neg zs k h]
   rfl
 rw[e,e,h]
theorem h75 {xs:Array Keyed}{i j k:Nat}(h:i+k < j)(hj:j<=xs.size):at' (xs.extract i j) k=at' xs (i+k):=by
 apply b74
 rw[Array.getElem?_extract,if_pos (by omega)]
section
variable {prog:Program}{w:World}{A:Around}{E:Value->Shared->Prop}{s:Shared}
variable {O:KeyOrd}{key:Keyed->O.α}{D:Keyed->Prop}{kd:SortKind}
theorem i32 {σ:Type}{x:σ}{Q:PUnit->σ->Prop}{st:σ}{M:Model}(h:Q ⟨⟩ x):wpS M A E s (set x:StateT σ Sem PUnit) Q st:=by
 unfold wpS
 rw[StateT.run_set]
 exact AX ⟨rfl,h⟩
structure Merged (key:Keyed->O.α)(xs ys:Array Keyed) (lo hi:Nat):Prop where
 perm:ys.Perm xs
 out:∀ i,(i < lo∨hi<=i)->ys[i]?=xs[i]?
 srt:Sg key ys lo hi
theorem g23 {xs:Array Keyed}{m:Array Keyed}{sa sb k na nb nb':Nat}(hsb:sb=sa+na)(hz:sb+nb<=xs.size)(hk:k < na)(hn:nb'<=nb)(s1:Sg key xs sa sb)(s2:Sg key xs sb (sb+nb))
 (g1:∀ i,sa<=i->i < sa+k->LE key (at' xs i) (at' xs sb))(g2:∀ i,sb+nb'<=i->i < sb+nb->LE key (at' xs (sb-1)) (at' xs i))
 (hp:m.toList.Perm ((xs.extract (sa+k) sb).toList++(xs.extract sb (sb+nb')).toList))(hs:m.toList.Pairwise (LE key)):Merged key xs (wb (sa+k) m.toList xs) sa (sb+nb):=by
 have hl:m.toList.length=na-k+nb':=by
  rw[hp.length_eq,Bj,Cq,Cq,Array.size_extract,Array.size_extract]
  omega
 have hb:sa+k+m.toList.length<=xs.size:=by omega
 have hin:∀ i,sa+k<=i->i < sb+nb'->∃ t,sa+k<=t/\t < sb+nb'/\at' (wb (sa+k) m.toList xs) i=at' xs t:=by
  intro i h1 h2
  have e:=d93 hb i
  rw[if_pos (by omega),Bz (by omega)] at e
  have hm:=List.getElem_mem (l:=m.toList) (n:=i-(sa+k)) (by omega)
  have hm2:=hp.mem_iff.mp hm
  have ea:at' (wb (sa+k) m.toList xs) i=m.toList[i-(sa+k)]:=by
   have q:=a48 (xs:=wb (sa+k) m.toList xs) (i:=i) (by rw[e61 hb];omega)
   rw[e] at q
   exact(EJ q).symm
  rcases Bq.mp hm2 with q | q
  ·rw[a60] at q
   obtain⟨t,t1,t2,_,et⟩:=b18 q
   exact⟨t,t1,by omega,by rw[ea,et]⟩
  ·rw[a60] at q
   obtain⟨t,t1,t2,_,et⟩:=b18 q
   exact⟨t,by omega,by omega,by rw[ea,et]⟩
 have hout:∀ i,(i < sa+k∨sb+nb'<=i)->(wb (sa+k) m.toList xs)[i]?=xs[i]?:=fun i h=>by rw[d93 hb,if_neg (by omega)]
 refine⟨?_,fun i h=>hout i (by omega),fun i j h1 h2 h3=>?_⟩
 ·apply Array.perm_iff_toList_perm.mpr
  rw[i26 hb]
  have e:xs.toList=xs.toList.take (sa+k)++((xs.extract (sa+k) sb).toList++(xs.extract sb (sb+nb')).toList)++xs.toList.drop (sa+k+m.toList.length):=by
   rw[a60,a60,hl]
   have e1:(xs.toList.drop (sa+k)).take (sb-(sa+k))++(xs.toList.drop sb).take (sb+nb'-sb)=(xs.toList.drop (sa+k)).take (na-k+nb'):=by
    have:xs.toList.drop sb=(xs.toList.drop (sa+k)).drop (sb-(sa+k)):=by
     rw[List.drop_drop]
     congr 1
     omega
    rw[this,show sb-(sa+k)=na-k by omega,show sb+nb'-sb=nb' by omega,← List.take_add]
   rw[e1,List.append_assoc,show xs.toList.drop (sa+k+(na-k+nb'))=(xs.toList.drop (sa+k)).drop (na-k+nb') by rw[List.drop_drop],List.take_append_drop,List.take_append_drop]
  exact((hp.append_left _).append_right _).trans (.of_eq e.symm)
 ·have eo:∀ i,(i < sa+k∨sb+nb'<=i)->at' (wb (sa+k) m.toList xs) i=at' xs i:=fun i h=>b74 (hout i h)
  by_cases i1:i < sa+k
  ·rw[eo i (.inl i1)]
   by_cases j1:j < sa+k
   ·rw[eo j (.inl j1)]
    exact s1 i j h1 h2 (by omega)
   ·by_cases j2:j < sb+nb'
    ·obtain⟨t,t1,t2,e⟩:=hin j (by omega) j2
     rw[e]
     by_cases t3:t < sb
     ·exact s1 i t h1 (by omega) t3
     ·exact(g1 i h1 i1).trans (s2 sb t (by omega) (by omega) (by omega))
    ·rw[eo j (.inr (by omega))]
     exact(g1 i h1 i1).trans (s2 sb j (by omega) (by omega) h3)
  ·by_cases i2:i < sb+nb'
   ·by_cases j2:j < sb+nb'
    ·have e1:=d93 hb i
     have e2:=d93 hb j
     rw[if_pos (by omega),Bz (by omega)] at e1
     rw[if_pos (by omega),Bz (by omega)] at e2
     have q1:=a48 (xs:=wb (sa+k) m.toList xs) (i:=i) (by rw[e61 hb];omega)
     have q2:=a48 (xs:=wb (sa+k) m.toList xs) (i:=j) (by rw[e61 hb];omega)
     rw[e1] at q1
     rw[e2] at q2
     rw[← EJ q1,← EJ q2]
     by_cases hij:i=j
     ·subst hij
      exact KeyOrd.kle_refl _
     ·exact List.pairwise_iff_getElem.mp hs _ _ _ _ (by omega)
    ·obtain⟨t,t1,t2,e⟩:=hin i (by omega) i2
     rw[e,eo j (.inr (by omega))]
     by_cases t3:t < sb
     ·exact(s1 t (sb-1) (by omega) (by omega) (by omega)).trans (g2 j (by omega) h3)
     ·exact s2 t j (by omega) (by omega) h3
   ·rw[eo i (.inr (by omega)),eo j (.inr (by omega))]
    exact s2 i j (by omega) h2 h3
theorem e40 (C:Cmp prog w A E s O key D kd){st:SortSt}{Q:Bool->SortSt->Prop}{i sa na pw sb nb pw2:Nat}(hk:kindOf st=kd)(hf:failedOf st=none)(hD:AllD D (arrOf st))(p1:(pendingOf st)[i]?=some (sa,na,pw))(p2:(pendingOf st)[i+1]?=some (sb,nb,pw2))
 (hsb:sb=sa+na)(ha:0 < na)(hb:0 < nb)(hz:sb+nb<=(arrOf st).size)(s1:Sg key (arrOf st) sa sb)(s2:Sg key (arrOf st) sb (sb+nb))
 (h:∀ st',kindOf st'=kd->failedOf st'=none->pendingOf st'=((pendingOf st).setIfInBounds i (sa,na+nb,pw)).eraseIdxIfInBounds (i+1)->Merged key (arrOf st) (arrOf st') sa (sb+nb)->Q true st'):wpS (model prog w) A E s (mergeAt' i) Q st:=by
 unfold mergeAt'
 k_delta "mergeAt"
 refine wpS_bind (wpS_get ?_)
 dsimp only
 rw[p1,p2]
 dsimp only
 refine wpS_bind (i32 ?_)
 refine wpS_bind (a46 (arr:=arrOf st) (i:=sb) (a48 (by omega)) ?_)
 refine wpS_bind (b92 (arr:=arrOf st) (base:=sa) (n:=na) (hint:=0) C hk (hD _ (by omega)) hD (by omega) (by rw[← hsb];exact s1) ha fun k hk1 hk2 hk3=>?_)
 dsimp only
 by_cases e1:(na-k == 0)=true
 ·rw[if_pos e1]
  have e1':=eq_of_beq e1
  refine wpS_pure (h _ hk hf rfl ⟨Array.Perm.refl _,fun _ _=>rfl,fun i j h1 h2 h3=>?_⟩)
  by_cases i1:i < sb
  ·by_cases j1:j < sb
   ·exact s1 i j h1 h2 j1
   ·exact(hk2 i h1 (by omega)).trans (s2 sb j (by omega) (by omega) h3)
  ·exact s2 i j (by omega) h2 h3
 rw[if_neg e1]
 have e1':¬ na-k=0:=fun q=>e1 (by rw[q];rfl)
 have et:sa+k+(na-k)-1=sb-1:=by omega
 rw[et]
 refine wpS_bind (a46 (arr:=arrOf st) (i:=sb-1) (a48 (by omega)) ?_)
 refine wpS_bind (b99 (arr:=arrOf st) (base:=sb) (n:=nb) (hint:=nb-1) C hk (hD _ (by omega)) hD (by omega) s2 (by omega) fun n hn1 hn2 hn3=>?_)
 dsimp only
 by_cases e2:(n == 0)=true
 ·rw[if_pos e2]
  have e2':=eq_of_beq e2
  refine wpS_pure (h _ hk hf rfl ⟨Array.Perm.refl _,fun _ _=>rfl,fun i j h1 h2 h3=>?_⟩)
  by_cases i1:i < sb
  ·by_cases j1:j < sb
   ·exact s1 i j h1 h2 j1
   ·exact(s1 i (sb-1) h1 (by omega) (by omega)).trans (hn3 j (by omega) h3)
  ·exact s2 i j (by omega) h2 h3
 rw[if_neg e2]
 have e2':¬ n=0:=fun q=>e2 (by rw[q];rfl)
 have zx:((arrOf st).extract (sa+k) sb).size=na-k:=by rw[Array.size_extract];omega
 have zy:((arrOf st).extract sb (sb+n)).size=n:=by rw[Array.size_extract];omega
 have ax:∀ t,t < na-k->at' ((arrOf st).extract (sa+k) sb) t=at' (arrOf st) (sa+k+t):=fun t ht=>h75 (by omega) (by omega)
 have ay:∀ t,t < n->at' ((arrOf st).extract sb (sb+n)) t=at' (arrOf st) (sb+t):=fun t ht=>h75 (by omega) (by omega)
 have Dx:AllD D ((arrOf st).extract (sa+k) sb):=fun t ht=>by
  rw[zx] at ht
  rw[ax t ht]
  exact hD _ (by omega)
 have Dy:AllD D ((arrOf st).extract sb (sb+n)):=fun t ht=>by
  rw[zy] at ht
  rw[ay t ht]
  exact hD _ (by omega)
 have sx:Sg key ((arrOf st).extract (sa+k) sb) 0 ((arrOf st).extract (sa+k) sb).size:=fun t u h1 h2 h3=>by
  rw[zx] at h3
  rw[ax t (by omega),ax u h3]
  exact s1 _ _ (by omega) (by omega) (by omega)
 have sy:Sg key ((arrOf st).extract sb (sb+n)) 0 ((arrOf st).extract sb (sb+n)).size:=fun t u h1 h2 h3=>by
  rw[zy] at h3
  rw[ay t (by omega),ay u h3]
  exact s2 _ _ (by omega) (by omega) (by omega)
 have h0:LT key (at' ((arrOf st).extract sb (sb+n)) 0) (at' ((arrOf st).extract (sa+k) sb) 0):=by
  rw[ax 0 (by omega),ay 0 (by omega)]
  exact hk3 _ (by omega) (by omega)
 have h9:∀ t,t < ((arrOf st).extract sb (sb+n)).size->LT key (at' ((arrOf st).extract sb (sb+n)) t) (at' ((arrOf st).extract (sa+k) sb) (((arrOf st).extract (sa+k) sb).size-1)):=fun t ht=>by
  rw[zy] at ht
  rw[zx,ax _ (by omega),ay t ht,show sa+k+(na-k-1)=sb-1 by omega]
  exact hn2 _ (by omega) (by omega)
 have fin:∀(m:Array Keyed)(st':SortSt),kindOf st'=kindOf st->failedOf st'=failedOf st->arrOf st'=arrOf st->pendingOf st'=((pendingOf st).setIfInBounds i (sa,na+nb,pw)).eraseIdxIfInBounds (i+1) ->
  m.toList.Perm (((arrOf st).extract (sa+k) sb).toList++((arrOf st).extract sb (sb+n)).toList)->m.toList.Pairwise (LE key) ->
  Q true (SortSt.mk' (kindOf st') (wb (sa+k) m.toList (arrOf st')) (pendingOf st') (gallopOf st') (failedOf st')):=by
  intro m st' q1 q2 q3 q4 q5 q6
  refine h _ (q1.trans hk) (q2.trans hf) q4 ?_
  show Merged key (arrOf st) (wb (sa+k) m.toList (arrOf st')) sa (sb+nb)
  rw[q3]
  exact g23 hsb hz (by omega) hn1 s1 s2 hk2 hn3 q5 q6
 by_cases hle:na-k<=n
 ·rw[if_pos hle]
  refine wpS_bind (e46 C (a:=(arrOf st).extract (sa+k) sb) (b:=(arrOf st).extract sb (sb+n)) hk Dx Dy sx sy (by omega) (by omega) h0 h9 fun m st' sm q1 q2=>?_)
  refine wpS_bind (wpS_modify ?_)
  refine wpS_bind (wpS_get ?_)
  have:=fin m st' sm.kind sm.fail sm.arr sm.pend q1 q2
  have ef:(failedOf st').isNone=true:=by rw[sm.fail];show(failedOf st).isNone=true;rw[hf];rfl
  refine wpS_pure ?_
  show Q (failedOf st').isNone _
  rw[ef]
  exact this
 ·rw[if_neg hle]
  refine wpS_bind (e39 C (a:=(arrOf st).extract (sa+k) sb) (b:=(arrOf st).extract sb (sb+n)) hk Dx Dy sx sy (by omega) (by omega) h0 h9 fun m st' sm q1 q2=>?_)
  refine wpS_bind (wpS_modify ?_)
  refine wpS_bind (wpS_get ?_)
  have:=fin m st' sm.kind sm.fail sm.arr sm.pend q1 q2
  have ef:(failedOf st').isNone=true:=by rw[sm.fail];show(failedOf st).isNone=true;rw[hf];rfl
  refine wpS_pure ?_
  show Q (failedOf st').isNone _
  rw[ef]
  exact this
end
end Srt
namespace Srt
open PySem PyProof.Rows
set_option autoImplicit false
section
variable {prog:Program}{w:World}{A:Around}{E:Value->Shared->Prop}{s:Shared}
variable {O:KeyOrd}{key:Keyed->O.α}{D:Keyed->Prop}{kd:SortKind}
structure Ch (st st':SortSt) (lo hi:Nat):Prop where
 kind:kindOf st'=kindOf st
 fail:failedOf st'=failedOf st
 pend:pendingOf st'=pendingOf st
 perm:(arrOf st').Perm (arrOf st)
 out:∀ i,(i < lo∨hi<=i)->(arrOf st')[i]?=(arrOf st)[i]?
theorem Ch.refl (st:SortSt) (lo hi:Nat):Ch st st lo hi:=⟨rfl,rfl,rfl,Array.Perm.refl _,fun _ _=>rfl⟩
theorem Ch.trans {a b c:SortSt}{lo hi:Nat}(h:Ch a b lo hi)(h':Ch b c lo hi):Ch a c lo hi :=
 ⟨h'.kind.trans h.kind,h'.fail.trans h.fail,h'.pend.trans h.pend,h'.perm.trans h.perm,fun i hi=>(h'.out i hi).trans (h.out i hi)⟩
theorem Ch.size {a b:SortSt}{lo hi:Nat}(h:Ch a b lo hi):(arrOf b).size=(arrOf a).size:=h.perm.size_eq
theorem AllD.perm {xs ys:Array Keyed}(h:AllD D xs)(p:ys.Perm xs):AllD D ys:=fun i hi=>by
 have q:=a48 hi
 have hm:at' ys i∈ys.toList:=by
  have:=at_toList hi
  exact BQ this
 obtain⟨j,hj,e⟩:=List.mem_iff_getElem?.mp ((Array.perm_iff_toList_perm.mp p).mem_iff.mp hm) |>.imp fun j e=>(⟨(Ex.mp e).1,e⟩:_/\_)
 rw[Cq] at hj
 rw[at_toList hj] at e
 rw[← EJ e]
 exact h j hj
theorem d10 {xs:Array Keyed}{i j:Nat}(hj:j<=xs.size) (k:Nat):at' (mirror xs i j ((j-i) / 2)) k=at' xs (if i<=k/\k < j then i+j-1-k else k):=by
 apply b74
 rw[getElem?_mirror_all hj]
 split <;> rfl
theorem Ch.mirror {st:SortSt}{lo hi i j:Nat}(h1:lo<=i)(h2:j<=hi)(hz:hi<=(arrOf st).size):Ch st (setArr st (mirror (arrOf st) i j ((j-i) / 2))) lo hi :=
 ⟨rfl,rfl,rfl,mirror_perm _ _ _ _,fun k hk=>by
  show(PyProof.Rows.mirror (arrOf st) i j ((j-i) / 2))[k]?=_
  rw[getElem?_mirror_all (by omega),if_neg (by omega)]⟩
theorem c90 (C:Cmp prog w A E s O key D kd){st:SortSt}{i j:Nat}{Q:Option Bool->SortSt->Prop}(hk:kindOf st=kd)(hD:AllD D (arrOf st))(hi:i < (arrOf st).size)(hj:j < (arrOf st).size)
 (h:Q (some (O.blt (key (at' (arrOf st) i)) (key (at' (arrOf st) j)))) st):wpS (model prog w) A E s (ltAt' i j) Q st:=by
 rw[ltAt'_eq]
 refine wpS_bind (wpS_get ?_)
 refine wpS_bind (a46 (a48 hi) ?_)
 refine wpS_bind (a46 (a48 hj) ?_)
 exact C.lt _ _ _ _ (hD _ hi) (hD _ hj) hk h
theorem d33 {st:SortSt}{i j:Nat}{Q:Unit->SortSt->Prop}(h:Q () (setArr st (mirror (arrOf st) i j ((j-i) / 2)))):wpS (model prog w) A E s (reverseSlice' i j) Q st:=by
 rw[reverseSlice'_eq]
 exact wpS_modify h
def Ng (key:Keyed->O.α)(xs:Array Keyed) (lo hi:Nat):Prop:=∀ i j,lo<=i->i<=j->j < hi->LE key (at' xs j) (at' xs i)
theorem Sg.one {xs:Array Keyed}{lo:Nat}:Sg key xs lo (lo+1):=fun i j h1 h2 h3=>by
 have:i=j:=by omega
 subst this
 exact KeyOrd.kle_refl _
theorem Sg.next {xs:Array Keyed}{lo n:Nat}(h0:1<=n)(h:Sg key xs lo (lo+n))(q:LE key (at' xs (lo+n-1)) (at' xs (lo+n))):Sg key xs lo (lo+(n+1)):=fun i j h1 h2 h3=>by
 by_cases hj:j < lo+n
 ·exact h i j h1 h2 hj
 ·have e:j=lo+n:=by omega
  subst e
  by_cases hi:i=lo+n
  ·subst hi
   exact KeyOrd.kle_refl _
  ·exact(h i (lo+n-1) h1 (by omega) (by omega)).trans q
theorem Ng.next {xs:Array Keyed}{lo n:Nat}(h0:1<=n)(h:Ng key xs lo (lo+n))(q:LE key (at' xs (lo+n)) (at' xs (lo+n-1))):Ng key xs lo (lo+(n+1)):=fun i j h1 h2 h3=>by
 by_cases hj:j < lo+n
 ·exact h i j h1 h2 hj
 ·have e:j=lo+n:=by omega
  subst e
  by_cases hi:i=lo+n
  ·subst hi
   exact KeyOrd.kle_refl _
  ·exact q.trans (h i (lo+n-1) h1 (by omega) (by omega))
def Ky (key:Keyed->O.α)(xs ys:Array Keyed):Prop:=∀ k,key (at' ys k)=key (at' xs k)
theorem Ng.ky {xs ys:Array Keyed}{lo hi:Nat}(h:Ng key xs lo hi)(q:Ky key xs ys):Ng key ys lo hi:=fun i j h1 h2 h3=>by
 unfold LE
 rw[q,q]
 exact h i j h1 h2 h3
theorem c78 {xs:Array Keyed}{i j:Nat}(hj:j<=xs.size)(h:∀ k,i<=k->k < j->key (at' xs k)=key (at' xs (j-1))):Ky key xs (mirror xs i j ((j-i) / 2)):=fun k=>by
 rw[d10 hj]
 split
 ·rw[h _ (by omega) (by omega),h k (by omega) (by omega)]
 ·rfl
theorem f94 (C:Cmp prog w A E s O key D kd){st:SortSt}{lo n0 nrem:Nat}{Q:Option (Option Nat)×Nat->SortSt->Prop}(hk:kindOf st=kd)(hD:AllD D (arrOf st))(hz:lo+nrem<=(arrOf st).size)(h1:1<=n0)(h2:n0<=nrem)(hs:Sg key (arrOf st) lo (lo+n0))
 (h:∀ n,n0<=n->n<=nrem->Sg key (arrOf st) lo (lo+n)->(n=nrem∨LT key (at' (arrOf st) (lo+n)) (at' (arrOf st) (lo+n-1)))->Q (none,n) st) :
 wpS (model prog w) A E s (forIn [n0:nrem] ((none,n0):Option (Option Nat)×Nat) fun _ c=>do
  let z ← ltAt' (lo+c.2) (lo+c.2-1)
  match z with
  | some sm=>if sm=true then pure (.done (none,c.2)) else pure (.yield (none,c.2+1))
  | x=>pure (.done (some none,c.2))) Q st:=by
 refine wpS_forRange (I:=fun x c st'=>st'=st/\c=(none,x)/\x<=nrem/\Sg key (arrOf st) lo (lo+x)) ?step ?fin ⟨rfl,rfl,h2,hs⟩
 case fin =>
  rintro c st' ⟨rfl,rfl,h3,h4⟩
  rw[show max n0 nrem=nrem by omega] at h4 ⊢
  exact h nrem h2 (AZ _) h4 (.inl rfl)
 case step =>
  rintro x c st' hx1 hx2 ⟨rfl,rfl,h3,h4⟩
  refine wpS_bind (c90 C hk hD (by omega) (by omega) ?_)
  dsimp only
  cases q:O.blt (key (at' (arrOf st') (lo+x))) (key (at' (arrOf st') (lo+x-1))) with
  | true =>
   rw[if_pos rfl]
   exact wpS_pure (h x hx1 (by omega) h4 (.inr q))
  | false =>
   rw[if_neg Fx]
   exact wpS_pure ⟨rfl,rfl,by omega,h4.next (by omega) q⟩
theorem d77 (C:Cmp prog w A E s O key D kd){st:SortSt}{lo nrem:Nat}{Q:Option Nat->SortSt->Prop}(hk:kindOf st=kd)(hD:AllD D (arrOf st))(hz:lo+nrem<=(arrOf st).size)(h1:1<=nrem)
 (h:∀ n st',Ch st st' lo (lo+nrem)->1<=n->n<=nrem->Sg key (arrOf st') lo (lo+n)->Q (some n) st'):wpS (model prog w) A E s (countRun' lo nrem) Q st:=by
 unfold countRun'
 k_delta "countRun"
 refine wpS_bind (f94 C hk hD hz (AZ 1) h1 Sg.one fun n hn1 hn2 hs hor=>?_)
 extract_lets -merge +onlyGivenNames r0 n0
 dsimp -zeta -zetaHave only[r0,n0]
 by_cases e:(n == nrem)=true
 ·rw[if_pos e]
  exact wpS_pure (h n st (Ch.refl _ _ _) hn1 hn2 hs)
 rw[if_neg e]
 have e':¬ n=nrem:=fun q=>e (by rw[q];exact beq_self_eq_true _)
 have hlt:=hor.resolve_left e'
 extract_lets -merge +onlyGivenNames n2 q2 q3 jp
 refine b43 (fun Q=>∀ st1,Ch st st1 lo (lo+nrem)->Ng key (arrOf st1) lo (lo+(n+1))->wpS (model prog w) A E s (jp ()) Q st1) ?_ (fun hjp=>?_)
 case refine_2 =>
  by_cases g:n > 1
  ·rw[if_pos g]
   refine wpS_bind (c90 C hk hD (by omega) (by omega) ?_)
   dsimp only
   cases q:O.blt (key (at' (arrOf st) lo)) (key (at' (arrOf st) (lo+n-1))) with
   | true =>
    rw[if_pos rfl]
    exact wpS_pure (h n st (Ch.refl _ _ _) hn1 hn2 hs)
   | false =>
    rw[if_neg Fx]
    have heq:∀ k,lo<=k->k < lo+n->key (at' (arrOf st) k)=key (at' (arrOf st) (lo+n-1)):=fun k k1 k2=>by
     have a1:=hs lo k (by omega) (by omega) (by omega)
     have a2:=hs k (lo+n-1) (by omega) (by omega) (by omega)
     exact KeyOrd.kle_antisymm a2 (KeyOrd.kle_trans (show O.kle _ _ from q) a1)
    have ky:=c78 (key:=key) (xs:=arrOf st) (i:=lo) (j:=lo+n) (by omega) heq
    refine wpS_bind (d33 (hjp _ (Ch.mirror (i:=lo) (j:=lo+n) (by omega) (by omega) hz) ?_))
    refine Ng.ky ?_ ky
    refine Ng.next hn1 (fun i j i1 i2 i3=>?_) hlt.le
    unfold LE
    rw[heq i (by omega) (by omega),heq j (by omega) (by omega)]
    exact KeyOrd.kle_refl _
  ·rw[if_neg g]
   have e1:n=1:=by omega
   subst e1
   refine hjp st (Ch.refl _ _ _) (Ng.next (AZ _) (fun i j i1 i2 i3=>?_) hlt.le)
   have:i=j:=by omega
   subst this
   exact KeyOrd.kle_refl _
 intro st1 c1 ng1
 have hz1:lo+nrem<=(arrOf st1).size:=by rw[c1.size];exact hz
 refine wpS_bind (wpS_lift (wpAny_rule ⟨rfl,?_⟩))
 refine wpS_bind (wpS_mono (wpS_forRange (a:=n+1) (b:=nrem) (I:=fun x c st'=>∃ neq,c=(none,x,neq)/\Ch st st' lo (lo+nrem)/\x<=nrem/\Ng key (arrOf st') lo (lo+x)/\neq+1<=x/\(∀ i,lo+x-(neq+1)<=i->i < lo+x->key (at' (arrOf st') i)=key (at' (arrOf st') (lo+x-1))))
  (Q:=fun c st'=>∃ x neq,c=(none,x,neq)/\n+1<=x/\x<=nrem/\Ch st st' lo (lo+nrem)/\Ng key (arrOf st') lo (lo+x)/\neq+1<=x/\(∀ i,lo+x-(neq+1)<=i->i < lo+x->key (at' (arrOf st') i)=key (at' (arrOf st') (lo+x-1)))) ?step ?fin ⟨0,rfl,c1,by omega,ng1,by omega,fun i i1 i2=>by congr 2;omega⟩) ?post)
 case fin =>
  rintro c st' ⟨neq,rfl,c2,h2,h3,h4,h5⟩
  have em:max (n+1) nrem=nrem:=by omega
  rw[em] at h3 h4 h5 ⊢
  exact⟨nrem,neq,rfl,by omega,by omega,c2,h3,h4,h5⟩
 case step =>
  rintro x c st2 hx1 hx2 ⟨neq,rfl,c2,h2,h3,h4,h5⟩
  have hz2:lo+nrem<=(arrOf st2).size:=by rw[c2.size];exact hz
  have hD2:=hD.perm c2.perm
  have hk2:=c2.kind.trans hk
  refine wpS_bind (c90 (i:=lo+x) (j:=lo+x-1) C hk2 hD2 (by omega) (by omega) ?_)
  dsimp only
  cases q:O.blt (key (at' (arrOf st2) (lo+x))) (key (at' (arrOf st2) (lo+x-1))) with
  | true =>
   rw[if_pos rfl]
   have q':LT key (at' (arrOf st2) (lo+x)) (at' (arrOf st2) (lo+x-1)):=q
   have ng3:=Ng.next (by omega) h3 q'.le
   by_cases g:neq > 0
   ·rw[if_pos g]
    have ky:=c78 (key:=key) (xs:=arrOf st2) (i:=lo+x-(neq+1)) (j:=lo+x) (by omega) h5
    exact wpS_bind (d33 (wpS_pure ⟨0,rfl,c2.trans (Ch.mirror (by omega) (by omega) hz2),by omega,ng3.ky ky,by omega,fun i i1 i2=>by congr 2;omega⟩))
   ·rw[if_neg g]
    exact wpS_pure ⟨0,rfl,c2,by omega,ng3,by omega,fun i i1 i2=>by congr 2;omega⟩
  | false =>
   rw[if_neg Fx]
   refine wpS_bind (c90 (i:=lo+x-1) (j:=lo+x) C hk2 hD2 (by omega) (by omega) ?_)
   dsimp only
   cases q2:O.blt (key (at' (arrOf st2) (lo+x-1))) (key (at' (arrOf st2) (lo+x))) with
   | true =>
    rw[if_pos rfl]
    exact wpS_pure ⟨x,neq,rfl,hx1,by omega,c2,h3,h4,h5⟩
   | false =>
    rw[if_neg Fx]
    have eq:key (at' (arrOf st2) (lo+x))=key (at' (arrOf st2) (lo+x-1)):=KeyOrd.kle_antisymm q2 q
    refine wpS_pure ⟨neq+1,rfl,c2,by omega,Ng.next (by omega) h3 (show O.kle _ _ from q2),by omega,fun i i1 i2=>?_⟩
    rw[show lo+(x+1)-1=lo+x by omega]
    by_cases ix:i=lo+x
    ·rw[ix]
    ·rw[eq]
     exact h5 i (by omega) (by omega)
 case post =>
  rintro c st2 ⟨x,neq,rfl,hx1,hx2,c2,h3,h4,h5⟩
  have hz2:lo+nrem<=(arrOf st2).size:=by rw[c2.size];exact hz
  dsimp only
  have last:∀ st3,Ch st st3 lo (lo+nrem)->Ng key (arrOf st3) lo (lo+x)->∀(f:Option (Option Nat)×Nat->StateT SortSt Sem (Option Nat)),(∀ m st4,Q (some m) st4->wpS (model prog w) A E s (f (none,m)) Q st4)->wpS (model prog w) A E s (do
   reverseSlice' lo (lo+x)
   let c ← forIn [x:nrem] ((none,x):Option (Option Nat)×Nat) fun _ c=>do
    let z ← ltAt' (lo+c.2) (lo+c.2-1)
    match z with
    | some sm=>if sm=true then pure (.done (none,c.2)) else pure (.yield (none,c.2+1))
    | x=>pure (.done (some none,c.2))
   f c) Q st3:=by
   intro st3 c3 ng3 f hf
   have hz3:lo+nrem<=(arrOf st3).size:=by rw[c3.size];exact hz
   refine wpS_bind (d33 ?_)
   have c4:Ch st (setArr st3 (mirror (arrOf st3) lo (lo+x) ((lo+x-lo) / 2))) lo (lo+nrem):=c3.trans (Ch.mirror (by omega) (by omega) hz3)
   refine wpS_bind (f94 C (c4.kind.trans hk) (hD.perm c4.perm) (by rw[c4.size];exact hz) (by omega) hx2 (fun i j i1 i2 i3=>?_) fun m m1 m2 m3 _=>hf m _ (h m _ c4 (by omega) m2 m3))
   show LE key (at' (mirror (arrOf st3) lo (lo+x) ((lo+x-lo) / 2)) i) (at' (mirror (arrOf st3) lo (lo+x) ((lo+x-lo) / 2)) j)
   rw[d10 (by omega),d10 (by omega),if_pos (by omega),if_pos (by omega)]
   exact ng3 _ _ (by omega) (by omega) (by omega)
  by_cases g:neq > 0
  ·rw[if_pos g]
   have ky:=c78 (key:=key) (xs:=arrOf st2) (i:=lo+x-(neq+1)) (j:=lo+x) (by omega) h5
   exact wpS_bind (d33 (last _ (c2.trans (Ch.mirror (by omega) (by omega) hz2)) (h3.ky ky) _ fun m st4 q=>wpS_pure q))
  ·rw[if_neg g]
   exact last st2 c2 h3 _ fun m st4 q=>wpS_pure q
end
end Srt
namespace Srt
open PySem PyProof.Rows
set_option autoImplicit false
section
variable {prog:Program}{w:World}{A:Around}{E:Value->Shared->Prop}{s:Shared}
variable {O:KeyOrd}{key:Keyed->O.α}{D:Keyed->Prop}{kd:SortKind}
theorem e20 {xs:Array Keyed}{src d:Nat}(hs:src < xs.size)(hd:d<=src) (k:Nat):at' (bubble xs src d) k=at' xs (if k=src-d then src else if src-d < k/\k<=src then k-1 else k):=by
 apply b74
 rw[getElem?_bubble hs d hd]
 split
 ·rfl
 ·split <;> rfl
theorem e44 (C:Cmp prog w A E s O key D kd){st:SortSt}{lo n ok:Nat}{Q:Bool->SortSt->Prop}(hk:kindOf st=kd)(hD:AllD D (arrOf st))(hz:lo+n<=(arrOf st).size)(h1:1<=ok)(h2:ok<=n)(hs:Sg key (arrOf st) lo (lo+ok))
 (h:∀ st',Ch st st' lo (lo+n)->Sg key (arrOf st') lo (lo+n)->Q true st'):wpS (model prog w) A E s (binarySort' lo n ok) Q st:=by
 unfold binarySort'
 k_delta "binarySort"
 refine wpS_bind (wpS_mono (wpS_forRange (a:=max ok 1) (b:=n) (I:=fun k c st'=>c=(none,())/\k<=n/\Ch st st' lo (lo+n)/\Sg key (arrOf st') lo (lo+k))
  (Q:=fun c st'=>c=(none,())/\Ch st st' lo (lo+n)/\Sg key (arrOf st') lo (lo+n)) ?step ?fin ⟨rfl,by omega,Ch.refl _ _ _,by rw[show max ok 1=ok by omega];exact hs⟩) ?post)
 case post =>
  rintro c st' ⟨rfl,c1,c2⟩
  exact wpS_pure (h st' c1 c2)
 case fin =>
  rintro c st' ⟨rfl,c1,c2,c3⟩
  rw[show max (max ok 1) n=n by omega] at c3
  exact⟨rfl,c2,c3⟩
 case step =>
  rintro k c st1 hk1 hk2 ⟨rfl,_,c1,s1⟩
  have hz1:lo+n<=(arrOf st1).size:=by rw[c1.size];exact hz
  have hD1:=hD.perm c1.perm
  refine wpS_bind (wpS_mono (wpS_forRange (a:=0) (b:=k) (I:=fun x c st'=>st'=st1/\∃ l r,c=(none,l,r)/\l<=r/\r<=k/\r-l<=k-x/\(∀ i,i < l->LE key (at' (arrOf st1) (lo+i)) (at' (arrOf st1) (lo+k)))/\(∀ i,r<=i->i < k->LT key (at' (arrOf st1) (lo+k)) (at' (arrOf st1) (lo+i))))
   (Q:=fun c st'=>st'=st1/\∃ l r,c=(none,l,r)/\l<=k/\(∀ i,i < l->LE key (at' (arrOf st1) (lo+i)) (at' (arrOf st1) (lo+k)))/\(∀ i,l<=i->i < k->LT key (at' (arrOf st1) (lo+k)) (at' (arrOf st1) (lo+i)))) ?istep ?ifin ⟨rfl,0,k,rfl,by omega,by omega,by omega,fun i hi=>by omega,fun i i1 i2=>by omega⟩) ?ipost)
  case ifin =>
   rintro c st' ⟨rfl,l,r,rfl,a1,a2,a3,a4,a5⟩
   have e:l=r:=by omega
   subst e
   exact⟨rfl,l,l,rfl,a2,a4,a5⟩
  case istep =>
   rintro x c st' _ hx ⟨rfl,l,r,rfl,a1,a2,a3,a4,a5⟩
   dsimp only
   by_cases g:l ≥ r
   ·rw[if_pos g]
    have e:l=r:=by omega
    subst e
    exact wpS_pure ⟨rfl,l,l,rfl,a2,a4,a5⟩
   ·rw[if_neg g]
    refine wpS_bind (c90 C (c1.kind.trans hk) hD1 (by omega) (by omega) ?_)
    dsimp only
    cases q:O.blt (key (at' (arrOf st') (lo+k))) (key (at' (arrOf st') (lo+(l+r) / 2))) with
    | true =>
     rw[if_pos rfl]
     exact wpS_pure ⟨rfl,l,(l+r) / 2,rfl,by omega,by omega,by omega,a4,fun i i1 i2=>KeyOrd.klt_of_klt_of_kle q (s1 _ _ (by omega) (by omega) (by omega))⟩
    | false =>
     rw[if_neg Fx]
     exact wpS_pure ⟨rfl,(l+r) / 2+1,r,rfl,by omega,by omega,by omega,fun i i1=>(s1 _ (lo+(l+r) / 2) (by omega) (by omega) (by omega)).trans (show O.kle _ _ from q),a5⟩
  case ipost =>
   rintro c st' ⟨rfl,l,r,rfl,a1,a4,a5⟩
   show wpS _ _ _ _ (do moveDown' (lo+k) (lo+l);pure (ForInStep.yield (none,()))) _ _
   rw[moveDown'_eq]
   have ed:lo+k-(lo+l)=k-l:=by omega
   have hb:lo+k < (arrOf st').size:=by omega
   refine wpS_bind (wpS_modify (wpS_pure ⟨rfl,by omega,c1.trans ⟨rfl,rfl,rfl,bubble_perm _ _ _,fun i hi=>?_⟩,fun i j i1 i2 i3=>?_⟩))
   ·show(bubble (arrOf st') (lo+k) (lo+k-(lo+l)))[i]?=_
    rw[getElem?_bubble hb _ (by omega),if_neg (by omega),if_neg (by omega)]
   ·show LE key (at' (bubble (arrOf st') (lo+k) (lo+k-(lo+l))) i) (at' (bubble (arrOf st') (lo+k) (lo+k-(lo+l))) j)
    rw[e20 hb (by omega),e20 hb (by omega),show lo+k-(lo+k-(lo+l))=lo+l by omega]
    have lo':∀ t,lo<=t->t < lo+l->LE key (at' (arrOf st') t) (at' (arrOf st') (lo+k)):=fun t t1 t2=>by
     have:=a4 (t-lo) (by omega)
     rwa[show lo+(t-lo)=t by omega] at this
    have hi':∀ t,lo+l<=t->t < lo+k->LE key (at' (arrOf st') (lo+k)) (at' (arrOf st') t):=fun t t1 t2=>by
     have:=(a5 (t-lo) (by omega) (by omega)).le
     rwa[show lo+(t-lo)=t by omega] at this
    repeat' split
    all_goals first
     | (exfalso;omega)
     | exact KeyOrd.kle_refl _
     | exact lo' _ (by omega) (by omega)
     | exact hi' _ (by omega) (by omega)
     | exact s1 _ _ (by omega) (by omega) (by omega)
abbrev Run:Type:=Nat×Nat×Nat
def Cov:Nat->List Run->Nat->Prop
 | b,[],e=>b=e
 | b,(a,n,_)::t,e=>a=b/\0 < n/\Cov (b+n) t e
theorem Cov.append:∀ {l₁ l₂:List Run}{b e:Nat},Cov b (l₁++l₂) e↔∃ m,Cov b l₁ m/\Cov m l₂ e
 | [],l₂,b,e=>⟨fun h=>⟨b,rfl,h⟩,fun⟨m,h1,h2⟩=>by cases h1;exact h2⟩
 | (a,n,p)::t,l₂,b,e=>by
  show(a=b/\0 < n/\Cov (b+n) (t++l₂) e)↔_
  rw[Cov.append]
  exact⟨fun⟨h1,h2,m,h3,h4⟩=>⟨m,⟨h1,h2,h3⟩,h4⟩,fun⟨m,⟨h1,h2,h3⟩,h4⟩=>⟨h1,h2,m,h3,h4⟩⟩
theorem Cov.le:∀ {l:List Run}{b e:Nat},Cov b l e->b+l.length<=e/\∀ r∈l,b<=r.1/\r.1+r.2.1<=e
 | [],b,e,h=>⟨Nat.le_of_eq h,fun _ q=>nomatch q⟩
 | (a,n,p)::t,b,e,⟨h1,h2,h3⟩=>by
  obtain⟨i1,i2⟩:=Cov.le h3
  refine⟨by rw[Cz];omega,fun r hr=>?_⟩
  rcases Cj.mp hr with rfl | hr
  ·show b<=a/\a+n<=e
   omega
  ·have:=i2 r hr
   omega
theorem h84 {l₁ l₂:List Run}{a b x:Run}:((l₁++a::b::l₂).set l₁.length x).eraseIdx (l₁.length+1)=l₁++x::l₂:=by
 induction l₁ with
 | nil=>rfl
 | cons y l₁ ih =>
  show(y::((l₁++a::b::l₂).set l₁.length x).eraseIdx (l₁.length+1))=_
  rw[ih]
  rfl
theorem Sg.out {xs ys:Array Keyed}{lo hi:Nat}(h:Sg key xs lo hi)(q:∀ i,lo<=i->i < hi->ys[i]?=xs[i]?):Sg key ys lo hi:=fun i j h1 h2 h3=>by
 rw[b74 (q i h1 (by omega)),b74 (q j (by omega) h3)]
 exact h i j h1 h2 h3
structure Inv (key:Keyed->O.α)(D:Keyed->Prop)(kd:SortKind)(a₀:Array Keyed)(st:SortSt) (lo:Nat):Prop where
 kind:kindOf st=kd
 fail:failedOf st=none
 perm:(arrOf st).Perm a₀
 cov:Cov 0 (pendingOf st).toList lo
 srt:∀ r∈(pendingOf st).toList,Sg key (arrOf st) r.1 (r.1+r.2.1)
variable {a₀:Array Keyed}
theorem c62 (C:Cmp prog w A E s O key D kd)(hD:AllD D a₀){st:SortSt}{lo i:Nat}{Q:Bool->SortSt->Prop}(I:Inv key D kd a₀ st lo)(hlo:lo<=a₀.size)(hi:i+1 < (pendingOf st).size)
 (h:∀ st',Inv key D kd a₀ st' lo->(pendingOf st').size+1=(pendingOf st).size->(∀ k,lo<=k->(arrOf st')[k]?=(arrOf st)[k]?)->Q true st'):wpS (model prog w) A E s (mergeAt' i) Q st:=by
 obtain⟨l₁,ra,rb,l₂,e,hl⟩:∃ l₁ ra rb l₂,(pendingOf st).toList=l₁++ra::rb::l₂/\l₁.length=i:=by
  have h1:i < (pendingOf st).toList.length:=by rw[Cq];omega
  have h2:i+1 < (pendingOf st).toList.length:=by rw[Cq];omega
  refine⟨(pendingOf st).toList.take i,(pendingOf st).toList[i],(pendingOf st).toList[i+1],(pendingOf st).toList.drop (i+2),?_,by rw[CZ];omega⟩
  rw[← List.drop_eq_getElem_cons h2,← List.drop_eq_getElem_cons h1,List.take_append_drop]
 obtain⟨sa,na,pw⟩:=ra
 obtain⟨sb,nb,pw2⟩:=rb
 have hc:=I.cov
 rw[e] at hc
 obtain⟨m,c1,rfl,ha,c2⟩:=Cov.append.mp hc
 obtain⟨hsb,hb,c3⟩:=c2
 have hbd:=c3.le
 have hbd1:=c1.le
 have p1:(pendingOf st)[i]?=some (sa,na,pw):=by
  rw[← Array.getElem?_toList,e,List.getElem?_append_right (by omega),hl,Nat.sub_self]
  rfl
 have p2:(pendingOf st)[i+1]?=some (sb,nb,pw2):=by
  rw[← Array.getElem?_toList,e,List.getElem?_append_right (by omega),hl,show i+1-i=1 by omega]
  rfl
 have hsz:(arrOf st).size=a₀.size:=I.perm.size_eq
 refine e40 C I.kind I.fail (hD.perm I.perm) p1 p2 hsb ha hb (by omega) ?_ ?_ fun st' k1 k2 k3 k4=>?_
 ·have:=I.srt (sa,na,pw) (by rw[e];simp)
  rw[hsb]
  exact this
 ·exact I.srt (sb,nb,pw2) (by rw[e];simp)
 ·have ep:(pendingOf st').toList=l₁++(sa,na+nb,pw)::l₂:=by
   rw[k3,Array.toList_eraseIdxIfInBounds,Array.toList_setIfInBounds,e,← hl,h84]
  refine h st' ⟨k1,k2,k4.perm.trans I.perm,?_,fun r hr=>?_⟩ ?_ fun k hk=>k4.out k (by omega)
  ·rw[ep]
   refine Cov.append.mpr ⟨sa,c1,rfl,by omega,?_⟩
   rw[show sa+(na+nb)=sa+na+nb by omega]
   exact c3
  ·rw[ep] at hr
   rcases Bq.mp hr with q | q
   ·have b1:=hbd1.2 r q
    exact(I.srt r (by rw[e];exact List.mem_append_left _ q)).out fun k i1 i2=>k4.out k (by omega)
   ·rcases Cj.mp q with rfl | q
    ·have:=k4.srt
     rw[hsb,show sa+na+nb=sa+(na+nb) by omega] at this
     exact this
    ·have b1:=hbd.2 r q
     exact(I.srt r (by rw[e];simp[q])).out fun k i1 i2=>k4.out k (by omega)
  ·have z1:(pendingOf st').toList.length+1=(pendingOf st).toList.length:=by
    rw[ep,e,Bj,Bj,Cz,Cz,Cz]
    omega
   rw[Cq,Cq] at z1
   exact z1
theorem Inv.ch {st st':SortSt}{lo hi:Nat}(I:Inv key D kd a₀ st lo)(c:Ch st st' lo hi):Inv key D kd a₀ st' lo :=
 ⟨c.kind.trans I.kind,c.fail.trans I.fail,c.perm.trans I.perm,by rw[c.pend];exact I.cov,fun r hr=>by
  rw[c.pend] at hr
  have b:=I.cov.le.2 r hr
  exact(I.srt r hr).out fun k k1 k2=>c.out k (by omega)⟩
end
end Srt
namespace Srt
open PySem PyProof.Rows
set_option autoImplicit false
section
variable {prog:Program}{w:World}{A:Around}{E:Value->Shared->Prop}{s:Shared}
variable {O:KeyOrd}{key:Keyed->O.α}{D:Keyed->Prop}{kd:SortKind}{a₀:Array Keyed}
theorem i94 {c:Prop} [Decidable c] {a b n:Nat}(ha:a+1 < n)(hb:b+1 < n):(if c then a else b)+1 < n:=by
 split <;> assumption
def pr (r:Run):Nat×Nat:=(r.1,r.2.1)
theorem Cov.congr:∀ {l l':List Run}{b e:Nat},l.map pr=l'.map pr->Cov b l e->Cov b l' e
 | [],[],b,e,_,h=>h
 | [],_::_,b,e,q,h=>by cases q
 | _::_,[],b,e,q,h=>by cases q
 | (a,n,p)::t,(a',n',p')::t',b,e,q,⟨h1,h2,h3⟩=>by
  rw[CJ,CJ] at q
  obtain⟨q1,q2⟩:=List.cons.inj q
  have q3:a=a':=congrArg Prod.fst q1
  have q4:n=n':=congrArg Prod.snd q1
  subst q3 q4
  exact⟨h1,h2,Cov.congr q2 h3⟩
theorem f57 {g:Run->Run}(hg:∀ r,pr (g r)=pr r)(p:Array Run) (i:Nat):(p.modify i g).toList.map pr=p.toList.map pr:=by
 rw[Array.toList_modify]
 apply List.ext_getElem?
 intro j
 rw[CQ,CQ,List.getElem?_modify]
 cases p.toList[j]? with
 | none=>rfl
 | some r =>
  show some (pr (if i=j then g r else r))=some (pr r)
  split
  ·rw[hg]
  ·rfl
theorem Inv.powers {st st':SortSt}{lo:Nat}(I:Inv key D kd a₀ st lo)(hk:kindOf st'=kindOf st)(hf:failedOf st'=failedOf st)(ha:arrOf st'=arrOf st)(hp:(pendingOf st').toList.map pr=(pendingOf st).toList.map pr):Inv key D kd a₀ st' lo:=by
 refine⟨hk.trans I.kind,hf.trans I.fail,by rw[ha];exact I.perm,I.cov.congr hp.symm,fun r hr=>?_⟩
 have hm:pr r∈(pendingOf st).toList.map pr:=by
  rw[← hp]
  exact List.mem_map_of_mem hr
 obtain⟨r0,m0,e0⟩:=Ez.mp hm
 have q:=I.srt r0 m0
 have e1:r0.1=r.1:=congrArg (fun z:Nat×Nat=>z.1) e0
 have e2:r0.2.1=r.2.1:=congrArg (fun z:Nat×Nat=>z.2) e0
 rw[e1,e2] at q
 rw[ha]
 exact q
theorem Inv.push {st st':SortSt}{lo n:Nat}(I:Inv key D kd a₀ st lo)(hn:1<=n)(hs:Sg key (arrOf st) lo (lo+n))(hk:kindOf st'=kindOf st)(hf:failedOf st'=failedOf st)(ha:arrOf st'=arrOf st)(hp:pendingOf st'=(pendingOf st).push (lo,n,0)):Inv key D kd a₀ st' (lo+n):=by
 refine⟨hk.trans I.kind,hf.trans I.fail,by rw[ha];exact I.perm,?_,fun r hr=>?_⟩
 ·rw[hp,Array.toList_push]
  exact Cov.append.mpr ⟨lo,I.cov,rfl,by omega,rfl⟩
 ·rw[hp,Array.toList_push] at hr
  rw[ha]
  rcases Bq.mp hr with q | q
  ·exact I.srt r q
  ·rw[Ax.mp q]
   exact hs
theorem e26 (C:Cmp prog w A E s O key D kd)(hD:AllD D a₀){st:SortSt}{Q:Unit->SortSt->Prop}(hk:kindOf st=kd)(hf:failedOf st=none)(ha:arrOf st=a₀)(hp:pendingOf st=#[])(h2:2<=a₀.size)
 (h:∀ st',(arrOf st').Perm a₀->failedOf st'=none->Sg key (arrOf st') 0 a₀.size->Q () st'):wpS (model prog w) A E s sortRuns' Q st:=by
 unfold sortRuns'
 k_delta "sortRuns"
 refine wpS_bind (wpS_get ?_)
 have hz:(arrOf st).size=a₀.size:=by rw[ha]
 extract_lets -merge +onlyGivenNames size minrun lo0
 have esz:size=a₀.size:=hz
 refine wpS_bind (wpS_mono (wpS_forRange (a:=0) (b:=size) (I:=fun x c st'=>∃ lo,c=(none,lo)/\Inv key D kd a₀ st' lo/\x<=lo/\lo<=a₀.size) (Q:=fun c st'=>c=(none,a₀.size)/\Inv key D kd a₀ st' a₀.size) ?step ?fin ⟨0,rfl,⟨hk,hf,by rw[ha],by rw[hp];rfl,fun r hr=>by rw[hp] at hr;cases hr⟩,by omega,by omega⟩) ?post)
 case fin =>
  rintro c st' ⟨lo,rfl,I,h3,h4⟩
  have:lo=a₀.size:=by omega
  subst this
  exact⟨rfl,I⟩
 case step =>
  rintro x c st1 _ hx ⟨lo,rfl,I1,h3,h4⟩
  extract_lets -merge +onlyGivenNames l1
  by_cases g:lo ≥ size
  ·rw[if_pos g]
   have:lo=a₀.size:=by omega
   subst this
   exact wpS_pure ⟨rfl,I1⟩
  rw[if_neg g]
  have hz1:(arrOf st1).size=a₀.size:=I1.perm.size_eq
  refine wpS_bind (d77 (lo:=lo) (nrem:=size-lo) C I1.kind (hD.perm I1.perm) (by omega) (by omega) fun n st2 c2 hn1 hn2 s2=>?_)
  have I2:=I1.ch c2
  dsimp -zeta -zetaHave only
  extract_lets -merge +onlyGivenNames n1 jp
  refine b43 (fun Q=>∀ n st3,Inv key D kd a₀ st3 lo->1<=n->lo+n<=a₀.size->Sg key (arrOf st3) lo (lo+n)->wpS (model prog w) A E s (jp () n) Q st3) ?_ (fun hjp=>?_)
  case refine_2 =>
   by_cases g2:n < minrun
   ·rw[if_pos g2]
    refine wpS_bind (wpS_lift (wpAny_rule ⟨rfl,?_⟩))
    have hz2:(arrOf st2).size=a₀.size:=I2.perm.size_eq
    refine wpS_bind (e44 (lo:=lo) (n:=min (size-lo) minrun) (ok:=n) C I2.kind (hD.perm I2.perm) (by omega) hn1 (by omega) s2 fun st3 c3 s3=>?_)
    rw[if_neg (by simp)]
    exact hjp _ st3 (I2.ch c3) (by omega) (by omega) s3
   ·rw[if_neg g2]
    exact hjp _ st2 I2 hn1 (by omega) s2
  intro n st3 I3 hn hb s3
  refine wpS_bind (wpS_get ?_)
  extract_lets -merge +onlyGivenNames z1 jp2
  refine b43 (fun Q=>∀ st4,Inv key D kd a₀ st4 lo->Sg key (arrOf st4) lo (lo+n)->wpS (model prog w) A E s (jp2 ()) Q st4) ?_ (fun hjp=>?_)
  case refine_2 =>
   cases hbk:(pendingOf st3).back? with
   | none=>exact hjp st3 I3 s3
   | some r =>
    obtain⟨s1,n1,p1⟩:=r
    dsimp -zeta -zetaHave only
    extract_lets -merge +onlyGivenNames pw
    refine wpS_bind (wpS_mono (wpS_forRange (a:=0) (b:=size) (I:=fun _ c st'=>c=(none,())/\Inv key D kd a₀ st' lo/\Sg key (arrOf st') lo (lo+n)) (Q:=fun c st'=>c=(none,())/\Inv key D kd a₀ st' lo/\Sg key (arrOf st') lo (lo+n)) ?_ (fun _ _ q=>q) ⟨rfl,I3,s3⟩) ?_)
    ·rintro _ c st4 _ _ ⟨rfl,I4,s4⟩
     refine wpS_bind (wpS_get ?_)
     dsimp only
     by_cases g3:(pendingOf st4).size > 1
     ·rw[if_pos g3]
      have hlt:(pendingOf st4).size-2 < (pendingOf st4).size:=by omega
      rw[getElem?_pos (pendingOf st4) ((pendingOf st4).size-2) hlt]
      obtain⟨u1,u2,u3⟩:=(pendingOf st4)[(pendingOf st4).size-2]
      dsimp only
      by_cases g4:u3<=pw
      ·rw[if_pos g4]
       exact wpS_pure ⟨rfl,I4,s4⟩
      ·rw[if_neg g4]
       refine wpS_bind (c62 C hD I4 h4 (i:=(pendingOf st4).size-2) (by omega) fun st5 I5 _ o5=>?_)
       rw[if_neg (by simp)]
       exact wpS_pure ⟨rfl,I5,s4.out fun k k1 k2=>o5 k k1⟩
     ·rw[if_neg g3]
      exact wpS_pure ⟨rfl,I4,s4⟩
    ·rintro c st4 ⟨rfl,I4,s4⟩
     refine wpS_bind (wpS_modify ?_)
     exact hjp _ (I4.powers rfl rfl rfl (f57 (g:=fun r=>(r.1,r.2.1,pw)) (fun r=>rfl) (pendingOf st4) ((pendingOf st4).size-1))) s4
  intro st4 I4 s4
  refine wpS_bind (wpS_modify (wpS_pure ⟨lo+n,rfl,I4.push hn s4 rfl rfl rfl rfl,by omega,hb⟩))
 case post =>
  rintro c st1 ⟨rfl,I1⟩
  dsimp -zeta -zetaHave only
  refine wpS_bind (wpS_mono (wpS_forRange (a:=0) (b:=size) (I:=fun x c st'=>c=(none,())/\Inv key D kd a₀ st' a₀.size/\((pendingOf st').size<=1∨(pendingOf st').size+x<=a₀.size)) (Q:=fun c st'=>c=(none,())/\Inv key D kd a₀ st' a₀.size/\(pendingOf st').size<=1) ?_ ?_ ⟨rfl,I1,.inr (by have:=I1.cov.le.1;rw[Cq] at this;omega)⟩) ?_)
  ·rintro x c st2 _ hx ⟨rfl,I2,h3⟩
   refine wpS_bind (wpS_get ?_)
   dsimp only
   by_cases g:(pendingOf st2).size<=1
   ·rw[if_pos g]
    exact wpS_pure ⟨rfl,I2,g⟩
   ·rw[if_neg g]
    refine wpS_bind (c62 C hD I2 (AZ _) ?_ fun st3 I3 e3 _=>?_)
    ·have g':¬(pendingOf st2).size<=1:=g
     exact i94 (a:=(pendingOf st2).size-2-1) (b:=(pendingOf st2).size-2) (n:=(pendingOf st2).size) (by omega) (by omega)
    ·rw[if_neg (by simp)]
     exact wpS_pure ⟨rfl,I3,.inr (by omega)⟩
  ·rintro c st2 ⟨rfl,I2,h3⟩
   exact⟨rfl,I2,by omega⟩
  ·rintro c st2 ⟨rfl,I2,h3⟩
   refine wpS_pure (h st2 I2.perm I2.fail ?_)
   have hc:=I2.cov
   have hs:=I2.srt
   generalize hq:(pendingOf st2).toList=l at hc hs
   have hl:l.length<=1:=by rw[← hq,Cq];exact h3
   match l,hl,hc,hs with
   | [],_,hc,_ =>
    have:0=a₀.size:=hc
    omega
   | [(b,n,p)],_,⟨hb,hn,he⟩,hs =>
    have he':0+n=a₀.size:=he
    have q:=hs (b,n,p) (Ax.mpr rfl)
    have e1:b=0:=hb
    subst e1
    rw[show 0+(0,n,p).2.1=a₀.size from he'] at q
    exact q
end
end Srt
namespace Srt
open PySem PyProof.Rows
set_option autoImplicit false
def ltS (a b:Str):Bool:=decide (a.cps.toList < b.cps.toList)
theorem str_ext {a b:Str}(h:a.cps.toList=b.cps.toList):a=b:=by
 cases a;cases b
 congr 1
 exact Array.toList_inj.mp h
theorem f35 (a:Str):ltS a a=false:=strKind.irrefl a.cps.toList
theorem g41 {a b c:Str}(h1:ltS a b=true)(h2:ltS b c=true):ltS a c=true:=strKind.trans _ _ _ h1 h2
theorem f77 {a b:Str}(h1:ltS a b=false)(h2:ltS b a=false):a=b:=str_ext (strKind.total _ _ h1 h2)
def lexB:List Str->List Str->Bool
 | [],[]=>false
 | [],_::_=>true
 | _::_,[]=>false
 | a::x,b::y=>if a=b then lexB x y else ltS a b
theorem lexB_irrefl:∀ a,lexB a a=false
 | []=>rfl
 | a::x=>by
  unfold lexB
  rw[if_pos rfl]
  exact lexB_irrefl x
theorem lexB_trans:∀ {a b c:List Str},lexB a b=true->lexB b c=true->lexB a c=true
 | [],[],c,h,_=>by cases h
 | [],_::_,[],_,h=>by cases h
 | [],_::_,_::_,_,_=>rfl
 | _::_,[],_,h,_=>by cases h
 | _::_,_::_,[],_,h=>by cases h
 | a::x,b::y,c::z,h1,h2=>by
  unfold lexB at h1 h2 ⊢
  by_cases e1:a=b
  ·subst e1
   rw[if_pos rfl] at h1
   by_cases e2:a=c
   ·subst e2
    rw[if_pos rfl] at h2 ⊢
    exact lexB_trans h1 h2
   ·rw[if_neg e2] at h2 ⊢
    exact h2
  ·rw[if_neg e1] at h1
   by_cases e2:b=c
   ·subst e2
    rw[if_neg e1]
    exact h1
   ·rw[if_neg e2] at h2
    have h3:=g41 h1 h2
    by_cases e3:a=c
    ·subst e3
     rw[f35] at h3
     cases h3
    ·rw[if_neg e3]
     exact h3
theorem lexB_total:∀ {a b:List Str},lexB a b=false->lexB b a=false->a=b
 | [],[],_,_=>rfl
 | [],_::_,h,_=>by cases h
 | _::_,[],_,h=>by cases h
 | a::x,b::y,h1,h2=>by
  unfold lexB at h1 h2
  by_cases e:a=b
  ·subst e
   rw[if_pos rfl] at h1 h2
   rw[lexB_total h1 h2]
  ·rw[if_neg e] at h1
   rw[if_neg fun q=>e q.symm] at h2
   exact absurd (f77 h1 h2) e
def pathOrd:KeyOrd where
 α:=List Str
 blt:=lexB
 irrefl:=lexB_irrefl
 trans _ _ _:=lexB_trans
 negTrans a b c h:=by
  cases q:lexB a b with
  | true=>exact .inl rfl
  | false =>
   refine .inr ?_
   cases q2:lexB b a with
   | true=>exact lexB_trans q2 h
   | false=>rw[← lexB_total q q2];exact h
 total _ _:=lexB_total
section
variable {prog:Program}{w:World}{A:Around}{E:Value->Shared->Prop}{s:Shared}
theorem f31 {b:Bool}(hb:b=true):∀ {us vs:List Value}{zs ys:List Str} (i:Nat){Q:Bool->Shared->Prop},StrsAre us zs->StrsAre vs ys->Q (lexB zs ys) s ->
 PySem.W.KatLex prog w A b (decide (zs.length < ys.length)) Q (us.zip vs) i s
 | [],[],_,_,i,Q,.nil,.nil,h=>h
 | [],_::_,_,_,i,Q,.nil,.cons _ _ _,h=>by
  show Q _ s
  rw[show decide (([]:List Str).length < (_::_:List Str).length)=true from Az (Nat.zero_lt_succ _)]
  exact h
 | _::_,[],_,_,i,Q,.cons _ _ _,.nil,h=>by
  show Q _ s
  rw[show decide ((_::_:List Str).length < ([]:List Str).length)=false from Fz (Nat.not_lt_zero _)]
  exact h
 | _::us,_::vs,_,_,i,Q,.cons (ys:=zs) a t r1,.cons (ys:=ys) c u r2,h=>by
  rw[List.zip_cons_cons]
  refine PySem.W.kat_cons (wpAny_eqBool_str ?_)
  unfold lexB at h
  by_cases e:a=c
  ·rw[Az e]
   rw[if_pos e] at h
   refine PySem.W.kat_yes ?_
   have q:=f31 hb (i+1) r1 r2 h
   rw[Cz,Cz,show decide (zs.length+1 < ys.length+1)=decide (zs.length < ys.length) by congr 1;exact propext ⟨fun q=>by omega,fun q=>by omega⟩]
   exact q
  ·rw[Fz e]
   rw[if_neg e] at h
   refine PySem.W.kat_no ?_
   subst hb
   cases i with
   | zero=>exact oneLt_str h
   | succ i=>exact PySem.W.kat_one _ _ (PyProof.Rows.lt_str h)
def pathAt (h:Heap) (v:Value):List Str:=match v with
 | .ref a=>match h.get? a with
  | some o=>match o.data with
   | .seq xs _=>xs.toList.map strOf
   | _=>[]
  | none=>[]
 | _=>[]
structure PathV (h:Heap) (v:Value) (zs:List Str):Prop where
 ex:∃ a o xs n,v=.ref a/\h.get? a=some o/\o.cls=.type "tuple"/\o.data=.seq xs n/\StrsAre xs.toList zs
theorem PathV.key {h:Heap}{v:Value}{zs:List Str}(p:PathV h v zs):pathAt h v=zs:=by
 obtain⟨a,o,xs,n,rfl,h1,h2,h3,h4⟩:=p.ex
 unfold pathAt
 simp only[h1,h3]
 exact h4.strs
theorem h97 {x y:Value}{zs ys:List Str}{Q:Bool->Shared->Prop}(px:PathV s.heap x zs)(py:PathV s.heap y ys)(h:Q (lexB zs ys) s):wpAny (model prog w) A (keyLt' (tuples' true) x y) Q E s:=by
 obtain⟨a,o,xs,n,rfl,h1,h2,h3,h4⟩:=px.ex
 obtain⟨a',o',xs',n',rfl,h1',h2',h3',h4'⟩:=py.ex
 refine PySem.W.kat_lt h1 h3 h1' h3' ?_
 have e1:xs.size=zs.length:=by rw[← h4.strs,Aj,Cq]
 have e2:xs'.size=ys.length:=by rw[← h4'.strs,Aj,Cq]
 rw[e1,e2]
 exact f31 rfl 0 h4 h4' h
theorem cmp_paths:Cmp prog w A E s pathOrd (fun x=>pathAt s.heap x.1) (fun x=>∃ zs,PathV s.heap x.1 zs) (tuples' true) where
 lt:=by
  rintro x y st Q ⟨zs,px⟩ ⟨ys,py⟩ hk h
  rw[lt'_eq]
  refine wpS_bind (wpS_get ?_)
  rw[hk]
  refine wpS_bind (wpS_lift (wpAny_attempt (h97 px py ⟨rfl,?_⟩)))
  rw[px.key,py.key] at h
  exact wpS_pure h
theorem kind_paths {vs:List Value}{Q:SortKind->Shared->Prop}(h2:vs≠[])(hv:∀ v∈vs,∃ zs,PathV s.heap v zs/\zs≠[])(h:Q (tuples' true) s):wpAny (model prog w) A (keyKind' vs.toArray) Q E s:=by
 have go:∀ vs:List Value,(∀ v∈vs,∃ zs,PathV s.heap v zs/\zs≠[])->∃ fs,PySem.W.KatTups s.heap vs fs/\fs.length=vs.length/\∀ v∈fs,∃ x t,v=Value.str x t:=by
  intro vs
  induction vs with
  | nil=>exact fun _=>⟨[],trivial,rfl,fun _ q=>nomatch q⟩
  | cons v vs ih =>
   intro hv
   obtain⟨fs,i1,i2,i3⟩:=ih fun u hu=>hv u (BX _ hu)
   obtain⟨zs,p,hz⟩:=hv v BZ
   obtain⟨a,o,xs,n,rfl,h1,hc,h3,h4⟩:=p.ex
   have e:xs.size=zs.length:=by rw[← h4.strs,Aj,Cq]
   have hp:0 < xs.size:=by
    rw[e]
    exact List.length_pos_iff.mpr hz
   have hm:xs[0]∈xs.toList:=by simp
   obtain⟨x,t,ex⟩:=h4.all _ hm
   refine⟨xs[0]::fs,.cons h1 hc h3 (getElem?_pos xs 0 hp) i1,by rw[Cz,Cz,i2],fun u hu=>?_⟩
   rcases Cj.mp hu with rfl | hu
   ·exact⟨x,t,ex⟩
   ·exact i3 u hu
 obtain⟨fs,i1,i2,i3⟩:=go vs hv
 refine PySem.W.kat_kind (T:=.type "str") i1 (by rw[i2];exact List.length_pos_iff.mpr h2) (fun v hv=>?_) rfl h
 obtain⟨x,t,rfl⟩:=i3 v hv
 exact .now
end
end Srt
namespace Srt
open PySem PyProof.Rows
set_option autoImplicit false
def RawD (h:Heap)(d:Addr)(es:Array DictEntry) (ep:Nat):Prop:=∃ o,h.get? d=some o/\o.ExactDict/\o.data=.dict es ep
theorem RawD.at {h h':Heap}{d:Addr}{es:Array DictEntry}{ep:Nat}(x:RawD h d es ep)(e:∀ o,h.get? d=some o->h'.get? d=some o):RawD h' d es ep:=let ⟨o,ho,r⟩:=x;⟨o,e _ ho,r⟩
theorem RawD.type {s:Shared}{d:Addr}{es:Array DictEntry}{ep:Nat}(x:RawD s.heap d es ep):s.TypeIs (.ref d) "dict" := let ⟨o,ho,r,_⟩:=x;⟨o,ho,r.1⟩
section
variable {prog:Program}{w:World}{A:Around}{E:Value->Shared->Prop}{s:Shared}{d J:Addr}{es:Array DictEntry}{ep i:Nat}
theorem h51 {Q:Value->Shared->Prop}(hd:(d == sysModules)=false)(x:RawD s.heap d es ep)
 (q:Q (.ref s.heap.objs.size) { s with heap:=s.heap.push { cls:=.type "dict_keyiterator", data:=.fields #[.ref d,.int 0 0,.int es.size 0,.int ep 0] } }):wpAny (model prog w) A (pyIter (.ref d)) Q E s:=by
 have tD:=x.type
 obtain⟨o,ho,hc,hdat⟩:=x
 refine wpAny_pyIter_slot tD PySem.F.slot_dict_iter (wpAny_call_entry PySem.F.slot_dict_iter tD PySem.F.entry_dict_iter ?_ (PySem.F.args_dict_iter_1 _))
 unfold Builtin.«dict.__iter__»
 refine AQ ?_
 unfold Builtin.Dict.dictSlotNone
 refine AQ (wpAny_notOrdered_dict tD ?_)
 show wpAny _ _ (pure (Value.ref d)) _ _ s
 refine AX ?_
 show wpAny _ _ (Builtin.Dict.showsAll d >>= _) _ _ s
 unfold Builtin.Dict.showsAll
 rw[if_neg (by rw[hd];simp)]
 refine AQ (AX (AQ (wpAny_dictEntries ho hdat (AQ (wpAny_dictEpoch ho hdat ?_)))))
 exact AQ (Fq (AX ⟨_,rfl, "dict_keyiterator", _,⟨_,DJ _ rfl,rfl⟩,PySem.F.slot_dict_keyiterator_next.lookup,q⟩))
theorem h26 {x:DictEntry}{Q:Option Value->Shared->Prop}(hit:s.heap.IsKeyIter J d i es.size ep)(hm:RawD s.heap d es ep)(hx:es[i]?=some x)
 (q:∀ h',h'.IsKeyIter J d (i+1) es.size ep->Heap.SameBut J s.heap h'->Q (some x.key) { s with heap:=h' }):wpAny (model prog w) A (pyNext (.ref J)) Q E s:=by
 obtain⟨o,ho,hc,hd⟩:=id hit
 obtain⟨od,hod,hcd,hdd⟩:=id hm
 have tJ:=hit.typeIs
 unfold pyNext
 refine AQ (wpAny_attempt (wpAny_callSpecial?_slot (name:=Str.ofString "__next__") tJ PySem.F.slot_dict_keyiterator_next (wpAny_call_entry PySem.F.slot_dict_keyiterator_next tJ PySem.F.entry_dict_keyiterator_next ?_ (PySem.F.args_dict_keyiterator_next_1 _))))
 refine AQ (AX (AQ (AQ ?_)))
 first | refine AQ (wpAny_typeNameOfWhole_keyiter tJ (AX ?_)) | refine AQ (wpAny_typeNameOf_keyiter tJ (AX ?_))
 refine AQ (wpAny_fieldsOf ho hd ?_)
 have no:Builtin.Dict_items.ownsTuple "dict_keyiterator" = false:=by decide
 simp only[no,Bool.false_eq_true,if_false]
 show wpAny _ _ (if (Value.ref d == Value.none)=true then _ else _) _ _ s
 rw[if_neg (show ¬((Value.ref d == Value.none)=true) from fun z=>nomatch z)]
 refine AQ (AX (AQ (wpAny_dictEntries hod hdd ?_)))
 rw[if_neg (by simp)]
 refine AQ (AX (AQ (wpAny_dictEpoch hod hdd ?_)))
 rw[if_neg (by simp)]
 refine AX ?_
 simp only[show ¬((i:Int) < 0) by omega,if_false,Dq,hx]
 refine AQ ?_
 first | refine AQ (wpAny_typeNameOfWhole_keyiter tJ (AX ?_)) | refine AQ (wpAny_typeNameOf_keyiter tJ (AX ?_))
 refine AQ (wpAny_isOneOf_keyiter tJ ?_)
 show wpAny _ _ (setField (.ref J) 1 (rawInt ((i:Int)+1)) >>= _) _ _ s
 refine AQ (wpAny_setField ho hd (by simp) ?_)
 have hit':(s.heap.update J (Obj.mapFields (·.setIfInBounds 1 (rawInt ((i:Int)+1))))).IsKeyIter J d (i+1) es.size ep :=
  ⟨_,Heap.get?_update_self _ ho (Obj.isFreed_of_fields (Obj.data_mapFields hd _)),(Obj.cls_mapFields ..).trans hc,by rw[Obj.data_mapFields hd];simp[rawInt]⟩
 refine AQ (wpAny_holding (AQ (wpAny_isOneOf_keyiter (s:={ s with heap:=s.heap.update J (Obj.mapFields (·.setIfInBounds 1 (rawInt ((i:Int)+1)))) }) hit'.typeIs ?_)))
 show wpAny _ _ (pure x.key) _ _ _
 exact AX (AX ⟨_,rfl,AX (q _ hit' (Heap.SameBut.update ..))⟩)
theorem i22 {Q:Option Value->Shared->Prop}(hh:A.handled=none)(hit:s.heap.IsKeyIter J d i es.size ep)(hm:RawD s.heap d es ep)(hx:es[i]?=none)
 (q:∀ h',Heap.ExtBut J s.heap h'->Q none { s with heap:=h' }):wpAny (model prog w) A (pyNext (.ref J)) Q E s:=by
 obtain⟨o,ho,hc,hd⟩:=id hit
 obtain⟨od,hod,hcd,hdd⟩:=id hm
 have tJ:=hit.typeIs
 unfold pyNext
 refine AQ (wpAny_attempt (wpAny_callSpecial?_slot (name:=Str.ofString "__next__") tJ PySem.F.slot_dict_keyiterator_next (wpAny_call_entry PySem.F.slot_dict_keyiterator_next tJ PySem.F.entry_dict_keyiterator_next ?_ (PySem.F.args_dict_keyiterator_next_1 _))))
 refine AQ (AX (AQ (AQ ?_)))
 first | refine AQ (wpAny_typeNameOfWhole_keyiter tJ (AX ?_)) | refine AQ (wpAny_typeNameOf_keyiter tJ (AX ?_))
 refine AQ (wpAny_fieldsOf ho hd ?_)
 have no:Builtin.Dict_items.ownsTuple "dict_keyiterator" = false:=by decide
 simp only[no,Bool.false_eq_true,if_false]
 show wpAny _ _ (if (Value.ref d == Value.none)=true then _ else _) _ _ s
 rw[if_neg (show ¬((Value.ref d == Value.none)=true) from fun z=>nomatch z)]
 refine AQ (AX (AQ (wpAny_dictEntries hod hdd ?_)))
 rw[if_neg (by simp)]
 refine AQ (AX (AQ (wpAny_dictEpoch hod hdd ?_)))
 rw[if_neg (by simp)]
 refine AX ?_
 simp only[show ¬((i:Int) < 0) by omega,if_false,Dq,hx]
 refine AQ ?_
 first | refine AQ (wpAny_typeNameOfWhole_keyiter tJ (AX ?_)) | refine AQ (wpAny_typeNameOf_keyiter tJ (AX ?_))
 show wpAny _ _ (setField (.ref J) 0 .none >>= _) _ _ s
 refine AQ (wpAny_setField ho hd (by simp) ?_)
 show wpAny _ _ (newExc (.type "StopIteration") [] >>= _) _ _ _
 refine AQ ?_
 simp only[newExc,newTuple]
 refine AQ (Fq ?_ (by size_fits))
 refine AQ (m:=firstArgMember _ _) (wpAny_of_eq (a:=Value.none) (by first | rfl | (simp only[firstArgMember];rfl)) (Fq ?_ (by size_fits)))
 simp only[raiseNew]
 refine AQ (wpAny_handled ?_)
 rw[show A.in1.handled=none from hh]
 refine AQ (AX (wpAny_throw ?_))
 refine AQ (wpAny_isInstance (T := "StopIteration") (b:=true) ⟨_,DJ _ rfl,rfl⟩ isSubtype_stop ?_)
 exact AX (q _ (((Heap.SameBut.update ..).extBut.push _).push _))
theorem g70 (hh:A.handled=none)(J d:Addr)(hne:d≠J)(es:Array DictEntry) (ep:Nat) :
 Walks prog w A J [J,d] [J] es.size (fun i v=>∃ x,es[i]?=some x/\v=x.key) (fun i h=>h.IsKeyIter J d i es.size ep/\RawD h d es ep) where
 sub:=fun b hb=>by simp at hb;simp[hb]
 frame:=fun _ _ _ st hk=>⟨st.1.at fun o e=>hk J (by simp) o e,st.2.at fun o e=>hk d (by simp) o e⟩
 item:=fun i s Q E hi st hQ=>h26 st.1 st.2 (getElem?_pos es i hi) fun h' hit' hs' =>
  hQ _ h' s.toks ⟨_,getElem?_pos es i hi,rfl⟩ ⟨hit',st.2.at fun o e=>hs'.extBut d o hne e⟩ fun b o hb e=>hs'.extBut b o (fun h=>hb (by simp[h])) e
 done:=fun s Q E st hQ=>i22 hh st.1 st.2 (by simp) fun h' he'=>hQ h' s.toks fun b o hb e=>he' b o (fun h=>hb (by simp[h])) e
 self:=fun _ _ _ _ st hQ=>wpAny_pyIter_keyiter st.1 hQ
theorem h03:typeLookup (.type "dict") "__len__" = pure (some (.builtin "dict.__len__")):=by rw[typeLookup_type,builtinLookup_eq_fast];kernel_rfl
theorem collect_raw {Q:List Value->Shared->Prop}(hh:A.handled=none)(hd:(d == sysModules)=false)(x:RawD s.heap d es ep)(hn:es.size<=sizeLine)
 (q:∀ s',(∀ b o,s.heap.get? b=some o->s'.heap.get? b=some o)->s'.gens=s.gens->s'.drawn=s.drawn->s'.os=s.os->Q (es.toList.map (·.key)) s'):wpAny (model prog w) A (collect (.ref d)) Q E s:=by
 have hlt:d < s.heap.objs.size:=let ⟨o,ho,_⟩:=x;Ej ho
 unfold collect
 refine AQ (wpAny_runValue (codeAny_builtin PySem.F.entry_proto_collect ?_))
 rw[Around.under_plainId PySem.F.plain_proto_collect _]
 show wpAny _ A.in1 (newList [] >>= fun l=>again (.builtin "list.__iadd__" ⟨[l,.ref d],[]⟩)) _ _ s
 refine AQ (Fq ?_)
 refine AX ⟨plainId_quiet PySem.F.plain_list_iadd _,codeAny_builtin PySem.F.entry_list_iadd ?_⟩
 rw[Around.under_plainId PySem.F.plain_list_iadd _]
 show wpAny _ A.in1 (Builtin.List.listExtendWith (.ref s.heap.objs.size) (.ref d) (.ref s.heap.objs.size)) _ _ _
 unfold Builtin.List.listExtendWith
 have x1:RawD (s.heap.push { cls:=.type "list", data:=.seq ([]:List Value).toArray }) d es ep:=x.at fun o e=>Aq _ e
 have t1:Shared.TypeIs { s with heap:=s.heap.push { cls:=.type "list", data:=.seq ([]:List Value).toArray } } (.ref d) "dict" := RawD.type (s:={ s with heap:=s.heap.push { cls:=.type "list", data:=.seq ([]:List Value).toArray } }) x1
 refine AQ (wpAny_typeOf t1 ?_)
 have h1:Builtin.List.listSameRef (.ref s.heap.objs.size) (.ref d)=false:=by
  simp only[Builtin.List.listSameRef]
  exact beq_eq_false_iff_ne.mpr (Nat.ne_of_gt hlt)
 have h2:(Value.type "dict" == Value.type "list")=false:=by decide
 have h3:(Value.type "dict" == Value.type "tuple")=false:=by decide
 simp only[h1,h2,h3,Bool.or_false,Bool.false_eq_true,if_false]
 refine AQ (h51 hd x1 ?_)
 refine AQ (wpAny_holding ?_)
 generalize hH:s.heap.push { cls:=.type "list", data:=.seq ([]:List Value).toArray }=G at x1 t1 ⊢
 have hG:G.objs.size=s.heap.objs.size+1:=by rw[← hH,Heap.size_push]
 have kG:∀ b o,s.heap.get? b=some o->G.get? b=some o:=fun b o e=>by rw[← hH];exact Aq _ e
 have sG:G.get? s.heap.objs.size=some { cls:=.type "list", data:=.seq ([]:List Value).toArray }:=by rw[← hH];exact DJ _ rfl
 have t2:Shared.TypeIs { s with heap:=G.push { cls:=.type "dict_keyiterator", data:=.fields #[.ref d,.int 0 0,.int es.size 0,.int ep 0] } } (.ref d) "dict" :=
  RawD.type (s:={ s with heap:=G.push { cls:=.type "dict_keyiterator", data:=.fields #[.ref d,.int 0 0,.int es.size 0,.int ep 0] } }) (x1.at fun o e=>Aq _ e)
 unfold Builtin.List.listLengthHint
 refine AQ (wpAny_specialOf (T := "dict") (v:=.ref d) t2 h03 ?_)
 wp_delta
 refine AQ (wpAny_isInstance (T := "dict") (v:=.ref d) (b:=true) t2 (by rw[isSubtype_type];kernel_rfl) ?_)
 show wpAny _ A.in1 (typeOf (Value.ref d) >>= _) _ _ _
 refine AQ (wpAny_typeOf t2 ?_)
 refine AX ?_
 rw[if_pos (by decide)]
 refine AQ (wpAny_rule ?_)
 have sP:(G.push { cls:=.type "dict_keyiterator", data:=.fields #[.ref d,.int 0 0,.int es.size 0,.int ep 0] }).get? s.heap.objs.size=some { cls:=.type "list", data:=.seq ([]:List Value).toArray }:=Aq _ sG
 have iP:(G.push { cls:=.type "dict_keyiterator", data:=.fields #[.ref d,.int 0 0,.int es.size 0,.int ep 0] }).IsKeyIter G.objs.size d 0 es.size ep:=⟨_,DJ _ rfl,rfl,rfl⟩
 have dP:RawD (G.push { cls:=.type "dict_keyiterator", data:=.fields #[.ref d,.int 0 0,.int es.size 0,.int ep 0] }) d es ep:=x1.at fun o e=>Aq _ e
 have kP:∀ b o,s.heap.get? b=some o->(G.push { cls:=.type "dict_keyiterator", data:=.fields #[.ref d,.int 0 0,.int es.size 0,.int ep 0] }).get? b=some o:=fun b o e=>Aq _ (kG b o e)
 show wpAny _ A.in1 (Builtin.List.listTouch (.ref s.heap.objs.size) >>= fun _=>again (.builtin "list.extend.loop" ⟨[.ref s.heap.objs.size,.ref G.objs.size,.ref s.heap.objs.size],[]⟩)) _ _ { s with heap:=G.push { cls:=.type "dict_keyiterator", data:=.fields #[.ref d,.int 0 0,.int es.size 0,.int ep 0] } }
 generalize G.push { cls:=.type "dict_keyiterator", data:=.fields #[.ref d,.int 0 0,.int es.size 0,.int ep 0] }=Y at sP iP dP kP ⊢
 refine AQ ?_
 show wpAny _ A.in1 (updateSeq s.heap.objs.size (·.push .none) >>= fun _=>updateSeq s.heap.objs.size (·.pop)) _ _ _
 refine AQ (wpAny_updateSeq sP rfl ?_)
 have s2:=Heap.get?_update_self (Obj.mapSeq (·.push Value.none)) sP rfl
 refine wpAny_updateSeq s2 rfl ?_
 have s3:=Heap.get?_update_self (Obj.mapSeq (·.pop)) s2 rfl
 have oth:∀ b o,b≠s.heap.objs.size->Y.get? b=some o->((Y.update s.heap.objs.size (Obj.mapSeq (·.push Value.none))).update s.heap.objs.size (Obj.mapSeq (·.pop))).get? b=some o :=
  fun b o hb e=>(DZ _ _ (Ne.symm hb)).trans ((DZ _ _ (Ne.symm hb)).trans e)
 have hJ:s.heap.objs.size∉[G.objs.size,d]:=fun hm=>by
  rcases Cj.mp hm with h | h
  ·rw[hG] at h
   exact absurd h (Nat.ne_of_lt (Nat.lt_succ_self _))
  ·exact absurd (Ax.mp h) (Nat.ne_of_gt hlt)
 have dG:d≠G.objs.size:=by rw[hG];exact Nat.ne_of_lt (Nat.lt_succ_of_lt hlt)
 have gs:G.objs.size≠s.heap.objs.size:=by rw[hG];exact Nat.ne_of_gt (Nat.lt_succ_self _)
 refine AX ⟨plainId_quiet PySem.F.plain_extend_loop _,codeAny_extend_loopS (g70 (prog:=prog) (w:=w) (A:=A.in1) hh G.objs.size d dG es ep).toS hn _ hJ _ es.size 0 _ _ _ rfl (FJ _)
  ⟨iP.at fun o e=>oth _ o gs e,dP.at fun o e=>oth _ o (Nat.ne_of_lt hlt) e⟩ s3 (ItemsOf.nil _) fun s' acc c hm hS' hacc=>?_⟩
 show wpAny _ A (load s.heap.objs.size >>= _) _ _ s'
 refine AQ (wpAny_load hS' ?_)
 have ea:acc.toList=es.toList.map (·.key):=by
  apply List.ext_getElem?
  intro i
  rw[CQ,Array.getElem?_toList,Array.getElem?_toList]
  by_cases hi:i < es.size
  ·have hi2:i < acc.size:=by rw[hacc.1];exact hi
   obtain⟨y,hy,e⟩:=hacc.2 i acc[i] (getElem?_pos acc i hi2)
   rw[getElem?_pos acc i hi2,hy,e]
   rfl
  ·rw[getElem?_neg acc i (by rw[hacc.1];exact hi),getElem?_neg es i hi]
   rfl
 show wpAny _ A (pure acc.toList) _ _ _
 rw[ea]
 refine AX (q s' (fun b o e=>?_) hm.gens hm.drawn hm.os)
 have hb:=Ej e
 exact hm.heap b o (fun hm2=>by
  rcases Cj.mp hm2 with h | h
  ·exact absurd h (Nat.ne_of_lt hb)
  ·rw[Ax.mp h,hG] at hb
   exact absurd hb (Nat.not_lt.mpr (FX _))) (oth b o (Nat.ne_of_lt hb) (kP b o e))
theorem h21 {O:KeyOrd}{key:Keyed->O.α}{D:Keyed->Prop}{kd:SortKind}{a:Addr}{vs:List Value}{n:Nat}{P:PySem.Fin->Shared->Prop}(ho:s.heap.get? a=some (seqObj "list" vs.toArray n))(hz:vs.length<=sizeLine)
 (hk:2<=vs.length->∀ s':Shared,(∀ b o,b≠a->s.heap.get? b=some o->s'.heap.get? b=some o)->Cmp prog w A E s' O key D kd/\AllD D (pairsOf vs)/\∀ Q:SortKind->Shared->Prop,Q kd s'->wpAny (model prog w) A (keyKind' vs.toArray) Q E s')
 (h:∀ out:Array Keyed,out.Perm (pairsOf vs)->Sg key out 0 (pairsOf vs).size->P (.done (.ret .none)) { s with heap:=sortedHeap s.heap a vs (out.map (·.2)) }):wpAny (model prog w) A (Builtin.«list.sort» ⟨[.ref a],[]⟩) P E s:=by
 rw[list_sort_plain]
 have ha:a < s.heap.objs.size:=Ej ho
 refine AQ (listItems_at ho rfl (AQ (listUpdate_at ho rfl ?_)))
 obtain⟨e1,ho1⟩:∃ e1,(s.heap.update a (Obj.mapSeq fun _=>#[])).get? a=some (seqObj "list" #[] e1):=⟨_,get?_update_seq ho (fun _=>#[])⟩
 refine AQ (seqEpoch_at ho1 rfl (AQ (wpAny_newTuple (AQ (wpAny_newList (wpAny_holding ?_))))))
 have ho6:(((s.heap.update a (Obj.mapSeq fun _=>#[])).push (seqObj "tuple" vs.toArray 0)).push (seqObj "list" #[] 0)).get? a=some (seqObj "list" #[] e1):=Aq _ (Aq _ ho1)
 have kp:∀ b o,b≠a->s.heap.get? b=some o->(((s.heap.update a (Obj.mapSeq fun _=>#[])).push (seqObj "tuple" vs.toArray 0)).push (seqObj "list" #[] 0)).get? b=some o:=fun b o hb e =>
  Aq _ (Aq _ ((DZ _ _ (Ne.symm hb)).trans e))
 show wpAny (model prog w) A _ P E { s with heap:=((s.heap.update a (Obj.mapSeq fun _=>#[])).push (seqObj "tuple" vs.toArray 0)).push (seqObj "list" #[] 0) }
 dsimp only
 have hsz:vs.toArray.size=vs.length:=by simp
 by_cases h2:vs.toArray.size < 2
 ·rw[if_pos h2,if_pos h2]
  refine AQ (AX ?_)
  rw[StateT.run_pure]
  refine AQ (AX ?_)
  dsimp only
  refine AQ (seqEpoch_at ho6 rfl (AQ (listUpdate_at ho6 rfl ?_ (hsz2:=by rw[Array.size_map];show(pairsOf vs).size<=_;rw[pairsOf_size,sizeLine_eq];omega))))
  simp only[bne_self_eq_false,Bool.false_eq_true,if_false]
  refine AX (h (pairsOf vs) (Array.Perm.refl _) ?_)
  intro i j _ hij hj
  have:i=j:=by rw[pairsOf_size] at hj;omega
  subst this
  exact KeyOrd.kle_refl _
 ·rw[if_neg h2,if_neg h2]
  obtain⟨C,hD,hkk⟩:=hk (by omega) { s with heap:=((s.heap.update a (Obj.mapSeq fun _=>#[])).push (seqObj "tuple" vs.toArray 0)).push (seqObj "list" #[] 0) } kp
  refine AQ (hkk _ ?_)
  refine AQ (Dz (e26 C hD (st:=SortSt.mk' kd (vs.toArray.zip vs.toArray) #[] 7 none)
   (Q:=fun _ st'=>(arrOf st').Perm (pairsOf vs)/\failedOf st'=none/\Sg key (arrOf st') 0 (pairsOf vs).size)
   rfl rfl rfl rfl (by rw[pairsOf_size];omega) fun st' a1 a2 a3=>⟨a1,a2,a3⟩) ?_ fun _ _ e=>e)
  rintro⟨⟨⟩,st'⟩ s' ⟨rfl,hp,hf,hs⟩
  dsimp only
  refine AQ (seqEpoch_at ho6 rfl (AQ (listUpdate_at ho6 rfl ?_ (hsz2:=by refine FQ (Nat.le_of_eq ((Array.size_map ..).trans (hp.size_eq.trans (pairsOf_size _)))) ?_;omega))))
  rw[hf]
  simp only[bne_self_eq_false,Bool.false_eq_true,if_false]
  exact AX (h _ hp hs)
theorem sorted_any {O:KeyOrd}{key:Keyed->O.α}{D:Keyed->Prop}{kd:SortKind}{src:Value}{vs:List Value}{Q:Value->Shared->Prop}(hz:vs.length<=sizeLine)
 (hc:∀ Q':List Value->Shared->Prop,(∀ s',(∀ b o,s.heap.get? b=some o->s'.heap.get? b=some o)->s'.gens=s.gens->s'.drawn=s.drawn->s'.os=s.os->Q' vs s')->wpAny (model prog w) A.in1 (collect src) Q' E s)
 (hk:2<=vs.length->∀(A:Around) (E:Value->Shared->Prop)(s':Shared),(∀ b o,s.heap.get? b=some o->s'.heap.get? b=some o)->Cmp prog w A E s' O key D kd/\AllD D (pairsOf vs)/\∀ Q:SortKind->Shared->Prop,Q kd s'->wpAny (model prog w) A (keyKind' vs.toArray) Q E s')
 (h:∀(out:Array Keyed) (n:Nat)(s1:Shared)(h':Heap),out.Perm (pairsOf vs)->Sg key out 0 (pairsOf vs).size->(∀ b o,s.heap.get? b=some o->s1.heap.get? b=some o)->s1.gens=s.gens->s1.drawn=s.drawn->s1.os=s.os ->
   (∀ b o,s1.heap.get? b=some o->h'.get? b=some o)->h'.get? s1.heap.objs.size=some (seqObj "list" (out.map (·.2)) n)->Q (.ref s1.heap.objs.size) { s1 with heap:=h' }):wpAny (model prog w) A (call (.builtin "sorted") [src]) Q E s:=by
 refine Calls.call_function_entry kind_sorted plain_sorted entry_sorted (args_sorted1 _) ?_
 unfold Builtin.«sorted»
 refine AQ (m:=checkCount "sorted" 1 1 _) (AX ?_)
 refine AQ (hc _ fun s1 k1 g1 d1 o1=>?_)
 refine AQ (wpAny_newList ?_)
 have hoL:(s1.heap.push (seqObj "list" vs.toArray 0)).get? s1.heap.objs.size=some (seqObj "list" vs.toArray 0):=DJ _ rfl
 have kL:∀ b o,s1.heap.get? b=some o->(s1.heap.push (seqObj "list" vs.toArray 0)).get? b=some o:=fun b o e=>Aq _ e
 show wpAny _ _ _ _ _ { s1 with heap:=s1.heap.push (seqObj "list" vs.toArray 0) }
 refine AQ (wpAny_holding (wpAny_call_entry slot_list_sort ⟨_,hoL,rfl⟩ entry_list_sort (h21 (O:=O) (key:=key) (D:=D) (kd:=kd) hoL hz (fun h2 s' ks=>hk h2 _ _ s' fun b o e=>ks b o (Nat.ne_of_lt (Ej (k1 b o e))) (kL b o (k1 b o e))) fun out a1 a2=>⟨_,rfl,?_⟩) (args_list_sort _)))
 obtain⟨n,en⟩:=sortedHeap_at (out:=out.map (·.2)) hoL
 refine AX ⟨_,rfl,h out n s1 _ a1 a2 k1 g1 d1 o1 (fun b o e=>?_) en⟩
 have hb:=Ej e
 rw[sortedHeap_old (Nat.ne_of_lt hb) (by rw[size_push'];exact Nat.lt_succ_of_lt hb)]
 exact kL b o e
end
end Srt
namespace L2
open PySem PySem.Spec PyProof.Rows
abbrev Key:=Sum Int Str
def e31:Key->Value->Bool
 | .inl k,v=>Value.isInt k v
 | .inr x,v=>Value.isStrOf x v
def keyH (w:World):Key->Int
 | .inl k=>hashInt k
 | .inr x=>hashStr w x
theorem a67:∀ {k:Key}{v:Value},e31 k v=true->(∃ i t,k=Sum.inl i/\v=Value.int i t)∨(∃ x t,k=Sum.inr x/\v=Value.str x t)
 | .inl i,v,h=>by
  obtain⟨t,e⟩:=Value.isInt_shape (k:=i) (v:=v) h
  exact .inl ⟨i,t,rfl,e⟩
 | .inr x,v,h=>by
  obtain⟨t,e⟩:=Value.isStrOf_shape (x:=x) (v:=v) h
  exact .inr ⟨x,t,rfl,e⟩
theorem g12 (i:Int)(t:Tok):e31 (.inl i) (.int i t)=true:=by simp[e31,Value.isInt]
theorem g45 (x:Str)(t:Tok):e31 (.inr x) (.str x t)=true:=by simp[e31,Value.isStrOf]
theorem i83 (a b:Int):decide ((Sum.inl a:Key)=Sum.inl b)=(a == b):=by
 by_cases e:a=b
 ·subst e;simp
 ·have h:¬(Sum.inl a:Key)=Sum.inl b:=fun q=>e (Sum.inl.inj q)
  rw[Fz h]
  exact(beq_eq_false_iff_ne.mpr e).symm
theorem i81 (a b:Str):decide ((Sum.inr a:Key)=Sum.inr b)=decide (a=b):=by
 by_cases e:a=b
 ·subst e;simp
 ·have h:¬(Sum.inr a:Key)=Sum.inr b:=fun q=>e (Sum.inr.inj q)
  rw[Fz h,Fz e]
theorem j08 (a:Int) (b:Str):decide ((Sum.inl a:Key)=Sum.inr b)=false:=Fz (fun q=>nomatch q)
theorem i98 (a:Str) (b:Int):decide ((Sum.inr a:Key)=Sum.inl b)=false:=Fz (fun q=>nomatch q)
def a77 (prog:Program)(w:World):PySem.KeyKind prog w Key where
 is:=e31
 hash:=keyH w
 inj:=fun v a b ha hb=>by
  rcases a67 ha with⟨i,t,rfl,rfl⟩ | ⟨x,t,rfl,rfl⟩
  ·rcases a67 hb with⟨j,u,rfl,e⟩ | ⟨y,u,rfl,e⟩
   ·injection e with e1 _;rw[e1]
   ·exact nomatch e
  ·rcases a67 hb with⟨j,u,rfl,e⟩ | ⟨y,u,rfl,e⟩
   ·exact nomatch e
   ·injection e with e1 _;rw[e1]
 byValue:=fun k v h=>by
  rcases a67 h with⟨i,t,rfl,rfl⟩ | ⟨x,t,rfl,rfl⟩ <;> rfl
 pyHash:=fun hv h=>by
  rcases a67 hv with⟨i,t,rfl,rfl⟩ | ⟨x,t,rfl,rfl⟩
  ·exact wpAny_pyHash_int h
  ·exact wpAny_pyHash_str h
 eqBool:=fun hu hv h=>by
  rcases a67 hu with⟨i,t,rfl,rfl⟩ | ⟨x,t,rfl,rfl⟩
  ·rcases a67 hv with⟨j,u,rfl,rfl⟩ | ⟨y,u,rfl,rfl⟩
   ·rw[i83] at h;exact wpAny_eqBool_int h
   ·rw[j08] at h;exact SeqAt.EqAt.int_str i t y u _ _ _ _ h
  ·rcases a67 hv with⟨j,u,rfl,rfl⟩ | ⟨y,u,rfl,rfl⟩
   ·rw[i98] at h;exact SeqAt.EqAt.str_int x t j u _ _ _ _ h
   ·rw[i81] at h;exact wpAny_eqBool_str h
 «strs»:=fun k x t v h=>by
  rcases a67 h with⟨i,u,rfl,e⟩ | ⟨y,u,rfl,e⟩
  ·exact nomatch e
  ·injection e with e1 _
   subst e1
   cases v <;> rfl
theorem f43 (prog:Program)(w:World)(k:Key) (v:Value):(a77 prog w).is k v=e31 k v:=rfl
theorem e34 (prog:Program)(w:World) (i:Int)(t:Tok):(a77 prog w).is (.inl i) (.int i t)=true:=g12 i t
theorem e38 (prog:Program)(w:World) (x:Str)(t:Tok):(a77 prog w).is (.inr x) (.str x t)=true:=g45 x t
end L2
namespace L2
open PySem PySem.Spec PyProof.Rows
inductive V where
 | non | bl (b:Bool) | int (i:Int) | str (x:Str) | byt (b:Array UInt8) | flt (b:UInt64) | ref (a:Addr) | ty (n:String)
 deriving DecidableEq
def RelV:V->Value->Prop
 | .non,u=>u=Value.none
 | .bl b,u=>u=Value.bool b
 | .int i,u=>∃ t,u=Value.int i t
 | .str x,u=>∃ t,u=Value.str x t
 | .byt b,u=>∃ t,u=Value.bytes b t
 | .flt b,u=>∃ t,u=Value.float b t
 | .ref a,u=>u=Value.ref a
 | .ty n,u=>u=Value.type n
abbrev Vals:List V->List Value->Prop:=Paired RelV
theorem Vals.length {xs:List V}{us:List Value}(r:Vals xs us):xs.length=us.length:=Paired.length r
theorem Vals.get:∀ {xs:List V}{us:List Value}{i:Nat}{x:V},Vals xs us->xs[i]?=some x->∃ u,us[i]?=some u/\RelV x u
 | _,_,_,_,.nil,e=>by simp at e
 | _,_,0,_,.cons r _,e=>by simp at e;subst e;exact⟨_,rfl,r⟩
 | _,_,i+1,x,.cons _ t,e=>by
  obtain⟨u,h1,h2⟩:=Vals.get (i:=i) (x:=x) t (by simpa using e)
  exact⟨u,by simpa using h1,h2⟩
theorem Vals.set {x:V}{u:Value}(r:RelV x u):∀ {xs:List V}{us:List Value} (i:Nat),Vals xs us->Vals (xs.set i x) (us.set i u)
 | _,_,_,.nil=>.nil
 | _,_,0,.cons _ t=>.cons r t
 | _,_,i+1,.cons q t=>.cons q (Vals.set r i t)
theorem Vals.append:∀ {xs ys:List V}{us ws:List Value},Vals xs us->Vals ys ws->Vals (xs++ys) (us++ws)
 | _,_,_,_,.nil,s=>s
 | _,_,_,_,.cons r t,s=>.cons r (Vals.append t s)
theorem Vals.take:∀ {xs:List V}{us:List Value} (n:Nat),Vals xs us->Vals (xs.take n) (us.take n)
 | _,_,0,_=>.nil
 | _,_,_+1,.nil=>.nil
 | _,_,n+1,.cons r t=>.cons r (Vals.take n t)
theorem Vals.drop:∀ {xs:List V}{us:List Value} (n:Nat),Vals xs us->Vals (xs.drop n) (us.drop n)
 | _,_,0,r=>r
 | _,_,_+1,.nil=>.nil
 | _,_,n+1,.cons _ t=>Vals.drop n t
theorem Vals.none_of:∀ {xs:List V}{us:List Value}{i:Nat},Vals xs us->xs[i]?=none->us[i]?=none:=fun {xs us i} r e=>by
 have h1:=r.length
 have h2:xs.length<=i:=List.getElem?_eq_none_iff.mp e
 exact List.getElem?_eq_none_iff.mpr (by omega)
def RelO:Option V->Option Value->Prop
 | some v,some u=>RelV v u
 | none,none=>True
 | _,_=>False
def KV {κ:Type}:List (κ×V)->List (κ×Value)->Prop:=Paired fun(p:κ×V)(q:κ×Value)=>p.1=q.1/\RelV p.2 q.2
def kV:Key->V
 | .inl i=>.int i
 | .inr x=>.str x
inductive HO where
 | lst (xs:List V)
 | tup (xs:List V)
 | dK (kvs:List (Key×V)) | dT (kvs:List (List Key×V))
 | set (S:Int->Bool) (n:Nat)
 | ins (C dx:Addr) (fs:List (Str×V))
 | own (x:Addr)
 | xd (fs:List (Str×V))
 | met (f x:Addr)
 | rng (lo hi:Int)
 | frz (o:Obj)(u:HO)
 | tbl (ps:Array Value)
 | ext (φ:Heap->Prop)
abbrev Hp:=Addr->Option HO
def upd (H:Hp)(a:Addr)(o:HO):Hp:=fun b=>if b=a then some o else H b
theorem a02 {H:Hp}{a:Addr}{o:HO}:upd H a o a=some o:=by unfold upd;rw[if_pos rfl]
theorem a06 {H:Hp}{a b:Addr}{o:HO}(h:b≠a):upd H a o b=H b:=by unfold upd;rw[if_neg h]
theorem h91 {H:Hp}{a:Addr}{o u:HO}:upd (upd H a o) a u=upd H a u:=by
 funext b;unfold upd;split <;> rfl
theorem a85 {H:Hp}{a b:Addr}{o u:HO}(h:H a=some o)(h':H b=some u)(d:o≠u):a≠b:=by
 intro e;subst e;rw[h] at h';exact d (EJ h')
theorem a01 {H:Hp}{a b:Addr}{o:HO}(h:H a=some o)(h':H b=none):a≠b:=by
 intro e;subst e;rw[h] at h';cases h'
section
variable (P:Program)(w:World)
def ObjOk (H:Hp)(h:Heap)(a:Addr):HO->Prop
 | .lst xs=>xs.length<=sizeLine/\∃(its:List Value) (n:Nat),Vals xs its/\h.get? a=some { cls:=.type "list", data:=.seq its.toArray n }
 | .tup xs=>xs.length<=sizeLine/\∃ its:List Value,Vals xs its/\IsTup h a its.toArray
 | .dK kvs=>kvs.length<=sizeLine/\(a == sysModules)=false/\∃ vs,KV kvs vs/\h.DictOf (a77 P w) a vs
 | .dT kvs=>kvs.length<=sizeLine/\(a == sysModules)=false/\∃ xs:List (List Key×Addr×Value),
  Paired (fun(p:List Key×V) (q:List Key×Addr×Value)=>p.1=q.1/\H q.2.1=some (.tup (p.1.map kV))/\RelV p.2 q.2.2) kvs xs /\
  ∃ o es ep,h.get? a=some o/\o.ExactDict/\o.data=.dict es ep/\es.toList=xs.map (entryOfKey (tupleKind (a77 P w)))/\(xs.map (·.1)).Nodup
 | .set S n=>h.SetOf (intKind P w) a S n
 | .ins C dx fs=>H dx=some (.own a)/\fs.length<=1000/\dx≠a/\h.get? a=some (PySem.W.instObj C dx) /\
  ∃ mA,h.Ns1 dx mA/\(∀ f,RelO (fs.lookup f) (mA f))/\PySem.Within mA (fs.map (·.1))
 | .own _=>∃ o,h.get? a=some o
 | .xd fs=>∃ mA,h.Ns1 a mA/\∀ f,RelO (fs.lookup f) (mA f)
 | .rng lo hi=>∃ t u v,h.get? a=some { cls:=.type "range", data:=.fields #[.int lo t,.int hi u,.int 1 v] }
 | .frz o u=>h.get? a=some o/\ObjOk H h a u
 | .tbl ps=>h.get? a=some { cls:=.none,data:=.fields ps }
 | .met f x=>h.get? a=some (PySem.W.methodObj (.ref f) (.ref x))
 | .ext φ=>φ h/\(∃ o,h.get? a=some o)/\∀ h1 h2:Heap,φ h1->(∀ o,h1.get? a=some o->h2.get? a=some o)->φ h2
def HOk (H:Hp)(h:Heap):Prop:=∀ a o,H a=some o->ObjOk P w H h a o
end
section
variable {P:Program}{w:World}{H H':Hp}{h h':Heap}{a:Addr}{o:HO}
theorem ObjOk.lt (x:ObjOk P w H h a o):a < h.objs.size:=by
 cases o with
 | lst xs=>obtain⟨_,_,_,_,e⟩:=x;exact Ej e
 | tup xs=>obtain⟨_,_,_,p⟩:=x;exact p.lt
 | dK kvs=>obtain⟨_,_,_,_,o,_,_,e,_⟩:=x;exact Ej e
 | dT kvs=>obtain⟨_,_,_,_,o,_,_,e,_⟩:=x;exact Ej e
 | set S n=>obtain⟨o,_,_,_,e,_⟩:=x;exact Ej e
 | ins C dx fs=>obtain⟨_,_,_,e,_⟩:=x;exact Ej e
 | own y=>obtain⟨_,e⟩:=x;exact Ej e
 | xd fs=>obtain⟨_,⟨_,_,_,e,_⟩,_⟩:=x;exact Ej e
 | rng lo hi=>obtain⟨_,_,_,e⟩:=x;exact Ej e
 | frz ob u=>obtain⟨e,_⟩:=x;exact Ej e
 | tbl ps=>exact Ej (show h.get? a=some _ from x)
 | met f y=>exact Ej (show h.get? a=some _ from x)
 | ext φ=>obtain⟨_,⟨_,e⟩,_⟩:=x;exact Ej e
theorem Paired.mapP {α β:Type}{F G:α->β->Prop}:∀ {l₁:List α}{l₂:List β},Paired F l₁ l₂->(∀ a b,F a b->G a b)->Paired G l₁ l₂
 | _,_,.nil,_=>.nil
 | _,_,.cons r t,f=>.cons (f _ _ r) (Paired.mapP t f)
theorem ObjOk.stay (x:ObjOk P w H h a o)(k:∀ b u,(b=a∨H b=some (.own a))->h.get? b=some u->h'.get? b=some u)
 (ho:∀ b,H b=some (.own a)->H' b=some (.own a))(ht:∀ b xs,H b=some (.tup xs)->H' b=some (.tup xs)):ObjOk P w H' h' a o:=by
 induction o with
 | lst xs=>obtain⟨z,its,n,r,e⟩:=x;exact⟨z,its,n,r,k _ _ (.inl rfl) e⟩
 | tup xs=>obtain⟨z,its,r,ob,e,c⟩:=x;exact⟨z,its,r,ob,k _ _ (.inl rfl) e,c⟩
 | dK kvs=>obtain⟨z,y,vs,r,ob,es,ep,e,c⟩:=x;exact⟨z,y,vs,r,ob,es,ep,k _ _ (.inl rfl) e,c⟩
 | dT kvs =>
  obtain⟨z,y,xs,r,ob,es,ep,e,c⟩:=x
  exact⟨z,y,xs,Paired.mapP r fun p q z=>⟨z.1,ht _ _ z.2.1,z.2.2⟩,ob,es,ep,k _ _ (.inl rfl) e,c⟩
 | set S n=>obtain⟨ob,es,ep,t,e,c⟩:=x;exact⟨ob,es,ep,t,k _ _ (.inl rfl) e,c⟩
 | ins C dx fs =>
  obtain⟨d,z,ne,e,mA,⟨od,es,ep,e2,c⟩,r⟩:=x
  exact⟨ho _ d,z,ne,k _ _ (.inl rfl) e,mA,⟨od,es,ep,k _ _ (.inr d) e2,c⟩,r⟩
 | own y=>obtain⟨ob,e⟩:=x;exact⟨ob,k _ _ (.inl rfl) e⟩
 | xd fs=>obtain⟨mA,⟨od,es,ep,e,c⟩,r⟩:=x;exact⟨mA,⟨od,es,ep,k _ _ (.inl rfl) e,c⟩,r⟩
 | rng lo hi=>obtain⟨t,u,v,e⟩:=x;exact⟨t,u,v,k _ _ (.inl rfl) e⟩
 | frz ob u ih=>obtain⟨e,q⟩:=x;exact⟨k _ _ (.inl rfl) e,ih q⟩
 | tbl ps =>
  have e:h.get? a=some { cls:=.none,data:=.fields ps }:=x
  show h'.get? a=some { cls:=.none,data:=.fields ps }
  exact k a _ (.inl rfl) e
 | met f y =>
  have e:h.get? a=some (PySem.W.methodObj (.ref f) (.ref y)):=x
  show h'.get? a=some (PySem.W.methodObj (.ref f) (.ref y))
  exact k a _ (.inl rfl) e
 | ext φ=>obtain⟨p,⟨o,e⟩,st⟩:=x;exact⟨st _ _ p fun o q=>k _ _ (.inl rfl) q,⟨o,k _ _ (.inl rfl) e⟩,st⟩
theorem HOk.lt (x:HOk P w H h)(e:H a=some o):a < h.objs.size:=(x a o e).lt
theorem HOk.fresh (x:HOk P w H h)(e:h.objs.size<=a):H a=none:=by
 cases q:H a with
 | none=>rfl
 | some u=>exact absurd (Nat.lt_of_lt_of_le (x.lt q) e) (Nat.lt_irrefl _)
theorem HOk.kept (x:HOk P w H h)(k:∀ b u,h.get? b=some u->h'.get? b=some u):HOk P w H h':=fun a o e =>
 (x a o e).stay (fun b u _ q=>k b u q) (fun _ q=>q) fun _ _ q=>q
theorem HOk.laid (x:HOk P w H h)(k:∀ b u,h.get? b=some u->h'.get? b=some u)(hp:h.objs.size<=a)(new:ObjOk P w (upd H a o) h' a o):HOk P w (upd H a o) h':=fun b u e=>by
 have hn:=x.fresh hp
 by_cases hb:b=a
 ·subst hb;rw[a02] at e;cases e;exact new
 ·rw[a06 hb] at e
  exact(x b u e).stay (fun c v _ q=>k c v q) (fun c q=>by rw[a06 (a01 q hn)];exact q) fun c xs q=>by rw[a06 (a01 q hn)];exact q
end
def Rd (H:Hp)(a:Addr)(u:HO):Prop:=H a=some u∨∃ o,H a=some (.frz o u)
theorem Rd.of {H:Hp}{a:Addr}{u:HO}(h:H a=some u):Rd H a u:=.inl h
theorem Rd.ok {P:Program}{w:World}{H:Hp}{h:Heap}{a:Addr}{u:HO}(r:Rd H a u)(x:HOk P w H h):ObjOk P w H h a u:=by
 rcases r with r | ⟨o,r⟩
 ·exact x a u r
 ·obtain⟨_,q⟩:=x a _ r
  exact q
def Mut:Option HO->Prop
 | some (.lst _)=>True
 | some (.dK _)=>True
 | some (.dT _)=>True
 | some (.set _ _)=>True
 | some (.ins _ _ _)=>True
 | some (.ext _)=>True
 | _=>False
section
variable {P:Program}{w:World}{H:Hp}{h h':Heap}{x e:Addr}{o':HO}
theorem HOk.write (ok:HOk P w H h)(mu:Mut (H x))(he:e=x∨H e=some (.own x))(k:∀ b u,b≠e->h.get? b=some u->h'.get? b=some u)(heo:∃ u,h'.get? e=some u)
 (new:ObjOk P w (upd H x o') h' x o'):HOk P w (upd H x o') h':=fun b u q=>by
 have nown:∀ c y,H c=some (.own y)->c≠x:=fun c y r z=>by subst z;rw[r] at mu;exact mu
 have ntup:∀ c xs,H c=some (.tup xs)->c≠x:=fun c xs r z=>by subst z;rw[r] at mu;exact mu
 by_cases hb:b=x
 ·subst hb;rw[a02] at q;cases q;exact new
 ·rw[a06 hb] at q
  by_cases hbe:b=e
  ·have q':H b=some (.own x):=by
    rcases he with z | z
    ·exact absurd (hbe.trans z) hb
    ·rw[hbe];exact z
   rw[q] at q';cases q'
   obtain⟨v,hv⟩:=heo
   exact⟨v,by rw[hbe];exact hv⟩
  ·refine(ok b u q).stay (fun c v hc r=>k c v ?_ r) (fun c r=>by rw[a06 (nown c b r)];exact r) fun c xs r=>by rw[a06 (ntup c xs r)];exact r
   rcases hc with rfl | hc
   ·exact hbe
   ·rintro rfl
    rcases he with z | z
    ·exact nown c b hc z
    ·rw[hc] at z;cases z;exact hb rfl
end
structure Un (fs ex:List Addr)(H H':Hp)(h h':Heap):Prop where
 keep:∀ b o,h.get? b=some o->H b=none->b∉fs->b∉ex->h'.get? b=some o
 slot:∀ b o,h.get? b=some o->H b=none->b∈fs->b∉ex->∃ sl,h'.get? b=some { o with slots:=sl }
 free:∀ b o,h.get? b=some o->H b=none->b∉ex->H' b=none
 there:∀ b o,h.get? b=some o->b∉ex->∃ o',h'.get? b=some o'
 tups:∀ b xs,H b=some (.tup xs)->H' b=some (.tup xs)
 frzs:∀ b o u,H b=some (.frz o u)->H' b=some (.frz o u)
 tbls:∀ b ps,H b=some (.tbl ps)->∃ more,H' b=some (.tbl (ps++more))
section
variable {fs fs' ex ex':List Addr}{H H1 H2:Hp}{h h1 h2 h':Heap}{a x e:Addr}{o:HO}
theorem Un.any (u:Un fs ex H H1 h h1){b:Addr}{ob:Obj}(q:h.get? b=some ob)(n:H b=none)(hx:b∉ex):∃ sl,h1.get? b=some { ob with slots:=sl }:=by
 by_cases hb:b∈fs
 ·exact u.slot b ob q n hb hx
 ·exact⟨ob.slots,u.keep b ob q n hb hx⟩
theorem Un.trans (a:Un fs ex H H1 h h1)(b:Un fs ex H1 H2 h1 h2):Un fs ex H H2 h h2 where
 keep:=fun c ob q n hc hx=>b.keep c ob (a.keep c ob q n hc hx) (a.free c ob q n hx) hc hx
 slot:=fun c ob q n hc hx=>by
  obtain⟨sl,e1⟩:=a.slot c ob q n hc hx
  obtain⟨sl',e2⟩:=b.slot c _ e1 (a.free c ob q n hx) hc hx
  exact⟨sl',e2⟩
 free:=fun c ob q n hx=>by
  obtain⟨o',e1⟩:=a.there c ob q hx
  exact b.free c o' e1 (a.free c ob q n hx) hx
 there:=fun c ob q hx=>by
  obtain⟨o',e1⟩:=a.there c ob q hx
  exact b.there c o' e1 hx
 tups:=fun c xs q=>b.tups c xs (a.tups c xs q)
 frzs:=fun c ob xs q=>b.frzs c ob xs (a.frzs c ob xs q)
 tbls:=fun c ps q=>by
  obtain⟨m1,e1⟩:=a.tbls c ps q
  obtain⟨m2,e2⟩:=b.tbls c _ e1
  exact⟨m1++m2,by rw[e2,Array.append_assoc]⟩
theorem Un.kept (k:∀ b u,h.get? b=some u->h'.get? b=some u):Un fs ex H H h h' :=
 ⟨fun b ob q _ _ _=>k b ob q,fun b ob q _ _ _=>⟨ob.slots,k b ob q⟩,fun _ _ _ n _=>n,fun b ob q _=>⟨ob,k b ob q⟩,fun _ _ q=>q,fun _ _ _ q=>q,fun _ ps q=>⟨#[],by rw[q];simp⟩⟩
theorem Un.refl:Un fs ex H H h h:=Un.kept fun _ _ q=>q
theorem Un.laid (k:∀ b u,h.get? b=some u->h'.get? b=some u)(hp:h.objs.size<=a)(hn:H a=none):Un fs ex H (upd H a o) h h' where
 keep:=fun b u q _ _ _=>k b u q
 slot:=fun b u q _ _ _=>⟨u.slots,k b u q⟩
 free:=fun b u q n _=>by rw[a06 (Nat.ne_of_lt (Nat.lt_of_lt_of_le (Ej q) hp))];exact n
 there:=fun b u q _=>⟨u,k b u q⟩
 tups:=fun b xs q=>by rw[a06 (a01 q hn)];exact q
 frzs:=fun b u xs q=>by rw[a06 (a01 q hn)];exact q
 tbls:=fun b ps q=>⟨#[],by rw[a06 (a01 q hn),q];simp⟩
theorem Un.write (mu:Mut (H x))(he:e=x∨H e=some (.own x))(k:∀ b u,b≠e->h.get? b=some u->h'.get? b=some u)(heo:∃ u,h'.get? e=some u):Un fs ex H (upd H x o) h h':=by
 have hx:∀ b,H b=none->b≠x:=fun b n z=>by subst z;rw[n] at mu;exact mu
 have hb:∀ b,H b=none->b≠e:=fun b n z=>by
  subst z
  rcases he with r | r
  ·exact hx b n r
  ·rw[n] at r;cases r
 have hm:∀ b u,H b=some u->¬ Mut (some u)->b≠x:=fun b u q nm z=>by subst z;rw[q] at mu;exact nm mu
 refine⟨fun b u q n _ _=>k b u (hb b n) q,fun b u q n _ _=>⟨u.slots,k b u (hb b n) q⟩,fun b u q n _=>by rw[a06 (hx b n)];exact n,fun b u q _=>?_,
  fun b xs q=>by rw[a06 (hm b _ q fun z=>z)];exact q,fun b u xs q=>by rw[a06 (hm b _ q fun z=>z)];exact q,fun b ps q=>⟨#[],by rw[a06 (hm b _ q fun z=>z),q];simp⟩⟩
 by_cases hbe:b=e
 ·subst hbe;exact heo
 ·exact⟨u,k b u hbe q⟩
theorem Un.mono (u:Un fs ex H H1 h h1)(hs:∀ b∈fs,b∈fs')(hx:∀ b∈ex,b∈ex'):Un fs' ex' H H1 h h1 :=
 ⟨fun b ob q n hb he=>u.keep b ob q n (fun z=>hb (hs b z)) fun z=>he (hx b z),fun _ _ q n _ he=>u.any q n fun z=>he (hx _ z),fun b ob q n he=>u.free b ob q n fun z=>he (hx b z),fun b ob q he=>u.there b ob q fun z=>he (hx b z),u.tups,u.frzs,u.tbls⟩
end
def trk (h:Heap)(H:Hp):List Addr:=(List.range h.objs.size).filter fun a=>(H a).isSome
def h33 (h:Heap)(H:Hp):Heap:=PySem.W.hideAll h (trk h H)
theorem g42 (h:Heap)(H:Hp):(h33 h H).objs.size=h.objs.size:=PySem.W.hideAll_size _ _
theorem h47 {h:Heap}{H:Hp}{b:Addr}{o:Obj}(e:h.get? b=some o)(n:H b=none):(h33 h H).get? b=some o :=
 PySem.W.hideAll_get _ e fun hm=>by
  have q:(H b).isSome=true:=(List.mem_filter.mp hm).2
  rw[n] at q;simp at q
theorem i06 {h:Heap}{H:Hp}{b:Addr}{o:Obj}(e:(h33 h H).get? b=some o):h.get? b=some o/\H b=none:=by
 have e':h.get? b=some o:=PySem.W.of_hideAll (trk h H) e
 refine⟨e',?_⟩
 cases q:H b with
 | none=>rfl
 | some x =>
  have hm:b∈trk h H:=List.mem_filter.mpr ⟨List.mem_range.mpr (Ej e'),by simp[q]⟩
  have z:(h33 h H).get? b=none:=PySem.W.hideAll_none (trk h H) hm
  rw[z] at e;cases e
def i57 (g h:Heap)(L:Addr):List (Addr×Obj):=(List.range h.objs.size).filterMap fun a=>if a=L∨(g.get? a).isSome=true then none else(h.get? a).map fun o=>(a,o)
def rest (g h:Heap)(L d:Addr):List (Addr×Obj):=(i57 g h L).filter fun p=>decide (p.1≠d)
end L2
namespace L2
open PySem PySem.Spec PyProof.Rows
structure Mod (K:PySem.W.Frag) (mg:Str->Option Value)(base:Heap):Prop where
 kin:K.In base
 glob:base.Ns mainGlobals mg
 blt:∃ mb,base.Ns builtinsNs mb/\∀ x:Str,x ≠ "__name__"->mb x=bootBuiltins x
 nolimit:base.NoLimit
structure Cx where
 prog:Program
 w:World
 K:PySem.W.Frag
 mg:Str->Option Value
 base:Heap
 A:Around
 N:List Str
 s₀:Shared
 H₀:Hp
 env:Env
 outer:List Env
 stack:List Env
 ex:List Addr
 fn:Str->Bool
 calm:Bool
 pn:List (Addr×Obj)
 xe:Value->Shared->Prop
def frs (l:List Env):List Addr:=l.filterMap (·.frame)
abbrev Cx.fs (X:Cx):List Addr:=frs X.outer
def Vis (sc:Scope) (x:Str):Prop:=sc.names.lookup x=some .local∨sc.names.lookup x=some .cell∨sc.names.lookup x=some .free
def Loc (sc:Scope) (x:Str):Prop:=sc.names.lookup x=some .local∨sc.names.lookup x=some .cell
def Look (env:Env)(h:Heap) (m:Str->Option Value) (x:Str) (u:Value):Prop :=
 (env.kindOf x=some .local/\m x=some u)∨((env.kindOf x=some .cell∨env.kindOf x=some .free)/\∃ c,env.cells.lookup x=some c/\h.IsCell c (some u))
structure Cx.Ok (X:Cx):Prop where
 mod:Mod X.K X.mg X.base
 kind:X.env.scope.kind=.function
 glob:X.env.globals=mainGlobals
 blt:X.env.builtins=builtinsNs
 above:X.s₀.heap.objs.size<=X.env.locals
 inj:∀ x y c,X.env.cells.lookup x=some c->X.env.cells.lookup y=some c->x=y
 has:∀ x,(X.env.kindOf x=some .cell∨X.env.kindOf x=some .free)->∃ c,X.env.cells.lookup x=some c
 cab:∀ x c,X.fn x=true->X.env.cells.lookup x=some c->X.s₀.heap.objs.size<=c
 hd:X.calm=true->X.A.handled=none
 frames:X.A.frames=some X.stack
 stk:X.stack=X.outer∨(X.stack=X.env::X.outer/\X.env.frame=some X.env.locals)
 exf:∀ b∈X.ex,b≠X.env.locals/\∀ x c,X.env.cells.lookup x=some c->c≠b
 bs:∀ b o,X.base.get? b=some o->X.s₀.heap.get? b=some o/\X.H₀ b=none
 bsz:X.base.objs.size<=X.s₀.heap.objs.size
 noex:∀ b o,X.base.get? b=some o->b∉X.ex
 exfs:∀ b∈X.ex,b∉X.fs
 funs:X.s₀.heap.FunFrames X.base X.outer
 frf:∀ b∈X.fs,X.H₀ b=none
structure Inv (X:Cx) (pins:List (Addr×Obj)) (σ:List (Option V))(H:Hp)(s:Shared):Prop where
 ok:X.Ok
 os:s.os=X.s₀.os
 bare:AllBare s.gens
 base:Un X.fs X.ex X.H₀ H X.s₀.heap s.heap
 loc:∃ m,s.heap.Ns X.env.locals m/\∀(i:Nat) (x:Str) (v:V),X.N[i]?=some x->σ[i]?=some (some v)->Vis X.env.scope x->∃ u,RelV v u/\Look X.env s.heap m x u
 cell:∀ x c,X.env.cells.lookup x=some c->∃ v,s.heap.IsCell c v
 free:H X.env.locals=none
 freeC:∀ x c,X.env.cells.lookup x=some c->H c=none
 pin:∀ p∈X.pn++pins,s.heap.get? p.1=some p.2/\H p.1=none/\p.1≠X.env.locals/\p.1∉X.fs/\∀ v,p.2.data≠.cell v
 hok:HOk X.prog X.w H s.heap
 len:σ.length=X.N.length
section
variable {X:Cx}{pins:List (Addr×Obj)}{σ:List (Option V)}{H H':Hp}{s:Shared}{h':Heap}
theorem Cx.Ok.nofr (ok:X.Ok){b:Addr}{o:Obj}(e:X.base.get? b=some o):b∉X.fs:=fun hb=>by
 have:=(ok.funs.mem hb).1
 rw[e] at this;cases this
theorem Inv.bs (I:Inv X pins σ H s):∀ b o,X.base.get? b=some o->s.heap.get? b=some o/\H b=none:=fun b o e =>
 ⟨I.base.keep b o (I.ok.bs b o e).1 (I.ok.bs b o e).2 (I.ok.nofr e) (I.ok.noex b o e),I.base.free b o (I.ok.bs b o e).1 (I.ok.bs b o e).2 (I.ok.noex b o e)⟩
theorem Inv.bk (I:Inv X pins σ H s):∀ b o,X.base.get? b=some o->s.heap.get? b=some o:=fun b o e=>(I.bs b o e).1
theorem Inv.mod (I:Inv X pins σ H s):Mod X.K X.mg X.base:=I.ok.mod
theorem Inv.kIn (I:Inv X pins σ H s):X.K.In s.heap:=I.ok.mod.kin.keeps I.bk
theorem Inv.nolimit (I:Inv X pins σ H s):s.heap.NoLimit:=I.ok.mod.nolimit.keeps I.bk
theorem Inv.lt (I:Inv X pins σ H s):X.env.locals < s.heap.objs.size:=let ⟨_,hn,_⟩:=I.loc;hn.lt
theorem Inv.sz (I:Inv X pins σ H s):X.s₀.heap.objs.size<=s.heap.objs.size:=FQ I.ok.above (Nat.le_of_lt I.lt)
theorem Inv.nofs (I:Inv X pins σ H s){a:Addr}(h:s.heap.objs.size<=a):a∉X.fs:=fun hb=>by
 obtain⟨_,o,ho,_⟩:=I.ok.funs.mem hb
 exact absurd (Nat.lt_of_lt_of_le (Ej ho) (FQ I.sz h)) (Nat.lt_irrefl _)
theorem Inv.cne (I:Inv X pins σ H s):∀ x c,X.env.cells.lookup x=some c->c≠X.env.locals:=fun x c e z=>by
 obtain⟨v,o,ho,hd⟩:=I.cell x c e
 obtain⟨m,⟨o',es,ep,ho',hd',_⟩,_⟩:=I.loc
 rw[z,ho'] at ho;cases ho;rw[hd'] at hd;cases hd
theorem Inv.funs (I:Inv X pins σ H s):s.heap.FunFrames X.base X.outer:=by
 have all:∀(l:List Env),(∀ b∈frs l,b∈X.fs)->X.s₀.heap.FunFrames X.base l->s.heap.FunFrames X.base l:=by
  intro l
  induction l with
  | nil=>intro _ _;trivial
  | cons env r ih =>
   intro hs hl
   obtain⟨hk,⟨L,o,hf,hn,ho,hd⟩,hr⟩:=hl
   have hL:L∈X.fs:=hs L (by unfold frs;rw[List.filterMap_cons,hf];exact BZ)
   obtain⟨sl,e⟩:=I.base.slot L o ho (I.ok.frf L hL) hL fun z=>I.ok.exfs L z hL
   exact⟨hk,⟨L,_,hf,hn,e,hd⟩,ih (fun b hb=>hs b (by unfold frs;rw[List.filterMap_cons,hf];exact BX _ hb)) hr⟩
 exact all X.outer (fun _ hb=>hb) I.ok.funs
theorem Inv.stack (I:Inv X pins σ H s):s.heap.FunFrames X.base X.stack:=by
 rcases I.ok.stk with e | ⟨e,hf⟩
 ·rw[e];exact I.funs
 ·rw[e]
  obtain⟨m,hn,_⟩:=I.loc
  refine .cons (by rw[I.ok.kind];decide) hf hn ?_ I.funs
  exact Heap.get?_none_of_le (FQ I.ok.bsz I.ok.above)
theorem Inv.stkSub (I:Inv X pins σ H s):∀ b∈frs X.stack,b∈X.env.locals::X.fs:=fun b hb=>by
 rcases I.ok.stk with e | ⟨e,hf⟩
 ·rw[e] at hb;exact BX _ hb
 ·rw[e] at hb
  unfold frs at hb
  rw[List.filterMap_cons,hf] at hb
  exact hb
theorem Inv.stkFree (I:Inv X pins σ H s):∀ b∈frs X.stack,H b=none:=fun b hb=>by
 rcases Cj.mp (I.stkSub b hb) with e | hb
 ·rw[e];exact I.free
 ·obtain⟨_,o,ho,_⟩:=I.ok.funs.mem hb
  exact I.base.free b o ho (I.ok.frf b hb) fun z=>I.ok.exfs b z hb
theorem Inv.step {g':Array GenState}{t':Nat}{d':Drawn}{ch:List Addr}(I:Inv X pins σ H s)
 (hch:∀ b∈ch,(b∈X.ex∨X.s₀.heap.objs.size<=b)/\b≠X.env.locals/\(∀ x c,X.env.cells.lookup x=some c->c≠b)/\∀ p∈X.pn++pins,p.1≠b)
 (keep:∀ b o,b≠X.env.locals->b∉X.fs->b∉ch->s.heap.get? b=some o->H b=none->h'.get? b=some o)
 (slot:∀ b o,b≠X.env.locals->b∈X.fs->b∉ch->s.heap.get? b=some o->H b=none->∃ sl,h'.get? b=some { o with slots:=sl })(free:∀ b o,b∉ch->s.heap.get? b=some o->H b=none->H' b=none)
 (there:∀ b o,b∉ch->s.heap.get? b=some o->∃ o',h'.get? b=some o')
 (tups:∀ b xs,H b=some (.tup xs)->H' b=some (.tup xs))(frzs:∀ b o u,H b=some (.frz o u)->H' b=some (.frz o u))(tbls:∀ b ps,H b=some (.tbl ps)->∃ more,H' b=some (.tbl (ps++more)))
 (ns:∀ m,s.heap.Ns X.env.locals m->h'.Ns X.env.locals m)(hok:HOk X.prog X.w H' h')(hg:AllBare g') :
 Inv X pins σ H' { s with heap:=h',gens:=g',drawn:=d',toks:=t' }:=by
 have neL:∀ b o,X.s₀.heap.get? b=some o->b≠X.env.locals:=fun b o e=>Nat.ne_of_lt (Nat.lt_of_lt_of_le (Ej e) I.ok.above)
 have neC:∀ b o,X.s₀.heap.get? b=some o->b∉X.ex->b∉ch:=fun b o e hx hb=>by
  rcases(hch b hb).1 with z | z
  ·exact hx z
  ·exact absurd (Nat.lt_of_lt_of_le (Ej e) z) (Nat.lt_irrefl _)
 have cellK:∀ x c,X.env.cells.lookup x=some c->∀ v,s.heap.IsCell c v->h'.IsCell c v:=fun x c e v ⟨o,ho,hd⟩=>by
  have nch:c∉ch:=fun z=>(hch c z).2.2.1 x c e rfl
  by_cases hc:c∈X.fs
  ·obtain⟨sl,q⟩:=slot c o (I.cne x c e) hc nch ho (I.freeC x c e)
   exact⟨_,q,hd⟩
  ·exact⟨o,keep c o (I.cne x c e) hc nch ho (I.freeC x c e),hd⟩
 refine⟨I.ok,I.os,hg,⟨fun b o e n hb hx=>?_,fun b o e n hb hx=>?_,fun b o e n hx=>?_,fun b o e hx=>?_,fun b xs e=>tups b xs (I.base.tups b xs e),fun b o xs e=>frzs b o xs (I.base.frzs b o xs e),fun b ps e=>?_⟩,?_,fun x c e=>?_,?_,fun x c e=>?_,fun p hp=>?_,hok,I.len⟩
 ·exact keep b o (neL b o e) hb (neC b o e hx) (I.base.keep b o e n hb hx) (I.base.free b o e n hx)
 ·obtain⟨sl,e1⟩:=I.base.slot b o e n hb hx
  obtain⟨sl',e2⟩:=slot b _ (neL b o e) hb (neC b o e hx) e1 (I.base.free b o e n hx)
  exact⟨sl',e2⟩
 ·obtain⟨o',e1⟩:=I.base.there b o e hx
  exact free b o' (neC b o e hx) e1 (I.base.free b o e n hx)
 ·obtain⟨o',e1⟩:=I.base.there b o e hx
  exact there b o' (neC b o e hx) e1
 ·obtain⟨m1,e1⟩:=I.base.tbls b ps e
  obtain⟨m2,e2⟩:=tbls b _ e1
  exact⟨m1++m2,by rw[e2,Array.append_assoc]⟩
 ·obtain⟨m,hn,hl⟩:=I.loc
  refine⟨m,ns m hn,fun i x v e1 e2 e3=>?_⟩
  obtain⟨u,r,l⟩:=hl i x v e1 e2 e3
  refine⟨u,r,?_⟩
  rcases l with l | ⟨k,c,e,z⟩
  ·exact .inl l
  ·exact .inr ⟨k,c,e,cellK x c e _ z⟩
 ·obtain⟨v,z⟩:=I.cell x c e
  exact⟨v,cellK x c e v z⟩
 ·obtain⟨m,⟨o,_,_,ho,_⟩,_⟩:=I.loc
  exact free _ o (fun z=>(hch _ z).2.1 rfl) ho I.free
 ·obtain⟨v,o,ho,hd⟩:=I.cell x c e
  exact free c o (fun z=>(hch c z).2.2.1 x c e rfl) ho (I.freeC x c e)
 ·obtain⟨e,n,ne,nf,d⟩:=I.pin p hp
  have nch:p.1∉ch:=fun z=>(hch p.1 z).2.2.2 p hp rfl
  exact⟨keep p.1 p.2 ne nf nch e n,free p.1 p.2 nch e n,ne,nf,d⟩
theorem Inv.un {t':Nat}(I:Inv X pins σ H s)(u:Un X.fs [] H H' s.heap h')(hok:HOk X.prog X.w H' h'):Inv X pins σ H' { s with heap:=h',toks:=t' }:=by
 obtain⟨m,⟨o,es,ep,ho,r⟩,_⟩:=id I.loc
 obtain⟨sl,hL⟩:=u.any ho I.free (by simp)
 exact I.step (g':=s.gens) (d':=s.drawn) (ch:=[]) (fun _ z=>nomatch z) (fun b o _ hb _ e n=>u.keep b o e n hb (by simp)) (fun b o _ hb _ e n=>u.slot b o e n hb (by simp)) (fun b o _ e n=>u.free b o e n (by simp)) (fun b o _ e=>u.there b o e (by simp)) u.tups u.frzs u.tbls (fun m' hm=>by
  obtain⟨o',es',ep',ho',r'⟩:=hm
  rw[ho] at ho';cases ho'
  exact⟨_,es',ep',hL,r'⟩) hok I.bare
theorem Inv.call {g':Array GenState}{t':Nat}{d':Drawn}{ch:List Addr}(I:Inv X pins σ H s)(u:Un (frs X.stack) ch H H' s.heap h')(hok:HOk X.prog X.w H' h')(hg:AllBare g')
 (hch:∀ b∈ch,(b∈X.ex∨X.s₀.heap.objs.size<=b)/\b≠X.env.locals/\(∀ x c,X.env.cells.lookup x=some c->c≠b)/\∀ p∈X.pn++pins,p.1≠b) :
 Inv X pins σ H' { s with heap:=h',gens:=g',drawn:=d',toks:=t' }:=by
 obtain⟨m,⟨o,es,ep,ho,r⟩,_⟩:=id I.loc
 obtain⟨sl,hL⟩:=u.any ho I.free fun z=>(hch _ z).2.1 rfl
 exact I.step (ch:=ch) hch (fun b o hL hb hc e n=>u.keep b o e n (fun z=>(Cj.mp (I.stkSub b z)).elim hL hb) hc) (fun b o _ _ hc e n=>u.any e n hc) (fun b o hc e n=>u.free b o e n hc) (fun b o hc e=>u.there b o e hc) u.tups u.frzs u.tbls (fun m' hm=>by
  obtain⟨o',es',ep',ho',r'⟩:=hm
  rw[ho] at ho';cases ho'
  exact⟨_,es',ep',hL,r'⟩) hok hg
theorem Inv.turned {t':Nat}{it:Addr}(I:Inv X pins σ H s)(k:∀ b o,b≠it->s.heap.get? b=some o->h'.get? b=some o)(hn:H it=none)(hL:it≠X.env.locals)
 (h1:it∈X.ex∨X.s₀.heap.objs.size<=it)(h2:∀ x c,X.env.cells.lookup x=some c->c≠it)(h3:∀ p∈X.pn++pins,p.1≠it):Inv X pins σ H { s with heap:=h',toks:=t' }:=by
 have nit:∀ b u,H b=some u->b≠it:=fun b u e z=>by rw[z,hn] at e;cases e
 refine I.step (g':=s.gens) (d':=s.drawn) (ch:=[it]) (fun b hb=>?_) (fun b o _ _ hc e _=>k b o (fun z=>hc (by simp[z])) e) (fun b o _ _ hc e _=>⟨o.slots,k b o (fun z=>hc (by simp[z])) e⟩) (fun _ _ _ _ n=>n)
  (fun b o hc e=>⟨o,k b o (fun z=>hc (by simp[z])) e⟩) (fun _ _ e=>e) (fun _ _ _ e=>e) (fun b ps e=>⟨#[],by rw[e];simp⟩) (fun m hm=>?_) (fun b u e=>?_) I.bare
 ·have e:b=it:=by simpa using hb
  subst e
  exact⟨h1,hL,h2,h3⟩
 ·obtain⟨o,es,ep,ho,r⟩:=hm
  exact⟨o,es,ep,k _ o (Ne.symm hL) ho,r⟩
 ·refine(I.hok b u e).stay (fun c v hc q=>k c v ?_ q) (fun _ q=>q) fun _ _ q=>q
  rcases hc with z | z
  ·rw[z];exact nit b u e
  ·exact nit c _ z
theorem Inv.tok (I:Inv X pins σ H s) (t:Nat):Inv X pins σ H { s with toks:=t }:=I.un (h':=s.heap) (t':=t) Un.refl I.hok
theorem Inv.kept {t':Nat}(I:Inv X pins σ H s)(k:∀ b u,s.heap.get? b=some u->h'.get? b=some u):Inv X pins σ H { s with heap:=h',toks:=t' }:=I.un (Un.kept k) (I.hok.kept k)
theorem Inv.laid {a:Addr}{o:HO}{t':Nat}(I:Inv X pins σ H s)(k:∀ b u,s.heap.get? b=some u->h'.get? b=some u)(hp:s.heap.objs.size<=a)(new:ObjOk X.prog X.w (upd H a o) h' a o) :
 Inv X pins σ (upd H a o) { s with heap:=h',toks:=t' }:=I.un (Un.laid k hp (I.hok.fresh hp)) (I.hok.laid k hp new)
theorem Inv.write {x e:Addr}{o:HO}{t':Nat}(I:Inv X pins σ H s)(mu:Mut (H x))(he:e=x∨H e=some (.own x))(k:∀ b u,b≠e->s.heap.get? b=some u->h'.get? b=some u)(heo:∃ u,h'.get? e=some u)
 (new:ObjOk X.prog X.w (upd H x o) h' x o):Inv X pins σ (upd H x o) { s with heap:=h',toks:=t' }:=I.un (Un.write mu he k heo) (I.hok.write mu he k heo new)
theorem Inv.weak {σ':List (Option V)}(I:Inv X pins σ H s)(hl:σ'.length=σ.length)(w:∀(i:Nat) v,σ'[i]?=some (some v)->σ[i]?=some (some v)):Inv X pins σ' H s :=
 ⟨I.ok,I.os,I.bare,I.base,let ⟨m,hn,hl'⟩:=I.loc;⟨m,hn,fun i x v e1 e2 e3=>hl' i x v e1 (w i v e2) e3⟩,I.cell,I.free,I.freeC,I.pin,I.hok,hl.trans I.len⟩
theorem Inv.pins_of {pins':List (Addr×Obj)}(I:Inv X pins σ H s)(h:∀ p∈pins',s.heap.get? p.1=some p.2/\H p.1=none/\p.1≠X.env.locals/\p.1∉X.fs/\∀ v,p.2.data≠.cell v):Inv X pins' σ H s :=
 ⟨I.ok,I.os,I.bare,I.base,I.loc,I.cell,I.free,I.freeC,fun p hp=>(Bq.mp hp).elim (fun z=>I.pin p (List.mem_append_left _ z)) (h p),I.hok,I.len⟩
theorem f03 {N:List Str}(hN:N.Nodup){i j:Nat}{x:Str}(a:N[i]?=some x)(b:N[j]?=some x):i=j:=by
 obtain⟨h1,e1⟩:=Ex.mp a
 obtain⟨h2,e2⟩:=Ex.mp b
 exact(List.getElem_inj hN).mp (e1.trans e2.symm)
theorem g76 {M:Model}{A:Around}{E:Value->Shared->Prop}{i:Nat}{x:Str}{v:V}{u:Value}{Q:Unit->Shared->Prop}(I:Inv X pins σ H s)(hN:X.N.Nodup)(hi:X.N[i]?=some x)(hx:Loc X.env.scope x)(r:RelV v u)
 (h:∀ s',Inv X pins (σ.set i (some v)) H s'->(∃ a,Heap.SameBut a s.heap s'.heap/\(a=X.env.locals∨X.env.cells.lookup x=some a))->Q () s')(hf:X.fn x=true∨X.env.scope.names.lookup x=some .local:=by first | exact .inl rfl | exact .inr rfl | assumption):wpAny M A (storeName X.env x u) Q E s:=by
 obtain⟨m,hn,hl⟩:=id I.loc
 have hcls:(X.env.scope.kind == .class||(X.env.scope.kind == .module && X.env.locals != X.env.globals))=false:=by rw[I.ok.kind];rfl
 have hiσ:i < σ.length:=by rw[I.len];exact(Ex.mp hi).1
 have cne:=I.cne
 have tracked:∀ {a:Addr}{h':Heap},(∃ o,s.heap.get? a=some o/\H a=none)->Heap.SameBut a s.heap h'->HOk X.prog X.w H h':=fun {a h'} ha hs b ob e=>by
  obtain⟨_,_,hfree⟩:=ha
  refine(I.hok b ob e).stay (fun c w' hc q=>(hs.2 c ?_).trans q) (fun _ q=>q) fun _ _ q=>q
  rintro rfl
  rcases hc with rfl | hc
  ·rw[hfree] at e;cases e
  ·rw[hfree] at hc;cases hc
 rcases hx with hk | hk
 ·refine wpAny_storeName_local hk hn (fun h' hn' hs=>?_) hcls
  obtain⟨oL,_,_,hoL,_⟩:=id hn
  refine h _ ⟨I.ok,I.os,I.bare,⟨fun b o e n hb hx=>?_,fun b o e n hb hx=>?_,I.base.free,fun b o e hx=>?_,I.base.tups,I.base.frzs,I.base.tbls⟩,⟨_,hn',fun j y v' e1 e2 e3=>?_⟩,fun y c e=>?_,I.free,I.freeC,fun p hp=>?_,tracked ⟨oL,hoL,I.free⟩ hs,by simpa using I.len⟩ ⟨_,hs,.inl rfl⟩
  ·exact(hs.2 b (Nat.ne_of_lt (Nat.lt_of_lt_of_le (Ej e) I.ok.above))).trans (I.base.keep b o e n hb hx)
  ·obtain⟨sl,e1⟩:=I.base.slot b o e n hb hx
   exact⟨sl,(hs.2 b (Nat.ne_of_lt (Nat.lt_of_lt_of_le (Ej e) I.ok.above))).trans e1⟩
  ·obtain⟨o',e1⟩:=I.base.there b o e hx
   exact⟨o',(hs.2 b (Nat.ne_of_lt (Nat.lt_of_lt_of_le (Ej e) I.ok.above))).trans e1⟩
  ·by_cases hj:j=i
   ·subst hj
    rw[hi] at e1;cases e1
    rw[List.getElem?_set_self hiσ] at e2
    cases e2
    exact⟨u,r,.inl ⟨hk,by simp⟩⟩
   ·rw[List.getElem?_set_ne (Ne.symm hj)] at e2
    obtain⟨u',r',q⟩:=hl j y v' e1 e2 e3
    refine⟨u',r',?_⟩
    rcases q with⟨k,e⟩ | ⟨k,c,e,z⟩
    ·refine .inl ⟨k,?_⟩
     have:y≠x:=fun e=>hj (f03 hN e1 (e ▸ hi))
     simp[this,e]
    ·exact .inr ⟨k,c,e,z.sameBut hs (cne y c e)⟩
  ·obtain⟨w',z⟩:=I.cell y c e
   exact⟨w',z.sameBut hs (cne y c e)⟩
  ·obtain⟨e,n,ne,nf,d⟩:=I.pin p hp
   exact⟨(hs.2 p.1 ne).trans e,n,ne,nf,d⟩
 ·have hfn:X.fn x=true:=by
   rcases hf with z | z
   ·exact z
   ·rw[z] at hk;cases hk
  obtain⟨c,hc⟩:=I.ok.has x (.inl hk)
  obtain⟨w',z⟩:=I.cell x c hc
  refine wpAny_storeName_cell I.ok.kind hk hc z (fun h' hc' hs=>?_)
  obtain⟨oc,hoc,hocd⟩:=id z
  refine h { s with heap:=h' } ⟨I.ok,I.os,I.bare,⟨fun b o e n hb hx=>?_,fun b o e n hb hx=>?_,I.base.free,fun b o e hx=>?_,I.base.tups,I.base.frzs,I.base.tbls⟩,⟨m,hn.sameBut hs (Ne.symm (cne x c hc)),fun j y v' e1 e2 e3=>?_⟩,fun y c' e=>?_,I.free,I.freeC,fun p hp=>?_,tracked ⟨oc,hoc,I.freeC x c hc⟩ hs,by simpa using I.len⟩ ⟨c,hs,.inr hc⟩
  ·exact(hs.2 b (Nat.ne_of_lt (Nat.lt_of_lt_of_le (Ej e) (I.ok.cab x c hfn hc)))).trans (I.base.keep b o e n hb hx)
  ·obtain⟨sl,e1⟩:=I.base.slot b o e n hb hx
   exact⟨sl,(hs.2 b (Nat.ne_of_lt (Nat.lt_of_lt_of_le (Ej e) (I.ok.cab x c hfn hc)))).trans e1⟩
  ·obtain⟨o',e1⟩:=I.base.there b o e hx
   exact⟨o',(hs.2 b (Nat.ne_of_lt (Nat.lt_of_lt_of_le (Ej e) (I.ok.cab x c hfn hc)))).trans e1⟩
  ·by_cases hj:j=i
   ·subst hj
    rw[hi] at e1;cases e1
    rw[List.getElem?_set_self hiσ] at e2
    cases e2
    exact⟨u,r,.inr ⟨.inl hk,c,hc,hc'⟩⟩
   ·rw[List.getElem?_set_ne (Ne.symm hj)] at e2
    obtain⟨u',r',q⟩:=hl j y v' e1 e2 e3
    refine⟨u',r',?_⟩
    rcases q with q | ⟨k,c',e,z'⟩
    ·exact .inl q
    ·refine .inr ⟨k,c',e,z'.sameBut hs ?_⟩
     rintro rfl
     exact hj (f03 hN e1 (I.ok.inj _ _ _ e hc ▸ hi))
  ·by_cases hcc:c'=c
   ·subst hcc;exact⟨_,hc'⟩
   ·obtain⟨w2,z2⟩:=I.cell y c' e
    exact⟨w2,z2.sameBut hs hcc⟩
  ·obtain⟨e,n,ne,nf,d⟩:=I.pin p hp
   refine⟨(hs.2 p.1 ?_).trans e,n,ne,nf,d⟩
   intro q
   rw[q,hoc] at e
   have q':oc=p.2:=EJ e
   exact d w' (by rw[← q'];exact hocd)
theorem c28 {M:Model}{A:Around}{E:Value->Shared->Prop}{i:Nat}{x:Str}{v:V}{u:Value}{Q:Unit->Shared->Prop}(I:Inv X pins σ H s)(hN:X.N.Nodup)(hi:X.N[i]?=some x)(hx:Loc X.env.scope x)(r:RelV v u)
 (h:∀ s',Inv X pins (σ.set i (some v)) H s'->Q () s')(hf:X.fn x=true∨X.env.scope.names.lookup x=some .local:=by first | exact .inl rfl | exact .inr rfl | assumption):wpAny M A (storeName X.env x u) Q E s :=
 g76 I hN hi hx r (fun s' I' _=>h s' I') hf
theorem Inv.call' {s':Shared}{ch:List Addr}(I:Inv X pins σ H s)(ho:s'.os=s.os)(u:Un (frs X.stack) ch H H' s.heap s'.heap)(hok:HOk X.prog X.w H' s'.heap)(hg:AllBare s'.gens)
 (hch:∀ b∈ch,(b∈X.ex∨X.s₀.heap.objs.size<=b)/\b≠X.env.locals/\(∀ x c,X.env.cells.lookup x=some c->c≠b)/\∀ p∈X.pn++pins,p.1≠b):Inv X pins σ H' s':=by
 obtain⟨h',g',d',t',o'⟩:=s'
 have e:o'=s.os:=ho
 subst e
 exact I.call (g':=g') (t':=t') (d':=d') u hok hg hch
end
abbrev XK:=Value->Option Addr->Hp->Prop
abbrev St:=List (Option V)
abbrev VK:=V->Hp->Prop
abbrev TE:=St->Hp->VK->Prop
abbrev TT:=St->Hp->(Bool->Hp->Prop)->Prop
abbrev TA:=St->Hp->(List V->Hp->Prop)->Prop
structure Ends where
 nx:St->Hp->Prop
 rt:VK
 bk:St->Hp->Prop:=fun _ _=>False
 ct:St->Hp->Prop:=fun _ _=>False
abbrev TS:=Ends->St->Hp->Prop
def EP (X:Cx) (pins:List (Addr×Obj))(σ:St)(Q:VK) (u:Value)(s':Shared):Prop:=∃ v H',Inv X pins σ H' s'/\RelV v u/\Q v H'
def TP (X:Cx) (pins:List (Addr×Obj))(σ:St) (Q:Bool->Hp->Prop) (b:Bool)(s':Shared):Prop:=∃ H',Inv X pins σ H' s'/\Q b H'
def AP (X:Cx) (pins:List (Addr×Obj))(σ:St) (Q:List V->Hp->Prop) (us:List Value)(s':Shared):Prop:=∃ vs H',Inv X pins σ H' s'/\Vals vs us/\Q vs H'
def SP (X:Cx) (pins:List (Addr×Obj))(D:Ends)(f:Flow)(s':Shared):Prop :=
 match f with
 | .next=>∃ σ' H',Inv X pins σ' H' s'/\D.nx σ' H'
 | .brk=>∃ σ' H',Inv X pins σ' H' s'/\D.bk σ' H'
 | .cont=>∃ σ' H',Inv X pins σ' H' s'/\D.ct σ' H'
 | .ret u=>∃ v σ' H',Inv X pins σ' H' s'/\RelV v u/\D.rt v H'
structure PE (X:Cx)(e:Expr)(t:TE):Prop where
 run :
  ∀(pins:List (Addr×Obj))(s:Shared)(σ:St)(H:Hp)(Q:VK),Inv X pins σ H s->t σ H Q->wpAny (model X.prog X.w) X.A (eval e X.env) (EP X pins σ Q) X.xe s
instance {X:Cx}{e:Expr}{t:TE}:CoeFun (PE X e t) (fun _ =>
 ∀(pins:List (Addr×Obj))(s:Shared)(σ:St)(H:Hp)(Q:VK),Inv X pins σ H s->t σ H Q->wpAny (model X.prog X.w) X.A (eval e X.env) (EP X pins σ Q) X.xe s
 ):=⟨PE.run⟩
structure PT (X:Cx)(e:Expr)(t:TT):Prop where
 run :
  ∀(pins:List (Addr×Obj))(s:Shared)(σ:St)(H:Hp) (Q:Bool->Hp->Prop),Inv X pins σ H s->t σ H Q->wpAny (model X.prog X.w) X.A (isTrue e X.env (eval e X.env)) (TP X pins σ Q) X.xe s
instance {X:Cx}{e:Expr}{t:TT}:CoeFun (PT X e t) (fun _ =>
 ∀(pins:List (Addr×Obj))(s:Shared)(σ:St)(H:Hp) (Q:Bool->Hp->Prop),Inv X pins σ H s->t σ H Q->wpAny (model X.prog X.w) X.A (isTrue e X.env (eval e X.env)) (TP X pins σ Q) X.xe s
 ):=⟨PT.run⟩
structure PW (X:Cx)(e:Expr)(t:TT):Prop where
 run :
  ∀(whole:Sem Value) (pins:List (Addr×Obj))(s:Shared)(σ:St)(H:Hp) (Q:Bool->Hp->Prop),Inv X pins σ H s->t σ H Q->wpAny (model X.prog X.w) X.A (isTrue e X.env whole) (TP X pins σ Q) X.xe s
instance {X:Cx}{e:Expr}{t:TT}:CoeFun (PW X e t) (fun _ =>
 ∀(whole:Sem Value) (pins:List (Addr×Obj))(s:Shared)(σ:St)(H:Hp) (Q:Bool->Hp->Prop),Inv X pins σ H s->t σ H Q->wpAny (model X.prog X.w) X.A (isTrue e X.env whole) (TP X pins σ Q) X.xe s
 ):=⟨PW.run⟩
theorem PW.pt {X:Cx}{e:Expr}{t:TT}(h:PW X e t):PT X e t:=⟨h.run _⟩
structure PA (X:Cx) (es:List Expr)(t:TA):Prop where
 run :
  ∀(pos:Pos) (pins:List (Addr×Obj))(s:Shared)(σ:St)(H:Hp) (Q:List V->Hp->Prop),Inv X pins σ H s->t σ H Q->wpAny (model X.prog X.w) X.A (spliced (backTo pos (starEach es X.env))) (AP X pins σ Q) X.xe s
instance {X:Cx}{es:List Expr}{t:TA}:CoeFun (PA X es t) (fun _ =>
 ∀(pos:Pos) (pins:List (Addr×Obj))(s:Shared)(σ:St)(H:Hp) (Q:List V->Hp->Prop),Inv X pins σ H s->t σ H Q->wpAny (model X.prog X.w) X.A (spliced (backTo pos (starEach es X.env))) (AP X pins σ Q) X.xe s
 ):=⟨PA.run⟩
structure PS (X:Cx)(st:Stmt)(t:TS):Prop where
 run :
  ∀(pins:List (Addr×Obj))(s:Shared)(σ:St)(H:Hp)(D:Ends),Inv X pins σ H s->t D σ H->wpAny (model X.prog X.w) X.A (exec st X.env) (SP X pins D) X.xe s
instance {X:Cx}{st:Stmt}{t:TS}:CoeFun (PS X st t) (fun _ =>
 ∀(pins:List (Addr×Obj))(s:Shared)(σ:St)(H:Hp)(D:Ends),Inv X pins σ H s->t D σ H->wpAny (model X.prog X.w) X.A (exec st X.env) (SP X pins D) X.xe s
 ):=⟨PS.run⟩
structure PSs (X:Cx) (st:List Stmt)(t:TS):Prop where
 run :
  ∀(pins:List (Addr×Obj))(s:Shared)(σ:St)(H:Hp)(D:Ends),Inv X pins σ H s->t D σ H->wpAny (model X.prog X.w) X.A (execs st X.env) (SP X pins D) X.xe s
instance {X:Cx}{st:List Stmt}{t:TS}:CoeFun (PSs X st t) (fun _ =>
 ∀(pins:List (Addr×Obj))(s:Shared)(σ:St)(H:Hp)(D:Ends),Inv X pins σ H s->t D σ H->wpAny (model X.prog X.w) X.A (execs st X.env) (SP X pins D) X.xe s
 ):=⟨PSs.run⟩
theorem thn {α:Type}{t:Sem α}{Q Q':α->Shared->Prop}{M:Model}{A:Around}{E:Value->Shared->Prop}{s:Shared}(h:wpAny M A t Q E s)(hQ:∀ a s,Q a s->Q' a s):wpAny M A t Q' E s:=Dz h hQ fun _ _ x=>x
end L2
namespace L2
open PySem PySem.Spec PyProof.Rows
section
variable {X:Cx}
def tVar (i:Nat):TE:=fun σ H Q=>∃ v,σ[i]?=some (some v)/\Q v H
def tC (v:V):TE:=fun _ H Q=>Q v H
theorem j15 {i:Nat}{x:Str}{pos:Pos}(hN:X.N[i]?=some x)(hv:Vis X.env.scope x)(hd:(x == ("__debug__" : Str))=false:=by decide)(hcd:(x == ("__classdict__" : Str))=false:=by decide):PE X (.Name x pos) (tVar i):=by
 try constructor
 intro pins s σ H Q I h
 obtain⟨v,e,h⟩:=h
 obtain⟨m,hn,hl⟩:=I.loc
 obtain⟨u,r,l⟩:=hl i x v hN e hv
 have fin:EP X pins σ Q u s:=⟨v,H,I,r,h⟩
 rcases l with⟨hk,hm⟩ | ⟨hk,c,hc,hcell⟩
 ·exact wpAny_Name (wpAny_loadName_local I.ok.kind hk hn hm fin) hd
 ·rcases hk with hk | hk
  ·exact wpAny_Name (wpAny_loadName_cell I.ok.kind hk hc hcell fin) hd
  ·exact wpAny_Name (wpAny_loadName_free I.ok.kind hk hc hcell fin hcd) hd
theorem a07 {i j pos}:PE X (.Constant (.int i) j pos) (tC (.int i)):=.mk fun _ _ _ H _ I h=>wpAny_Constant_int ⟨.int i,H,I.tok _,⟨_,rfl⟩,h⟩
theorem c31 {b j pos}:PE X (.Constant (.bool b) j pos) (tC (.bl b)):=.mk fun _ _ _ H _ I h=>Constant_bool ⟨.bl b,H,I,rfl,h⟩
theorem a62 {j pos}:PE X (.Constant .none j pos) (tC .non):=.mk fun _ _ _ H _ I h=>Constant_none ⟨.non,H,I,rfl,h⟩
theorem a36 {x j pos}:PE X (.Constant (.str x) j pos) (tC (.str x)):=.mk fun _ _ _ H _ I h=>Calls.Constant_str ⟨.str x,H,I.tok _,⟨_,rfl⟩,h⟩
def Gl (X:Cx) (x:Str):Prop:=X.env.kindOf x=some .globalImplicit
theorem e27 {E:Value->Shared->Prop}{pins:List (Addr×Obj)}{s:Shared}{σ:St}{H:Hp}{x:Str}{u:Value}{pos:Pos}{Q:Value->Shared->Prop}(I:Inv X pins σ H s)(hg:Gl X x)(hm:X.mg x=some u)(h:Q u s)
 (hd:(x == ("__debug__" : Str))=false:=by decide):wpAny (model X.prog X.w) X.A (eval (.Name x pos) X.env) Q E s :=
 Calls.Name_function_global I.ok.kind hg (Calls.loadGlobal_global (by rw[I.ok.glob];exact I.mod.glob.keeps I.bk) hm h) hd
theorem c64 {E:Value->Shared->Prop}{pins:List (Addr×Obj)}{s:Shared}{σ:St}{H:Hp}{x:Str}{u:Value}{pos:Pos}{Q:Value->Shared->Prop}(I:Inv X pins σ H s)(hg:Gl X x)(hm:X.mg x=none)(hv:bootBuiltins x=some u)(h:Q u s)
 (hn:x ≠ "__name__" := by decide)(hd:(x == ("__debug__" : Str))=false:=by decide):wpAny (model X.prog X.w) X.A (eval (.Name x pos) X.env) Q E s:=by
 obtain⟨mb,h1,h2⟩:=I.mod.blt
 exact Calls.Name_function_global I.ok.kind hg (Calls.loadGlobal_builtin (by rw[I.ok.glob];exact I.mod.glob.keeps I.bk) hm (by rw[I.ok.blt];exact h1.keeps I.bk) ((h2 x hn).trans hv) h) hd
theorem b26 {x:Str}{v:V}{u:Value}{pos:Pos}(hg:Gl X x)(hm:X.mg x=some u)(r:RelV v u)(hd:(x == ("__debug__" : Str))=false:=by decide):PE X (.Name x pos) (tC v):=.mk fun _ _ _ H _ I h=>e27 I hg hm ⟨v,H,I,r,h⟩ hd
theorem b53 {x:Str}{v:V}{u:Value}{pos:Pos}(hg:Gl X x)(hm:X.mg x=none)(hv:bootBuiltins x=some u)(r:RelV v u)(hn:x ≠ "__name__" := by decide)(hd:(x == ("__debug__" : Str))=false:=by decide):PE X (.Name x pos) (tC v):=.mk fun _ _ _ H _ I h=>c64 I hg hm hv ⟨v,H,I,r,h⟩ hn hd
variable {a b:Expr}{ta tb:TE}{pos:Pos}
structure PC (X:Cx)(op:CmpOp)(a b:Expr)(t:TE):Prop where
 run :
  ∀(pins:List (Addr×Obj))(s:Shared)(σ:St)(H:Hp)(Q:VK),Inv X pins σ H s->t σ H Q ->
   wpAny (model X.prog X.w) X.A (eval a X.env) (fun v s₁=>wpAny (model X.prog X.w) X.A (eval b X.env) (fun u s₂=>wpAny (model X.prog X.w) X.A (compareOp op v u) (EP X pins σ Q) X.xe s₂) X.xe s₁) X.xe s
instance {X:Cx}{op:CmpOp}{a b:Expr}{t:TE}:CoeFun (PC X op a b t) (fun _ =>
 ∀(pins:List (Addr×Obj))(s:Shared)(σ:St)(H:Hp)(Q:VK),Inv X pins σ H s->t σ H Q ->
  wpAny (model X.prog X.w) X.A (eval a X.env) (fun v s₁=>wpAny (model X.prog X.w) X.A (eval b X.env) (fun u s₂=>wpAny (model X.prog X.w) X.A (compareOp op v u) (EP X pins σ Q) X.xe s₂) X.xe s₁) X.xe s
 ):=⟨PC.run⟩
theorem e91 (b:Expr){op:CmpOp}(h:op≠.In)(h2:op≠.NotIn):behindInMarks op b=false:=by
 have e1:(op == CmpOp.In)=false:=by cases op <;> first | rfl | exact absurd rfl h
 have e2:(op == CmpOp.NotIn)=false:=by cases op <;> first | rfl | exact absurd rfl h2
 cases b <;> simp[behindInMarks,e1,e2]
def tIsN (ta:TE):TE:=fun σ H Q=>ta σ H fun x H1=>Q (.bl (decide (x=.non))) H1
def tNotN (ta:TE):TE:=fun σ H Q=>ta σ H fun x H1=>Q (.bl (!decide (x=.non))) H1
theorem RelV.none_iff {x:V}{v:Value}(r:RelV x v):(v == Value.none)=decide (x=.non):=by
 cases x with
 | non=>cases r;rfl
 | bl _=>cases r;rfl
 | int _=>obtain⟨t,rfl⟩:=r;rfl
 | str _=>obtain⟨t,rfl⟩:=r;rfl
 | byt _=>obtain⟨t,rfl⟩:=r;rfl
 | flt _=>obtain⟨t,rfl⟩:=r;rfl
 | ref _=>cases r;rfl
 | ty _=>cases r;rfl
theorem c30 {j pos'}(ha:PE X a ta):PC X .Is a (.Constant .none j pos') (tIsN ta):=by
 try constructor
 intro pins s σ H Q I h
 refine thn (ha pins s σ H _ I h) fun v s1 ⟨x,H1,I1,r1,q1⟩=>?_
 exact Constant_none (is_none_gen ⟨.bl _,H1,I1,by rw[r1.none_iff];rfl,q1⟩)
theorem e45 {j pos'}(ha:PE X a ta):PC X .IsNot a (.Constant .none j pos') (tNotN ta):=by
 try constructor
 intro pins s σ H Q I h
 refine thn (ha pins s σ H _ I h) fun v s1 ⟨x,H1,I1,r1,q1⟩=>?_
 exact Constant_none (isnot_none_gen ⟨.bl _,H1,I1,by rw[r1.none_iff];rfl,q1⟩)
def tB (t:TE):TT:=fun σ H Q=>t σ H fun x H1=>∃ c,x=.bl c/\Q c H1
theorem h63 {op:CmpOp}{t:TE}(h:PC X op a b t)(h1:behindInMarks op b=false:=by first | exact e91 _ (by decide) (by decide) | rfl):PE X (.Compare a [op] [b] pos) t:=.mk fun pins s σ H Q I hw=>wpAny_Compare1 (h pins s σ H Q I hw) h1
theorem b21 {op:CmpOp}{t:TE}(h:PC X op a b t)(h1:behindInMarks op b=false:=by first | exact e91 _ (by decide) (by decide) | rfl):PT X (.Compare a [op] [b] pos) (tB t):=by
 try constructor
 intro pins s σ H Q I hw
 refine wpAny_isTrue_Compare1 (thn (h pins s σ H _ I hw) fun v s1 h1=>thn h1 fun u s2 h2=>thn h2 fun c s3 ⟨x,H1,I1,r1,q1⟩=>?_) h1
 obtain⟨d,rfl,q⟩:=q1
 cases r1
 exact wpAny_truthy_bool ⟨H1,I1,q⟩
theorem a96 {e:Expr}{t:TE}(h:PE X e t)(he:∀ whole,isTrue e X.env whole=(do let v ← whole;standAt e.pos;holding [v] (truthy v)):=by intro _;rfl):PT X e (tB t):=by
 try constructor
 intro pins s σ H Q I hw
 refine isTrue_plain (thn (h pins s σ H _ I hw) fun v s1 ⟨x,H1,I1,r1,q1⟩=>?_) (he _)
 obtain⟨d,rfl,q⟩:=q1
 cases r1
 exact wpAny_truthy_bool ⟨H1,I1,q⟩
variable {tA tB':TT}{rest:List Expr}
def tAnd (t u:TT):TT:=fun σ H Q=>t σ H fun c H1=>if c=true then u σ H1 Q else Q false H1
def tOr (t u:TT):TT:=fun σ H Q=>t σ H fun c H1=>if c=true then Q true H1 else u σ H1 Q
def tNot (t:TT):TT:=fun σ H Q=>t σ H fun c H1=>Q (!c) H1
theorem c79 (ha:PT X a tA):PW X (.BoolOp .And [a] pos) tA:=by
 try constructor
 intro wh pins s σ H Q I h
 refine isTrue_and (thn (ha pins s σ H Q I h) fun c s1 e=>?_)
 cases c with
 | true=>exact isTrue_and_nil e
 | false=>exact e
theorem b61 (ha:PT X a tA):PW X (.BoolOp .Or [a] pos) tA:=by
 try constructor
 intro wh pins s σ H Q I h
 refine isTrue_or (thn (ha pins s σ H Q I h) fun c s1 e=>?_)
 cases c with
 | false=>exact isTrue_or_nil e
 | true=>exact e
theorem d75 (ha:PT X a tA)(hb:PW X (.BoolOp .And (b::rest) pos) tB'):PW X (.BoolOp .And (a::b::rest) pos) (tAnd tA tB'):=by
 try constructor
 intro wh pins s σ H Q I h
 refine isTrue_and (thn (ha pins s σ H _ I h) fun c s1 ⟨H1,I1,q1⟩=>?_)
 cases c with
 | true=>exact hb wh pins s1 σ H1 Q I1 q1
 | false=>exact⟨H1,I1,q1⟩
theorem c32 (ha:PT X a tA)(hb:PW X (.BoolOp .Or (b::rest) pos) tB'):PW X (.BoolOp .Or (a::b::rest) pos) (tOr tA tB'):=by
 try constructor
 intro wh pins s σ H Q I h
 refine isTrue_or (thn (ha pins s σ H _ I h) fun c s1 ⟨H1,I1,q1⟩=>?_)
 cases c with
 | true=>exact⟨H1,I1,q1⟩
 | false=>exact hb wh pins s1 σ H1 Q I1 q1
theorem b84 (ha:PT X a tA):PT X (.UnaryOp .Not a pos) (tNot tA):=by
 try constructor
 intro pins s σ H Q I h
 exact isTrue_not (ha pins s σ H (fun c H1=>Q (!c) H1) I h)
def tAndV (ta tb:TE):TE:=fun σ H Q=>ta σ H fun x H1=>∃ c,x=.bl c/\if c=true then tb σ H1 Q else Q (.bl false) H1
def tNotV (ta:TE):TE:=fun σ H Q=>ta σ H fun x H1=>∃ c,x=.bl c/\Q (.bl (!c)) H1
theorem c95 {op}{t:TE}(h:PE X a t):PE X (.BoolOp op [a] pos) t:=.mk fun pins s σ H Q I hw=>BoolOp_one (h pins s σ H Q I hw)
theorem c61 (ha:PE X a ta)(hb:PE X (.BoolOp .And (b::rest) pos) tb):PE X (.BoolOp .And (a::b::rest) pos) (tAndV ta tb):=by
 try constructor
 intro pins s σ H Q I h
 refine BoolOp_and (thn (ha pins s σ H _ I h) fun v s1 ⟨x,H1,I1,r1,q1⟩=>?_)
 obtain⟨c,rfl,q1⟩:=q1
 cases r1
 refine wpAny_truthy_bool ?_
 cases c with
 | true=>exact hb pins s1 σ H1 Q I1 q1
 | false=>exact⟨.bl false,H1,I1,rfl,q1⟩
theorem j11 (ha:PE X a ta):PE X (.UnaryOp .Not a pos) (tNotV ta):=by
 try constructor
 intro pins s σ H Q I h
 refine UnaryOp_ (thn (ha pins s σ H _ I h) fun v s1 ⟨x,H1,I1,r1,q1⟩=>?_)
 obtain⟨c,rfl,q1⟩:=q1
 cases r1
 exact not_of (wpAny_truthy_bool ⟨.bl (!c),H1,I1,rfl,q1⟩)
def tIf (t:TT)(ta tb:TE):TE:=fun σ H Q=>t σ H fun c H1=>if c=true then ta σ H1 Q else tb σ H1 Q
theorem b45 {c:Expr}(hc:PT X c tA)(ha:PE X a ta)(hb:PE X b tb):PE X (.IfExp c a b pos) (tIf tA ta tb):=by
 try constructor
 intro pins s σ H Q I h
 refine wpAny_IfExp (thn (hc pins s σ H _ I h) fun d s1 ⟨H1,I1,q1⟩=>?_)
 cases d with
 | true=>exact ha pins s1 σ H1 Q I1 q1
 | false=>exact hb pins s1 σ H1 Q I1 q1
end
end L2
namespace L2
open PySem PySem.Spec PyProof.Rows
def SqL (K:PySem.W.Frag)(H:Hp)(a:Addr) (xs:List V):Prop :=
 Rd H a (.lst xs) ∨
  ∃(o:Obj)(its:Array Value) (n:Nat),K.lookup a=some o/\o.cls=.type "list"/\o.dict=none/\o.data=.seq its n/\its.size<=sizeLine/\Vals xs its.toList
def SqT (K:PySem.W.Frag)(H:Hp)(a:Addr) (xs:List V):Prop :=
 Rd H a (.tup xs) ∨
  ∃(o:Obj)(its:Array Value) (n:Nat),K.lookup a=some o/\o.cls=.type "tuple"/\o.data=.seq its n/\its.size<=sizeLine/\Vals xs its.toList
def absV:Value->Option V
 | .none=>some .non
 | .bool b=>some (.bl b)
 | .int i _=>some (.int i)
 | .str x _=>some (.str x)
 | .bytes b _=>some (.byt b)
 | .float b _=>some (.flt b)
 | .ref a=>some (.ref a)
 | .type n=>some (.ty n)
 | _=>none
theorem RelV.abs {x:V}{u:Value}(r:RelV x u):absV u=some x:=by
 cases x with
 | non=>cases r;rfl
 | bl _=>cases r;rfl
 | int _=>obtain⟨t,rfl⟩:=r;rfl
 | str _=>obtain⟨t,rfl⟩:=r;rfl
 | byt _=>obtain⟨t,rfl⟩:=r;rfl
 | flt _=>obtain⟨t,rfl⟩:=r;rfl
 | ref _=>cases r;rfl
 | ty _=>cases r;rfl
theorem RelV.inj {x y:V}{u:Value}(r:RelV x u)(q:RelV y u):x=y:=EJ (r.abs.symm.trans q.abs)
theorem Vals.inj:∀ {xs ys:List V}{us:List Value},Vals xs us->Vals ys us->xs=ys
 | _,_,_,.nil,.nil=>rfl
 | _,_,_,.cons r t,.cons r' t'=>by rw[r.inj r',Vals.inj t t']
section
variable {X:Cx}{pins:List (Addr×Obj)}{σ:St}{H:Hp}{s:Shared}{a:Addr}{xs ys:List V}
theorem SqL.of {K:PySem.W.Frag}(h:H a=some (.lst xs)):SqL K H a xs:=.inl (.inl h)
theorem SqT.of {K:PySem.W.Frag}(h:H a=some (.tup xs)):SqT K H a xs:=.inl (.inl h)
theorem Inv.list (I:Inv X pins σ H s)(h:SqL X.K H a xs):∃ its:List Value,Vals xs its/\PlainL s.heap a its.toArray/\xs.length<=sizeLine:=by
 rcases h with h | ⟨o,its,n,hk,hc,hd,hs,hz,r⟩
 ·obtain⟨z,its,n,r,e⟩:=h.ok I.hok
  exact⟨its,r,⟨_,n,e,rfl,rfl,rfl⟩,z⟩
 ·refine⟨its.toList,r,⟨o,n,I.kIn a o hk,hc,hd,by simpa using hs⟩,?_⟩
  have e:=r.length
  simp only[Cq] at e
  omega
theorem Inv.tuple (I:Inv X pins σ H s)(h:SqT X.K H a xs):∃ its:List Value,Vals xs its/\IsTup s.heap a its.toArray/\xs.length<=sizeLine:=by
 rcases h with h | ⟨o,its,n,hk,hc,hs,hz,r⟩
 ·obtain⟨z,its,r,p⟩:=h.ok I.hok
  exact⟨its,r,p,z⟩
 ·refine⟨its.toList,r,⟨o,I.kIn a o hk,hc,n,by simpa using hs⟩,?_⟩
  have e:=r.length
  simp only[Cq] at e
  omega
theorem Inv.list_inj (I:Inv X pins σ H s)(h:SqL X.K H a xs)(h':SqL X.K H a ys):xs=ys:=by
 obtain⟨its,r,⟨o,n,e,_,_,d⟩,_⟩:=I.list h
 obtain⟨its',r',⟨o',n',e',_,_,d'⟩,_⟩:=I.list h'
 rw[e] at e';cases e'
 rw[d] at d'
 injection d' with d1 _
 have:its=its':=by simpa using congrArg Array.toList d1
 subst this
 exact r.inj r'
theorem Inv.tuple_inj (I:Inv X pins σ H s)(h:SqT X.K H a xs)(h':SqT X.K H a ys):xs=ys:=by
 obtain⟨its,r,⟨o,e,_,n,d⟩,_⟩:=I.tuple h
 obtain⟨its',r',⟨o',e',_,n',d'⟩,_⟩:=I.tuple h'
 rw[e] at e';cases e'
 rw[d] at d'
 injection d' with d1 _
 have:its=its':=by simpa using congrArg Array.toList d1
 subst this
 exact r.inj r'
end
abbrev Cx.wish (X:Cx) (E:Value->Shared->Prop):Cx:={ X with xe:=E }
abbrev Cx.nox (X:Cx):Cx:=X.wish fun _ _=>False
theorem Cx.Ok.wish {X:Cx}(ok:X.Ok) (E:Value->Shared->Prop):(X.wish E).Ok :=
 ⟨ok.mod,ok.kind,ok.glob,ok.blt,ok.above,ok.inj,ok.has,ok.cab,ok.hd,ok.frames,ok.stk,ok.exf,ok.bs,ok.bsz,ok.noex,ok.exfs,ok.funs,ok.frf⟩
theorem Cx.Ok.unwish {X:Cx}{E:Value->Shared->Prop}(ok:(X.wish E).Ok):X.Ok :=
 ⟨ok.mod,ok.kind,ok.glob,ok.blt,ok.above,ok.inj,ok.has,ok.cab,ok.hd,ok.frames,ok.stk,ok.exf,ok.bs,ok.bsz,ok.noex,ok.exfs,ok.funs,ok.frf⟩
section
variable {X:Cx}{pins:List (Addr×Obj)}{σ:St}{H:Hp}{s:Shared}{E:Value->Shared->Prop}
theorem Inv.wish (I:Inv X pins σ H s) (E:Value->Shared->Prop):Inv (X.wish E) pins σ H s:=⟨I.ok.wish E,I.os,I.bare,I.base,I.loc,I.cell,I.free,I.freeC,I.pin,I.hok,I.len⟩
theorem Inv.unwish (I:Inv (X.wish E) pins σ H s):Inv X pins σ H s:=⟨I.ok.unwish,I.os,I.bare,I.base,I.loc,I.cell,I.free,I.freeC,I.pin,I.hok,I.len⟩
theorem SP.unwish {D:Ends}{f:Flow}{s':Shared}(h:SP (X.wish E) pins D f s'):SP X pins D f s':=by
 cases f with
 | next=>obtain⟨σ',H',I,q⟩:=h;exact⟨σ',H',I.unwish,q⟩
 | brk=>obtain⟨σ',H',I,q⟩:=h;exact⟨σ',H',I.unwish,q⟩
 | cont=>obtain⟨σ',H',I,q⟩:=h;exact⟨σ',H',I.unwish,q⟩
 | ret u=>obtain⟨v,σ',H',I,r,q⟩:=h;exact⟨v,σ',H',I.unwish,r,q⟩
theorem PE.nox {e:Expr}{t:TE}(h:PE X.nox e t):PE X e t:=.mk fun pins s σ H Q I hw =>
 Dz (h pins s σ H Q (I.wish _) hw) (fun _ _ ⟨v,H',I',r,q⟩=>⟨v,H',I'.unwish,r,q⟩) fun _ _ z=>False.elim z
theorem PT.nox {e:Expr}{t:TT}(h:PT X.nox e t):PT X e t:=.mk fun pins s σ H Q I hw =>
 Dz (h pins s σ H Q (I.wish _) hw) (fun _ _ ⟨H',I',q⟩=>⟨H',I'.unwish,q⟩) fun _ _ z=>False.elim z
theorem PSs.nox {st:List Stmt}{t:TS}(h:PSs X.nox st t):PSs X st t:=.mk fun pins s σ H D I hw =>
 Dz (h pins s σ H D (I.wish _) hw) (fun _ _ q=>q.unwish) fun _ _ z=>False.elim z
end
section
variable {X:Cx}{st:Stmt}{rest:List Stmt}{t u:TS}{e:Expr}{te:TE}{pos:Pos}
def tNext:TS:=fun D σ H=>D.nx σ H
def tSeq (t u:TS):TS:=fun D σ H=>t { D with nx:=u D } σ H
theorem a31:PSs X [] tNext:=.mk fun _ _ σ H _ I h=>wpAny_execs_nil ⟨σ,H,I,h⟩
theorem a03 (h1:PS X st t)(h2:PSs X rest u):PSs X (st::rest) (tSeq t u):=by
 try constructor
 intro pins s σ H D I h
 refine wpAny_execs_cons (thn (h1 pins s σ H { D with nx:=u D } I h) fun f s1 q=>?_)
 cases f with
 | next =>
  obtain⟨σ',H',I',q⟩:=q
  exact h2 pins s1 σ' H' D I' q
 | ret v=>exact q
 | brk=>exact q
 | cont=>exact q
theorem a08 (h1:PS X st t):PSs X [st] t:=by
 try constructor
 intro pins s σ H D I h
 refine wpAny_execs_cons (thn (h1 pins s σ H D I h) fun f s1 q=>?_)
 cases f with
 | next=>exact wpAny_execs_nil q
 | ret v=>exact q
 | brk=>exact q
 | cont=>exact q
theorem Inv.quiet {pins:List (Addr×Obj)}{σ:St}{H:Hp}{s:Shared}(I:Inv X pins σ H s):interactive X.env=false:=by simp[interactive,I.ok.kind]
def tDrop (te:TE):TS:=fun D σ H=>te σ H fun _ H1=>D.nx σ H1
theorem b46 (he:PE X e te)(hs:swapsWith e none pos.line X.env=pure false:=by rfl):PS X (.Expr e pos) (tDrop te):=by
 try constructor
 intro pins s σ H D I h
 exact wpAny_Expr_any (thn (he pins s σ H _ I h) fun v s1 ⟨x,H1,I1,r1,q1⟩=>⟨σ,H1,I1,q1⟩) I.quiet hs
def tRet (te:TE):TS:=fun D σ H=>te σ H D.rt
theorem a37 (he:PE X e te):PS X (.Return (some e) pos) (tRet te):=by
 try constructor
 intro pins s σ H D I h
 exact wpAny_Return_some (thn (he pins s σ H _ I h) fun v s1 ⟨x,H1,I1,r1,q1⟩=>⟨x,σ,H1,I1,r1,q1⟩)
def tRetN:TS:=fun D _ H=>D.rt .non H
theorem f97:PS X (.Return none pos) tRetN:=.mk fun _ _ σ H _ I h=>wpAny_Return_none ⟨.non,σ,H,I,rfl,h⟩
def tIfS (c:TT)(t u:TS):TS:=fun D σ H=>c σ H fun b H1=>if b=true then t D σ H1 else u D σ H1
theorem a47 {c:Expr}{a b:List Stmt}{tc:TT}(hc:PT X c tc)(ha:PSs X a t)(hb:PSs X b u):PS X (.If c a b pos) (tIfS tc t u):=by
 try constructor
 intro pins s σ H D I h
 refine wpAny_If (thn (hc pins s σ H _ I h) fun d s1 ⟨H1,I1,q1⟩=>?_)
 cases d with
 | true=>exact ha pins s1 σ H1 D I1 q1
 | false=>exact hb pins s1 σ H1 D I1 q1
def j20:TS:=fun _ _ _=>False
theorem b60 {sts:List Stmt}:PSs X sts j20:=.mk fun _ _ _ _ _ _ h=>h.elim
end
abbrev TG:=V->St->Hp->(St->Hp->Prop)->Prop
abbrev TGs:=List V->St->Hp->(St->Hp->Prop)->Prop
structure PG (X:Cx)(target:Expr)(t:TG):Prop where
 run :
  ∀(pins:List (Addr×Obj))(s:Shared)(σ:St)(H:Hp) (v:V) (u:Value)(Q:St->Hp->Prop),Inv X pins σ H s->RelV v u->t v σ H Q ->
   wpAny (model X.prog X.w) X.A (assign target X.env u) (fun _ s'=>∃ σ' H',Inv X pins σ' H' s'/\Q σ' H') X.xe s
instance {X:Cx}{target:Expr}{t:TG}:CoeFun (PG X target t) (fun _ =>
 ∀(pins:List (Addr×Obj))(s:Shared)(σ:St)(H:Hp) (v:V) (u:Value)(Q:St->Hp->Prop),Inv X pins σ H s->RelV v u->t v σ H Q ->
  wpAny (model X.prog X.w) X.A (assign target X.env u) (fun _ s'=>∃ σ' H',Inv X pins σ' H' s'/\Q σ' H') X.xe s
 ):=⟨PG.run⟩
structure PGs (X:Cx) (ts:List Expr)(t:TGs):Prop where
 run :
  ∀(pins:List (Addr×Obj))(s:Shared)(σ:St)(H:Hp) (vs:List V) (us:List Value)(Q:St->Hp->Prop),Inv X pins σ H s->Vals vs us->t vs σ H Q ->
   wpAny (model X.prog X.w) X.A (assignInOrder ((assignEach ts X.env).map (·.2)) us) (fun _ s'=>∃ σ' H',Inv X pins σ' H' s'/\Q σ' H') X.xe s
instance {X:Cx}{ts:List Expr}{t:TGs}:CoeFun (PGs X ts t) (fun _ =>
 ∀(pins:List (Addr×Obj))(s:Shared)(σ:St)(H:Hp) (vs:List V) (us:List Value)(Q:St->Hp->Prop),Inv X pins σ H s->Vals vs us->t vs σ H Q ->
  wpAny (model X.prog X.w) X.A (assignInOrder ((assignEach ts X.env).map (·.2)) us) (fun _ s'=>∃ σ' H',Inv X pins σ' H' s'/\Q σ' H') X.xe s
 ):=⟨PGs.run⟩
abbrev TSet:=V->V->V->Hp->(Hp->Prop)->Prop
def PSet (X:Cx)(t:TSet):Prop :=
 ∀(pins:List (Addr×Obj))(s:Shared)(σ:St)(H:Hp) (o i v:V) (ov iv u:Value)(Q:Hp->Prop),Inv X pins σ H s->RelV o ov->RelV i iv->RelV v u->t o i v H Q ->
  wpAny (model X.prog X.w) X.A (setItem ov iv u) (fun _ s'=>∃ H',Inv X pins σ H' s'/\Q H') X.xe s
abbrev TIp:=V->V->Hp->VK->Prop
def PIp (X:Cx)(op:Operator)(t:TIp):Prop :=
 ∀(pins:List (Addr×Obj))(s:Shared)(σ:St)(H:Hp) (x y:V) (v u:Value)(Q:VK),Inv X pins σ H s->RelV x v->RelV y u->t x y H Q ->
  wpAny (model X.prog X.w) X.A (inplaceOp op v u) (EP X pins σ Q) X.xe s
section
variable {X:Cx}{pos:Pos}
def d40 (i:Nat):TG:=fun v σ H Q=>Q (σ.set i (some v)) H
theorem a91 {i:Nat}{x:Str}(hN:X.N.Nodup)(hi:X.N[i]?=some x)(hx:Loc X.env.scope x)(hf:X.fn x=true∨X.env.scope.names.lookup x=some .local:=by first | exact .inl rfl | exact .inr rfl | assumption):PG X (.Name x pos) (d40 i):=by
 try constructor
 intro pins s σ H v u Q I r h
 exact wpAny_assign_Name (c28 I hN hi hx r (fun s' I'=>⟨_,H,I',h⟩) hf)
def gNil:TGs:=fun vs σ H Q=>vs=[]/\Q σ H
def f64 (t:TG)(u:TGs):TGs:=fun vs σ H Q=>∃ v r,vs=v::r/\t v σ H fun σ' H'=>u r σ' H' Q
theorem e55:PGs X [] gNil:=by
 try constructor
 intro pins s σ H vs us Q I r h
 obtain⟨e,h⟩:=h
 subst e
 cases r
 exact assignInOrder_nil ⟨σ,H,I,h⟩
theorem b81 {e:Expr}{es:List Expr}{t:TG}{u:TGs}(h1:PG X e t)(h2:PGs X es u)
 (hs:(assignEach (e::es) X.env).map (·.2)=assign e X.env::(assignEach es X.env).map (·.2):=by rfl):PGs X (e::es) (f64 t u):=by
 try constructor
 intro pins s σ H vs us Q I r h
 obtain⟨v,vr,e1,h⟩:=h
 subst e1
 cases r with
 | cons r rr =>
  rw[hs]
  refine assignInOrder_cons (thn (h1 pins s σ H _ _ _ I r h) fun _ s1 ⟨σ1,H1,I1,q1⟩=>?_)
  exact h2 pins s1 σ1 H1 _ _ Q I1 rr q1
def gTup (K:PySem.W.Frag) (n:Nat)(t:TGs):TG:=fun v σ H Q=>∃ a xs,v=.ref a/\SqT K H a xs/\xs.length=n/\t xs σ H Q
theorem g56 {es:List Expr}{k:Nat}{t:TGs}{n:Nat}(hc:X.calm=true)(h:PGs X es t)
 (hn:(assignEach es X.env).length=n:=by rfl)(hst:(assignEach es X.env).findIdx? (·.1)=none:=by rfl):PG X (.Tuple es k pos) (gTup X.K n t):=by
 try constructor
 intro pins s σ H v u Q I r hw
 obtain⟨a,xs,e1,hq,hl,hw⟩:=hw
 subst e1
 cases r
 obtain⟨its,rv,ht,hz⟩:=I.tuple hq
 refine assign_Tuple_tuple (I.ok.hd hc) ht (by simp[hn,← hl,rv.length]) hst fun h' hx=>?_
 have I1:Inv X pins σ H { s with heap:=h' }:=I.kept (t':=s.toks) fun b o e=>hx b o (Nat.ne_of_lt (Ej e)) e
 exact h pins _ σ H xs _ Q I1 (by simpa using rv) hw
def gSub (to ti:TE)(t:TSet):TG:=fun v σ H Q=>to σ H fun o H1=>ti σ H1 fun i H2=>t o i v H2 fun H3=>Q σ H3
theorem g14 {o i:Expr}{to ti:TE}{t:TSet}(ho:PE X o to)(hi:PE X i ti)(hs:PSet X t)
 (ha:∀ v,assign (.Subscript o i pos) X.env v=(do
   let ov ← holding [v] (eval o X.env)
   let iv ← holding [v,ov] (eval i X.env)
   standAt pos
   holding [v,ov,iv] (setItem ov iv v)
   release [v,ov,iv] []):=by intro _;rfl):PG X (.Subscript o i pos) (gSub to ti t):=by
 try constructor
 intro pins s σ H v u Q I r h
 rw[ha]
 refine AQ (wpAny_holding (thn (ho pins s σ H _ I h) fun ov s1 ⟨x,H1,I1,r1,q1⟩=>?_))
 refine AQ (wpAny_holding (thn (hi pins s1 σ H1 _ I1 q1) fun iv s2 ⟨y,H2,I2,r2,q2⟩=>?_))
 refine AQ (wpAny_standAt (AQ (wpAny_holding (thn (hs pins s2 σ H2 x y v ov iv u _ I2 r1 r2 r q2) fun _ s3 ⟨H3,I3,q3⟩=>?_))))
 exact wpAny_release ⟨σ,H3,I3,q3⟩
def tAsg (te:TE)(g:TG):TS:=fun D σ H=>te σ H fun x H1=>g x σ H1 D.nx
theorem g60 {tg e:Expr}{te:TE}{g:TG}(he:PE X e te)(hg:PG X tg g)(hs:swapsWithSole [tg] e pos.line X.env=pure false:=by rfl)(hw:swappedStores [tg] e X.env=pure none:=by rfl)
 (h1:(assignEach [tg] X.env).map (·.2)=[assign tg X.env]:=by rfl):PS X (.Assign [tg] e pos) (tAsg te g):=by
 try constructor
 intro pins s σ H D I h
 refine wpAny_Assign_stores (thn (he pins s σ H _ I h) fun v s1 ⟨x,H1,I1,r1,q1⟩=>?_) hs hw
 rw[h1]
 exact thn (hg pins s1 σ H1 x v _ I1 r1 q1) fun _ s2 q=>q
theorem a39 {i:Nat}{x:Str}{e:Expr}{te:TE}{pos':Pos}(hN:X.N.Nodup)(hi:X.N[i]?=some x)(hx:Loc X.env.scope x)(he:PE X e te)(hs:swapsWith e (some (.Name x pos')) pos.line X.env=pure false:=by rfl)(hf:X.fn x=true∨X.env.scope.names.lookup x=some .local:=by first | exact .inl rfl | exact .inr rfl | assumption) :
 PS X (.Assign [.Name x pos'] e pos) (tAsg te (d40 i)):=by
 try constructor
 intro pins s σ H D I h
 refine wpAny_Assign_Name (thn (he pins s σ H _ I h) fun v s1 ⟨y,H1,I1,r1,q1⟩=>?_) hs
 exact c28 I1 hN hi hx r1 (fun s2 I2=>⟨_,H1,I2,q1⟩) hf
def tAug (i:Nat)(te:TE)(ti:TIp):TS:=fun D σ H=>∃ x,σ[i]?=some (some x)/\te σ H fun y H1=>ti x y H1 fun z H2=>D.nx (σ.set i (some z)) H2
theorem h62 {i:Nat}{x:Str}{e:Expr}{te:TE}{op:Operator}{ti:TIp}{pos':Pos}(hN:X.N.Nodup)(hi:X.N[i]?=some x)(hx:Loc X.env.scope x)(he:PE X e te)(ho:PIp X op ti)(hf:X.fn x=true∨X.env.scope.names.lookup x=some .local:=by first | exact .inl rfl | exact .inr rfl | assumption) :
 PS X (.AugAssign (.Name x pos') op e pos) (tAug i te ti):=by
 try constructor
 intro pins s σ H D I h
 obtain⟨v,e1,h⟩:=h
 obtain⟨m,hn,hl⟩:=I.loc
 have vis:Vis X.env.scope x:=by rcases hx with k | k;exact .inl k;exact .inr (.inl k)
 obtain⟨u,r,l⟩:=hl i x v hi e1 vis
 refine wpAny_AugAssign_Name ?_
 have go:wpAny (model X.prog X.w) X.A (eval e X.env) (fun w s₂=>wpAny (model X.prog X.w) X.A (inplaceOp op u w) (fun r s₃=>wpAny (model X.prog X.w) X.A (storeName X.env x r) (fun _=>SP X pins D .next) X.xe s₃) X.xe s₂) X.xe s:=by
  refine thn (he pins s σ H _ I h) fun w s1 ⟨y,H1,I1,r1,q1⟩=>?_
  refine thn (ho pins s1 σ H1 v y u w _ I1 r r1 q1) fun z s2 ⟨zv,H2,I2,r2,q2⟩=>?_
  exact c28 I2 hN hi hx r2 (fun s3 I3=>⟨_,H2,I3,q2⟩) hf
 rcases l with⟨hk,hm⟩ | ⟨hk,c,hc,hcell⟩
 ·exact wpAny_loadName_local I.ok.kind hk hn hm go
 ·rcases hk with hk | hk
  ·exact wpAny_loadName_cell I.ok.kind hk hc hcell go
  ·rcases hx with k | k
   ·have:X.env.scope.names.lookup x=some .free:=hk
    rw[k] at this;cases this
   ·have:X.env.scope.names.lookup x=some .free:=hk
    rw[k] at this;cases this
end
section
variable {X:Cx}{pos:Pos}
end
structure It where
 go:Nat->Hp->Prop
 yld:Nat->Hp->V->Hp->Prop
 stop:Nat->Hp->Prop
def f66 (X:Cx) (pins:List (Addr×Obj))(H:Hp)(b:Addr):Prop :=
 H b=none/\b≠X.env.locals/\b∉X.fs/\(b∈X.ex∨X.s₀.heap.objs.size<=b)/\(∀ x c,X.env.cells.lookup x=some c->c≠b)/\∀ p∈X.pn++pins,p.1≠b
theorem Inv.fpOk {X:Cx}{pins:List (Addr×Obj)}{σ:St}{H H':Hp}{s:Shared}{b:Addr}(I:Inv X pins σ H s)(hb:s.heap.objs.size<=b)(hn:H' b=none):f66 X pins H' b:=by
 refine⟨hn,Nat.ne_of_gt (Nat.lt_of_lt_of_le I.lt hb),I.nofs hb,.inr (FQ I.sz hb),fun x c e z=>?_,fun p hp z=>?_⟩
 ·obtain⟨v,q⟩:=I.cell x c e
  exact absurd (Nat.lt_of_lt_of_le q.lt (by rw[z];exact hb)) (Nat.lt_irrefl _)
 ·exact absurd (Nat.lt_of_lt_of_le (Ej (I.pin p hp).1) (by rw[z];exact hb)) (Nat.lt_irrefl _)
structure Turn (P:Program)(w:World)(K:PySem.W.Frag)(tg:Expr)(J:It) (fp:List Addr)(it:Addr) (tn:Nat->Heap->Prop):Prop where
 mem:it∈fp
 obj:∀ i h,tn i h->∀ b∈fp,∃ o,h.get? b=some o/\∀ v,o.data≠.cell v
 keep:∀ i h h',tn i h->(∀ b∈fp,∀ o,h.get? b=some o->h'.get? b=some o)->tn i h'
 item:∀(X:Cx),X.prog=P->X.w=w->X.K=K->X.calm=true->∀(i:Nat) (pins:List (Addr×Obj))(s:Shared)(σ:St)(H:Hp) (E:Value->Shared->Prop),Inv X pins σ H s->(∀ b∈fp,f66 X pins H b)->tn i s.heap->J.go i H ->
  wpAny (model P w) X.A (pyNext (.ref it)) (fun r s1=>∃ u,r=some u /\
   wpAny (model P w) X.A (letOwnedTupleGo tg (.ref it) u) (fun _ s2=>∃ x H',Inv X pins σ H' s2/\RelV x u/\J.yld i H x H'/\tn (i+1) s2.heap/\∀ b∈fp,H' b=none) E s1) E s
 done:∀(X:Cx),X.prog=P->X.w=w->X.K=K->X.calm=true->∀(i:Nat) (pins:List (Addr×Obj))(s:Shared)(σ:St)(H:Hp) (E:Value->Shared->Prop),Inv X pins σ H s->(∀ b∈fp,f66 X pins H b)->tn i s.heap->J.stop i H ->
  wpAny (model P w) X.A (pyNext (.ref it)) (fun r s1=>r=none/\Inv X pins σ H s1) E s
 self:∀(A:Around) (i:Nat)(s:Shared) (Q:Value->Shared->Prop) (E:Value->Shared->Prop),tn i s.heap->Q (.ref it) s->wpAny (model P w) A (pyIter (.ref it)) Q E s
abbrev TI:=St->Hp->(It->Hp->Prop)->Prop
def PIE (X:Cx) (pins:List (Addr×Obj))(σ:St)(tg:Expr)(R:It->Hp->Prop) (itv:Value)(s2:Shared):Prop :=
 ∃(it:Addr) (fp:List Addr) (tn:Nat->Heap->Prop)(J:It)(H':Hp),itv=.ref it/\Inv X pins σ H' s2/\Turn X.prog X.w X.K tg J fp it tn/\tn 0 s2.heap/\(∀ b∈fp,f66 X pins H' b)/\R J H'
structure PI (X:Cx)(tg iter:Expr)(wi:TI):Prop where
 run :
  ∀(pins:List (Addr×Obj))(s:Shared)(σ:St)(H:Hp)(R:It->Hp->Prop),Inv X pins σ H s->wi σ H R ->
   wpAny (model X.prog X.w) X.A (eval iter X.env) (fun v s1=>wpAny (model X.prog X.w) X.A (pyIter v) (PIE X pins σ tg R) X.xe s1) X.xe s
instance {X:Cx}{tg iter:Expr}{wi:TI}:CoeFun (PI X tg iter wi) (fun _ =>
 ∀(pins:List (Addr×Obj))(s:Shared)(σ:St)(H:Hp)(R:It->Hp->Prop),Inv X pins σ H s->wi σ H R ->
  wpAny (model X.prog X.w) X.A (eval iter X.env) (fun v s1=>wpAny (model X.prog X.w) X.A (pyIter v) (PIE X pins σ tg R) X.xe s1) X.xe s
 ):=⟨PI.run⟩
theorem g11 {M:Model}{A:Around}{E:Value->Shared->Prop}{s:Shared}{tg:Expr}{it:Addr}{u:Value}{o:Obj}{n:String}{vs:Array Value}{Q:Unit->Shared->Prop}(ho:s.heap.get? it=some o)(hc:o.cls=.type n)(hd:o.data=.fields vs)
 (hn:["enumerate", "zip", "dict_itemiterator", "dict_reverseitemiterator", "odict_iterator", "itertools.zip_longest", "itertools.pairwise"].contains n=false)(hQ:Q () s):wpAny M A (letOwnedTupleGo tg (.ref it) u) Q E s:=by
 unfold letOwnedTupleGo
 cases tg <;> first
  | exact AX hQ
  | (cases u <;> first
      | exact AX hQ
      | (refine AQ (wpAny_load ho ?_)
         rw[hc,hd]
         show wpAny M A (if (["enumerate", "zip", "dict_itemiterator", "dict_reverseitemiterator", "odict_iterator", "itertools.zip_longest", "itertools.pairwise"].contains n && vs[0]? == some (rawInt _))=true then _ else _) Q E s
         rw[if_neg (by intro h;rw[hn,Bool.false_and] at h;cases h)]
         exact AX hQ))
def Itl (K:PySem.W.Frag)(a:Addr):It :=
 ⟨fun i H=>∃ xs x,SqL K H a xs/\xs[i]?=some x,fun i H x H'=>H'=H/\∀ xs,SqL K H a xs->xs[i]?=some x,fun i H=>∃ xs,SqL K H a xs/\xs.length<=i⟩
def Itt (K:PySem.W.Frag)(a:Addr):It :=
 ⟨fun i H=>∃ xs x,SqT K H a xs/\xs[i]?=some x,fun i H x H'=>H'=H/\∀ xs,SqT K H a xs->xs[i]?=some x,fun i H=>∃ xs,SqT K H a xs/\xs.length<=i⟩
def Itr (lo:Int) (n:Nat):It:=⟨fun i _=>i < n,fun i H x H'=>H'=H/\x=.int (lo+i),fun i _=>n<=i⟩
theorem f98 {P:Program}{w:World}{K:PySem.W.Frag}{tg:Expr}(a it:Addr):Turn P w K tg (Itl K a) [it] it (fun i h=>h.IsListIter it a i) where
 mem:=by simp
 obj:=fun i h st b hb=>by
  have e:b=it:=by simpa using hb
  subst e
  obtain⟨o,e,c,d⟩:=st
  exact⟨o,e,fun v z=>by rw[d] at z;cases z⟩
 keep:=fun i h h' st k=>st.at fun o e=>k it (by simp) o e
 item:=by
  intro X hP hw hK hc i pins s σ H E I hf st hg
  subst hP hw hK
  obtain⟨xs,x,hq,hx⟩:=hg
  obtain⟨its,rv,p,hz⟩:=I.list hq
  obtain⟨u,hu,ru⟩:=rv.get hx
  obtain⟨f0,f1,f2,f3,f4,f5⟩:=hf it (by simp)
  refine wpAny_pyNext_list_item st p.isList (x:=u) (by simpa using hu) fun h' st' sb=>?_
  have I1:Inv X pins σ H { s with heap:=h' }:=I.turned (t':=s.toks) (fun b o hb e=>(sb.2 b hb).trans e) f0 f1 f3 f4 f5
  obtain⟨o,e,c,d⟩:=id st'
  exact⟨u,rfl,g11 (s:={ s with heap:=h' }) e c d (by decide) ⟨x,H,I1,ru,⟨rfl,fun ys hy=>by rw[I.list_inj hy hq];exact hx⟩,st',fun b hb=>(hf b hb).1⟩⟩
 done:=by
  intro X hP hw hK hc i pins s σ H E I hf st hg
  subst hP hw hK
  obtain⟨xs,hq,hx⟩:=hg
  obtain⟨its,rv,p,hz⟩:=I.list hq
  obtain⟨f0,f1,f2,f3,f4,f5⟩:=hf it (by simp)
  have hl:=rv.length
  exact wpAny_pyNext_list_end (I.ok.hd hc) st p.isList (by simp;omega) fun h' eb=>⟨rfl,I.turned (t':=s.toks) (fun b o hb e=>eb b o hb e) f0 f1 f3 f4 f5⟩
 self:=fun _ _ _ _ _ st h=>wpAny_pyIter_listiter st h
theorem f45 {P:Program}{w:World}{K:PySem.W.Frag}{tg:Expr}(a it:Addr):Turn P w K tg (Itt K a) [it] it (fun i h=>h.IsTupleIter it a i) where
 mem:=by simp
 obj:=fun i h st b hb=>by
  have e:b=it:=by simpa using hb
  subst e
  obtain⟨o,e,c,d⟩:=st
  exact⟨o,e,fun v z=>by rw[d] at z;cases z⟩
 keep:=fun i h h' st k=>st.at fun o e=>k it (by simp) o e
 item:=by
  intro X hP hw hK hc i pins s σ H E I hf st hg
  subst hP hw hK
  obtain⟨xs,x,hq,hx⟩:=hg
  obtain⟨its,rv,p,hz⟩:=I.tuple hq
  obtain⟨u,hu,ru⟩:=rv.get hx
  obtain⟨f0,f1,f2,f3,f4,f5⟩:=hf it (by simp)
  refine wpAny_pyNext_tuple_item st (show s.heap.IsTuple a its.toArray from p) (x:=u) (by simpa using hu) fun h' st' sb=>?_
  have I1:Inv X pins σ H { s with heap:=h' }:=I.turned (t':=s.toks) (fun b o hb e=>(sb.2 b hb).trans e) f0 f1 f3 f4 f5
  obtain⟨o,e,c,d⟩:=id st'
  exact⟨u,rfl,g11 (s:={ s with heap:=h' }) e c d (by decide) ⟨x,H,I1,ru,⟨rfl,fun ys hy=>by rw[I.tuple_inj hy hq];exact hx⟩,st',fun b hb=>(hf b hb).1⟩⟩
 done:=by
  intro X hP hw hK hc i pins s σ H E I hf st hg
  subst hP hw hK
  obtain⟨xs,hq,hx⟩:=hg
  obtain⟨its,rv,p,hz⟩:=I.tuple hq
  obtain⟨f0,f1,f2,f3,f4,f5⟩:=hf it (by simp)
  have hl:=rv.length
  exact wpAny_pyNext_tuple_end (I.ok.hd hc) st (show s.heap.IsTuple a its.toArray from p) (by simp;omega) fun h' eb=>⟨rfl,I.turned (t':=s.toks) (fun b o hb e=>eb b o hb e) f0 f1 f3 f4 f5⟩
 self:=fun _ _ _ _ _ st h=>wpAny_pyIter_tupleiter st h
theorem f48 {P:Program}{w:World}{K:PySem.W.Frag}{tg:Expr}(it:Addr) (lo:Int) (n:Nat):Turn P w K tg (Itr lo n) [it] it (fun i h=>IsRangeIter h it (lo+(i:Nat) * 1) ((n:Int)-(i:Nat)) 1) where
 mem:=by simp
 obj:=fun i h st b hb=>by
  have e:b=it:=by simpa using hb
  subst e
  exact⟨_,st,fun v z=>by
   have z':Data.fields _=Data.cell v:=z
   cases z'⟩
 keep:=fun i h h' st k=>k it (by simp) _ st
 item:=by
  intro X hP hw hK hc i pins s σ H E I hf st hg
  subst hP hw hK
  obtain⟨f0,f1,f2,f3,f4,f5⟩:=hf it (by simp)
  have W:=Walks.range (prog:=X.prog) (w:=X.w) (I.ok.hd hc) it lo 1 n
  refine W.item i s _ _ hg st fun v h' tk hv st' kk=>?_
  obtain⟨t,rfl⟩:=hv
  have I1:Inv X pins σ H { s with heap:=h',toks:=tk }:=I.turned (fun b o hb e=>kk b o (by simpa using hb) e) f0 f1 f3 f4 f5
  refine⟨_,rfl,g11 (s:={ s with heap:=h',toks:=tk }) (n := "range_iterator") st' rfl rfl (by decide) ⟨.int (lo+i),H,I1,⟨t,?_⟩,⟨rfl,rfl⟩,st',fun b hb=>(hf b hb).1⟩⟩
  rw[Int.mul_one]
 done:=by
  intro X hP hw hK hc i pins s σ H E I hf st hg
  subst hP hw hK
  obtain⟨f0,f1,f2,f3,f4,f5⟩:=hf it (by simp)
  exact wpAny_pyNext_range_end (I.ok.hd hc) st (by have:n<=i:=hg;omega) fun h' eb=>⟨rfl,I.turned (t':=s.toks) (fun b o hb e=>eb b o hb e) f0 f1 f3 f4 f5⟩
 self:=fun _ _ _ _ _ st h=>wpAny_pyIter_rangeiter st h
end L2
namespace L2
open PySem PySem.Spec PyProof.Rows
section
variable {X:Cx}{tg:Expr}
def iList (K:PySem.W.Frag)(tl:TE):TI:=fun σ H R=>tl σ H fun x H1=>∃ a,x=.ref a/\(∃ xs,SqL K H1 a xs)/\R (Itl K a) H1
def iTup (K:PySem.W.Frag)(tl:TE):TI:=fun σ H R=>tl σ H fun x H1=>∃ a,x=.ref a/\(∃ xs,SqT K H1 a xs)/\R (Itt K a) H1
theorem c35 {l:Expr}{tl:TE}(hl:PE X l tl):PI X tg l (iList X.K tl):=by
 try constructor
 intro pins s σ H R I h
 refine thn (hl pins s σ H _ I h) fun v s1 ⟨x,H1,I1,r1,q1⟩=>?_
 obtain⟨a,e,⟨xs,hq⟩,q⟩:=q1
 subst e
 cases r1
 obtain⟨its,rv,p,hz⟩:=I1.list hq
 refine wpAny_pyIter_list p.isList ?_
 refine⟨s1.heap.objs.size,[s1.heap.objs.size],_,_,H1,rfl,I1.kept (t':=s1.toks) fun b o e=>Aq _ e,f98 a _,⟨_,DJ _ rfl,rfl,rfl⟩,fun b hb=>?_,q⟩
 have e:b=s1.heap.objs.size:=by simpa using hb
 subst e
 exact I1.fpOk (AZ _) (I1.hok.fresh (AZ _))
theorem e98 {l:Expr}{tl:TE}(hl:PE X l tl):PI X tg l (iTup X.K tl):=by
 try constructor
 intro pins s σ H R I h
 refine thn (hl pins s σ H _ I h) fun v s1 ⟨x,H1,I1,r1,q1⟩=>?_
 obtain⟨a,e,⟨xs,hq⟩,q⟩:=q1
 subst e
 cases r1
 obtain⟨its,rv,p,hz⟩:=I1.tuple hq
 refine wpAny_pyIter_tuple (show s1.heap.IsTuple a its.toArray from p) ?_
 refine⟨s1.heap.objs.size,[s1.heap.objs.size],_,_,H1,rfl,I1.kept (t':=s1.toks) fun b o e=>Aq _ e,f45 a _,⟨_,DJ _ rfl,rfl,rfl⟩,fun b hb=>?_,q⟩
 have e:b=s1.heap.objs.size:=by simpa using hb
 subst e
 exact I1.fpOk (AZ _) (I1.hok.fresh (AZ _))
theorem range_it {pins:List (Addr×Obj)}{σ:St}{H:Hp}{s:Shared}{R:It->Hp->Prop}{E:Value->Shared->Prop}{lo hi:Int}{t u v:Tok}{tk:Nat}(I:Inv X pins σ H s)(h1:-(2 ^ 62)<=lo)(h2:lo < 2 ^ 62)(h3:-(2 ^ 62)<=hi)(h4:hi < 2 ^ 62)
 (q:R (Itr lo (hi-lo).toNat) H):wpAny (model X.prog X.w) X.A (pyIter (.ref s.heap.objs.size)) (PIE X pins σ tg R) E { s with heap:=s.heap.push { cls:=.type "range", data:=.fields #[.int lo t,.int hi u,.int 1 v] },toks:=tk }:=by
 refine wpAny_pyIter_range (IsRange.new ..) (small_one h1 h2 h3 h4) ?_
 have I1:Inv X pins σ H { s with heap:=s.heap.push { cls:=.type "range", data:=.fields #[.int lo t,.int hi u,.int 1 v] },toks:=tk }:=I.kept fun b o e=>Aq _ e
 refine⟨(s.heap.push { cls:=.type "range", data:=.fields #[.int lo t,.int hi u,.int 1 v] }).objs.size,[(s.heap.push { cls:=.type "range", data:=.fields #[.int lo t,.int hi u,.int 1 v] }).objs.size],_,_,H,rfl,
  I1.kept (t':=tk) fun b o e=>Aq _ e,f48 _ lo (hi-lo).toNat,?_,fun b hb=>?_,q⟩
 ·have e1:lo+((0:Nat):Int) * 1=lo:=by simp
  have e2:(((hi-lo).toNat:Nat):Int)-((0:Nat):Int)=Builtin.Range.rangeSize lo hi 1:=by rw[rangeSize_one];split <;> omega
  show IsRangeIter _ _ (lo+((0:Nat):Int) * 1) ((((hi-lo).toNat:Nat):Int)-((0:Nat):Int)) 1
  rw[e1,e2]
  exact DJ _ rfl
 ·have e:b=(s.heap.push { cls:=.type "range", data:=.fields #[.int lo t,.int hi u,.int 1 v] }).objs.size:=by simpa using hb
  subst e
  exact I1.fpOk (AZ _) (I1.hok.fresh (AZ _))
def iRng1 (ta:TA):TI:=fun σ H R=>ta σ H fun vs H1=>∃ j:Int,vs=[.int j]/\-(2 ^ 62)<=j/\j < 2 ^ 62/\R (Itr 0 j.toNat) H1
theorem b34 {a:Expr}{ta:TA}{p pos:Pos}(hg:Gl X "range")(hm:X.mg "range" = none)(ha:PA X [a] ta)(hs:starEach [a] X.env=[(false,eval a X.env)]:=by rfl):PI X tg (.Call (.Name "range" p) [a] [] pos) (iRng1 ta):=by
 try constructor
 intro pins s σ H R I h
 refine Call_ (c64 I hg hm boot_range (PyProof.Rows.callWith_type1 (thn (ha pos pins s σ H _ I h) fun us s1 ⟨vs,H1,I1,r1,q1⟩=>?_) hs rfl))
 obtain⟨j,e,q1,q2,q⟩:=q1
 subst e
 cases r1 with
 | cons r rr =>
  cases rr
  obtain⟨t,rfl⟩:=r
  exact call_range_1 (range_it I1 (by omega) (by omega) q1 q2 (by simpa using q))
def tFor (wi:TI)(g:TG)(tb:TS):TS:=fun D σ H=>wi σ H fun J H1=>∃ W:Nat->Nat->St->Hp->Prop,(∃ m,W 0 m σ H1)/\∀ i m σ H,W i m σ H ->
 (J.stop i H/\D.nx σ H)∨(J.go i H/\∃ N:St->Hp->Prop,(∀ σ' H',N σ' H'->∃ m',m' < m/\W (i+1) m' σ' H')/\∀ x H',J.yld i H x H'->g x σ H' fun σ2 H2=>tb { D with nx:=N,ct:=N,bk:=D.nx } σ2 H2)
def f04 (fp:List Addr)(h:Heap):List (Addr×Obj):=fp.filterMap fun b=>(h.get? b).map fun o=>(b,o)
theorem a65 {fp:List Addr}{h:Heap}{b:Addr}{o:Obj}(hb:b∈fp)(e:h.get? b=some o):(b,o)∈f04 fp h:=List.mem_filterMap.mpr ⟨b,hb,by rw[e];rfl⟩
theorem f93 {fp:List Addr}{h:Heap}{p:Addr×Obj}(hp:p∈f04 fp h):p.1∈fp/\h.get? p.1=some p.2:=by
 obtain⟨b,hb,e⟩:=List.mem_filterMap.mp hp
 cases q:h.get? b with
 | none=>rw[q] at e;cases e
 | some o =>
  rw[q] at e
  have e':(b,o)=p:=EJ e
  subst e'
  exact⟨hb,q⟩
theorem Inv.pinned {pins:List (Addr×Obj)}{σ:St}{H:Hp}{s:Shared}{fp:List Addr}(I:Inv X pins σ H s)(hf:∀ b∈fp,f66 X pins H b)(ho:∀ b∈fp,∃ o,s.heap.get? b=some o/\∀ v,o.data≠.cell v):Inv X (pins++f04 fp s.heap) σ H s :=
 I.pins_of fun p hp=>(Bq.mp hp).elim (fun z=>I.pin p (List.mem_append_right _ z)) fun z=>by
  obtain⟨hb,e⟩:=f93 z
  obtain⟨f0,f1,f2,_⟩:=hf p.1 hb
  obtain⟨o,e',d⟩:=ho p.1 hb
  rw[e] at e';cases e'
  exact⟨e,f0,f1,f2,d⟩
theorem Inv.unpinned {pins pl:List (Addr×Obj)}{σ:St}{H:Hp}{s:Shared}(I:Inv X (pins++pl) σ H s):Inv X pins σ H s:=I.pins_of fun p hp=>I.pin p (List.mem_append_right _ (List.mem_append_left _ hp))
theorem d05 {iter:Expr}{body:List Stmt}{wi:TI}{g:TG}{tb:TS}{pos:Pos}(hp:PassesOwn (model X.prog X.w) X.A X.env X.xe)(hc:X.calm=true)(hi:PI X tg iter wi)(hg:PG X tg g)(hb:PSs X body tb)
 (hs:∀ x,foldedSetIterable iter X.env x=pure x:=by intro _;rfl):PS X (.For tg iter body [] pos) (tFor wi g tb):=by
 try constructor
 intro pins s σ H D I h
 refine wpAny_For (thn (hi pins s σ H _ I h) fun v s1 h1=>thn h1 fun itv s2 h2=>?_) hs
 obtain⟨it,fp,tn,J,H2,e,I2,T,st2,f2,W,⟨m0,w0⟩,turn⟩:=h2
 subst e
 have stat:∀ {H':Hp},(∀ b∈fp,H' b=none)->∀ b∈fp,f66 X pins H' b:=fun hn b hb=>⟨hn b hb,(f2 b hb).2⟩
 refine codeAny_forLoop_any (fun n s'=>∃ i σ' H',Inv X pins σ' H' s'/\tn i s'.heap/\(∀ b∈fp,H' b=none)/\W i n σ' H') ?_ m0 ⟨0,σ,H2,I2,st2,fun b hb=>(f2 b hb).1,w0⟩
 rintro n s3 ⟨i,σ3,H3,I3,st3,fr3,w3⟩
 rcases turn i n σ3 H3 w3 with⟨stop,qn⟩ | ⟨go,N,hN,step⟩
 ·refine wpAny_passesOwn hp (thn (T.done X rfl rfl rfl hc i pins s3 σ3 H3 X.xe I3 (stat fr3) st3 stop) fun r s4 ⟨hr,I4⟩=>?_)
  subst hr
  exact wpAny_execs_nil ⟨σ3,H3,I4,qn⟩
 ·refine wpAny_passesOwn hp (thn (T.item X rfl rfl rfl hc i pins s3 σ3 H3 X.xe I3 (stat fr3) st3 go) fun r s4 ⟨u,hr,h4⟩=>?_)
  subst hr
  refine wpAny_passesOwn hp (thn h4 fun _ s5 ⟨x,H5,I5,r5,y5,st5,fr5⟩=>?_)
  have I5':=I5.pinned (stat fr5) (T.obj _ _ st5)
  refine wpAny_passesOwn hp (thn (hg _ s5 σ3 H5 x u _ I5' r5 (step x H5 y5)) fun _ s6 ⟨σ6,H6,I6,q6⟩=>?_)
  refine wpAny_passesOwn hp (thn (hb _ s6 σ6 H6 _ I6 q6) fun f s7 q7=>?_)
  have again:∀ {σ7:St}{H7:Hp},Inv X (pins++f04 fp s5.heap) σ7 H7 s7->N σ7 H7->∃ m,m < n/\∃ i σ' H',Inv X pins σ' H' s7/\tn i s7.heap/\(∀ b∈fp,H' b=none)/\W i m σ' H':=fun {σ7 H7} I7 n7=>by
   obtain⟨m',hm,w7⟩:=hN σ7 H7 n7
   refine⟨m',hm,i+1,σ7,H7,I7.unpinned,T.keep _ _ _ st5 fun b hb o e=>(I7.pin (b,o) (List.mem_append_right _ (List.mem_append_right _ (a65 hb e)))).1,fun b hb=>?_,w7⟩
   obtain⟨o,e,d⟩:=T.obj _ _ st5 b hb
   exact(I7.pin (b,o) (List.mem_append_right _ (List.mem_append_right _ (a65 hb e)))).2.1
  cases f with
  | next=>obtain⟨σ7,H7,I7,n7⟩:=q7;exact again I7 n7
  | cont=>obtain⟨σ7,H7,I7,n7⟩:=q7;exact again I7 n7
  | brk=>obtain⟨σ7,H7,I7,q7⟩:=q7;exact⟨σ7,H7,I7.unpinned,q7⟩
  | ret v=>obtain⟨x7,σ7,H7,I7,r7,q7⟩:=q7;exact⟨x7,σ7,H7,I7.unpinned,r7,q7⟩
end
theorem d66 {K:PySem.W.Frag}{a:Addr}{xs:List V}{g:TG}{tb:TS}{D:Ends}{σ:St}{H:Hp} (Pv:Nat->St->Hp->Prop)(h0:Pv 0 σ H)(hl:∀ i σ H,i<=xs.length->Pv i σ H->SqL K H a xs)
 (hs:∀ i x σ H,xs[i]?=some x->Pv i σ H->g x σ H fun σ2 H2=>tb { D with nx:=Pv (i+1),ct:=Pv (i+1),bk:=D.nx } σ2 H2)(hd:∀ σ H,Pv xs.length σ H->D.nx σ H) :
 ∃ W:Nat->Nat->St->Hp->Prop,(∃ m,W 0 m σ H)/\∀ i m σ H,W i m σ H ->
  ((Itl K a).stop i H/\D.nx σ H)∨((Itl K a).go i H/\∃ N:St->Hp->Prop,(∀ σ' H',N σ' H'->∃ m',m' < m/\W (i+1) m' σ' H')/\∀ x H',(Itl K a).yld i H x H'->g x σ H' fun σ2 H2=>tb { D with nx:=N,ct:=N,bk:=D.nx } σ2 H2):=by
 refine⟨fun i m σ H=>m=xs.length-i/\i<=xs.length/\Pv i σ H,⟨xs.length,by simp,FJ _,h0⟩,?_⟩
 rintro i m σ H ⟨rfl,hi,p⟩
 have q:=hl i σ H hi p
 by_cases hlt:i < xs.length
 ·refine .inr ⟨⟨xs,xs[i],q,by simp[hlt]⟩,Pv (i+1),fun σ' H' p'=>⟨xs.length-(i+1),by omega,rfl,hlt,p'⟩,fun x H' y=>?_⟩
  obtain⟨e,y⟩:=y
  subst e
  exact hs i x σ _ (y xs q) p
 ·have e:i=xs.length:=by omega
  subst e
  exact .inl ⟨⟨xs,q,AZ _⟩,hd σ H p⟩
theorem d03 {lo:Int}{n:Nat}{g:TG}{tb:TS}{D:Ends}{σ:St}{H:Hp} (Pv:Nat->St->Hp->Prop)(h0:Pv 0 σ H)
 (hs:∀ i σ H,i < n->Pv i σ H->g (.int (lo+i)) σ H fun σ2 H2=>tb { D with nx:=Pv (i+1),ct:=Pv (i+1),bk:=D.nx } σ2 H2)(hd:∀ σ H,Pv n σ H->D.nx σ H) :
 ∃ W:Nat->Nat->St->Hp->Prop,(∃ m,W 0 m σ H)/\∀ i m σ H,W i m σ H ->
  ((Itr lo n).stop i H/\D.nx σ H)∨((Itr lo n).go i H/\∃ N:St->Hp->Prop,(∀ σ' H',N σ' H'->∃ m',m' < m/\W (i+1) m' σ' H')/\∀ x H',(Itr lo n).yld i H x H'->g x σ H' fun σ2 H2=>tb { D with nx:=N,ct:=N,bk:=D.nx } σ2 H2):=by
 refine⟨fun i m σ H=>m=n-i/\i<=n/\Pv i σ H,⟨n,by simp,FJ _,h0⟩,?_⟩
 rintro i m σ H ⟨rfl,hi,p⟩
 by_cases hlt:i < n
 ·refine .inr ⟨hlt,Pv (i+1),fun σ' H' p'=>⟨n-(i+1),by omega,rfl,hlt,p'⟩,fun x H' y=>?_⟩
  obtain⟨e,y⟩:=y
  subst e y
  exact hs i σ _ hlt p
 ·have e:i=n:=by omega
  subst e
  exact .inl ⟨AZ _,hd σ H p⟩
end L2
namespace L2
open PySem PySem.Spec PyProof.Rows
abbrev R2:=V->V->Hp->VK->Prop
def OpR (X:Cx) (f:Value->Value->Sem Value)(r:R2):Prop :=
 ∀(pins:List (Addr×Obj))(s:Shared)(σ:St)(H:Hp) (x y:V) (v u:Value)(Q:VK),Inv X pins σ H s->RelV x v->RelV y u->r x y H Q ->
  wpAny (model X.prog X.w) X.A (f v u) (EP X pins σ Q) X.xe s
def UnR (X:Cx) (f:Value->Sem Value) (r:V->Hp->VK->Prop):Prop :=
 ∀(pins:List (Addr×Obj))(s:Shared)(σ:St)(H:Hp) (x:V) (v:Value)(Q:VK),Inv X pins σ H s->RelV x v->r x H Q ->
  wpAny (model X.prog X.w) X.A (f v) (EP X pins σ Q) X.xe s
def CallR (X:Cx) (f:Value) (r:List V->Hp->VK->Prop):Prop :=
 ∀(pins:List (Addr×Obj))(s:Shared)(σ:St)(H:Hp) (xs:List V) (us:List Value)(Q:VK),Inv X pins σ H s->Vals xs us->r xs H Q ->
  wpAny (model X.prog X.w) X.A (call f us) (EP X pins σ Q) X.xe s
def tOp (r:R2)(ta tb:TE):TE:=fun σ H Q=>ta σ H fun x H1=>tb σ H1 fun y H2=>r x y H2 Q
def tUn (r:V->Hp->VK->Prop)(ta:TE):TE:=fun σ H Q=>ta σ H fun x H1=>r x H1 Q
def rI (C:Int->Int->Prop) (g:Int->Int->V):R2:=fun x y H Q=>∃ i j,x=.int i/\y=.int j/\C i j/\Q (g i j) H
def rI0 (g:Int->Int->V):R2:=fun x y H Q=>∃ i j,x=.int i/\y=.int j/\Q (g i j) H
def rU (g:Int->V):V->Hp->VK->Prop:=fun x H Q=>∃ i,x=.int i/\Q (g i) H
section
variable {X:Cx}{a b c:Expr}{ta tb tc:TE}{pos:Pos}
theorem binT (ha:PE X a ta)(hb:PE X b tb){pins:List (Addr×Obj)}{s:Shared}{σ:St}{H:Hp}{R:V->V->Hp->Prop}(I:Inv X pins σ H s)
 (h:ta σ H fun x H1=>tb σ H1 fun y H2=>R x y H2){Q:Value->Shared->Prop}{f:Value->Value->Sem Value}
 (hf:∀ v u s2 x y H2,Inv X pins σ H2 s2->RelV x v->RelV y u->R x y H2->wpAny (model X.prog X.w) X.A (f v u) Q X.xe s2) :
 wpAny (model X.prog X.w) X.A (eval a X.env) (fun v s₁=>wpAny (model X.prog X.w) X.A (eval b X.env) (fun u s₂=>wpAny (model X.prog X.w) X.A (f v u) Q X.xe s₂) X.xe s₁) X.xe s:=by
 refine thn (ha pins s σ H _ I h) fun v s1 ⟨x,H1,I1,r1,q1⟩=>?_
 refine thn (hb pins s1 σ H1 _ I1 q1) fun u s2 ⟨y,H2,I2,r2,q2⟩=>?_
 exact hf v u s2 x y H2 I2 r1 r2 q2
theorem a54 {op:Operator}{r:R2}(ho:OpR X (binaryOp op) r)(ha:PE X a ta)(hb:PE X b tb):PE X (.BinOp a op b pos) (tOp r ta tb):=by
 try constructor
 intro pins s σ H Q I h
 exact wpAny_BinOp (binT ha hb I h fun v u s2 x y H2 I2 rx ry q=>ho pins s2 σ H2 x y v u Q I2 rx ry q)
theorem i39 {op:UnaryOp}{r:V->Hp->VK->Prop}(ho:UnR X (unaryOp op) r)(ha:PE X a ta):PE X (.UnaryOp op a pos) (tUn r ta):=by
 try constructor
 intro pins s σ H Q I h
 exact UnaryOp_ (thn (ha pins s σ H _ I h) fun v s1 ⟨x,H1,I1,r1,q1⟩=>ho pins s1 σ H1 x v Q I1 r1 q1)
theorem opI {f:Value->Value->Sem Value}{C:Int->Int->Prop}{g:Int->Int->Int}
 (rule:∀(i j:Int)(t u:Tok)(s:Shared) (Q:Value->Shared->Prop) (E:Value->Shared->Prop),C i j->Q (.int (g i j) s.toks) { s with toks:=s.toks+1 }->wpAny (model X.prog X.w) X.A (f (.int i t) (.int j u)) Q E s) :
 OpR X f (rI C fun i j=>.int (g i j)):=by
 try constructor
 intro pins s σ H x y v u Q I rx ry h
 obtain⟨i,j,rfl,rfl,hc,q⟩:=h
 obtain⟨t,rfl⟩:=rx
 obtain⟨t',rfl⟩:=ry
 exact rule i j t t' s _ _ hc ⟨.int (g i j),H,I.tok _,⟨_,rfl⟩,q⟩
theorem opI0 {f:Value->Value->Sem Value}{g:Int->Int->Int}
 (rule:∀(i j:Int)(t u:Tok)(s:Shared) (Q:Value->Shared->Prop) (E:Value->Shared->Prop),Q (.int (g i j) s.toks) { s with toks:=s.toks+1 }->wpAny (model X.prog X.w) X.A (f (.int i t) (.int j u)) Q E s) :
 OpR X f (rI0 fun i j=>.int (g i j)):=by
 try constructor
 intro pins s σ H x y v u Q I rx ry h
 obtain⟨i,j,rfl,rfl,q⟩:=h
 obtain⟨t,rfl⟩:=rx
 obtain⟨t',rfl⟩:=ry
 exact rule i j t t' s _ _ ⟨.int (g i j),H,I.tok _,⟨_,rfl⟩,q⟩
theorem opB0 {f:Value->Value->Sem Value}{g:Int->Int->Bool}
 (rule:∀(i j:Int)(t u:Tok)(s:Shared) (Q:Value->Shared->Prop) (E:Value->Shared->Prop),Q (.bool (g i j)) s->wpAny (model X.prog X.w) X.A (f (.int i t) (.int j u)) Q E s) :
 OpR X f (rI0 fun i j=>.bl (g i j)):=by
 try constructor
 intro pins s σ H x y v u Q I rx ry h
 obtain⟨i,j,rfl,rfl,q⟩:=h
 obtain⟨t,rfl⟩:=rx
 obtain⟨t',rfl⟩:=ry
 exact rule i j t t' s _ _ ⟨.bl (g i j),H,I,rfl,q⟩
def CDiv (i j:Int):Prop:=0 < j/\j < 1073741824
def CPow (i j:Int):Prop:=0<=j/\j<=1000000/\i.natAbs < 2 ^ 64
def CMul (i j:Int):Prop:=(-(2 ^ 64) < i/\i < 2 ^ 64)∨(-(2 ^ 64) < j/\j < 2 ^ 64)
theorem CMul.ok {i j:Int}(h:CMul i j):IntMulOk i j:=by
 rcases h with⟨h1,h2⟩ | ⟨h1,h2⟩
 ·exact .of_left (intBits_le_64 h1 h2)
 ·exact .of_right (intBits_le_64 h1 h2)
theorem b02:OpR X (binaryOp .Add) (rI0 fun i j=>.int (i+j)):=opI0 fun _ _ _ _ _ _ _ q=>add_int q
theorem e87:OpR X (binaryOp .Sub) (rI0 fun i j=>.int (i-j)):=opI0 fun _ _ _ _ _ _ _ q=>sub_int q
theorem c63:OpR X (binaryOp .Mult) (rI CMul fun i j=>.int (i * j)):=opI fun _ _ _ _ _ _ _ hc q=>mul_int q hc.ok
theorem d69:OpR X (binaryOp .FloorDiv) (rI CDiv fun i j=>.int (i / j)):=opI fun i j _ _ _ _ _ hc q=>by
 have h1:(0:Int) < j:=hc.1
 have h2:j < 1073741824:=hc.2
 exact floordiv_int (by omega) (by rw[Int.fdiv_eq_ediv_of_nonneg i (by omega)];exact q) (.inl (PyProof.noPylong_small (by omega)))
theorem b59:OpR X (binaryOp .Mod) (rI (fun _ j=>0 < j) fun i j=>.int (i % j)):=opI fun i j _ _ _ _ _ hc q=>by
 have h1:(0:Int) < j:=hc
 exact mod_int' (by omega) (by rw[Int.fmod_eq_emod_of_nonneg i (by omega)];exact q)
theorem j16:OpR X (binaryOp .Pow) (rI CPow fun i j=>.int (i ^ j.toNat)):=opI fun _ _ _ _ _ _ _ hc q=>pow_int_small hc.1 hc.2.1 hc.2.2 q
theorem unI {f:Value->Sem Value}{g:Int->Int}
 (rule:∀(i:Int)(t:Tok)(s:Shared) (Q:Value->Shared->Prop) (E:Value->Shared->Prop),Q (.int (g i) s.toks) { s with toks:=s.toks+1 }->wpAny (model X.prog X.w) X.A (f (.int i t)) Q E s) :
 UnR X f (rU fun i=>.int (g i)):=by
 try constructor
 intro pins s σ H x v Q I rx h
 obtain⟨i,rfl,q⟩:=h
 obtain⟨t,rfl⟩:=rx
 exact rule i t s _ _ ⟨.int (g i),H,I.tok _,⟨_,rfl⟩,q⟩
theorem g22:UnR X (unaryOp .USub) (rU fun i=>.int (-i)):=unI fun _ _ _ _ _ q=>neg_int q
end
def scal:V->V->Bool
 | .non,.non=>true | .non,.int _=>true | .int _,.non=>true | .non,.bl _=>true | .bl _,.non=>true | .non,.str _=>true | .str _,.non=>true
 | .int _,.int _=>true | .bl _,.bl _=>true | .str _,.str _=>true | .byt _,.byt _=>true
 | .int _,.str _=>true | .str _,.int _=>true | .bl _,.str _=>true | .str _,.bl _=>true
 | _,_=>false
def rEq:R2:=fun x y H Q=>scal x y=true/\Q (.bl (decide (x=y))) H
def rNe:R2:=fun x y H Q=>scal x y=true/\Q (.bl (!decide (x=y))) H
theorem g21 {i j:Int}:decide (V.int i=V.int j)=(i == j):=by
 rw[Bool.eq_iff_iff]
 simp
theorem h76 {i j:Bool}:decide (V.bl i=V.bl j)=(i == j):=by
 rw[Bool.eq_iff_iff]
 simp
theorem g73 {i j:Str}:decide (V.str i=V.str j)=(i == j):=by
 rw[Bool.eq_iff_iff]
 simp
theorem f74 {i j:Array UInt8}:decide (V.byt i=V.byt j)=(i.toList == j.toList):=by
 rw[Bool.eq_iff_iff]
 cases i
 cases j
 simp
section
variable {X:Cx}{a b c:Expr}{ta tb tc:TE}{pos:Pos}
theorem a55 {pins:List (Addr×Obj)}{σ:St}{H:Hp}{s:Shared}{Q:VK}{k k':Bool}(I:Inv X pins σ H s)(q:Q (.bl k) H)(e:k=k'):EP X pins σ Q (.bool k') s:=by
 subst e
 exact⟨.bl k,H,I,rfl,q⟩
theorem b07:OpR X (compareOp .Eq) rEq:=by
 try constructor
 intro pins s σ H x y v u Q I rx ry h
 obtain⟨hs,q⟩:=h
 cases x with
 | non =>
  cases rx
  cases y with
  | non=>cases ry;exact PySem.EqNone.eq_none_none (a55 I q (by simp))
  | bl j=>cases ry;exact PySem.EqNone.eq_none_bool (a55 I q (by simp))
  | int j=>obtain⟨t',rfl⟩:=ry;exact PySem.EqNone.eq_none_int (a55 I q (by simp))
  | str j=>obtain⟨t',rfl⟩:=ry;exact PySem.EqNone.eq_none_str (a55 I q (by simp))
  | _=>exact absurd (show false=true from hs) Fx
 | bl i =>
  cases rx
  cases y with
  | non=>cases ry;exact PySem.EqNone.eq_bool_none (a55 I q (by simp))
  | bl j=>cases ry;exact eq_bool (a55 I q h76)
  | str j=>obtain⟨t',rfl⟩:=ry;exact PySem.EqMixed.eq_bool_str (a55 I q (by simp))
  | _=>exact absurd (show false=true from hs) Fx
 | int i =>
  obtain⟨t,rfl⟩:=rx
  cases y with
  | non=>cases ry;exact PySem.EqNone.eq_int_none (a55 I q (by simp))
  | int j=>obtain⟨t',rfl⟩:=ry;exact eq_int (a55 I q g21)
  | str j=>obtain⟨t',rfl⟩:=ry;exact PySem.EqMixed.eq_int_str (a55 I q (by simp))
  | _=>exact absurd (show false=true from hs) Fx
 | str i =>
  obtain⟨t,rfl⟩:=rx
  cases y with
  | non=>cases ry;exact PySem.EqNone.eq_str_none (a55 I q (by simp))
  | bl j=>cases ry;exact PySem.EqMixed.eq_str_bool (a55 I q (by simp))
  | int j=>obtain⟨t',rfl⟩:=ry;exact PySem.EqMixed.eq_str_int (a55 I q (by simp))
  | str j=>obtain⟨t',rfl⟩:=ry;exact eq_str (a55 I q g73)
  | _=>exact absurd (show false=true from hs) Fx
 | byt i =>
  obtain⟨t,rfl⟩:=rx
  cases y with
  | byt j=>obtain⟨t',rfl⟩:=ry;exact PySem.W.eq_bytes (a55 I q f74)
  | _=>exact absurd (show false=true from hs) Fx
 | _=>cases y <;> exact absurd (show false=true from hs) Fx
theorem c96:OpR X (compareOp .NotEq) rNe:=by
 try constructor
 intro pins s σ H x y v u Q I rx ry h
 obtain⟨hs,q⟩:=h
 cases x with
 | non =>
  cases rx
  cases y with
  | non=>cases ry;exact PySem.EqNone.ne_none_none (a55 I q (by simp))
  | bl j=>cases ry;exact PySem.EqNone.ne_none_bool (a55 I q (by simp))
  | int j=>obtain⟨t',rfl⟩:=ry;exact PySem.EqNone.ne_none_int (a55 I q (by simp))
  | str j=>obtain⟨t',rfl⟩:=ry;exact PySem.EqNone.ne_none_str (a55 I q (by simp))
  | _=>exact absurd (show false=true from hs) Fx
 | bl i =>
  cases rx
  cases y with
  | non=>cases ry;exact PySem.EqNone.ne_bool_none (a55 I q (by simp))
  | bl j=>cases ry;exact ne_bool (a55 I q (congrArg not h76))
  | str j=>obtain⟨t',rfl⟩:=ry;exact PySem.EqMixed.ne_bool_str (a55 I q (by simp))
  | _=>exact absurd (show false=true from hs) Fx
 | int i =>
  obtain⟨t,rfl⟩:=rx
  cases y with
  | non=>cases ry;exact PySem.EqNone.ne_int_none (a55 I q (by simp))
  | int j=>obtain⟨t',rfl⟩:=ry;exact ne_int (a55 I q (congrArg not g21))
  | str j=>obtain⟨t',rfl⟩:=ry;exact PySem.EqMixed.ne_int_str (a55 I q (by simp))
  | _=>exact absurd (show false=true from hs) Fx
 | str i =>
  obtain⟨t,rfl⟩:=rx
  cases y with
  | non=>cases ry;exact PySem.EqNone.ne_str_none (a55 I q (by simp))
  | bl j=>cases ry;exact PySem.EqMixed.ne_str_bool (a55 I q (by simp))
  | int j=>obtain⟨t',rfl⟩:=ry;exact PySem.EqMixed.ne_str_int (a55 I q (by simp))
  | str j=>obtain⟨t',rfl⟩:=ry;exact ne_str (a55 I q (congrArg not g73))
  | _=>exact absurd (show false=true from hs) Fx
 | byt i =>
  obtain⟨t,rfl⟩:=rx
  cases y with
  | byt j=>obtain⟨t',rfl⟩:=ry;exact PySem.W.ne_bytes (a55 I q (congrArg not f74))
  | _=>exact absurd (show false=true from hs) Fx
 | _=>cases y <;> exact absurd (show false=true from hs) Fx
theorem e60:OpR X (compareOp .Lt) (rI0 fun i j=>.bl (decide (i < j))):=opB0 fun _ _ _ _ _ _ _ q=>lt_int q
theorem h99:OpR X (compareOp .LtE) (rI0 fun i j=>.bl (decide (i<=j))):=opB0 fun _ _ _ _ _ _ _ q=>le_int q
theorem d84:OpR X (compareOp .Gt) (rI0 fun i j=>.bl (decide (j < i))):=opB0 fun _ _ _ _ _ _ _ q=>gt_int q
theorem i63:OpR X (compareOp .GtE) (rI0 fun i j=>.bl (decide (j<=i))):=opB0 fun _ _ _ _ _ _ _ q=>ge_int q
theorem d99:OpR X (compareOp .In) (fun x y H Q=>∃ i j,x=.str i/\y=.str j/\Q (.bl (!(Builtin.Str.occurrences j i 0 j.length 1).isEmpty)) H):=by
 try constructor
 intro pins s σ H x y v u Q I rx ry h
 obtain⟨i,j,rfl,rfl,q⟩:=h
 obtain⟨t,rfl⟩:=rx
 obtain⟨t',rfl⟩:=ry
 exact in_str (a55 I q rfl)
theorem j04:OpR X (compareOp .Is) (fun x y H Q=>y=.non/\Q (.bl (decide (x=.non))) H):=by
 try constructor
 intro pins s σ H x y v u Q I rx ry h
 obtain⟨rfl,q⟩:=h
 cases ry
 refine is_none_gen (a55 I q ?_)
 cases x <;> first
  | (cases rx;rfl)
  | (obtain⟨t,rfl⟩:=rx;rfl)
theorem d56:OpR X (compareOp .IsNot) (fun x y H Q=>y=.non/\Q (.bl (!decide (x=.non))) H):=by
 try constructor
 intro pins s σ H x y v u Q I rx ry h
 obtain⟨rfl,q⟩:=h
 cases ry
 refine isnot_none_gen (a55 I q ?_)
 cases x <;> first
  | (cases rx;rfl)
  | (obtain⟨t,rfl⟩:=rx;rfl)
theorem OpR.or {f:Value->Value->Sem Value}{r r':R2}(h:OpR X f r)(h':OpR X f r'):OpR X f (fun x y H Q=>r x y H Q∨r' x y H Q):=by
 try constructor
 intro pins s σ H x y v u Q I rx ry q
 rcases q with q | q
 ·exact h pins s σ H x y v u Q I rx ry q
 ·exact h' pins s σ H x y v u Q I rx ry q
theorem a38 (b:Expr){op:CmpOp}(h:op≠.In:=by decide)(h2:op≠.NotIn:=by decide):behindInMarks op b=false:=by
 have e1:(op == CmpOp.In)=false:=by cases op <;> first | rfl | exact absurd rfl h
 have e2:(op == CmpOp.NotIn)=false:=by cases op <;> first | rfl | exact absurd rfl h2
 cases b <;> simp[behindInMarks,e1,e2]
theorem b14 {op:CmpOp}{r:R2}(ho:OpR X (compareOp op) r)(ha:PE X a ta)(hb:PE X b tb)(hm:behindInMarks op b=false):PE X (.Compare a [op] [b] pos) (tOp r ta tb):=by
 try constructor
 intro pins s σ H Q I h
 exact wpAny_Compare1 (binT ha hb I h fun v u s2 x y H2 I2 rx ry q=>ho pins s2 σ H2 x y v u Q I2 rx ry q) hm
def tTest (t:TE):TT:=fun σ H Q=>t σ H fun x H'=>∃ k,x=.bl k/\Q k H'
theorem a32 {op:CmpOp}{r:R2}(ho:OpR X (compareOp op) r)(ha:PE X a ta)(hb:PE X b tb)(hm:behindInMarks op b=false):PT X (.Compare a [op] [b] pos) (tTest (tOp r ta tb)):=by
 try constructor
 intro pins s σ H Q I h
 refine wpAny_isTrue_Compare1 (thn (ha pins s σ H _ I h) fun v s1 ⟨x,H1,I1,r1,q1⟩=>thn (hb pins s1 σ H1 _ I1 q1) fun u s2 ⟨y,H2,I2,r2,q2⟩ =>
  thn (ho pins s2 σ H2 x y v u _ I2 r1 r2 q2) fun c s3 ⟨z,H3,I3,r3,k,e,q3⟩=>?_) hm
 subst e
 cases r3
 exact wpAny_truthy_bool ⟨H3,I3,q3⟩
def j19 (r r':R2)(ta tb tc:TE):TE:=fun σ H Q=>ta σ H fun x H1=>tb σ H1 fun y H2=>r x y H2 fun z H3=>∃ k,z=.bl k /\
 (if k=true then tc σ H3 fun w' H4=>r' y w' H4 Q else Q (.bl false) H3)
theorem f06 {op op':CmpOp}{r r':R2}(ho:OpR X (compareOp op) r)(ho':OpR X (compareOp op') r')(ha:PE X a ta)(hb:PE X b tb)(hc:PE X c tc)
 (hm:lastMarks [op,op'] [b,c]=false:=by with_unfolding_all rfl):PE X (.Compare a [op,op'] [b,c] pos) (j19 r r' ta tb tc):=by
 try constructor
 intro pins s σ H Q I h
 refine Compare_chain (thn (ha pins s σ H _ I h) fun v s1 ⟨x,H1,I1,r1,q1⟩=>chain_link (thn (hb pins s1 σ H1 _ I1 q1) fun u s2 ⟨y,H2,I2,r2,q2⟩ =>
  thn (ho pins s2 σ H2 x y v u _ I2 r1 r2 q2) fun d s3 ⟨z,H3,I3,r3,k,e,q3⟩=>?_)) hm
 subst e
 cases r3
 refine wpAny_truthy_bool ?_
 cases k with
 | false=>exact ite_ff ⟨.bl false,H3,I3,rfl,q3⟩
 | true=>exact ite_tt (chain_last (thn (hc pins s3 σ H3 _ I3 q3) fun w' s4 ⟨z',H4,I4,r4,q4⟩=>ho' pins s4 σ H4 y z' u w' Q I4 r2 r4 q4))
theorem d27:(sizeLine:Nat) < 2 ^ 63:=by rw[sizeLine_eq];decide
theorem c42:OpR X (binaryOp .Add) (fun x y H Q=>∃ i j,x=.str i/\y=.str j/\i.length+j.length<=sizeLine/\Q (.str (i++j)) H):=by
 try constructor
 intro pins s σ H x y v u Q I rx ry h
 obtain⟨i,j,rfl,rfl,hz,q⟩:=h
 obtain⟨t,rfl⟩:=rx
 obtain⟨t',rfl⟩:=ry
 exact add_str (fun t' tk=>⟨.str (i++j),H,I.tok _,⟨_,rfl⟩,q⟩) hz
theorem c94 {x:V}{us:List Value}(r:Vals [x] us):∃ u,us=[u]/\RelV x u:=by
 cases r with
 | cons r1 r2=>cases r2;exact⟨_,rfl,r1⟩
theorem i72 {x y:V}{us:List Value}(r:Vals [x,y] us):∃ u w',us=[u,w']/\RelV x u/\RelV y w':=by
 cases r with
 | cons r1 r2 =>
  cases r2 with
  | cons r3 r4=>cases r4;exact⟨_,_,rfl,r1,r3⟩
theorem f29:CallR X (.builtin "abs") (fun xs H Q=>∃ i,xs=[.int i]/\Q (.int (if i < 0 then -i else i)) H):=by
 try constructor
 intro pins s σ H xs us Q I r h
 obtain⟨i,rfl,q⟩:=h
 obtain⟨u,rfl,t,rfl⟩:=c94 r
 exact call_abs_int fun u tk=>⟨.int (if i < 0 then -i else i),H,I.tok _,⟨_,rfl⟩,q⟩
theorem f68:CallR X (.type "int") (fun xs H Q=>(∃ i,xs=[.int i]/\Q (.int i) H)∨∃ k,xs=[.bl k]/\Q (.int (if k then 1 else 0)) H):=by
 try constructor
 intro pins s σ H xs us Q I r h
 rcases h with⟨i,rfl,q⟩ | ⟨k,rfl,q⟩
 ·obtain⟨u,rfl,t,rfl⟩:=c94 r
  exact call_int_int ⟨.int i,H,I,⟨_,rfl⟩,q⟩
 ·obtain⟨u,rfl,r1⟩:=c94 r
  cases r1
  exact call_int_bool ⟨.int (if k then 1 else 0),H,I.tok _,⟨_,rfl⟩,q⟩
theorem e18:CallR X (.type "str") (fun xs H Q=>∃ i,xs=[.int i]/\i.natAbs.log2 < 1920/\Q (.str (toString i)) H):=by
 try constructor
 intro pins s σ H xs us Q I r h
 obtain⟨i,rfl,hz,q⟩:=h
 obtain⟨u,rfl,t,rfl⟩:=c94 r
 exact PySem.P.str_of_int hz ⟨.str _,H,I.tok _,⟨_,rfl⟩,q⟩
theorem h00:CallR X (.builtin "ord") (fun xs H Q=>∃ x,xs=[.str x]/\x.length=1/\Q (.int (x.cps.getD 0 0:Nat)) H):=by
 try constructor
 intro pins s σ H xs us Q I r h
 obtain⟨x,rfl,hz,q⟩:=h
 obtain⟨u,rfl,t,rfl⟩:=c94 r
 exact ord_of_one hz ⟨.int _,H,I.tok _,⟨_,rfl⟩,q⟩
end
end L2
namespace L2
open PySem PySem.Spec PyProof.Rows
structure ObjM (h:Heap)(x dx C:Addr) (mA:Str->Option Value):Prop where
 obj:h.get? x=some (PySem.W.instObj C dx)
 ns:h.Ns1 dx mA
 ne:dx≠x
theorem f78 {h:Heap}{dx:Addr}{mA:Str->Option Value}(n:h.Ns1 dx mA):∃ od,h.get? dx=some od/\∀ name,PySem.W.lookIn name od=some (mA name):=by
 obtain⟨o,es,ep,ho,hd,hk,_,hm⟩:=n
 refine⟨o,ho,fun name=>?_⟩
 have e:=hm name
 unfold nsFind findBy at e
 rw[← Array.find?_toList] at e
 unfold PySem.W.lookIn
 rw[hd]
 dsimp only
 split
 ·rename_i y q
  rw[q] at e
  exact congrArg some e
 ·rename_i q
  rw[q] at e
  have a:es.toList.any (·.refKey)=false:=by
   rw[List.any_eq_false]
   intro y hy
   obtain⟨z,t,hkey⟩:=hk y (Array.mem_toList_iff.mp hy)
   simp[DictEntry.refKey,hkey]
  have a':¬ es.toList.any (·.refKey)=true:=by rw[a];exact Fx
  rw[if_neg a']
  exact congrArg some e
theorem ObjM.look {h:Heap}{x dx C:Addr}{mA:Str->Option Value}(I:ObjM h x dx C mA):∃ od,PySem.W.InstAt h x (PySem.W.instObj C dx) C (some od)/\∀ name,PySem.W.lookIn name od=some (mA name) :=
 let ⟨od,ho,hl⟩:=f78 I.ns
 ⟨od,⟨I.obj,rfl,rfl,ho⟩,hl⟩
section
variable {prog:Program}{w:World}{A:Around}{E:Value->Shared->Prop}{s:Shared}{K:PySem.W.Frag}{x dx C f:Addr}{mA:Str->Option Value}{name:Str}{v:Value}
theorem i15 {expr:Bool}{Q:Value->Shared->Prop}(X:K.In s.heap)(I:ObjM s.heap x dx C mA)(hg:PySem.W.plainGet K C name=true)(hh:PySem.W.hasDictIn K C=true)
 (ha:PySem.W.findIn K (.ref C) name=some none)(hv:mA name=some v)(hv':PySem.W.handedIn v=true)(h:Q v { s with toks:=s.toks+1 }) :
 wpAny (model prog w) A (getAttr (.ref x) name expr) Q E s:=by
 obtain⟨od,J,hl⟩:=I.look
 exact PySem.W.get_value X J (PySem.W.plainGet_of hg).1 (PySem.W.findObj_own hh ha rfl (by rw[hl,hv])) hv' h
theorem h10 {pl:Sem Bool}{Q:Value×List Value->Shared->Prop}(X:K.In s.heap)(I:ObjM s.heap x dx C mA)(hg:PySem.W.plainGet K C name=true)
 (hf:PySem.W.findIn K (.ref C) name=some (some (.ref f)))(ht:PySem.W.isFn K (.ref f)=true)(hv:mA name=none)(h:Q (.ref f,[.ref x]) s) :
 wpAny (model prog w) A (getMethod (.ref x) name pl) Q E s:=by
 obtain⟨od,J,hl⟩:=I.look
 exact PySem.W.method_fn X J (PySem.W.plainGet_of hg).1 (PySem.W.plainGet_of hg).2 hf (beq_iff_eq.mp ht) (by show(PySem.W.lookIn name od).map (·.isSome)=some false;rw[hl,hv];rfl) h
theorem i31 {ns:List Str}{Q:Unit->Shared->Prop}(X:K.In s.heap)(I:ObjM s.heap x dx C mA)
 (hs:PySem.W.findIn K (.ref C) "__setattr__" = some (some (.builtin "object.__setattr__")))(hp:PySem.W.plainOver K C=true)(ht:PySem.W.takerIn K C name=some none)(hh:PySem.W.hasDictIn K C=true)
 (hw:PySem.Within mA ns)(hsz:ns.length<=sizeLine)
 (h:∀ h',ObjM h' x dx C (fun y=>if y=name then some v else mA y)->Heap.SameBut dx s.heap h'->Q () { s with heap:=h',toks:=s.toks+2 }) :
 wpAny (model prog w) A (setAttr (.ref x) name v) Q E s:=by
 obtain⟨od,J,hl⟩:=I.look
 refine PySem.W.set_plain X J hs (PySem.W.osa_open (s:={ s with toks:=s.toks+1 }) (r:=none) X J hp ht fun b=>?_)
 obtain⟨cd,hc,hd'⟩:=PySem.W.any_some hh
 have hx:s.heap.get? x=some ⟨.ref C,some dx,.plain,#[]⟩:=I.obj
 refine AQ (AX (AQ (AQ (wpAny_loadPart hx (AQ (PySem.W.Looks.here (s:={ s with toks:=s.toks+1 }) (PySem.W.looks_clsIn X hc) ?_))))))
 rw[hd']
 refine AX (a:=some dx) (AQ (AX (AQ ?_)))
 refine wpAny_nsSet1 (s:={ s with toks:=s.toks+1 }) I.ns fun h' hn2 hs2=>?_
 obtain⟨oD,esD,epD,hoD,hdD,hcD⟩:=hn2.count (PySem.Within.cons name v hw)
 refine AQ (wpAny_lookBehind hoD (by rw[hdD];exact pastItsLine_dict (FQ hcD (by rw[Cz];omega))) ?_)
 exact AX (h _ ⟨(hs2.2 _ (Ne.symm I.ne)).trans I.obj,hn2,I.ne⟩ hs2)
theorem h53 {R:Result->Shared->Prop}{vs:List Value}{kw:List (Str×Value)}(X:K.In s.heap)(hm:PySem.W.makesIn K C=true)
 (hi:PySem.W.findIn K (.ref C) "__init__" = some (some (.ref f)))(hf:PySem.W.typeIn K (.ref f)=some (.type "function"))
 (h:codeAny (model prog w) (A.under (.builtin "type.__call__" ⟨.ref C::vs,kw⟩)) (.call (.ref f) ⟨.ref (s.heap.objs.size+1)::vs,kw⟩) (PySem.W.InitBack (s.heap.objs.size+1) R)
   { s with heap:=(s.heap.push PySem.W.emptyDict).push (PySem.W.instObj C s.heap.objs.size) }) :
 codeAny (model prog w) A (.call (.ref C) ⟨vs,kw⟩) R s:=by
 obtain⟨hh,g,d,t,os⟩:=s
 exact PySem.W.make_core (PySem.W.makes_of X hm) (PySem.W.looks_findIn X hi) (fun self=>PySem.W.bind_fn X self hf) (.inl rfl) h
end
def a51 (f:Str) (v:V):List (Str×V)->List (Str×V)
 | []=>[(f,v)]
 | (g,x)::r=>if g=f then(g,v)::r else(g,x)::a51 f v r
theorem a94 (f g:Str) (v:V):∀ fs:List (Str×V),(a51 f v fs).lookup g=if g=f then some v else fs.lookup g
 | []=>by
  show List.lookup g [(f,v)]=_
  by_cases h:g=f
  ·have hb:(g == f)=true:=beq_iff_eq.mpr h
   simp only[List.lookup,hb,if_pos h]
  ·have hb:(g == f)=false:=beq_eq_false_iff_ne.mpr h
   simp only[List.lookup,hb,if_neg h]
 | (k,x)::r=>by
  have ih:=a94 f g v r
  rw[show a51 f v ((k,x)::r)=(if k=f then(k,v)::r else(k,x)::a51 f v r) from rfl]
  by_cases hk:k=f
  ·rw[if_pos hk]
   by_cases h:g=k
   ·have hb:(g == k)=true:=beq_iff_eq.mpr h
    simp only[List.lookup,hb,if_pos (h.trans hk)]
   ·have hb:(g == k)=false:=beq_eq_false_iff_ne.mpr h
    simp only[List.lookup,hb,if_neg (fun e:g=f=>h (e.trans hk.symm))]
  ·rw[if_neg hk]
   by_cases h:g=k
   ·have hb:(g == k)=true:=beq_iff_eq.mpr h
    simp only[List.lookup,hb,if_neg (fun e:g=f=>hk (h.symm.trans e))]
   ·have hb:(g == k)=false:=beq_eq_false_iff_ne.mpr h
    simp only[List.lookup,hb]
    exact ih
theorem d06 (f:Str) (v:V):∀ fs:List (Str×V),f∈(a51 f v fs).map (·.1)/\∀ g,g∈fs.map (·.1)->g∈(a51 f v fs).map (·.1)
 | []=>⟨by simp[a51],fun g h=>by simp at h⟩
 | (k,x)::r=>by
  obtain⟨i1,i2⟩:=d06 f v r
  rw[show a51 f v ((k,x)::r)=(if k=f then(k,v)::r else(k,x)::a51 f v r) from rfl]
  by_cases hk:k=f
  ·rw[if_pos hk]
   subst hk
   exact⟨by simp,fun g h=>by simpa using h⟩
  ·rw[if_neg hk]
   refine⟨?_,fun g h=>?_⟩
   ·rw[CJ]
    exact BX _ i1
   ·rw[CJ] at h ⊢
    rcases Cj.mp h with e | e
    ·exact Cj.mpr (.inl e)
    ·exact BX _ (i2 g e)
theorem b89 (f:Str) (v:V):∀ fs:List (Str×V),(a51 f v fs).length<=fs.length+1
 | []=>by simp[a51]
 | (k,x)::r=>by
  have ih:=b89 f v r
  rw[show a51 f v ((k,x)::r)=(if k=f then(k,v)::r else(k,x)::a51 f v r) from rfl]
  by_cases hk:k=f
  ·rw[if_pos hk,Cz,Cz];omega
  ·rw[if_neg hk,Cz,Cz];omega
theorem RelO.some_of {v:V}{o:Option Value}(r:RelO (some v) o):∃ u,o=some u/\RelV v u:=by
 cases o with
 | none=>exact(show False from r).elim
 | some u=>exact⟨u,rfl,r⟩
theorem RelO.none_of {o:Option Value}(r:RelO none o):o=none:=by
 cases o with
 | none=>rfl
 | some u=>exact(show False from r).elim
theorem f62 {v:V}{u:Value}(r:RelV v u):PySem.W.handedIn u=true:=by
 cases v with
 | non=>cases (show u=Value.none from r);rfl
 | bl b=>cases (show u=Value.bool b from r);rfl
 | int i=>obtain⟨t,e⟩:=(show ∃ t,u=Value.int i t from r);cases e;rfl
 | str x=>obtain⟨t,e⟩:=(show ∃ t,u=Value.str x t from r);cases e;rfl
 | byt b=>obtain⟨t,e⟩:=(show ∃ t,u=Value.bytes b t from r);cases e;rfl
 | flt b=>obtain⟨t,e⟩:=(show ∃ t,u=Value.float b t from r);cases e;rfl
 | ref a=>cases (show u=Value.ref a from r);rfl
 | ty n=>cases (show u=Value.type n from r);rfl
section
variable {P:Program}{w:World}{H H':Hp}{h h':Heap}{a C dx:Addr}{fs fs':List (Str×V)}
theorem d43 (hok:HOk P w H h)(e:H a=some (.ins C dx fs)):∃ mA,ObjM h a dx C mA/\(∀ f,RelO (fs.lookup f) (mA f))/\PySem.Within mA (fs.map (·.1))/\fs.length<=1000/\H dx=some (.own a):=by
 obtain⟨d,z,ne,ob,mA,n,r,q⟩:=(show ObjOk P w H h a (.ins C dx fs) from hok a _ e)
 exact⟨mA,⟨ob,n,ne⟩,r,q,z,d⟩
end
structure Cls (K:PySem.W.Frag)(C:Addr):Prop where
 pg:PySem.W.plainGet K C Str.empty=true
 hd:PySem.W.hasDictIn K C=true
 po:PySem.W.plainOver K C=true
 sa:PySem.W.findIn K (.ref C) "__setattr__" = some (some (.builtin "object.__setattr__"))
theorem Cls.get {K:PySem.W.Frag}{C:Addr}(c:Cls K C) (f:Str):PySem.W.plainGet K C f=true:=c.pg
def NoAttr (K:PySem.W.Frag)(C:Addr) (f:Str):Prop:=PySem.W.findIn K (.ref C) f=some none
theorem NoAttr.taker {K:PySem.W.Frag}{C:Addr}{f:Str}(n:NoAttr K C f):PySem.W.takerIn K C f=some none:=by
 unfold PySem.W.takerIn
 rw[show PySem.W.findIn K (.ref C) f=some none from n]
 rfl
structure Meth (K:PySem.W.Frag)(C:Addr) (m:Str)(f:Addr):Prop where
 at_:PySem.W.findIn K (.ref C) m=some (some (.ref f))
 fn:PySem.W.isFn K (.ref f)=true
 kp:PySem.W.keepIn K (.ref f)=true
section
variable {X:Cx}{pins:List (Addr×Obj)}{σ:St}{H:Hp}{s:Shared}{a C dx:Addr}{fs:List (Str×V)}{f:Str}{v:V}{A:Around}{E:Value->Shared->Prop}
theorem f42 {b:Bool}{Q:Value->Shared->Prop}(I:Inv X pins σ H s)(e:H a=some (.ins C dx fs))(c:Cls X.K C)(n:NoAttr X.K C f)(l:fs.lookup f=some v)
 (h:∀ u s',Inv X pins σ H s'->RelV v u->Q u s'):wpAny (model X.prog X.w) A (getAttr (.ref a) f b) Q E s:=by
 obtain⟨mA,O,r,_,_,_⟩:=d43 I.hok e
 obtain⟨u,hu,ru⟩:=RelO.some_of (v:=v) (o:=mA f) (by rw[← l];exact r f)
 exact i15 I.kIn O (c.get f) c.hd n hu (f62 ru) (h u _ (I.tok _) ru)
theorem d26 {m:Str}{g:Addr}{pl:Sem Bool}{Q:Value×List Value->Shared->Prop}(I:Inv X pins σ H s)(e:H a=some (.ins C dx fs))(c:Cls X.K C)(k:Meth X.K C m g)(l:fs.lookup m=none)
 (h:Q (.ref g,[.ref a]) s):wpAny (model X.prog X.w) A (getMethod (.ref a) m pl) Q E s:=by
 obtain⟨mA,O,r,_,_,_⟩:=d43 I.hok e
 have hn:mA m=none:=RelO.none_of (by rw[← l];exact r m)
 exact h10 I.kIn O (c.get m) k.at_ k.fn hn h
theorem f46 {y:V}{u:Value}{Q:Unit->Shared->Prop}(I:Inv X pins σ H s)(e:H a=some (.ins C dx fs))(c:Cls X.K C)(n:NoAttr X.K C f)(hl:fs.length < 1000)(ry:RelV y u)
 (h:∀ s',Inv X pins σ (upd H a (.ins C dx (a51 f y fs))) s'->Q () s'):wpAny (model X.prog X.w) A (setAttr (.ref a) f u) Q E s:=by
 obtain⟨mA,O,r,wi,_,ho⟩:=d43 I.hok e
 have hz:(fs.map (·.1)).length<=sizeLine:=by rw[Aj,sizeLine_eq];omega
 refine i31 I.kIn O c.sa c.po n.taker c.hd wi hz fun h' O' sb=>h _ ?_
 have hd:∃ o,h'.get? dx=some o:=let ⟨o,_,_,e',_⟩:=O'.ns;⟨o,e'⟩
 refine I.write (x:=a) (e:=dx) (by rw[e];exact True.intro) (.inr ho) (fun b q hb z=>(sb.2 b hb).trans z) hd ?_
 refine⟨by rw[a06 O.ne];exact ho,?_,O.ne,O'.obj,_,O'.ns,fun g=>?_,fun g hg=>?_⟩
 ·have:=b89 f y fs;omega
 ·show RelO ((a51 f y fs).lookup g) (if g=f then some u else mA g)
  rw[a94]
  by_cases q:g=f
  ·rw[if_pos q,if_pos q];exact ry
  ·rw[if_neg q,if_neg q];exact r g
 ·by_cases q:g=f
  ·rw[q];exact(d06 f y fs).1
  ·refine(d06 f y fs).2 g (wi g fun z=>hg ?_)
   show(if g=f then some u else mA g)=none
   rw[if_neg q];exact z
theorem Inv.made (I:Inv X pins σ H s):Inv X pins σ (upd (upd H s.heap.objs.size (.own (s.heap.objs.size+1))) (s.heap.objs.size+1) (.ins C s.heap.objs.size []))
 { s with heap:=(s.heap.push PySem.W.emptyDict).push (PySem.W.instObj C s.heap.objs.size) }:=by
 have e1:(s.heap.push PySem.W.emptyDict).get? s.heap.objs.size=some PySem.W.emptyDict:=DJ s.heap rfl
 have e2:((s.heap.push PySem.W.emptyDict).push (PySem.W.instObj C s.heap.objs.size)).get? (s.heap.objs.size+1)=some (PySem.W.instObj C s.heap.objs.size):=by
  have:=DJ (s.heap.push PySem.W.emptyDict) (o:=PySem.W.instObj C s.heap.objs.size) rfl
  rwa[Heap.size_push] at this
 have e3:(s.heap.push PySem.W.emptyDict).Ns s.heap.objs.size (fun _=>none):=⟨PySem.W.emptyDict,#[],_,e1,rfl,(fun e he=>absurd he (by simp)),fun _=>rfl⟩
 have I1:=I.laid (a:=s.heap.objs.size) (o:=.own (s.heap.objs.size+1)) (h':=s.heap.push PySem.W.emptyDict) (t':=s.toks) (fun b u q=>Aq _ q) (AZ _) ⟨_,e1⟩
 refine I1.laid (a:=s.heap.objs.size+1) (o:=.ins C s.heap.objs.size []) (t':=s.toks) (fun b u q=>Aq _ q) (Nat.le_of_eq (Heap.size_push _ _)) ?_
 have ne:s.heap.objs.size≠s.heap.objs.size+1:=Nat.ne_of_lt (Nat.lt_succ_self _)
 refine⟨by rw[a06 ne,a02],FJ _,ne,e2,fun _=>none,(Heap.Ns1.of_empty e3).at fun o q=>Aq _ q,fun _=>True.intro,fun y hy=>absurd rfl hy⟩
theorem i09 {prog:Program}{w:World}{env:Env}{e:Expr}{f:Str}{pos:Pos}{s:Shared}{Q:Value->Shared->Prop}(hb:attributeBase e f env (eval e env)=eval e env)
 (h:wpAny (model prog w) A (eval e env) (fun o s₁=>wpAny (model prog w) A (getAttr o f true) Q E s₁) E s):wpAny (model prog w) A (eval (.Attribute e f pos) env) Q E s :=
 Attribute_any_ h (by rw[arm_eval_Attribute,hb])
end
def tFld (K:PySem.W.Frag)(ta:TE) (f:Str):TE:=fun σ H Q=>ta σ H fun x H1=>∃ a C dx fs v,x=.ref a/\H1 a=some (.ins C dx fs)/\Cls K C/\NoAttr K C f/\fs.lookup f=some v/\Q v H1
def sFld (K:PySem.W.Frag)(ta tv:TE) (f:Str):TS:=fun D σ H=>tv σ H fun y H1=>ta σ H1 fun x H2=>∃ a C dx fs,x=.ref a/\H2 a=some (.ins C dx fs)/\Cls K C/\NoAttr K C f/\fs.length < 1000 /\
 D.nx σ (upd H2 a (.ins C dx (a51 f y fs)))
section
variable {X:Cx}{o e value:Expr}{f:Str}{pos pos' tpos:Pos}{ta tv:TE}
theorem b01 (he:PE X e ta)(hb:attributeBase e f X.env (eval e X.env)=eval e X.env):PE X (.Attribute e f pos) (tFld X.K ta f):=by
 try constructor
 intro pins s σ H Q I h
 refine i09 hb (thn (he pins s σ H _ I h) fun u s1 ⟨x,H1,I1,rx,a,C,dx,fs,v,ex,ea,c,n,l,q⟩=>?_)
 subst ex
 obtain rfl:u=Value.ref a:=rx
 exact f42 I1 ea c n l fun u' s2 I2 ru=>⟨v,H1,I2,ru,q⟩
theorem c84 (ha:PE X o ta)(hv:PE X value tv)(hs:swapsWith value (some (.Attribute o f pos')) pos.line X.env=pure false):PS X (.Assign [.Attribute o f pos'] value pos) (sFld X.K ta tv f):=by
 try constructor
 intro pins s σ H D I h
 refine plainObj_wpAny_Assign_Attribute (thn (hv pins s σ H _ I h) fun u s1 ⟨y,H1,I1,ry,q⟩=>thn (ha pins s1 σ H1 _ I1 q) fun ov s2 ⟨x,H2,I2,rx,a,C,dx,fs,ex,ea,c,n,l,q2⟩=>?_) hs
 subst ex
 obtain rfl:ov=Value.ref a:=rx
 exact f46 I2 ea c n l ry fun s3 I3=>⟨σ,_,I3,q2⟩
end
section
variable {X:Cx}{pins:List (Addr×Obj)}{σ:St}{H:Hp}{s:Shared}{A:Around}{E:Value->Shared->Prop}{Q:Value->Shared->Prop}{c:Value}{b:Bool}
inductive TyOf (K:PySem.W.Frag)(H:Hp):V->Value->Prop where
 | non:TyOf K H .non (.type "NoneType")
 | bl (x:Bool):TyOf K H (.bl x) (.type "bool")
 | int (i:Int):TyOf K H (.int i) (.type "int")
 | str (x:Str):TyOf K H (.str x) (.type "str")
 | flt (x:UInt64):TyOf K H (.flt x) (.type "float")
 | lst {a:Addr}{xs:List V}(e:H a=some (.lst xs)):TyOf K H (.ref a) (.type "list")
 | frz {a:Addr}{o:Obj}{xs:List V}(e:H a=some (.frz o (.lst xs))):TyOf K H (.ref a) (.type "list")
 | tup {a:Addr}{xs:List V}(e:H a=some (.tup xs)):TyOf K H (.ref a) (.type "tuple")
 | dK {a:Addr}{kvs:List (Key×V)}(e:H a=some (.dK kvs)):TyOf K H (.ref a) (.type "dict")
 | dT {a:Addr}{kvs:List (List Key×V)}(e:H a=some (.dT kvs)):TyOf K H (.ref a) (.type "dict")
 | ins {a C dx:Addr}{fs:List (Str×V)}(e:H a=some (.ins C dx fs))(cl:Cls K C)(ha:PySem.W.findIn K (.ref C) "__class__" = some (some (.builtin "object.__class__")))
  (hn:PySem.W.specialIn K (.builtin "object.__class__") "__get__" = some (some (.builtin "getset_descriptor.__get__")))(htk:PySem.W.takesIn K (.builtin "object.__class__")=some true)
  (hm:PySem.W.mroIn K C (.type "object")=some true):TyOf K H (.ref a) (.ref C)
theorem g07 {x:V}{u t:Value}(I:Inv X pins σ H s)(rx:RelV x u)(ty:TyOf X.K H x t)(e:PySem.W.kitOne X.K t c=some b)(h:∀ tk,Q (.bool b) { s with toks:=tk }) :
 wpAny (model X.prog X.w) A (call (.builtin "isinstance") [u,c]) Q E s:=by
 cases ty with
 | non=>cases (show u=Value.none from rx);exact PySem.W.kia_one PySem.W.kitx_none I.kIn True.intro e (fun z=>nomatch z) h
 | bl y=>cases (show u=Value.bool y from rx);exact PySem.W.kia_one PySem.W.kitx_bool I.kIn True.intro e (fun z=>nomatch z) h
 | int i=>obtain⟨t,q⟩:=(show ∃ t,u=Value.int i t from rx);cases q;exact PySem.W.kia_one PySem.W.kitx_int I.kIn True.intro e (fun z=>nomatch z) h
 | str y=>obtain⟨t,q⟩:=(show ∃ t,u=Value.str y t from rx);cases q;exact PySem.W.kia_one PySem.W.kitx_str I.kIn True.intro e (fun z=>nomatch z) h
 | flt y=>obtain⟨t,q⟩:=(show ∃ t,u=Value.float y t from rx);cases q;exact PySem.W.kia_one PySem.W.kitx_float I.kIn True.intro e (fun z=>nomatch z) h
 | @lst a xs ea =>
  cases (show u=Value.ref a from rx)
  obtain⟨_,_,n,_,h1⟩:=(show ObjOk X.prog X.w H s.heap a (.lst xs) from I.hok a _ ea)
  exact PySem.W.kia_one PySem.W.kitx_list I.kIn ⟨_,h1,rfl⟩ e (fun z=>nomatch z) h
 | @frz a ob xs ea =>
  cases (show u=Value.ref a from rx)
  obtain⟨_,_,_,n,_,h1⟩:=(show ObjOk X.prog X.w H s.heap a (.frz ob (.lst xs)) from I.hok a _ ea)
  exact PySem.W.kia_one PySem.W.kitx_list I.kIn ⟨_,h1,rfl⟩ e (fun z=>nomatch z) h
 | @tup a xs ea =>
  cases (show u=Value.ref a from rx)
  obtain⟨_,_,_,p⟩:=(show ObjOk X.prog X.w H s.heap a (.tup xs) from I.hok a _ ea)
  obtain⟨o,h1,h2,_⟩:=p
  exact PySem.W.kia_one PySem.W.kitx_tuple I.kIn ⟨o,h1,h2⟩ e (fun z=>nomatch z) h
 | @dK a kvs ea =>
  cases (show u=Value.ref a from rx)
  obtain⟨_,_,vs,_,p⟩:=(show ObjOk X.prog X.w H s.heap a (.dK kvs) from I.hok a _ ea)
  obtain⟨o,es,ep,h1,h2,_⟩:=p
  exact PySem.W.kia_one PySem.W.kitx_dict I.kIn ⟨o,h1,h2.1⟩ e (fun z=>nomatch z) h
 | @dT a kvs ea =>
  cases (show u=Value.ref a from rx)
  obtain⟨_,_,xs,_,o,es,ep,h1,h2,_⟩:=(show ObjOk X.prog X.w H s.heap a (.dT kvs) from I.hok a _ ea)
  exact PySem.W.kia_one PySem.W.kitx_dict I.kIn ⟨o,h1,h2.1⟩ e (fun z=>nomatch z) h
 | @ins a C dx fs ea cl ha hn htk hm =>
  cases (show u=Value.ref a from rx)
  obtain⟨mA,O,_⟩:=d43 I.hok ea
  obtain⟨od,J,_⟩:=O.look
  exact PySem.W.kia_one (PySem.W.kitx_own (cl.get _) cl.hd ha hn htk hm) I.kIn J e (fun z=>nomatch z) h
end
end L2
namespace L2
open PySem PySem.Spec PyProof.Rows
structure Room (k:Nat)(A:Around):Prop where
 hd:A.handled=none
 dp:A.depth+3 * k+5 < recursionLimit
 un:A.units+16 * k+200 < cLine
theorem Room.mono {j k:Nat}{A:Around}(r:Room k A)(h:j<=k):Room j A:=⟨r.hd,by have:=r.dp;omega,by have:=r.un;omega⟩
theorem Room.deeper {k:Nat}{A:Around}(r:Room (k+1) A)(env:Env):Room k (A.deeper env) :=
 ⟨r.hd,by have:=r.dp;show A.depth+1+3 * k+5 < _;omega,by have:=r.un;show A.units+3+16 * k+200 < _;omega⟩
theorem Room.in1 {k:Nat}{A:Around}(r:Room (k+1) A):Room k A.in1 :=
 ⟨r.hd,by have:=r.dp;show A.depth+3 * k+5 < _;omega,by have:=r.un;show A.units+1+16 * k+200 < _;omega⟩
theorem f44 {A:Around}{C:Addr}{us:List Value}{kw:List (Str×Value)}:(A.under (.builtin "type.__call__" ⟨.ref C::us,kw⟩)).depth=A.depth+1:=by
 first | rfl | simp[Around.under,Code.weight,Code.isCreation,Code.isGuard,Code.isCaller,Code.frames,Code.isFrame,guardIds]
theorem f55 {A:Around}{C:Addr}{us:List Value}{kw:List (Str×Value)}:(A.under (.builtin "type.__call__" ⟨.ref C::us,kw⟩)).units=A.units+1:=by
 first | rfl | simp[Around.under,Code.cUnits,Code.frames,Code.isFrame]
theorem Room.make {k:Nat}{A:Around}(r:Room (k+1) A)(C:Addr) (us:List Value) (kw:List (Str×Value)):Room k (A.under (.builtin "type.__call__" ⟨.ref C::us,kw⟩)) :=
 ⟨r.hd,by have:=r.dp;rw[f44];omega,by have:=r.un;rw[f55];omega⟩
theorem Room.depth {k:Nat}{A:Around}(r:Room k A):A.depth < recursionLimit:=by have:=r.dp;omega
theorem Room.units {k:Nat}{A:Around}(r:Room k A):A.units+64 < cLine:=by have:=r.un;omega
theorem Room.units0 {k:Nat}{A:Around}(r:Room k A):A.units < cLine:=by have:=r.un;omega
def i70:TA:=fun _ H Q=>Q [] H
def tCons (ta:TE)(tr:TA):TA:=fun σ H Q=>ta σ H fun x H1=>tr σ H1 fun xs H2=>Q (x::xs) H2
section
variable {X:Cx}{e:Expr}{es:List Expr}{te:TE}{t:TA}{pos:Pos}
theorem a04:PA X [] i70:=.mk fun _ _ _ _ H Q I h=>Calls.spliced_nil ⟨[],H,I,.nil,h⟩
theorem a00 (ha:PE X e te)(hr:PA X es t)(hs:starEach (e::es) X.env=(false,eval e X.env)::starEach es X.env:=by rfl):PA X (e::es) (tCons te t):=by
 try constructor
 intro pos pins s σ H Q I h
 rw[hs]
 show wpAny _ _ (spliced ((false,eval e X.env)::backTo pos (starEach es X.env))) _ _ s
 refine Calls.spliced_cons (thn (ha pins s σ H _ I h) fun u s1 ⟨x,H1,I1,r1,q1⟩=>?_)
 exact thn (hr pos pins s1 σ H1 _ I1 q1) fun us s2 ⟨xs,H2,I2,r2,q2⟩=>⟨x::xs,H2,I2,.cons r1 r2,q2⟩
def tTup (t:TA):TE:=fun σ H Q=>t σ H fun xs H1=>xs.length<=sizeLine/\∀ p,H1 p=none->Q (.ref p) (upd H1 p (.tup xs))
def tLst (t:TA):TE:=fun σ H Q=>t σ H fun xs H1=>xs.length<=sizeLine/\∀ p,H1 p=none->Q (.ref p) (upd H1 p (.lst xs))
theorem a59 {x1}(h:PA X es t):PE X (.Tuple es x1 pos) (tTup t):=by
 try constructor
 intro pins s σ H Q I hq
 refine wpAny_Tuple_spliced (thn (h pos pins s σ H _ I hq) fun us s1 ⟨xs,H1,I1,r,z,q⟩=>⟨by rw[← r.length];exact z,?_⟩)
 have hf:H1 s1.heap.objs.size=none:=I1.hok.fresh (AZ _)
 refine⟨.ref s1.heap.objs.size,upd H1 s1.heap.objs.size (.tup xs),I1.laid (t':=s1.toks) (fun b u e=>Aq _ e) (AZ _) ?_,rfl,q _ hf⟩
 exact⟨z,us,r,⟨_,DJ _ rfl,rfl,_,rfl⟩⟩
theorem a99 (h:PA X es t):PE X (.List es pos) (tLst t):=by
 try constructor
 intro pins s σ H Q I hq
 refine wpAny_List_spliced (thn (h pos pins s σ H _ I hq) fun us s1 ⟨xs,H1,I1,r,z,q⟩=>⟨by rw[← r.length];exact z,?_⟩)
 have hf:H1 s1.heap.objs.size=none:=I1.hok.fresh (AZ _)
 refine⟨.ref s1.heap.objs.size,upd H1 s1.heap.objs.size (.lst xs),I1.laid (t':=s1.toks) (fun b u e=>Aq _ e) (AZ _) ?_,rfl,q _ hf⟩
 exact⟨z,us,0,r,DJ _ rfl⟩
end
abbrev Sp:=List V->Hp->VK->XK->Prop
abbrev CXT:=List Env->Hp->Shared->XK->Value->Shared->Prop
structure Env0 (P:Program)(w:World)(K:PySem.W.Frag) (mg:Str->Option Value)(base:Heap)(A:Around) (outer:List Env)(s:Shared)(H:Hp):Prop where
 frames:A.frames=some outer
 mod:Mod K mg base
 bs:∀ b o,base.get? b=some o->s.heap.get? b=some o/\H b=none
 bsz:base.objs.size<=s.heap.objs.size
 funs:s.heap.FunFrames base outer
 frf:∀ b∈frs outer,H b=none
 hok:HOk P w H s.heap
 bare:AllBare s.gens
def CE (outer:List Env)(P:Program)(w:World)(H:Hp)(s:Shared)(Q:VK) (u:Value)(s':Shared):Prop :=
 ∃ v H',s'.os=s.os/\AllBare s'.gens/\Un (frs outer) [] H H' s.heap s'.heap/\HOk P w H' s'.heap/\RelV v u/\Q v H'
def CR (CX:CXT) (outer:List Env)(P:Program)(w:World)(H:Hp)(s:Shared)(Q:VK)(E:XK)(r:Result)(s':Shared):Prop :=
 match r with
 | .ok (.ret u)=>CE outer P w H s Q u s'
 | .ok _=>False
 | .error e=>CX outer H s E e s'
structure FnOk (P:Program)(w:World)(K:PySem.W.Frag) (mg:Str->Option Value)(base:Heap)(CX:CXT) (k:Nat)(f:Addr)(fd:FuncData) (ps:List Str)(sp:Sp):Prop where
 len:∀ vs H Q E,sp vs H Q E->vs.length=ps.length
 run:∀(A:Around) (outer:List Env)(s:Shared)(H:Hp)(args:Args) (us:List Value) (vs:List V)(Q:VK)(E:XK),Room k A->Env0 P w K mg base A outer s H->BindsTo s fd args (ps.zip us)->Vals vs us->sp vs H Q E ->
  codeAny (model P w) A (.call (.ref f) args) (CR CX outer P w H s Q E) s
theorem FnOk.mono {P:Program}{w:World}{K:PySem.W.Frag}{mg:Str->Option Value}{base:Heap}{CX:CXT}{j k:Nat}{f:Addr}{fd:FuncData}{ps:List Str}{sp:Sp}(F:FnOk P w K mg base CX j f fd ps sp)(h:j<=k) :
 FnOk P w K mg base CX k f fd ps sp:=⟨F.len,fun A outer s H args us vs Q E hr=>F.run A outer s H args us vs Q E (hr.mono h)⟩
theorem FnOk.imp {P:Program}{w:World}{K:PySem.W.Frag}{mg:Str->Option Value}{base:Heap}{CX:CXT}{k:Nat}{f:Addr}{fd:FuncData}{ps:List Str}{sp sp':Sp}(F:FnOk P w K mg base CX k f fd ps sp)
 (h:∀ vs H Q E,sp' vs H Q E->sp vs H Q E):FnOk P w K mg base CX k f fd ps sp' :=
 ⟨fun vs H Q E q=>F.len vs H Q E (h _ _ _ _ q),fun A outer s H args us vs Q E hr he hb hv hs=>F.run A outer s H args us vs Q E hr he hb hv (h _ _ _ _ hs)⟩
theorem Env0.make {P:Program}{w:World}{K:PySem.W.Frag}{mg:Str->Option Value}{base:Heap}{A:Around}{outer:List Env}{s:Shared}{H:Hp}(e:Env0 P w K mg base A outer s H)(C:Addr) (us:List Value) (kw:List (Str×Value)) :
 Env0 P w K mg base (A.under (.builtin "type.__call__" ⟨.ref C::us,kw⟩)) outer s H:=⟨by first | exact e.frames | (simpa [Around.under,Code.envs,Code.isFrame,pushEnvs] using e.frames),e.mod,e.bs,e.bsz,e.funs,e.frf,e.hok,e.bare⟩
theorem Env0.in1 {P:Program}{w:World}{K:PySem.W.Frag}{mg:Str->Option Value}{base:Heap}{A:Around}{outer:List Env}{s:Shared}{H:Hp}(e:Env0 P w K mg base A outer s H) :
 Env0 P w K mg base A.in1 outer s H:=⟨e.frames,e.mod,e.bs,e.bsz,e.funs,e.frf,e.hok,e.bare⟩
section
variable {X:Cx}{pins:List (Addr×Obj)}{σ:St}{H:Hp}{s s':Shared}
theorem Inv.env0 (I:Inv X pins σ H s):Env0 X.prog X.w X.K X.mg X.base X.A X.stack s H :=
 ⟨I.ok.frames,I.ok.mod,I.bs,FQ I.ok.bsz I.sz,I.stack,I.stkFree,I.hok,I.bare⟩
theorem Inv.after {Q:VK}{u:Value}(I:Inv X pins σ H s)(h:CE X.stack X.prog X.w H s Q u s'):EP X pins σ Q u s':=by
 obtain⟨v,H',os,bare,un,hok,r,q⟩:=h
 obtain⟨hh,g,d,t,os'⟩:=s'
 obtain rfl:os'=s.os:=os
 exact⟨v,H',I.call (h':=hh) (g':=g) (d':=d) (t':=t) (ch:=[]) un hok bare (fun b z=>absurd z (by simp)),r,q⟩
end
def i66 (sp:Sp) (dvs:List V)(E:XK)(t:TA):TE:=fun σ H Q=>t σ H fun vs H1=>sp (vs++dvs) H1 Q E
def g97 (C:Addr) (m:Str)(sp:Sp) (dvs:List V)(E:XK)(ta:TE)(t:TA):TE:=fun σ H Q=>ta σ H fun x H1=>∃ a dx fs,x=.ref a/\H1 a=some (.ins C dx fs)/\fs.lookup m=none /\
 t σ H1 fun vs H2=>sp (x::(vs++dvs)) H2 Q E
def j00 (C:Addr)(sp:Sp) (dvs:List V)(E:XK)(t:TA):TE:=fun σ H Q=>t σ H fun vs H1=>∀ x dx,H1 x=none->H1 dx=none->dx≠x ->
 sp (.ref x::(vs++dvs)) (upd (upd H1 dx (.own x)) x (.ins C dx [])) (fun v H2=>v=.non/\Q (.ref x) H2) E
def Binds (K:PySem.W.Frag)(fd:FuncData) (ps:List Str) (ds:List Value):Prop :=
 ∀(s:Shared) (us:List Value),K.In s.heap->(us++ds).length=ps.length->BindsTo s fd ⟨us,[]⟩ (ps.zip (us++ds))
theorem Binds.all {K:PySem.W.Frag}{fd:FuncData}{ps:List Str}(h:∀ us:List Value,us.length=ps.length->bindArgs fd ⟨us,[]⟩=pure (ps.zip us)):Binds K fd ps []:=fun s us _ hl=>by
 rw[List.append_nil] at hl ⊢
 exact .of_eq (h us hl)
def c92 (CX:CXT)(X:Cx)(E:XK):Prop:=∀(pins:List (Addr×Obj))(σ:St)(H:Hp)(s:Shared) (e:Value)(s':Shared),Inv X pins σ H s->CX X.stack H s E e s'->X.xe e s'
section
variable {X:Cx}{CX:CXT}{k:Nat}{f C:Addr}{fd:FuncData}{ps:List Str}{sp:Sp}{dvs:List V}{ds:List Value}{E:XK}{x m:Str}{p pos apos:Pos}{e o:Expr}{es:List Expr}{ta:TE}{t:TA}
theorem g68 {pins:List (Addr×Obj)}{σ:St}{H:Hp}{s:Shared}{Q:VK}{us:List Value}{vs:List V}(F:FnOk X.prog X.w X.K X.mg X.base CX k f fd ps sp)(hr:Room k X.A)(hb:Binds X.K fd ps ds)(hd:Vals dvs ds)(hx:c92 CX X E)
 (I:Inv X pins σ H s)(r:Vals vs us)(h:sp (vs++dvs) H Q E):wpAny (model X.prog X.w) X.A (call (.ref f) us) (EP X pins σ Q) X.xe s:=by
 have r2:Vals (vs++dvs) (us++ds):=r.append hd
 have hl:(us++ds).length=ps.length:=by rw[← r2.length];exact F.len _ _ _ _ h
 refine wpAny_call (codeAny_mono (F.run X.A X.stack s H ⟨us,[]⟩ (us++ds) (vs++dvs) Q E hr I.env0 (hb s us I.kIn hl) r2 h) fun r s' hq=>?_)
 cases r with
 | error e=>exact hx pins σ H s e s' I hq
 | ok fl =>
  cases fl with
  | ret u=>exact I.after hq
  | next=>exact False.elim hq
  | brk=>exact False.elim hq
  | cont=>exact False.elim hq
theorem i37 (F:FnOk X.prog X.w X.K X.mg X.base CX k f fd ps sp)(hr:Room k X.A)(hg:Gl X x)(hm:X.mg x=some (.ref f))(hk:PySem.W.keepIn X.K (.ref f)=true)(hb:Binds X.K fd ps ds)(hd:Vals dvs ds)(hx:c92 CX X E)
 (ha:PA X (e::es) t)(hdb:(x == ("__debug__" : Str))=false:=by decide)(he:starEach (e::es) X.env=(false,eval e X.env)::starEach es X.env:=by rfl)(hpl:(backTo pos (starEach es X.env)).any (·.1)=false:=by rfl) :
 PE X (.Call (.Name x p) (e::es) [] pos) (i66 sp dvs E t):=by
 try constructor
 intro pins s σ H Q I h
 refine wpAny_Call_Name_kw (e27 I hg hm ?_ hdb)
 refine PySem.W.callWith_K (h₀:=X.base) I.ok.mod.kin hk (thn (ha pos pins s σ H _ I h) fun us s1 ⟨vs,H1,I1,r,q⟩=>⟨I1.kIn,?_⟩) he hpl
 exact g68 F hr hb hd hx I1 r q
theorem i20 {pl:Sem Bool}(he:PE X o ta)(c:Cls X.K C)(hm:Meth X.K C m f)(F:FnOk X.prog X.w X.K X.mg X.base CX k f fd ps sp)(hr:Room k X.A)(hb:Binds X.K fd ps ds)(hd:Vals dvs ds)(hx:c92 CX X E)(ha:PA X (e::es) t)
 (hst:starEach (e::es) X.env=(false,eval e X.env)::starEach es X.env:=by rfl)(hpl:(backTo pos (starEach es X.env)).any (·.1)=false:=by rfl)
 (ht:eval (.Call (.Attribute o m apos) (e::es) [] pos) X.env=(do
   let ov ← eval o X.env
   standAt apos.atName
   let (f,first) ← holding [ov] (getMethod ov m pl)
   callWith pos f first (backTo pos (starEach (e::es) X.env)) (backToKw pos (keywordEach [] X.env))):=by rfl) :
 PE X (.Call (.Attribute o m apos) (e::es) [] pos) (g97 C m sp dvs E ta t):=by
 try constructor
 intro pins s σ H Q I h
 refine PySem.W.methodCall_KW (pl:=pl) (thn (he pins s σ H _ I h) fun u s1 ⟨x,H1,I1,rx,a,dx,fs,ex,ea,l,q⟩=>?_) ht
 subst ex
 obtain rfl:u=Value.ref a:=rx
 refine d26 I1 ea c hm l ?_
 refine PySem.W.callWith_K (first:=[.ref a]) (h₀:=X.base) I.ok.mod.kin hm.kp (thn (ha pos pins s1 σ H1 _ I1 q) fun us s2 ⟨vs,H2,I2,r,q2⟩=>⟨I2.kIn,?_⟩) hst hpl
 exact g68 (us:=.ref a::us) (vs:=.ref a::vs) F hr hb hd hx I2 (.cons rfl r) q2
theorem h40 {pl:Sem Bool}(he:PE X o ta)(c:Cls X.K C)(hm:Meth X.K C m f)(F:FnOk X.prog X.w X.K X.mg X.base CX k f fd ps sp)(hr:Room k X.A)(hb:Binds X.K fd ps ds)(hd:Vals dvs ds)(hx:c92 CX X E)
 (ht:eval (.Call (.Attribute o m apos) [] [] pos) X.env=(do
   let ov ← eval o X.env
   standAt apos.atName
   let (f,first) ← holding [ov] (getMethod ov m pl)
   callWith pos f first (backTo pos (starEach [] X.env)) (backToKw pos (keywordEach [] X.env))):=by rfl) :
 PE X (.Call (.Attribute o m apos) [] [] pos) (g97 C m sp dvs E ta i70):=by
 try constructor
 intro pins s σ H Q I h
 refine PySem.W.methodCall_KW (pl:=pl) (thn (he pins s σ H _ I h) fun u s1 ⟨x,H1,I1,rx,a,dx,fs,ex,ea,l,q⟩=>?_) ht
 subst ex
 obtain rfl:u=Value.ref a:=rx
 refine d26 I1 ea c hm l ?_
 exact PySem.W.callWith_K0 (first:=[.ref a]) I1.kIn hm.kp (g68 (us:=[.ref a]) (vs:=[.ref a]) F hr hb hd hx I1 (.cons rfl .nil) q)
structure Mk (K:PySem.W.Frag)(C f:Addr):Prop where
 makes:PySem.W.makesIn K C=true
 init:PySem.W.findIn K (.ref C) "__init__" = some (some (.ref f))
 fn:PySem.W.isFn K (.ref f)=true
 kp:PySem.W.keepIn K (.ref C)=true
theorem h36 {pins:List (Addr×Obj)}{σ:St}{H:Hp}{s:Shared}{Q:VK}{us:List Value}{vs:List V}(M:Mk X.K C f)(F:FnOk X.prog X.w X.K X.mg X.base CX k f fd ps sp)(hr:Room (k+1) X.A)(hb:Binds X.K fd ps ds)(hd:Vals dvs ds)
 (hx:c92 CX X E)(I:Inv X pins σ H s)(r:Vals vs us)
 (h:∀ x dx,H x=none->H dx=none->dx≠x->sp (.ref x::(vs++dvs)) (upd (upd H dx (.own x)) x (.ins C dx [])) (fun v H2=>v=.non/\Q (.ref x) H2) E) :
 wpAny (model X.prog X.w) X.A (call (.ref C) us) (EP X pins σ Q) X.xe s:=by
 have hq:=h (s.heap.objs.size+1) s.heap.objs.size (I.hok.fresh (FX _)) (I.hok.fresh (AZ _)) (Nat.ne_of_lt (Nat.lt_succ_self _))
 have I2:=Inv.made (C:=C) I
 have r2:Vals (V.ref (s.heap.objs.size+1)::(vs++dvs)) (Value.ref (s.heap.objs.size+1)::(us++ds)):=.cons rfl (r.append hd)
 have hl:(Value.ref (s.heap.objs.size+1)::us++ds).length=ps.length:=by
  have e:=r2.length
  rw[F.len _ _ _ _ hq] at e
  exact e.symm
 refine wpAny_call (h53 (f:=f) I.kIn M.makes M.init (beq_iff_eq.mp M.fn) (codeAny_mono (F.run _ X.stack _ _ ⟨Value.ref (s.heap.objs.size+1)::us,[]⟩ (Value.ref (s.heap.objs.size+1)::(us++ds)) _ _ E (hr.make C us [])
  (I2.env0.make C us []) (hb _ (Value.ref (s.heap.objs.size+1)::us) I2.kIn hl) r2 hq) fun r s' hq'=>?_))
 cases r with
 | error e=>exact hx pins σ _ _ e s' I2 hq'
 | ok fl =>
  cases fl with
  | ret u =>
   obtain⟨v,H',I3,rv,ev,q3⟩:=I2.after hq'
   subst ev
   exact⟨rv,⟨V.ref (s.heap.objs.size+1),H',I3,rfl,q3⟩⟩
  | next=>exact False.elim hq'
  | brk=>exact False.elim hq'
  | cont=>exact False.elim hq'
theorem g86 (M:Mk X.K C f)(F:FnOk X.prog X.w X.K X.mg X.base CX k f fd ps sp)(hr:Room (k+1) X.A)(hg:Gl X x)(hm:X.mg x=some (.ref C))(hb:Binds X.K fd ps ds)(hd:Vals dvs ds)(hx:c92 CX X E)
 (hdb:(x == ("__debug__" : Str))=false:=by decide):PE X (.Call (.Name x p) [] [] pos) (j00 C sp dvs E i70):=by
 try constructor
 intro pins s σ H Q I h
 refine wpAny_Call_Name_kw (e27 I hg hm ?_ hdb)
 exact PySem.W.callWith_K0 I.kIn M.kp (h36 (us:=[]) M F hr hb hd hx I .nil h)
end
structure PK (X:Cx) (kws:List Keyword)(t:TA):Prop where
 run :
  ∀(pos:Pos) (pins:List (Addr×Obj))(s:Shared)(σ:St)(H:Hp) (Q:List V->Hp->Prop),Inv X pins σ H s->t σ H Q->wpAny (model X.prog X.w) X.A (evalAll ((backToKw pos (keywordEach kws X.env)).map (·.2))) (AP X pins σ Q) X.xe s
instance {X:Cx}{kws:List Keyword}{t:TA}:CoeFun (PK X kws t) (fun _ =>
 ∀(pos:Pos) (pins:List (Addr×Obj))(s:Shared)(σ:St)(H:Hp) (Q:List V->Hp->Prop),Inv X pins σ H s->t σ H Q->wpAny (model X.prog X.w) X.A (evalAll ((backToKw pos (keywordEach kws X.env)).map (·.2))) (AP X pins σ Q) X.xe s
 ):=⟨PK.run⟩
section
variable {X:Cx}{CX:CXT}{k:Nat}{f C:Addr}{fd:FuncData}{ps ks:List Str}{sp:Sp}{E:XK}{x m:Str}{p pos apos kpos:Pos}{e o:Expr}{es:List Expr}{kws:List Keyword}{te ta:TE}{t tk:TA}{nm:Option Str}
variable {g:List Value->List Value->List Value}{gV:List V->List V->List V}
end
structure FnScope (N P:List Str)(sc:Scope):Prop where
 kind:sc.kind=.function
 co:sc.isCoroutine=false
 gen:sc.isGenerator=false
 nd:N.Nodup
 pre:N.take P.length=P
 par:∀ x∈P,sc.names.lookup x=some .local∨sc.names.lookup x=some .cell
 nofree:∀ y∈sc.names,y.2≠.free
theorem d83 {kindOf:Str->Option NameKind}{x:Str}:∀ {binds:List (Str×Value)}{m:Str->Option Value},(∀ v,(x,v)∉binds)->bindL kindOf binds m x=m x
 | [],_,_=>rfl
 | (n,v)::r,m,h=>by
  unfold bindL
  rw[d83 fun w hw=>h w (BX _ hw)]
  split
  ·have:x≠n:=by rintro rfl;exact h v BZ
   simp[this]
  ·rfl
theorem d74 {kindOf:Str->Option NameKind}{x:Str}:∀ {binds:List (Str×Value)}{m:Str->Option Value},(∀ v,(x,v)∉binds)->bindC kindOf binds m x=m x
 | [],_,_=>rfl
 | (n,v)::r,m,h=>by
  unfold bindC
  rw[d74 fun w hw=>h w (BX _ hw)]
  split
  ·rfl
  ·have:x≠n:=by rintro rfl;exact h v BZ
   simp[this]
theorem e08 {kindOf:Str->Option NameKind}{x:Str}{v:Value}:∀ {P:List Str}{vs:List Value}{i:Nat}{m:Str->Option Value},P.Nodup->P[i]?=some x->vs[i]?=some v->kindOf x=some .local ->
 bindL kindOf (P.zip vs) m x=some v
 | [],_,_,_,_,h,_,_=>by simp at h
 | _::_,[],_,_,_,_,h,_=>by simp at h
 | p::P,w::vs,0,m,nd,h1,h2,hk=>by
  simp at h1 h2;subst h1;subst h2
  show bindL kindOf ((p,w)::P.zip vs) m p=_
  unfold bindL
  rw[d83 fun v hv=>(List.nodup_cons.mp nd).1 (List.of_mem_zip hv).1,if_pos hk]
  simp
 | p::P,w::vs,i+1,m,nd,h1,h2,hk=>by
  show bindL kindOf ((p,w)::P.zip vs) m x=_
  unfold bindL
  exact e08 (i:=i) (List.nodup_cons.mp nd).2 (by simpa using h1) (by simpa using h2) hk
theorem e04 {kindOf:Str->Option NameKind}{x:Str}{v:Value}:∀ {P:List Str}{vs:List Value}{i:Nat}{m:Str->Option Value},P.Nodup->P[i]?=some x->vs[i]?=some v->kindOf x≠some .local ->
 bindC kindOf (P.zip vs) m x=some v
 | [],_,_,_,_,h,_,_=>by simp at h
 | _::_,[],_,_,_,_,h,_=>by simp at h
 | p::P,w::vs,0,m,nd,h1,h2,hk=>by
  simp at h1 h2;subst h1;subst h2
  show bindC kindOf ((p,w)::P.zip vs) m p=_
  unfold bindC
  rw[d74 fun v hv=>(List.nodup_cons.mp nd).1 (List.of_mem_zip hv).1,if_neg hk]
  simp
 | p::P,w::vs,i+1,m,nd,h1,h2,hk=>by
  show bindC kindOf ((p,w)::P.zip vs) m x=_
  unfold bindC
  exact e04 (i:=i) (List.nodup_cons.mp nd).2 (by simpa using h1) (by simpa using h2) hk
def start (N:List Str) (vs:List V):St:=vs.map some++List.replicate (N.length-vs.length) none
def i62 (CX:CXT)(P:Program)(w:World)(K:PySem.W.Frag) (mg:Str->Option Value)(base:Heap) (N:List Str) (qual:Str)(scope:Scope)(f:Addr) (cd:Value)(A:Around) (outer:List Env)(s:Shared)(H:Hp)(E:XK):Cx where
 prog:=P
 w:=w
 K:=K
 mg:=mg
 base:=base
 A:=A.deeper (envOfC qual scope s.heap.objs.size f cd)
 N:=N
 s₀:=s
 H₀:=H
 env:=envOfC qual scope s.heap.objs.size f cd
 outer:=outer
 stack:=envOfC qual scope s.heap.objs.size f cd::outer
 ex:=[]
 calm:=true
 fn:=fun _=>true
 pn:=[]
 xe:=fun e s'=>wpAny (model P w) (A.deeper (envOfC qual scope s.heap.objs.size f cd)) (leaving (envOfC qual scope s.heap.objs.size f cd) e) (fun _ s''=>CX outer H s E e s'') (fun e' s''=>CX outer H s E e' s'') s'
theorem e69 {sc:Scope}{n:Nat}{x:Str}(h:sc.names.lookup x=some .cell):∃ c,(cellsFrom n sc.names []).lookup x=some c:=by
 have q:=PySem.W.cellsFrom_some sc.names n [] (.inl h)
 exact Option.isSome_iff_exists.mp q
theorem f96 {CX:CXT}{P:Program}{w:World}{K:PySem.W.Frag}{mg:Str->Option Value}{base:Heap}{N ps:List Str}{qual:Str}{scope:Scope}{f:Addr}{cd:Value}{A:Around}{outer:List Env}{s s1:Shared}{H:Hp}{E:XK}{us:List Value}{vs:List V}
 (S:FnScope N ps scope)(hd:A.handled=none)(e0:Env0 P w K mg base A outer s H)(hl:vs.length=ps.length)(r:Vals vs us)
 (x:InCallC s s.heap.objs.size (bindL (envOfC qual scope s.heap.objs.size f cd).kindOf (ps.zip us) fun _=>none) (cellsFrom (s.heap.objs.size+1) scope.names []) (bindC (envOfC qual scope s.heap.objs.size f cd).kindOf (ps.zip us) fun _=>none) s1) :
 Inv (i62 CX P w K mg base N qual scope f cd A outer s H E) [] (start N vs) H s1:=by
 have hpl:ps.length<=N.length:=by have:=congrArg List.length S.pre;rw[CZ] at this;omega
 obtain⟨h1,tk,rfl,hk⟩:=x.done
 have noA:∀ b:Addr,b∉(i62 CX P w K mg base N qual scope f cd A outer s H E).ex:=fun b z=>absurd (show b∈([]:List Addr) from z) (by simp)
 refine⟨⟨e0.mod,S.kind,rfl,rfl,AZ _,fun y z c h1 h2=>?_,fun y hy=>?_,fun y c _ h=>?_,fun _=>hd,Around.frames_deeper e0.frames,.inr ⟨rfl,rfl⟩,fun b z=>absurd z (noA b),e0.bs,e0.bsz,fun b _ _=>noA b,fun b z=>absurd z (noA b),e0.funs,e0.frf⟩,
  rfl,e0.bare,Un.kept hk,⟨_,x.toInCall.ns,fun i y v h1 h2 h3=>?_⟩,fun y c h=>⟨_,x.cell y c h⟩,e0.hok.fresh (AZ _),fun y c h=>?_,fun p hp=>absurd (show p∈([]:List (Addr×Obj)) from hp) (by simp),e0.hok.kept hk,?_⟩
 ·exact name_of_addr x.apart (PySem.mem_of_lookup h1) (PySem.mem_of_lookup h2)
 ·have hy:scope.names.lookup y=some .cell∨scope.names.lookup y=some .free:=hy
  rcases hy with hy | hy
  ·exact e69 hy
  ·exact absurd rfl (S.nofree _ (PySem.mem_of_lookup hy))
 ·exact Nat.le_of_lt (x.above y c (PySem.mem_of_lookup h))
 ·have hi:i < vs.length:=by
   unfold start at h2
   by_cases hi:i < vs.length
   ·exact hi
   ·rw[List.getElem?_append_right (by simpa using hi)] at h2
    rw[List.getElem?_replicate] at h2
    split at h2 <;> cases h2
  have ha:vs[i]?=some v:=by
   unfold start at h2
   rw[List.getElem?_append_left (by simpa using hi),CQ] at h2
   cases e:vs[i]? with
   | none=>rw[e] at h2;cases h2
   | some a=>rw[e] at h2;cases h2;rfl
  obtain⟨u,hu,rv⟩:=r.get ha
  have hp:ps[i]?=some y:=by
   rw[← S.pre,List.getElem?_take_of_lt (by omega)];exact h1
  have ndP:ps.Nodup:=by rw[← S.pre];exact S.nd.sublist (List.take_sublist _ _)
  refine⟨u,rv,?_⟩
  rcases S.par y (BQ hp) with k | k
  ·exact .inl ⟨k,e08 ndP hp hu k⟩
  ·obtain⟨c,e⟩:=e69 (n:=s.heap.objs.size+1) k
   refine .inr ⟨.inl k,c,e,?_⟩
   have q:=x.cell y c e
   rw[e04 ndP hp hu (by show scope.names.lookup y≠_;rw[k];decide)] at q
   exact q
 ·exact e0.hok.fresh (Nat.le_of_lt (x.above y c (PySem.mem_of_lookup h)))
 ·unfold start
  show _=N.length
  rw[Bj,Aj,List.length_replicate]
  omega
theorem fn_of {CX:CXT}{P:Program}{w:World}{K:PySem.W.Frag}{mg:Str->Option Value}{base:Heap}{k:Nat}{f:Addr}{name qual:Str}{params:Arguments}{body:List Stmt}{scope:Scope}{dV kV doc pm cdv ct oc:Value}{an od:Option Addr}
 {osl:Array (Option Value)}{N ps:List Str}{sp:Sp}(lk:K.lookup f=some ⟨oc,od,.func (PySem.W.fnOf name qual params body scope dV kV doc pm an cdv ct),osl⟩)(hcd:PySem.W.codeIn K cdv qual=true)(S:FnScope N ps scope)
 (len:∀ vs H Q E,sp vs H Q E->vs.length=ps.length)
 (hbody:∀(A:Around) (outer:List Env)(s:Shared)(H:Hp) (vs:List V)(Q:VK)(E:XK),Room k (A.deeper (envOfC qual scope s.heap.objs.size f cdv))->sp vs H Q E ->
   ∃ t,PSs (i62 CX P w K mg base N qual scope f cdv A outer s H E) body t/\t { nx:=fun _ H'=>Q .non H',rt:=Q } (start N vs) H) :
 FnOk P w K mg base CX (k+1) f (PySem.W.fnOf name qual params body scope dV kV doc pm an cdv ct) ps sp:=by
 refine⟨len,fun A outer s H args us vs Q E hr e0 hb r hsp=>?_⟩
 have hl:=len _ _ _ _ hsp
 have KX:K.In s.heap:=e0.mod.kin.keeps fun b o e=>(e0.bs b o e).1
 have lim:s.heap.NoLimit:=e0.mod.nolimit.keeps fun b o e=>(e0.bs b o e).1
 have hkind:∀ y∈ps.zip us,scope.names.lookup y.1=some .local∨(scope.names.lookup y.1=some .cell/\((cellsFrom (s.heap.objs.size+1) scope.names []).lookup y.1).isSome=true):=fun⟨n,v⟩ hy=>by
  rcases S.par n (List.of_mem_zip hy).1 with q | q
  ·exact .inl q
  ·exact .inr ⟨q,PySem.W.cellsFrom_some _ _ _ (.inl q)⟩
 refine codeAny_call_function hr.depth (KX _ _ lk) rfl S.co S.gen rfl (PySem.W.codeRec_of KX hcd) (hb _ _ _ _ ?_)
 refine wpAny_newFunctionEnv_cells S.kind hkind fun env he s1 x=>?_
 subst he
 refine⟨lim.keeps x.toInCall.keep,codeAny_func ?_⟩
 obtain⟨t,ht,hq⟩:=hbody A outer s H vs Q E (hr.deeper _) hsp
 have I:Inv (i62 CX P w K mg base N qual scope f cdv A outer s H E) [] (start N vs) H s1:=f96 S hr.hd e0 hl r x
 refine Dz (ht [] s1 (start N vs) H _ I hq) (fun fl s' hs=>?_) fun e s' hs=>hs
 have fin:∀ {σ':St}{H':Hp}{v:V}{u:Value},Inv (i62 CX P w K mg base N qual scope f cdv A outer s H E) [] σ' H' s'->RelV v u->Q v H'->CE outer P w H s Q u s' :=
  fun {σ' H' v u} J rv q=>⟨v,H',J.os,J.bare,J.base,J.hok,rv,q⟩
 cases fl with
 | ret u =>
  obtain⟨v,σ',H',J,rv,q⟩:=hs
  exact fin J rv q
 | next =>
  obtain⟨σ',H',J,q⟩:=hs
  exact fin (v:=V.non) (u:=Value.none) J rfl q
 | brk =>
  obtain⟨_,_,_,q⟩:=hs
  exact False.elim q
 | cont =>
  obtain⟨_,_,_,q⟩:=hs
  exact False.elim q
end L2
namespace L2
open PySem PySem.Spec PyProof.Rows
section
variable {X:Cx}{x:Str}{p pos:Pos}{e:Expr}{es:List Expr}{t:TA}{id T:String}{r:List V->Hp->VK->Prop}
def tCB (r:List V->Hp->VK->Prop)(t:TA):TE:=fun σ H Q=>t σ H fun vs H1=>r vs H1 Q
theorem a29 (hc:CallR X (.builtin id) r)(hg:Gl X x)(hm:X.mg x=none)(hv:bootBuiltins x=some (.builtin id))(ha:PA X (e::es) t)(hn:x ≠ "__name__" := by decide)(hdb:(x == ("__debug__" : Str))=false:=by decide)
 (he:starEach (e::es) X.env=(false,eval e X.env)::starEach es X.env:=by rfl)(hpl:(backTo pos (starEach es X.env)).any (·.1)=false:=by rfl):PE X (.Call (.Name x p) (e::es) [] pos) (tCB r t):=by
 try constructor
 intro pins s σ H Q I h
 refine wpAny_Call_Name_kw (c64 I hg hm hv ?_ hn hdb)
 exact PyProof.Rows.callWith_builtin1 (thn (ha pos pins s σ H _ I h) fun us s1 ⟨vs,H1,I1,r1,q1⟩=>hc pins s1 σ H1 vs us Q I1 r1 q1) he hpl
theorem a82 (hc:CallR X (.type T) r)(hg:Gl X x)(hm:X.mg x=none)(hv:bootBuiltins x=some (.type T))(ha:PA X (e::es) t)(hn:x ≠ "__name__" := by decide)(hdb:(x == ("__debug__" : Str))=false:=by decide)
 (he:starEach (e::es) X.env=(false,eval e X.env)::starEach es X.env:=by rfl)(hpl:(backTo pos (starEach es X.env)).any (·.1)=false:=by rfl):PE X (.Call (.Name x p) (e::es) [] pos) (tCB r t):=by
 try constructor
 intro pins s σ H Q I h
 refine wpAny_Call_Name_kw (c64 I hg hm hv ?_ hn hdb)
 exact PyProof.Rows.callWith_type1 (thn (ha pos pins s σ H _ I h) fun us s1 ⟨vs,H1,I1,r1,q1⟩=>hc pins s1 σ H1 vs us Q I1 r1 q1) he hpl
end
end L2
namespace HT
open PySem PyProof.Rows
section
open PySem.SeqAt
open PySem.AutoSeq1 (wpAny_loadPart')
open PySem.MeetsSeq PySem.MeetsSeq2 PySem.MeetsSeq3
end
section
variable {prog:Program}{w:World}{A:Around}{E:Value->Shared->Prop}{s:Shared}
theorem cat_tup {t b:Addr}{vs ws:List Value}{Q:Value->Shared->Prop}(ht:IsTup s.heap t vs.toArray)(hb:IsTup s.heap b ws.toArray)(hv:vs≠[])
 (h1:ws=[]->Q (.ref t) s)(h2:ws≠[]->Q (.ref s.heap.objs.size) { s with heap:=s.heap.push { cls:=.type "tuple", data:=.seq (vs++ws).toArray } })
 (hsz:vs.length+ws.length<=sizeLine):wpAny (model prog w) A (binaryOp .Add (.ref t) (.ref b)) Q E s:=by
 obtain⟨⟨cls,dd,data,sl⟩,ho,hc,n,hd⟩:=id ht
 obtain⟨⟨cls2,dd2,data2,sl2⟩,ho2,hc2,n2,hd2⟩:=id hb
 simp only at hc hd hc2 hd2
 subst hc hd hc2 hd2
 have e:vs.toArray++ws.toArray=(vs++ws).toArray:=by simp
 by_cases hw:ws=[]
 ·exact concat_meets ⟨_,ho,rfl⟩ ⟨_,ho2,rfl⟩ noFill_tuple_add seq_tuple_add PySem.F.slot_tuple_add PySem.F.entry_tuple_add (PySem.F.args_tuple_add_2 _ _)
   (tuple_addW1 t b vs.toArray ws.toArray n n2 dd dd2 sl sl2 (by simpa using hv) (by simp[hw])) ⟨ho,ho2,h1 hw⟩
 ·refine concat_meets ⟨_,ho,rfl⟩ ⟨_,ho2,rfl⟩ noFill_tuple_add seq_tuple_add PySem.F.slot_tuple_add PySem.F.entry_tuple_add (PySem.F.args_tuple_add_2 _ _)
   (tuple_addW2 t b vs.toArray ws.toArray n n2 dd dd2 sl sl2 (by simpa using hv) (by simpa using hw) (by rw[List.size_toArray,List.size_toArray];exact hsz)) ⟨ho,ho2,?_⟩
  rw[e]
  exact h2 hw
def sIx (n d:Nat):Option Int->Nat
 | none=>d
 | some v=>if v < 0 then(v+(n:Int)).toNat else min v.toNat n
theorem sIx_none (n d:Nat):sIx n d none=d:=rfl
theorem sIx_nat (n d k:Nat):sIx n d (some (k:Int))=min k n:=by
 show(if (k:Int) < 0 then((k:Int)+(n:Int)).toNat else min (k:Int).toNat n)=min k n
 rw[if_neg (by omega),Dq]
theorem j12 (n d:Nat)(hd:d<=n)(o:Option Int):sIx n d o<=n:=by
 cases o with
 | none=>exact hd
 | some v =>
  show(if v < 0 then(v+(n:Int)).toNat else min v.toNat n)<=n
  by_cases hv:v < 0
  ·rw[if_pos hv];omega
  ·rw[if_neg hv];exact Nat.min_le_right _ _
theorem f92 (v:Int) (n d:Nat):(if v < 0 then max (v+(n:Int)) 0 else min v (n:Int))=((sIx n d (some v):Nat):Int):=by
 show(if v < 0 then max (v+(n:Int)) 0 else min v (n:Int))=(((if v < 0 then(v+(n:Int)).toNat else min v.toNat n):Nat):Int)
 by_cases hv:v < 0
 ·simp only[if_pos hv];omega
 ·simp only[if_neg hv];omega
theorem f59 (lo hi:Option Int) (n:Nat):Builtin.Slice.sliceAdjust lo hi 1 (n:Int)=(((sIx n 0 lo:Nat):Int),((sIx n n hi:Nat):Int)):=by
 have h1:¬((1:Int) < 0):=by omega
 unfold Builtin.Slice.sliceAdjust
 simp only[h1,if_false]
 refine Prod.ext ?_ ?_
 ·cases lo with
  | none=>rfl
  | some v=>exact f92 v n 0
 ·cases hi with
  | none=>rfl
  | some v=>exact f92 v n n
theorem f38 (i j:Nat):Builtin.Slice.slicePlaces (i:Int) (j:Int) 1=j-i:=by
 unfold Builtin.Slice.slicePlaces
 have h1:(1:Int) > 0:=by omega
 simp only[h1,if_true,Int.ediv_one]
 split <;> omega
theorem d18 {v:Value}{o:Option Int}{Q:Option Int->Shared->Prop}(p:IsPart v o)(h:Q o s):wpAny (model prog w) A (Builtin.Slice.slicePartIndex v) Q E s:=by
 cases p with
 | none=>exact slicePart_none h
 | int i t=>exact slicePart_int h
theorem sliceApplied_gen {sl:Addr}{vl vu:Value}{lo hi:Option Int}{n:Nat}{Q:Int×Int×Nat->Shared->Prop}(hs:s.heap.IsSliceOf sl vl vu .none)(pl:IsPart vl lo)(pu:IsPart vu hi)
 (h:Q (((sIx n 0 lo:Nat):Int),1,sIx n n hi-sIx n 0 lo) s):wpAny (model prog w) A (Builtin.Slice.sliceApplied (.ref sl) (pure (n:Int))) Q E s:=by
 obtain⟨os,hos,hcs,hds⟩:=id hs
 unfold Builtin.Slice.sliceApplied Builtin.Slice.sliceFields
 refine AQ (AQ (wpAny_field hos hds (x:=vl) rfl (AQ (wpAny_field hos hds (x:=vu) rfl (AQ (wpAny_field hos hds (x:=.none) rfl (AX ?_)))))))
 refine AQ (slicePart_none ?_)
 show wpAny _ _ (if ((1:Int) == 0)=true then _ else _) _ _ s
 rw[if_neg (by decide)]
 refine AQ (d18 pl (AQ (d18 pu (AQ (AX ?_)))))
 show wpAny _ _ (match Builtin.Slice.sliceAdjust lo hi 1 (n:Int) with | (lo,hi)=>pure (lo,(1:Int),Builtin.Slice.slicePlaces lo hi 1)) _ _ s
 rw[f59 lo hi n]
 show wpAny _ _ (pure (((sIx n 0 lo:Nat):Int),(1:Int),Builtin.Slice.slicePlaces ((sIx n 0 lo:Nat):Int) ((sIx n n hi:Nat):Int) 1)) _ _ s
 rw[f38]
 exact AX h
theorem g96 (xs:Array Value) (i k:Nat):((List.range k).filterMap fun(m:Nat)=>xs[((i:Int)+(m:Int) * 1).toNat]?).toArray=((xs.toList.drop i).take k).toArray:=by
 have e:(fun(m:Nat)=>xs[((i:Int)+(m:Int) * 1).toNat]?)=fun m=>xs[i+m]?:=by
  funext m
  have:((i:Int)+(m:Int) * 1).toNat=i+m:=by omega
  rw[this]
 rw[e]
 have:=pick_run xs i k
 rw[List.filterMap_map] at this
 have e2:((fun x=>xs[x]?) ∘ fun x=>i+x)=fun m=>xs[i+m]?:=rfl
 rw[e2] at this
 rw[this]
theorem getItem_tuple_cut {t sl:Addr}{items:Array Value}{vl vu:Value}{lo hi:Option Int}{Q:Value->Shared->Prop}(ht:IsTup s.heap t items)(hs:s.heap.IsSliceOf sl vl vu .none)(pl:IsPart vl lo)(pu:IsPart vu hi)
 (hw:¬(sIx items.size 0 lo=0/\sIx items.size items.size hi=items.size))
 (h:Q (.ref s.heap.objs.size) { s with heap:=s.heap.push { cls:=.type "tuple", data:=.seq ((items.toList.drop (sIx items.size 0 lo)).take (sIx items.size items.size hi-sIx items.size 0 lo)).toArray } })
 (hsz:items.size<=sizeLine):wpAny (model prog w) A (getItem (.ref t) (.ref sl)) Q E s:=by
 have htake:sizeOk (.seq ((items.toList.drop (sIx items.size 0 lo)).take (sIx items.size items.size hi-sIx items.size 0 lo)).toArray):=by
  show((items.toList.drop (sIx items.size 0 lo)).take (sIx items.size items.size hi-sIx items.size 0 lo)).toArray.size<=sizeLine
  rw[List.size_toArray,CZ,EQ,Cq]
  omega
 have hj:sIx items.size items.size hi<=items.size:=j12 _ _ (AZ _) hi
 obtain⟨os,hos,hcs,hds⟩:=id hs
 have hTs:s.TypeIs (.ref sl) "slice" := ⟨os,hos,hcs⟩
 unfold getItem
 try with_reducible refine wpAny_holding ?_
 first | refine AQ (AX ?_) | skip
 refine AQ (wpAny_sequenceKey ht.typeIs (by decide) ?_)
 refine AQ (wpAny_callSpecial?_slot (name:=Str.ofString "__getitem__") ht.typeIs PyProof.Rows.slot_tuple_getitem
  (wpAny_call_entry PyProof.Rows.slot_tuple_getitem ht.typeIs entry_tuple_getitem ?_ (args_tuple_getitem _ _)))
 show wpAny _ _ (Builtin.Tuple.tupleItemsOf (.ref t) >>= _) _ _ s
 refine AQ (tupleItemsOf_ ht ?_)
 refine AQ (wpAny_typeOf hTs ?_)
 rw[if_pos (by decide)]
 refine AQ (sliceApplied_gen hs pl pu ?_)
 have hno:¬((((sIx items.size 0 lo:Nat):Int) == 0 && (1:Int) == 1 && (sIx items.size items.size hi-sIx items.size 0 lo) == items.size)=true):=by
  intro q
  rw[Bool.and_eq_true,Bool.and_eq_true] at q
  have q1:((sIx items.size 0 lo:Nat):Int)=0:=eq_of_beq q.1.1
  have q2:sIx items.size items.size hi-sIx items.size 0 lo=items.size:=eq_of_beq q.2
  exact hw ⟨by omega,by omega⟩
 show wpAny _ _ (if (((sIx items.size 0 lo:Nat):Int) == 0 && (1:Int) == 1 && (sIx items.size items.size hi-sIx items.size 0 lo) == items.size)=true then _ else _) _ _ s
 rw[if_neg hno,g96]
 first
  | exact AQ (m:=Builtin.Tuple.tupleExact _) (Fq (AX ⟨_,rfl,AX h⟩) htake)
  | exact AQ (m:=Builtin.Tuple.tupleExact _) (Fq (AQ (AX (AX ⟨_,rfl,AX h⟩))) htake)
  | exact AQ (AQ (m:=Builtin.Tuple.tupleExact _) (Fq (AX (AX ⟨_,rfl,AX h⟩)) htake))
  | exact AQ (AQ (m:=Builtin.Tuple.tupleExact _) (Fq (AX ⟨_,rfl,AX h⟩) htake))
end
end HT
namespace L2
open PySem PySem.Spec PyProof.Rows
abbrev TO:=St->Hp->(Option Int->Hp->Prop)->Prop
structure PO (X:Cx)(e:Option Expr)(t:TO):Prop where
 run :
  ∀(pins:List (Addr×Obj))(s:Shared)(σ:St)(H:Hp)(Q:Option Int->Hp->Prop),Inv X pins σ H s->t σ H Q ->
   wpAny (model X.prog X.w) X.A (evalPart e X.env) (fun u s'=>∃ o H',Inv X pins σ H' s'/\IsPart u o/\Q o H') X.xe s
instance {X:Cx}{e:Option Expr}{t:TO}:CoeFun (PO X e t) (fun _ =>
 ∀(pins:List (Addr×Obj))(s:Shared)(σ:St)(H:Hp)(Q:Option Int->Hp->Prop),Inv X pins σ H s->t σ H Q ->
  wpAny (model X.prog X.w) X.A (evalPart e X.env) (fun u s'=>∃ o H',Inv X pins σ H' s'/\IsPart u o/\Q o H') X.xe s
 ):=⟨PO.run⟩
def i53:TO:=fun _ H Q=>Q none H
def tPart (t:TE):TO:=fun σ H Q=>t σ H fun x H1=>∃ i,x=.int i/\Q (some i) H1
section
variable {X:Cx}{e:Expr}{te:TE}{lo hi:Option Expr}{tl th:TO}{pos p2:Pos}
theorem b49:PO X none i53:=by
 try constructor
 intro pins s σ H Q I h
 rw[evalPart_none]
 exact AX ⟨none,H,I,.none,h⟩
theorem b38 (h:PE X e te):PO X (some e) (tPart te):=by
 try constructor
 intro pins s σ H Q I hw
 rw[evalPart_some]
 refine thn (h pins s σ H _ I hw) fun u s1 ⟨x,H1,I1,r1,q1⟩=>?_
 obtain⟨i,rfl,q⟩:=q1
 obtain⟨t,rfl⟩:=r1
 exact⟨some i,H1,I1,.int i t,q⟩
def SlR (X:Cx) (r:V->Option Int->Option Int->Hp->VK->Prop):Prop :=
 ∀(pins:List (Addr×Obj))(s:Shared)(σ:St)(H:Hp) (x:V) (v vl vu:Value)(lo hi:Option Int)(sl:Addr)(Q:VK),Inv X pins σ H s->RelV x v->s.heap.IsSliceOf sl vl vu .none->IsPart vl lo->IsPart vu hi->r x lo hi H Q ->
  ∃ T id,typeLookup (.type T) "__getitem__" = pure (some (.builtin id))/\s.TypeIs v T/\wpAny (model X.prog X.w) X.A (getItem v (.ref sl)) (EP X pins σ Q) X.xe s
theorem SlR.or {r r':V->Option Int->Option Int->Hp->VK->Prop}(h:SlR X r)(h':SlR X r'):SlR X (fun x lo hi H Q=>r x lo hi H Q∨r' x lo hi H Q):=by
 try constructor
 intro pins s σ H x v vl vu lo hi sl Q I rx hs pl pu q
 rcases q with q | q
 ·exact h pins s σ H x v vl vu lo hi sl Q I rx hs pl pu q
 ·exact h' pins s σ H x v vl vu lo hi sl Q I rx hs pl pu q
def tSl (r:V->Option Int->Option Int->Hp->VK->Prop)(te:TE)(tl th:TO):TE:=fun σ H Q=>te σ H fun x H1=>tl σ H1 fun l H2=>th σ H2 fun u H3=>r x l u H3 Q
theorem b05 {r:V->Option Int->Option Int->Hp->VK->Prop}(hr:SlR X r)(he:PE X e te)(hl:PO X lo tl)(hu:PO X hi th):PE X (.Subscript e (.Slice lo hi none p2) pos) (tSl r te tl th):=by
 try constructor
 intro pins s σ H Q I h
 refine Subscript_ (thn (he pins s σ H _ I h) fun v s1 ⟨x,H1,I1,r1,q1⟩=>?_)
 refine wpAny_Slice (thn (hl pins s1 σ H1 _ I1 q1) fun vl s2 ⟨l,H2,I2,pl,q2⟩=>thn (hu pins s2 σ H2 _ I2 q2) fun vu s3 ⟨u,H3,I3,pu,q3⟩=>?_)
 rw[evalPart_none]
 refine AX ?_
 have I4:Inv X pins σ H3 { s3 with heap:=s3.heap.push { cls:=.type "slice", data:=.fields #[vl,vu,.none] } }:=I3.kept (t':=s3.toks) fun b ob q=>Aq _ q
 obtain⟨T,id,hT,ht,hg⟩:=hr pins { s3 with heap:=s3.heap.push { cls:=.type "slice", data:=.fields #[vl,vu,.none] } } σ H3 x v vl vu l u s3.heap.objs.size Q I4 r1 (Heap.IsSliceOf.new ..) pl pu q3
 show wpAny (model X.prog X.w) X.A (subscriptTail e (.Slice lo hi none p2) v (.ref s3.heap.objs.size)) (EP X pins σ Q) X.xe { s3 with heap:=s3.heap.push { cls:=.type "slice", data:=.fields #[vl,vu,.none] } }
 exact tail_any (ops:=[.ref s3.heap.objs.size,v]) ht hT hg (by with_unfolding_all rfl)
def b52 (xs:List V)(lo hi:Option Int):List V:=(xs.drop (HT.sIx xs.length 0 lo)).take (HT.sIx xs.length xs.length hi-HT.sIx xs.length 0 lo)
theorem b47 (xs:List V)(lo hi:Option Int):(b52 xs lo hi).length<=xs.length:=by
 unfold b52
 rw[CZ,EQ]
 omega
def rSlT (K:PySem.W.Frag):V->Option Int->Option Int->Hp->VK->Prop:=fun x lo hi H Q=>∃ a xs,x=.ref a/\SqT K H a xs /\
 ¬(HT.sIx xs.length 0 lo=0/\HT.sIx xs.length xs.length hi=xs.length)/\∀ p,H p=none->Q (.ref p) (upd H p (.tup (b52 xs lo hi)))
theorem i91:SlR X (rSlT X.K):=by
 try constructor
 intro pins s σ H x v vl vu lo hi sl Q I rx hs pl pu h
 obtain⟨a,xs,rfl,hx,hw,q⟩:=h
 cases rx
 obtain⟨its,r,ht,hz⟩:=I.tuple hx
 have hlen:its.toArray.size=xs.length:=by rw[List.size_toArray];exact r.length.symm
 refine⟨"tuple", _,PyProof.Rows.slot_tuple_getitem.lookup,ht.typeIs,?_⟩
 refine HT.getItem_tuple_cut ht hs pl pu (by rw[hlen];exact hw) ?_ (by rw[hlen];exact hz)
 rw[hlen]
 refine⟨.ref s.heap.objs.size,_,I.laid (t':=s.toks) (o:=.tup (b52 xs lo hi)) (fun b ob q=>Aq _ q) (AZ _) ?_,rfl,q _ (I.hok.fresh (AZ _))⟩
 exact⟨FQ (b47 xs lo hi) hz,_,(r.drop (HT.sIx xs.length 0 lo)).take (HT.sIx xs.length xs.length hi-HT.sIx xs.length 0 lo),IsTup.new _ _⟩
def rCatT (K:PySem.W.Frag):R2:=fun x y H Q=>∃ a b xs ys,x=.ref a/\y=.ref b/\SqT K H a xs/\SqT K H b ys/\xs≠[]/\xs.length+ys.length<=sizeLine /\
 (ys=[]->Q (.ref a) H)/\(ys≠[]->∀ p,H p=none->Q (.ref p) (upd H p (.tup (xs++ys))))
theorem Vals.nil_iff {xs:List V}{us:List Value}(r:Vals xs us):us=[]↔xs=[]:=by
 cases r with
 | nil=>simp
 | cons _ _=>simp
theorem i00:OpR X (binaryOp .Add) (rCatT X.K):=by
 try constructor
 intro pins s σ H x y v u Q I rx ry h
 obtain⟨a,b,xs,ys,rfl,rfl,ha,hb,hx,hz,q1,q2⟩:=h
 cases rx
 cases ry
 obtain⟨its,r1,p1,_⟩:=I.tuple ha
 obtain⟨its2,r2,p2,_⟩:=I.tuple hb
 refine HT.cat_tup p1 p2 (fun z=>hx (r1.nil_iff.mp z)) (fun z=>⟨.ref a,H,I,rfl,q1 (r2.nil_iff.mp z)⟩) (fun z=>?_) (by rw[← r1.length,← r2.length];exact hz)
 refine⟨.ref s.heap.objs.size,_,I.laid (t':=s.toks) (o:=.tup (xs++ys)) (fun b ob q=>Aq _ q) (AZ _) ?_,rfl,q2 (fun w=>z (r2.nil_iff.mpr w)) _ (I.hok.fresh (AZ _))⟩
 exact⟨by rw[Bj];exact hz,_,r1.append r2,IsTup.new _ _⟩
end
end L2
namespace L2
open PySem PySem.Spec PyProof.Rows
def ixN (n:Nat) (i:Int):Option Nat:=if 0<=i then(if i < n then some i.toNat else none) else if -(n:Int)<=i then some (i+n).toNat else none
def atI {α:Type} (xs:List α) (i:Int):Option α:=(ixN xs.length i).bind fun j=>xs[j]?
theorem g66 {n:Nat}{i:Int}{j:Nat}(h:ixN n i=some j):seqIndex? i n=some j/\j < n/\-(n:Int)<=i/\i < n:=by
 unfold ixN at h
 by_cases h0:0<=i
 ·rw[if_pos h0] at h
  by_cases h1:i < n
  ·rw[if_pos h1] at h
   have e:i.toNat=j:=EJ h
   exact⟨by rw[seqIndex_of h0 h1,e],by omega,by omega,h1⟩
  ·rw[if_neg h1] at h;cases h
 ·rw[if_neg h0] at h
  by_cases h1:-(n:Int)<=i
  ·rw[if_pos h1] at h
   have e:(i+n).toNat=j:=EJ h
   exact⟨by rw[seqIndex_neg (by omega) h1,e],by omega,h1,by omega⟩
  ·rw[if_neg h1] at h;cases h
theorem e54 {α:Type}{xs:List α}{i:Int}{v:α}(h:atI xs i=some v):∃ j,seqIndex? i xs.length=some j/\xs[j]?=some v/\j < xs.length/\-(xs.length:Int)<=i/\i < xs.length:=by
 unfold atI at h
 cases e:ixN xs.length i with
 | none=>rw[e] at h;cases h
 | some j =>
  rw[e] at h
  obtain⟨h1,h2,h3,h4⟩:=g66 e
  exact⟨j,h1,h,h2,h3,h4⟩
def i23 (b:Expr):Prop:=∀ o i,subscripted b false o i=operate [o,i] (getItem o i)
def IxR (X:Cx)(r:R2):Prop :=
 ∀(value slice:Expr) (pins:List (Addr×Obj))(s:Shared)(σ:St)(H:Hp) (x y:V) (v u:Value)(Q:VK),Inv X pins σ H s->RelV x v->RelV y u->r x y H Q ->
  subscripted slice false v u=operate [v,u] (getItem v u)->wpAny (model X.prog X.w) X.A (subscriptTail value slice v u) (EP X pins σ Q) X.xe s
def MtR (X:Cx) (id:String) (r:V->List V->Hp->VK->Prop):Prop :=
 ∀(pins:List (Addr×Obj))(s:Shared)(σ:St)(H:Hp) (x:V) (xs:List V) (v:Value) (us:List Value)(Q:VK),Inv X pins σ H s->RelV x v->Vals xs us->r x xs H Q ->
  wpAny (model X.prog X.w) X.A (call (.builtin id) (v::us)) (EP X pins σ Q) X.xe s
section
variable {X:Cx}{a b:Expr}{ta tb:TE}{pos:Pos}
theorem IxR.or {r r':R2}(h:IxR X r)(h':IxR X r'):IxR X (fun x y H Q=>r x y H Q∨r' x y H Q):=by
 try constructor
 intro value slice pins s σ H x y v u Q I rx ry q hs
 rcases q with q | q
 ·exact h value slice pins s σ H x y v u Q I rx ry q hs
 ·exact h' value slice pins s σ H x y v u Q I rx ry q hs
theorem MtR.or {id:String}{r r':V->List V->Hp->VK->Prop}(h:MtR X id r)(h':MtR X id r'):MtR X id (fun x xs H Q=>r x xs H Q∨r' x xs H Q):=by
 try constructor
 intro pins s σ H x xs v us Q I rx rs q
 rcases q with q | q
 ·exact h pins s σ H x xs v us Q I rx rs q
 ·exact h' pins s σ H x xs v us Q I rx rs q
theorem a50 {r:R2}(hr:IxR X r)(ha:PE X a ta)(hb:PE X b tb)(hs:i23 b):PE X (.Subscript a b pos) (tOp r ta tb):=by
 try constructor
 intro pins s σ H Q I h
 exact Subscript_ (binT ha hb I h fun v u s2 x y H2 I2 rx ry q=>hr a b pins s2 σ H2 x y v u Q I2 rx ry q (hs _ _))
def rIxL (K:PySem.W.Frag):R2:=fun x y H Q=>∃ p xs i v,x=.ref p/\y=.int i/\SqL K H p xs/\atI xs i=some v/\Q v H
def j21 (K:PySem.W.Frag):R2:=fun x y H Q=>∃ p xs i v,x=.ref p/\y=.int i/\SqT K H p xs/\atI xs i=some v/\Q v H
def rIxS:R2:=fun x y H Q=>∃ z i c,x=.str z/\y=.int i/\z.length<=sizeLine/\atI z.cps.toList i=some c/\Q (.str ⟨#[c]⟩) H
theorem a53:IxR X (rIxL X.K):=by
 try constructor
 intro value slice pins s σ H x y v u Q I rx ry h hs
 obtain⟨p,xs,i,z,rfl,rfl,hq,he,q⟩:=h
 cases rx
 obtain⟨t,rfl⟩:=ry
 obtain⟨its,r,pl,hz⟩:=I.list hq
 obtain⟨j,h1,h2,h3,h4,h5⟩:=e54 he
 obtain⟨w,ew,rw'⟩:=r.get h2
 have hl:=r.length
 have hn:=d27
 have fin:EP X pins σ Q w s:=⟨z,H,I,rw',q⟩
 by_cases h0:0<=i
 ·have hj:i.toNat=j:=by
   rw[seqIndex_of h0 h5] at h1
   exact EJ h1
  exact item_listR pl.isList h0 (by omega) (by rw[hj];simpa using ew) fin hs
 ·have hj:(i+(its.toArray.size:Int)).toNat=j:=by
   rw[seqIndex_neg (by omega) h4] at h1
   rw[List.size_toArray,← hl]
   exact EJ h1
  exact subscriptTail_builtinR (x:=w) pl.isList.typeIs slot_list_getitem.lookup
   (wpAny_getItem_list_neg (Q:=fun r s'=>r=w/\EP X pins σ Q r s') pl.isList (by omega) (by rw[List.size_toArray] <;> omega) (by omega) (by rw[hj];simpa using ew) ⟨rfl,fin⟩) hs
theorem a66:IxR X (j21 X.K):=by
 try constructor
 intro value slice pins s σ H x y v u Q I rx ry h hs
 obtain⟨p,xs,i,z,rfl,rfl,hq,he,q⟩:=h
 cases rx
 obtain⟨t,rfl⟩:=ry
 obtain⟨its,r,pl,hz⟩:=I.tuple hq
 obtain⟨j,h1,h2,h3,h4,h5⟩:=e54 he
 obtain⟨w,ew,rw'⟩:=r.get h2
 have hl:=r.length
 have hn:=d27
 have fin:EP X pins σ Q w s:=⟨z,H,I,rw',q⟩
 exact subscriptTail_builtinR (x:=w) pl.typeIs slot_tuple_getitem.lookup
  (getItem_tuple (j:=j) (Q:=fun r s'=>r=w/\EP X pins σ Q r s') pl (by omega) (by omega) (by rw[List.size_toArray,← hl];exact h1) (by simpa using ew) ⟨rfl,fin⟩) hs
theorem h74:IxR X rIxS:=by
 try constructor
 intro value slice pins s σ H x y v u Q I rx ry h hs
 obtain⟨z,i,c,rfl,rfl,hz,he,q⟩:=h
 obtain⟨t,rfl⟩:=rx
 obtain⟨t',rfl⟩:=ry
 obtain⟨j,h1,h2,h3,h4,h5⟩:=e54 he
 have hl:z.cps.toList.length=z.length:=by simp[Str.length]
 rw[hl] at h1 h4 h5
 have hn:=d27
 exact tail_any (typeIs_str s z t) slot_str_getitem.lookup (getItem_str (c:=c) (by
  have e1:decide (i < -(2 ^ 63:Int))=false:=Fz (by omega)
  have e2:decide (i ≥ 2 ^ 63)=false:=Fz (by omega)
  rw[e1,e2,Bool.or_false]) (by rw[h1];simpa using h2) ⟨.str ⟨#[c]⟩,H,I.tok _,⟨_,rfl⟩,q⟩) hs
theorem f47 (its:List Value) (n j:Nat) (u:Value):Obj.mapSeq (·.setIfInBounds j u) { cls:=.type "list", data:=.seq its.toArray n }={ cls:=.type "list", data:=.seq (its.set j u).toArray n }:=by
 simp[Obj.mapSeq]
theorem Inv.lst {pins:List (Addr×Obj)}{σ:St}{H:Hp}{s:Shared}{p:Addr}{xs:List V}(I:Inv X pins σ H s)(h:H p=some (.lst xs)) :
 ∃(its:List Value) (n:Nat),Vals xs its/\s.heap.get? p=some { cls:=.type "list", data:=.seq its.toArray n }/\xs.length<=sizeLine:=by
 obtain⟨z,its,n,r,e⟩:=I.hok p _ h
 exact⟨its,n,r,e,z⟩
theorem Inv.lstUpd {pins:List (Addr×Obj)}{σ:St}{H:Hp}{s:Shared}{p:Addr}{xs ys:List V}{its its':List Value}{n n':Nat}{f:Obj->Obj}(I:Inv X pins σ H s)(h:H p=some (.lst xs))
 (ho:s.heap.get? p=some { cls:=.type "list", data:=.seq its.toArray n })(hf:f { cls:=.type "list", data:=.seq its.toArray n }={ cls:=.type "list", data:=.seq its'.toArray n' })(r:Vals ys its')(hz:ys.length<=sizeLine) (t:Nat) :
 Inv X pins σ (upd H p (.lst ys)) { s with heap:=s.heap.update p f,toks:=t }:=by
 have e:(s.heap.update p f).get? p=some { cls:=.type "list", data:=.seq its'.toArray n' }:=by
  rw[Heap.get?_update_self f ho (by rw[hf] <;> rfl),hf]
 refine I.write (x:=p) (e:=p) (by rw[h];trivial) (.inl rfl) (fun b u hb q=>(DZ _ _ (Ne.symm hb)).trans q) ⟨_,e⟩ ?_
 exact⟨hz,its',n',r,e⟩
def rSetL:V->V->V->Hp->(Hp->Prop)->Prop:=fun o i v H Q=>∃ p xs k j,o=.ref p/\i=.int k/\H p=some (.lst xs)/\ixN xs.length k=some j/\Q (upd H p (.lst (xs.set j v)))
theorem d34:PSet X rSetL:=by
 try constructor
 intro pins s σ H o i v ov iv u Q I ro ri rv h
 obtain⟨p,xs,k,j,rfl,rfl,hp,hj,q⟩:=h
 cases ro
 obtain⟨t,rfl⟩:=ri
 obtain⟨its,n,r,ho,hz⟩:=I.lst hp
 obtain⟨h1,h2,h3,h4⟩:=g66 hj
 have hl:=r.length
 have hn:=d27
 have I':Inv X pins σ (upd H p (.lst (xs.set j v))) { s with heap:=s.heap.update p (Obj.mapSeq (·.setIfInBounds j u)) } :=
  I.lstUpd hp ho (f47 its n j u) (r.set rv j) (by rw[List.length_set];exact hz) s.toks
 by_cases h0:0<=k
 ·have hk:k.toNat=j:=by
   rw[seqIndex_of h0 h4] at h1
   exact EJ h1
  exact PySem.W.ki_setAt ho h0 (by omega) (by rw[List.size_toArray,← hl];exact h4) (by rw[hk];exact⟨_,I',q⟩)
 ·have hk:(k+(its.toArray.size:Int)).toNat=j:=by
   rw[seqIndex_neg (by omega) h3] at h1
   rw[List.size_toArray,← hl]
   exact EJ h1
  exact PySem.W.ki_setBack ho (by omega) (by rw[List.size_toArray,← hl];exact h3) (by omega) (by rw[hk];exact⟨_,I',q⟩)
theorem e01 (lo hi:Option Int) (n:Nat):(sliceBounds lo hi none n).1=((HT.sIx n 0 lo:Nat):Int)/\(sliceBounds lo hi none n).2.1=((HT.sIx n n hi:Nat):Int)/\(sliceBounds lo hi none n).2.2=1:=by
 refine⟨?_,?_,rfl⟩
 ·cases lo with
  | none=>simp[sliceBounds,HT.sIx]
  | some i =>
   simp only[sliceBounds,HT.sIx,Option.getD_none,show(1:Int) > 0 by decide,if_true]
   by_cases h:i < 0
   ·simp only[h,if_true] <;> omega
   ·simp only[h,if_false] <;> omega
 ·cases hi with
  | none=>simp[sliceBounds,HT.sIx]
  | some i =>
   simp only[sliceBounds,HT.sIx,Option.getD_none,show(1:Int) > 0 by decide,if_true]
   by_cases h:i < 0
   ·simp only[h,if_true] <;> omega
   ·simp only[h,if_false] <;> omega
theorem d38 (its:List Value)(lo hi:Option Int):slicePick its.toArray lo hi none=((its.drop (HT.sIx its.length 0 lo)).take (HT.sIx its.length its.length hi-HT.sIx its.length 0 lo)).toArray:=by
 obtain⟨h1,h2,h3⟩:=e01 lo hi its.toArray.size
 unfold slicePick
 rw[h1,h2,h3]
 simp only[sliceRange_one,pick_run,List.size_toArray] <;> rfl
def rSlL (K:PySem.W.Frag):V->Option Int->Option Int->Hp->VK->Prop:=fun x lo hi H Q=>∃ a xs,x=.ref a/\SqL K H a xs/\∀ p,H p=none->Q (.ref p) (upd H p (.lst (b52 xs lo hi)))
theorem d36:SlR X (rSlL X.K):=by
 try constructor
 intro pins s σ H x v vl vu lo hi sl Q I rx hs pl pu h
 obtain⟨a,xs,rfl,hx,q⟩:=h
 cases rx
 obtain⟨its,r,ht,hz⟩:=I.list hx
 have hlen:=r.length
 refine⟨"list", _,slot_list_getitem.lookup,ht.isList.typeIs,?_⟩
 refine wpAny_getItem_list_slice ht.isList hs pl pu .none (by simp) ?_ (by rw[List.size_toArray] <;> omega)
 rw[d38,← hlen]
 refine⟨.ref s.heap.objs.size,_,I.laid (t':=s.toks) (o:=.lst (b52 xs lo hi)) (fun b ob q=>Aq _ q) (AZ _) ?_,rfl,q _ (I.hok.fresh (AZ _))⟩
 exact⟨FQ (b47 xs lo hi) hz,_,0,(r.drop (HT.sIx xs.length 0 lo)).take (HT.sIx xs.length xs.length hi-HT.sIx xs.length 0 lo),DJ _ rfl⟩
theorem a30:CallR X (.builtin "len") (fun xs H Q=>∃ p ys,xs=[.ref p]/\(SqL X.K H p ys∨SqT X.K H p ys)/\Q (.int ys.length) H):=by
 try constructor
 intro pins s σ H xs us Q I r h
 obtain⟨p,ys,rfl,hq,q⟩:=h
 obtain⟨u,rfl,rx⟩:=c94 r
 cases rx
 have hn:=d27
 rcases hq with hq | hq
 ·obtain⟨its,r',pl,hz⟩:=I.list hq
  have hlen:=r'.length
  exact Calls.call_len_list pl.isList (by simp only[List.size_toArray] <;> omega) ⟨.int ys.length,H,I.tok _,⟨s.toks+1,by rw[List.size_toArray,hlen]⟩,q⟩
 ·obtain⟨its,r',pl,hz⟩:=I.tuple hq
  have hlen:=r'.length
  exact len_tuple pl (by simp only[List.size_toArray] <;> omega) ⟨.int ys.length,H,I.tok _,⟨s.toks+1,by rw[List.size_toArray,hlen]⟩,q⟩
theorem a83:CallR X (.builtin "len") (fun xs H Q=>∃ z,xs=[.str z]/\z.length<=sizeLine/\Q (.int z.length) H):=by
 try constructor
 intro pins s σ H xs us Q I r h
 obtain⟨z,rfl,hz,q⟩:=h
 obtain⟨u,rfl,t,rfl⟩:=c94 r
 have hn:=d27
 exact len_str (by omega) ⟨.int z.length,H,I.tok _,⟨_,rfl⟩,q⟩
theorem CallR.or {f:Value}{r r':List V->Hp->VK->Prop}(h:CallR X f r)(h':CallR X f r'):CallR X f (fun xs H Q=>r xs H Q∨r' xs H Q):=by
 try constructor
 intro pins s σ H xs us Q I rs q
 rcases q with q | q
 ·exact h pins s σ H xs us Q I rs q
 ·exact h' pins s σ H xs us Q I rs q
theorem a72:CallR X (.type "tuple") (fun xs H Q=>∃ p ys,xs=[.ref p]/\((SqL X.K H p ys/\∀ l,H l=none->Q (.ref l) (upd H l (.tup ys)))∨(SqT X.K H p ys/\Q (.ref p) H))):=by
 try constructor
 intro pins s σ H xs us Q I r h
 obtain⟨p,ys,rfl,h⟩:=h
 obtain⟨u,rfl,rx⟩:=c94 r
 cases rx
 rcases h with⟨hq,q⟩ | ⟨hq,q⟩
 ·obtain⟨its,r',pl,hz⟩:=I.list hq
  have hlen:=r'.length
  refine call_tuple_list pl.isList (fun h' kp=>?_) (by simp only[List.size_toArray] <;> omega)
  have I1:Inv X pins σ H { s with heap:=h' }:=I.kept (t':=s.toks) kp
  have I2:Inv X pins σ (upd H h'.objs.size (.tup ys)) { s with heap:=h'.push { cls:=.type "tuple", data:=.seq its.toArray } } :=
   I1.laid (t':=s.toks) (fun b o e=>Aq _ e) (AZ _) (show ObjOk X.prog X.w _ _ _ (.tup ys) from⟨hz,its,r',IsTup.new _ _⟩)
  exact⟨.ref h'.objs.size,_,I2,rfl,q _ (I1.hok.fresh (AZ _))⟩
 ·obtain⟨its,r',pl,hz⟩:=I.tuple hq
  exact call_tuple_same pl ⟨.ref p,H,I,rfl,q⟩
def tyV (K:PySem.W.Frag) (T:String) (x:V)(H:Hp):Prop:=match x with
 | .str _=>T = "str"
 | .int _=>T = "int"
 | .ref p=>(T = "list"/\∃ xs,SqL K H p xs)∨(T = "tuple"/\∃ o,K.lookup p=some o/\o.cls=.type "tuple"/\o.dict=none) ∨
  (T = "dict"/\((∃ kvs,H p=some (.dK kvs))∨∃ kvs,H p=some (.dT kvs)))∨(T = "set"/\∃ S n,H p=some (.set S n))
 | _=>False
theorem i76 {pins:List (Addr×Obj)}{σ:St}{H:Hp}{s:Shared}{T:String}{x:V}{v:Value}(I:Inv X pins σ H s)(r:RelV x v)(ty:tyV X.K T x H) :
 s.TypeIs v T/\∀ a,v=.ref a->∃ ob,s.heap.get? a=some ob/\ob.dict=none:=by
 cases x with
 | str z =>
  obtain⟨t,rfl⟩:=r
  cases (show T = "str" from ty)
  exact⟨typeIs_str s z t,fun _ e=>nomatch e⟩
 | int i =>
  obtain⟨t,rfl⟩:=r
  cases (show T = "int" from ty)
  exact⟨typeIs_int s i t,fun _ e=>nomatch e⟩
 | ref p =>
  cases r
  rcases ty with⟨rfl,xs,hq⟩ | ⟨rfl,o,hk,hc,hd⟩ | ⟨rfl,hk⟩ | ⟨rfl,S,n,hk⟩
  ·obtain⟨its,_,pl,_⟩:=I.list hq
   refine⟨pl.isList.typeIs,fun a e=>?_⟩
   cases e
   obtain⟨o,n,e,c,hd,_⟩:=pl
   exact⟨o,e,hd⟩
  ·refine⟨⟨o,I.kIn p o hk,hc⟩,fun a e=>?_⟩
   cases e
   exact⟨o,I.kIn _ o hk,hd⟩
  ·have z:∃ o,s.heap.get? p=some o/\o.ExactDict:=by
    rcases hk with⟨kvs,hk⟩ | ⟨kvs,hk⟩
    ·obtain⟨_,_,_,_,o,_,_,e,ex,_⟩:=I.hok p _ hk
     exact⟨o,e,ex⟩
    ·obtain⟨_,_,_,_,o,_,_,e,ex,_⟩:=I.hok p _ hk
     exact⟨o,e,ex⟩
   obtain⟨o,e,ex⟩:=z
   refine⟨⟨o,e,ex.1⟩,fun a e2=>?_⟩
   cases e2
   exact⟨o,e,ex.2.1⟩
  ·obtain⟨o,_,_,_,e,ex,_⟩:=I.hok p _ hk
   refine⟨⟨o,e,ex.1⟩,fun a e2=>?_⟩
   cases e2
   exact⟨o,e,ex.2.1⟩
 | _=>exact False.elim ty
def tBM (K:PySem.W.Frag) (T:String) (r:V->List V->Hp->VK->Prop)(to:TE)(t:TA):TE:=fun σ H Q=>to σ H fun x H1=>tyV K T x H1/\t σ H1 fun xs H2=>r x xs H2 Q
variable {o e:Expr}{es:List Expr}{to:TE}{t:TA}{name:Str}{apos cpos:Pos}{T id:String}{r:V->List V->Hp->VK->Prop}
theorem b20 (pa:PlainAttrs T)(slot:Slot T name id)(hty:typeOf (.builtin id)=pure (.type "method_descriptor"))(hm:MtR X id r)(ho:PE X o to)(ha:PA X (e::es) t)
 (hbase:attributeBase o name X.env (eval o X.env)=eval o X.env:=by rfl)
 (hfew:((backTo cpos (starEach (e::es) X.env)).all (fun x=>!x.1) && (backToKw cpos (keywordEach [] X.env)).all (fun x=>x.1.isSome)
   && decide ((e::es).length+([]:List Keyword).length+(if ([]:List Keyword).isEmpty then 0 else 1) < 30))=true:=by rfl)
 (hline:(apos.endLine == cpos.line)=true:=by rfl)(hs:starEach (e::es) X.env=(false,eval e X.env)::starEach es X.env:=by rfl)(hplain:(backTo cpos (starEach es X.env)).any (·.1)=false:=by rfl) :
 PE X (.Call (.Attribute o name apos) (e::es) [] cpos) (tBM X.K T r to t):=by
 try constructor
 intro pins s σ H Q I h
 refine wpAny_Call_method_late hbase hfew hline rfl (thn (ho pins s σ H _ I h) fun v s1 ⟨x,H1,I1,r1,ty,q1⟩=>?_)
 obtain⟨h1,h2⟩:=i76 I1 r1 ty
 refine⟨T,id,pa,slot,hty,h1,h2,?_⟩
 have hA:=ha cpos pins s1 σ H1 _ I1 q1
 rw[hs] at hA ⊢
 refine Calls.callWith_builtin (by show(false||(backTo cpos (starEach es X.env)).any (·.1))=false;rw[hplain] <;> rfl) (Calls.evalArgs_plain ?_)
 exact thn hA fun us s2 ⟨vs,H2,I2,r2,q2⟩=>hm pins s2 σ H2 x vs v us Q I2 r1 r2 q2
/- xs.append(e),list.index on a module's tuple .. are MtR facts of 06m -/
end
end L2
namespace L2
open PySem PySem.Spec PyProof.Rows
def MtM (X:Cx) (id:String) (r:V->List V->Hp->VK->Prop):Prop :=
 ∀(pins:List (Addr×Obj))(s:Shared)(σ:St)(H:Hp) (x:V) (xs:List V) (v:Value) (us:List Value)(Q:VK),Inv X pins σ H s->RelV x v->Vals xs us->r x xs H Q ->
  wpAny (model X.prog X.w) X.A (call (.builtin id) (v::us)) (EP X pins σ Q) X.xe s
theorem Vals.one:∀ {x:V}{us:List Value},Vals [x] us->∃ u,us=[u]/\RelV x u
 | _,_,.cons r .nil=>⟨_,rfl,r⟩
theorem Vals.dropLast {xs:List V}{us:List Value}(h:Vals xs us):Vals xs.dropLast us.dropLast:=by
 induction h with
 | nil=>exact .nil
 | cons r t ih =>
  cases t with
  | nil=>exact .nil
  | cons q t'=>exact .cons r ih
theorem Vals.eraseIdx:∀ {xs:List V}{us:List Value} (i:Nat),Vals xs us->Vals (xs.eraseIdx i) (us.eraseIdx i)
 | _,_,_,.nil=>.nil
 | _,_,0,.cons _ t=>t
 | _,_,i+1,.cons r t=>.cons r (Vals.eraseIdx i t)
theorem Vals.reverse {xs:List V}{us:List Value}(h:Vals xs us):Vals xs.reverse us.reverse:=by
 induction h with
 | nil=>exact .nil
 | cons r t ih=>rw[List.reverse_cons,List.reverse_cons];exact Vals.append ih (.cons r .nil)
section
variable {X:Cx}{pins:List (Addr×Obj)}{σ:St}{H:Hp}{s:Shared}{l b:Addr}{xs ys zs:List V}
theorem Inv.lset {its its':List Value}{n:Nat}{f:Array Value->Array Value}{t':Nat}(I:Inv X pins σ H s)(hH:H l=some (.lst xs))
 (e:s.heap.get? l=some { cls:=.type "list", data:=.seq its.toArray n })(hf:f its.toArray=its'.toArray)(hv:Vals ys its')(hz:ys.length<=sizeLine) :
 Inv X pins σ (upd H l (.lst ys)) { s with heap:=s.heap.update l (Obj.mapSeq f),toks:=t' }:=by
 have q:=PySem.IsL.update e f
 rw[hf] at q
 refine I.write (x:=l) (e:=l) (by rw[hH];exact trivial) (.inl rfl) (fun b' u hb hu=>(DZ s.heap (Obj.mapSeq f) (Ne.symm hb)).trans hu) ⟨_,q⟩ ?_
 exact⟨hz,its',_,hv,q⟩
theorem Inv.lnew {its:List Value}{t':Nat}(I:Inv X pins σ H s)(hv:Vals ys its)(hz:ys.length<=sizeLine) :
 Inv X pins σ (upd H s.heap.objs.size (.lst ys)) { s with heap:=s.heap.push { cls:=.type "list", data:=.seq its.toArray },toks:=t' } :=
 I.laid (fun _ _ q=>Aq _ q) (AZ _) ⟨hz,its,0,hv,DJ _ rfl⟩
theorem Inv.fresh (I:Inv X pins σ H s):H s.heap.objs.size=none:=I.hok.fresh (AZ _)
theorem Inv.lstM (I:Inv X pins σ H s)(hH:H l=some (.lst xs)):xs.length<=sizeLine/\∃(its:List Value) (n:Nat),Vals xs its/\xs.length=its.length/\s.heap.get? l=some { cls:=.type "list", data:=.seq its.toArray n }:=by
 obtain⟨z,its,n,r,e⟩:=I.hok l _ hH
 exact⟨z,its,n,r,r.length,e⟩
end
section
variable {X:Cx}
def h98:V->List V->Hp->VK->Prop:=fun x vs H Q=>∃ l xs y,x=.ref l/\vs=[y]/\H l=some (.lst xs)/\xs.length < sizeLine/\Q .non (upd H l (.lst (xs++[y])))
theorem b19:MtM X "list.append" h98:=by
 try constructor
 intro pins s σ H x vs v us Q I rx rv h
 obtain⟨l,xs,y,rfl,rfl,hH,hz,q⟩:=h
 cases rx
 obtain⟨u,rfl,ru⟩:=rv.one
 obtain⟨z,its,n,r,hl,e⟩:=I.lstM hH
 refine call_meets F.slot_list_append ⟨_,e,rfl⟩ F.entry_list_append (F.args_list_append_2 _ _) (PySem.list_append l its.toArray n u (by rw[List.size_toArray];omega)) ⟨e,?_⟩
 refine⟨.non,_,I.lset (its':=its++[u]) hH e (by simp) (r.append (.cons ru .nil)) ?_,rfl,q⟩
 rw[Bj,List.length_singleton]
 omega
def rCat:R2:=fun x y H Q=>∃ l b xs zs,x=.ref l/\y=.ref b/\H l=some (.lst xs)/\H b=some (.lst zs)/\xs.length+zs.length<=sizeLine/\∀ p,H p=none->Q (.ref p) (upd H p (.lst (xs++zs)))
theorem h73:OpR X (binaryOp .Add) rCat:=by
 try constructor
 intro pins s σ H x y v u Q I rx ry h
 obtain⟨l,b,xs,zs,rfl,rfl,hH,hB,hz,q⟩:=h
 cases rx
 cases ry
 obtain⟨z,its,n,r,hl,e⟩:=I.lstM hH
 obtain⟨z2,its2,n2,r2,hl2,e2⟩:=I.lstM hB
 refine PySem.P.add_list e e2 ?_ (by rw[List.size_toArray,List.size_toArray];omega)
 have ea:its.toArray++its2.toArray=(its++its2).toArray:=by simp
 rw[ea]
 exact⟨.ref _,_,I.lnew (t':=s.toks) (r.append r2) (by rw[Bj];omega),rfl,q _ I.fresh⟩
end
section
variable {prog:Program}{w:World}{A:Around}{E:Value->Shared->Prop}{s:Shared}
end
section
variable {X:Cx}
end
end L2
namespace L2
open PySem PySem.Spec PyProof.Rows
section
variable {κ:Type} [DecidableEq κ]
def a98 (kvs:List (κ×V))(k:κ):Option V:=(kvs.find? fun kv=>decide (kv.1=k)).map (·.2)
def b23 (kvs:List (κ×V))(k:κ) (v:V):List (κ×V) :=
 if (kvs.any fun kv=>decide (kv.1=k))=true then kvs.map (fun kv=>if kv.1=k then(kv.1,v) else kv) else kvs++[(k,v)]
def i74 (kvs:List (κ×V))(k:κ):List (κ×V):=kvs.filter fun kv=>decide (kv.1≠k)
theorem a70 {p:κ×V}{r:List (κ×V)}{k:κ}(e:p.1=k):a98 (p::r) k=some p.2:=by simp[a98,List.find?_cons,e]
theorem a73 {p:κ×V}{r:List (κ×V)}{k:κ}(e:¬ p.1=k):a98 (p::r) k=a98 r k:=by simp[a98,List.find?_cons,e]
theorem b22 (k:κ):∀ kvs:List (κ×V),(kvs.any fun kv=>decide (kv.1=k))=(a98 kvs k).isSome
 | []=>rfl
 | p::r=>by
  rw[List.any_cons]
  by_cases e:p.1=k
  ·simp only[a70 e,Az e,Bool.true_or,Option.isSome_some]
  ·rw[a73 e,Fz e,Bool.false_or];exact b22 k r
theorem e96 (k j:κ) (y:V):∀ kvs:List (κ×V),a98 (kvs.map fun kv=>if kv.1=k then(kv.1,y) else kv) j=(a98 kvs j).map fun x=>if j=k then y else x
 | []=>rfl
 | p::r=>by
  have ih:=e96 k j y r
  rw[CJ]
  by_cases h:p.1=k
  ·rw[if_pos h]
   by_cases e:p.1=j
   ·rw[a70 (p:=(p.1,y)) e,a70 e,Option.map_some,if_pos (e.symm.trans h)]
   ·rw[a73 (p:=(p.1,y)) e,a73 e,ih]
  ·rw[if_neg h]
   by_cases e:p.1=j
   ·rw[a70 (p:=p) e,a70 e,Option.map_some,if_neg (fun z=>h (e.trans z))]
   ·rw[a73 (p:=p) e,a73 e,ih]
theorem e21 (k j:κ) (y:V):∀ kvs:List (κ×V),a98 kvs k=none->a98 (kvs++[(k,y)]) j=if j=k then some y else a98 kvs j
 | [],_=>by
  by_cases e:k=j
  ·rw[if_pos e.symm];exact a70 (p:=(k,y)) e
  ·rw[if_neg (fun z=>e z.symm)];exact a73 (p:=(k,y)) e
 | p::r,hn=>by
  rw[List.cons_append]
  have hk:¬ p.1=k:=fun z=>by rw[a70 z] at hn;cases hn
  rw[a73 hk] at hn
  have ih:=e21 k j y r hn
  by_cases e:p.1=j
  ·rw[a70 e,a70 e,if_neg (fun z=>hk (e.trans z))]
  ·rw[a73 e,a73 e,ih]
theorem d35 (kvs:List (κ×V))(k j:κ) (y:V):a98 (b23 kvs k y) j=if j=k then some y else a98 kvs j:=by
 unfold b23
 by_cases a:(kvs.any fun kv=>decide (kv.1=k))=true
 ·rw[if_pos a,e96]
  rw[b22] at a
  by_cases e:j=k
  ·obtain⟨x,hx⟩:=Option.isSome_iff_exists.mp a
   rw[if_pos e,e,hx,Option.map_some,if_pos rfl]
  ·rw[if_neg e]
   cases a98 kvs j with
   | none=>rfl
   | some x=>rw[Option.map_some,if_neg e]
 ·rw[if_neg a]
  refine e21 k j y kvs ?_
  rw[b22] at a
  cases q:a98 kvs k with
  | none=>rfl
  | some x=>rw[q] at a;exact(a rfl).elim
theorem a90 (kvs:List (κ×V))(k:κ) (v:V):(b23 kvs k v).length<=kvs.length+1:=by
 unfold b23
 split
 ·rw[Aj];omega
 ·rw[Bj,Cz,List.length_nil];omega
theorem e65 {kvs:List (κ×V)}{k:κ} (v:V)(h:a98 kvs k=none):b23 kvs k v=kvs++[(k,v)]:=by
 unfold b23
 rw[b22,h]
 exact if_neg (by decide)
theorem RelO.isSome_eq {o:Option V}{u:Option Value}(r:RelO o u):o.isSome=u.isSome:=by
 cases o with
 | none=>cases u with
  | none=>rfl
  | some _=>exact(show False from r).elim
 | some _=>cases u with
  | none=>exact(show False from r).elim
  | some _=>rfl
theorem RelO.getD {o:Option V}{u:Option Value}{d:V}{d':Value}(r:RelO o u)(rd:RelV d d'):RelV (o.getD d) (u.getD d'):=by
 cases o with
 | none=>cases u with
  | none=>exact rd
  | some _=>exact(show False from r).elim
 | some _=>cases u with
  | none=>exact(show False from r).elim
  | some _=>exact r
theorem KV.val {kvs:List (κ×V)}{vs:List (κ×Value)}(r:KV kvs vs)(k:κ):RelO (a98 kvs k) (valueAt vs k):=by
 unfold KV at r
 induction r with
 | nil=>exact True.intro
 | @cons p q ps qs h t ih =>
  obtain⟨h1,h2⟩:=h
  by_cases e:p.1=k
  ·have e':q.1=k:=h1.symm.trans e
   have b:valueAt (q::qs) k=some q.2:=by simp[valueAt,List.find?_cons,e']
   rw[a70 e,b];exact h2
  ·have e':¬ q.1=k:=fun z=>e (h1.trans z)
   have b:valueAt (q::qs) k=valueAt qs k:=by simp[valueAt,List.find?_cons,e']
   rw[a73 e,b];exact ih
theorem KV.any {kvs:List (κ×V)}{vs:List (κ×Value)}(r:KV kvs vs)(k:κ):(kvs.any fun kv=>decide (kv.1=k))=vs.any fun kv=>decide (kv.1=k):=by
 unfold KV at r
 induction r with
 | nil=>rfl
 | cons h t ih=>rw[List.any_cons,List.any_cons,ih,h.1]
theorem KV.repl {kvs:List (κ×V)}{vs:List (κ×Value)}(r:KV kvs vs)(k:κ){y:V}{u:Value}(ry:RelV y u) :
 KV (kvs.map fun kv=>if kv.1=k then(kv.1,y) else kv) (vs.map fun kv=>if kv.1=k then(kv.1,u) else kv):=by
 unfold KV at r ⊢
 induction r with
 | nil=>exact .nil
 | @cons p q ps qs h t ih =>
  rw[CJ,CJ]
  refine .cons ?_ ih
  obtain⟨h1,h2⟩:=h
  by_cases e:p.1=k
  ·rw[if_pos e,if_pos (h1.symm.trans e)];exact⟨h1,ry⟩
  ·rw[if_neg e,if_neg (fun z=>e (h1.trans z))];exact⟨h1,h2⟩
theorem KV.put {kvs:List (κ×V)}{vs:List (κ×Value)}(r:KV kvs vs)(k:κ){y:V}{u:Value}(ry:RelV y u):KV (b23 kvs k y) (stored vs k u):=by
 unfold b23 stored
 rw[r.any k]
 by_cases e:(vs.any fun kv=>decide (kv.1=k))=true
 ·rw[if_pos e,if_pos e];exact r.repl k ry
 ·rw[if_neg e,if_neg e];exact Paired.snoc r ⟨rfl,ry⟩
theorem KV.drop {kvs:List (κ×V)}{vs:List (κ×Value)}(r:KV kvs vs)(k:κ):KV (i74 kvs k) (without vs k):=by
 unfold KV at r ⊢
 unfold i74 without
 induction r with
 | nil=>exact .nil
 | @cons p q ps qs h t ih =>
  obtain⟨h1,h2⟩:=h
  rw[List.filter_cons,List.filter_cons]
  by_cases e:p.1=k
  ·have a:¬ decide (p.1≠k)=true:=by simp[e]
   have b:¬ decide (q.1≠k)=true:=by simp[h1.symm.trans e]
   rw[if_neg a,if_neg b];exact ih
  ·have e':¬ q.1=k:=fun z=>e (h1.trans z)
   have a:decide (p.1≠k)=true:=by simp[e]
   have b:decide (q.1≠k)=true:=by simp[e']
   rw[if_pos a,if_pos b];exact .cons ⟨h1,h2⟩ ih
theorem KV.keys {kvs:List (κ×V)}{vs:List (κ×Value)}(r:KV kvs vs):kvs.map (·.1)=vs.map (·.1):=by
 unfold KV at r
 induction r with
 | nil=>rfl
 | cons h t ih=>rw[CJ,CJ,ih,h.1]
theorem KV.length {kvs:List (κ×V)}{vs:List (κ×Value)}(r:KV kvs vs):kvs.length=vs.length:=Paired.length r
end
theorem g39 {P:Program}{w:World}{k:Key}{u:Value}(r:RelV (kV k) u):(a77 P w).is k u=true:=by
 cases k with
 | inl i=>obtain⟨t,e⟩:=(show ∃ t,u=Value.int i t from r);subst e;exact e34 P w i t
 | inr x=>obtain⟨t,e⟩:=(show ∃ t,u=Value.str x t from r);subst e;exact e38 P w x t
theorem e12 {P:Program}{w:World}:∀ {ks:List Key}{us:List Value},Vals (ks.map kV) us->ItemsAre (a77 P w) ks us
 | [],_,r=>by rw[List.map_nil] at r;cases r;exact .nil
 | k::ks,_,r=>by
  rw[CJ] at r
  cases r with
  | cons h t=>exact .cons (g39 h) (e12 t)
abbrev KT (H:Hp):List (List Key×V)->List (List Key×Addr×Value)->Prop:=Paired fun p q=>p.1=q.1/\H q.2.1=some (.tup (p.1.map kV))/\RelV p.2 q.2.2
theorem KT.val {H:Hp}{kvs:List (List Key×V)}{xs:List (List Key×Addr×Value)}(r:KT H kvs xs) (k:List Key):RelO (a98 kvs k) ((atKey xs k).map (·.2)):=by
 induction r with
 | nil=>exact True.intro
 | @cons p q ps qs h t ih =>
  obtain⟨h1,_,h2⟩:=h
  by_cases e:p.1=k
  ·have e':q.1=k:=h1.symm.trans e
   have b:atKey (q::qs) k=some q.2:=by simp[atKey,List.find?_cons,e']
   rw[a70 e,b];exact h2
  ·have e':¬ q.1=k:=fun z=>e (h1.trans z)
   have b:atKey (q::qs) k=atKey qs k:=by simp[atKey,List.find?_cons,e']
   rw[a73 e,b];exact ih
theorem KT.repl {H:Hp}{kvs:List (List Key×V)}{xs:List (List Key×Addr×Value)}(r:KT H kvs xs) (k:List Key){y:V}{u:Value}(ry:RelV y u) :
 KT H (kvs.map fun kv=>if kv.1=k then(kv.1,y) else kv) (xs.map (putAt k u)):=by
 induction r with
 | nil=>exact .nil
 | @cons p q ps qs h t ih =>
  rw[CJ,CJ]
  refine .cons ?_ ih
  obtain⟨h1,h2,h3⟩:=h
  unfold putAt
  by_cases e:p.1=k
  ·rw[if_pos e,if_pos (h1.symm.trans e)];exact⟨h1,h2,ry⟩
  ·rw[if_neg e,if_neg (fun z=>e (h1.trans z))];exact⟨h1,h2,h3⟩
theorem KT.put {H:Hp}{kvs:List (List Key×V)}{xs:List (List Key×Addr×Value)}(r:KT H kvs xs) (k:List Key){b:Addr}{y:V}{u:Value}(hb:H b=some (.tup (k.map kV)))(ry:RelV y u) :
 KT H (b23 kvs k y) (storedH xs k b u):=by
 have e:(kvs.any fun kv=>decide (kv.1=k))=(atKey xs k).isSome:=by
  rw[b22,(r.val k).isSome_eq,Option.isSome_map]
 unfold b23 storedH
 rw[e]
 by_cases q:(atKey xs k).isSome=true
 ·rw[if_pos q,if_pos q];exact r.repl k ry
 ·rw[if_neg q,if_neg q];exact Paired.snoc r ⟨rfl,hb,ry⟩
theorem KT.keeps {H H':Hp}{kvs:List (List Key×V)}{xs:List (List Key×Addr×Value)}(r:KT H kvs xs)(ht:∀ b ys,H b=some (.tup ys)->H' b=some (.tup ys)):KT H' kvs xs :=
 Paired.mapP r fun _ _ z=>⟨z.1,ht _ _ z.2.1,z.2.2⟩
section
variable {P:Program}{w:World}{H:Hp}{h:Heap}{a:Addr}
theorem i79 {u:HO}(ok:HOk P w H h)(e:Rd H a u):ObjOk P w H h a u:=e.ok ok
theorem g20 {kvs:List (Key×V)}(ok:HOk P w H h)(e:Rd H a (.dK kvs)):kvs.length<=sizeLine/\(a == sysModules)=false/\∃ vs,KV kvs vs/\h.DictOf (a77 P w) a vs :=
 show ObjOk P w H h a (.dK kvs) from i79 ok e
theorem j22 {kvs:List (Key×V)}(ok:HOk P w H h)(e:H a=some (.dK kvs)):kvs.length<=sizeLine/\(a == sysModules)=false/\∃ vs,KV kvs vs/\h.DictOf (a77 P w) a vs:=g20 ok (.inl e)
theorem c97 {ks:List Key}(ok:HOk P w H h)(e:H a=some (.tup (ks.map kV))):(tupleKind (a77 P w)).is h ks a:=by
 obtain⟨_,its,r,o,h1,h2,n,h3⟩:=(show ObjOk P w H h a (.tup (ks.map kV)) from ok a _ e)
 exact⟨o,its.toArray,n,h1,h2,h3,by simpa using e12 r⟩
theorem g58 {kvs:List (List Key×V)}(ok:HOk P w H h)(e:Rd H a (.dT kvs)):kvs.length<=sizeLine/\(a == sysModules)=false /\
 ∃ xs,KT H kvs xs/\h.DictOfH (tupleKind (a77 P w)) a xs:=by
 obtain⟨z,y,xs,r,o,es,ep,h1,h2,h3,h4,h5⟩:=(show ObjOk P w H h a (.dT kvs) from i79 ok e)
 refine⟨z,y,xs,r,o,es,ep,h1,h2,h3,h4,fun x hx=>?_,h5⟩
 have all:∀ {l:List (List Key×V)}{m:List (List Key×Addr×Value)},KT H l m->∀ x∈m,(tupleKind (a77 P w)).is h x.1 x.2.1:=by
  intro l m q
  induction q with
  | nil=>intro x hx;exact nomatch hx
  | @cons p q ps qs hq t ih =>
   intro x hx
   rcases Cj.mp hx with e | hx
   ·subst e
    exact c97 ok (by rw[← hq.1];exact hq.2.1)
   ·exact ih x hx
 exact all r x hx
theorem h39 {kvs:List (List Key×V)}(ok:HOk P w H h)(e:H a=some (.dT kvs)):kvs.length<=sizeLine/\(a == sysModules)=false /\
 ∃ xs,KT H kvs xs/\h.DictOfH (tupleKind (a77 P w)) a xs:=g58 ok (.inl e)
end
def DGet (H:Hp)(a:Addr) (y:V)(r:Option V):Prop :=
 (∃ kvs k,Rd H a (.dK kvs)/\y=kV k/\r=a98 kvs k)∨∃ kvs k b,Rd H a (.dT kvs)/\y=.ref b/\H b=some (.tup (k.map kV))/\r=a98 kvs k
def DPut (H:Hp)(a:Addr) (y v:V)(H':Hp):Prop :=
 (∃ kvs k,H a=some (.dK kvs)/\y=kV k/\kvs.length < sizeLine/\H'=upd H a (.dK (b23 kvs k v))) ∨
 ∃ kvs k b,H a=some (.dT kvs)/\y=.ref b/\H b=some (.tup (k.map kV))/\kvs.length < sizeLine/\H'=upd H a (.dT (b23 kvs k v))
theorem DGet.k {H:Hp}{a:Addr}{kvs:List (Key×V)}{k:Key}(e:H a=some (.dK kvs)):DGet H a (kV k) (a98 kvs k):=.inl ⟨kvs,k,.inl e,rfl,rfl⟩
theorem DGet.t {H:Hp}{a b:Addr}{kvs:List (List Key×V)}{k:List Key}(e:H a=some (.dT kvs))(eb:H b=some (.tup (k.map kV))):DGet H a (.ref b) (a98 kvs k):=.inr ⟨kvs,k,b,.inl e,rfl,eb,rfl⟩
theorem DPut.k {H:Hp}{a:Addr}{kvs:List (Key×V)}{k:Key}{v:V}(e:H a=some (.dK kvs))(hl:kvs.length < sizeLine):DPut H a (kV k) v (upd H a (.dK (b23 kvs k v))):=.inl ⟨kvs,k,e,rfl,hl,rfl⟩
theorem DPut.t {H:Hp}{a b:Addr}{kvs:List (List Key×V)}{k:List Key}{v:V}(e:H a=some (.dT kvs))(eb:H b=some (.tup (k.map kV)))(hl:kvs.length < sizeLine) :
 DPut H a (.ref b) v (upd H a (.dT (b23 kvs k v))):=.inr ⟨kvs,k,b,e,rfl,eb,hl,rfl⟩
section
variable {X:Cx}{pins:List (Addr×Obj)}{σ:St}{H:Hp}{s:Shared}{a:Addr}{y v:V}{u r:Value}{o:Option V}{A:Around}{E:Value->Shared->Prop}
theorem Inv.big (I:Inv X pins σ H s):sysModules < s.heap.objs.size:=by
 have h:mainGlobals < s.heap.objs.size:=(I.mod.glob.keeps I.bk).lt
 exact Nat.lt_trans (by decide) h
theorem g51 {Q:Value->Shared->Prop}(hu:A.units+1 < cLine)(I:Inv X pins σ H s)(g:DGet H a y (some v))(ry:RelV y u)(h:∀ w' s',Inv X pins σ H s'->RelV v w'->Q w' s') :
 wpAny (model X.prog X.w) A (getItem (.ref a) u) Q E s:=by
 rcases g with⟨kvs,k,e,ey,l⟩ | ⟨kvs,k,b,e,ey,eb,l⟩
 ·subst ey
  obtain⟨z,hd,vs,rel,dd⟩:=g20 I.hok e
  obtain⟨w',hw,rw'⟩:=RelO.some_of (v:=v) (o:=valueAt vs k) (by rw[l];exact rel.val k)
  exact wpAny_getItem_of (g39 ry) dd.mapOf hw (h w' _ (I.tok _) rw')
 ·subst ey
  cases (show u=Value.ref b from ry)
  obtain⟨z,hd,xs,rel,dd⟩:=g58 I.hok e
  obtain⟨w',hw,rw'⟩:=RelO.some_of (v:=v) (o:=(atKey xs k).map (·.2)) (by rw[l];exact rel.val k)
  obtain⟨p,hp,hp2⟩:=Option.map_eq_some_iff.mp hw
  refine wpAny_getItem_heap (tupleKind_room_in1 hu) (c97 I.hok eb) dd hp ?_
  rw[hp2]
  exact h w' _ (I.tok _) rw'
theorem d_in {Q:Value->Shared->Prop}(hu:A.units+1 < cLine)(I:Inv X pins σ H s)(g:DGet H a y o)(ry:RelV y u)(h:∀ s',Inv X pins σ H s'->Q (.bool o.isSome) s') :
 wpAny (model X.prog X.w) A (compareOp .In u (.ref a)) Q E s:=by
 rcases g with⟨kvs,k,e,ey,l⟩ | ⟨kvs,k,b,e,ey,eb,l⟩
 ·subst ey
  obtain⟨z,hd,vs,rel,dd⟩:=g20 I.hok e
  refine wpAny_in_of (g39 ry) hd dd.mapOf ?_
  rw[← (rel.val k).isSome_eq,← l]
  exact h _ (I.tok _)
 ·subst ey
  cases (show u=Value.ref b from ry)
  obtain⟨z,hd,xs,rel,dd⟩:=g58 I.hok e
  refine wpAny_in_heap (tupleKind_room_in1 hu) (c97 I.hok eb) hd dd ?_
  have q:=(rel.val k).isSome_eq
  rw[Option.isSome_map] at q
  rw[← q,← l]
  exact h _ (I.tok _)
theorem h96 {Q:Value->Shared->Prop}(hu:A.units+1 < cLine)(I:Inv X pins σ H s)(g:DGet H a y o)(ry:RelV y u)(h:∀ s',Inv X pins σ H s'->Q (.bool (!o.isSome)) s') :
 wpAny (model X.prog X.w) A (compareOp .NotIn u (.ref a)) Q E s:=by
 rcases g with⟨kvs,k,e,ey,l⟩ | ⟨kvs,k,b,e,ey,eb,l⟩
 ·subst ey
  obtain⟨z,hd,vs,rel,dd⟩:=g20 I.hok e
  refine wpAny_notIn_of (g39 ry) hd dd.mapOf ?_
  rw[← (rel.val k).isSome_eq,← l]
  exact h _ (I.tok _)
 ·subst ey
  cases (show u=Value.ref b from ry)
  obtain⟨z,hd,xs,rel,dd⟩:=g58 I.hok e
  refine wpAny_notIn_heap (tupleKind_room_in1 hu) (c97 I.hok eb) hd dd ?_
  have q:=(rel.val k).isSome_eq
  rw[Option.isSome_map] at q
  rw[← q,← l]
  exact h _ (I.tok _)
theorem d42 {h':Heap}{t':Nat}{ob:HO}(I:Inv X pins σ H s)(mu:Mut (H a))(hs:Heap.SameBut a s.heap h')(he:∃ q,h'.get? a=some q)(new:ObjOk X.prog X.w (upd H a ob) h' a ob) :
 Inv X pins σ (upd H a ob) { s with heap:=h',toks:=t' } :=
 I.write (x:=a) (e:=a) mu (.inl rfl) (fun b q hb z=>(hs.2 b hb).trans z) he new
theorem i88 {P:Program}{w:World}{H':Hp}{h':Heap}{kvs:List (Key×V)}{vs:List (Key×Value)}(z:kvs.length<=sizeLine)(hd:(a == sysModules)=false)(rel:KV kvs vs)(dd:h'.DictOf (a77 P w) a vs) :
 ObjOk P w H' h' a (.dK kvs):=⟨z,hd,vs,rel,dd⟩
theorem g33 {H':Hp}{Q:Unit->Shared->Prop}(hu:A.units+1 < cLine)(I:Inv X pins σ H s)(g:DPut H a y v H')(ry:RelV y u)(rv:RelV v r)(h:∀ s',Inv X pins σ H' s'->Q () s') :
 wpAny (model X.prog X.w) A (setItem (.ref a) u r) Q E s:=by
 rcases g with⟨kvs,k,e,ey,l,eH⟩ | ⟨kvs,k,b,e,ey,eb,l,eH⟩
 ·subst ey eH
  obtain⟨z,hd,vs,rel,dd⟩:=j22 I.hok e
  have hz:vs.length<=sizeLine:=by rw[← rel.length];exact z
  have hl:(b23 kvs k v).length<=sizeLine:=by have:=a90 kvs k v;omega
  refine wpAny_setItem_pairs (hsz:=hz) (g39 ry) dd fun h' dd' hs=>h _ ?_
  have he:∃ q,h'.get? a=some q:=let ⟨q,_,_,hq,_⟩:=dd';⟨q,hq⟩
  exact d42 I (by rw[e];exact True.intro) hs he (i88 hl hd (rel.put k rv) dd')
 ·subst ey eH
  cases (show u=Value.ref b from ry)
  obtain⟨z,hd,xs,rel,dd⟩:=h39 I.hok e
  have hz:xs.length<=sizeLine:=by rw[← Paired.length rel];exact z
  have hl:(b23 kvs k v).length<=sizeLine:=by have:=a90 kvs k v;omega
  refine wpAny_setItem_heap (hsz:=hz) (tupleKind_room_in1 hu) (c97 I.hok eb) dd fun h' dd' hs=>h _ ?_
  obtain⟨q,es,ep,hq,h2,h3,h4,_,h5⟩:=dd'
  refine d42 I (by rw[e];exact True.intro) hs ⟨q,hq⟩ ⟨hl,hd,_,(rel.put k eb rv).keeps fun c ys ec=>?_,q,es,ep,hq,h2,h3,h4,h5⟩
  rw[a06 (a85 ec e (fun z=>nomatch z))]
  exact ec
end
section
variable {X:Cx}{pins:List (Addr×Obj)}{σ:St}{H:Hp}{s:Shared}{a:Addr}{kvs:List (Key×V)}{k:Key}{u:Value}{A:Around}{E:Value->Shared->Prop}
end
def NoSl (i:Expr):Prop:=∀ ov iv,subscripted i false ov iv=operate [ov,iv] (getItem ov iv)
theorem h89 {prog:Program}{w:World}{A:Around}{E:Value->Shared->Prop}{s:Shared}{env:Env}{value slice:Expr}{pos:Pos}{T id:String}{Q:Value->Shared->Prop}
 (hl:typeLookup (.type T) "__getitem__" = pure (some (.builtin id)))(hs:NoSl slice)
 (h:wpAny (model prog w) A (eval value env) (fun o s₁=>wpAny (model prog w) A (eval slice env) (fun i s₂=>s₂.TypeIs o T/\wpAny (model prog w) A (getItem o i) Q E s₂) E s₁) E s) :
 wpAny (model prog w) A (eval (.Subscript value slice pos) env) Q E s:=by
 refine Subscript_ (Dz h (fun o s₁ h₁=>Dz h₁ (fun i s₂ h₂=>?_) fun _ _ x=>x) fun _ _ x=>x)
 obtain⟨hT,h₂⟩:=h₂
 unfold subscriptTail
 refine AQ ?_
 rw[getitemInPython_of_ne hT.not_modules]
 refine AQ (wpAny_specialOf hT hl ?_)
 have fin:wpAny (model prog w) A (subscripted slice false o i) (fun r s₃=>wpAny (model prog w) A (letTemporaryGo value o r >>= fun _=>pure r) Q E s₃) E s₂:=by
  rw[hs o i]
  exact wpAny_operating (Dz h₂ (fun r s₃ h₃=>AQ (wpAny_letTemporaryGo (AX h₃))) fun _ _ x=>x)
 first
  | exact AX (AQ fin)
  | exact AQ (AX (AQ fin))
  | exact AQ fin
theorem e59 {X:Cx}{pins:List (Addr×Obj)}{σ:St}{H:Hp}{s:Shared}{a:Addr}{y:V}{o:Option V}(I:Inv X pins σ H s)(g:DGet H a y o):s.TypeIs (.ref a) "dict" := by
 rcases g with⟨kvs,k,e,_,_⟩ | ⟨kvs,k,b,e,_,_,_⟩
 ·obtain⟨_,_,vs,_,dd⟩:=g20 I.hok e
  exact dd.typeIs
 ·obtain⟨_,_,xs,_,dd⟩:=g58 I.hok e
  exact dd.typeIs
def tDGet (td ty:TE):TE:=fun σ H Q=>td σ H fun x H1=>ty σ H1 fun y H2=>∃ a v,x=.ref a/\DGet H2 a y (some v)/\Q v H2
def tDIn (ty td:TE):TE:=fun σ H Q=>ty σ H fun y H1=>td σ H1 fun x H2=>∃ a o,x=.ref a/\DGet H2 a y o/\Q (.bl o.isSome) H2
def i14 (ty td:TE):TE:=fun σ H Q=>ty σ H fun y H1=>td σ H1 fun x H2=>∃ a o,x=.ref a/\DGet H2 a y o/\Q (.bl (!o.isSome)) H2
def sDPut (td ty tv:TE):TS:=fun D σ H=>tv σ H fun v H1=>td σ H1 fun x H2=>ty σ H2 fun y H3=>∃ a H4,x=.ref a/\DPut H3 a y v H4/\D.nx σ H4
section
variable {X:Cx}{o i e value:Expr}{pos pos' tpos:Pos}{td ty tv:TE}
theorem i05 (hu:X.A.units+1 < cLine)(ho:PE X o td)(hi:PE X i ty)(hs:NoSl i):PE X (.Subscript o i pos) (tDGet td ty):=by
 try constructor
 intro pins s σ H Q I h
 refine h89 PySem.F.slot_dict_getitem.lookup hs (thn (ho pins s σ H _ I h) fun u s1 ⟨x,H1,I1,rx,q1⟩=>thn (hi pins s1 σ H1 _ I1 q1) fun iv s2 ⟨y,H2,I2,ry,a,v,ex,g,q2⟩=>?_)
 subst ex
 obtain rfl:u=Value.ref a:=rx
 exact⟨e59 I2 g,g51 hu I2 g ry fun w' s3 I3 rw'=>⟨v,H2,I3,rw',q2⟩⟩
theorem i78 (hu:X.A.units+1 < cLine)(hi:PE X i ty)(ho:PE X o td):PC X .In i o (tDIn ty td):=by
 try constructor
 intro pins s σ H Q I h
 refine thn (hi pins s σ H _ I h) fun iv s1 ⟨y,H1,I1,ry,q1⟩=>thn (ho pins s1 σ H1 _ I1 q1) fun u s2 ⟨x,H2,I2,rx,a,ov,ex,g,q2⟩=>?_
 subst ex
 obtain rfl:u=Value.ref a:=rx
 exact d_in hu I2 g ry fun s3 I3=>⟨.bl ov.isSome,H2,I3,rfl,q2⟩
theorem e15 (hu:X.A.units+1 < cLine)(hi:PE X i ty)(ho:PE X o td):PC X .NotIn i o (i14 ty td):=by
 try constructor
 intro pins s σ H Q I h
 refine thn (hi pins s σ H _ I h) fun iv s1 ⟨y,H1,I1,ry,q1⟩=>thn (ho pins s1 σ H1 _ I1 q1) fun u s2 ⟨x,H2,I2,rx,a,ov,ex,g,q2⟩=>?_
 subst ex
 obtain rfl:u=Value.ref a:=rx
 exact h96 hu I2 g ry fun s3 I3=>⟨.bl (!ov.isSome),H2,I3,rfl,q2⟩
theorem b94 (hu:X.A.units+1 < cLine)(ho:PE X o td)(hi:PE X i ty)(hv:PE X value tv)(hs:swapsWith value (some (.Subscript o i pos')) pos.line X.env=pure false) :
 PS X (.Assign [.Subscript o i pos'] value pos) (sDPut td ty tv):=by
 try constructor
 intro pins s σ H D I h
 refine wpAny_Assign_Subscript (thn (hv pins s σ H _ I h) fun r s1 ⟨v,H1,I1,rv,q1⟩=>thn (ho pins s1 σ H1 _ I1 q1) fun u s2 ⟨x,H2,I2,rx,q2⟩=>thn (hi pins s2 σ H2 _ I2 q2) fun iv s3 ⟨y,H3,I3,ry,a,H4,ex,g,q3⟩=>?_) hs
 subst ex
 obtain rfl:u=Value.ref a:=rx
 exact g33 hu I3 g ry rv fun s4 I4=>⟨σ,H4,I4,q3⟩
end
theorem h50 {P:Program}{w:World}{H:Hp}(h:Heap)(hb:sysModules < h.objs.size):ObjOk P w H (h.push { cls:=.type "dict", data:=.dict #[] }) h.objs.size (.dK []) :=
 ⟨FJ _,beq_eq_false_iff_ne.mpr (Ne.symm (Nat.ne_of_lt hb)),[],.nil,Heap.DictOf.new h⟩
theorem e67 {P:Program}{w:World}{H:Hp}(h:Heap)(hb:sysModules < h.objs.size):ObjOk P w H (h.push { cls:=.type "dict", data:=.dict #[] }) h.objs.size (.dT []) :=
 ⟨FJ _,beq_eq_false_iff_ne.mpr (Ne.symm (Nat.ne_of_lt hb)),[],.nil,_,#[],0,DJ _ rfl,⟨rfl,rfl,rfl⟩,rfl,rfl,List.nodup_nil⟩
def i89:TE:=fun _ H Q=>∀ p,H p=none->Q (.ref p) (upd H p (.dK []))
def i99:TE:=fun _ H Q=>∀ p,H p=none->Q (.ref p) (upd H p (.dT []))
section
variable {X:Cx}{pos:Pos}
theorem h34:PE X (.Dict [] [] pos) i89:=.mk fun pins s σ H Q I h =>
 wpAny_Dict_empty ⟨.ref s.heap.objs.size,_,I.laid (a:=s.heap.objs.size) (o:=.dK []) (t':=s.toks) (fun _ _ q=>Aq _ q) (AZ _) (h50 s.heap I.big),rfl,h _ (I.hok.fresh (AZ _))⟩
theorem e77:PE X (.Dict [] [] pos) i99:=.mk fun pins s σ H Q I h =>
 wpAny_Dict_empty ⟨.ref s.heap.objs.size,_,I.laid (a:=s.heap.objs.size) (o:=.dT []) (t':=s.toks) (fun _ _ q=>Aq _ q) (AZ _) (e67 s.heap I.big),rfl,h _ (I.hok.fresh (AZ _))⟩
end
def g49:List (TE×TE)->St->Hp->(List (V×V)->Hp->Prop)->Prop
 | [],_,H,Q=>Q [] H
 | (tk,tv)::r,σ,H,Q=>tk σ H fun x H1=>tv σ H1 fun y H2=>g49 r σ H2 fun ps H3=>Q ((x,y)::ps) H3
abbrev VV:List (V×V)->List (Value×Value)->Prop:=Paired fun p q=>RelV p.1 q.1/\RelV p.2 q.2
structure PPs (X:Cx)(pos:Pos) (keys:List (Option Expr)) (values:List Expr) (trs:List (TE×TE)):Prop where
 run :
  ∀(pins:List (Addr×Obj))(s:Shared)(σ:St)(H:Hp) (Q:List (V×V)->Hp->Prop),Inv X pins σ H s->g49 trs σ H Q ->
   wpAny (model X.prog X.w) X.A (evalPairs (pairTrees keys values X.env pos)) (fun vs s'=>∃ ps H',Inv X pins σ H' s'/\VV ps vs/\Q ps H') X.xe s
instance {X:Cx}{pos:Pos}{keys:List (Option Expr)}{values:List Expr}{trs:List (TE×TE)}:CoeFun (PPs X pos keys values trs) (fun _ =>
 ∀(pins:List (Addr×Obj))(s:Shared)(σ:St)(H:Hp) (Q:List (V×V)->Hp->Prop),Inv X pins σ H s->g49 trs σ H Q ->
  wpAny (model X.prog X.w) X.A (evalPairs (pairTrees keys values X.env pos)) (fun vs s'=>∃ ps H',Inv X pins σ H' s'/\VV ps vs/\Q ps H') X.xe s
 ):=⟨PPs.run⟩
section
variable {X:Cx}{pins:List (Addr×Obj)}{σ:St}{H:Hp}{s:Shared}{a:Addr}{y d:V}{u r:Value}{o:Option V}{A:Around}{E:Value->Shared->Prop}
end
section
variable {X:Cx}{o e f:Expr}{apos cpos:Pos}{td ty tx:TE}
end
section
variable {X:Cx}{pins:List (Addr×Obj)}{σ:St}{H:Hp}{s:Shared}{a:Addr}{kvs:List (Key×V)}{A:Around}{E:Value->Shared->Prop}
end
section
variable {X:Cx}{pins:List (Addr×Obj)}{σ:St}{H:Hp}{s:Shared}{a:Addr}{y:V}{u:Value}{A:Around}{E:Value->Shared->Prop}
end
end L2
namespace Att
open PySem PySem.W PySem.Calls PyProof.Rows
theorem d09 {P:Params}{h:Heap}:∀(ns:List Int) (vs:List Value),WellAll P h vs (ns.map WData.int)->IntsAre vs ns:=by
 intro ns
 induction ns with
 | nil =>
  intro vs w
  rw[List.map_nil] at w
  cases w
  exact .nil
 | cons n ns ih =>
  intro vs w
  rw[CJ] at w
  cases w with
  | cons a b =>
   cases a
   exact .cons _ _ (ih _ b)
theorem f88 {l:OpenLaw}{n:Nat}(hn:l.most=some n){P:Params}{h:Heap}{args:List WData}{vals:List Value}
 (hpre:l.row.toRowW.claim.pre args=true)(hwl:WellAll P h vals args) :
 ∃ a vs ns,vals=[Value.ref a]/\args=[WData.list (ns.map WData.int)]/\h.get? a=some { cls:=.type "list", data:=.seq vs.toArray }/\IntsAre vs ns/\ns.length<=n:=by
 have hsh:WShape.hasAll [] args [.list .int]=true:=(pre_splitW hpre).1
 have hc:l.pre.holds [] { args:=args }=true:=(pre_splitW hpre).2
 obtain⟨d,r,rfl,h1,h2⟩:=hasAllW_cons hsh
 obtain rfl:=hasAllW_nil h2
 obtain⟨xs,rfl,h3⟩:=hasW_list h1
 obtain⟨ns,rfl⟩:=items_int h3
 have hlen:ns.length<=n:=by
  unfold OpenLaw.pre at hc
  have h4:(WTm.not (.lt (.lit (.int (n:Int))) (.len (.arg 0)))).holds [] { args:=[.list (ns.map .int)] }=true:=by
   have h4:=(holds_andW hc).1
   rw[hn] at h4
   exact h4
  have h5:=condW_of h4 (w_not (w_lt w_lit (w_len_list (w_arg rfl))))
  rw[Aj] at h5
  refine Nat.le_of_not_lt fun q=>?_
  have q':(n:Int) < ((ns.length:Nat):Int):=by omega
  first
   | (rw[Az q'] at h5;exact absurd h5 (by decide))
   | (simp at h5;omega)
 cases hwl with
 | cons w1 w2 =>
  cases w2
  cases w1 with
  | list ho hall=>exact⟨_,_,ns,rfl,rfl,ho,d09 ns _ hall,hlen⟩
theorem g40 (l:OpenLaw) (args:List WData):l.row.toRowW.claim.post args (.bool true) args=true :=
 postW_of (r:=l.row.toRowW) (X:=(true == true))
  (show WShape.has [] (.bool true) .bool=true by first | rfl | decide | simp[WShape.has,WShape.arms,WShape.armsAll])
  (show(WTm.eq .res (.lit (.bool true))).value [] { args:=args,res:=some (.bool true),after:=args }=some (.bool (true == true)) from w_eq_bool (w_res rfl) w_lit) rfl
theorem attach_call {l:OpenLaw}{n:Nat}{q:Program}{loose:List Str}{XP:(Str->Option Value)->Heap->Prop}{YP:World->Heap->Prop}{d:DefRec}
 (hn:l.most=some n)(hdf:d.params.defaults=[])
 (call:∀(w:World)(s₀ s₁:Shared) (mg mb:Str->Option Value)(fa:Addr)(o:Obj) (pm cd doc:Value)(a:Addr) (vs:List Value) (ns:List Int),
   Ground q loose [] XP w s₀ mg mb s₁.heap->YP w s₁.heap ->
   s₁.heap.get? fa=some o->o.data=.func (docDef d.name d.params d.body d.scope pm cd doc)->s₁.heap.CodeRec cd d.name->mg d.name=some (.ref fa) ->
   s₁.heap.get? a=some { cls:=.type "list", data:=.seq vs.toArray }->IntsAre vs ns->ns.length<=n->s₁.gens=#[] ->
   codeAny (model l.prog w) callerA (.call (.ref fa) ⟨[.ref a],[]⟩) (fun r s'=>r=.ok (.ret (.bool true))/\OldK s₁.heap s'.heap/\s'.os=s₁.os/\AllBare s'.gens) s₁) :
 WalkO q loose XP YP l.row.toRowW d [] (fun f vs=>PySem.call f vs):=by
 intro w s₀ s₁ mg mb G Y fa o pm cd doc dV kV ho hd hcd hD hmg hg args vals as hpre hlay hrd hwl hlo
 obtain rfl:dV=.none:=Dflts.none hD hdf
 obtain rfl:kV=.none:=Dflts.noKw hD
 obtain⟨a,vs,ns,rfl,rfl,hobj,hints,hlen⟩:=f88 hn hpre hwl
 refine enter_call (codeAny_mono (call w s₀ s₁ mg mb fa o pm cd doc a vs ns G Y ho (fd_plain hd) hcd hmg hobj hints hlen hg) fun r s' hq=>?_)
 obtain⟨rfl,h2,h3,h4⟩:=hq
 exact⟨.inl ⟨.bool true,.bool true,[],rfl,fun _=>rfl,.bool true,g40 l _,fun _=>⟨List.Pairwise.nil,fun _ hm=>(nomatch hm)⟩⟩,h2,h3,h4⟩
section
variable {prog:Program}{w:World}{A:Around}{E:Value->Shared->Prop}{s:Shared}{K:Frag}
def ledger (h:Heap)(L d:Addr):List (Addr×Obj):=(List.range h.objs.size).filterMap fun a=>if a=L∨a=d then none else(h.get? a).map fun o=>(a,o)
end
end Att
namespace L2
open PySem PySem.Spec PyProof.Rows
theorem e17:∀ {vs:List Value}{ns:List Int},IntsAre vs ns->Vals (ns.map V.int) vs
 | _,_,.nil=>.nil
 | _,_,.cons n t h=>.cons ⟨t,rfl⟩ (e17 h)
def Only (H:Hp):Prop:=∀ b,H b=none∨∃ o xs,H b=some (.frz o (.lst xs))
theorem h16 {P:Program}{w:World}{K:PySem.W.Frag}{mg mb:Str->Option Value}{CX:CXT}{k:Nat}{fa a:Addr}{fd:FuncData}{x:Str}{sp:Sp}{s₁:Shared}{vs:List Value}{ns:List Int}
 (KX:K.In s₁.heap)(hns:s₁.heap.Ns mainGlobals mg)(hb:s₁.heap.Ns builtinsNs mb)(hbb:∀ x:Str,x ≠ "__name__"->mb x=bootBuiltins x)(hlim:s₁.heap.NoLimit)(hg:s₁.gens=#[])
 (ha:s₁.heap.get? a=some { cls:=.type "list", data:=.seq vs.toArray })(hi:IntsAre vs ns)(hl:ns.length<=sizeLine)(hr:Room k callerA)
 (F:∀ base:Heap,K.In base->base.Ns mainGlobals mg->FnOk P w K mg base CX k fa fd [x] sp)(hbind:∀(s:Shared) (u:Value),BindsTo s fd ⟨[u],[]⟩ [(x,u)])
 (hsp:∀ H:Hp,Only H->SqL K H a (ns.map V.int)->sp [.ref a] H (fun v _=>v=.bl true) fun _ _ _=>False)
 (hCX:∀ H e s',CX [] H s₁ (fun _ _ _=>False) e s'->False) :
 codeAny (model P w) callerA (.call (.ref fa) ⟨[.ref a],[]⟩) (fun r s'=>r=.ok (.ret (.bool true))/\OldK s₁.heap s'.heap/\s'.os=s₁.os/\AllBare s'.gens) s₁:=by
 have rv:=e17 hi
 have lenV:=hi.length
 have core:∀ H:Hp,Only H->SqL K H a (ns.map V.int)->HOk P w H s₁.heap->(∀ b,H b≠none->b=a)->(H a≠none->K.lookup a=none) ->
  codeAny (model P w) callerA (.call (.ref fa) ⟨[.ref a],[]⟩) (fun r s'=>r=.ok (.ret (.bool true))/\OldK s₁.heap s'.heap/\s'.os=s₁.os/\AllBare s'.gens) s₁:=by
  intro H hO hS hok hA hK
  have base_of:∀ {b:Addr}{o:Obj},s₁.heap.get? b=some o->H b=none->(h33 s₁.heap H).get? b=some o:=fun e n=>h47 e n
  have noA:∀ {b:Addr}{o:Obj}{es:Array DictEntry}{ep:Nat},s₁.heap.get? b=some o->o.data=.dict es ep->H b=none:=fun {b o es ep} e d=>by
   cases q:H b with
   | none=>rfl
   | some u =>
    have e':b=a:=hA b (by rw[q];simp)
    subst e'
    rw[ha] at e;cases e
    have d':Data.seq vs.toArray _=Data.dict es ep:=d
    cases d'
  have nsK:∀ {b:Addr}{m:Str->Option Value},s₁.heap.Ns b m->(h33 s₁.heap H).Ns b m:=fun {b m} ⟨o,es,ep,e,d,r⟩=>⟨o,es,ep,base_of e (noA e d),d,r⟩
  have hKb:K.In (h33 s₁.heap H):=fun b o e=>base_of (KX b o e) (by
   cases q:H b with
   | none=>rfl
   | some u =>
    have e':b=a:=hA b (by rw[q];simp)
    subst e'
    rw[hK (by rw[q];simp)] at e;cases e)
  have hM:Mod K mg (h33 s₁.heap H):=⟨hKb,nsK hns,⟨mb,nsK hb,hbb⟩,let ⟨mc,h1,h2⟩:=hlim;⟨mc,nsK h1,h2⟩⟩
  have e0:Env0 P w K mg (h33 s₁.heap H) callerA [] s₁ H:=⟨rfl,hM,fun b o e=>i06 e,Nat.le_of_eq (g42 _ _),trivial,fun b hb=>absurd (show b∈([]:List Addr) from hb) (by simp),hok,.of_eq hg⟩
  refine codeAny_mono ((F _ hKb (nsK hns)).run callerA [] s₁ H ⟨[.ref a],[]⟩ [.ref a] [.ref a] _ _ hr e0 (hbind s₁ (.ref a)) (.cons rfl .nil) (hsp H hO hS)) fun r s' h=>?_
  cases r with
  | error e=>exact(hCX H e s' h).elim
  | ok fl =>
   cases fl with
   | next=>exact False.elim h
   | brk=>exact False.elim h
   | cont=>exact False.elim h
   | ret u =>
    obtain⟨v,H',os,bare,un,hok',r',q⟩:=h
    have q':v=.bl true:=q
    subst q'
    obtain rfl:u=Value.bool true:=r'
    refine⟨rfl,OldK.of_keep fun b o e=>?_,os,bare⟩
    cases q:H b with
    | none=>exact un.keep b o e q (by intro z;exact absurd (show b∈([]:List Addr) from z) (by simp)) (by simp)
    | some u =>
     rcases hO b with z | ⟨ob,xs,z⟩
     ·rw[q] at z;cases z
     ·have z2:=un.frzs b ob _ z
      obtain⟨e1,_⟩:=hok b _ z
      obtain⟨e2,_⟩:=hok' b _ z2
      rw[e] at e1;cases e1
      exact e2
 cases hk:K.lookup a with
 | some o =>
  have e:=KX a o hk
  rw[ha] at e
  cases e
  refine core (fun _=>none) (fun _=>.inl rfl) (.inr ⟨_,vs.toArray,_,hk,rfl,rfl,rfl,by rw[List.size_toArray,lenV];exact hl,by simpa using rv⟩) (fun b u z=>by have z':(none:Option HO)=some u:=z;cases z') (fun b z=>absurd rfl z) fun z=>absurd rfl z
 | none =>
  refine core (fun b=>if b=a then some (.frz { cls:=.type "list", data:=.seq vs.toArray } (.lst (ns.map V.int))) else none) (fun b=>?_) (.inl (.inr ⟨{ cls:=.type "list", data:=.seq vs.toArray },if_pos rfl⟩)) (fun b u z=>?_) (fun b z=>?_) fun _=>hk
  ·by_cases hb:b=a
   ·exact .inr ⟨_,_,if_pos hb⟩
   ·exact .inl (if_neg hb)
  ·by_cases hb:b=a
   ·have z':=(if_pos hb).symm.trans z
    cases z'
    subst hb
    exact⟨ha,by rw[Aj];exact hl,vs,_,rv,ha⟩
   ·have z':=(if_neg hb).symm.trans z
    cases z'
  ·by_cases hb:b=a
   ·exact hb
   ·exact absurd (if_neg hb) z
end L2
namespace L2
open PySem PySem.Spec PyProof.Rows
theorem walk_of {l:PySem.W.OpenLaw}{n k:Nat}{q:Program}{loose:List Str}{XP:(Str->Option Value)->Heap->Prop}{YP:World->Heap->Prop}{d:DefRec}{K:Params->PySem.W.Frag}{CX:World->CXT}{sp:World->Sp}{x:Str}
 (hn:l.most=some n)(hn2:n<=sizeLine)(hdf:d.params.defaults=[])(hr:Room k callerA)
 (hY:∀(w:World)(h:Heap),YP w h->(K w.params).In h)
 (F:∀(w:World) (mg:Str->Option Value)(fa:Addr)(h:Heap),(K w.params).In h->h.Ns mainGlobals mg->mg d.name=some (.ref fa) ->
   ∃ fd:FuncData,(∀(s:Shared) (u:Value),BindsTo s fd ⟨[u],[]⟩ [(x,u)]) /\
    ∀ base:Heap,(K w.params).In base->base.Ns mainGlobals mg->FnOk l.prog w (K w.params) mg base (CX w) k fa fd [x] (sp w))
 (hsp:∀(w:World)(H:Hp)(a:Addr) (ns:List Int),ns.length<=n->Only H->SqL (K w.params) H a (ns.map V.int)->sp w [.ref a] H (fun v _=>v=.bl true) fun _ _ _=>False)
 (hCX:∀(w:World)(H:Hp)(s:Shared) (e:Value)(s':Shared),CX w [] H s (fun _ _ _=>False) e s'->False) :
 PySem.W.WalkO q loose XP YP l.row.toRowW d [] (fun f vs=>PySem.call f vs):=by
 refine Att.attach_call hn hdf fun w s₀ s₁ mg mb fa o pm cd doc a vs ns G Y ho hd hcd hmg hobj hints hlen hg=>?_
 have KX:=hY w _ Y
 obtain⟨fd,hb,hF⟩:=F w mg fa _ KX G.T.g hmg
 exact h16 KX G.T.g G.T.b G.T.builtins G.T.nolimit hg hobj hints (FQ hlen hn2) hr hF hb (fun H hO hS=>hsp w H a ns hlen hO hS) fun H e s'=>hCX w H s₁ e s'
end L2
namespace L2
open PySem PySem.Spec PyProof.Rows
def c44 (s:Stmt) (j:Nat):Stmt:=match s with
 | .ClassDef _ _ _ body _ _ _ _ _ _ _=>body.getD j (.Pass ⟨0,0,0,0⟩)
 | _=>.Pass ⟨0,0,0,0⟩
def a43 (s:Stmt):Arguments:=match s with
 | .FunctionDef _ a _ _ _ _ _ _ _ _=>a
 | _=>{ posonlyargs:=[],args:=[],vararg:=none,kwonlyargs:=[],kw_defaults:=[],kwarg:=none,defaults:=[] }
def a42 (s:Stmt):List Stmt:=match s with
 | .FunctionDef _ _ b _ _ _ _ _ _ _=>b
 | _=>[]
def a09 (s:Stmt):Scope:=match s with
 | .FunctionDef _ _ _ _ _ _ sc _ _ _=>sc
 | _=>{ kind:=.function,names:=[],isGenerator:=false,isCoroutine:=false }
abbrev CX0:CXT:=fun _ _ _ _ _ _=>False
abbrev E0:XK:=fun _ _ _=>False
theorem g89 {X:Cx}:c92 CX0 X E0:=fun _ _ _ _ _ _ _ h=>h.elim
structure Fun (K:PySem.W.Frag) (x qual:Str)(st:Stmt)(f:Addr)(fd:FuncData):Prop where
 ex:∃(oc:Value)(od:Option Addr) (kV doc pm:Value)(an:Option Addr) (cdv ct:Value)(osl:Array (Option Value)),
  fd=PySem.W.fnOf x qual (a43 st) (a42 st) (a09 st) .none kV doc pm an cdv ct/\K.lookup f=some ⟨oc,od,.func fd,osl⟩/\PySem.W.codeIn K cdv qual=true
 kp:PySem.W.keepIn K (.ref f)=true
section
variable {P:Program}{w:World}{K:PySem.W.Frag}{mg:Str->Option Value}{base:Heap}
theorem Fun.ok {x qual:Str}{st:Stmt}{f:Addr}{fd:FuncData}{N ps:List Str}{k:Nat}{sp:Sp}(F:Fun K x qual st f fd)(S:FnScope N ps (a09 st))(len:∀ vs H Q E,sp vs H Q E->vs.length=ps.length)
 (hbody:∀(cdv:Value)(A:Around) (outer:List Env)(s:Shared)(H:Hp) (vs:List V)(Q:VK)(E:XK),Room k (A.deeper (envOfC qual (a09 st) s.heap.objs.size f cdv))->sp vs H Q E ->
   ∃ t,PSs (i62 CX0 P w K mg base N qual (a09 st) f cdv A outer s H E).nox (a42 st) t/\t { nx:=fun _ H'=>Q .non H',rt:=Q } (start N vs) H):FnOk P w K mg base CX0 (k+1) f fd ps sp:=by
 obtain⟨oc,od,kV,doc,pm,an,cdv,ct,osl,rfl,lk,hcd⟩:=F.ex
 refine fn_of lk hcd S len fun A outer s H vs Q E hr hsp=>?_
 obtain⟨t,h,q⟩:=hbody cdv A outer s H vs Q E hr hsp
 exact⟨t,h.nox,q⟩
theorem Fun.binds {x qual:Str}{st:Stmt}{f:Addr}{fd:FuncData}{ps:List Str}(F:Fun K x qual st f fd)
 (h:∀(kV doc pm:Value)(an:Option Addr) (cdv ct:Value) (us:List Value),us.length=ps.length->bindArgs (PySem.W.fnOf x qual (a43 st) (a42 st) (a09 st) .none kV doc pm an cdv ct) ⟨us,[]⟩=pure (ps.zip us)):Binds K fd ps []:=by
 obtain⟨oc,od,kV,doc,pm,an,cdv,ct,osl,rfl,lk,hcd⟩:=F.ex
 exact .all (h kV doc pm an cdv ct)
theorem a57 {x qual:Str}{st:Stmt}{f:Addr}{oc:Value}{od an:Option Addr}{osl:Array (Option Value)}{kV doc pm cdv ct:Value}(l:K.lookup f=some ⟨oc,od,.func (PySem.W.fnOf x qual (a43 st) (a42 st) (a09 st) .none kV doc pm an cdv ct),osl⟩)
 (c:PySem.W.codeIn K cdv qual=true)(k:PySem.W.keepIn K (.ref f)=true):Fun K x qual st f (PySem.W.fnOf x qual (a43 st) (a42 st) (a09 st) .none kV doc pm an cdv ct):=⟨⟨oc,od,kV,doc,pm,an,cdv,ct,osl,rfl,l,c⟩,k⟩
end
theorem d73 {A:Around}{k:Nat}(hr:Room k A):A.units+1 < cLine:=Nat.lt_of_le_of_lt (Nat.add_le_add_left (by decide:1<=64) _) hr.units
section
variable {X:Cx}
theorem pv (i:Nat){x:Str}{pos:Pos}(hN:X.N[i]?=some x:=by rfl)(hv:Vis X.env.scope x:=by first | exact Or.inl rfl | exact Or.inr (Or.inl rfl) | exact Or.inr (Or.inr rfl))(hd:(x == ("__debug__" : Str))=false:=by decide)
 (hcd:(x == ("__classdict__" : Str))=false:=by decide):PE X (.Name x pos) (tVar i):=j15 hN hv hd hcd
end
theorem b00 {A B:Prop}(h:B):if false=true then A else B:=by
 rw[if_neg Fx]
 exact h
theorem c01 {A B:Prop}(h:A):if true=true then A else B:=by
 rw[if_pos rfl]
 exact h
theorem a71 {c A B:Prop} [Decidable c] (h1:c->A)(h2:¬ c->B):if c then A else B:=by
 by_cases h:c
 ·rw[if_pos h]
  exact h1 h
 ·rw[if_neg h]
  exact h2 h
theorem e62 {c A B:Prop} [Decidable c] (hc:c)(h:B):if (!decide c)=true then A else B:=by
 rw[Az hc]
 exact b00 h
def Same (H H':Hp):Prop:=∀ b o,H b=some o->H' b=some o
theorem Same.refl (H:Hp):Same H H:=fun _ _ h=>h
theorem Same.trans {H H1 H2:Hp}(a:Same H H1)(b:Same H1 H2):Same H H2:=fun c o h=>b c o (a c o h)
theorem Same.free {H H':Hp}(e:Same H H'){l:Addr}(h:H' l=Option.none):H l=Option.none:=by
 cases q:H l with
 | none=>rfl
 | some o =>
  rw[e l o q] at h
  cases h
theorem Same.seq {K:PySem.W.Frag}{H H':Hp}{a:Addr}{xs:List V}(e:Same H H')(h:SqL K H a xs):SqL K H' a xs:=by
 rcases h with(h | ⟨o,h⟩) | h
 ·exact .inl (.inl (e _ _ h))
 ·exact .inl (.inr ⟨o,e _ _ h⟩)
 ·exact .inr h
end L2
namespace L2
open PySem PySem.Spec PyProof.Rows
section
variable {X:Cx}
end
section
variable {κ:Type} [DecidableEq κ]
theorem g88 {kvs:List (κ×V)}{k:κ}(h:a98 kvs k=none):¬ k∈kvs.map (·.1):=by
 intro m
 obtain⟨p,hp,e⟩:=Ez.mp m
 have q:(kvs.any fun kv=>decide (kv.1=k))=true:=List.any_eq_true.mpr ⟨p,hp,Az e⟩
 rw[b22,h] at q
 exact absurd q (by simp)
end
end L2
namespace L2
open PySem PySem.Spec PyProof.Rows
theorem a97 {env:Env}:∀ {names:List (Str×NameKind)}{x:Str}{k:NameKind},(∀ q∈names,q.2≠.cell) ->
 (names.map fun(n,k)=>if (k == NameKind.free && env.scope.kind == .function && env.kindOf n == some .cell) then(n,NameKind.cell) else(n,k)).lookup x=some k->(k=.cell∨k=.free) ->
 names.lookup x=some .free
 | [],_,_,_,h,_=>by simp at h
 | (n,k0)::r,x,k,hc,h,hk=>by
  have ih:=@a97 env r x k (fun q hq=>hc q (BX _ hq))
  have hn0:k0≠.cell:=hc (n,k0) BZ
  rw[CJ] at h
  cases hx:x == n with
  | true =>
   rw[List.lookup_cons,hx]
   by_cases hcnd:(k0 == NameKind.free && env.scope.kind == .function && env.kindOf n == some .cell)=true
   ·have hf:k0=.free:=by
     have:=(Bool.and_eq_true _ _ ▸ (Bool.and_eq_true _ _ ▸ hcnd).1).1
     simpa using this
    simp[hf]
   ·simp only[if_neg hcnd,List.lookup_cons,hx] at h
    have e:k0=k:=by simpa using h
    subst e
    rcases hk with z | z
    ·exact absurd z hn0
    ·simp[z]
  | false =>
   rw[List.lookup_cons,hx]
   by_cases hcnd:(k0 == NameKind.free && env.scope.kind == .function && env.kindOf n == some .cell)=true
   ·simp only[if_pos hcnd,List.lookup_cons,hx] at h
    exact ih h hk
   ·simp only[if_neg hcnd,List.lookup_cons,hx] at h
    exact ih h hk
def d97 (env:Env):List (Str×NameKind)->List (Str×Addr)->List (Str×Addr)
 | [],acc=>acc
 | (n,k)::r,acc=>if k == .free then d97 env r ((n,(env.cells.lookup n).getD 0)::acc) else d97 env r acc
theorem c45 {env:Env}{f:Str×NameKind->List (Str×Addr)->Sem (ForInStep (List (Str×Addr)))}
 (hf:∀ n k acc,f (n,k) acc=if (k == NameKind.free)=true then(cellOf env n >>= fun c=>pure (.yield ((n,c)::acc))) else pure (.yield acc)) :
 ∀(names:List (Str×NameKind)) (acc:List (Str×Addr)),(∀ q∈names,q.2=.free->∃ c,env.cells.lookup q.1=some c)->forIn names acc f=pure (d97 env names acc)
 | [],acc,_=>rfl
 | (n,k)::r,acc,h=>by
  rw[List.forIn_cons,hf]
  have hr:∀ q∈r,q.2=.free->∃ c,env.cells.lookup q.1=some c:=fun q hq=>h q (BX _ hq)
  by_cases hk:(k == NameKind.free)=true
  ·obtain⟨c,hc⟩:=h (n,k) BZ (by simpa using hk)
   rw[if_pos hk]
   have e:cellOf env n=pure c:=by unfold cellOf;rw[hc]
   rw[e,pure_bind,pure_bind]
   show forIn r ((n,c)::acc) f=_
   rw[c45 hf r _ hr]
   show _=pure (if (k == NameKind.free)=true then d97 env r ((n,(env.cells.lookup n).getD 0)::acc) else d97 env r acc)
   rw[if_pos hk,hc];rfl
  ·rw[if_neg hk,pure_bind]
   show forIn r acc f=_
   rw[c45 hf r _ hr]
   show _=pure (if (k == NameKind.free)=true then _ else d97 env r acc)
   rw[if_neg hk]
theorem c38 {scope:Scope}{env:Env}(h:∀ q∈scope.names,q.2=.free->∃ c,env.cells.lookup q.1=some c):closureFor scope env=pure (d97 env scope.names []):=by
 unfold closureFor
 dsimp only
 rw[c45 (env:=env) (fun n k acc=>rfl) scope.names [] h]
 first | rfl | simp
theorem d53 {env:Env}:∀(names:List (Str×NameKind)) (acc:List (Str×Addr)),(∀ p∈acc,env.cells.lookup p.1=some p.2)->(∀ q∈names,q.2=.free->∃ c,env.cells.lookup q.1=some c) ->
 ∀ p∈d97 env names acc,env.cells.lookup p.1=some p.2
 | [],acc,ha,_,p,hp=>ha p hp
 | (n,k)::r,acc,ha,hn,p,hp=>by
  have hr:∀ q∈r,q.2=.free->∃ c,env.cells.lookup q.1=some c:=fun q hq=>hn q (BX _ hq)
  unfold d97 at hp
  by_cases hk:(k == NameKind.free)=true
  ·rw[if_pos hk] at hp
   obtain⟨c,hc⟩:=hn (n,k) BZ (by simpa using hk)
   refine d53 r _ (fun q hq=>?_) hr p hp
   rcases Cj.mp hq with e | hq
   ·subst e
    show env.cells.lookup n=some ((env.cells.lookup n).getD 0)
    rw[hc];rfl
   ·exact ha q hq
  ·rw[if_neg hk] at hp
   exact d53 r _ ha hr p hp
theorem d44 {env:Env}{y:Str}:∀(names:List (Str×NameKind)) (acc:List (Str×Addr)),((y,NameKind.free)∈names∨∃ c,(y,c)∈acc)->∃ c,(y,c)∈d97 env names acc
 | [],acc,h=>by
  rcases h with h | h
  ·exact nomatch h
  ·exact h
 | (n,k)::r,acc,h=>by
  unfold d97
  by_cases hk:(k == NameKind.free)=true
  ·rw[if_pos hk]
   refine d44 r _ ?_
   rcases h with h | ⟨c,h⟩
   ·rcases Cj.mp h with e | h
    ·cases e;exact .inr ⟨_,BZ⟩
    ·exact .inl h
   ·exact .inr ⟨c,BX _ h⟩
  ·rw[if_neg hk]
   refine d44 r _ ?_
   rcases h with h | h
   ·rcases Cj.mp h with e | h
    ·cases e;exact absurd rfl hk
    ·exact .inl h
   ·exact .inr h
theorem c09 {α:Type}{y:Str}{c:α}:∀ {l:List (Str×α)},(y,c)∈l->∃ c',l.lookup y=some c'
 | [],h=>nomatch h
 | (n,d)::r,h=>by
  rw[List.lookup_cons]
  cases hx:y == n with
  | true=>exact⟨d,rfl⟩
  | false =>
   rcases Cj.mp h with e | h
   ·cases e;simp at hx
   ·exact c09 h
structure CompScopeG (osc:Scope) (oN:List Str)(scope:Scope) (x:Str) (ok:Str->Prop):Prop where
 kind:scope.kind=.function
 nocell:∀ q∈scope.names,q.2≠.cell
 names:∀ q∈scope.names,q.2=.local->scope.names.lookup q.1=some .local
 loc:scope.names.lookup x=some .local
 cap:∀ q∈scope.names,q.2=.free->osc.names.lookup q.1=some .cell∨osc.names.lookup q.1=some .free
 own:∀ q∈scope.names,q.2=.local->ok q.1∨q.1∉oN
abbrev b58 (osc:Scope) (oN:List Str)(scope:Scope) (x:Str):Prop:=CompScopeG osc oN scope x (fun y=>y=x)
def a44 (X:Cx)(scope:Scope) (N:List Str)(C:Addr) (fp:List Addr)(s:Shared)(H:Hp):Cx where
 prog:=X.prog
 w:=X.w
 K:=X.K
 mg:=X.mg
 base:=X.base
 A:=X.A
 N:=N
 s₀:=s
 H₀:=H
 env:=compEnvC scope (d97 X.env scope.names []) C X.env
 outer:=X.stack
 stack:=X.stack
 ex:=fp
 fn:=fun _=>false
 calm:=X.calm
 pn:=[]
 xe:=fun _ _=>False
section
variable {X:Cx}{pins:List (Addr×Obj)}{σ:St}{H:Hp}{s:Shared}{scope:Scope}{x:Str}{ok:Str->Prop}{N:List Str}{C:Addr}{fp:List Addr}
theorem b68 (I:Inv X pins σ H s)(S:CompScopeG X.env.scope X.N scope x ok):∀ q∈scope.names,q.2=.free->∃ c,X.env.cells.lookup q.1=some c :=
 fun q hq hf=>I.ok.has q.1 (S.cap q hq hf)
theorem a87 (I:Inv X pins σ H s)(S:CompScopeG X.env.scope X.N scope x ok){y:Str}{c:Addr}(h:(d97 X.env scope.names []).lookup y=some c):X.env.cells.lookup y=some c :=
 d53 scope.names [] (fun _ z=>nomatch z) (b68 I S) (y,c) (PySem.mem_of_lookup h)
theorem e66 (I:Inv X pins σ H s)(S:CompScopeG X.env.scope X.N scope x ok){y:Str}(h:scope.names.lookup y=some .free):∃ c,(d97 X.env scope.names []).lookup y=some c/\X.env.cells.lookup y=some c:=by
 obtain⟨c,hc⟩:=d44 (env:=X.env) scope.names [] (.inl (PySem.mem_of_lookup h))
 obtain⟨c',hc'⟩:=c09 hc
 exact⟨c',hc',a87 I S hc'⟩
theorem b97 (I:Inv X pins σ H s)(S:CompScopeG X.env.scope X.N scope x ok)(hf:∀ b∈fp,f66 X pins H b)(ho:∀ b∈fp,∃ o,s.heap.get? b=some o)(hC:s.heap.objs.size<=C):(a44 X scope N C fp s H).Ok where
 mod:=I.ok.mod
 kind:=S.kind
 glob:=I.ok.glob
 blt:=I.ok.blt
 above:=hC
 inj:=fun y z c h1 h2=>I.ok.inj y z c (a87 I S h1) (a87 I S h2)
 has:=fun y hy=>by
  have hy':(relabel scope X.env).names.lookup y=some .cell∨(relabel scope X.env).names.lookup y=some .free:=hy
  have hfree:scope.names.lookup y=some .free:=by
   rcases hy' with z | z
   ·exact a97 S.nocell z (.inl rfl)
   ·exact a97 S.nocell z (.inr rfl)
  obtain⟨c,hc,_⟩:=e66 I S hfree
  exact⟨c,hc⟩
 cab:=fun y c h=>by
  have h':false=true:=h
  cases h'
 hd:=I.ok.hd
 frames:=I.ok.frames
 stk:=.inl rfl
 exf:=fun b hb=>by
  obtain⟨o,e⟩:=ho b hb
  obtain⟨_,_,_,_,h4,_⟩:=hf b hb
  exact⟨Nat.ne_of_lt (Nat.lt_of_lt_of_le (Ej e) hC),fun y c h=>h4 y c (a87 I S h)⟩
 bs:=I.bs
 bsz:=FQ I.ok.bsz I.sz
 noex:=fun b o e hb=>by
  obtain⟨_,_,_,h3,_,_⟩:=hf b hb
  rcases h3 with z | z
  ·exact I.ok.noex b o e z
  ·exact absurd (Nat.lt_of_lt_of_le (Ej e) (FQ I.ok.bsz z)) (Nat.lt_irrefl _)
 exfs:=fun b hb hz=>by
  obtain⟨_,h1,h2,_,_,_⟩:=hf b hb
  rcases Cj.mp (I.stkSub b hz) with e | e
  ·exact h1 e
  ·exact h2 e
 funs:=I.stack
 frf:=I.stkFree
theorem c43 {h1:Heap}{t:Nat}{m0:Str->Option Value}{σ0:St}(I:Inv X pins σ H s)(S:CompScopeG X.env.scope X.N scope x ok)(hf:∀ b∈fp,f66 X pins H b)(ho:∀ b∈fp,∃ o,s.heap.get? b=some o)
 (hC:s.heap.objs.size<=C)(kp:∀ b o,s.heap.get? b=some o->h1.get? b=some o)(hns:h1.Ns C m0)(hl:σ0.length=N.length)
 (sub:∀(i:Nat) (y:Str) (v:V),N[i]?=some y->σ0[i]?=some (some v)->¬ ok y/\∃ j:Nat,X.N[j]?=some y/\σ[j]?=some (some v)) :
 Inv (a44 X scope N C fp s H) [] σ0 H { s with heap:=h1,toks:=t } where
 ok:=b97 I S hf ho hC
 os:=rfl
 bare:=I.bare
 base:=Un.kept kp
 loc:=by
  refine⟨m0,hns,fun i y v e1 e2 e3=>?_⟩
  obtain⟨hyx,j,ej,es⟩:=sub i y v e1 e2
  have e3':(relabel scope X.env).names.lookup y=some .local∨(relabel scope X.env).names.lookup y=some .cell∨(relabel scope X.env).names.lookup y=some .free:=e3
  have hfree:((relabel scope X.env).names.lookup y=some .cell∨(relabel scope X.env).names.lookup y=some .free)/\scope.names.lookup y=some .free:=by
   rcases e3' with z | z | z
   ·exfalso
    have hm:=PySem.mem_of_lookup z
    obtain⟨q,hq,eq⟩:=Ez.mp hm
    obtain⟨n,k⟩:=q
    dsimp only at eq
    split at eq
    ·cases eq
    ·cases eq
     rcases S.own _ hq rfl with w | w
     ·exact hyx w
     ·exact w (BQ ej)
   ·exact⟨.inl z,a97 S.nocell z (.inl rfl)⟩
   ·exact⟨.inr z,a97 S.nocell z (.inr rfl)⟩
  obtain⟨hkind,hfr⟩:=hfree
  obtain⟨c,hc,hxc⟩:=e66 I S hfr
  have hcap:=S.cap _ (PySem.mem_of_lookup hfr) rfl
  obtain⟨m,hn,hl'⟩:=I.loc
  obtain⟨u,r,l⟩:=hl' j y v ej es (.inr hcap)
  refine⟨u,r,.inr ⟨hkind,c,hc,?_⟩⟩
  rcases l with⟨lk,_⟩ | ⟨_,c',ec',z⟩
  ·have lk':X.env.scope.names.lookup y=some .local:=lk
   rcases hcap with w | w
   ·have w':X.env.scope.names.lookup y=some .cell:=w
    rw[lk'] at w';cases w'
   ·have w':X.env.scope.names.lookup y=some .free:=w
    rw[lk'] at w';cases w'
  ·rw[hxc] at ec';cases ec'
   obtain⟨o,e,d⟩:=z
   exact⟨o,kp _ _ e,d⟩
 cell:=fun y c e=>by
  obtain⟨v,o,e',d⟩:=I.cell y c (a87 I S e)
  exact⟨v,o,kp _ _ e',d⟩
 free:=I.hok.fresh hC
 freeC:=fun y c e=>I.freeC y c (a87 I S e)
 pin:=fun p hp=>nomatch (show p∈([]:List (Addr×Obj)) from hp)
 hok:=I.hok.kept kp
 len:=hl
end
section
variable {prog:Program}{w:World}{A:Around}{R:Result->Shared->Prop}{s:Shared}
theorem e32 {elt target iter:Expr}{scope:Scope}{pos:Pos}{it acc:Value}{env:Env} (Iv:Nat->Shared->Prop)
 (turn:∀ n s,Iv n s->wpAny (model prog w) A (pyNext it) (fun r s₁=>match r with
   | none=>R (.ok .next) s₁
   | some v=>wpAny (model prog w) A (letOwnedTupleGo target it v) (fun _ s₁'=>wpAny (model prog w) A (assign target env v) (fun _ s₂=>wpAny (model prog w) A (eval elt env) (fun x s₃ =>
    wpAny (model prog w) A (call (.builtin "list.append") [acc,x]) (fun _ s₄=>∃ m,m < n/\Iv m s₄) (notedBy (model prog w) A env fun e s'=>R (.error e) s') s₃)
    (notedBy (model prog w) A env fun e s'=>R (.error e) s') s₂) (notedBy (model prog w) A env fun e s'=>R (.error e) s') s₁') (notedBy (model prog w) A env fun e s'=>R (.error e) s') s₁)
   (notedBy (model prog w) A env fun e s'=>R (.error e) s') s)
 (n:Nat)(h:Iv n s):codeAny (model prog w) A (.compLoop (.ListComp elt [⟨target,iter,[],0⟩] scope pos) 0 it acc env) R s:=by
 refine codeAny_loop rfl Iv (fun n s hI=>?_) n h
 show wpAny _ _ ((compTurn (.ListComp elt [⟨target,iter,[],0⟩] scope pos) 0 it acc env).onRaise (fun x=>do noteFrame x env;theTreesLotGoes x)) _ _ s
 refine wpAny_noted ?_
 rw[compTurn_list1]
 refine AQ (wpAny_standAt (AQ (Dz (turn n s hI) (fun r s₁ h₁=>?_) fun _ _ h'=>h')))
 cases r with
 | none=>exact AX h₁
 | some v =>
  refine AQ (Dz h₁ (fun _ s₁' h₁'=>?_) fun _ _ h'=>h')
  exact AQ (Dz h₁' (fun _ s₂ h₂=>AQ (AQ (Dz h₂ (fun x s₃ h₃=>AQ (Dz h₃
   (fun _ s₄ h₄=>AX (AX ⟨rfl,h₄⟩)) fun _ _ h'=>h')) fun _ _ h'=>h'))) fun _ _ h'=>h')
end
def i92 (wi:TI)(up:St->V->St)(te:TE):TE:=fun σ H Q=>wi σ H fun J H1=>∃ W:Nat->Nat->List V->Hp->Prop,(∃ m,W 0 m [] H1)/\∀ i m ys H,W i m ys H ->
 (J.stop i H/\∀ D,H D=none->Q (.ref D) (upd H D (.lst ys))) ∨
 (J.go i H/\ys.length < sizeLine/\∃ Nx:V->Hp->Prop,(∀ y H3,Nx y H3->∃ m',m' < m/\W (i+1) m' (ys++[y]) H3)/\∀ x H',J.yld i H x H'->te (up σ x) H' Nx)
section
variable {X:Cx}{elt iter:Expr}{x:Str}{px pos:Pos}{scope:Scope}{wi:TI}{te:TE}{N:List Str}{k:Nat}{up:St->St}
theorem h58 (S:b58 X.env.scope X.N scope x)(hc:X.calm=true)(hN:N.Nodup)(hk:N[k]?=some x)
 (hup:∀ σ:St,σ.length=X.N.length->(up σ).length=N.length/\∀(i:Nat) (y:Str) (v:V),N[i]?=some y->(up σ)[i]?=some (some v)->y≠x/\∃ j:Nat,X.N[j]?=some y/\σ[j]?=some (some v))
 (hi:PI X (.Name x px) iter wi)(he:∀ C fp s H,PE (a44 X scope N C fp s H) elt te)(hs:∀ v,foldedSetIterable iter X.env v=pure v) :
 PE X (.ListComp elt [⟨.Name x px,iter,[],0⟩] scope pos) (i92 wi (fun σ v=>(up σ).set k (some v)) te):=by
 try constructor
 intro pins s σ H Q I h
 rw[eval_ListComp]
 refine wpAny_comprehension_free (use:=none) rfl hs (c38 (b68 I S)) S.kind S.names (thn (hi pins s σ H _ I h) fun v s1 h1=>thn h1 fun itv s2 h2=>?_)
 obtain⟨it,fp,tn,J,H2,e,I2,T,st2,f2,W,⟨m0,w0⟩,turn⟩:=h2
 subst e
 refine Fq (wpAny_newFunctionEnv S.nocell (by intro y hy;simp at hy) (fun h₁ hns₁ hsb₁=>?_) S.kind)
 dsimp only at hns₁ hsb₁ ⊢
 generalize hH2:s2.heap.push { cls:=.type "list", dict:=none,data:=.seq ([]:List Value).toArray }=HH at hns₁ hsb₁ ⊢
 have hC:HH.objs.size=s2.heap.objs.size+1:=by rw[← hH2,Heap.size_push]
 have hDC:s2.heap.objs.size≠HH.objs.size:=by rw[hC];exact Nat.ne_of_lt (Nat.lt_succ_self _)
 have hCle:s2.heap.objs.size<=HH.objs.size:=by rw[hC];exact FX _
 have below:∀ b,b < s2.heap.objs.size->b≠HH.objs.size/\b≠s2.heap.objs.size:=fun b hb=>⟨by rw[hC];exact Nat.ne_of_lt (Nat.lt_succ_of_lt hb),Nat.ne_of_lt hb⟩
 have old:∀ b o,s2.heap.get? b=some o->h₁.get? b=some o:=fun b o e=>hsb₁.extBut b o (below b (Ej e)).1 (Aq _ (hH2 ▸ Aq _ e))
 have hacc:h₁.get? s2.heap.objs.size=some { cls:=.type "list", data:=.seq ([]:List Value).toArray 0 }:=hsb₁.extBut _ _ hDC (Aq _ (hH2 ▸ DJ _ rfl))
 have ho2:∀ b∈fp,∃ o,s2.heap.get? b=some o:=fun b hb=>let ⟨o,e,_⟩:=T.obj _ _ st2 b hb;⟨o,e⟩
 have fpD:∀ b∈fp,b≠s2.heap.objs.size:=fun b hb=>let ⟨o,e⟩:=ho2 b hb;(below b (Ej e)).2
 obtain⟨hul,husub⟩:=hup σ I2.len
 have st1:tn 0 h₁:=T.keep _ _ _ st2 fun b _ o e=>old b o e
 have I3:Inv (a44 X scope N HH.objs.size fp s2 H2) [] (up σ) H2 { s2 with heap:=h₁,toks:=s2.toks+([]:List (Str×Value)).length }:=c43 I2 S f2 ho2 hCle old hns₁ hul husub
 have hD2:H2 s2.heap.objs.size=none:=I2.hok.fresh (AZ _)
 have loop:codeAny (model X.prog X.w) X.A (.compLoop (.ListComp elt [⟨.Name x px,iter,[],0⟩] scope pos) 0 (.ref it) (.ref s2.heap.objs.size) (compEnvC scope (d97 X.env scope.names []) HH.objs.size X.env))
  (compPost (model X.prog X.w) X.A X.xe none (EP X pins σ Q) (.ref s2.heap.objs.size) HH.objs.size) { s2 with heap:=h₁,toks:=s2.toks+([]:List (Str×Value)).length }:=by
  refine e32 (fun n s'=>∃(i:Nat) (ys:List V) (its:List Value) (cn:Nat)(H':Hp),Inv (a44 X scope N HH.objs.size fp s2 H2) [] (up σ) H' s'/\tn i s'.heap/\(∀ b∈fp,H' b=none)/\H' s2.heap.objs.size=none /\
   s'.heap.get? s2.heap.objs.size=some { cls:=.type "list", data:=.seq its.toArray cn }/\Vals ys its/\ys.length<=sizeLine/\W i n ys H') ?_ m0
   ⟨0,[],[],0,H2,I3,st1,fun b hb=>(f2 b hb).1,hD2,hacc,.nil,FJ _,w0⟩
  rintro n s3 ⟨i,ys,its,cn,H3,J3,st3,fr3,hD3,hob3,rv3,hz3,w3⟩
  have pinD:∀ {H':Hp}{s':Shared}{σ':St}{its':List Value}{cn':Nat},Inv (a44 X scope N HH.objs.size fp s2 H2) [] σ' H' s'->H' s2.heap.objs.size=none->s'.heap.get? s2.heap.objs.size=some { cls:=.type "list", data:=.seq its'.toArray cn' } ->
   Inv (a44 X scope N HH.objs.size fp s2 H2) [(s2.heap.objs.size,{ cls:=.type "list", data:=.seq its'.toArray cn' })] σ' H' s':=fun J hD hob=>J.pins_of fun p hp=>by
   have e:p=(s2.heap.objs.size,{ cls:=.type "list", data:=.seq _ _ }):=Ax.mp hp
   subst e
   refine⟨hob,hD,hDC,fun z=>?_,fun v z=>by cases (show Data.seq _ _=Data.cell v from z)⟩
   exact absurd rfl ((below _ (by
    obtain⟨_,o,ho,_⟩:=(show s2.heap.FunFrames X.base X.stack from I2.stack).mem z
    exact Ej ho)).2)
  have J3':=pinD J3 hD3 hob3
  have fpk:∀ {H':Hp},(∀ b∈fp,H' b=none)->∀ b∈fp,f66 (a44 X scope N HH.objs.size fp s2 H2) [(s2.heap.objs.size,{ cls:=.type "list", data:=.seq its.toArray cn })] H' b:=fun hn b hb=>by
   obtain⟨o,e⟩:=ho2 b hb
   refine⟨hn b hb,(below b (Ej e)).1,(b97 (N:=N) I2 S f2 ho2 hCle).exfs b hb,.inl hb,fun y c ec=>((b97 (N:=N) I2 S f2 ho2 hCle).exf b hb).2 y c ec,fun p hp=>?_⟩
   have e':p=(s2.heap.objs.size,{ cls:=.type "list", data:=.seq its.toArray cn }):=Ax.mp hp
   subst e'
   exact(fpD b hb).symm
  rcases turn i n ys H3 w3 with⟨stop,fin⟩ | ⟨go,hlt,Nx,hNx,step⟩
  ·refine Dz (T.done (a44 X scope N HH.objs.size fp s2 H2) rfl rfl rfl hc i _ s3 (up σ) H3 _ J3' (fpk fr3) st3 stop) (fun r s4 ⟨hr,J4⟩=>?_) fun _ _ z=>z
   subst hr
   obtain⟨m4,hn4,_⟩:=J4.loc
   have hob4:=(J4.pin (s2.heap.objs.size,{ cls:=.type "list", data:=.seq its.toArray cn }) (by simp)).1
   refine⟨m4,hn4,fun h' sb=>?_⟩
   have kp:∀ b o,b≠HH.objs.size->s4.heap.get? b=some o->h'.get? b=some o:=fun b o hb e=>(sb.2 b hb).trans e
   have hne:∀ b u,H3 b=some u->b≠s2.heap.objs.size:=fun b u q=>a01 q hD3
   have hneC:∀ b u,H3 b=some u->b≠HH.objs.size:=fun b u q=>a01 q J4.free
   have un:Un (frs X.stack) fp H2 (upd H3 s2.heap.objs.size (.lst ys)) s2.heap h':=by
    have u0:Un (frs X.stack) fp H2 H3 s2.heap s4.heap:=J4.base
    refine⟨fun b o e n hb hx=>kp b o (below b (Ej e)).1 (u0.keep b o e n hb hx),fun b o e n hb hx=>?_,fun b o e n hx=>?_,fun b o e hx=>?_,fun b xs q=>?_,fun b o u q=>?_,fun b ps q=>?_⟩
    ·obtain⟨sl,e1⟩:=u0.slot b o e n hb hx
     exact⟨sl,kp b _ (below b (Ej e)).1 e1⟩
    ·rw[a06 (below b (Ej e)).2];exact u0.free b o e n hx
    ·obtain⟨o',e1⟩:=u0.there b o e hx
     exact⟨o',kp b _ (below b (Ej e)).1 e1⟩
    ·have q':=u0.tups b xs q
     rw[a06 (hne b _ q')];exact q'
    ·have q':=u0.frzs b o u q
     rw[a06 (hne b _ q')];exact q'
    ·obtain⟨more,q'⟩:=u0.tbls b ps q
     exact⟨more,by rw[a06 (hne b _ q')];exact q'⟩
   have hok:HOk X.prog X.w (upd H3 s2.heap.objs.size (.lst ys)) h':=fun b u q=>by
    by_cases hb:b=s2.heap.objs.size
    ·subst hb
     rw[a02] at q;cases q
     exact⟨hz3,its,cn,rv3,kp _ _ hDC hob4⟩
    ·rw[a06 hb] at q
     refine(J4.hok b u q).stay (fun c v hc' r=>kp c v ?_ r) (fun c r=>by rw[a06 (hne c _ r)];exact r) fun c xs r=>by rw[a06 (hne c _ r)];exact r
     rcases hc' with z | z
     ·rw[z];exact hneC b u q
     ·exact hneC c _ z
   refine⟨.ref s2.heap.objs.size,upd H3 s2.heap.objs.size (.lst ys),I2.call' (s':={ s4 with heap:=h' }) (ch:=fp) J4.os un hok J4.bare fun b hb=>?_,rfl,fin _ hD3⟩
   obtain⟨_,g1,_,g3,g4,g5⟩:=f2 b hb
   exact⟨g3,g1,g4,g5⟩
  ·refine Dz (T.item (a44 X scope N HH.objs.size fp s2 H2) rfl rfl rfl hc i _ s3 (up σ) H3 _ J3' (fpk fr3) st3 go) (fun r s4 ⟨u,hr,h4⟩=>?_) fun _ _ z=>z
   subst hr
   refine Dz h4 (fun _ s5 ⟨y,H5,J5,r5,y5,st5,fr5⟩=>?_) fun _ _ z=>z
   have J5':=J5.pinned (fpk fr5) (T.obj _ _ st5)
   refine wpAny_assign_Name (c28 J5' hN hk (.inl (lookup_relabel_local S.loc)) r5 (fun s6 J6=>?_) (.inr (lookup_relabel_local S.loc)))
   refine Dz (he HH.objs.size fp s2 H2 _ s6 _ H5 Nx J6 (step y H5 y5)) (fun yu s7 ⟨z,H7,J7,r7,q7⟩=>?_) fun _ _ z=>z.elim
   obtain⟨m',hm',w7⟩:=hNx z H7 q7
   have pD:=J7.pin (s2.heap.objs.size,{ cls:=.type "list", data:=.seq its.toArray cn }) (by simp)
   have hlen:=rv3.length
   refine append_at (hsz:=by rw[List.size_toArray,← hlen];exact hz3) pD.1 fun h8 sb8 hob8=>?_
   have kp8:∀ b o,b≠s2.heap.objs.size->s7.heap.get? b=some o->h8.get? b=some o:=fun b o hb e=>(sb8.2 b hb).trans e
   have J7':Inv (a44 X scope N HH.objs.size fp s2 H2) [] (up σ) H7 s7:=(J7.weak (σ':=up σ) (by rw[List.length_set]) fun j v ej=>by
    by_cases hj:j=k
    ·subst hj
     exact absurd rfl (husub j x v hk ej).1
    ·rw[List.getElem?_set_ne (Ne.symm hj)];exact ej).pins_of fun p hp=>nomatch hp
   have J8:Inv (a44 X scope N HH.objs.size fp s2 H2) [] (up σ) H7 { s7 with heap:=h8 }:=J7'.turned (t':=s7.toks) kp8 pD.2.1 hDC (.inr (AZ _))
    (fun y' c ec z=>by
      obtain⟨v',q⟩:=I2.cell y' c (a87 I2 S ec)
      exact(below c q.lt).2 z) fun p hp=>nomatch hp
   have fr7:∀ b∈fp,s5.heap.get? b≠none->True:=fun _ _ _=>trivial
   refine⟨m',hm',i+1,ys++[z],its++[yu],cn+1,H7,J8,?_,fun b hb=>?_,pD.2.1,?_,rv3.append (.cons r7 .nil),?_,w7⟩
   ·refine T.keep _ _ _ st5 fun b hb o e=>kp8 b o (fpD b hb) ?_
    exact(J7.pin (b,o) (List.mem_append_right _ (List.mem_append_right _ (a65 hb e)))).1
   ·obtain⟨o,e,d⟩:=T.obj _ _ st5 b hb
    exact(J7.pin (b,o) (List.mem_append_right _ (List.mem_append_right _ (a65 hb e)))).2.1
   ·rw[hob8];simp
   ·rw[Bj,List.length_singleton];exact hlt
 exact codeAny_compStart_list loop (T.self _ 0 _ _ _ st1 loop)
theorem g43 (hx:x∉X.N)(σ:St)(hl:σ.length=X.N.length):(σ++[none]).length=(X.N++[x]).length /\
 ∀(i:Nat) (y:Str) (v:V),(X.N++[x])[i]?=some y->(σ++[none])[i]?=some (some v)->y≠x/\∃ j:Nat,X.N[j]?=some y/\σ[j]?=some (some v):=by
 refine⟨by rw[Bj,Bj,hl];rfl,fun i y v h1 h2=>?_⟩
 by_cases hi:i < σ.length
 ·rw[List.getElem?_append_left hi] at h2
  rw[List.getElem?_append_left (by omega)] at h1
  refine⟨fun z=>hx (z ▸ BQ h1),i,h1,h2⟩
 ·rw[List.getElem?_append_right (by omega)] at h2
  rcases Nat.eq_zero_or_pos (i-σ.length) with z | z
  ·rw[z] at h2;simp at h2
  ·rw[List.getElem?_eq_none (by show 1<=i-σ.length;omega)] at h2;cases h2
theorem a92 {osc:Scope}{oN ops:List Str}(SC:FnScope oN ops osc)(S:b58 osc oN scope x)(hx:x∉oN)(hi:PI X (.Name x px) iter wi)
 (he:∀ C fp s H,PE (a44 X scope (X.N++[x]) C fp s H) elt te)(hc:X.calm=true:=by rfl)(e1:X.env.scope=osc:=by rfl)(e2:X.N=oN:=by rfl)(hs:∀ v,foldedSetIterable iter X.env v=pure v:=by intro _;rfl) :
 PE X (.ListComp elt [⟨.Name x px,iter,[],0⟩] scope pos) (i92 wi (fun σ v=>(σ++[none]).set X.N.length (some v)) te):=by
 have hx':x∉X.N:=by rw[e2];exact hx
 have hnd:X.N.Nodup:=by rw[e2];exact SC.nd
 refine h58 (up:=fun σ=>σ++[none]) (by rw[e1,e2];exact S) hc (by rw[List.nodup_append];exact⟨hnd,by simp,by intro a ha b hb;simp at hb;subst hb;exact fun e=>hx' (e ▸ ha)⟩) (by simp) (g43 hx') hi he hs
end
theorem b66 {lo:Int}{n:Nat}{et:V->Hp->VK->Prop}{H:Hp}{fin:Addr->List V->Hp->Prop} (Pv:Nat->List V->Hp->Prop)(hn:n<=sizeLine)(h0:Pv 0 [] H)(hl:∀ i ys H,Pv i ys H->ys.length=i)
 (hs:∀ i ys H,i < n->Pv i ys H->et (.int (lo+i)) H fun y H3=>Pv (i+1) (ys++[y]) H3)(hd:∀ ys H,Pv n ys H->∀ D,H D=none->fin D ys H) :
 ∃ W:Nat->Nat->List V->Hp->Prop,(∃ m,W 0 m [] H)/\∀ i m ys H,W i m ys H ->
  ((Itr lo n).stop i H/\∀ D,H D=none->fin D ys H) ∨
  ((Itr lo n).go i H/\ys.length < sizeLine/\∃ Nx:V->Hp->Prop,(∀ y H3,Nx y H3->∃ m',m' < m/\W (i+1) m' (ys++[y]) H3)/\∀ x H',(Itr lo n).yld i H x H'->et x H' Nx):=by
 refine⟨fun i m ys H=>m=n-i/\i<=n/\Pv i ys H,⟨n,by simp,FJ _,h0⟩,?_⟩
 rintro i m ys H ⟨rfl,hi,p⟩
 by_cases hlt:i < n
 ·refine .inr ⟨hlt,by rw[hl i ys H p];omega,_,fun y H3 q=>⟨n-(i+1),by omega,rfl,hlt,q⟩,fun x H' q=>?_⟩
  obtain⟨e,q⟩:=q
  subst e q
  exact hs i ys _ hlt p
 ·have e:i=n:=by omega
  subst e
  exact .inl ⟨AZ _,hd ys H p⟩
theorem c82 {K:PySem.W.Frag}{a:Addr}{xs:List V}{et:V->Hp->VK->Prop}{H:Hp}{fin:Addr->List V->Hp->Prop} (Pv:Nat->List V->Hp->Prop)(hn:xs.length<=sizeLine)(h0:Pv 0 [] H)(hl:∀ i ys H,Pv i ys H->ys.length=i)
 (hq:∀ i ys H,i<=xs.length->Pv i ys H->SqL K H a xs)
 (hs:∀ i ys H v,xs[i]?=some v->Pv i ys H->et v H fun y H3=>Pv (i+1) (ys++[y]) H3)(hd:∀ ys H,Pv xs.length ys H->∀ D,H D=none->fin D ys H) :
 ∃ W:Nat->Nat->List V->Hp->Prop,(∃ m,W 0 m [] H)/\∀ i m ys H,W i m ys H ->
  ((Itl K a).stop i H/\∀ D,H D=none->fin D ys H) ∨
  ((Itl K a).go i H/\ys.length < sizeLine/\∃ Nx:V->Hp->Prop,(∀ y H3,Nx y H3->∃ m',m' < m/\W (i+1) m' (ys++[y]) H3)/\∀ x H',(Itl K a).yld i H x H'->et x H' Nx):=by
 refine⟨fun i m ys H=>m=xs.length-i/\i<=xs.length/\Pv i ys H,⟨xs.length,by simp,FJ _,h0⟩,?_⟩
 rintro i m ys H ⟨rfl,hi,p⟩
 have q:=hq i ys H hi p
 by_cases hlt:i < xs.length
 ·refine .inr ⟨⟨xs,xs[i],q,by simp[hlt]⟩,by rw[hl i ys H p];omega,_,fun y H3 q=>⟨xs.length-(i+1),by omega,rfl,hlt,q⟩,fun x H' yl=>?_⟩
  obtain⟨e,yl⟩:=yl
  subst e
  exact hs i ys _ x (yl xs q) p
 ·have e:i=xs.length:=by omega
  subst e
  exact .inl ⟨⟨xs,q,AZ _⟩,hd ys H p⟩
theorem d49 {K:PySem.W.Frag}{a:Addr}{xs:List V}{et:V->Hp->VK->Prop}{H:Hp}{fin:Addr->List V->Hp->Prop} (Pv:Nat->List V->Hp->Prop)(hn:xs.length<=sizeLine)(h0:Pv 0 [] H)(hl:∀ i ys H,Pv i ys H->ys.length=i)
 (hq:∀ i ys H,i<=xs.length->Pv i ys H->SqT K H a xs)
 (hs:∀ i ys H v,xs[i]?=some v->Pv i ys H->et v H fun y H3=>Pv (i+1) (ys++[y]) H3)(hd:∀ ys H,Pv xs.length ys H->∀ D,H D=none->fin D ys H) :
 ∃ W:Nat->Nat->List V->Hp->Prop,(∃ m,W 0 m [] H)/\∀ i m ys H,W i m ys H ->
  ((Itt K a).stop i H/\∀ D,H D=none->fin D ys H) ∨
  ((Itt K a).go i H/\ys.length < sizeLine/\∃ Nx:V->Hp->Prop,(∀ y H3,Nx y H3->∃ m',m' < m/\W (i+1) m' (ys++[y]) H3)/\∀ x H',(Itt K a).yld i H x H'->et x H' Nx):=by
 refine⟨fun i m ys H=>m=xs.length-i/\i<=xs.length/\Pv i ys H,⟨xs.length,by simp,FJ _,h0⟩,?_⟩
 rintro i m ys H ⟨rfl,hi,p⟩
 have q:=hq i ys H hi p
 by_cases hlt:i < xs.length
 ·refine .inr ⟨⟨xs,xs[i],q,by simp[hlt]⟩,by rw[hl i ys H p];omega,_,fun y H3 q=>⟨xs.length-(i+1),by omega,rfl,hlt,q⟩,fun x H' yl=>?_⟩
  obtain⟨e,yl⟩:=yl
  subst e
  exact hs i ys _ x (yl xs q) p
 ·have e:i=xs.length:=by omega
  subst e
  exact .inl ⟨⟨xs,q,AZ _⟩,hd ys H p⟩
end L2
namespace L2
open PySem PySem.Spec PyProof.Rows
theorem d85 {prog:Program}{w:World}{A:Around}(hh:A.handled=none)(I:Addr) (x:Str)(t:Tok) :
 Walks prog w A I [I] [I] x.cps.size (SignAt x) (fun i h=>h.IsStrIter I (strIterType x) x t i):=by
 unfold strIterType
 cases ha:x.cps.all (· < 128)
 ·exact Walks.strWide hh I x t
 ·exact Walks.strAscii hh I x t
def Its (x:Str):It:=⟨fun i _=>i < x.cps.size,fun i H v H'=>H'=H/\∃ c,x.cps[i]?=some c/\v=.str ⟨#[c]⟩,fun i _=>x.cps.size<=i⟩
theorem e29 (x:Str):["enumerate", "zip", "dict_itemiterator", "dict_reverseitemiterator", "odict_iterator", "itertools.zip_longest", "itertools.pairwise"].contains (strIterType x)=false:=by
 unfold strIterType
 cases x.cps.all (· < 128) <;> decide
theorem g98 {P:Program}{w:World}{K:PySem.W.Frag}{tg:Expr}(it:Addr) (x:Str)(t:Tok):Turn P w K tg (Its x) [it] it (fun i h=>i<=x.cps.size/\h.IsStrIter it (strIterType x) x t i) where
 mem:=by simp
 obj:=fun i h st b hb=>by
  have e:b=it:=by simpa using hb
  subst e
  obtain⟨_,o,e,c,d⟩:=st
  exact⟨o,e,fun v z=>by rw[d] at z;cases z⟩
 keep:=fun i h h' st k=>by
  obtain⟨hi,o,e,r⟩:=st
  exact⟨hi,o,k it (by simp) o e,r⟩
 item:=by
  intro X hP hw hK hc i pins s σ H E I hf st hg
  subst hP hw hK
  obtain⟨f0,f1,f2,f3,f4,f5⟩:=hf it (by simp)
  have hg':i < x.cps.size:=hg
  have W:=d85 (prog:=X.prog) (w:=X.w) (A:=X.A) (I.ok.hd hc) it x t
  refine W.item i s _ _ hg' st.2 fun v h' tk hv st' kk=>?_
  obtain⟨c,u,hcu,rfl⟩:=hv
  have I1:Inv X pins σ H { s with heap:=h',toks:=tk }:=I.turned (fun b o hb e=>kk b o (by simpa using hb) e) f0 f1 f3 f4 f5
  obtain⟨o,e,cc,d⟩:=id st'
  exact⟨_,rfl,g11 (s:={ s with heap:=h',toks:=tk }) (n:=strIterType x) e cc d (e29 x) ⟨.str ⟨#[c]⟩,H,I1,⟨u,rfl⟩,⟨rfl,c,hcu,rfl⟩,⟨hg',st'⟩,fun b hb=>(hf b hb).1⟩⟩
 done:=by
  intro X hP hw hK hc i pins s σ H E I hf st hg
  subst hP hw hK
  obtain⟨f0,f1,f2,f3,f4,f5⟩:=hf it (by simp)
  have hg':x.cps.size<=i:=hg
  have e:i=x.cps.size:=Nat.le_antisymm st.1 hg'
  subst e
  have W:=d85 (prog:=X.prog) (w:=X.w) (A:=X.A) (I.ok.hd hc) it x t
  exact W.done s _ _ st.2 fun h' tk kk=>⟨rfl,I.turned (fun b o hb e=>kk b o (by simpa using hb) e) f0 f1 f3 f4 f5⟩
 self:=fun A i s Q E st h=>by
  have st2:=st.2
  unfold strIterType at st2
  cases ha:x.cps.all (· < 128)
  ·rw[ha] at st2;exact wpAny_pyIter_striter_wide st2 h
  ·rw[ha] at st2;exact wpAny_pyIter_striter_ascii st2 h
section
variable {X:Cx}{tg:Expr}
def iStr (tl:TE):TI:=fun σ H R=>tl σ H fun x H1=>∃ z,x=.str z/\R (Its z) H1
theorem g62 {l:Expr}{tl:TE}(hl:PE X l tl):PI X tg l (iStr tl):=by
 try constructor
 intro pins s σ H R I h
 refine thn (hl pins s σ H _ I h) fun v s1 ⟨x,H1,I1,r1,q1⟩=>?_
 obtain⟨z,e,q⟩:=q1
 subst e
 obtain⟨t,rfl⟩:=r1
 refine wpAny_pyIter_strU ?_
 refine⟨s1.heap.objs.size,[s1.heap.objs.size],_,_,H1,rfl,I1.kept (t':=s1.toks) fun b o e=>Aq _ e,g98 _ z t,⟨FJ _,⟨_,DJ _ rfl,rfl,rfl⟩⟩,fun b hb=>?_,q⟩
 have e:b=s1.heap.objs.size:=by simpa using hb
 subst e
 exact I1.fpOk (AZ _) (I1.hok.fresh (AZ _))
end
theorem d31 {z:Str}{et:V->Hp->VK->Prop}{H:Hp}{fin:Addr->List V->Hp->Prop} (Pv:Nat->List V->Hp->Prop)(hn:z.length<=sizeLine)(h0:Pv 0 [] H)(hl:∀ i ys H,Pv i ys H->ys.length=i)
 (hs:∀ i ys H c,z.cps[i]?=some c->Pv i ys H->et (.str ⟨#[c]⟩) H fun y H3=>Pv (i+1) (ys++[y]) H3)(hd:∀ ys H,Pv z.cps.size ys H->∀ D,H D=none->fin D ys H) :
 ∃ W:Nat->Nat->List V->Hp->Prop,(∃ m,W 0 m [] H)/\∀ i m ys H,W i m ys H ->
  ((Its z).stop i H/\∀ D,H D=none->fin D ys H) ∨
  ((Its z).go i H/\ys.length < sizeLine/\∃ Nx:V->Hp->Prop,(∀ y H3,Nx y H3->∃ m',m' < m/\W (i+1) m' (ys++[y]) H3)/\∀ x H',(Its z).yld i H x H'->et x H' Nx):=by
 have hn':z.cps.size<=sizeLine:=hn
 refine⟨fun i m ys H=>m=z.cps.size-i/\i<=z.cps.size/\Pv i ys H,⟨z.cps.size,by simp,FJ _,h0⟩,?_⟩
 rintro i m ys H ⟨rfl,hi,p⟩
 by_cases hlt:i < z.cps.size
 ·refine .inr ⟨hlt,by rw[hl i ys H p];omega,_,fun y H3 q=>⟨z.cps.size-(i+1),by omega,rfl,hlt,q⟩,fun x H' yl=>?_⟩
  obtain⟨e,c,hc,e2⟩:=yl
  subst e e2
  exact hs i ys _ c hc p
 ·have e:i=z.cps.size:=by omega
  subst e
  exact .inl ⟨AZ _,hd ys H p⟩
theorem e99:∀ {bs:List Bool}{us:List Value},Vals (bs.map V.bl) us->us=bs.map Value.bool
 | [],_,r=>by rw[List.map_nil] at r;cases r;rfl
 | b::bs,_,r=>by
  rw[CJ] at r
  cases r with
  | cons h t =>
   cases (show _=Value.bool b from h)
   rw[e99 t];rfl
theorem g67 (bs:List Bool):(List.range bs.length).all (fun i=>bs.getD i false)=bs.all id:=by
 rw[Bool.eq_iff_iff,List.all_eq_true,List.all_eq_true]
 constructor
 ·intro h b hb
  obtain⟨i,hi,e⟩:=List.getElem_of_mem hb
  have:=h i (List.mem_range.mpr hi)
  rw[List.getD_eq_getElem?_getD,Bz hi] at this
  rw[← e];simpa using this
 ·intro h i hi
  have hi':=List.mem_range.mp hi
  have:=h bs[i] (List.getElem_mem hi')
  rw[List.getD_eq_getElem?_getD,Bz hi'];simpa using this
section
variable {X:Cx}
theorem b70 (hc:X.calm=true):CallR X (.builtin "all") (fun xs H Q=>∃(p:Addr) (bs:List Bool),xs=[.ref p]/\SqL X.K H p (bs.map V.bl)/\Q (.bl (bs.all id)) H):=by
 try constructor
 intro pins s σ H xs us Q I r h
 obtain⟨p,bs,rfl,hq,q⟩:=h
 obtain⟨u,rfl,rx⟩:=c94 r
 cases rx
 obtain⟨its,rv,pl,hz⟩:=I.list hq
 have hits:=e99 rv
 have hlt:p < s.heap.objs.size:=by
  obtain⟨o,n,e,_⟩:=pl
  exact Ej e
 refine call_all_walk (wpAny_pyIter_list pl.isList ?_)
 refine⟨_,_,_,_,_,_,fun i=>bs.getD i false,rfl,Walks.list (show X.A.in1.handled=none from I.ok.hd hc) s.heap.objs.size p (Nat.ne_of_lt hlt) its.toArray,⟨⟨_,DJ _ rfl,rfl,rfl⟩,pl.isList.push _⟩,?_,fun h' tk kk=>?_⟩
 ·intro i v s' Q' E' hv hQ'
  have hv':its[i]?=some v:=by simpa using hv
  rw[hits,CQ] at hv'
  cases hb:bs[i]? with
  | none=>rw[hb] at hv';cases hv'
  | some b =>
   rw[hb] at hv'
   cases hv'
   refine wpAny_truthy_bool ?_
   have hQ2:Q' (bs.getD i false) s':=hQ'
   rw[List.getD_eq_getElem?_getD,hb] at hQ2
   exact hQ2
 ·have e:its.toArray.size=bs.length:=by rw[List.size_toArray,hits,Aj]
  refine⟨.bl (bs.all id),H,I.kept fun b o e=>kk b o (fun hb=>?_) (Aq _ e),?_,q⟩
  ·have hb':b=s.heap.objs.size:=by simpa using hb
   exact absurd (hb' ▸ Ej e) (Nat.lt_irrefl _)
  ·show Value.bool _=Value.bool _
   rw[e,g67]
theorem d22 {ys:List Str}:∀ {us:List Value},Vals (ys.map V.str) us->StrsAre us ys:=by
 induction ys with
 | nil=>intro us r;rw[List.map_nil] at r;cases r;exact .nil
 | cons y ys ih =>
  intro us r
  rw[CJ] at r
  cases r with
  | cons r1 r2 =>
   obtain⟨t,e⟩:=r1
   subst e
   exact .cons y t (ih r2)
theorem c77:MtM X "str.join" (fun x xs H Q=>∃(z:Str)(p:Addr) (ys:List Str),x=.str z/\xs=[.ref p]/\SqL X.K H p (ys.map V.str)/\(ys.map (·.length)).sum+ys.length * z.length<=16777216/\Q (.str (Txt.join z ys)) H):=by
 try constructor
 intro pins s σ H x xs v us Q I rx rs h
 obtain⟨z,p,ys,rfl,rfl,hq,hz,q⟩:=h
 obtain⟨t,rfl⟩:=rx
 obtain⟨u,rfl,ru⟩:=rs.one
 cases ru
 obtain⟨its,rv,pl,_⟩:=I.list hq
 exact join_list pl.isList (by simpa using d22 rv) hz fun t' k=>⟨.str _,H,I.tok _,⟨_,rfl⟩,q⟩
theorem b06:MtM X "str.startswith" (fun x xs H Q=>∃ z y,x=.str z/\xs=[.str y]/\Q (.bl (Txt.startswith z y)) H):=by
 try constructor
 intro pins s σ H x xs v us Q I rx rs h
 obtain⟨z,y,rfl,rfl,q⟩:=h
 obtain⟨t,rfl⟩:=rx
 obtain⟨u,rfl,ru⟩:=rs.one
 obtain⟨t',rfl⟩:=ru
 exact SC.startswith ⟨.bl _,H,I,rfl,q⟩
theorem d91:∀(l:List (Str×Tok)),Vals ((l.map (·.1)).map V.str) (strValues l)
 | []=>.nil
 | (y,t)::l=>.cons ⟨t,rfl⟩ (d91 l)
theorem g75:SlR X (fun x lo hi H Q=>∃ z,x=.str z/\z.length<=sizeLine/\Q (.str (Txt.slice z lo hi)) H):=by
 try constructor
 intro pins s σ H x v vl vu lo hi sl Q I rx hs pl pu h
 obtain⟨z,rfl,hz,q⟩:=h
 obtain⟨t,rfl⟩:=rx
 refine⟨"str", _,F.slot_str_getitem.lookup,typeIs_str _ _ _,?_⟩
 obtain⟨o,ho,hc,hd⟩:=hs
 cases pl with
 | none =>
  cases pu with
  | none=>exact wpAny_getItem_str_slice (l:=none) (u:=none) (st:=none) ⟨o,ho,hc,hd⟩ rfl (post_val_or_str ⟨FQ (Txt.slice_le z none none) hz,fun t' k=>⟨.str _,H,I.tok _,⟨_,rfl⟩,q⟩⟩)
  | int j uj=>exact wpAny_getItem_str_slice (l:=none) (u:=some (j,uj)) (st:=none) ⟨o,ho,hc,hd⟩ rfl (post_val_or_str ⟨FQ (Txt.slice_le z none (some j)) hz,fun t' k=>⟨.str _,H,I.tok _,⟨_,rfl⟩,q⟩⟩)
 | int i ui =>
  cases pu with
  | none=>exact wpAny_getItem_str_slice (l:=some (i,ui)) (u:=none) (st:=none) ⟨o,ho,hc,hd⟩ rfl (post_val_or_str ⟨FQ (Txt.slice_le z (some i) none) hz,fun t' k=>⟨.str _,H,I.tok _,⟨_,rfl⟩,q⟩⟩)
  | int j uj=>exact wpAny_getItem_str_slice (l:=some (i,ui)) (u:=some (j,uj)) (st:=none) ⟨o,ho,hc,hd⟩ rfl (post_val_or_str ⟨FQ (Txt.slice_le z (some i) (some j)) hz,fun t' k=>⟨.str _,H,I.tok _,⟨_,rfl⟩,q⟩⟩)
def clsV:V->Option Value
 | .ty n=>some (.type n)
 | .ref a=>some (.ref a)
 | _=>none
theorem a76:CallR X (.builtin "isinstance") (fun xs H Q=>∃ x c ty tc b,xs=[x,c]/\TyOf X.K H x ty/\clsV c=some tc/\PySem.W.kitOne X.K ty tc=some b/\Q (.bl b) H):=by
 try constructor
 intro pins s σ H xs us Q I r h
 obtain⟨x,c,ty,tc,b,rfl,hty,hc,hk,q⟩:=h
 obtain⟨u,w',rfl,ru,rw'⟩:=i72 r
 have e:w'=tc:=by
  cases c with
  | ty n=>cases (show w'=Value.type n from rw');exact EJ hc
  | ref a=>cases (show w'=Value.ref a from rw');exact EJ hc
  | _=>exact nomatch hc
 subst e
 exact g07 I ru hty hk fun tk=>⟨.bl b,H,I.tok _,rfl,q⟩
end
end L2
namespace L2
open PySem PySem.Spec PyProof.Rows
structure Def (P:Program)(w:World)(K:PySem.W.Frag) (mg:Str->Option Value)(base:Heap) (k:Nat) (x:Str) (ps:List Str)(sp:Sp):Prop where
 ex:∃ f fd,FnOk P w K mg base CX0 k f fd ps sp/\mg x=some (.ref f)/\PySem.W.keepIn K (.ref f)=true/\Binds K fd ps []
section
variable {X:Cx}{k:Nat}{ps:List Str}{sp:Sp}{x:Str}{p pos:Pos}{e:Expr}{es:List Expr}{t:TA}
theorem a35 (D:Def X.prog X.w X.K X.mg X.base k x ps sp)(hr:Room k X.A)(ha:PA X (e::es) t)(hg:Gl X x:=by rfl)(hdb:(x == ("__debug__" : Str))=false:=by decide)
 (he:starEach (e::es) X.env=(false,eval e X.env)::starEach es X.env:=by rfl)(hpl:(backTo pos (starEach es X.env)).any (·.1)=false:=by rfl) :
 PE X (.Call (.Name x p) (e::es) [] pos) (i66 sp [] E0 t):=by
 obtain⟨f,fd,F,hm,hk,hb⟩:=D.ex
 exact i37 F hr hg hm hk hb .nil g89 ha hdb he hpl
end
theorem Same.upd {H H':Hp}{a:Addr}{o:HO}(s:Same H H')(h:H' a=none):Same H (upd H' a o):=fun b u e=>by
 have q:=s b u e
 rw[a06 (a01 q h)];exact q
def Step (d:Addr)(H H':Hp):Prop:=∀ b o,H b=some o->b≠d->H' b=some o
theorem Step.refl (d:Addr)(H:Hp):Step d H H:=fun _ _ h _=>h
theorem Step.trans {d:Addr}{H H1 H2:Hp}(a:Step d H H1)(b:Step d H1 H2):Step d H H2:=fun c o h n=>b c o (a c o h n) n
theorem Step.of {d:Addr}{H H1:Hp}(a:Same H H1):Step d H H1:=fun c o h _=>a c o h
theorem Step.new {d a:Addr}{H H1:Hp}{o:HO}(s:Step d H H1)(h:H1 a=none):Step d H (upd H1 a o):=fun b u e n=>by
 have q:=s b u e n
 rw[a06 (a01 q h)];exact q
theorem Step.free {d:Addr}{H H':Hp}(e:Step d H H'){l:Addr}(hd:l≠d)(h:H' l=Option.none):H l=Option.none:=by
 cases q:H l with
 | none=>rfl
 | some o =>
  rw[e l o q hd] at h
  cases h
theorem Step.seq {K:PySem.W.Frag}{d:Addr}{H H':Hp}{a:Addr}{xs:List V}(e:Step d H H')(hd:a≠d)(h:SqL K H a xs):SqL K H' a xs:=by
 rcases h with(h | ⟨o,h⟩) | h
 ·exact .inl (.inl (e _ _ h hd))
 ·exact .inl (.inr ⟨o,e _ _ h hd⟩)
 ·exact .inr h
def kC:Key:=Sum.inr "cells"
def kA:Key:=Sum.inr "at"
def kR:Key:=Sum.inr "rest"
def i01 (c:Addr) (a r:Int):List (Key×V):=[(kC,V.ref c),(kA,V.int a),(kR,V.int r)]
structure Draw (H:Hp)(d:Addr) (n:Nat):Prop where
 ex:∃(c:Addr) (cells:List Int) (a r:Int),H d=some (.dK (i01 c a r))/\H c=some (.lst (cells.map V.int))/\0 < cells.length/\cells.length<=100/\0<=a/\a<=n
theorem Draw.mono {H:Hp}{d:Addr}{n m:Nat}(D:Draw H d n)(h:n<=m):Draw H d m:=by
 obtain⟨c,cells,a,r,h1,h2,h3,h4,h5,h6⟩:=D.ex
 exact⟨c,cells,a,r,h1,h2,h3,h4,h5,by omega⟩
theorem Draw.same {H H':Hp}{d:Addr}{n:Nat}(D:Draw H d n)(s:Same H H'):Draw H' d n:=by
 obtain⟨c,cells,a,r,h1,h2,h⟩:=D.ex
 exact⟨c,cells,a,r,s _ _ h1,s _ _ h2,h⟩
theorem Draw.some {H:Hp}{d:Addr}{n:Nat}(D:Draw H d n):∃ kvs,H d=Option.some (.dK kvs):=by
 obtain⟨c,cells,a,r,h1,_⟩:=D.ex
 exact⟨_,h1⟩
theorem Draw.new {H:Hp}{d p:Addr}{n:Nat}{o:HO}(D:Draw H d n)(h:H p=none):Draw (upd H p o) d n:=D.same ((Same.refl H).upd h)
theorem e03 (x:Int){m:Int}(h:0 < m)(h2:m<=2 ^ 63):-(2 ^ 64) < x % m/\x % m < 2 ^ 64:=by
 have h3:=EZ x (show m≠0 by omega)
 have h4:=Fj x h
 exact⟨by omega,by omega⟩
def g90 (K:PySem.W.Frag):Sp:=fun vs H Q _=>∃(a:Addr) (ns:List Int),vs=[.ref a]/\SqL K H a (ns.map V.int)/\ns.length<=63/\∀ H',Q (.bl true) H'
end L2
namespace L2
open PySem PySem.Spec PyProof.Rows
section
variable {prog:Program}{w:World}{A:Around}{E:Value->Shared->Prop}{s:Shared}
theorem b91 {it t:Addr}{i:Nat}{items:Array Value}{x:Value}{Q:Value->Shared->Prop}(hit:s.heap.IsTupleIter it t i)(ht:s.heap.IsTuple t items)(hx:items[i]?=some x)
 (hQ:∀ h',h'.IsTupleIter it t (i+1)->Heap.SameBut it s.heap h'->Q x { s with heap:=h' }):wpAny (model prog w) A (Builtin.SmallTypes.nextOf (.ref it)) Q E s:=by
 obtain⟨o,ho,hc,hd⟩:=id hit
 obtain⟨ot,hot,_,nt,hdt⟩:=ht
 unfold Builtin.SmallTypes.nextOf
 refine AQ (wpAny_callSpecial?_slot (name:=Str.ofString "__next__") hit.typeIs F.slot_tuple_iterator_next (wpAny_call_entry F.slot_tuple_iterator_next hit.typeIs F.entry_tuple_iterator_next ?_ (F.args_tuple_iterator_next_1 _)))
 show wpAny _ _ (field (.ref it) 0 >>= _) _ _ s
 refine AQ (wpAny_field ho hd (x:=.ref t) rfl ?_)
 show wpAny _ _ (if (Value.ref t == Value.none)=true then _ else _) _ _ s
 rw[if_neg (show ¬((Value.ref t == Value.none)=true) from Fx)]
 show wpAny _ _ (field (.ref it) 1 >>= _) _ _ s
 refine AQ (wpAny_field ho hd (x:=.int i 0) rfl ?_)
 show wpAny _ _ (seqItems? (.ref t) >>= _) _ _ s
 refine AQ (wpAny_seqItems hot hdt ?_)
 simp only[Dq,hx]
 refine AQ (wpAny_setField ho hd (by simp) (AX ⟨x,rfl,AX (hQ _ ?_ (Heap.SameBut.update ..))⟩))
 exact⟨_,Heap.get?_update_self _ ho (Obj.isFreed_of_fields (Obj.data_mapFields hd _)),(Obj.cls_mapFields ..).trans hc,by rw[Obj.data_mapFields hd];simp[rawInt]⟩
theorem d04 {it t:Addr}{i:Nat}{items:Array Value}{Q:Value->Shared->Prop}(hh:A.handled=none)(hit:s.heap.IsTupleIter it t i)(ht:s.heap.IsTuple t items)(hx:items[i]?=none)
 (hE:∀ h' e,Heap.ExtBut it s.heap h'->(∃ o,h'.get? e=some o/\o.cls=.type "StopIteration")->E (.ref e) { s with heap:=h' }):wpAny (model prog w) A (Builtin.SmallTypes.nextOf (.ref it)) Q E s:=by
 obtain⟨o,ho,hc,hd⟩:=id hit
 obtain⟨ot,hot,_,nt,hdt⟩:=ht
 unfold Builtin.SmallTypes.nextOf
 refine AQ (wpAny_callSpecial?_slot (name:=Str.ofString "__next__") hit.typeIs F.slot_tuple_iterator_next (wpAny_call_entry F.slot_tuple_iterator_next hit.typeIs F.entry_tuple_iterator_next ?_ (F.args_tuple_iterator_next_1 _)))
 show wpAny _ _ (field (.ref it) 0 >>= _) _ _ s
 refine AQ (wpAny_field ho hd (x:=.ref t) rfl ?_)
 show wpAny _ _ (if (Value.ref t == Value.none)=true then _ else _) _ _ s
 rw[if_neg (show ¬((Value.ref t == Value.none)=true) from Fx)]
 show wpAny _ _ (field (.ref it) 1 >>= _) _ _ s
 refine AQ (wpAny_field ho hd (x:=.int i 0) rfl ?_)
 show wpAny _ _ (seqItems? (.ref t) >>= _) _ _ s
 refine AQ (wpAny_seqItems hot hdt ?_)
 simp only[Dq,hx]
 refine AQ (wpAny_rule (AQ (wpAny_setField ho hd (by simp) ?_)))
 show wpAny _ _ (newExc (.type "StopIteration") [] >>= _) _ _ _
 refine AQ ?_
 simp only[newExc,newTuple]
 refine AQ (Fq ?_ (by size_fits))
 refine AQ (m:=firstArgMember _ _) (wpAny_of_eq (a:=Value.none) (by first | rfl | (simp only[firstArgMember];rfl)) ?_)
 refine Fq ?_ (by size_fits)
 simp only[raiseNew]
 refine AQ (wpAny_handled ?_)
 first | rw[show A.in1.handled=none from hh] | rw[hh]
 refine AQ (AX (wpAny_throw ?_))
 exact hE _ _ (((Heap.SameBut.update ..).extBut.push _).push _) ⟨_,DJ _ rfl,rfl⟩
structure ZApart (z TI TO i1 i2:Addr):Prop where
 a1:TI≠z
 a2:TO≠z
 a3:i1≠z
 a4:i2≠z
 a5:TI≠TO
 a6:TI≠i1
 a7:TI≠i2
 a8:TO≠i1
 a9:TO≠i2
 b1:i1≠i2
def j02 (z TI TO i1 i2 t1 t2:Addr) (k:Nat)(h:Heap):Prop:=IsZip h z TI TO .none/\IsPair h TI (.ref i1) (.ref i2)/\(∃ a b,IsPair h TO a b)/\h.IsTupleIter i1 t1 k/\h.IsTupleIter i2 t2 k
def ZipM (z TI TO i1 i2 t1 t2 T:Addr) (k:Nat)(h:Heap):Prop:=IsZip h z TI TO (rawInt T)/\IsPair h TI (.ref i1) (.ref i2)/\(∃ a b,IsPair h TO a b)/\h.IsTupleIter i1 t1 (k+1)/\h.IsTupleIter i2 t2 (k+1)
theorem a45 {h h':Heap}{it t b:Addr}{i:Nat}(x:h.IsTupleIter it t i)(sb:Heap.ExtBut b h h')(ne:it≠b):h'.IsTupleIter it t i :=
 let ⟨o,e,r⟩:=x;⟨o,sb it o ne e,r⟩
theorem g05 {z TI TO i1 i2 t1 t2:Addr}{k:Nat}{xs ys:Array Value}{x y:Value}{Q:Option Value->Shared->Prop}(D:ZApart z TI TO i1 i2)(n1:t1≠z/\t1≠TO/\t1≠i1/\t1≠i2)(n2:t2≠z/\t2≠TO/\t2≠i1/\t2≠i2)
 (Z:j02 z TI TO i1 i2 t1 t2 k s.heap)(h1:s.heap.IsTuple t1 xs)(h2:s.heap.IsTuple t2 ys)(hx:xs[k]?=some x)(hy:ys[k]?=some y)
 (hQ:∀ h',ZipM z TI TO i1 i2 t1 t2 s.heap.objs.size k h'->h'.get? s.heap.objs.size=some { cls:=.type "tuple", data:=.seq #[x,y] } ->
   (∀ c o,c≠z->c≠TO->c≠i1->c≠i2->s.heap.get? c=some o->h'.get? c=some o)->Q (some (.ref s.heap.objs.size)) { s with heap:=h' }) :
 wpAny (model prog w) A (pyNext (.ref z)) Q E s:=by
 obtain⟨hz,hTI,⟨a,b,hTO⟩,g1,g2⟩:=Z
 have hT:s.TypeIs (.ref z) "zip" := ⟨_,hz,rfl⟩
 unfold pyNext
 refine AQ (wpAny_attempt (wpAny_callSpecial?_slot (name:=Str.ofString "__next__") hT F.slot_zip_next (wpAny_call_entry F.slot_zip_next hT F.entry_zip_next ?_ (F.args_zip_next_1 _))))
 show wpAny _ _ (field (.ref z) 2 >>= _) _ _ _
 refine AQ (wpAny_field hz rfl (x:=.bool false) rfl ?_)
 show wpAny _ _ (field (.ref z) 3 >>= _) _ _ _
 refine AQ (wpAny_field hz rfl (x:=.ref TI) rfl ?_)
 refine AQ (wpAny_seqItems hTI rfl ?_)
 show wpAny _ _ (Builtin.SmallTypes.ownedTupleIsFree (.ref z) >>= _) _ _ _
 refine AQ ?_
 unfold Builtin.SmallTypes.ownedTupleIsFree
 refine AQ (wpAny_field hz rfl (x:=.none) rfl (AX ?_))
 simp only[if_true]
 refine AQ (wpAny_rule ?_)
 refine AQ (wpAny_field hz rfl (x:=.ref TO) rfl ?_)
 refine AQ (wpAny_setField_rec hz (by simp) fun e₁ hz₁ sb₁=>?_)
 replace hz₁:IsZip e₁ z TI TO .ellipsis:=hz₁
 refine AQ ?_
 simp only[List.zipIdx_cons,List.zipIdx_nil,List.forIn_cons,List.forIn_nil]
 refine AQ (AQ (wpAny_onRaise ?_))
 show wpAny _ _ (Builtin.SmallTypes.nextOf (.ref i1) >>= _) _ _ _
 refine AQ (b91 (a45 g1 sb₁.extBut D.a3) (h1.extBut sb₁.extBut n1.1) hx fun e₂ g1₂ sb₂=>AX ?_)
 have hTO₂:IsPair e₂ TO a b:=sb₂.extBut _ _ D.a8 (sb₁.extBut _ _ D.a2 hTO)
 refine AQ (wpAny_seqItems hTO₂ rfl ?_)
 refine AQ (wpAny_updateSeq_pair hTO₂ fun e₃ hTO₃ sb₃=>?_)
 replace hTO₃:IsPair e₃ TO x b:=hTO₃
 refine AQ (wpAny_letGo (AX ?_))
 refine AQ (AQ (wpAny_onRaise ?_))
 show wpAny _ _ (Builtin.SmallTypes.nextOf (.ref i2) >>= _) _ _ _
 refine AQ (b91 (a45 (a45 (a45 g2 sb₁.extBut D.a4) sb₂.extBut D.b1.symm) sb₃.extBut D.a9.symm)
  (((h2.extBut sb₁.extBut n2.1).extBut sb₂.extBut n2.2.2.1).extBut sb₃.extBut n2.2.1) hy fun e₄ g2₄ sb₄=>AX ?_)
 have hTO₄:IsPair e₄ TO x b:=sb₄.extBut _ _ D.a9 hTO₃
 refine AQ (wpAny_seqItems hTO₄ rfl ?_)
 refine AQ (wpAny_updateSeq_pair hTO₄ fun e₅ hTO₅ sb₅=>?_)
 replace hTO₅:IsPair e₅ TO x y:=hTO₅
 refine AQ (wpAny_letGo (AX (AX ?_)))
 refine AQ (wpAny_seqItems hTO₅ rfl ?_)
 refine AQ (wpAny_newTuple ?_)
 have hsz:e₅.objs.size=s.heap.objs.size:=by rw[sb₅.1,sb₄.1,sb₃.1,sb₂.1,sb₁.1]
 have hz₅:IsZip e₅ z TI TO .ellipsis:=sb₅.extBut _ _ D.a2.symm (sb₄.extBut _ _ D.a4.symm (sb₃.extBut _ _ D.a2.symm (sb₂.extBut _ _ D.a3.symm hz₁)))
 have kp₅:∀ c o,c≠z->c≠TO->c≠i1->c≠i2->s.heap.get? c=some o->e₅.get? c=some o:=fun c o c1 c2 c3 c4 e =>
  sb₅.extBut _ _ c2 (sb₄.extBut _ _ c4 (sb₃.extBut _ _ c2 (sb₂.extBut _ _ c3 (sb₁.extBut _ _ c1 e))))
 have g1₅:e₅.IsTupleIter i1 t1 (k+1):=a45 (a45 (a45 g1₂ sb₃.extBut D.a8.symm) sb₄.extBut D.b1) sb₅.extBut D.a8.symm
 have g2₅:e₅.IsTupleIter i2 t2 (k+1):=a45 g2₄ sb₅.extBut D.a9.symm
 have zlt:z < e₅.objs.size:=Ej hz₅
 show wpAny _ _ (Builtin.SmallTypes.ownedTupleHandOut (.ref z) (.ref e₅.objs.size) >>= _) _ _ _
 refine AQ ?_
 unfold Builtin.SmallTypes.ownedTupleHandOut
 have hz₆:IsZip (e₅.push { cls:=.type "tuple", data:=.seq #[x,y] }) z TI TO .ellipsis:=Aq _ hz₅
 refine AQ (wpAny_setField_rec hz₆ (by simp) fun e₇ hz₇ sb₇=>?_)
 replace hz₇:IsZip e₇ z TI TO (rawInt e₅.objs.size):=hz₇
 refine wpAny_setField_rec hz₇ (by simp) fun e₈ hz₈ sb₈=>?_
 replace hz₈:IsZip e₈ z TI TO (rawInt e₅.objs.size):=hz₈
 have up:∀ c o,c≠z->e₅.get? c=some o->e₈.get? c=some o:=fun c o c1 e=>sb₈.extBut _ _ c1 (sb₇.extBut _ _ c1 (Aq _ e))
 have hT₈:e₈.get? e₅.objs.size=some { cls:=.type "tuple", data:=.seq #[x,y] }:=sb₈.extBut _ _ (Nat.ne_of_gt zlt) (sb₇.extBut _ _ (Nat.ne_of_gt zlt) (DJ _ rfl))
 rw[hsz] at hz₈ hT₈
 refine AX ⟨_,rfl,?_⟩
 show wpAny _ _ (pure (some (Value.ref e₅.objs.size))) _ _ _
 rw[hsz]
 refine AX (hQ e₈ ⟨hz₈,up _ _ D.a1 (kp₅ _ _ D.a1 D.a5 D.a6 D.a7 hTI),⟨_,_,up _ _ D.a2 hTO₅⟩,?_,?_⟩ hT₈ fun c o c1 c2 c3 c4 e=>up c o c1 (kp₅ c o c1 c2 c3 c4 e))
 ·obtain⟨o,e,r⟩:=g1₅
  exact⟨o,up _ _ D.a3 e,r⟩
 ·obtain⟨o,e,r⟩:=g2₅
  exact⟨o,up _ _ D.a4 e,r⟩
theorem g87 {z TI TO i1 i2 t1 t2:Addr}{k:Nat}{xs ys:Array Value}{Q:Option Value->Shared->Prop}(hh:A.handled=none)(D:ZApart z TI TO i1 i2)(n1:t1≠z/\t1≠TO/\t1≠i1/\t1≠i2)(n2:t2≠z/\t2≠TO/\t2≠i1/\t2≠i2)
 (Z:j02 z TI TO i1 i2 t1 t2 k s.heap)(h1:s.heap.IsTuple t1 xs)(h2:s.heap.IsTuple t2 ys)(hend:xs[k]?=none∨ys[k]?=none)
 (hQ:∀ h',(∀ c o,c≠z->c≠TO->c≠i1->c≠i2->s.heap.get? c=some o->h'.get? c=some o)->Q none { s with heap:=h' }) :
 wpAny (model prog w) A (pyNext (.ref z)) Q E s:=by
 obtain⟨hz,hTI,⟨a,b,hTO⟩,g1,g2⟩:=Z
 have hT:s.TypeIs (.ref z) "zip" := ⟨_,hz,rfl⟩
 unfold pyNext
 have fin:∀(h':Heap)(e:Addr),(∀ c o,c≠z->c≠TO->c≠i1->c≠i2->s.heap.get? c=some o->h'.get? c=some o)->(∃ o,h'.get? e=some o/\o.cls=.type "StopIteration") ->
  wpAny (model prog w) A (do let b ← isInstance (.ref e) (.type "StopIteration");if b then pure none else throw (.ref e)) Q E { s with heap:=h' }:=fun h' e kp ⟨o,ho,hc⟩=>by
  refine AQ (wpAny_isInstance (T := "StopIteration") (b:=true) ⟨o,ho,hc⟩ isSubtype_stop ?_)
  exact AX (hQ _ kp)
 refine AQ (wpAny_attempt (wpAny_callSpecial?_slot (name:=Str.ofString "__next__") hT F.slot_zip_next (wpAny_call_entry F.slot_zip_next hT F.entry_zip_next ?_ (F.args_zip_next_1 _))))
 show wpAny _ _ (field (.ref z) 2 >>= _) _ _ _
 refine AQ (wpAny_field hz rfl (x:=.bool false) rfl ?_)
 show wpAny _ _ (field (.ref z) 3 >>= _) _ _ _
 refine AQ (wpAny_field hz rfl (x:=.ref TI) rfl ?_)
 refine AQ (wpAny_seqItems hTI rfl ?_)
 show wpAny _ _ (Builtin.SmallTypes.ownedTupleIsFree (.ref z) >>= _) _ _ _
 refine AQ ?_
 unfold Builtin.SmallTypes.ownedTupleIsFree
 refine AQ (wpAny_field hz rfl (x:=.none) rfl (AX ?_))
 simp only[if_true]
 refine AQ (wpAny_rule ?_)
 refine AQ (wpAny_field hz rfl (x:=.ref TO) rfl ?_)
 refine AQ (wpAny_setField_rec hz (by simp) fun e₁ hz₁ sb₁=>?_)
 replace hz₁:IsZip e₁ z TI TO .ellipsis:=hz₁
 refine AQ ?_
 simp only[List.zipIdx_cons,List.zipIdx_nil,List.forIn_cons,List.forIn_nil]
 refine AQ (AQ (wpAny_onRaise ?_))
 show wpAny _ _ (Builtin.SmallTypes.nextOf (.ref i1) >>= _) _ _ _
 cases hx:xs[k]? with
 | none =>
  refine AQ (d04 hh (a45 g1 sb₁.extBut D.a3) (h1.extBut sb₁.extBut n1.1) hx fun e₂ e sb₂ he=>?_)
  obtain⟨oe,hoe,hce⟩:=he
  have hz₂:IsZip e₂ z TI TO .ellipsis:=sb₂ _ _ D.a3.symm hz₁
  have hez:e≠z:=fun x=>by subst x;rw[hz₂] at hoe;cases hoe;simp at hce
  refine wpAny_setField_rec hz₂ (by simp) fun e₃ _ sb₃=>?_
  exact fin e₃ e (fun c o c1 _ c3 _ x=>sb₃.extBut _ _ c1 (sb₂ _ _ c3 (sb₁.extBut _ _ c1 x))) ⟨oe,sb₃.extBut _ _ hez hoe,hce⟩
 | some x =>
  have hy:ys[k]?=none:=by
   rcases hend with h | h
   ·rw[hx] at h;cases h
   ·exact h
  refine AQ (b91 (a45 g1 sb₁.extBut D.a3) (h1.extBut sb₁.extBut n1.1) hx fun e₂ g1₂ sb₂=>AX ?_)
  have hTO₂:IsPair e₂ TO a b:=sb₂.extBut _ _ D.a8 (sb₁.extBut _ _ D.a2 hTO)
  refine AQ (wpAny_seqItems hTO₂ rfl ?_)
  refine AQ (wpAny_updateSeq_pair hTO₂ fun e₃ hTO₃ sb₃=>?_)
  refine AQ (wpAny_letGo (AX ?_))
  refine AQ (AQ (wpAny_onRaise ?_))
  show wpAny _ _ (Builtin.SmallTypes.nextOf (.ref i2) >>= _) _ _ _
  refine AQ (d04 hh (a45 (a45 (a45 g2 sb₁.extBut D.a4) sb₂.extBut D.b1.symm) sb₃.extBut D.a9.symm)
   (((h2.extBut sb₁.extBut n2.1).extBut sb₂.extBut n2.2.2.1).extBut sb₃.extBut n2.2.1) hy fun e₄ e sb₄ he=>?_)
  obtain⟨oe,hoe,hce⟩:=he
  have hz₄:IsZip e₄ z TI TO .ellipsis:=sb₄ _ _ D.a4.symm (sb₃.extBut _ _ D.a2.symm (sb₂.extBut _ _ D.a3.symm hz₁))
  have hez:e≠z:=fun x=>by subst x;rw[hz₄] at hoe;cases hoe;simp at hce
  refine wpAny_setField_rec hz₄ (by simp) fun e₅ _ sb₅=>?_
  exact fin e₅ e (fun c o c1 c2 c3 c4 x=>sb₅.extBut _ _ c1 (sb₄ _ _ c4 (sb₃.extBut _ _ c2 (sb₂.extBut _ _ c3 (sb₁.extBut _ _ c1 x))))) ⟨oe,sb₅.extBut _ _ hez hoe,hce⟩
end
theorem h55 (t1 t2:Addr)(xs ys:Array Value) :
 Meets (Builtin.«zip.__new__» ⟨[.type "zip", .ref t1,.ref t2],[]⟩) (fun _ R s=>s.heap.IsTuple t1 xs/\s.heap.IsTuple t2 ys /\
  ∀ h',j02 (s.heap.objs.size+4) (s.heap.objs.size+2) (s.heap.objs.size+3) s.heap.objs.size (s.heap.objs.size+1) t1 t2 0 h'->(∀ c o,s.heap.get? c=some o->h'.get? c=some o) ->
   R (.ok (.ret (.ref (s.heap.objs.size+4)))) { s with heap:=h' }) :=
 .of_wp fun prog w A R s h=>by
  obtain⟨hp,g,d,tk,os⟩:=s;obtain⟨hl1,hl2,h⟩:=h
  have hsub:=sub_zip
  have hL1:Heap.IsTuple (Shared.heap ⟨hp,g,d,tk,os⟩) t1 xs:=hl1
  have hL2:Heap.IsTuple (Shared.heap ⟨hp.push { cls:=.type "tuple_iterator", data:=.fields #[.ref t1,.int 0 0] },g,d,tk,os⟩) t2 ys:=by
   obtain⟨o,e,r⟩:=hl2
   exact⟨o,Aq _ e,r⟩
  wp_walk using wpAny_pyIter_tuple hL1,wpAny_pyIter_tuple hL2
  refine⟨_,rfl,?_⟩
  let q1:=hp.push { cls:=.type "tuple_iterator", data:=.fields #[.ref t1,.int 0 0] }
  let q2:=q1.push { cls:=.type "tuple_iterator", data:=.fields #[.ref t2,.int 0 0] }
  let q3:=q2.push { cls:=.type "tuple", data:=.seq #[.ref hp.objs.size,.ref q1.objs.size] }
  let q4:=q3.push { cls:=.type "tuple", data:=.seq #[.none,.none] }
  let q5:=q4.push { cls:=.type "zip", data:=.fields #[.none,.bool false,.bool false,.ref q2.objs.size,.ref q3.objs.size] }
  have z1:q1.objs.size=hp.objs.size+1:=Heap.size_push ..
  have z2:q2.objs.size=hp.objs.size+2:=by show(q1.push _).objs.size=_;rw[Heap.size_push,z1]
  have z3:q3.objs.size=hp.objs.size+3:=by show(q2.push _).objs.size=_;rw[Heap.size_push,z2]
  have z4:q4.objs.size=hp.objs.size+4:=by show(q3.push _).objs.size=_;rw[Heap.size_push,z3]
  have p5:q5.get? q4.objs.size=some { cls:=.type "zip", data:=.fields #[.none,.bool false,.bool false,.ref q2.objs.size,.ref q3.objs.size] }:=DJ _ rfl
  have p4:q5.get? q3.objs.size=some { cls:=.type "tuple", data:=.seq #[.none,.none] }:=Aq _ (DJ _ rfl)
  have p3:q5.get? q2.objs.size=some { cls:=.type "tuple", data:=.seq #[.ref hp.objs.size,.ref q1.objs.size] }:=Aq _ (Aq _ (DJ _ rfl))
  have p2:q5.get? q1.objs.size=some { cls:=.type "tuple_iterator", data:=.fields #[.ref t2,.int 0 0] }:=Aq _ (Aq _ (Aq _ (DJ _ rfl)))
  have p1:q5.get? hp.objs.size=some { cls:=.type "tuple_iterator", data:=.fields #[.ref t1,.int 0 0] }:=Aq _ (Aq _ (Aq _ (Aq _ (DJ _ rfl))))
  rw[z4,z2,z3] at p5
  rw[z3] at p4
  rw[z2,z1] at p3
  rw[z1] at p2
  have fin:=h q5 ⟨p5,p3,⟨_,_,p4⟩,⟨_,p1,rfl,rfl⟩,⟨_,p2,rfl,rfl⟩⟩ fun c o x =>
   Aq _ (Aq _ (Aq _ (Aq _ (Aq _ x))))
  rw[← z4] at fin
  exact fin
section
variable {prog:Program}{w:World}{A:Around}{E:Value->Shared->Prop}{s:Shared}
theorem g29 {t1 t2:Addr}{xs ys:Array Value}{Q:Value->Shared->Prop}(h1:s.heap.IsTuple t1 xs)(h2:s.heap.IsTuple t2 ys)
 (h:∀ h',j02 (s.heap.objs.size+4) (s.heap.objs.size+2) (s.heap.objs.size+3) s.heap.objs.size (s.heap.objs.size+1) t1 t2 0 h'->(∀ c o,s.heap.get? c=some o->h'.get? c=some o)->Q (.ref (s.heap.objs.size+4)) { s with heap:=h' }) :
 wpAny (model prog w) A (call (.type "zip") [.ref t1,.ref t2]) Q E s:=by
 refine callType_new F.called_zip (by decide) (F.typeCall_zip_2 _ _) (F.newCall_zip_2 _ _) (fun obj=>F.args_object_init_3 obj _ _) F.entry_zip_new (h55 t1 t2 xs ys) ⟨h1,h2,fun h' Z kp=>?_⟩
 exact⟨⟨_,Z.1,rfl⟩,h h' Z kp⟩
end
def Itz (K:PySem.W.Frag)(t1 t2:Addr):It :=
 ⟨fun i H=>∃ xs ys x y,SqT K H t1 xs/\SqT K H t2 ys/\xs[i]?=some x/\ys[i]?=some y,
  fun i H v H'=>∃ T x y,H T=none/\v=.ref T/\(∀ xs,SqT K H t1 xs->xs[i]?=some x)/\(∀ ys,SqT K H t2 ys->ys[i]?=some y)/\H'=upd H T (.tup [x,y]),
  fun i H=>∃ xs ys,SqT K H t1 xs/\SqT K H t2 ys/\(xs.length<=i∨ys.length<=i)⟩
theorem h43 {P:Program}{w:World}{K:PySem.W.Frag}{elts:List Expr}{ek:Nat}{ep:Pos}(z TI TO i1 i2 t1 t2:Addr)(D:ZApart z TI TO i1 i2)(n1:t1≠z/\t1≠TO/\t1≠i1/\t1≠i2)(n2:t2≠z/\t2≠TO/\t2≠i1/\t2≠i2) :
 Turn P w K (.Tuple elts ek ep) (Itz K t1 t2) [z,TI,TO,i1,i2] z (fun k h=>j02 z TI TO i1 i2 t1 t2 k h) where
 mem:=by simp
 obj:=fun k h st b hb=>by
  obtain⟨hz,hTI,⟨a,c,hTO⟩,⟨o1,e1,_,d1⟩,⟨o2,e2,_,d2⟩⟩:=st
  simp only[Cj,List.not_mem_nil,or_false] at hb
  rcases hb with rfl | rfl | rfl | rfl | rfl
  ·exact⟨_,hz,fun v q=>by cases (show Data.fields _=Data.cell v from q)⟩
  ·exact⟨_,hTI,fun v q=>by cases (show Data.seq _ _=Data.cell v from q)⟩
  ·exact⟨_,hTO,fun v q=>by cases (show Data.seq _ _=Data.cell v from q)⟩
  ·exact⟨o1,e1,fun v q=>by rw[d1] at q;cases q⟩
  ·exact⟨o2,e2,fun v q=>by rw[d2] at q;cases q⟩
 keep:=fun k h h' st kp=>by
  obtain⟨hz,hTI,⟨a,c,hTO⟩,⟨o1,e1,r1⟩,⟨o2,e2,r2⟩⟩:=st
  exact⟨kp z (by simp) _ hz,kp TI (by simp) _ hTI,⟨a,c,kp TO (by simp) _ hTO⟩,⟨o1,kp i1 (by simp) _ e1,r1⟩,⟨o2,kp i2 (by simp) _ e2,r2⟩⟩
 item:=by
  intro X hP hw hK hc i pins s σ H E I hf st hg
  subst hP hw hK
  obtain⟨xs,ys,x,y,q1,q2,ex,ey⟩:=hg
  obtain⟨its1,r1,p1,_⟩:=I.tuple q1
  obtain⟨its2,r2,p2,_⟩:=I.tuple q2
  obtain⟨u,hu,ru⟩:=r1.get ex
  obtain⟨v,hv,rv⟩:=r2.get ey
  refine g05 D n1 n2 st (show s.heap.IsTuple t1 its1.toArray from p1) (show s.heap.IsTuple t2 its2.toArray from p2) (x:=u) (y:=v) (by simpa using hu) (by simpa using hv) fun h' Z hT kp=>?_
  obtain⟨hz,hTI,⟨a,c,hTO⟩,g1,g2⟩:=Z
  refine⟨_,rfl,wpAny_letOwnedTupleGo_zip hz fun h'' hz' sb=>?_⟩
  have hlt:∀ b∈[z,TI,TO,i1,i2],b < s.heap.objs.size:=fun b hb=>by
   obtain⟨hz0,hTI0,⟨a0,c0,hTO0⟩,⟨o1,e1,_⟩,⟨o2,e2,_⟩⟩:=st
   simp only[Cj,List.not_mem_nil,or_false] at hb
   rcases hb with rfl | rfl | rfl | rfl | rfl
   ·exact Ej hz0
   ·exact Ej hTI0
   ·exact Ej hTO0
   ·exact Ej e1
   ·exact Ej e2
  have hTz:s.heap.objs.size≠z:=(Nat.ne_of_lt (hlt z (by simp))).symm
  have kp2:∀ b o,b∉[z,TI,TO,i1,i2]->s.heap.get? b=some o->h''.get? b=some o:=fun b o hb e=>by
   simp only[Cj,List.not_mem_nil,or_false,not_or] at hb
   exact sb.extBut _ _ hb.1 (kp b o hb.1 hb.2.2.1 hb.2.2.2.1 hb.2.2.2.2 e)
  have kpTI:∀ o,s.heap.get? TI=some o->h''.get? TI=some o:=fun o e=>sb.extBut _ _ D.a1 (kp TI o D.a1 D.a5 D.a6 D.a7 e)
  have hTn:h''.get? s.heap.objs.size=some { cls:=.type "tuple", data:=.seq #[u,v] }:=sb.extBut _ _ hTz hT
  have fpN:∀ b∈[z,TI,TO,i1,i2],H b=none:=fun b hb=>(hf b hb).1
  have hTf:H s.heap.objs.size=none:=I.hok.fresh (AZ _)
  have neT:∀ b q,H b=some q->b≠s.heap.objs.size:=fun b q e=>a01 e hTf
  have nef:∀ b q,H b=some q->b∉[z,TI,TO,i1,i2]:=fun b q e hb=>by rw[fpN b hb] at e;cases e
  have hok:HOk X.prog X.w (upd H s.heap.objs.size (.tup [x,y])) h'':=fun b q e=>by
   by_cases hb:b=s.heap.objs.size
   ·subst hb
    rw[a02] at e;cases e
    exact⟨by show 2<=sizeLine;decide,[u,v],.cons ru (.cons rv .nil),⟨_,hTn,rfl,0,rfl⟩⟩
   ·rw[a06 hb] at e
    refine(I.hok b q e).stay (fun c w' hc' r=>kp2 c w' ?_ r) (fun c r=>by rw[a06 (neT c _ r)];exact r) fun c xs' r=>by rw[a06 (neT c _ r)];exact r
    rcases hc' with z' | z'
    ·rw[z'];exact nef b q e
    ·exact nef c _ z'
  have IS:Inv X pins σ (upd H s.heap.objs.size (.tup [x,y])) { s with heap:=h'' }:=by
   refine I.step (g':=s.gens) (t':=s.toks) (d':=s.drawn) (ch:=[z,TI,TO,i1,i2]) (fun b hb=>?_) (fun b o _ _ hc' e _=>kp2 b o hc' e) (fun b o _ _ hc' e _=>⟨o.slots,kp2 b o hc' e⟩) (fun b o _ e n=>?_)
    (fun b o hc' e=>⟨o,kp2 b o hc' e⟩) (fun b xs' e=>by rw[a06 (neT b _ e)];exact e) (fun b o q e=>by rw[a06 (neT b _ e)];exact e) (fun b ps e=>⟨#[],by rw[a06 (neT b _ e),e];simp⟩) (fun m hm=>?_) hok I.bare
   ·obtain⟨_,f1,f2,f3,f4,f5⟩:=hf b hb
    exact⟨f3,f1,f4,f5⟩
   ·rw[a06 (Nat.ne_of_lt (Ej e))];exact n
   ·obtain⟨o,es,ep',ho,r⟩:=hm
    exact⟨o,es,ep',kp2 _ o (fun hb=>(hf _ hb).2.1 rfl) ho,r⟩
  refine⟨.ref s.heap.objs.size,_,IS,rfl,⟨_,x,y,hTf,rfl,fun xs' q=>by rw[I.tuple_inj q q1];exact ex,fun ys' q=>by rw[I.tuple_inj q q2];exact ey,rfl⟩,
   ⟨hz',sb.extBut _ _ D.a1 hTI,⟨a,c,sb.extBut _ _ D.a2 hTO⟩,a45 g1 sb.extBut D.a3,a45 g2 sb.extBut D.a4⟩,fun b hb=>?_⟩
  rw[a06 (Nat.ne_of_lt (hlt b hb))]
  exact fpN b hb
 done:=by
  intro X hP hw hK hc i pins s σ H E I hf st hg
  subst hP hw hK
  obtain⟨xs,ys,q1,q2,hend⟩:=hg
  obtain⟨its1,r1,p1,_⟩:=I.tuple q1
  obtain⟨its2,r2,p2,_⟩:=I.tuple q2
  have l1:=r1.length
  have l2:=r2.length
  refine g87 (I.ok.hd hc) D n1 n2 st (show s.heap.IsTuple t1 its1.toArray from p1) (show s.heap.IsTuple t2 its2.toArray from p2) (by
   rcases hend with q | q
   ·exact .inl (Array.getElem?_eq_none (by rw[List.size_toArray];omega))
   ·exact .inr (Array.getElem?_eq_none (by rw[List.size_toArray];omega))) fun h' kp=>⟨rfl,?_⟩
  have kp2:∀ b o,b∉[z,TO,i1,i2]->s.heap.get? b=some o->h'.get? b=some o:=fun b o hb e=>by
   simp only[Cj,List.not_mem_nil,or_false,not_or] at hb
   exact kp b o hb.1 hb.2.1 hb.2.2.1 hb.2.2.2 e
  have sub:∀ b∈[z,TO,i1,i2],b∈[z,TI,TO,i1,i2]:=fun b hb=>by
   simp only[Cj,List.not_mem_nil,or_false] at hb ⊢
   rcases hb with q | q | q | q
   ·exact .inl q
   ·exact .inr (.inr (.inl q))
   ·exact .inr (.inr (.inr (.inl q)))
   ·exact .inr (.inr (.inr (.inr q)))
  have nef:∀ b q,H b=some q->b∉[z,TO,i1,i2]:=fun b q e hb=>by rw[(hf b (sub b hb)).1] at e;cases e
  refine I.step (g':=s.gens) (t':=s.toks) (d':=s.drawn) (ch:=[z,TO,i1,i2]) (fun b hb=>?_) (fun b o _ _ hc' e _=>kp2 b o hc' e) (fun b o _ _ hc' e _=>⟨o.slots,kp2 b o hc' e⟩) (fun _ _ _ _ n=>n)
   (fun b o hc' e=>⟨o,kp2 b o hc' e⟩) (fun _ _ e=>e) (fun _ _ _ e=>e) (fun b ps e=>⟨#[],by rw[e];simp⟩) (fun m hm=>?_) (fun b q e=>?_) I.bare
  ·obtain⟨_,f1,f2,f3,f4,f5⟩:=hf b (sub b hb)
   exact⟨f3,f1,f4,f5⟩
  ·obtain⟨o,es,ep',ho,r⟩:=hm
   exact⟨o,es,ep',kp2 _ o (fun hb=>(hf _ (sub _ hb)).2.1 rfl) ho,r⟩
  ·refine(I.hok b q e).stay (fun c w' hc' r=>kp2 c w' ?_ r) (fun _ r=>r) fun _ _ r=>r
   rcases hc' with z' | z'
   ·rw[z'];exact nef b q e
   ·exact nef c _ z'
 self:=fun A i s Q E st h=>wpAny_pyIter_zip st.1 h
section
variable {X:Cx}
def iZip (K:PySem.W.Frag)(ta:TA):TI:=fun σ H R=>ta σ H fun vs H1=>∃ t1 t2,vs=[.ref t1,.ref t2]/\(∃ xs,SqT K H1 t1 xs)/\(∃ ys,SqT K H1 t2 ys)/\R (Itz K t1 t2) H1
theorem i68 {a b:Expr}{ta:TA}{p pos:Pos}{elts:List Expr}{ek:Nat}{ep:Pos}(hg:Gl X "zip")(hm:X.mg "zip" = none)(ha:PA X [a,b] ta)
 (hs:starEach [a,b] X.env=[(false,eval a X.env),(false,eval b X.env)]:=by rfl)(hs2:starEach [b] X.env=[(false,eval b X.env)]:=by rfl) :
 PI X (.Tuple elts ek ep) (.Call (.Name "zip" p) [a,b] [] pos) (iZip X.K ta):=by
 try constructor
 intro pins s σ H R I h
 refine Call_ (c64 I hg hm PyProof.Rows.Boot.zip (PyProof.Rows.callWith_type1 (thn (ha pos pins s σ H _ I h) fun us s1 ⟨vs,H1,I1,r1,q1⟩=>?_) (by rw[hs,hs2]) (by rw[hs2];rfl)))
 obtain⟨t1,t2,e,⟨xs,q1⟩,⟨ys,q2⟩,q⟩:=q1
 subst e
 obtain⟨u,v,rfl,ru,rv⟩:=i72 r1
 cases ru
 cases rv
 obtain⟨its1,_,p1,_⟩:=I1.tuple q1
 obtain⟨its2,_,p2,_⟩:=I1.tuple q2
 refine g29 (show s1.heap.IsTuple t1 its1.toArray from p1) (show s1.heap.IsTuple t2 its2.toArray from p2) fun h' Z kp=>?_
 refine wpAny_pyIter_zip Z.1 ?_
 have l1:@LT.lt Nat _ t1 s1.heap.objs.size:=p1.lt
 have l2:@LT.lt Nat _ t2 s1.heap.objs.size:=p2.lt
 have I2:Inv X pins σ H1 { s1 with heap:=h' }:=I1.kept (t':=s1.toks) kp
 refine⟨s1.heap.objs.size+4,[s1.heap.objs.size+4,s1.heap.objs.size+2,s1.heap.objs.size+3,s1.heap.objs.size,s1.heap.objs.size+1],_,_,H1,rfl,I2,
  h43 _ _ _ _ _ t1 t2 ⟨by show @Ne Nat _ _;omega,by show @Ne Nat _ _;omega,by show @Ne Nat _ _;omega,by show @Ne Nat _ _;omega,by show @Ne Nat _ _;omega,by show @Ne Nat _ _;omega,by show @Ne Nat _ _;omega,by show @Ne Nat _ _;omega,by show @Ne Nat _ _;omega,by show @Ne Nat _ _;omega⟩ ⟨by show @Ne Nat _ _;omega,by show @Ne Nat _ _;omega,by show @Ne Nat _ _;omega,by show @Ne Nat _ _;omega⟩ ⟨by show @Ne Nat _ _;omega,by show @Ne Nat _ _;omega,by show @Ne Nat _ _;omega,by show @Ne Nat _ _;omega⟩,Z,fun b hb=>?_,q⟩
 have hb':s1.heap.objs.size<=b:=by
  simp only[Cj,List.not_mem_nil,or_false] at hb
  rcases hb with rfl | rfl | rfl | rfl | rfl
  ·exact Nat.le_add_right _ _
  ·exact Nat.le_add_right _ _
  ·exact Nat.le_add_right _ _
  ·exact AZ _
  ·exact Nat.le_add_right _ _
 exact I1.fpOk hb' (I1.hok.fresh hb')
end
end L2
namespace L2
open PySem PySem.Spec PyProof.Rows
section
variable {X:Cx}
theorem c70:MtM X "str.split" (fun x xs H Q=>∃ z y,x=.str z/\xs=[.str y]/\(y.length == 0)=false/\z.length<=1000000/\∀ D,H D=none->Q (.ref D) (upd H D (.lst ((Txt.split z y).map V.str)))):=by
 try constructor
 intro pins s σ H x xs v us Q I rx rs h
 obtain⟨z,y,rfl,rfl,hy,hz,q⟩:=h
 obtain⟨t,rfl⟩:=rx
 obtain⟨u,rfl,ru⟩:=rs.one
 obtain⟨t',rfl⟩:=ru
 have hsz:z.length<=sizeLine:=by rw[sizeLine_eq];omega
 have hsl:=split_le z y
 have put:∀(l:List (Str×Tok)) (tk:Nat),l.map (·.1)=Txt.split z y->EP X pins σ Q (.ref s.heap.objs.size) { s with heap:=s.heap.push { cls:=.type "list", data:=.seq (strValues l).toArray },toks:=tk }:=fun l tk e=>by
  have rv:=d91 l
  rw[e] at rv
  exact⟨.ref _,_,I.lnew rv (by rw[Aj,sizeLine_eq];omega),rfl,q _ I.fresh⟩
 cases h1:(decide (z.length < y.length)||decide (Builtin.Str.strKind z < Builtin.Str.strKind y))
 ·cases hf:(Builtin.Str.occurrences z y 0 z.length (z.length+1)).isEmpty
  ·have e0:Txt.split z y=Builtin.Str.partsBetween z (Builtin.Str.occurrences z y 0 z.length (z.length+1)) y.length:=by
    unfold Txt.split
    rw[if_neg (ne_true_of_eq_false h1),if_neg (ne_true_of_eq_false hf)]
   refine call_meets F.slot_str_split (typeIs_str _ _ _) F.entry_str_split (F.args_str_split_2 _ _) (meets_str_split_sep z y t t' h1 hy hf hsz (by rw[← e0,sizeLine_eq];omega)) ?_
   show wants _ _ _ { s with toks:=_,heap:=s.heap.push { cls:=.type "list", data:=.seq (strsFrom s.toks (Builtin.Str.partsBetween z (Builtin.Str.occurrences z y 0 z.length (z.length+1)) y.length)).toArray } }
   rw[strsFrom_eq]
   exact put (numbered s.toks _) _ ((numbered_texts _ _).trans e0.symm)
  ·have e0:Txt.split z y=[z]:=by
    unfold Txt.split
    rw[if_neg (ne_true_of_eq_false h1),if_pos hf]
   exact call_meets F.slot_str_split (typeIs_str _ _ _) F.entry_str_split (F.args_str_split_2 _ _) (meets_str_split_not_found z y t t' h1 hy hf) (put [(z,t)] s.toks e0.symm)
 ·have e0:Txt.split z y=[z]:=by
   unfold Txt.split
   rw[if_pos h1]
  exact call_meets F.slot_str_split (typeIs_str _ _ _) F.entry_str_split (F.args_str_split_2 _ _) (meets_str_split_cannot_occur z y t t' h1) (put [(z,t)] s.toks e0.symm)
theorem b80 {zs:List Str}{its:List Value}(r:Vals (zs.map V.str) its){j:Nat}(hj:j < its.length):∃(h:j < zs.length)(t:Tok),its[j]=.str zs[j] t:=by
 have hl:=r.length
 rw[Aj] at hl
 have h:j < zs.length:=by omega
 obtain⟨u,hu,t,e⟩:=r.get (i:=j) (x:=.str zs[j]) (by rw[CQ,Bz h];rfl)
 rw[Bz hj] at hu
 cases hu
 exact⟨h,t,e⟩
theorem b95 (xs ys:List Str):((List.range (min xs.length ys.length)).all (fun j=>xs.getD j "" == ys.getD j "") && xs.length == ys.length)=decide (xs=ys):=by
 rw[Bool.eq_iff_iff,Bool.and_eq_true,decide_eq_true_iff,List.all_eq_true,beq_iff_eq]
 constructor
 ·rintro⟨h1,h2⟩
  apply List.ext_getElem h2
  intro j ha hb
  have:=h1 j (List.mem_range.mpr (by omega))
  rw[List.getD_eq_getElem?_getD,List.getD_eq_getElem?_getD,Bz ha,Bz hb] at this
  exact eq_of_beq this
 ·rintro rfl
  exact⟨fun j _=>beq_self_eq_true _,rfl⟩
theorem h67 (hu:X.A.units < cLine):OpR X (compareOp .Eq) (fun x y H Q=>∃(a b:Addr) (xs ys:List Str),x=.ref a/\y=.ref b/\SqT X.K H a (xs.map V.str)/\SqT X.K H b (ys.map V.str)/\Q (.bl (decide (xs=ys))) H):=by
 try constructor
 intro pins s σ H x y v u Q I rx ry h
 obtain⟨a,b,xs,ys,rfl,rfl,ha,hb,q⟩:=h
 cases rx
 cases ry
 obtain⟨its,r1,p1,_⟩:=I.tuple ha
 obtain⟨its2,r2,p2,_⟩:=I.tuple hb
 have l1:=r1.length
 have l2:=r2.length
 rw[Aj] at l1 l2
 refine SeqAt.eq_tupleAt (e:=fun j=>xs.getD j "" == ys.getD j "") (show s.heap.IsTuple a its.toArray from p1) (show s.heap.IsTuple b its2.toArray from p2) hu (fun j h1 h2=>?_) ⟨.bl _,H,I,?_,q⟩
 ·obtain⟨g1,t1,e1⟩:=b80 r1 (j:=j) (by simpa using h1)
  obtain⟨g2,t2,e2⟩:=b80 r2 (j:=j) (by simpa using h2)
  have z1:its.toArray[j]=.str xs[j] t1:=by simpa using e1
  have z2:its2.toArray[j]=.str ys[j] t2:=by simpa using e2
  rw[z1,z2,List.getD_eq_getElem?_getD,List.getD_eq_getElem?_getD,Bz g1,Bz g2]
  exact SeqAt.EqAt.str_str _ _ _ _
 ·show Value.bool _=Value.bool _
  rw[List.size_toArray,List.size_toArray,← l1,← l2,b95]
end
end L2
namespace L2
open PySem PySem.Spec PyProof.Rows
def e33 (c:Nat):List Nat->List (List Nat)
 | []=>[[]]
 | a::r=>if a=c then []::e33 c r else match e33 c r with
  | []=>[[a]]
  | h::t=>(a::h)::t
theorem d96 (c a:Nat) (r:List Nat):e33 c (a::r)=if a=c then []::e33 c r else match e33 c r with
 | []=>[[a]]
 | h::t=>(a::h)::t:=rfl
theorem e90 {c:Nat}:∀(p r:List Nat),c∉p->e33 c (p++c::r)=p::e33 c r
 | [],r,_=>by
  show e33 c (c::r)=_
  rw[d96,if_pos rfl]
 | a::p,r,h=>by
  have ha:a≠c:=fun e=>h (e ▸ BZ)
  have hp:c∉p:=fun m=>h (BX _ m)
  show e33 c (a::(p++c::r))=_
  rw[d96,if_neg ha,e90 p r hp]
theorem e92 {c:Nat}:∀(p:List Nat),c∉p->e33 c p=[p]
 | [],_=>rfl
 | a::p,h=>by
  have ha:a≠c:=fun e=>h (e ▸ BZ)
  have hp:c∉p:=fun m=>h (BX _ m)
  unfold e33
  rw[if_neg ha,e92 p hp]
def b96 (c:Nat):List (List Nat)->List Nat
 | []=>[]
 | [p]=>p
 | p::q::r=>p++c::b96 c (q::r)
theorem c72 {c:Nat}:∀(ps:List (List Nat)),ps≠[]->(∀ p∈ps,c∉p)->e33 c (b96 c ps)=ps
 | [],h,_=>absurd rfl h
 | [p],_,h=>e92 p (h p BZ)
 | p::q::r,_,h=>by
  show e33 c (p++c::b96 c (q::r))=_
  rw[e90 p _ (h p BZ),c72 (q::r) (by simp) fun x hx=>h x (BX _ hx)]
theorem d14 (c:Nat):∀ ts:List Str,(Str.join ⟨#[c]⟩ ts).cps.toList=b96 c (ts.map fun t=>t.cps.toList)
 | []=>rfl
 | [t]=>rfl
 | t::u::r=>by
  show(t++(⟨#[c]⟩:Str)++Str.join ⟨#[c]⟩ (u::r)).cps.toList=t.cps.toList++c::b96 c ((u::r).map fun t=>t.cps.toList)
  rw[Str.cps_append,Str.cps_append,Array.toList_append,Array.toList_append,d14 c (u::r),List.append_assoc]
  rfl
theorem e51 (x:Str) (c:Nat):(Txt.split x ⟨#[c]⟩).map (fun t=>t.cps.toList)=e33 c x.cps.toList:=by
 have h1:=StrLaws.join_split x ⟨#[c]⟩
 have h2:=d14 c (Txt.split x ⟨#[c]⟩)
 rw[h1] at h2
 rw[h2,c72]
 ·intro e
  have hp:=split_pos x ⟨#[c]⟩
  have:((Txt.split x ⟨#[c]⟩).map fun t=>t.cps.toList).length=0:=by rw[e];rfl
  rw[Aj] at this
  omega
 ·intro p hp
  obtain⟨t,ht,rfl⟩:=Ez.mp hp
  exact StrLaws.split_free x c t ht
def c55 (l:List Nat):Str:=⟨l.toArray⟩
theorem b39 (x:Str):c55 x.cps.toList=x:=by
 unfold c55
 cases x
 simp
theorem e70 (x:Str) (c:Nat):Txt.split x ⟨#[c]⟩=(e33 c x.cps.toList).map c55:=by
 rw[← e51,List.map_map]
 have:(c55 ∘ fun(t:Str)=>t.cps.toList)=id:=by
  funext t
  exact b39 t
 rw[this,List.map_id]
theorem e56 (x:Str):(Txt.slice x (some 1) none).cps.toList=x.cps.toList.drop 1:=by
 have hL:x.cps.toList.length=x.length:=by simp[Str.length]
 have e0:Builtin.Str.strSliceIndices (some 1) none 1 x.length=Builtin.Str.strSliceIndices (some 1) (some (x.length:Int)) 1 x.length:=by
  have h1:¬(x.length:Int) < 0:=by omega
  have h2:max (0:Int) (min (x.length:Int) (x.length:Int))=(x.length:Int):=by omega
  unfold Builtin.Str.strSliceIndices
  simp only[if_neg h1,h2]
  first | rfl | simp
 unfold Txt.slice
 rw[e0]
 by_cases h0:x.length=0
 ·have e1:x.cps.toList=[]:=List.length_eq_zero_iff.mp (by omega)
  have h2:=sliceIndices_le (some 1) (some (x.length:Int)) x.length
  rw[if_pos (by rw[Bool.and_eq_true];exact⟨rfl,beq_iff_eq.mpr (by omega)⟩),e1]
  rfl
 ·have e2:=StrLaws.strSliceIndices_plain (a:=1) (b:=x.length) (len:=x.length) (by omega) (AZ _)
  have e3:=StrLaws.sliced_plain x (a:=1) (b:=x.length) (by omega) (AZ _)
  have e2':(Builtin.Str.strSliceIndices (some 1) (some (x.length:Int)) 1 x.length).length=x.length-1:=by
   have:Builtin.Str.strSliceIndices (some 1) (some (x.length:Int)) 1 x.length=(List.range (x.length-1)).map (fun k=>1+k):=e2
   rw[this,Aj,List.length_range]
  rw[if_neg (by
   intro q
   rw[Bool.and_eq_true] at q
   have:=eq_of_beq q.2
   omega)]
  show((Builtin.Str.strSliceIndices (some 1) (some (x.length:Int)) 1 x.length).filterMap (x.cps[·]?))=_
  have e4:(Builtin.Str.strSliceIndices (some 1) (some (x.length:Int)) 1 x.length).filterMap (x.cps[·]?)=(x.cps.toList.drop 1).take (x.length-1):=e3
  rw[e4,DQ (by rw[EQ,hL];exact AZ _)]
end L2
namespace L2
open PySem PySem.Spec PyProof.Rows
theorem FnOk.or {P:Program}{w:World}{K:PySem.W.Frag}{mg:Str->Option Value}{base:Heap}{CX:CXT}{k:Nat}{f:Addr}{fd:FuncData}{ps:List Str}{sp sp':Sp}(F:FnOk P w K mg base CX k f fd ps sp)(G:FnOk P w K mg base CX k f fd ps sp') :
 FnOk P w K mg base CX k f fd ps (fun vs H Q E=>sp vs H Q E∨sp' vs H Q E) :=
 ⟨fun vs H Q E q=>q.elim (F.len vs H Q E) (G.len vs H Q E),fun A outer s H args us vs Q E hr he hb hv hs=>hs.elim (F.run A outer s H args us vs Q E hr he hb hv) (G.run A outer s H args us vs Q E hr he hb hv)⟩
section
variable {X:Cx}
theorem d87 (xs ys:List Str)(h:xs.length=ys.length):(List.range xs.length).all (fun j=>xs.getD j "" == ys.getD j "")=decide (xs=ys):=by
 have:=b95 xs ys
 rw[h,Nat.min_self] at this
 rw[← this,h]
 simp
theorem h61 (hu:X.A.units < cLine):OpR X (compareOp .Eq) (fun x y H Q=>∃(a b:Addr) (xs ys:List Str),x=.ref a/\y=.ref b/\SqL X.K H a (xs.map V.str)/\SqL X.K H b (ys.map V.str)/\Q (.bl (decide (xs=ys))) H):=by
 try constructor
 intro pins s σ H x y v u Q I rx ry h
 obtain⟨a,b,xs,ys,rfl,rfl,ha,hb,q⟩:=h
 cases rx
 cases ry
 obtain⟨its,r1,p1,_⟩:=I.list ha
 obtain⟨its2,r2,p2,_⟩:=I.list hb
 have l1:=r1.length
 have l2:=r2.length
 rw[Aj] at l1 l2
 by_cases hl:xs.length=ys.length
 ·refine SeqAt.eq_listAt (e:=fun j=>xs.getD j "" == ys.getD j "") p1.isList p2.isList (by rw[List.size_toArray,List.size_toArray];omega) hu (fun j h1 h2=>?_) ⟨.bl _,H,I,?_,q⟩
  ·obtain⟨g1,t1,e1⟩:=b80 r1 (j:=j) (by simpa using h1)
   obtain⟨g2,t2,e2⟩:=b80 r2 (j:=j) (by simpa using h2)
   have z1:its.toArray[j]=.str xs[j] t1:=by simpa using e1
   have z2:its2.toArray[j]=.str ys[j] t2:=by simpa using e2
   rw[z1,z2,List.getD_eq_getElem?_getD,List.getD_eq_getElem?_getD,Bz g1,Bz g2]
   exact SeqAt.EqAt.str_str _ _ _ _
  ·show Value.bool _=Value.bool _
   rw[List.size_toArray,← l1,d87 xs ys hl]
 ·refine SeqAt.eq_list_lengthsAt p1.isList p2.isList (by rw[List.size_toArray,List.size_toArray,bne_iff_ne];omega) hu ⟨.bl _,H,I,?_,q⟩
  show Value.bool _=Value.bool _
  rw[Fz fun e=>hl (by rw[e])]
end
section
variable {X:Cx}{elt iter:Expr}{x:Str}{px pos:Pos}{scope:Scope}{wi:TI}{te:TE}
end
end L2
namespace L2
open PySem PySem.Spec PyProof.Rows
section
variable {prog:Program}{w:World}{A:Around}{E:Value->Shared->Prop}{s:Shared}
theorem f39 {t sl:Addr}{items:Array Value}{vl vu:Value}{lo hi:Option Int}{Q:Value->Shared->Prop}(ht:IsTup s.heap t items)(hs:s.heap.IsSliceOf sl vl vu .none)(pl:IsPart vl lo)(pu:IsPart vu hi)
 (hw:HT.sIx items.size 0 lo=0/\HT.sIx items.size items.size hi=items.size)(h:Q (.ref t) s):wpAny (model prog w) A (getItem (.ref t) (.ref sl)) Q E s:=by
 obtain⟨os,hos,hcs,hds⟩:=id hs
 have hTs:s.TypeIs (.ref sl) "slice" := ⟨os,hos,hcs⟩
 unfold getItem
 try with_reducible refine wpAny_holding ?_
 first | refine AQ (AX ?_) | skip
 refine AQ (wpAny_sequenceKey ht.typeIs (by decide) ?_)
 refine AQ (wpAny_callSpecial?_slot (name:=Str.ofString "__getitem__") ht.typeIs PyProof.Rows.slot_tuple_getitem (wpAny_call_entry PyProof.Rows.slot_tuple_getitem ht.typeIs entry_tuple_getitem ?_ (args_tuple_getitem _ _)))
 show wpAny _ _ (Builtin.Tuple.tupleItemsOf (.ref t) >>= _) _ _ s
 refine AQ (tupleItemsOf_ ht ?_)
 refine AQ (wpAny_typeOf hTs ?_)
 rw[if_pos (by decide)]
 refine AQ (HT.sliceApplied_gen hs pl pu ?_)
 have hyes:(((HT.sIx items.size 0 lo:Nat):Int) == 0 && (1:Int) == 1 && (HT.sIx items.size items.size hi-HT.sIx items.size 0 lo) == items.size)=true:=by
  rw[hw.1,hw.2]
  simp
 show wpAny _ _ (if (((HT.sIx items.size 0 lo:Nat):Int) == 0 && (1:Int) == 1 && (HT.sIx items.size items.size hi-HT.sIx items.size 0 lo) == items.size)=true then _ else _) _ _ s
 rw[if_pos hyes]
 refine AQ (m:=Builtin.Tuple.tupleIsExact _) ?_
 unfold Builtin.Tuple.tupleIsExact
 refine AQ (wpAny_typeOf ht.typeIs (AX ?_))
 rw[if_pos (by decide)]
 refine AQ (wpAny_rule ?_)
 first
  | exact AX ⟨_,rfl,AX h⟩
  | exact AQ (AX (AX ⟨_,rfl,AX h⟩))
  | exact AQ (AX ⟨_,rfl,AX h⟩)
theorem h35 {t b:Addr}{ws:List Value}{Q:Value->Shared->Prop}(ht:IsTup s.heap t ([]:List Value).toArray)(hb:IsTup s.heap b ws.toArray)(h:Q (.ref b) s):wpAny (model prog w) A (binaryOp .Add (.ref t) (.ref b)) Q E s:=by
 obtain⟨⟨cls,dd,data,sl⟩,ho,hc,n,hd⟩:=id ht
 obtain⟨⟨cls2,dd2,data2,sl2⟩,ho2,hc2,n2,hd2⟩:=id hb
 simp only at hc hd hc2 hd2
 subst hc hd hc2 hd2
 exact concat_meets ⟨_,ho,rfl⟩ ⟨_,ho2,rfl⟩ noFill_tuple_add seq_tuple_add PySem.F.slot_tuple_add PySem.F.entry_tuple_add (PySem.F.args_tuple_add_2 _ _) (tuple_addW0 t b [].toArray ws.toArray n n2 dd dd2 sl sl2 (by simp)) ⟨ho,ho2,h⟩
end
section
variable {X:Cx}
theorem f40 {xs:List V}{lo hi:Option Int}(h:HT.sIx xs.length 0 lo=0/\HT.sIx xs.length xs.length hi=xs.length):b52 xs lo hi=xs:=by
 unfold b52
 rw[h.1,h.2,List.drop_zero,Nat.sub_zero,DQ (AZ _)]
theorem g47:SlR X (fun x lo hi H Q=>∃(a:Addr) (xs:List V),x=.ref a/\H a=some (.tup xs)/\∀(t:Addr)(H':Hp),H' t=some (.tup (b52 xs lo hi))->Same H H'->Q (.ref t) H'):=by
 try constructor
 intro pins s σ H x v vl vu lo hi sl Q I rx hs pl pu h
 obtain⟨a,xs,rfl,ha,q⟩:=h
 by_cases hw:HT.sIx xs.length 0 lo=0/\HT.sIx xs.length xs.length hi=xs.length
 ·cases rx
  obtain⟨its,r,ht,hz⟩:=I.tuple (SqT.of ha)
  have hlen:its.toArray.size=xs.length:=by rw[List.size_toArray];exact r.length.symm
  refine⟨"tuple", _,PyProof.Rows.slot_tuple_getitem.lookup,ht.typeIs,?_⟩
  exact f39 ht hs pl pu (by rw[hlen];exact hw) ⟨.ref a,H,I,rfl,q a H (by rw[f40 hw];exact ha) (Same.refl H)⟩
 ·exact i91 pins s σ H (.ref a) v vl vu lo hi sl Q I rx hs pl pu ⟨a,xs,rfl,SqT.of ha,hw,fun p hp=>q p _ a02 ((Same.refl H).upd hp)⟩
theorem d67:OpR X (binaryOp .Add) (fun x y H Q=>∃(a b:Addr) (xs ys:List V),x=.ref a/\y=.ref b/\H a=some (.tup xs)/\H b=some (.tup ys)/\xs.length+ys.length<=sizeLine /\
 ∀(t:Addr)(H':Hp),H' t=some (.tup (xs++ys))->Same H H'->Q (.ref t) H'):=by
 try constructor
 intro pins s σ H x y v u Q I rx ry h
 obtain⟨a,b,xs,ys,rfl,rfl,ha,hb,hz,q⟩:=h
 cases xs with
 | nil =>
  cases rx
  cases ry
  obtain⟨its,r1,p1,_⟩:=I.tuple (SqT.of ha)
  obtain⟨its2,r2,p2,_⟩:=I.tuple (SqT.of hb)
  cases r1
  exact h35 p1 p2 ⟨.ref b,H,I,rfl,q b H hb (Same.refl H)⟩
 | cons x0 xr =>
  exact i00 pins s σ H (.ref a) (.ref b) v u Q I rx ry ⟨a,b,x0::xr,ys,rfl,rfl,SqT.of ha,SqT.of hb,by simp,hz,fun e=>q a H (by rw[e,List.append_nil];exact ha) (Same.refl H),fun _ p hp=>q p _ a02 ((Same.refl H).upd hp)⟩
end
end L2
namespace L2
open PySem PySem.Spec PyProof.Rows
abbrev TF:=St->Hp->Str->(Str->Hp->Prop)->Prop
structure PF (X:Cx) (vs:List Expr)(t:TF):Prop where
 run:∀(pins:List (Addr×Obj))(s:Shared)(σ:St)(H:Hp) (acc:Str) (Q:Str->Hp->Prop),Inv X pins σ H s->t σ H acc Q ->
  PySem.Joins (model X.prog X.w) X.A X.xe (evalEach vs X.env) acc (fun out s'=>∃ H',Inv X pins σ H' s'/\Q out H') s
section
variable {X:Cx}
theorem f30:PF X [] (fun _ H acc Q=>Q acc H):=⟨fun pins s σ H acc Q I h=>⟨H,I,h⟩⟩
theorem d00 {x:Str}{j pos}{vs:List Expr}{t:TF}(h:PF X vs t):PF X (.Constant (.str x) j pos::vs) (fun σ H acc Q=>(acc++x).length<=sizeLine/\t σ H (acc++x) Q):=⟨by
 try constructor
 intro pins s σ H acc Q I q
 exact Calls.Constant_str ⟨x,s.toks,rfl,q.1,h.run pins _ σ H _ Q (I.tok _) q.2⟩⟩
def i71 (v:V) (y:Str):Prop:=v=.str y∨∃ i:Int,v=.int i/\i.natAbs.log2 < 1920/\y=toString i
theorem d19 {e:Expr}{pos}{te:TE}{vs:List Expr}{t:TF}(he:PE X e te)(h:PF X vs t):PF X (.FormattedValue e (-1) none pos::vs) (fun σ H acc Q=>te σ H fun v H1=>∃ y,i71 v y/\y.length<=sizeLine/\(acc++y).length<=sizeLine/\t σ H1 (acc++y) Q):=⟨by
 try constructor
 intro pins s σ H acc Q I q
 refine PyProof.Rows.FormattedValue_plain (thn (he.run pins s σ H _ I q) fun u s1 ⟨v,H1,I1,r1,y,py,hy,hz,q1⟩=>?_)
 rcases py with rfl | ⟨i,rfl,hi,rfl⟩
 ·obtain⟨t,rfl⟩:=r1
  exact PyProof.Rows.formatField_str (fun t' tk=>⟨y,t',rfl,hz,h.run pins _ σ H1 _ Q (I1.tok _) q1⟩) hy
 ·obtain⟨t,rfl⟩:=r1
  exact PyProof.Rows.formatField_int_small hi ⟨_,_,rfl,hz,h.run pins _ σ H1 _ Q (I1.tok _) q1⟩⟩
theorem d60 {v₁ v₂:Expr}{rest:List Expr}{pos:Pos}{t:TF}(h:PF X (v₁::v₂::rest) t):PE X (.JoinedStr (v₁::v₂::rest) pos) (fun σ H Q=>t σ H Str.empty fun out H'=>out.length<=sizeLine/\Q (.str out) H'):=by
 try constructor
 try constructor
 intro pins s σ H Q I q
 refine wpAny_JoinedStr ?_
 have:=h.run pins s σ H Str.empty _ I q
 have mono:∀(l:List (Sem Value)) (acc:Str)(s:Shared){Q1 Q2:Str->Shared->Prop},(∀ o s,Q1 o s->Q2 o s)->PySem.Joins (model X.prog X.w) X.A X.xe l acc Q1 s->PySem.Joins (model X.prog X.w) X.A X.xe l acc Q2 s:=by
  intro l
  induction l with
  | nil=>exact fun acc s Q1 Q2 hq q=>hq _ _ q
  | cons x l ih =>
   intro acc s Q1 Q2 hq q
   exact thn q fun v s1 ⟨y,t,e,hz,q1⟩=>⟨y,t,e,hz,ih _ _ hq q1⟩
 refine mono _ _ _ (fun out s' ⟨H',I',hz,q'⟩=>⟨hz,?_⟩) this
 exact⟨.str out,H',I'.tok _,⟨_,rfl⟩,q'⟩
end
def OptP (H:Hp) (v:V)(o:Option (List Str)):Prop:=match o with
 | none=>v=.non
 | some zs=>∃ a,v=.ref a/\H a=some (.tup (zs.map V.str))
abbrev d78 (H:Hp):List V->List (Option (List Str))->Prop:=Paired (OptP H)
theorem OptP.mono {H H':Hp}(k:∀ b xs,H b=some (.tup xs)->H' b=some (.tup xs)){v:V}{o:Option (List Str)}(h:OptP H v o):OptP H' v o:=by
 cases o with
 | none=>exact h
 | some zs=>obtain⟨a,e,q⟩:=h;exact⟨a,e,k _ _ q⟩
theorem c66:∀ {a b:List Str},a.map V.str=b.map V.str->a=b
 | [],[],_=>rfl
 | [],_::_,e=>by cases e
 | _::_,[],e=>by cases e
 | x::a,y::b,e=>by
  rw[CJ,CJ] at e
  obtain⟨e1,e2⟩:=List.cons.inj e
  injection e1 with e1
  rw[e1,c66 e2]
def eqP (H:Hp) (zs:List Str) (u:Value):Bool:=match u with
 | .ref a=>match H a with
  | some (.tup xs)=>decide (xs=zs.map V.str)
  | _=>false
 | _=>false
theorem g80 {A:Around}{pins:List (Addr×Obj)}{X:Cx}{σ:St}{H:Hp}{s:Shared}{a b:Addr}{xs ys:List Str}(hu:A.units < cLine)(I:Inv X pins σ H s)(ha:H a=some (.tup (xs.map V.str)))(hb:H b=some (.tup (ys.map V.str))):SeqAt.EqAt A s (.ref a) (.ref b) (decide (xs=ys)):=by
 by_cases e:a=b
 ·subst e
  rw[ha] at hb
  have:=c66 (HO.tup.inj (EJ hb))
  rw[Az this]
  exact SeqAt.EqAt.same _
 ·obtain⟨its,r1,p1,_⟩:=I.tuple (SqT.of (K:=X.K) ha)
  obtain⟨its2,r2,p2,_⟩:=I.tuple (SqT.of (K:=X.K) hb)
  have l1:=r1.length
  have l2:=r2.length
  rw[Aj] at l1 l2
  have q:=SeqAt.RcAt.tuples (A:=A) (s:=s) (e:=fun j=>xs.getD j "" == ys.getD j "") (show s.heap.IsTuple a its.toArray from p1) (show s.heap.IsTuple b its2.toArray from p2) hu (fun j h1 h2=>by
   obtain⟨g1,t1,e1⟩:=b80 r1 (j:=j) (by simpa using h1)
   obtain⟨g2,t2,e2⟩:=b80 r2 (j:=j) (by simpa using h2)
   have z1:its.toArray[j]=.str xs[j] t1:=by simpa using e1
   have z2:its2.toArray[j]=.str ys[j] t2:=by simpa using e2
   rw[z1,z2,List.getD_eq_getElem?_getD,List.getD_eq_getElem?_getD,Bz g1,Bz g2]
   exact SeqAt.EqAt.str_str _ _ _ _)
  rw[List.size_toArray,List.size_toArray,← l1,← l2,b95] at q
  exact SeqAt.EqAt.of_refs e q
theorem h69 {H:Hp}{v:V}{u:Value}{o:Option (List Str)}{zs:List Str}(h:OptP H v o)(r:RelV v u):eqP H zs u=decide (o=some zs):=by
 cases o with
 | none =>
  cases (show v=.non from h)
  cases (show u=Value.none from r)
  exact(Fz fun q=>nomatch q).symm
 | some ws =>
  obtain⟨a,rfl,e⟩:=h
  cases (show u=Value.ref a from r)
  unfold eqP
  simp only[e]
  by_cases q:ws=zs
  ·subst q
   rw[Az rfl,Az rfl]
  ·rw[Fz fun w=>q (c66 w),Fz fun w=>q (EJ w)]
theorem e43 {H:Hp}{zs:List Str}:∀ {xs:List V}{os:List (Option (List Str))}{us:List Value},d78 H xs os->Vals xs us->us.any (eqP H zs)=decide (some zs∈os)
 | _,_,_,.nil,.nil=>(Fz (fun q=>nomatch q)).symm
 | _,o::os,_,.cons h t,.cons r t'=>by
  rw[List.any_cons,h69 h r,e43 t t',← Bool.decide_or]
  congr 1
  rw[Cj]
  exact propext ⟨fun q=>q.imp Eq.symm id,fun q=>q.imp Eq.symm id⟩
theorem e25 {A:Around}{pins:List (Addr×Obj)}{X:Cx}{σ:St}{H:Hp}{s:Shared}{b:Addr}{zs:List Str}(hu:A.units < cLine)(I:Inv X pins σ H s)(hb:H b=some (.tup (zs.map V.str))):∀ {xs:List V}{os:List (Option (List Str))}{us:List Value},d78 H xs os->Vals xs us->∀ u∈us,SeqAt.EqAt A s u (.ref b) (eqP H zs u)
 | _,_,_,.nil,.nil=>fun u hu=>nomatch hu
 | _,o::os,_,.cons h t,.cons r t'=>fun u q=>by
  rcases Cj.mp q with rfl | q
  ·rw[h69 h r]
   cases o with
   | none =>
    cases (show _=V.non from h)
    cases (show u=Value.none from r)
    rw[Fz fun q=>nomatch q]
    obtain⟨its,r1,p1,_⟩:=I.tuple (SqT.of (K:=X.K) hb)
    exact SeqAt.EqAt.none_tuple p1 hu
   | some ws =>
    obtain⟨a,rfl,e⟩:=h
    cases (show u=Value.ref a from r)
    rw[show decide (some ws=some zs)=decide (ws=zs) by congr 1;exact propext ⟨EJ,congrArg some⟩]
    exact g80 hu I e hb
  ·exact e25 hu I hb t t' u q
section
variable {X:Cx}
theorem i97 (hu:X.A.units+1 < cLine):OpR X (compareOp .In) (fun x y H Q=>∃ b p zs xs os,x=.ref b/\H b=some (.tup (zs.map V.str))/\y=.ref p/\SqL X.K H p xs/\d78 H xs os/\Q (.bl (decide (some zs∈os))) H):=by
 try constructor
 intro pins s σ H x y v u Q I rx ry h
 obtain⟨b,p,zs,xs,os,rfl,hb,rfl,hq,ho,q⟩:=h
 cases rx
 cases ry
 obtain⟨its,r,pl,hz⟩:=I.list hq
 refine SeqAt.in_listAt (eqP H zs) pl.isList (fun w hw=>e25 hu I hb ho r w (by simpa using hw)) ⟨.bl _,H,I,rfl,?_⟩
 rw[show its.toArray.any (eqP H zs)=its.any (eqP H zs) by simp,e43 ho r]
 exact q
theorem g36 (hu:X.A.units+1 < cLine):OpR X (compareOp .NotIn) (fun x y H Q=>∃ b p zs xs os,x=.ref b/\H b=some (.tup (zs.map V.str))/\y=.ref p/\SqL X.K H p xs/\d78 H xs os/\Q (.bl (!decide (some zs∈os))) H):=by
 try constructor
 intro pins s σ H x y v u Q I rx ry h
 obtain⟨b,p,zs,xs,os,rfl,hb,rfl,hq,ho,q⟩:=h
 cases rx
 cases ry
 obtain⟨its,r,pl,hz⟩:=I.list hq
 refine SeqAt.notIn_listAt (eqP H zs) pl.isList (fun w hw=>e25 hu I hb ho r w (by simpa using hw)) ⟨.bl _,H,I,rfl,?_⟩
 rw[show its.toArray.any (eqP H zs)=its.any (eqP H zs) by simp,e43 ho r]
 exact q
theorem h66:PIp X .Add (fun x y H Q=>∃ i j,x=.str i/\y=.str j/\i.length+j.length<=sizeLine/\Q (.str (i++j)) H):=by
 try constructor
 intro pins s σ H x y v u Q I rx ry h
 obtain⟨i,j,rfl,rfl,hz,q⟩:=h
 obtain⟨t,rfl⟩:=rx
 obtain⟨t',rfl⟩:=ry
 exact PyProof.Rows.iadd_str (fun t' tk=>⟨.str (i++j),H,I.tok _,⟨_,rfl⟩,q⟩) hz
end
abbrev b69:=List (List Str×V)
def gP (p:List Str×V):List Key×V:=(p.1.map Sum.inr,p.2)
def dP (m:b69):HO:=.dT (m.map gP)
theorem b54 (zs:List Str):((zs.map Sum.inr:List Key)).map kV=zs.map V.str:=by
 rw[List.map_map]
 rfl
theorem e53 {a b:List Str}(h:(a.map Sum.inr:List Key)=b.map Sum.inr):a=b:=c66 (by rw[← b54,← b54,h])
theorem e58 (m:b69) (zs:List Str):a98 (m.map gP) (zs.map Sum.inr)=a98 m zs:=by
 induction m with
 | nil=>rfl
 | cons p m ih =>
  rw[CJ]
  by_cases e:p.1=zs
  ·rw[a70 (by show p.1.map Sum.inr=_;rw[e]),a70 e]
   rfl
  ·rw[a73 (fun q=>e (e53 q)),a73 e,ih]
theorem g64 (m:b69) (zs:List Str) (v:V):b23 (m.map gP) (zs.map Sum.inr) v=(b23 m zs v).map gP:=by
 have e:∀ p:List Str×V,decide ((gP p).1=zs.map Sum.inr)=decide (p.1=zs):=fun p=>by
  congr 1
  exact propext ⟨fun q=>e53 q,fun q=>by show p.1.map Sum.inr=_;rw[q]⟩
 have e1:((m.map gP).any fun kv=>decide (kv.1=zs.map Sum.inr))=m.any fun kv=>decide (kv.1=zs):=by
  rw[List.any_map]
  congr 1
  funext p
  exact e p
 unfold b23
 rw[e1]
 split
 ·rw[List.map_map,List.map_map]
  apply List.map_congr_left
  intro p _
  by_cases q:p.1=zs
  ·show(if (gP p).1=zs.map Sum.inr then((gP p).1,v) else gP p)=gP (if p.1=zs then(p.1,v) else p)
   rw[if_pos (by show p.1.map Sum.inr=_;rw[q]),if_pos q]
   rfl
  ·show(if (gP p).1=zs.map Sum.inr then((gP p).1,v) else gP p)=gP (if p.1=zs then(p.1,v) else p)
   rw[if_neg (show ¬(gP p).1=zs.map Sum.inr from fun w=>q (e53 w)),if_neg q]
 ·rw[BJ]
  rfl
theorem getP {H:Hp}{d b:Addr}{m:b69}{zs:List Str}(e:H d=some (dP m))(eb:H b=some (.tup (zs.map V.str))):DGet H d (.ref b) (a98 m zs):=by
 rw[← e58]
 exact DGet.t e (by rw[b54];exact eb)
theorem h64 {H:Hp}{d b:Addr}{m:b69}{zs:List Str}{v:V}(e:H d=some (dP m))(eb:H b=some (.tup (zs.map V.str)))(hl:m.length < sizeLine):DPut H d (.ref b) v (upd H d (dP (b23 m zs v))):=by
 have:=DPut.t (v:=v) e (show H b=some (.tup (((zs.map Sum.inr:List Key)).map kV)) by rw[b54];exact eb) (by rw[Aj];exact hl)
 rw[g64] at this
 exact this
section
variable {prog:Program}{w:World}{K:Type} [DecidableEq K] {knd:HeapKind prog w K}{A:Around}{E:Value->Shared->Prop}{s:Shared}{d a:Addr}{k:K}{xs:List (K×Addr×Value)}
theorem e28 {v:Value}{Q:Value->Shared->Prop}(hu:knd.room A)(hkey:knd.is s.heap k a)(hm:s.heap.DictOfH knd d xs)
 (h1:∀ p,atKey xs k=some p->Q p.2 { s with toks:=s.toks+knd.draws k })(h2:atKey xs k=none->∀ h',h'.DictOfH knd d (storedH xs k a v)->Heap.SameBut d s.heap h'->Q v { s with heap:=h',toks:=s.toks+knd.draws k })
 (hsz:xs.length<=sizeLine):wpAny (model prog w) A (dictSetDefault d (.ref a) v) Q E s:=by
 obtain⟨o,es,ep,ho,hc,hd,he,his,hn⟩:=hm
 unfold dictSetDefault
 refine wpAny_holding (AQ (knd.pyHash hu hkey (AQ (wpAny_dictFind_heap (s:={ s with toks:=s.toks+knd.draws k }) hu hkey ho hd he his hn (fun hno=>?_) fun j p hj=>?_))))
 ·have hat:=atKey_none_of_get hno
  refine AQ (wpAny_rule (AQ (wpAny_updateDictKeys (hz:=by have e:=size_of_entries he;omega) (s:={ s with toks:=s.toks+knd.draws k }) ho hd (AX (h2 hat _ ⟨_,_,ep+1,Heap.get?_update_self _ ho (Obj.isFreed_of_dict (Obj.data_mapDictKeys hd _)),hc.mapDictKeys _,Obj.data_mapDictKeys hd _,?_,?_,?_⟩ (Heap.SameBut.update ..))))))
  ·rw[storedH_new hat]
   simp[he,entryOfKey]
  ·rw[storedH_new hat]
   intro x hx
   rcases Bq.mp hx with hx | hx
   ·exact knd.keeps (his x hx) ho hd (Heap.SameBut.update ..)
   ·rw[Ax.mp hx]
    exact knd.keeps hkey ho hd (Heap.SameBut.update ..)
  ·rw[storedH_new hat,BJ,List.nodup_append]
   refine⟨hn,by simp,fun x hx y hy=>?_⟩
   rw[List.map_singleton,Ax] at hy
   subst hy
   exact fun e=>not_mem_keys_of_get hno (e ▸ hx)
 ·refine AQ (wpAny_dictEntries (s:={ s with toks:=s.toks+knd.draws k }) ho hd ?_)
  rw[entry_at he j,hj]
  exact AQ (wpAny_rule (AX (h1 p (atKey_of_get hn hj))))
end
section
variable {X:Cx}
theorem g71 (hu:X.A.units+1 < cLine):MtM X "dict.setdefault" (fun x vs H Q=>∃ d b m zs v,x=.ref d/\vs=[.ref b,v]/\H d=some (dP m)/\H b=some (.tup (zs.map V.str))/\m.length < sizeLine /\
 (∀ w,a98 m zs=some w->Q w H)/\(a98 m zs=none->Q v (upd H d (dP (b23 m zs v))))):=by
 try constructor
 intro pins s σ H x xs u us Q I rx rs h
 obtain⟨d,b,m,zs,v,rfl,rfl,e,eb,hl,q1,q2⟩:=h
 cases (show u=Value.ref d from rx)
 obtain⟨u1,u2,rfl,r1,r2⟩:∃ u1 u2,us=[u1,u2]/\RelV (.ref b) u1/\RelV v u2:=by
  cases rs with
  | cons r1 t=>cases t with
   | cons r2 t=>cases t with
    | nil=>exact⟨_,_,rfl,r1,r2⟩
 cases (show u1=Value.ref b from r1)
 obtain⟨z,hd,ys,rel,dd⟩:=h39 I.hok e
 have eb':H b=some (.tup (((zs.map Sum.inr:List Key)).map kV)):=by rw[b54];exact eb
 have hz:ys.length<=sizeLine:=by rw[← Paired.length rel];exact z
 have hl2:((m.map gP)).length < sizeLine:=by rw[Aj];exact hl
 refine wpAny_call_entry PySem.F.slot_dict_setdefault dd.typeIs PySem.F.entry_dict_setdefault ?_ (PySem.F.args_dict_setdefault_3 _ _ _)
 unfold Builtin.«dict.setdefault»
 refine AQ ?_
 unfold Builtin.Dict.keyAndDefault
 refine AQ (wpAny_notOrdered_dict dd.typeIs ?_)
 show wpAny _ _ (pure (d,Value.ref b,some u2)) _ _ s
 refine AX ?_
 show wpAny _ _ (if (d == sysModules)=true then _ else(dictSetDefault d (.ref b) u2 >>= _)) _ _ s
 rw[if_neg (by rw[hd];simp)]
 refine AQ (e28 (tupleKind_room_in1 hu) (c97 I.hok eb') dd (fun p hp=>?_) (fun hp h' dd' hs=>?_) hz)
 ·obtain⟨w',hw,rw'⟩:∃ w',a98 (m.map gP) (zs.map Sum.inr)=some w'/\RelV w' p.2:=by
   have:=rel.val (zs.map Sum.inr)
   rw[hp] at this
   cases q:a98 (m.map gP) (zs.map Sum.inr) with
   | none=>rw[q] at this;exact this.elim
   | some w'=>rw[q] at this;exact⟨w',rfl,this⟩
  rw[e58] at hw
  exact AX ⟨_,rfl,w',H,I.tok _,rw',q1 w' hw⟩
 ·have hn:a98 m zs=none:=by
   have:=rel.val (zs.map Sum.inr)
   rw[hp] at this
   rw[← e58]
   cases q:a98 (m.map gP) (zs.map Sum.inr) with
   | none=>rfl
   | some w'=>rw[q] at this;exact this.elim
  refine AX ⟨_,rfl,v,_,?_,r2,q2 hn⟩
  obtain⟨q,es,ep,hq,h2,h3,h4,_,h5⟩:=dd'
  have hl3:(b23 (m.map gP) (zs.map Sum.inr) v).length<=sizeLine:=by have:=a90 (m.map gP) (zs.map Sum.inr) v;omega
  rw[show dP (b23 m zs v)=.dT (b23 (m.map gP) (zs.map Sum.inr) v) by unfold dP;rw[g64]]
  refine d42 I (by rw[e];exact True.intro) hs ⟨q,hq⟩ ⟨hl3,hd,_,(rel.put (zs.map Sum.inr) eb' r2).keeps fun c ys ec=>?_,q,es,ep,hq,h2,h3,h4,h5⟩
  rw[a06 (a85 ec e (fun z=>nomatch z))]
  exact ec
abbrev b56 (H:Hp):List Addr->List (List Str)->Prop:=Paired fun a zs=>H a=some (.tup (zs.map V.str))
theorem d55 {H:Hp}{pins:List (Addr×Obj)}{σ:St}{s:Shared}(I:Inv X pins σ H s){h':Heap}(kp:∀ b o,s.heap.get? b=some o->h'.get? b=some o){a:Addr}{zs:List Str}(e:H a=some (.tup (zs.map V.str))):Srt.PathV h' (.ref a) zs:=by
 obtain⟨its,r,p,_⟩:=I.tuple (SqT.of (K:=X.K) e)
 obtain⟨o,ho,hc,n,hd⟩:=p
 exact⟨a,o,its.toArray,n,rfl,kp _ _ ho,hc,hd,by simpa using d22 r⟩
def adr (v:Value):Addr:=match v with
 | .ref a=>a
 | _=>0
theorem d79:∀ as:List Addr,Vals (as.map V.ref) (as.map Value.ref)
 | []=>.nil
 | _::r=>.cons rfl (d79 r)
theorem d76 (hc:X.calm=true):CallR X (.builtin "sorted") (fun xs H Q=>∃ d m,xs=[.ref d]/\H d=some (dP m)/\(∀ p∈m,p.1≠[]) /\
 ∀(l:Addr) (as:List Addr) (ks:List (List Str)),ks.Perm (m.map (·.1))->ks.Pairwise (fun x y=>Srt.lexB y x=false)->b56 H as ks->H l=none->Q (.ref l) (upd H l (.lst (as.map V.ref)))):=by
 try constructor
 intro pins s σ H xs us Q I rs h
 obtain⟨d,m,rfl,e,hne,q⟩:=h
 have hh:=I.ok.hd hc
 obtain⟨u,rfl,rx⟩:=c94 rs
 cases (show u=Value.ref d from rx)
 obtain⟨z,hd,ys,rel,o,es,ep,ho,ex,hdat,hes,hnd⟩:=I.hok d _ e
 have z':m.length<=sizeLine:=by rw[Aj] at z;exact z
 have keys:∀ {m:b69}{ys:List (List Key×Addr×Value)},(∀ p∈m,p.1≠[])->Paired (fun(p:List Key×V) (q:List Key×Addr×Value)=>p.1=q.1/\H q.2.1=some (.tup (p.1.map kV))/\RelV p.2 q.2.2) (m.map gP) ys ->
  b56 H (ys.map (·.2.1)) (m.map (·.1)):=by
  intro m
  induction m with
  | nil=>intro ys _ r;cases r;exact .nil
  | cons p m ih =>
   intro ys hp r
   cases r with
   | cons h t =>
    refine .cons ?_ (ih (fun p' hp'=>hp p' (BX _ hp')) t)
    have:=h.2.1
    rw[show(gP p).1=p.1.map Sum.inr from rfl,b54] at this
    exact this
 have pk:=keys hne rel
 have evs:es.toList.map (·.key)=(ys.map (·.2.1)).map Value.ref:=by
  rw[hes,List.map_map,List.map_map]
  rfl
 have vlen:(es.toList.map (·.key)).length=m.length:=by
  rw[evs,Aj,Paired.length pk,Aj]
 have esz:es.size=m.length:=by rw[← vlen,Aj,Cq]
 have pathsV:∀(h':Heap),(∀ b o,s.heap.get? b=some o->h'.get? b=some o)->∀ v∈es.toList.map (·.key),∃ zs,Srt.PathV h' v zs/\zs≠[]:=by
  intro h' kp v hv
  rw[evs,Ez] at hv
  obtain⟨a,ha,rfl⟩:=hv
  have go:∀ {as:List Addr}{ks:List (List Str)},b56 H as ks->(∀ k∈ks,k≠[])->a∈as->∃ zs,H a=some (.tup (zs.map V.str))/\zs≠[]:=by
   intro as ks r
   induction r with
   | nil=>intro _ h;cases h
   | cons h t ih =>
    intro hk hm
    rcases Cj.mp hm with rfl | hm
    ·exact⟨_,h,hk _ BZ⟩
    ·exact ih (fun k hk'=>hk k (BX _ hk')) hm
  obtain⟨zs,e1,e2⟩:=go pk (fun k hk=>by obtain⟨p,hp,rfl⟩:=Ez.mp hk;exact hne p hp) ha
  exact⟨zs,d55 I kp e1,e2⟩
 refine Srt.sorted_any (O:=Srt.pathOrd) (key:=fun x=>Srt.pathAt s.heap x.1) (D:=fun x=>∃ zs,Srt.PathV s.heap x.1 zs) (kd:=tuples' true) (vs:=es.toList.map (·.key)) (by rw[vlen];exact z')
  (fun Q' hq=>Srt.collect_raw hh hd ⟨o,ho,ex,hdat⟩ (by rw[esz];exact z') hq) (fun h2 A' E' s' kp=>⟨?_,?_,fun Q' hq=>?_⟩) (fun out n s1 h' hp hs k1 g1 d1 o1 k2 e2=>?_)
 ·refine⟨fun x y st Q' ⟨zs,px⟩ ⟨ys',py⟩ hk hq=>?_⟩
  have t1:Srt.PathV s'.heap x.1 zs:=let ⟨a,o,xs,n,e,h1,r⟩:=px.ex;⟨a,o,xs,n,e,kp _ _ h1,r⟩
  have t2:Srt.PathV s'.heap y.1 ys':=let ⟨a,o,xs,n,e,h1,r⟩:=py.ex;⟨a,o,xs,n,e,kp _ _ h1,r⟩
  refine Srt.cmp_paths.lt x y st Q' ⟨zs,t1⟩ ⟨ys',t2⟩ hk ?_
  rw[t1.key,t2.key]
  rw[px.key,py.key] at hq
  exact hq
 ·intro i hi
  rw[pairsOf_size] at hi
  have hm:Srt.at' (pairsOf (es.toList.map (·.key))) i∈(pairsOf (es.toList.map (·.key))).toList:=BQ (Srt.at_toList (by rw[pairsOf_size];exact hi))
  rw[pairsOf_toList] at hm
  obtain⟨zs,p,_⟩:=pathsV s.heap (fun _ _ e=>e) _ (mem_zip_self hm).2
  exact⟨zs,p⟩
 ·exact Srt.kind_paths (by intro q';rw[q'] at h2;exact absurd h2 (by decide)) (pathsV s'.heap kp) hq
 ·-- what stands in the new list
  have hout:∀ p∈out.toList,p.1=p.2/\∃ a∈ys.map (·.2.1),p.1=.ref a:=by
   intro p hp'
   have:=(Array.perm_iff_toList_perm.mp hp).mem_iff.mp hp'
   rw[pairsOf_toList] at this
   obtain⟨m1,m2⟩:=mem_zip_self this
   rw[evs,Ez] at m2
   obtain⟨a,ha,e⟩:=m2
   exact⟨m1,a,ha,e.symm⟩
  have es1:s1={ s with heap:=s1.heap,toks:=s1.toks }:=by
   obtain⟨h1,g,d',t,o'⟩:=s1
   cases g1
   cases d1
   cases o1
   rfl
  have I1:Inv X pins σ H s1:=by
   rw[es1]
   exact I.kept k1
  have hn0:H s1.heap.objs.size=none:=I1.hok.fresh (AZ _)
  have pathOf:∀ a∈ys.map (·.2.1),∃ zs:List Str,H a=some (.tup (zs.map V.str))/\Srt.pathAt s.heap (.ref a)=zs:=by
   intro a ha
   have go:∀ {as:List Addr}{ks:List (List Str)},b56 H as ks->a∈as->∃ zs:List Str,H a=some (.tup (zs.map V.str)):=by
    intro as ks r
    induction r with
    | nil=>intro h;cases h
    | cons h t ih =>
     intro hm
     rcases Cj.mp hm with rfl | hm
     ·exact⟨_,h⟩
     ·exact ih hm
   obtain⟨zs,e1⟩:=go pk ha
   exact⟨zs,e1,(d55 I (fun _ _ e=>e) e1).key⟩
  have eas:(out.map (·.2)).toList=(out.toList.map fun p=>adr p.1).map Value.ref:=by
   rw[Array.toList_map,List.map_map]
   apply List.map_congr_left
   intro p hp'
   obtain⟨m1,a,_,e'⟩:=hout p hp'
   show p.2=Value.ref (adr p.1)
   rw[← m1,e']
   rfl
  have hpk:b56 H (out.toList.map fun p=>adr p.1) (out.toList.map fun p=>Srt.pathAt s.heap p.1):=by
   have go:∀ l:List Keyed,(∀ p∈l,p∈out.toList)->b56 H (l.map fun p=>adr p.1) (l.map fun p=>Srt.pathAt s.heap p.1):=by
    intro l
    induction l with
    | nil=>exact fun _=>.nil
    | cons p l ih =>
     intro hl
     refine .cons ?_ (ih fun p' hp'=>hl p' (BX _ hp'))
     obtain⟨_,a,ha,e'⟩:=hout p (hl p BZ)
     obtain⟨zs,e1,e2⟩:=pathOf a ha
     show H (adr p.1)=some (.tup ((Srt.pathAt s.heap p.1).map V.str))
     rw[e']
     show H a=some (.tup ((Srt.pathAt s.heap (.ref a)).map V.str))
     rw[e2]
     exact e1
   exact go _ fun _ h=>h
  have hperm:(out.toList.map fun p=>Srt.pathAt s.heap p.1).Perm (m.map (·.1)):=by
   have h1:=(Array.perm_iff_toList_perm.mp hp).map fun p=>Srt.pathAt s.heap p.1
   refine h1.trans (.of_eq ?_)
   rw[pairsOf_toList]
   have e3:((es.toList.map (·.key)).zip (es.toList.map (·.key))).map (fun p=>Srt.pathAt s.heap p.1)=(es.toList.map (·.key)).map (Srt.pathAt s.heap):=by
    rw[show(fun p:Value×Value=>Srt.pathAt s.heap p.1)=Srt.pathAt s.heap ∘ Prod.fst from rfl,← List.map_map,List.map_fst_zip (AZ _)]
   rw[e3,evs]
   have go:∀ {as:List Addr}{ks:List (List Str)},b56 H as ks->(as.map Value.ref).map (Srt.pathAt s.heap)=ks:=by
    intro as ks r
    induction r with
    | nil=>rfl
    | cons h t ih =>
     rw[CJ,CJ,ih,(d55 I (fun _ _ e=>e) h).key]
   exact go pk
  have hsz:(pairsOf (es.toList.map (·.key))).size=out.size:=hp.size_eq.symm
  rw[hsz] at hs
  have hpw:(out.toList.map fun p=>Srt.pathAt s.heap p.1).Pairwise (fun x y=>Srt.lexB y x=false):=by
   rw[List.pairwise_map]
   exact Srt.Sg.pw hs
  have hlen:((out.toList.map fun p=>adr p.1).map V.ref).length<=sizeLine:=by
   rw[Aj,Aj,Cq,← hsz,pairsOf_size,vlen]
   exact z'
  refine⟨.ref s1.heap.objs.size,_,I1.laid (t':=s1.toks) (o:=.lst ((out.toList.map fun p=>adr p.1).map V.ref)) k2 (AZ _) ⟨hlen,(out.map (·.2)).toList,n,?_,by rw[Array.toArray_toList];exact e2⟩,rfl,q _ _ _ hperm hpw hpk hn0⟩
  rw[eas]
  exact d79 _
end
end L2
namespace L2
open PySem PySem.Spec PyProof.Rows
def Wk (σ σ2:St):Prop:=σ.length=σ2.length/\∀(j:Nat) (v:V),σ[j]?=some (some v)->σ2[j]?=some (some v)
structure PTs (X:Cx) (ifs:List Expr)(t:TT):Prop where
 run:∀(pins:List (Addr×Obj))(s:Shared)(σ:St)(H:Hp) (Q:Bool->Hp->Prop),Inv X pins σ H s->t σ H Q ->
  wpAny (model X.prog X.w) X.A (forIn ifs true fun c r=>if r=true then do let ok ← isTrue c X.env (eval c X.env);pure (ForInStep.yield ok) else pure (ForInStep.yield r)) (TP X pins σ Q) X.xe s
instance {X:Cx}{ifs:List Expr}{t:TT}:CoeFun (PTs X ifs t) (fun _=>∀(pins:List (Addr×Obj))(s:Shared)(σ:St)(H:Hp) (Q:Bool->Hp->Prop),Inv X pins σ H s->t σ H Q ->
 wpAny (model X.prog X.w) X.A (forIn ifs true fun c r=>if r=true then do let ok ← isTrue c X.env (eval c X.env);pure (ForInStep.yield ok) else pure (ForInStep.yield r)) (TP X pins σ Q) X.xe s):=⟨PTs.run⟩
theorem i59 {X:Cx}:PTs X [] (fun _ H Q=>Q true H):=⟨fun pins s σ H Q I h=>wpAny_tests_nil ⟨H,I,h⟩⟩
theorem g65 {X:Cx}{c:Expr}{t:TT}(h:PT X c t):PTs X [c] t:=⟨fun pins s σ H Q I q=>wpAny_tests_one (h pins s σ H Q I q)⟩
section
variable {prog:Program}{w:World}{A:Around}{R:Result->Shared->Prop}{s:Shared}
theorem c60 {elt target iter:Expr}{ifs:List Expr}{scope:Scope}{pos:Pos}{it acc:Value}{env:Env} (Iv:Nat->Shared->Prop)
 (turn:∀ n s,Iv n s->wpAny (model prog w) A (pyNext it) (fun r s₁=>match r with
   | none=>R (.ok .next) s₁
   | some v=>wpAny (model prog w) A (letOwnedTupleGo target it v) (fun _ s₁'=>wpAny (model prog w) A (assign target env v) (fun _ s₂ =>
    wpAny (model prog w) A (forIn ifs true fun c r=>if r=true then do let ok ← isTrue c env (eval c env);pure (ForInStep.yield ok) else pure (ForInStep.yield r)) (fun ok s₃ =>
     if ok=true then wpAny (model prog w) A (eval elt env) (fun x s₄ =>
      wpAny (model prog w) A (call (.builtin "list.append") [acc,x]) (fun _ s₅=>∃ m,m < n/\Iv m s₅) (notedBy (model prog w) A env fun e s'=>R (.error e) s') s₄) (notedBy (model prog w) A env fun e s'=>R (.error e) s') s₃
     else ∃ m,m < n/\Iv m s₃) (notedBy (model prog w) A env fun e s'=>R (.error e) s') s₂) (notedBy (model prog w) A env fun e s'=>R (.error e) s') s₁') (notedBy (model prog w) A env fun e s'=>R (.error e) s') s₁)
   (notedBy (model prog w) A env fun e s'=>R (.error e) s') s)
 (n:Nat)(h:Iv n s):codeAny (model prog w) A (.compLoop (.ListComp elt [⟨target,iter,ifs,0⟩] scope pos) 0 it acc env) R s:=by
 refine codeAny_loop rfl Iv (fun n s hI=>?_) n h
 show wpAny _ _ ((compTurn (.ListComp elt [⟨target,iter,ifs,0⟩] scope pos) 0 it acc env).onRaise (fun x=>do noteFrame x env;theTreesLotGoes x)) _ _ s
 refine wpAny_noted ?_
 rw[compTurn_list]
 refine AQ (wpAny_standAt (AQ (Dz (turn n s hI) (fun r s₁ h₁=>?_) fun _ _ h'=>h')))
 cases r with
 | none=>exact AX h₁
 | some v =>
  refine AQ (Dz h₁ (fun _ s₁' h₁'=>?_) fun _ _ h'=>h')
  refine AQ (Dz h₁' (fun _ s₂ h₂=>AQ (Dz h₂ (fun ok s₃ h₃=>?_) fun _ _ h'=>h')) fun _ _ h'=>h')
  cases ok with
  | false=>exact AX ⟨rfl,h₃⟩
  | true =>
   exact AQ (AQ (Dz h₃ (fun x s₄ h₄=>AQ (Dz h₄ (fun _ s₅ h₅=>AX (AX ⟨rfl,h₅⟩)) fun _ _ h'=>h')) fun _ _ h'=>h'))
end
def e07 (wi:TI)(up:St->St)(gg:TG)(tt:TT)(te:TE):TE:=fun σ H Q=>wi σ H fun J H1=>∃ W:Nat->Nat->List V->Hp->Prop,(∃ m,W 0 m [] H1)/\∀ i m ys H,W i m ys H ->
 (J.stop i H/\∀ D,H D=none->Q (.ref D) (upd H D (.lst ys))) ∨
 (J.go i H/\ys.length < sizeLine/\∃ Nx:List V->Hp->Prop,(∀ zs H3,Nx zs H3->∃ m',m' < m/\W (i+1) m' zs H3)/\∀ x H',J.yld i H x H'->gg x (up σ) H' fun σ2 H2=>tt σ2 H2 fun b H3=>if b=true then te σ2 H3 (fun y H4=>Nx (ys++[y]) H4) else Nx ys H3)
section
variable {X:Cx}{elt iter:Expr}{x y:Str}{px py pos:Pos}{scope:Scope}{wi:TI}{te:TE}{N:List Str}{k:Nat}{up:St->St}
theorem e94 {tg:Expr}{ifs:List Expr}{gg:TG}{tt:TT}{ok:Str->Prop}(S:CompScopeG X.env.scope X.N scope x ok)(hc:X.calm=true)
 (hup:∀ σ:St,σ.length=X.N.length->(up σ).length=N.length/\∀(i:Nat) (y:Str) (v:V),N[i]?=some y->(up σ)[i]?=some (some v)->¬ ok y/\∃ j:Nat,X.N[j]?=some y/\σ[j]?=some (some v))
 (hi:PI X tg iter wi)(hg:∀ C fp s H,PG (a44 X scope N C fp s H) tg gg)(hgs:∀ v (σ:St) H (Q:St->Hp->Prop),σ.length=X.N.length->gg v (up σ) H Q->gg v (up σ) H fun σ2 H2=>Wk (up σ) σ2/\Q σ2 H2)
 (ht:∀ C fp s H,PTs (a44 X scope N C fp s H) ifs tt)
 (he:∀ C fp s H,PE (a44 X scope N C fp s H) elt te)(hs:∀ v,foldedSetIterable iter X.env v=pure v) :
 PE X (.ListComp elt [⟨tg,iter,ifs,0⟩] scope pos) (e07 wi up gg tt te):=by
 try constructor
 intro pins s σ H Q I h
 rw[eval_ListComp]
 refine wpAny_comprehension_free (use:=none) rfl hs (c38 (b68 I S)) S.kind S.names (thn (hi pins s σ H _ I h) fun v s1 h1=>thn h1 fun itv s2 h2=>?_)
 obtain⟨it,fp,tn,J,H2,e,I2,T,st2,f2,W,⟨m0,w0⟩,turn⟩:=h2
 subst e
 refine Fq (wpAny_newFunctionEnv S.nocell (by intro y hy;simp at hy) (fun h₁ hns₁ hsb₁=>?_) S.kind)
 dsimp only at hns₁ hsb₁ ⊢
 generalize hH2:s2.heap.push { cls:=.type "list", dict:=none,data:=.seq ([]:List Value).toArray }=HH at hns₁ hsb₁ ⊢
 have hC:HH.objs.size=s2.heap.objs.size+1:=by rw[← hH2,Heap.size_push]
 have hDC:s2.heap.objs.size≠HH.objs.size:=by rw[hC];exact Nat.ne_of_lt (Nat.lt_succ_self _)
 have hCle:s2.heap.objs.size<=HH.objs.size:=by rw[hC];exact FX _
 have below:∀ b,b < s2.heap.objs.size->b≠HH.objs.size/\b≠s2.heap.objs.size:=fun b hb=>⟨by rw[hC];exact Nat.ne_of_lt (Nat.lt_succ_of_lt hb),Nat.ne_of_lt hb⟩
 have old:∀ b o,s2.heap.get? b=some o->h₁.get? b=some o:=fun b o e=>hsb₁.extBut b o (below b (Ej e)).1 (Aq _ (hH2 ▸ Aq _ e))
 have hacc:h₁.get? s2.heap.objs.size=some { cls:=.type "list", data:=.seq ([]:List Value).toArray 0 }:=hsb₁.extBut _ _ hDC (Aq _ (hH2 ▸ DJ _ rfl))
 have ho2:∀ b∈fp,∃ o,s2.heap.get? b=some o:=fun b hb=>let ⟨o,e,_⟩:=T.obj _ _ st2 b hb;⟨o,e⟩
 have fpD:∀ b∈fp,b≠s2.heap.objs.size:=fun b hb=>let ⟨o,e⟩:=ho2 b hb;(below b (Ej e)).2
 obtain⟨hul,husub⟩:=hup σ I2.len
 have st1:tn 0 h₁:=T.keep _ _ _ st2 fun b _ o e=>old b o e
 have I3:Inv (a44 X scope N HH.objs.size fp s2 H2) [] (up σ) H2 { s2 with heap:=h₁,toks:=s2.toks+([]:List (Str×Value)).length }:=c43 I2 S f2 ho2 hCle old hns₁ hul husub
 have hD2:H2 s2.heap.objs.size=none:=I2.hok.fresh (AZ _)
 have loop:codeAny (model X.prog X.w) X.A (.compLoop (.ListComp elt [⟨tg,iter,ifs,0⟩] scope pos) 0 (.ref it) (.ref s2.heap.objs.size) (compEnvC scope (d97 X.env scope.names []) HH.objs.size X.env))
  (compPost (model X.prog X.w) X.A X.xe none (EP X pins σ Q) (.ref s2.heap.objs.size) HH.objs.size) { s2 with heap:=h₁,toks:=s2.toks+([]:List (Str×Value)).length }:=by
  refine c60 (fun n s'=>∃(i:Nat) (ys:List V) (its:List Value) (cn:Nat)(H':Hp),Inv (a44 X scope N HH.objs.size fp s2 H2) [] (up σ) H' s'/\tn i s'.heap/\(∀ b∈fp,H' b=none)/\H' s2.heap.objs.size=none /\
   s'.heap.get? s2.heap.objs.size=some { cls:=.type "list", data:=.seq its.toArray cn }/\Vals ys its/\ys.length<=sizeLine/\W i n ys H') ?_ m0
   ⟨0,[],[],0,H2,I3,st1,fun b hb=>(f2 b hb).1,hD2,hacc,.nil,FJ _,w0⟩
  rintro n s3 ⟨i,ys,its,cn,H3,J3,st3,fr3,hD3,hob3,rv3,hz3,w3⟩
  have pinD:∀ {H':Hp}{s':Shared}{σ':St}{its':List Value}{cn':Nat},Inv (a44 X scope N HH.objs.size fp s2 H2) [] σ' H' s'->H' s2.heap.objs.size=none->s'.heap.get? s2.heap.objs.size=some { cls:=.type "list", data:=.seq its'.toArray cn' } ->
   Inv (a44 X scope N HH.objs.size fp s2 H2) [(s2.heap.objs.size,{ cls:=.type "list", data:=.seq its'.toArray cn' })] σ' H' s':=fun J hD hob=>J.pins_of fun p hp=>by
   have e:p=(s2.heap.objs.size,{ cls:=.type "list", data:=.seq _ _ }):=Ax.mp hp
   subst e
   refine⟨hob,hD,hDC,fun z=>?_,fun v z=>by cases (show Data.seq _ _=Data.cell v from z)⟩
   exact absurd rfl ((below _ (by
    obtain⟨_,o,ho,_⟩:=(show s2.heap.FunFrames X.base X.stack from I2.stack).mem z
    exact Ej ho)).2)
  have J3':=pinD J3 hD3 hob3
  have fpk:∀ {H':Hp},(∀ b∈fp,H' b=none)->∀ b∈fp,f66 (a44 X scope N HH.objs.size fp s2 H2) [(s2.heap.objs.size,{ cls:=.type "list", data:=.seq its.toArray cn })] H' b:=fun hn b hb=>by
   obtain⟨o,e⟩:=ho2 b hb
   refine⟨hn b hb,(below b (Ej e)).1,(b97 (N:=N) I2 S f2 ho2 hCle).exfs b hb,.inl hb,fun y c ec=>((b97 (N:=N) I2 S f2 ho2 hCle).exf b hb).2 y c ec,fun p hp=>?_⟩
   have e':p=(s2.heap.objs.size,{ cls:=.type "list", data:=.seq its.toArray cn }):=Ax.mp hp
   subst e'
   exact(fpD b hb).symm
  rcases turn i n ys H3 w3 with⟨stop,fin⟩ | ⟨go,hlt,Nx,hNx,step⟩
  ·refine Dz (T.done (a44 X scope N HH.objs.size fp s2 H2) rfl rfl rfl hc i _ s3 (up σ) H3 _ J3' (fpk fr3) st3 stop) (fun r s4 ⟨hr,J4⟩=>?_) fun _ _ z=>z
   subst hr
   obtain⟨m4,hn4,_⟩:=J4.loc
   have hob4:=(J4.pin (s2.heap.objs.size,{ cls:=.type "list", data:=.seq its.toArray cn }) (by simp)).1
   refine⟨m4,hn4,fun h' sb=>?_⟩
   have kp:∀ b o,b≠HH.objs.size->s4.heap.get? b=some o->h'.get? b=some o:=fun b o hb e=>(sb.2 b hb).trans e
   have hne:∀ b u,H3 b=some u->b≠s2.heap.objs.size:=fun b u q=>a01 q hD3
   have hneC:∀ b u,H3 b=some u->b≠HH.objs.size:=fun b u q=>a01 q J4.free
   have un:Un (frs X.stack) fp H2 (upd H3 s2.heap.objs.size (.lst ys)) s2.heap h':=by
    have u0:Un (frs X.stack) fp H2 H3 s2.heap s4.heap:=J4.base
    refine⟨fun b o e n hb hx=>kp b o (below b (Ej e)).1 (u0.keep b o e n hb hx),fun b o e n hb hx=>?_,fun b o e n hx=>?_,fun b o e hx=>?_,fun b xs q=>?_,fun b o u q=>?_,fun b ps q=>?_⟩
    ·obtain⟨sl,e1⟩:=u0.slot b o e n hb hx
     exact⟨sl,kp b _ (below b (Ej e)).1 e1⟩
    ·rw[a06 (below b (Ej e)).2];exact u0.free b o e n hx
    ·obtain⟨o',e1⟩:=u0.there b o e hx
     exact⟨o',kp b _ (below b (Ej e)).1 e1⟩
    ·have q':=u0.tups b xs q
     rw[a06 (hne b _ q')];exact q'
    ·have q':=u0.frzs b o u q
     rw[a06 (hne b _ q')];exact q'
    ·obtain⟨more,q'⟩:=u0.tbls b ps q
     exact⟨more,by rw[a06 (hne b _ q')];exact q'⟩
   have hok:HOk X.prog X.w (upd H3 s2.heap.objs.size (.lst ys)) h':=fun b u q=>by
    by_cases hb:b=s2.heap.objs.size
    ·subst hb
     rw[a02] at q;cases q
     exact⟨hz3,its,cn,rv3,kp _ _ hDC hob4⟩
    ·rw[a06 hb] at q
     refine(J4.hok b u q).stay (fun c v hc' r=>kp c v ?_ r) (fun c r=>by rw[a06 (hne c _ r)];exact r) fun c xs r=>by rw[a06 (hne c _ r)];exact r
     rcases hc' with z | z
     ·rw[z];exact hneC b u q
     ·exact hneC c _ z
   refine⟨.ref s2.heap.objs.size,upd H3 s2.heap.objs.size (.lst ys),I2.call' (s':={ s4 with heap:=h' }) (ch:=fp) J4.os un hok J4.bare fun b hb=>?_,rfl,fin _ hD3⟩
   obtain⟨_,g1,_,g3,g4,g5⟩:=f2 b hb
   exact⟨g3,g1,g4,g5⟩
  ·refine Dz (T.item (a44 X scope N HH.objs.size fp s2 H2) rfl rfl rfl hc i _ s3 (up σ) H3 _ J3' (fpk fr3) st3 go) (fun r s4 ⟨u,hr,h4⟩=>?_) fun _ _ z=>z
   subst hr
   refine Dz h4 (fun _ s5 ⟨y,H5,J5,r5,y5,st5,fr5⟩=>?_) fun _ _ z=>z
   have J5':=J5.pinned (fpk fr5) (T.obj _ _ st5)
   refine Dz (hg HH.objs.size fp s2 H2 _ s5 _ H5 y u _ J5' r5 (hgs y σ H5 _ I2.len (step y H5 y5))) (fun _ s6 ⟨σ6,H6,J6,⟨wl,wk⟩,q6⟩=>?_) fun _ _ z=>z.elim
   refine Dz (ht HH.objs.size fp s2 H2 _ s6 σ6 H6 _ J6 q6) (fun bt s7 ⟨H7,J7,q7⟩=>?_) fun _ _ z=>z.elim
   cases bt with
   | false =>
    rw[if_neg Fx] at q7 ⊢
    obtain⟨m',hm',w7⟩:=hNx ys H7 q7
    have pD:=J7.pin (s2.heap.objs.size,{ cls:=.type "list", data:=.seq its.toArray cn }) (by simp)
    have J7':Inv (a44 X scope N HH.objs.size fp s2 H2) [] (up σ) H7 s7:=(J7.weak (σ':=up σ) wl fun j v ej=>wk j v ej).pins_of fun p hp=>nomatch hp
    refine⟨m',hm',i+1,ys,its,cn,H7,J7',?_,fun b hb=>?_,pD.2.1,pD.1,rv3,hz3,w7⟩
    ·refine T.keep _ _ _ st5 fun b hb o e=>?_
     exact(J7.pin (b,o) (List.mem_append_right _ (List.mem_append_right _ (a65 hb e)))).1
    ·obtain⟨o,e,d⟩:=T.obj _ _ st5 b hb
     exact(J7.pin (b,o) (List.mem_append_right _ (List.mem_append_right _ (a65 hb e)))).2.1
   | true =>
   rw[if_pos rfl] at q7 ⊢
   refine Dz (he HH.objs.size fp s2 H2 _ s7 σ6 H7 _ J7 q7) (fun yu s7 ⟨z,H7,J7,r7,q7⟩=>?_) fun _ _ z=>z.elim
   obtain⟨m',hm',w7⟩:=hNx (ys++[z]) H7 q7
   have pD:=J7.pin (s2.heap.objs.size,{ cls:=.type "list", data:=.seq its.toArray cn }) (by simp)
   have hlen:=rv3.length
   refine append_at (hsz:=by rw[List.size_toArray,← hlen];exact hz3) pD.1 fun h8 sb8 hob8=>?_
   have kp8:∀ b o,b≠s2.heap.objs.size->s7.heap.get? b=some o->h8.get? b=some o:=fun b o hb e=>(sb8.2 b hb).trans e
   have J7':Inv (a44 X scope N HH.objs.size fp s2 H2) [] (up σ) H7 s7:=(J7.weak (σ':=up σ) wl fun j v ej=>wk j v ej).pins_of fun p hp=>nomatch hp
   have J8:Inv (a44 X scope N HH.objs.size fp s2 H2) [] (up σ) H7 { s7 with heap:=h8 }:=J7'.turned (t':=s7.toks) kp8 pD.2.1 hDC (.inr (AZ _))
    (fun y' c ec z=>by
      obtain⟨v',q⟩:=I2.cell y' c (a87 I2 S ec)
      exact(below c q.lt).2 z) fun p hp=>nomatch hp
   refine⟨m',hm',i+1,ys++[z],its++[yu],cn+1,H7,J8,?_,fun b hb=>?_,pD.2.1,?_,rv3.append (.cons r7 .nil),?_,w7⟩
   ·refine T.keep _ _ _ st5 fun b hb o e=>kp8 b o (fpD b hb) ?_
    exact(J7.pin (b,o) (List.mem_append_right _ (List.mem_append_right _ (a65 hb e)))).1
   ·obtain⟨o,e,d⟩:=T.obj _ _ st5 b hb
    exact(J7.pin (b,o) (List.mem_append_right _ (List.mem_append_right _ (a65 hb e)))).2.1
   ·rw[hob8];simp
   ·rw[Bj,List.length_singleton];exact hlt
 exact codeAny_compStart_list loop (T.self _ 0 _ _ _ st1 loop)
theorem e79 (hx:x∉X.N)(hy:y∉X.N)(σ:St)(hl:σ.length=X.N.length):(σ++[none,none]).length=(X.N++[x,y]).length /\
 ∀(i:Nat) (z:Str) (v:V),(X.N++[x,y])[i]?=some z->(σ++[none,none])[i]?=some (some v)->z≠x/\∃ j:Nat,X.N[j]?=some z/\σ[j]?=some (some v):=by
 refine⟨by rw[Bj,Bj,hl];rfl,fun i z v h1 h2=>?_⟩
 by_cases hi:i < σ.length
 ·rw[List.getElem?_append_left hi] at h2
  rw[List.getElem?_append_left (by omega)] at h1
  refine⟨fun q=>hx (q ▸ BQ h1),i,h1,h2⟩
 ·rw[List.getElem?_append_right (by omega)] at h2
  generalize i-σ.length=j at h2
  match j,h2 with
  | 0,h2=>cases h2
  | 1,h2=>cases h2
  | j+2,h2=>cases h2
theorem h08 {osc:Scope}{oN ops:List Str}{ifs:List Expr}{tt:TT}{ek:Nat}{ep:Pos}(SC:FnScope oN ops osc)(S:b58 osc oN scope x)(hx:x∉oN)(hy:y∉oN)(hxy:x≠y)(hly:scope.names.lookup y=some .local)
 (hi:PI X (.Tuple [.Name x px,.Name y py] ek ep) iter wi)(ht:∀ C fp s H,PTs (a44 X scope (X.N++[x,y]) C fp s H) ifs tt)
 (he:∀ C fp s H,PE (a44 X scope (X.N++[x,y]) C fp s H) elt te)(hc:X.calm=true:=by rfl)(e1:X.env.scope=osc:=by rfl)(e2:X.N=oN:=by rfl)(hs:∀ v,foldedSetIterable iter X.env v=pure v:=by intro _;rfl) :
 PE X (.ListComp elt [⟨.Tuple [.Name x px,.Name y py] ek ep,iter,ifs,0⟩] scope pos) (e07 wi (fun σ=>σ++[none,none]) (gTup X.K 2 (f64 (d40 X.N.length) (f64 (d40 (X.N.length+1)) gNil))) tt te):=by
 have hx':x∉X.N:=by rw[e2];exact hx
 have hy':y∉X.N:=by rw[e2];exact hy
 have hnd:X.N.Nodup:=by rw[e2];exact SC.nd
 have hN:(X.N++[x,y]).Nodup:=by
  rw[List.nodup_append]
  refine⟨hnd,by simp[hxy],fun a ha b hb=>?_⟩
  simp at hb
  rcases hb with rfl | rfl
  ·exact fun e=>hx' (e ▸ ha)
  ·exact fun e=>hy' (e ▸ ha)
 refine e94 (up:=fun σ=>σ++[none,none]) (by rw[e1,e2];exact S) hc (e79 hx' hy') hi (fun C fp s H=>?_) ?_ ht he hs
 ·refine g56 hc (b81 (a91 hN (by show(X.N++[x,y])[X.N.length]?=_;simp) (.inl (lookup_relabel_local S.loc)) (.inr (lookup_relabel_local S.loc))) (b81 (a91 hN (by show(X.N++[x,y])[X.N.length+1]?=_;simp) (.inl (lookup_relabel_local hly)) (.inr (lookup_relabel_local hly))) e55))
 ·rintro v σ H Q hl ⟨a,xs,e,hq,hn,v1,r1,e3,v2,r2,e4,e5,q⟩
  refine⟨a,xs,e,hq,hn,v1,r1,e3,v2,r2,e4,e5,⟨by rw[List.length_set,List.length_set],fun j u hj=>?_⟩,q⟩
  have hlt:j < X.N.length:=by
   rw[← hl]
   by_cases hi:j < σ.length
   ·exact hi
   ·rw[List.getElem?_append_right (by omega)] at hj
    generalize j-σ.length=i at hj
    match i,hj with
    | 0,h2=>cases h2
    | 1,h2=>cases h2
    | i+2,h2=>cases h2
  show(((σ++[none,none]).set X.N.length (some v1)).set (X.N.length+1) (some v2))[j]?=_
  rw[List.getElem?_set_ne (by omega),List.getElem?_set_ne (by omega)]
  exact hj
end
def Ite (K:PySem.W.Frag)(l:Addr):It :=
 ⟨fun i H=>∃ xs x,SqL K H l xs/\xs[i]?=some x,
  fun i H v H'=>∃ T x,H T=none/\v=.ref T/\(∀ xs,SqL K H l xs->xs[i]?=some x)/\H'=upd H T (.tup [.int i,x]),
  fun i H=>∃ xs,SqL K H l xs/\xs.length<=i⟩
theorem g06 {P:Program}{w:World}{K:PySem.W.Frag}{elts:List Expr}{ek:Nat}{ep:Pos}(e it l:Addr)(hei:e≠it):Turn P w K (.Tuple elts ek ep) (Ite K l) [e,it] e (fun i h=>(∃ old,IsEnum h e it i old)/\h.IsListIter it l i) where
 mem:=by simp
 obj:=fun k h st b hb=>by
  obtain⟨⟨old,he⟩,⟨o1,e1,_,d1⟩⟩:=st
  simp only[Cj,List.not_mem_nil,or_false] at hb
  rcases hb with rfl | rfl
  ·exact⟨_,he,fun v q=>by cases (show Data.fields _=Data.cell v from q)⟩
  ·exact⟨o1,e1,fun v q=>by rw[d1] at q;cases q⟩
 keep:=fun k h h' st kp=>by
  obtain⟨⟨old,he⟩,⟨o1,e1,r1⟩⟩:=st
  exact⟨⟨old,kp e (by simp) _ he⟩,⟨o1,kp it (by simp) _ e1,r1⟩⟩
 item:=by
  intro X hP hw hK hc i pins s σ H E I hf st hg
  subst hP hw hK
  obtain⟨xs,x,hq,hx⟩:=hg
  obtain⟨its,rv,p,hz⟩:=I.list hq
  obtain⟨u,hu,ru⟩:=rv.get hx
  obtain⟨⟨old,he⟩,hit⟩:=st
  refine wpAny_pyNext_enum_item he hit p.isList (x:=u) (by simpa using hu) hei fun h' ho hit' hT hsz kp=>?_
  refine⟨_,rfl,wpAny_letOwnedTupleGo_enum ho fun h'' he'' sb=>?_⟩
  have hlt:∀ b∈[e,it],b < s.heap.objs.size:=fun b hb=>by
   obtain⟨o1,e1,_⟩:=hit
   simp only[Cj,List.not_mem_nil,or_false] at hb
   rcases hb with rfl | rfl
   ·exact Ej he
   ·exact Ej e1
  have hTe:s.heap.objs.size≠e:=(Nat.ne_of_lt (hlt e (by simp))).symm
  have kp2:∀ b o,b∉[e,it]->s.heap.get? b=some o->h''.get? b=some o:=fun b o hb q=>by
   simp only[Cj,List.not_mem_nil,or_false,not_or] at hb
   exact sb.extBut _ _ hb.1 (kp b o hb.1 hb.2 q)
  have hTn:h''.get? s.heap.objs.size=some { cls:=.type "tuple", data:=.seq #[.int i s.toks,u] }:=sb.extBut _ _ hTe hT
  have fpN:∀ b∈[e,it],H b=none:=fun b hb=>(hf b hb).1
  have hTf:H s.heap.objs.size=none:=I.hok.fresh (AZ _)
  have neT:∀ b q,H b=some q->b≠s.heap.objs.size:=fun b q e=>a01 e hTf
  have nef:∀ b q,H b=some q->b∉[e,it]:=fun b q z hb=>by rw[fpN b hb] at z;cases z
  have hok:HOk X.prog X.w (upd H s.heap.objs.size (.tup [.int i,x])) h'':=fun b q z=>by
   by_cases hb:b=s.heap.objs.size
   ·subst hb
    rw[a02] at z;cases z
    exact⟨by show 2<=sizeLine;decide,[.int i s.toks,u],.cons ⟨_,rfl⟩ (.cons ru .nil),⟨_,hTn,rfl,0,rfl⟩⟩
   ·rw[a06 hb] at z
    refine(I.hok b q z).stay (fun c w' hc' r=>kp2 c w' ?_ r) (fun c r=>by rw[a06 (neT c _ r)];exact r) fun c xs' r=>by rw[a06 (neT c _ r)];exact r
    rcases hc' with z' | z'
    ·rw[z'];exact nef b q z
    ·exact nef c _ z'
  have IS:Inv X pins σ (upd H s.heap.objs.size (.tup [.int i,x])) { s with heap:=h'',toks:=s.toks+1 }:=by
   refine I.step (g':=s.gens) (t':=s.toks+1) (d':=s.drawn) (ch:=[e,it]) (fun b hb=>?_) (fun b o _ _ hc' e _=>kp2 b o hc' e) (fun b o _ _ hc' e _=>⟨o.slots,kp2 b o hc' e⟩) (fun b o _ e n=>?_)
    (fun b o hc' e=>⟨o,kp2 b o hc' e⟩) (fun b xs' e=>by rw[a06 (neT b _ e)];exact e) (fun b o q e=>by rw[a06 (neT b _ e)];exact e) (fun b ps e=>⟨#[],by rw[a06 (neT b _ e),e];simp⟩) (fun m hm=>?_) hok I.bare
   ·obtain⟨_,f1,f2,f3,f4,f5⟩:=hf b hb
    exact⟨f3,f1,f4,f5⟩
   ·rw[a06 (Nat.ne_of_lt (Ej e))];exact n
   ·obtain⟨o,es,ep',ho,r⟩:=hm
    exact⟨o,es,ep',kp2 _ o (fun hb=>(hf _ hb).2.1 rfl) ho,r⟩
  refine⟨.ref s.heap.objs.size,_,IS,rfl,⟨_,x,hTf,rfl,fun xs' q=>by rw[I.list_inj q hq];exact hx,rfl⟩,⟨⟨_,by simpa using he''⟩,hit'.at fun o z=>sb.extBut _ _ hei.symm z⟩,fun b hb=>?_⟩
  rw[a06 (Nat.ne_of_lt (hlt b hb))]
  exact fpN b hb
 done:=by
  intro X hP hw hK hc i pins s σ H E I hf st hg
  subst hP hw hK
  obtain⟨xs,hq,hx⟩:=hg
  obtain⟨its,rv,p,hz⟩:=I.list hq
  obtain⟨⟨old,he⟩,hit⟩:=st
  obtain⟨f0,f1,f2,f3,f4,f5⟩:=hf it (by simp)
  have hl:=rv.length
  exact wpAny_pyNext_enum_end (I.ok.hd hc) he hit p.isList (by simp;omega) fun h' eb=>⟨rfl,I.turned (t':=s.toks) (fun b o hb e=>eb b o hb e) f0 f1 f3 f4 f5⟩
 self:=fun A i s Q E st h=>by
  obtain⟨⟨old,he⟩,_⟩:=st
  exact wpAny_pyIter_enum he h
section
variable {X:Cx}
def iEnum (K:PySem.W.Frag)(ta:TA):TI:=fun σ H R=>ta σ H fun vs H1=>∃ l,vs=[.ref l]/\(∃ xs,SqL K H1 l xs)/\R (Ite K l) H1
theorem g04 {a:Expr}{ta:TA}{p pos:Pos}{elts:List Expr}{ek:Nat}{ep:Pos}(hg:Gl X "enumerate")(hm:X.mg "enumerate" = none)(ha:PA X [a] ta)(hs:starEach [a] X.env=[(false,eval a X.env)]:=by rfl) :
 PI X (.Tuple elts ek ep) (.Call (.Name "enumerate" p) [a] [] pos) (iEnum X.K ta):=by
 try constructor
 intro pins s σ H R I h
 refine Call_ (c64 I hg hm PyProof.Rows.Boot.enumerate (PyProof.Rows.callWith_type1 (thn (ha pos pins s σ H _ I h) fun us s1 ⟨vs,H1,I1,r1,q1⟩=>?_) hs rfl))
 obtain⟨l,e,⟨xs,q1⟩,q⟩:=q1
 subst e
 cases r1 with
 | cons r rr =>
  cases rr
  cases r
  obtain⟨its,_,p1,_⟩:=I1.list q1
  refine call_enumerate_list p1.isList fun h' he hit hsz kp=>?_
  refine wpAny_pyIter_enum he ?_
  have I2:Inv X pins σ H1 { s1 with heap:=h' }:=I1.kept (t':=s1.toks) kp
  refine⟨s1.heap.objs.size+1,[s1.heap.objs.size+1,s1.heap.objs.size],_,_,H1,rfl,I2,g06 _ _ l (by show @Ne Nat _ _;omega),⟨⟨_,he⟩,hit⟩,fun b hb=>?_,q⟩
  have hb':s1.heap.objs.size<=b:=by
   simp only[Cj,List.not_mem_nil,or_false] at hb
   rcases hb with rfl | rfl
   ·exact FX _
   ·exact AZ _
  obtain⟨z0,z1,z2,z3,z4,z5⟩:=I1.fpOk hb' (I1.hok.fresh hb')
  exact⟨z0,z1,z2,z3,z4,z5⟩
end
theorem e93 {K:PySem.W.Frag}{l:Addr}{xs:List V}{g:TG}{tb:TS}{D:Ends}{σ:St}{H:Hp} (Pv:Nat->St->Hp->Prop)(h0:Pv 0 σ H)(hl:∀ i σ H,i<=xs.length->Pv i σ H->SqL K H l xs)
 (hs:∀(i:Nat) x σ H T,xs[i]?=some x->Pv i σ H->H T=none->g (.ref T) σ (upd H T (.tup [.int i,x])) fun σ2 H2=>tb { D with nx:=Pv (i+1),ct:=Pv (i+1),bk:=D.nx } σ2 H2)(hd:∀ σ H,Pv xs.length σ H->D.nx σ H) :
 ∃ W:Nat->Nat->St->Hp->Prop,(∃ m,W 0 m σ H)/\∀ i m σ H,W i m σ H ->
  ((Ite K l).stop i H/\D.nx σ H)∨((Ite K l).go i H/\∃ N:St->Hp->Prop,(∀ σ' H',N σ' H'->∃ m',m' < m/\W (i+1) m' σ' H')/\∀ x H',(Ite K l).yld i H x H'->g x σ H' fun σ2 H2=>tb { D with nx:=N,ct:=N,bk:=D.nx } σ2 H2):=by
 refine⟨fun i m σ H=>m=xs.length-i/\i<=xs.length/\Pv i σ H,⟨xs.length,by simp,FJ _,h0⟩,?_⟩
 rintro i m σ H ⟨rfl,hi,p⟩
 have q1:=hl i σ H hi p
 by_cases hlt:i < xs.length
 ·refine .inr ⟨⟨xs,xs[i],q1,by simp[hlt]⟩,Pv (i+1),fun σ' H' p'=>⟨xs.length-(i+1),by omega,rfl,hlt,p'⟩,fun v H' yl=>?_⟩
  obtain⟨T,x,hT,rfl,yx,rfl⟩:=yl
  exact hs i x σ H T (yx xs q1) p hT
 ·have e:i=xs.length:=by omega
  subst e
  exact .inl ⟨⟨xs,q1,AZ _⟩,hd σ H p⟩
theorem g52 {K:PySem.W.Frag}{l:Addr}{xs:List V}{et:V->Hp->(List V->Hp->Prop)->List V->Prop}{H:Hp}{fin:Addr->List V->Hp->Prop} (Pv:Nat->List V->Hp->Prop)(hn:xs.length<=sizeLine)(h0:Pv 0 [] H)(hl:∀ i ys H,Pv i ys H->ys.length<=i)
 (hq:∀ i ys H,i<=xs.length->Pv i ys H->SqL K H l xs)
 (hs:∀(i:Nat) ys H v T,xs[i]?=some v->Pv i ys H->H T=none->et (.ref T) (upd H T (.tup [.int i,v])) (fun zs H3=>Pv (i+1) zs H3) ys)(hd:∀ ys H,Pv xs.length ys H->∀ D,H D=none->fin D ys H) :
 ∃ W:Nat->Nat->List V->Hp->Prop,(∃ m,W 0 m [] H)/\∀ i m ys H,W i m ys H ->
  ((Ite K l).stop i H/\∀ D,H D=none->fin D ys H) ∨
  ((Ite K l).go i H/\ys.length < sizeLine/\∃ Nx:List V->Hp->Prop,(∀ zs H3,Nx zs H3->∃ m',m' < m/\W (i+1) m' zs H3)/\∀ x H',(Ite K l).yld i H x H'->et x H' Nx ys):=by
 refine⟨fun i m ys H=>m=xs.length-i/\i<=xs.length/\Pv i ys H,⟨xs.length,by simp,FJ _,h0⟩,?_⟩
 rintro i m ys H ⟨rfl,hi,p⟩
 have q:=hq i ys H hi p
 by_cases hlt:i < xs.length
 ·refine .inr ⟨⟨xs,xs[i],q,by simp[hlt]⟩,by have:=hl i ys H p;omega,_,fun y H3 q=>⟨xs.length-(i+1),by omega,rfl,hlt,q⟩,fun x H' yl=>?_⟩
  obtain⟨T,x',hT,rfl,yx,rfl⟩:=yl
  exact hs i ys H x' T (yx xs q) p hT
 ·have e:i=xs.length:=by omega
  subst e
  exact .inl ⟨⟨xs,q,AZ _⟩,hd ys H p⟩
theorem h20 {K:PySem.W.Frag}{t1 t2:Addr}{xs zs:List V}{et:V->Hp->(List V->Hp->Prop)->List V->Prop}{H:Hp}{fin:Addr->List V->Hp->Prop} (Pv:Nat->List V->Hp->Prop)(hlen:xs.length=zs.length)(hn:xs.length<=sizeLine)(h0:Pv 0 [] H)(hl:∀ i ys H,Pv i ys H->ys.length<=i)
 (hq:∀ i ys H,i<=xs.length->Pv i ys H->SqT K H t1 xs/\SqT K H t2 zs)
 (hs:∀(i:Nat) ys H v u T,xs[i]?=some v->zs[i]?=some u->Pv i ys H->H T=none->et (.ref T) (upd H T (.tup [v,u])) (fun zs H3=>Pv (i+1) zs H3) ys)(hd:∀ ys H,Pv xs.length ys H->∀ D,H D=none->fin D ys H) :
 ∃ W:Nat->Nat->List V->Hp->Prop,(∃ m,W 0 m [] H)/\∀ i m ys H,W i m ys H ->
  ((Itz K t1 t2).stop i H/\∀ D,H D=none->fin D ys H) ∨
  ((Itz K t1 t2).go i H/\ys.length < sizeLine/\∃ Nx:List V->Hp->Prop,(∀ zs H3,Nx zs H3->∃ m',m' < m/\W (i+1) m' zs H3)/\∀ x H',(Itz K t1 t2).yld i H x H'->et x H' Nx ys):=by
 refine⟨fun i m ys H=>m=xs.length-i/\i<=xs.length/\Pv i ys H,⟨xs.length,by simp,FJ _,h0⟩,?_⟩
 rintro i m ys H ⟨rfl,hi,p⟩
 obtain⟨q1,q2⟩:=hq i ys H hi p
 by_cases hlt:i < xs.length
 ·have hlt2:i < zs.length:=by omega
  refine .inr ⟨⟨xs,zs,xs[i],zs[i],q1,q2,by simp[hlt],by simp[hlt2]⟩,by have:=hl i ys H p;omega,_,fun y H3 q=>⟨xs.length-(i+1),by omega,rfl,hlt,q⟩,fun x H' yl=>?_⟩
  obtain⟨T,x',y',hT,rfl,yx,yy,rfl⟩:=yl
  exact hs i ys H x' y' T (yx xs q1) (yy zs q2) p hT
 ·have e:i=xs.length:=by omega
  subst e
  exact .inl ⟨⟨xs,zs,q1,q2,.inl (AZ _)⟩,hd ys H p⟩
end L2
namespace L2
open PySem PySem.Spec PyProof.Rows
section
variable {X:Cx}
theorem d80:OpR X (compareOp .LtE) (fun x y H Q=>∃ i j,x=.str i/\y=.str j/\Q (.bl (!decide (j.cps.toList < i.cps.toList))) H):=by
 try constructor
 intro pins s σ H x y v u Q I rx ry h
 obtain⟨i,j,rfl,rfl,q⟩:=h
 obtain⟨t,rfl⟩:=rx
 obtain⟨t',rfl⟩:=ry
 exact PySem.P.le_str (a55 I q rfl)
theorem d58:CallR X (.type "int") (fun xs H Q=>∃ x n,xs=[.str x]/\x.length<=640/\intText? x=some n/\Q (.int n) H):=by
 try constructor
 intro pins s σ H xs us Q I r h
 obtain⟨x,n,rfl,hl,hn,q⟩:=h
 obtain⟨u,rfl,t,rfl⟩:=c94 r
 exact PySem.W.KIN.call_text hn hl ⟨.int n,H,I.tok _,⟨_,rfl⟩,q⟩
theorem e09:MtM X "str.partition" (fun x xs H Q=>∃ z y,x=.str z/\xs=[.str y]/\(y.length == 0)=false/\z.length<=sizeLine/\∀ D,H D=none->Q (.ref D) (upd H D (.tup [.str (Txt.partition z y).1,.str (Txt.partition z y).2.1,.str (Txt.partition z y).2.2]))):=by
 try constructor
 intro pins s σ H x xs v us Q I rx rs h
 obtain⟨z,y,rfl,rfl,hy,hz,q⟩:=h
 obtain⟨t,rfl⟩:=rx
 obtain⟨u,rfl,ru⟩:=rs.one
 obtain⟨t',rfl⟩:=ru
 refine call_meets F.slot_str_partition (typeIs_str _ _ _) F.entry_str_partition (F.args_str_partition_2 _ _) (meets_str_partition z y t t' hy hz) ?_
 have put:∀(ta tb tc:Tok) (tk:Nat),EP X pins σ Q (.ref s.heap.objs.size) { s with heap:=s.heap.push { cls:=.type "tuple", data:=.seq [.str (Txt.partition z y).1 ta,.str (Txt.partition z y).2.1 tb,.str (Txt.partition z y).2.2 tc].toArray },toks:=tk }:=fun ta tb tc tk=>by
  refine⟨.ref s.heap.objs.size,_,I.laid (t':=tk) (fun b u e=>Aq _ e) (AZ _) ?_,rfl,q _ (I.hok.fresh (AZ _))⟩
  exact⟨by show 3<=sizeLine;decide,_,.cons ⟨_,rfl⟩ (.cons ⟨_,rfl⟩ (.cons ⟨_,rfl⟩ .nil)),IsTup.new _ _⟩
 unfold Txt.partition at put
 revert put
 cases Builtin.Str.occurrences z y 0 z.length 1 with
 | nil=>intro put;exact put _ _ _ _
 | cons i r=>intro put;exact put _ _ _ _
end
def leS:List Str->List Str->Bool
 | [],_=>true
 | _::_,[]=>false
 | a::x,b::y=>if a=b then leS x y else !decide (b.cps.toList < a.cps.toList)
theorem g27:∀ x y:List Str,leS x y=!Srt.lexB y x
 | [],[]=>rfl
 | [],_::_=>rfl
 | _::_,[]=>rfl
 | a::x,b::y=>by
  show(if a=b then leS x y else !decide (b.cps.toList < a.cps.toList))=!(if b=a then Srt.lexB y x else Srt.ltS b a)
  by_cases e:a=b
  ·rw[if_pos e,if_pos e.symm]
   exact g27 x y
  ·rw[if_neg e,if_neg fun q=>e q.symm]
   rfl
theorem h32 (A:Around)(s:Shared) (a:Str)(t:Tok) (c:Str)(u:Tok):∃ e,SeqAt.EqAt A s (.str a t) (.str c u) e/\(e=true↔a=c) :=
 ⟨(a == c),SeqAt.EqAt.str_str a t c u,by simp⟩
theorem h54 (A:Around)(s:Shared) (a:Str)(t:Tok) (c:Str)(u:Tok)(prog:Program)(w:World) (E:Value->Shared->Prop) (Q:Value->Shared->Prop)(h:Q (.bool (!decide (c.cps.toList < a.cps.toList))) s) :
 wpAny (model prog w) A (richCompare .LtE (.str a t) (.str c u)) Q E s :=
 (PySem.P.le_str h:wpAny (model prog w) A (compareOp .LtE (.str a t) (.str c u)) Q E s)
section
open PySem.SeqAt
open PySem.AutoSeq1 (wpAny_loadPart')
open PySem.MeetsSeq PySem.MeetsSeq2 PySem.MeetsSeq3
inductive Strs:List Value->List Str->Prop
 | nil:Strs [] []
 | cons (a:Str)(t:Tok){vs:List Value}{ns:List Str}:Strs vs ns->Strs (.str a t::vs) (a::ns)
theorem Strs.length:∀ {vs:List Value}{ns:List Str},Strs vs ns->vs.length=ns.length
 | _,_,.nil=>rfl
 | _,_,.cons _ _ h=>by rw[Cz,Cz,h.length]
theorem Strs.of:∀ {ns:List Str}{us:List Value},Vals (ns.map V.str) us->Strs us ns
 | [],_,r=>by cases r;exact .nil
 | a::ns,_,r=>by
  rw[CJ] at r
  cases r with
  | cons r1 r2 =>
   obtain⟨t,rfl⟩:=r1
   exact .cons a t (Strs.of r2)
theorem d51 (l b:Addr)(items items2:Array Value) (n n2:Nat)(dd dd2:Option Addr)(sl sl2:Array (Option Value)) (ns ms:List Str)(hi:Strs items.toList ns)(hj:Strs items2.toList ms) :
 Meets (Builtin.«tuple.__le__» ⟨[.ref l,.ref b],[]⟩)
  (fun _ R s=>s.heap.get? l=some { cls:=.type "tuple", dict:=dd,data:=.seq items n,slots:=sl }/\s.heap.get? b=some { cls:=.type "tuple", dict:=dd2,data:=.seq items2 n2,slots:=sl2 } /\
    R (.ok (.ret (.bool (leS ns ms)))) s) :=
 .of_wp fun prog w A R s h=>by
  obtain⟨hp,g,d,tk,os⟩:=s;obtain⟨hl,hb,h⟩:=h
  have f2:=AutoSeq1.sub_tuple_tuple
  have z1:items.size=ns.length:=by rw[← hi.length];simp
  have z2:items2.size=ms.length:=by rw[← hj.length];simp
  wp_walk using wpAny_loadPart' hl,wpAny_loadPart' hb,wpAny_forIn_list _ (fun rest b s'=>b.1=none/\s'=⟨hp,g,d,tk,os⟩/\∃(vs ws:List Value) (ns' ms':List Str),rest=vs.zip ws /\
   Strs vs ns'/\Strs ws ms'/\ns'.length+items2.size=ms'.length+items.size/\R (.ok (.ret (.bool (leS ns' ms')))) ⟨hp,g,d,tk,os⟩) _
  case turn =>
   rintro⟨y,x⟩ rest b s' ⟨hb',rfl,vs,ws,ns',ms',hz,hvi,hwi,hlen,hR⟩
   cases hvi with
   | nil=>rw[List.zip_nil_left] at hz;cases hz
   | cons a t hvi' =>
    cases hwi with
    | nil=>rw[List.zip_nil_right] at hz;cases hz
    | cons c u hwi' =>
     rw[List.zip_cons_cons] at hz
     injection hz with hyx hrest
     injection hyx with hy hx
     subst hy hx
     rw[leS] at hR
     simp only[Cz] at hlen
     obtain⟨e,he,hiff⟩:=h32 A.in1 ⟨hp,g,d,tk,os⟩ a t c u
     refine AQ (he prog w _ _ ?_)
     cases e with
     | true =>
      rw[if_pos (hiff.mp rfl)] at hR
      wp_walk
      exact⟨rfl,rfl,_,_,_,_,hrest,hvi',hwi',by omega,hR⟩
     | false =>
      rw[if_neg (fun q=>absurd (hiff.mpr q) Fx)] at hR
      have hri:=h54 A.in1 ⟨hp,g,d,tk,os⟩ a t c u prog w
      wp_walk using hri
      exact⟨_,rfl,by simpa using hR⟩
  case fin =>
   rintro⟨b1,b2⟩ s' ⟨hb',rfl,vs,ws,ns',ms',hz,hvi,hwi,hlen,hR⟩
   simp only at hb'
   subst hb'
   have hv:leS ns' ms'=decide (items.size<=items2.size):=by
    cases hvi with
    | nil =>
     simp only[List.length_nil] at hlen
     exact(Az (by omega)).symm
    | cons a t hv =>
     cases hwi with
     | nil =>
      simp only[List.length_nil,Cz] at hlen
      exact(Fz (by omega)).symm
     | cons c u hw =>
      rw[List.zip_cons_cons] at hz
      cases hz
   rw[hv] at hR
   wp_walk
   exact⟨_,rfl,by simpa [Builtin.Tuple.tupleCompareSizes] using hR⟩
  case h =>
   exact⟨rfl,rfl,items.toList,items2.toList,ns,ms,rfl,hi,hj,by omega,h⟩
end
section
variable {prog:Program}{w:World}{A:Around}{E:Value->Shared->Prop}{s:Shared}
theorem f49 {l b:Addr}{items items2:Array Value}{ns ms:List Str}{Q:Value->Shared->Prop}(hl:IsTup s.heap l items)(hb:IsTup s.heap b items2)(hi:Strs items.toList ns)(hj:Strs items2.toList ms)
 (hu:A.units < cLine)(h:Q (.bool (leS ns ms)) s):wpAny (model prog w) A (compareOp .LtE (.ref l) (.ref b)) Q E s:=by
 obtain⟨⟨cls,dd,data,sl⟩,ho,hc,n,hd⟩:=id hl
 obtain⟨⟨cls2,dd2,data2,sl2⟩,ho2,hc2,n2,hd2⟩:=id hb
 simp only at hc hd hc2 hd2
 subst hc hd hc2 hd2
 exact richCompare_meets_room (op:=.LtE) ⟨_,ho,rfl⟩ ⟨_,ho2,rfl⟩ PySem.F.slot_tuple_le PySem.F.entry_tuple_le (PySem.F.args_tuple_le_2 _ _) (d51 l b items items2 n n2 dd dd2 sl sl2 ns ms hi hj)
  ⟨ho,ho2,show Value.bool (leS ns ms)≠Value.notImplemented/\Q (.bool (leS ns ms)) s from⟨(fun x=>nomatch x),h⟩⟩ hu
end
section
variable {X:Cx}
theorem j13 (hu:X.A.units < cLine):OpR X (compareOp .LtE) (fun x y H Q=>∃ a b xs ys,x=.ref a/\y=.ref b/\SqT X.K H a (xs.map V.str)/\SqT X.K H b (ys.map V.str)/\Q (.bl (leS xs ys)) H):=by
 try constructor
 intro pins s σ H x y v u Q I rx ry h
 obtain⟨a,b,ns,ms,rfl,rfl,ha,hb,q⟩:=h
 cases rx
 cases ry
 obtain⟨its,r1,p1,_⟩:=I.tuple ha
 obtain⟨its2,r2,p2,_⟩:=I.tuple hb
 have i1:Strs its.toArray.toList ns:=Strs.of r1
 have i2:Strs its2.toArray.toList ms:=Strs.of r2
 exact f49 p1 p2 i1 i2 hu ⟨.bl (leS ns ms),H,I,rfl,q⟩
end
end L2
namespace L2
open PySem PySem.Spec PyProof.Rows
section
variable {prog:Program}{w:World}{K:Type} [DecidableEq K] {knd:KeyKind prog w K}{A:Around}{E:Value->Shared->Prop}{s:Shared}
theorem f91 {Q:Int->Shared->Prop}(h:∀ k,Q 4238894112 { s with toks:=s.toks+k }):wpAny (model prog w) A (pyHash .none) Q E s:=by
 unfold pyHash
 have hv:[Value.none].any Value.onHeap=false:=rfl
 unfold pyHashByItsType
 refine AQ ?_
 rw[cRoomFor,if_neg (by rw[hv];exact Fx)];refine AX ?_
 refine AQ (wpAny_specialOf (typeIs_none s) F.slot_NoneType_hash.lookup ?_)
 show wpAny _ _ (if (some (Value.builtin "NoneType.__hash__") == some Value.none)=true then _ else _) Q E s
 rw[if_neg (by rw[beq_builtin_none];exact Fx)]
 refine AQ (wpAny_specialOf (typeIs_none s) F.slot_NoneType_hash.lookup ?_)
 show wpAny _ _ (callSpecialIfBoundUnlessNone? .none "__hash__" _ >>= _) Q E s
 refine AQ (wpAny_callSpecialIfBoundUnlessNone?_slot (typeIs_none s) F.slot_NoneType_hash
  (wpAny_call_entry F.slot_NoneType_hash (typeIs_none s) F.entry_NoneType_hash
    (show wpAny _ _ (do ret (← mkInt 0xFCA86420)) _ _ s from wpAny_ret_mkInt ?_) (F.args_NoneType_hash_1 _)))
 show wpAny _ _ (if (decide (-(2:Int) ^ 63<=0xFCA86420) && decide ((0xFCA86420:Int) < 2 ^ 63))=true then _ else _) Q E _
 rw[if_pos (by decide)]
 exact AX (h 1)
theorem f86 {d:Addr}{o:Obj}{es ep}{xs:List (List K×Addr×Value)}{hh:Int}{Q:Option Nat->Shared->Prop}(hu:A.units < cLine)
 (ho:s.heap.get? d=some o)(hd:o.data=.dict es ep)(he:es.toList=xs.map (entryOfKey (tupleKind knd)))(his:∀ x∈xs,(tupleKind knd).is s.heap x.1 x.2.1)(hQ:Q none s) :
 wpAny (model prog w) A (dictFind d .none hh) Q E s:=by
 have hmem:∀ e∈es,∃ x∈xs,e=entryOfKey (tupleKind knd) x:=by
  intro e hin
  have:e∈xs.map (entryOfKey (tupleKind knd)):=he ▸ Array.mem_toList_iff.mpr hin
  obtain⟨x,hx,rfl⟩:=Ez.mp this
  exact⟨x,hx,rfl⟩
 have hst:∀ v∈(placesWithHash es.size (fun i=>es[i]?.map (·.hash)) hh).filterMap (fun i=>es[i]?.map (·.key)),∃ k' b,v=.ref b/\(tupleKind knd).is s.heap k' b:=by
  intro v hv
  obtain⟨i,_,hi⟩:=List.mem_filterMap.mp hv
  cases hei:es[i]? with
  | none=>rw[hei] at hi;cases hi
  | some e =>
   rw[hei] at hi
   obtain rfl:e.key=v:=by simpa using hi
   obtain⟨x,hx,rfl⟩:=hmem e (Array.mem_of_getElem? hei)
   exact⟨x.1,x.2.1,rfl,his x hx⟩
 have step:∀(i:Nat)(e:DictEntry),es[i]?=some e->∃ k' b,e.key=.ref b/\(tupleKind knd).is s.heap k' b:=fun i e hei=>by
  obtain⟨x,hx,rfl⟩:=hmem e (Array.mem_of_getElem? hei)
  exact⟨x.1,x.2.1,rfl,his x hx⟩
 unfold dictFind
 try with_reducible refine wpAny_holding ?_
 refine AQ (wpAny_dictEntries ho hd ?_)
 dsimp only
 by_cases hall:((Value.none::(placesWithHash es.size (fun i=>es[i]?.map (·.hash)) hh).filterMap (fun i=>es[i]?.map (·.key))).all carriedByValue)=true
 ·rw[if_pos hall]
  unfold dictWalkPlain
  refine AQ ?_
  refine wpAny_forIn_list _ (fun rest b s'=>b.1=none/\s'=s/\∀ i∈rest,i∈placesWithHash es.size (fun i=>es[i]?.map (·.hash)) hh) _ ?_ ?_ _ _ ⟨rfl,rfl,fun _ h=>h⟩
  ·rintro i rest b s' ⟨hb,rfl,hr⟩
   have hi:=hr i BZ
   have hmi:i∈List.range es.size:=(List.mem_filter.mp hi).1
   have hlt:i < es.size:=List.mem_range.mp hmi
   have hei:es[i]?=some es[i]:=Array.getElem?_eq_getElem hlt
   exfalso
   obtain⟨k',c,hk,_⟩:=step i _ hei
   have hin:es[i].key∈(placesWithHash es.size (fun i=>es[i]?.map (·.hash)) hh).filterMap (fun i=>es[i]?.map (·.key)):=List.mem_filterMap.mpr ⟨i,hi,by rw[hei];rfl⟩
   have:=List.all_eq_true.mp hall es[i].key (BX _ hin)
   rw[hk] at this
   cases this
  ·rintro⟨b1,b2⟩ s' ⟨hb,rfl,_⟩
   simp only at hb
   subst hb
   exact AX hQ
 ·rw[if_neg hall]
  have hne:¬(((placesWithHash es.size (fun i=>es[i]?.map (·.hash)) hh).filterMap (fun i=>es[i]?.map (·.key))) == [Value.none])=true:=fun q=>by
   have q':=eq_of_beq q
   obtain⟨_,_,e,_⟩:=hst Value.none (by rw[q'];exact Ax.mpr rfl)
   cases e
  rw[if_neg hne]
  have tell:∀ {R:Bool->Shared->Prop},R false s->wpAny (model prog w) A (tableMayTell .none ((placesWithHash es.size (fun i=>es[i]?.map (·.hash)) hh).filterMap (fun i=>es[i]?.map (·.key)))) R E s:=fun {R} hR=>by
   unfold tableMayTell
   split
   ·exact AX hR
   ·rw[eqIsQuiet_byValue _ (show carriedByValue Value.none=true from rfl)]
    refine AQ (AX ?_)
    simp only[Bool.not_true,Bool.false_eq_true,if_false]
    refine AQ ?_
    refine wpAny_forIn_list _ (fun rest r s'=>s'=s/\r=(none,())/\∀ v∈rest,∃ k' b,v=.ref b/\(tupleKind knd).is s.heap k' b) _ ?_ ?_ _ _ ⟨rfl,rfl,hst⟩
    ·rintro x rest r s' ⟨rfl,rfl,hr⟩
     obtain⟨k',b,rfl,hb⟩:=hr x BZ
     refine AQ ((tupleKind knd).quiet hb ?_)
     simp only[Bool.not_true,Bool.false_eq_true,if_false]
     exact AX ⟨rfl,rfl,fun v hv=>hr v (BX _ hv)⟩
    ·rintro r s' ⟨rfl,rfl,_⟩
     exact AX hR
  refine AQ (tell ?_)
  rw[if_neg (by simp)]
  refine AQ ?_
  refine wpAny_forIn_list _ (fun rest b s'=>b=(none,none)/\s'=s) _ ?_ ?_ _ _ ⟨rfl,rfl⟩
  ·rintro i rest b s' ⟨rfl,rfl⟩
   cases hei:es[i]? with
   | none=>exact AX ⟨rfl,rfl⟩
   | some e =>
    dsimp only
    by_cases hq:(e.hash == hh)=true
    ·rw[if_pos hq]
     obtain⟨k',c,hk,hc⟩:=step i e hei
     obtain⟨oc,items,n,hoc,hcc,hdc,_⟩:=hc
     rw[hk]
     refine AQ (wpAny_dictEpoch ho hd (AQ (SeqAt.EqAt.tuple_none (s:=s') (l:=c) (items:=items) ⟨oc,hoc,hcc,n,hdc⟩ hu prog w _ _ (AQ (wpAny_dictEpoch ho hd ?_)))))
     show wpAny _ _ (if (ep != ep)=true then _ else _) _ E _
     rw[if_neg (by simp)]
     simp only[Bool.false_eq_true,if_false]
     refine AQ (wpAny_rule ?_)
     first | rw[if_neg (by simp)] | skip
     first
      | exact AX ⟨rfl,rfl⟩
      | exact AQ (AX (AX ⟨rfl,rfl⟩))
    ·rw[if_neg hq]
     exact AX ⟨rfl,rfl⟩
  ·rintro b s' ⟨rfl,rfl⟩
   exact AX hQ
theorem h87 {d:Addr}{xs:List (List K×Addr×Value)}{Q:Value->Shared->Prop}(hu:A.units+1 < cLine)(hd:(d == sysModules)=false)(hm:s.heap.DictOfH (tupleKind knd) d xs)
 (h:∀ k,Q (.bool false) { s with toks:=s.toks+k }):wpAny (model prog w) A (compareOp .In .none (.ref d)) Q E s:=by
 show wpAny _ _ (do return .bool (← contains (.ref d) .none)) Q E s
 refine AQ ?_
 unfold contains
 try with_reducible refine wpAny_holding ?_
 refine AQ (wpAny_specialOf hm.typeIs slot_dict_contains.lookup ?_)
 show wpAny _ _ (if (some (Value.builtin "dict.__contains__") == some Value.none)=true then _ else _) _ E s
 rw[if_neg (by rw[beq_builtin_none];exact Fx)]
 refine AQ (wpAny_callSpecialUnlessNone?_slot (name:=Str.ofString "__contains__") hm.typeIs slot_dict_contains
  (wpAny_call_entry slot_dict_contains hm.typeIs entry_dict_contains ?_ (args_dict_contains _ _)))
 show wpAny _ _ (dictGet d .none >>= _) _ _ s
 obtain⟨o,es,ep,ho,_,hdd,he,his,hn⟩:=id hm
 refine AQ ?_
 unfold dictGet
 try with_reducible refine wpAny_holding ?_
 refine AQ (f91 fun k=>AQ (f86 (knd:=knd) (s:={ s with toks:=s.toks+k }) (show A.in1.units < cLine from hu) ho hdd he his ?_))
 refine AX ?_
 show wpAny _ _ (Builtin.Dict.pendingKey? d .none >>= _) _ _ _
 exact AQ (wpAny_pendingKey_other hd (AX ⟨_,rfl,wpAny_truthy_bool (AX (h k))⟩))
end
section
variable {X:Cx}{o i:Expr}{td ty:TE}
def inO (m:b69):Option (List Str)->Bool
 | none=>false
 | some zs=>(a98 m zs).isSome
def tDInO (ty td:TE):TE:=fun σ H Q=>ty σ H fun y H1=>td σ H1 fun x H2=>∃ a m q,x=.ref a/\H2 a=some (dP m)/\OptP H2 y q/\Q (.bl (inO m q)) H2
theorem h88 (hu:X.A.units+1 < cLine)(hi:PE X i ty)(ho:PE X o td):PC X .In i o (tDInO ty td):=by
 try constructor
 intro pins s σ H Q I h
 refine thn (hi pins s σ H _ I h) fun iv s1 ⟨y,H1,I1,ry,q1⟩=>thn (ho pins s1 σ H1 _ I1 q1) fun u s2 ⟨x,H2,I2,rx,a,m,z,ex,e,oz,q2⟩=>?_
 subst ex
 obtain rfl:u=Value.ref a:=rx
 cases z with
 | none =>
  cases (show y=.non from oz)
  cases (show iv=Value.none from ry)
  obtain⟨_,hd,xs,rel,dd⟩:=h39 I2.hok e
  exact h87 hu hd dd fun k=>⟨.bl false,H2,I2.tok _,rfl,q2⟩
 | some zs =>
  obtain⟨b,rfl,hb⟩:=oz
  exact d_in hu I2 (getP e hb) ry fun s3 I3=>⟨.bl (a98 m zs).isSome,H2,I3,rfl,q2⟩
end
section
variable {X:Cx}{k v:Expr}{tk tv:TE}{pos:Pos}
def i82 (tk tv:TE):TE:=fun σ H Q=>∀ p,H p=none->tk σ (upd H p (dP [])) fun x H1=>tv σ H1 fun y H2=>∃ b zs,x=.ref b/\H2 b=some (.tup (zs.map V.str))/\H2 p=some (dP [])/\Q (.ref p) (upd H2 p (dP [(zs,y)]))
theorem h31 (hu:X.A.units+1 < cLine)(hk:PE X k tk)(hv:PE X v tv):PE X (.Dict [some k] [v] pos) (i82 tk tv):=by
 try constructor
 intro pins s σ H Q I q
 have hn:=I.hok.fresh (AZ s.heap.objs.size)
 have I1:=I.laid (a:=s.heap.objs.size) (o:=.dT []) (h':=s.heap.push { cls:=.type "dict", data:=.dict #[] }) (t':=s.toks) (fun _ _ q=>Aq _ q) (AZ _) (e67 s.heap I.big)
 refine wpAny_Dict_any rfl rfl (by simp) (by show 1<=15;decide) (pairTrees_cons_walk (thn (hk pins _ σ _ _ I1 (q _ hn)) fun kv s2 ⟨x,H2,I2,rx,q2⟩=>thn (hv pins s2 σ H2 _ I2 q2) fun vv s3 ⟨y,H3,I3,ry,b,zs,ex,hb,hp,q3⟩=>pairTrees_nil_walk ?_))
 subst ex
 cases (show kv=Value.ref b from rx)
 unfold storeAll
 rw[List.forIn_cons]
 refine AQ (AQ ?_)
 obtain⟨z,hd,xs,rel,dd⟩:=h39 I3.hok hp
 have hz:xs.length<=sizeLine:=by rw[← Paired.length rel];exact z
 refine wpAny_dictSet_heap (hsz:=hz) (show X.A.units < cLine by omega) (c97 I3.hok (ks:=zs.map Sum.inr) (by rw[b54];exact hb)) dd fun h' dd' hs=>?_
 refine AX (AX ?_)
 obtain⟨qo,es,ep,hq,h2,h3,h4,_,h5⟩:=dd'
 have rel':=rel.put (zs.map Sum.inr) (show H3 b=some (.tup ((zs.map Sum.inr).map kV)) by rw[b54];exact hb) ry
 refine⟨.ref s.heap.objs.size,_,d42 I3 (ob:=dP [(zs,y)]) (by rw[hp];exact True.intro) hs ⟨qo,hq⟩ ⟨by show 1<=sizeLine;decide,hd,_,rel'.keeps fun c ys ec=>?_,qo,es,ep,hq,h2,h3,h4,h5⟩,rfl,q3⟩
 rw[a06 (a85 ec hp (fun z=>nomatch z))]
 exact ec
end
def Itd (d:Addr)(o:Obj) (kvs:List (Key×V)):It :=
 ⟨fun i H=>H d=some (.frz o (.dK kvs))/\i < kvs.length,fun i H x H'=>H'=H/\∃ p,kvs[i]?=some p/\x=kV p.1,fun i H=>H d=some (.frz o (.dK kvs))/\kvs.length<=i⟩
theorem j17 {P:Program}{w:World}{H:Hp}{h:Heap}{d:Addr}{o:Obj}{kvs:List (Key×V)}(hok:HOk P w H h)(e:H d=some (.frz o (.dK kvs))){es:Array DictEntry}{ep:Nat}(ed:o.data=.dict es ep):∃ vs,KV kvs vs/\h.DictAt (a77 P w) d vs ep:=by
 obtain⟨ho,_,_,vs,rel,o',es',ep',h1,h2,h3,h4⟩:=(show ObjOk P w H h d (.frz o (.dK kvs)) from hok d _ e)
 rw[ho] at h1
 cases h1
 rw[ed] at h3
 cases h3
 exact⟨vs,rel,o,es,ho,h2,ed,h4⟩
theorem i67 {kvs:List (Key×V)}{vs:List (Key×Value)}(r:KV kvs vs):∀ {i:Nat}{p:Key×V},kvs[i]?=some p->∃ u,vs[i]?=some (p.1,u):=by
 unfold KV at r
 induction r with
 | nil=>intro i p h;cases h
 | @cons a b l1 l2 h1 t ih =>
  intro i p h
  cases i with
  | zero =>
   rw[List.getElem?_cons_zero] at h
   cases h
   exact⟨b.2,by rw[List.getElem?_cons_zero,h1.1]⟩
  | succ i=>exact ih h
theorem i50 {P:Program}{w:World}{k:Key}{u:Value}(h:(a77 P w).is k u=true):RelV (kV k) u:=by
 rw[f43] at h
 rcases a67 h with⟨i,t,rfl,rfl⟩ | ⟨x,t,rfl,rfl⟩
 ·exact⟨t,rfl⟩
 ·exact⟨t,rfl⟩
theorem f73 {P:Program}{w:World}{K:PySem.W.Frag}{tg:Expr}(it d:Addr)(o:Obj) (kvs:List (Key×V))(es:Array DictEntry) (ep:Nat)(ed:o.data=.dict es ep):Turn P w K tg (Itd d o kvs) [it] it (fun i h=>h.IsKeyIter it d i kvs.length ep) where
 mem:=by simp
 obj:=fun i h st b hb=>by
  have e:b=it:=by simpa using hb
  subst e
  obtain⟨o,e,c,d⟩:=st
  exact⟨o,e,fun v z=>by rw[d] at z;cases z⟩
 keep:=fun i h h' st k=>st.at fun o e=>k it (by simp) o e
 item:=by
  intro X hP hw hK hc i pins s σ H E I hf st hg
  subst hP hw hK
  obtain⟨hq,hi⟩:=hg
  obtain⟨vs,rel,hm⟩:=j17 I.hok hq ed
  obtain⟨p,hp⟩:∃ p,kvs[i]?=some p:=⟨kvs[i],by simp[hi]⟩
  obtain⟨u,hu⟩:=i67 rel hp
  obtain⟨f0,f1,f2,f3,f4,f5⟩:=hf it (by simp)
  have hl:kvs.length=vs.length:=rel.length
  refine wpAny_pyNext_dict_item (hl ▸ st) hm hu fun key h' hk st' sb=>?_
  have I1:Inv X pins σ H { s with heap:=h' }:=I.turned (t':=s.toks) (fun b o hb e=>(sb.2 b hb).trans e) f0 f1 f3 f4 f5
  obtain⟨o',e,c,dd⟩:=id st'
  exact⟨key,rfl,g11 (s:={ s with heap:=h' }) e c dd (by decide) ⟨kV p.1,H,I1,i50 hk,⟨rfl,p,hp,rfl⟩,by rw[hl];exact st',fun b hb=>(hf b hb).1⟩⟩
 done:=by
  intro X hP hw hK hc i pins s σ H E I hf st hg
  subst hP hw hK
  obtain⟨hq,hi⟩:=hg
  obtain⟨vs,rel,hm⟩:=j17 I.hok hq ed
  obtain⟨f0,f1,f2,f3,f4,f5⟩:=hf it (by simp)
  have hl:kvs.length=vs.length:=rel.length
  exact wpAny_pyNext_dict_end (I.ok.hd hc) (hl ▸ st) hm (by rw[List.getElem?_eq_none];omega) fun h' eb=>⟨rfl,I.turned (t':=s.toks) (fun b o hb e=>eb b o hb e) f0 f1 f3 f4 f5⟩
 self:=fun _ _ _ _ _ st h=>wpAny_pyIter_keyiter st h
section
variable {X:Cx}{tg:Expr}
def iDict (tl:TE):TI:=fun σ H R=>tl σ H fun x H1=>∃ d kvs,x=.ref d/\H1 d=some (.dK kvs)/\∀ o,R (Itd d o kvs) (upd H1 d (.frz o (.dK kvs)))
theorem i18 {l:Expr}{tl:TE}(hl:PE X l tl):PI X tg l (iDict tl):=by
 try constructor
 intro pins s σ H R I h
 refine thn (hl pins s σ H _ I h) fun v s1 ⟨x,H1,I1,r1,q1⟩=>?_
 obtain⟨d,kvs,e,hq,q⟩:=q1
 subst e
 cases r1
 obtain⟨z,hd,vs,rel,dd⟩:=j22 I1.hok hq
 obtain⟨o,es,ep,ho,hc,hdat,hr⟩:=id dd
 have hm:s1.heap.DictAt (a77 X.prog X.w) d vs ep:=⟨o,es,ho,hc,hdat,hr⟩
 have hlen:kvs.length=vs.length:=rel.length
 have rel0:=rel
 refine wpAny_pyIter_dict hd hm ?_
 have I2:Inv X pins σ (upd H1 d (.frz o (.dK kvs))) { s1 with heap:=s1.heap }:=I1.write (t':=s1.toks) (x:=d) (e:=d) (by rw[hq];exact True.intro) (.inl rfl) (fun b u _ e=>e) ⟨o,ho⟩ ⟨ho,z,hd,vs,rel,dd⟩
 have I3:=I2.kept (t':=s1.toks) (h':=s1.heap.push { cls:=.type "dict_keyiterator", data:=.fields #[.ref d,.int 0 0,.int vs.length 0,.int ep 0] }) fun b o e=>Aq _ e
 refine⟨s1.heap.objs.size,[s1.heap.objs.size],_,_,_,rfl,I3,f73 _ d o kvs es ep hdat,?_,fun b hb=>?_,q o⟩
 ·rw[hlen]
  exact⟨_,DJ _ rfl,rfl,rfl⟩
 ·have e:b=s1.heap.objs.size:=by simpa using hb
  subst e
  exact I2.fpOk (AZ _) (I2.hok.fresh (AZ _))
end
theorem f63 {d:Addr}{o:Obj}{kvs:List (Key×V)}{et:V->Hp->VK->Prop}{H:Hp}{fin:Addr->List V->Hp->Prop} (Pv:Nat->List V->Hp->Prop)(hn:kvs.length<=sizeLine)(h0:Pv 0 [] H)(hl:∀ i ys H,Pv i ys H->ys.length=i)
 (hq:∀ i ys H,i<=kvs.length->Pv i ys H->H d=some (.frz o (.dK kvs)))
 (hs:∀ i ys H p,kvs[i]?=some p->Pv i ys H->et (kV p.1) H fun y H3=>Pv (i+1) (ys++[y]) H3)(hd:∀ ys H,Pv kvs.length ys H->∀ D,H D=none->fin D ys H) :
 ∃ W:Nat->Nat->List V->Hp->Prop,(∃ m,W 0 m [] H)/\∀ i m ys H,W i m ys H ->
  ((Itd d o kvs).stop i H/\∀ D,H D=none->fin D ys H) ∨
  ((Itd d o kvs).go i H/\ys.length < sizeLine/\∃ Nx:V->Hp->Prop,(∀ y H3,Nx y H3->∃ m',m' < m/\W (i+1) m' (ys++[y]) H3)/\∀ x H',(Itd d o kvs).yld i H x H'->et x H' Nx):=by
 refine⟨fun i m ys H=>m=kvs.length-i/\i<=kvs.length/\Pv i ys H,⟨kvs.length,by simp,FJ _,h0⟩,?_⟩
 rintro i m ys H ⟨rfl,hi,p⟩
 have q:=hq i ys H hi p
 by_cases hlt:i < kvs.length
 ·refine .inr ⟨⟨q,hlt⟩,by rw[hl i ys H p];omega,_,fun y H3 q=>⟨kvs.length-(i+1),by omega,rfl,hlt,q⟩,fun x H' yl=>?_⟩
  obtain⟨e,p',hp',rfl⟩:=yl
  subst e
  exact hs i ys _ p' hp' p
 ·have e:i=kvs.length:=by omega
  subst e
  exact .inl ⟨⟨q,AZ _⟩,hd ys H p⟩
end L2
namespace L2
open PySem PySem.Spec PyProof.Rows
section
variable {X:Cx}{elt iter:Expr}{x y:Str}{px py pos:Pos}{scope:Scope}{wi:TI}{te:TE}{N:List Str}{k:Nat}{up:St->St}
theorem h27 {tg:Expr}{ifs:List Expr}{gg:TG}{tt:TT}{ix:Nat}{yn:Str}{py spos:Pos}{ok:Str->Prop}(S:CompScopeG X.env.scope X.N scope x ok)(hc:X.calm=true)
 (hup:∀ σ:St,σ.length=X.N.length->(up σ).length=N.length/\∀(i:Nat) (y:Str) (v:V),N[i]?=some y->(up σ)[i]?=some (some v)->¬ ok y/\∃ j:Nat,X.N[j]?=some y/\σ[j]?=some (some v))
 (hi:PI X tg iter wi)(hg:∀ C fp s H,PG (a44 X scope N C fp s H) tg gg)(hgs:∀ v (σ:St) H (Q:St->Hp->Prop),σ.length=X.N.length->gg v (up σ) H Q->gg v (up σ) H fun σ2 H2=>Wk (up σ) σ2/\Q σ2 H2)
 (ht:∀ C fp s H,PTs (a44 X scope N C fp s H) ifs tt)
 (he:∀ C fp s H,PE (a44 X scope N C fp s H) elt te)(hs:∀ v,foldedSetIterable iter X.env v=pure v)
 (hNX:X.N.Nodup)(hni:X.N[ix]?=some yn)(hlx:Loc X.env.scope yn)(hsw:swapsWith (.ListComp elt [⟨tg,iter,ifs,0⟩] scope pos) (some (.Name yn py)) spos.line X.env=pure true)(hf:X.fn yn=true∨X.env.scope.names.lookup yn=some .local) :
 PS X (.Assign [.Name yn py] (.ListComp elt [⟨tg,iter,ifs,0⟩] scope pos) spos) (tAsg (e07 wi up gg tt te) (d40 ix)):=by
 try constructor
 intro pins s σ H DE I h
 rw[exec_Assign_Name_used _ _ _ _ hsw]
 refine AQ (wpAny_standAt (AQ ?_))
 show wpAny _ _ (do let _ ← comprehension (.ListComp elt [⟨tg,iter,ifs,0⟩] scope pos) scope X.env _ (newList []) false (eval iter X.env) (some (assign (.Name yn py) X.env))) _ _ s
 refine AQ (Dz (wpAny_comprehension_free (use:=some (assign (.Name yn py) X.env)) (Q:=fun _ s'=>SP X pins DE .next s') rfl hs (c38 (b68 I S)) S.kind S.names (thn (hi pins s σ H _ I h) fun v s1 h1=>thn h1 fun itv s2 h2=>?_)) (fun _ s' hq=>AX (AX hq)) fun _ _ e=>e)
 obtain⟨it,fp,tn,J,H2,e,I2,T,st2,f2,W,⟨m0,w0⟩,turn⟩:=h2
 subst e
 refine Fq (wpAny_newFunctionEnv S.nocell (by intro y hy;simp at hy) (fun h₁ hns₁ hsb₁=>?_) S.kind)
 dsimp only at hns₁ hsb₁ ⊢
 generalize hH2:s2.heap.push { cls:=.type "list", dict:=none,data:=.seq ([]:List Value).toArray }=HH at hns₁ hsb₁ ⊢
 have hC:HH.objs.size=s2.heap.objs.size+1:=by rw[← hH2,Heap.size_push]
 have hDC:s2.heap.objs.size≠HH.objs.size:=by rw[hC];exact Nat.ne_of_lt (Nat.lt_succ_self _)
 have hCle:s2.heap.objs.size<=HH.objs.size:=by rw[hC];exact FX _
 have below:∀ b,b < s2.heap.objs.size->b≠HH.objs.size/\b≠s2.heap.objs.size:=fun b hb=>⟨by rw[hC];exact Nat.ne_of_lt (Nat.lt_succ_of_lt hb),Nat.ne_of_lt hb⟩
 have old:∀ b o,s2.heap.get? b=some o->h₁.get? b=some o:=fun b o e=>hsb₁.extBut b o (below b (Ej e)).1 (Aq _ (hH2 ▸ Aq _ e))
 have hacc:h₁.get? s2.heap.objs.size=some { cls:=.type "list", data:=.seq ([]:List Value).toArray 0 }:=hsb₁.extBut _ _ hDC (Aq _ (hH2 ▸ DJ _ rfl))
 have ho2:∀ b∈fp,∃ o,s2.heap.get? b=some o:=fun b hb=>let ⟨o,e,_⟩:=T.obj _ _ st2 b hb;⟨o,e⟩
 have fpD:∀ b∈fp,b≠s2.heap.objs.size:=fun b hb=>let ⟨o,e⟩:=ho2 b hb;(below b (Ej e)).2
 obtain⟨hul,husub⟩:=hup σ I2.len
 have st1:tn 0 h₁:=T.keep _ _ _ st2 fun b _ o e=>old b o e
 have I3:Inv (a44 X scope N HH.objs.size fp s2 H2) [] (up σ) H2 { s2 with heap:=h₁,toks:=s2.toks+([]:List (Str×Value)).length }:=c43 I2 S f2 ho2 hCle old hns₁ hul husub
 have hD2:H2 s2.heap.objs.size=none:=I2.hok.fresh (AZ _)
 have loop:codeAny (model X.prog X.w) X.A (.compLoop (.ListComp elt [⟨tg,iter,ifs,0⟩] scope pos) 0 (.ref it) (.ref s2.heap.objs.size) (compEnvC scope (d97 X.env scope.names []) HH.objs.size X.env))
  (compPost (model X.prog X.w) X.A X.xe (some (assign (.Name yn py) X.env)) (fun _ s'=>SP X pins DE .next s') (.ref s2.heap.objs.size) HH.objs.size) { s2 with heap:=h₁,toks:=s2.toks+([]:List (Str×Value)).length }:=by
  refine c60 (fun n s'=>∃(i:Nat) (ys:List V) (its:List Value) (cn:Nat)(H':Hp),Inv (a44 X scope N HH.objs.size fp s2 H2) [] (up σ) H' s'/\tn i s'.heap/\(∀ b∈fp,H' b=none)/\H' s2.heap.objs.size=none /\
   s'.heap.get? s2.heap.objs.size=some { cls:=.type "list", data:=.seq its.toArray cn }/\Vals ys its/\ys.length<=sizeLine/\W i n ys H') ?_ m0
   ⟨0,[],[],0,H2,I3,st1,fun b hb=>(f2 b hb).1,hD2,hacc,.nil,FJ _,w0⟩
  rintro n s3 ⟨i,ys,its,cn,H3,J3,st3,fr3,hD3,hob3,rv3,hz3,w3⟩
  have pinD:∀ {H':Hp}{s':Shared}{σ':St}{its':List Value}{cn':Nat},Inv (a44 X scope N HH.objs.size fp s2 H2) [] σ' H' s'->H' s2.heap.objs.size=none->s'.heap.get? s2.heap.objs.size=some { cls:=.type "list", data:=.seq its'.toArray cn' } ->
   Inv (a44 X scope N HH.objs.size fp s2 H2) [(s2.heap.objs.size,{ cls:=.type "list", data:=.seq its'.toArray cn' })] σ' H' s':=fun J hD hob=>J.pins_of fun p hp=>by
   have e:p=(s2.heap.objs.size,{ cls:=.type "list", data:=.seq _ _ }):=Ax.mp hp
   subst e
   refine⟨hob,hD,hDC,fun z=>?_,fun v z=>by cases (show Data.seq _ _=Data.cell v from z)⟩
   exact absurd rfl ((below _ (by
    obtain⟨_,o,ho,_⟩:=(show s2.heap.FunFrames X.base X.stack from I2.stack).mem z
    exact Ej ho)).2)
  have J3':=pinD J3 hD3 hob3
  have fpk:∀ {H':Hp},(∀ b∈fp,H' b=none)->∀ b∈fp,f66 (a44 X scope N HH.objs.size fp s2 H2) [(s2.heap.objs.size,{ cls:=.type "list", data:=.seq its.toArray cn })] H' b:=fun hn b hb=>by
   obtain⟨o,e⟩:=ho2 b hb
   refine⟨hn b hb,(below b (Ej e)).1,(b97 (N:=N) I2 S f2 ho2 hCle).exfs b hb,.inl hb,fun y c ec=>((b97 (N:=N) I2 S f2 ho2 hCle).exf b hb).2 y c ec,fun p hp=>?_⟩
   have e':p=(s2.heap.objs.size,{ cls:=.type "list", data:=.seq its.toArray cn }):=Ax.mp hp
   subst e'
   exact(fpD b hb).symm
  rcases turn i n ys H3 w3 with⟨stop,fin⟩ | ⟨go,hlt,Nx,hNx,step⟩
  ·refine Dz (T.done (a44 X scope N HH.objs.size fp s2 H2) rfl rfl rfl hc i _ s3 (up σ) H3 _ J3' (fpk fr3) st3 stop) (fun r s4 ⟨hr,J4⟩=>?_) fun _ _ z=>z
   subst hr
   obtain⟨m4,hn4,_⟩:=J4.loc
   have hob4:=(J4.pin (s2.heap.objs.size,{ cls:=.type "list", data:=.seq its.toArray cn }) (by simp)).1
   have kp:∀ b o,b≠HH.objs.size->s4.heap.get? b=some o->s4.heap.get? b=some o:=fun b o _ e=>e
   have hne:∀ b u,H3 b=some u->b≠s2.heap.objs.size:=fun b u q=>a01 q hD3
   have hneC:∀ b u,H3 b=some u->b≠HH.objs.size:=fun b u q=>a01 q J4.free
   have un:Un (frs X.stack) fp H2 (upd H3 s2.heap.objs.size (.lst ys)) s2.heap s4.heap:=by
    have u0:Un (frs X.stack) fp H2 H3 s2.heap s4.heap:=J4.base
    refine⟨fun b o e n hb hx=>kp b o (below b (Ej e)).1 (u0.keep b o e n hb hx),fun b o e n hb hx=>?_,fun b o e n hx=>?_,fun b o e hx=>?_,fun b xs q=>?_,fun b o u q=>?_,fun b ps q=>?_⟩
    ·obtain⟨sl,e1⟩:=u0.slot b o e n hb hx
     exact⟨sl,kp b _ (below b (Ej e)).1 e1⟩
    ·rw[a06 (below b (Ej e)).2];exact u0.free b o e n hx
    ·obtain⟨o',e1⟩:=u0.there b o e hx
     exact⟨o',kp b _ (below b (Ej e)).1 e1⟩
    ·have q':=u0.tups b xs q
     rw[a06 (hne b _ q')];exact q'
    ·have q':=u0.frzs b o u q
     rw[a06 (hne b _ q')];exact q'
    ·obtain⟨more,q'⟩:=u0.tbls b ps q
     exact⟨more,by rw[a06 (hne b _ q')];exact q'⟩
   have hok:HOk X.prog X.w (upd H3 s2.heap.objs.size (.lst ys)) s4.heap:=fun b u q=>by
    by_cases hb:b=s2.heap.objs.size
    ·subst hb
     rw[a02] at q;cases q
     exact⟨hz3,its,cn,rv3,kp _ _ hDC hob4⟩
    ·rw[a06 hb] at q
     refine(J4.hok b u q).stay (fun c v hc' r=>kp c v ?_ r) (fun c r=>by rw[a06 (hne c _ r)];exact r) fun c xs r=>by rw[a06 (hne c _ r)];exact r
     rcases hc' with z | z
     ·rw[z];exact hneC b u q
     ·exact hneC c _ z
   have IX:Inv X pins σ (upd H3 s2.heap.objs.size (.lst ys)) s4:=by
    refine I2.call' (s':=s4) (ch:=fp) J4.os un hok J4.bare fun b hb=>?_
    obtain⟨_,g1,_,g3,g4,g5⟩:=f2 b hb
    exact⟨g3,g1,g4,g5⟩
   obtain⟨oC,esC,epC,hoC,hrC⟩:=id hn4
   have hCn:(upd H3 s2.heap.objs.size (.lst ys)) HH.objs.size=none:=by rw[a06 (Ne.symm hDC)];exact J4.free
   have cL:HH.objs.size≠X.env.locals:=fun z=>absurd rfl ((below _ I2.lt).1 |> fun q=>by rw[← z] at q;exact q)
   have cF:HH.objs.size∉X.fs:=I2.nofs hCle
   have cC:∀ y c,X.env.cells.lookup y=some c->c≠HH.objs.size:=fun y c ec=>by
    obtain⟨v',q⟩:=I2.cell y c ec
    exact(below c q.lt).1
   have cP:∀ p∈X.pn++pins,p.1≠HH.objs.size:=fun p hp=>(below p.1 (Ej (I2.pin p hp).1)).1
   have cS:HH.objs.size∈X.ex∨X.s₀.heap.objs.size<=HH.objs.size:=.inr (FQ I2.sz hCle)
   have IP:Inv X (pins++[(HH.objs.size,oC)]) σ (upd H3 s2.heap.objs.size (.lst ys)) s4:=IX.pins_of fun p hp=>by
    rcases Bq.mp hp with z | z
    ·exact IX.pin p (List.mem_append_right _ z)
    ·rw[Ax.mp z]
     refine⟨hoC,hCn,cL,cF,fun v z=>?_⟩
     first
      | (have q:=hrC.2.1;rw[z] at q;cases q)
      | (have q:=hrC.1;rw[z] at q;cases q)
      | (have q:=hrC.2;rw[z] at q;cases q)
   refine wpAny_assign_Name (c28 IP hNX hni hlx (v:=.ref s2.heap.objs.size) rfl (fun s5 I5=>?_) hf)
   have hC5:s5.heap.get? HH.objs.size=some oC:=(I5.pin (HH.objs.size,oC) (List.mem_append_right _ (List.mem_append_right _ (Ax.mpr rfl)))).1
   refine⟨m4,⟨oC,esC,epC,hC5,hrC⟩,fun h' sb=>?_⟩
   exact⟨_,_,I5.unpinned.turned (t':=s5.toks) (fun b o hb e=>(sb.2 b hb).trans e) hCn cL cS cC cP,fin _ hD3⟩
  ·refine Dz (T.item (a44 X scope N HH.objs.size fp s2 H2) rfl rfl rfl hc i _ s3 (up σ) H3 _ J3' (fpk fr3) st3 go) (fun r s4 ⟨u,hr,h4⟩=>?_) fun _ _ z=>z
   subst hr
   refine Dz h4 (fun _ s5 ⟨y,H5,J5,r5,y5,st5,fr5⟩=>?_) fun _ _ z=>z
   have J5':=J5.pinned (fpk fr5) (T.obj _ _ st5)
   refine Dz (hg HH.objs.size fp s2 H2 _ s5 _ H5 y u _ J5' r5 (hgs y σ H5 _ I2.len (step y H5 y5))) (fun _ s6 ⟨σ6,H6,J6,⟨wl,wk⟩,q6⟩=>?_) fun _ _ z=>z.elim
   refine Dz (ht HH.objs.size fp s2 H2 _ s6 σ6 H6 _ J6 q6) (fun bt s7 ⟨H7,J7,q7⟩=>?_) fun _ _ z=>z.elim
   cases bt with
   | false =>
    rw[if_neg Fx] at q7 ⊢
    obtain⟨m',hm',w7⟩:=hNx ys H7 q7
    have pD:=J7.pin (s2.heap.objs.size,{ cls:=.type "list", data:=.seq its.toArray cn }) (by simp)
    have J7':Inv (a44 X scope N HH.objs.size fp s2 H2) [] (up σ) H7 s7:=(J7.weak (σ':=up σ) wl fun j v ej=>wk j v ej).pins_of fun p hp=>nomatch hp
    refine⟨m',hm',i+1,ys,its,cn,H7,J7',?_,fun b hb=>?_,pD.2.1,pD.1,rv3,hz3,w7⟩
    ·refine T.keep _ _ _ st5 fun b hb o e=>?_
     exact(J7.pin (b,o) (List.mem_append_right _ (List.mem_append_right _ (a65 hb e)))).1
    ·obtain⟨o,e,d⟩:=T.obj _ _ st5 b hb
     exact(J7.pin (b,o) (List.mem_append_right _ (List.mem_append_right _ (a65 hb e)))).2.1
   | true =>
   rw[if_pos rfl] at q7 ⊢
   refine Dz (he HH.objs.size fp s2 H2 _ s7 σ6 H7 _ J7 q7) (fun yu s7 ⟨z,H7,J7,r7,q7⟩=>?_) fun _ _ z=>z.elim
   obtain⟨m',hm',w7⟩:=hNx (ys++[z]) H7 q7
   have pD:=J7.pin (s2.heap.objs.size,{ cls:=.type "list", data:=.seq its.toArray cn }) (by simp)
   have hlen:=rv3.length
   refine append_at (hsz:=by rw[List.size_toArray,← hlen];exact hz3) pD.1 fun h8 sb8 hob8=>?_
   have kp8:∀ b o,b≠s2.heap.objs.size->s7.heap.get? b=some o->h8.get? b=some o:=fun b o hb e=>(sb8.2 b hb).trans e
   have J7':Inv (a44 X scope N HH.objs.size fp s2 H2) [] (up σ) H7 s7:=(J7.weak (σ':=up σ) wl fun j v ej=>wk j v ej).pins_of fun p hp=>nomatch hp
   have J8:Inv (a44 X scope N HH.objs.size fp s2 H2) [] (up σ) H7 { s7 with heap:=h8 }:=J7'.turned (t':=s7.toks) kp8 pD.2.1 hDC (.inr (AZ _))
    (fun y' c ec z=>by
      obtain⟨v',q⟩:=I2.cell y' c (a87 I2 S ec)
      exact(below c q.lt).2 z) fun p hp=>nomatch hp
   refine⟨m',hm',i+1,ys++[z],its++[yu],cn+1,H7,J8,?_,fun b hb=>?_,pD.2.1,?_,rv3.append (.cons r7 .nil),?_,w7⟩
   ·refine T.keep _ _ _ st5 fun b hb o e=>kp8 b o (fpD b hb) ?_
    exact(J7.pin (b,o) (List.mem_append_right _ (List.mem_append_right _ (a65 hb e)))).1
   ·obtain⟨o,e,d⟩:=T.obj _ _ st5 b hb
    exact(J7.pin (b,o) (List.mem_append_right _ (List.mem_append_right _ (a65 hb e)))).2.1
   ·rw[hob8];simp
   ·rw[Bj,List.length_singleton];exact hlt
 exact codeAny_compStart_list loop (T.self _ 0 _ _ _ st1 loop)
theorem h46 {osc:Scope}{oN ops:List Str}{ifs:List Expr}{tt:TT}{ek:Nat}{ep:Pos}{ix:Nat}{yn:Str}{pyn spos:Pos}(SC:FnScope oN ops osc)(S:b58 osc oN scope x)(hx:x∉oN)(hy:y∉oN)(hxy:x≠y)(hly:scope.names.lookup y=some .local)
 (hni:X.N[ix]?=some yn)(hlx:Loc X.env.scope yn)
 (hi:PI X (.Tuple [.Name x px,.Name y py] ek ep) iter wi)(ht:∀ C fp s H,PTs (a44 X scope (X.N++[x,y]) C fp s H) ifs tt)
 (he:∀ C fp s H,PE (a44 X scope (X.N++[x,y]) C fp s H) elt te)
 (hsw:swapsWith (.ListComp elt [⟨.Tuple [.Name x px,.Name y py] ek ep,iter,ifs,0⟩] scope pos) (some (.Name yn pyn)) spos.line X.env=pure true:=by rfl)(hf:X.fn yn=true∨X.env.scope.names.lookup yn=some .local:=by first | exact .inl rfl | exact .inr rfl)
 (hc:X.calm=true:=by rfl)(e1:X.env.scope=osc:=by rfl)(e2:X.N=oN:=by rfl)(hs:∀ v,foldedSetIterable iter X.env v=pure v:=by intro _;rfl) :
 PS X (.Assign [.Name yn pyn] (.ListComp elt [⟨.Tuple [.Name x px,.Name y py] ek ep,iter,ifs,0⟩] scope pos) spos) (tAsg (e07 wi (fun σ=>σ++[none,none]) (gTup X.K 2 (f64 (d40 X.N.length) (f64 (d40 (X.N.length+1)) gNil))) tt te) (d40 ix)):=by
 have hx':x∉X.N:=by rw[e2];exact hx
 have hy':y∉X.N:=by rw[e2];exact hy
 have hnd:X.N.Nodup:=by rw[e2];exact SC.nd
 have hN:(X.N++[x,y]).Nodup:=by
  rw[List.nodup_append]
  refine⟨hnd,by simp[hxy],fun a ha b hb=>?_⟩
  simp at hb
  rcases hb with rfl | rfl
  ·exact fun e=>hx' (e ▸ ha)
  ·exact fun e=>hy' (e ▸ ha)
 refine h27 (up:=fun σ=>σ++[none,none]) (by rw[e1,e2];exact S) hc (e79 hx' hy') hi (fun C fp s H=>?_) ?_ ht he hs hnd hni hlx hsw hf
 ·refine g56 hc (b81 (a91 hN (by show(X.N++[x,y])[X.N.length]?=_;simp) (.inl (lookup_relabel_local S.loc)) (.inr (lookup_relabel_local S.loc))) (b81 (a91 hN (by show(X.N++[x,y])[X.N.length+1]?=_;simp) (.inl (lookup_relabel_local hly)) (.inr (lookup_relabel_local hly))) e55))
 ·rintro v σ H Q hl ⟨a,xs,e,hq,hn,v1,r1,e3,v2,r2,e4,e5,q⟩
  refine⟨a,xs,e,hq,hn,v1,r1,e3,v2,r2,e4,e5,⟨by rw[List.length_set,List.length_set],fun j u hj=>?_⟩,q⟩
  have hlt:j < X.N.length:=by
   rw[← hl]
   by_cases hi:j < σ.length
   ·exact hi
   ·rw[List.getElem?_append_right (by omega)] at hj
    generalize j-σ.length=i at hj
    match i,hj with
    | 0,h2=>cases h2
    | 1,h2=>cases h2
    | i+2,h2=>cases h2
  show(((σ++[none,none]).set X.N.length (some v1)).set (X.N.length+1) (some v2))[j]?=_
  rw[List.getElem?_set_ne (by omega),List.getElem?_set_ne (by omega)]
  exact hj
end
end L2
namespace L2
open PySem PySem.Spec PyProof.Rows
theorem f99:typeLookup (.type "list_reverseiterator") "__len__" = pure none:=by rw[typeLookup_type,builtinLookup_eq_fast];kernel_rfl
theorem h05:typeLookup (.type "list_reverseiterator") "__length_hint__" = pure (some (.builtin "list_reverseiterator.__length_hint__")):=by rw[typeLookup_type,builtinLookup_eq_fast];kernel_rfl
section
variable {prog:Program}{w:World}{A:Around}{E:Value->Shared->Prop}{s:Shared}{r l S:Addr}{items:Array Value}
theorem f41 {R:Result->Shared->Prop}(hh:A.handled=none)(hit:s.heap.IsRevIter r l ((items.size:Int)-1))(hl:s.heap.IsList l items)(hlr:l≠r)(hSr:S≠r)(hSl:S≠l) (res:Value) (c₀:Nat)(hS:s.heap.get? S=some { cls:=.type "list", data:=.seq #[] c₀ })
 (hR:∀ h' tk acc' c',(∀ b o,b≠S->b≠r->s.heap.get? b=some o->h'.get? b=some o)->h'.get? S=some { cls:=.type "list", dict:=none,data:=.seq acc' c',slots:=#[] }->ItemsOf (fun i v=>items[items.size-1-i]?=some v) acc' items.size->R (.ok (.ret res)) { s with heap:=h',toks:=tk })(hn:items.size<=sizeLine) :
 wpAny (model prog w) A.in1 (Builtin.List.listExtendWith (.ref S) (.ref r) res)
  (fun fin s'=>match fin with | .done f=>R (.ok f) s' | .again c'=>c'.quiet=true/\codeAny (model prog w) A c' R s') (fun e s'=>R (.error e) s') s:=by
 have hSf:S∉[r,l]:=by simp only[Cj,List.not_mem_nil,or_false,not_or];exact⟨hSr,hSl⟩
 have W:=Walks.listRev (prog:=prog) (w:=w) (A:=A.in1) hh r l hlr items
 have key:∀(h:Heap) (c₁ tk:Nat),(0<=items.size/\h.IsRevIter r l ((items.size:Int)-1-((0:Nat):Int))/\h.IsList l items)->(∀ b o,b≠S->s.heap.get? b=some o->h.get? b=some o) ->
  h.get? S=some { cls:=.type "list", data:=.seq #[] c₁ }->codeAny (model prog w) A (.builtin "list.extend.loop" ⟨[.ref S,.ref r,res],[]⟩) R { s with heap:=h,toks:=tk }:=by
  intro h c₁ tk hst hk hS₁
  refine codeAny_extend_loopS W.toS hn S hSf res items.size 0 _ #[] c₁ rfl (FJ _) hst hS₁ (ItemsOf.nil _) fun s' acc' c' hm hS' hacc=>?_
  rw[Moved.eq_with hm]
  refine hR s'.heap s'.toks acc' c' (fun b o hb hbr e=>hm.heap b o (fun hmem=>?_) (hk b o hb e)) hS' hacc
  rcases Cj.mp hmem with e' | hmem
  ·exact hb e'
  ·exact hbr (Ax.mp hmem)
 have e0:(items.size:Int)-1-((0:Nat):Int)=(items.size:Int)-1:=by omega
 have st0:∀ h:Heap,h.IsRevIter r l ((items.size:Int)-1)->h.IsList l items->(0<=items.size/\h.IsRevIter r l ((items.size:Int)-1-((0:Nat):Int))/\h.IsList l items):=fun h a b=>⟨FJ _,by rw[e0];exact a,b⟩
 unfold Builtin.List.listExtendWith
 refine AQ (wpAny_typeOf (T := "list_reverseiterator") hit.typeIs ?_)
 have h1:Builtin.List.listSameRef (.ref S) (.ref r)=false:=by simp[Builtin.List.listSameRef,hSr]
 rw[if_neg (by rw[h1];decide)]
 refine AQ (wpAny_pyIter_revIter hit ?_)
 refine AQ (wpAny_holding ?_)
 unfold Builtin.List.listLengthHint
 refine AQ (wpAny_specialOf hit.typeIs f99 ?_)
 show wpAny _ A.in1 (specialOf (Value.ref r) (Str.ofString "__length_hint__") >>= _) _ _ _
 refine AQ (wpAny_specialOf hit.typeIs h05 ?_)
 generalize hid:("list_reverseiterator.__length_hint__" : String)=id0
 (fail_if_success (clear hid id0))
 wp_delta
 rw[show splitId id0=some ("list_reverseiterator", "__length_hint__") from by subst hid;decide +kernel]
 subst hid
 refine AQ (wpAny_isInstance (b:=true) hit.typeIs (by rw[isSubtype_type];kernel_rfl) ?_)
 refine AX ?_
 rw[if_neg (by decide)]
 exact AX ⟨plainId_quiet PySem.F.plain_extend_loop _,key _ c₀ _ (st0 _ hit hl) (fun b o _ e=>e) hS⟩
theorem h49 {R:Result->Shared->Prop}(hh:A.handled=none)(hit:s.heap.IsRevIter r l ((items.size:Int)-1))(hl:s.heap.IsList l items)(hlr:l≠r)(hSr:S≠r)(hSl:S≠l)(hS:s.heap.get? S=some { cls:=.type "list", data:=.seq #[] })
 (hR:∀ h' tk acc' c',(∀ b o,b≠S->b≠r->s.heap.get? b=some o->h'.get? b=some o)->h'.get? S=some { cls:=.type "list", dict:=none,data:=.seq acc' c',slots:=#[] }->ItemsOf (fun i v=>items[items.size-1-i]?=some v) acc' items.size->R (.ok (.ret .none)) { s with heap:=h',toks:=tk })(hn:items.size<=sizeLine) :
 wpAny (model prog w) A.in1 (Builtin.«list.__init__» ⟨[.ref S,.ref r],[]⟩)
  (fun fin s'=>match fin with | .done f=>R (.ok f) s' | .again c'=>c'.quiet=true/\codeAny (model prog w) A c' R s') (fun e s'=>R (.error e) s') s:=by
 show wpAny _ _ (do let old ← Builtin.List.listItems (.ref S);Builtin.List.listUpdate (.ref S) (fun _=>#[]);letGo old.toList.reverse;Builtin.List.listExtendWith (.ref S) (.ref r) .none) _ _ s
 refine AQ ?_
 unfold Builtin.List.listItems
 refine AQ (wpAny_seqItems hS rfl (AX ?_))
 show wpAny _ _ (updateSeq S (fun _=>#[]) >>= fun _=>letGo (#[]:Array Value).toList.reverse >>= fun _=>Builtin.List.listExtendWith (.ref S) (.ref r) .none) _ _ s
 refine AQ (wpAny_updateSeq hS rfl ?_)
 have hS₂:=Heap.get?_update_self (Obj.mapSeq (fun _=>(#[]:Array Value))) hS rfl
 have oth:∀ b o,b≠S->s.heap.get? b=some o->(s.heap.update S (Obj.mapSeq (fun _=>(#[]:Array Value)))).get? b=some o :=
  fun b o hb e=>(DZ _ _ (Ne.symm hb)).trans e
 refine AQ (wpAny_letGo ?_)
 refine f41 hh (hit.at fun o e=>oth _ _ hSr.symm e) (hl.at fun o e=>oth _ _ hSl.symm e) hlr hSr hSl .none _ hS₂ (fun h' tk acc' c' hk hS' hacc=>?_) hn
 exact hR h' tk acc' c' (fun b o hb hbr e=>hk b o hb hbr (oth b o hb e)) hS' hacc
theorem h11 {Q:Value->Shared->Prop}(hh:A.handled=none)(hit:s.heap.IsRevIter r l ((items.size:Int)-1))(hl:s.heap.IsList l items)(hlr:l≠r)(hn:items.size<=sizeLine)
 (hQ:∀ h' tk acc' c',(∀ b o,b≠r->s.heap.get? b=some o->h'.get? b=some o)->h'.get? s.heap.objs.size=some { cls:=.type "list", dict:=none,data:=.seq acc' c',slots:=#[] }->acc'=items.reverse->Q (.ref s.heap.objs.size) { s with heap:=h',toks:=tk }) :
 wpAny (model prog w) A (call (.type "list") [.ref r]) Q E s:=by
 refine callType_codes (Q₁:=fun obj s₁=>obj=.ref s.heap.objs.size/\s₁={ s with heap:=s.heap.push { cls:=.type "list", data:=.seq #[] } }) PySem.F.called_list (PySem.F.typeCall_list_1 _) PySem.F.entry_list_init
  (code_list_new _ ⟨rfl,rfl⟩) fun obj s₁ h₁=>?_
 obtain⟨rfl,rfl⟩:=h₁
 have hS:(s.heap.push { cls:=.type "list", data:=.seq #[] }).get? s.heap.objs.size=some { cls:=.type "list", data:=.seq #[] }:=DJ _ rfl
 have lr:r < s.heap.objs.size:=by obtain⟨o,ho,_⟩:=hit;exact Ej ho
 have ll:l < s.heap.objs.size:=by obtain⟨o,ho,_⟩:=hl;exact Ej ho
 refine⟨⟨_,hS,rfl⟩,PySem.F.args_list_init_2 _ _,h49 (A:=A.in1) hh (hit.at fun o e=>Aq _ e) (hl.at fun o e=>Aq _ e) hlr (Nat.ne_of_gt lr) (Nat.ne_of_gt ll) hS (fun h' tk acc' c' hk hS' hacc=>?_) hn⟩
 refine⟨rfl,hQ h' tk acc' c' (fun b o hb e=>hk b o (Nat.ne_of_lt (Ej e)) hb (Aq _ e)) hS' ?_⟩
 refine Array.ext (by rw[hacc.1,Array.size_reverse]) fun j h1 h2=>?_
 have this:items[items.size-1-j]?=some acc'[j]:=hacc.2 j acc'[j] (Array.getElem?_eq_getElem h1)
 have hj:j < items.size:=by rw[← hacc.1];exact h1
 rw[Array.getElem?_eq_getElem (by omega)] at this
 rw[Array.getElem_reverse]
 exact(EJ this).symm
end
section
variable {X:Cx}
theorem f36 {e:Expr}{te:TE}{p p2 p3 pos:Pos}(hc:X.calm=true)(hg1:Gl X "list")(hm1:X.mg "list" = none)(hg2:Gl X "reversed")(hm2:X.mg "reversed" = none)(hv1:bootBuiltins "list" = some (.type "list"))(hv2:bootBuiltins "reversed" = some (.type "reversed"))(he:PE X e te)
 (hs1:starEach [.Call (.Name "reversed" p2) [e] [] p3] X.env=(false,eval (.Call (.Name "reversed" p2) [e] [] p3) X.env)::starEach [] X.env:=by rfl)
 (hs2:starEach [e] X.env=(false,eval e X.env)::starEach [] X.env:=by rfl)(hp1:(backTo pos (starEach [] X.env)).any (·.1)=false:=by rfl)(hp2:(backTo p3 (starEach [] X.env)).any (·.1)=false:=by rfl) :
 PE X (.Call (.Name "list" p) [.Call (.Name "reversed" p2) [e] [] p3] [] pos) (fun σ H Q=>te σ H fun v H1=>∃ l xs,v=.ref l/\SqL X.K H1 l xs/\∀ n,H1 n=none->Q (.ref n) (upd H1 n (.lst xs.reverse))):=by
 try constructor
 intro pins s σ H Q I h
 refine wpAny_Call_Name_kw (c64 I hg1 hm1 hv1 ?_ (by decide) (by decide))
 refine PyProof.Rows.callWith_type1 ?_ hs1 hp1
 rw[hs1]
 show wpAny _ _ (spliced ((false,eval (.Call (.Name "reversed" p2) [e] [] p3) X.env)::backTo pos (starEach [] X.env))) _ _ s
 refine Calls.spliced_cons ?_
 refine wpAny_Call_Name_kw (c64 I hg2 hm2 hv2 ?_ (by decide) (by decide))
 refine PyProof.Rows.callWith_type1 ?_ hs2 hp2
 rw[hs2]
 show wpAny _ _ (spliced ((false,eval e X.env)::backTo p3 (starEach [] X.env))) _ _ s
 refine Calls.spliced_cons (thn (he.run pins s σ H _ I h) fun u s1 ⟨v,H1,I1,r1,l,xs,ev,hl,q⟩=>Calls.spliced_nil ?_)
 subst ev
 cases (show u=Value.ref l from r1)
 obtain⟨its,r',pl,hz⟩:=I1.list hl
 have hlen:=r'.length
 refine call_reversed_list pl.isList ?_
 refine Calls.spliced_nil ?_
 have hli:s1.heap.IsList l its.toArray:=pl.isList
 have hlt:l < s1.heap.objs.size:=by obtain⟨o,ho,_⟩:=hli;exact Ej ho
 refine h11 (items:=its.toArray) (l:=l) (I1.ok.hd hc) ⟨_,DJ _ rfl,rfl,rfl⟩ (hli.at fun o e=>Aq _ e) (Nat.ne_of_lt hlt) (by simp only[List.size_toArray];omega) fun h' tk acc' c' kp hS ea=>?_
 have kp1:∀ b o,s1.heap.get? b=some o->h'.get? b=some o:=fun b o e=>kp b o (Nat.ne_of_lt (Ej e)) (Aq _ e)
 have hge:s1.heap.objs.size<=(s1.heap.push (revObj l ((its.toArray.size:Int)-1))).objs.size:=by rw[Heap.size_push];omega
 have rv:Vals xs.reverse its.reverse:=Vals.reverse r'
 have I2:Inv X pins σ (upd H1 (s1.heap.push (revObj l ((its.toArray.size:Int)-1))).objs.size (.lst xs.reverse)) { s1 with heap:=h',toks:=tk } :=
  I1.laid (t':=tk) kp1 hge (show ObjOk X.prog X.w _ _ _ (.lst xs.reverse) from⟨by rw[List.length_reverse];omega,its.reverse,c',rv,by rw[hS,ea];simp⟩)
 exact⟨.ref _,_,I2,rfl,q _ (I1.hok.fresh hge)⟩
end
def AEq (x y:V) (P:Prop):Prop:=(x=.non/\y=.non/\P)∨(∃ z z',x=.str z/\y=.str z'/\(P↔z=z'))∨(∃ i j,x=.int i/\y=.int j/\(P↔i=j))∨(x=.non/\(∃ z,y=.str z)/\¬ P)∨((∃ z,x=.str z)/\y=.non/\¬ P)∨(x=.non/\(∃ i,y=.int i)/\¬ P)∨((∃ i,x=.int i)/\y=.non/\¬ P)
def isT (H:Hp) (x:V):Prop:=∃ a xs,x=.ref a/\H a=some (.tup xs)
def TEq (H:Hp) (D:V->V->Prop->Prop) (x y:V) (P:Prop):Prop:=∃(a b:Addr) (xs ys:List V) (e:Nat->Prop),x=.ref a/\y=.ref b/\H a=some (.tup xs)/\H b=some (.tup ys) /\
 (∀(j:Nat) x' y',xs[j]?=some x'->ys[j]?=some y'->D x' y' (e j))/\(P↔(xs.length=ys.length/\∀ j,j < xs.length->e j))
def DEq (H:Hp):Nat->V->V->Prop->Prop
 | 0,x,y,P=>AEq x y P
 | n+1,x,y,P=>AEq x y P∨TEq H (DEq H n) x y P∨((x=.non∨∃ i,x=.int i)/\isT H y/\¬ P)∨(isT H x/\(y=.non∨∃ i,y=.int i)/\¬ P)
theorem AEq.self {x:V}{P:Prop}(h:AEq x x P):P:=by
 rcases h with⟨_,_,p⟩ | ⟨z,z',e,e',p⟩ | ⟨i,j,e,e',p⟩ | ⟨e,⟨z,e'⟩,_⟩ | ⟨⟨z,e⟩,e',_⟩ | ⟨e,⟨z,e'⟩,_⟩ | ⟨⟨z,e⟩,e',_⟩
 ·exact p
 ·rw[e] at e';injection e' with e';exact p.mpr e'
 ·rw[e] at e';injection e' with e';exact p.mpr e'
 all_goals (rw[e] at e';cases e')
theorem DEq.self {H:Hp}:∀ {n:Nat}{x:V}{P:Prop},DEq H n x x P->P
 | 0,_,_,h=>AEq.self h
 | n+1,x,P,h=>by
  rcases h with h | ⟨a,b,xs,ys,e,ea,eb,ha,hb,hd,hp⟩ | ⟨e,⟨a,xs,ea,_⟩,_⟩ | ⟨⟨a,xs,ea,_⟩,e,_⟩
  ·exact h.self
  ·rw[ea] at eb
   injection eb with eb
   subst eb
   rw[ha] at hb
   injection hb with hb
   injection hb with hb
   subst hb
   exact hp.mpr ⟨rfl,fun j hj=>DEq.self (hd j _ _ (Bz hj) (Bz hj))⟩
  ·rcases e with e | ⟨i,e⟩ <;> (rw[ea] at e;cases e)
  ·rcases e with e | ⟨i,e⟩ <;> (rw[ea] at e;cases e)
theorem f00 {xs:List V}{us:List Value}(h:Vals xs us){j:Nat}(hj:j < us.length):∃ x,xs[j]?=some x/\RelV x us[j]:=by
 induction h generalizing j with
 | nil=>cases hj
 | cons r t ih =>
  cases j with
  | zero=>exact⟨_,rfl,r⟩
  | succ j=>exact ih (by simpa using hj)
section
variable {X:Cx}
theorem f87 {A:Around}{s:Shared}{x y:V}{u u':Value}{P:Prop}(h:AEq x y P)(r:RelV x u)(r':RelV y u'):∃ b,(b=true↔P)/\SeqAt.EqAt A s u u' b:=by
 rcases h with⟨rfl,rfl,p⟩ | ⟨z,z',rfl,rfl,p⟩ | ⟨i,j,rfl,rfl,p⟩ | ⟨rfl,⟨z,rfl⟩,p⟩ | ⟨⟨z,rfl⟩,rfl,p⟩ | ⟨rfl,⟨z,rfl⟩,p⟩ | ⟨⟨z,rfl⟩,rfl,p⟩
 ·cases (show u=Value.none from r)
  cases (show u'=Value.none from r')
  exact⟨true,⟨fun _=>p,fun _=>rfl⟩,SeqAt.EqAt.same _⟩
 ·obtain⟨t,rfl⟩:=r
  obtain⟨t',rfl⟩:=r'
  exact⟨_,by rw[beq_iff_eq];exact p.symm,SeqAt.EqAt.str_str _ _ _ _⟩
 ·obtain⟨t,rfl⟩:=r
  obtain⟨t',rfl⟩:=r'
  exact⟨_,by rw[beq_iff_eq];exact p.symm,SeqAt.EqAt.int_int _ _ _ _⟩
 ·cases (show u=Value.none from r)
  obtain⟨t',rfl⟩:=r'
  exact⟨false,⟨(fun q=>nomatch q),fun q=>(p q).elim⟩,SeqAt.EqAt.none_str _ _⟩
 ·obtain⟨t,rfl⟩:=r
  cases (show u'=Value.none from r')
  exact⟨false,⟨(fun q=>nomatch q),fun q=>(p q).elim⟩,SeqAt.EqAt.str_none _ _⟩
 ·cases (show u=Value.none from r)
  obtain⟨t',rfl⟩:=r'
  exact⟨false,⟨(fun q=>nomatch q),fun q=>(p q).elim⟩,SeqAt.EqAt.none_int _ _⟩
 ·obtain⟨t,rfl⟩:=r
  cases (show u'=Value.none from r')
  exact⟨false,⟨(fun q=>nomatch q),fun q=>(p q).elim⟩,SeqAt.EqAt.int_none _ _⟩
theorem h92 {n m:Nat}{f:Nat->Bool}{e:Nat->Prop}(h:∀ j,j < min n m->(f j=true↔e j)):((List.range (min n m)).all f && n == m)=true↔(n=m/\∀ j,j < n->e j):=by
 rw[Bool.and_eq_true,List.all_eq_true,beq_iff_eq]
 constructor
 ·rintro⟨h1,rfl⟩
  exact⟨rfl,fun j hj=>(h j (by omega)).mp (h1 j (List.mem_range.mpr (by omega)))⟩
 ·rintro⟨rfl,h1⟩
  exact⟨fun j hj=>(h j (List.mem_range.mp hj)).mpr (h1 j (by have:=List.mem_range.mp hj;omega)),rfl⟩
open Classical in
theorem h79 {A:Around}{pins:List (Addr×Obj)}{σ:St}{H:Hp}{s:Shared}{D:V->V->Prop->Prop}{x y:V}{P:Prop}(hu:A.units < cLine)(I:Inv X pins σ H s)
 (hD:∀ {x y:V}{u u':Value}{P:Prop},D x y P->RelV x u->RelV y u'->∃ b,(b=true↔P)/\SeqAt.EqAt A.in1 s u u' b)
 {a b:Addr}(hx:x=.ref a)(hy:y=.ref b)(h:TEq H D x y P):∃ k,(k=true↔P)/\SeqAt.RcAt A s (.ref a) (.ref b) k:=by
 obtain⟨a',b',xs,ys,e,ea,eb,ha,hb,hd,hp⟩:=h
 subst hx hy
 injection ea with ea
 injection eb with eb
 subst ea eb
 obtain⟨its,r1,p1,_⟩:=I.tuple (SqT.of (K:=X.K) ha)
 obtain⟨its2,r2,p2,_⟩:=I.tuple (SqT.of (K:=X.K) hb)
 have l1:=r1.length
 have l2:=r2.length
 have ev:∀ j (h1:j < its.length)(h2:j < its2.length),SeqAt.EqAt A.in1 s its[j] its2[j] (decide (e j)):=fun j h1 h2=>by
  obtain⟨x',hx',rx⟩:=f00 r1 h1
  obtain⟨y',hy',ry⟩:=f00 r2 h2
  obtain⟨k,hk,q⟩:=hD (hd j x' y' hx' hy') rx ry
  have:k=decide (e j):=by
   rw[Bool.eq_iff_iff,hk,decide_eq_true_iff]
  rw[← this]
  exact q
 refine⟨_,?_,SeqAt.RcAt.tuples (A:=A) (s:=s) (e:=fun j=>decide (e j)) (show s.heap.IsTuple a its.toArray from p1) (show s.heap.IsTuple b its2.toArray from p2) hu (fun j h1 h2=>?_)⟩
 ·rw[List.size_toArray,List.size_toArray,← l1,← l2,hp]
  exact h92 fun j _=>by rw[decide_eq_true_iff]
 ·have:=ev j (by simpa using h1) (by simpa using h2)
  simpa using this
theorem h65 {pins:List (Addr×Obj)}{σ:St}{H:Hp}{s:Shared}(I:Inv X pins σ H s):∀ {n:Nat}{A:Around}{x y:V}{u u':Value}{P:Prop},A.units+n < cLine->DEq H n x y P->RelV x u->RelV y u'->∃ b,(b=true↔P)/\SeqAt.EqAt A s u u' b
 | 0,_,_,_,_,_,_,_,h,r,r'=>f87 h r r'
 | n+1,A,x,y,u,u',P,hu,h,r,r'=>by
  have hn:A.in1.units+n < cLine:=by show A.units+1+n < cLine;omega
  have h0:A.units < cLine:=by omega
  have no:¬ P->∀ {v v':Value},SeqAt.EqAt A s v v' false->∃ b,(b=true↔P)/\SeqAt.EqAt A s v v' b:=fun np {v v'} q=>⟨false,⟨(fun z=>nomatch z),fun z=>(np z).elim⟩,q⟩
  by_cases hs:x=y
  ·subst hs
   have p:=DEq.self h
   have:u=u'∨¬(∃ a,x=.ref a):=by
    by_cases q:∃ a,x=.ref a
    ·obtain⟨a,rfl⟩:=q
     cases (show u=Value.ref a from r)
     cases (show u'=Value.ref a from r')
     exact .inl rfl
    ·exact .inr q
   rcases this with rfl | q
   ·exact⟨true,⟨fun _=>p,fun _=>rfl⟩,SeqAt.EqAt.same _⟩
   ·rcases h with h | ⟨a,b,xs,ys,e,ea,_⟩ | ⟨_,⟨a,xs,ea,_⟩,_⟩ | ⟨⟨a,xs,ea,_⟩,_,_⟩
    ·exact f87 h r r'
    all_goals exact absurd ⟨_,ea⟩ q
  ·rcases h with h | h | ⟨e,⟨a,xs,ea,ha⟩,np⟩ | ⟨⟨a,xs,ea,ha⟩,e,np⟩
   ·exact f87 h r r'
   ·obtain⟨a,b,xs,ys,e,ea,eb,_⟩:=id h
    obtain⟨k,hk,q⟩:=h79 h0 I (fun d r r'=>h65 I hn d r r') ea eb h
    subst ea eb
    cases (show u=Value.ref a from r)
    cases (show u'=Value.ref b from r')
    exact⟨k,hk,SeqAt.EqAt.of_refs (fun z=>hs (by rw[z])) q⟩
   ·subst ea
    cases (show u'=Value.ref a from r')
    obtain⟨its,r1,p1,_⟩:=I.tuple (SqT.of (K:=X.K) ha)
    rcases e with rfl | ⟨i,rfl⟩
    ·cases (show u=Value.none from r)
     exact no np (SeqAt.EqAt.none_tuple p1 h0)
    ·obtain⟨t,rfl⟩:=r
     exact no np (SeqAt.EqAt.int_tuple _ _ p1 h0)
   ·subst ea
    cases (show u=Value.ref a from r)
    obtain⟨its,r1,p1,_⟩:=I.tuple (SqT.of (K:=X.K) ha)
    rcases e with rfl | ⟨i,rfl⟩
    ·cases (show u'=Value.none from r')
     exact no np (SeqAt.EqAt.tuple_none p1 h0)
    ·obtain⟨t,rfl⟩:=r'
     exact no np (SeqAt.EqAt.tuple_int _ _ p1 h0)
theorem i84 {n:Nat}(hu:X.A.units+(n+1) < cLine):OpR X (compareOp .Eq) (fun x y H Q=>∃ P,TEq H (DEq H n) x y P/\∀ b,(b=true↔P)->Q (.bl b) H):=by
 intro pins s σ H x y v u Q I rx ry h
 obtain⟨P,h,q⟩:=h
 obtain⟨a,b,xs,ys,e,ea,eb,_⟩:=id h
 obtain⟨k,hk,qq⟩:=h79 (A:=X.A) (by omega) I (fun d r r'=>h65 I (by show X.A.units+1+n < cLine;omega) d r r') ea eb h
 subst ea eb
 cases (show v=Value.ref a from rx)
 cases (show u=Value.ref b from ry)
 refine qq X.prog X.w X.xe _ ?_
 exact⟨.bl k,H,I,rfl,q k hk⟩
end
section
variable {X:Cx}{elt iter:Expr}{x:Str}{px pos:Pos}{scope:Scope}{wi:TI}{te:TE}
theorem g93 {osc:Scope}{oN ops:List Str}{ifs:List Expr}{tt:TT}(SC:FnScope oN ops osc)(S:b58 osc oN scope x)(hx:x∉oN)
 (hi:PI X (.Name x px) iter wi)(ht:∀ C fp s H,PTs (a44 X scope (X.N++[x]) C fp s H) ifs tt)
 (he:∀ C fp s H,PE (a44 X scope (X.N++[x]) C fp s H) elt te)(hc:X.calm=true:=by rfl)(e1:X.env.scope=osc:=by rfl)(e2:X.N=oN:=by rfl)(hs:∀ v,foldedSetIterable iter X.env v=pure v:=by intro _;rfl) :
 PE X (.ListComp elt [⟨.Name x px,iter,ifs,0⟩] scope pos) (e07 wi (fun σ=>σ++[none]) (d40 X.N.length) tt te):=by
 have hx':x∉X.N:=by rw[e2];exact hx
 have hnd:X.N.Nodup:=by rw[e2];exact SC.nd
 have hN:(X.N++[x]).Nodup:=by
  rw[List.nodup_append]
  refine⟨hnd,by simp,fun a ha b hb=>?_⟩
  simp at hb
  subst hb
  exact fun e=>hx' (e ▸ ha)
 refine e94 (up:=fun σ=>σ++[none]) (by rw[e1,e2];exact S) hc (g43 hx') hi (fun C fp s H=>?_) ?_ ht he hs
 ·exact a91 hN (by show(X.N++[x])[X.N.length]?=_;simp) (.inl (lookup_relabel_local S.loc)) (.inr (lookup_relabel_local S.loc))
 ·rintro v σ H Q hl q
  refine⟨⟨by rw[List.length_set],fun j u hj=>?_⟩,q⟩
  have hlt:j < X.N.length:=by
   rw[← hl]
   by_cases hi:j < σ.length
   ·exact hi
   ·rw[List.getElem?_append_right (by omega)] at hj
    generalize j-σ.length=i at hj
    match i,hj with
    | 0,h2=>cases h2
    | i+1,h2=>cases h2
  show((σ++[none]).set X.N.length (some v))[j]?=_
  rw[List.getElem?_set_ne (by omega)]
  exact hj
end
theorem g81 {K:PySem.W.Frag}{a:Addr}{xs:List V}{et:V->Hp->(List V->Hp->Prop)->List V->Prop}{H:Hp}{fin:Addr->List V->Hp->Prop} (Pv:Nat->List V->Hp->Prop)(hn:xs.length<=sizeLine)(h0:Pv 0 [] H)(hl:∀ i ys H,Pv i ys H->ys.length<=i)
 (hq:∀ i ys H,i<=xs.length->Pv i ys H->SqT K H a xs)
 (hs:∀(i:Nat) ys H v,xs[i]?=some v->Pv i ys H->et v H (fun zs H3=>Pv (i+1) zs H3) ys)(hd:∀ ys H,Pv xs.length ys H->∀ D,H D=none->fin D ys H) :
 ∃ W:Nat->Nat->List V->Hp->Prop,(∃ m,W 0 m [] H)/\∀ i m ys H,W i m ys H ->
  ((Itt K a).stop i H/\∀ D,H D=none->fin D ys H) ∨
  ((Itt K a).go i H/\ys.length < sizeLine/\∃ Nx:List V->Hp->Prop,(∀ zs H3,Nx zs H3->∃ m',m' < m/\W (i+1) m' zs H3)/\∀ x H',(Itt K a).yld i H x H'->et x H' Nx ys):=by
 refine⟨fun i m ys H=>m=xs.length-i/\i<=xs.length/\Pv i ys H,⟨xs.length,by simp,FJ _,h0⟩,?_⟩
 rintro i m ys H ⟨rfl,hi,p⟩
 have q:=hq i ys H hi p
 by_cases hlt:i < xs.length
 ·refine .inr ⟨⟨xs,xs[i],q,by simp[hlt]⟩,by have:=hl i ys H p;omega,_,fun y H3 q=>⟨xs.length-(i+1),by omega,rfl,hlt,q⟩,fun x H' yl=>?_⟩
  obtain⟨e,yl⟩:=yl
  subst e
  exact hs i ys _ x (yl xs q) p
 ·have e:i=xs.length:=by omega
  subst e
  exact .inl ⟨⟨xs,q,AZ _⟩,hd ys H p⟩
end L2
namespace K25
open PySem L2
def top (i:Nat):Stmt:=PySem.Challenge.pw_overfold_k25_whole_written_and_read.main.body.getD i (.Pass ⟨0,0,0,0⟩)
abbrev c56:Stmt:=top 7
abbrev b36:Stmt:=top 8
abbrev c57:Stmt:=top 9
abbrev b28:Stmt:=top 10
abbrev b29:Stmt:=top 11
abbrev c49:Stmt:=top 16
abbrev c51:Stmt:=top 17
abbrev b33:Stmt:=top 18
abbrev b12:Stmt:=top 22
abbrev b08:Stmt:=top 23
abbrev b27:Stmt:=top 24
abbrev b13:Stmt:=top 25
abbrev b75:Stmt:=top 27
abbrev b32:Stmt:=top 28
abbrev c36:Stmt:=top 29
abbrev c50:Stmt:=top 30
abbrev c47:Stmt:=top 31
abbrev i61:Stmt:=top 33
abbrev f33:Stmt:=top 34
abbrev f54:Stmt:=top 35
abbrev f60:Stmt:=top 36
abbrev b79:Stmt:=top 37
abbrev b71:Stmt:=top 38
abbrev f53:Stmt:=top 39
abbrev f52:Stmt:=top 40
abbrev d15:Stmt:=top 41
abbrev c59:Stmt:=top 42
abbrev h19:Stmt:=top 43
abbrev d24:Stmt:=c44 (top 26) 0
abbrev b72:Stmt:=c44 (top 26) 1
abbrev b10:Stmt:=c44 (top 26) 2
abbrev b35:Stmt:=c44 (top 26) 3
abbrev b76:Stmt:=c44 (top 26) 4
abbrev b09:Stmt:=c44 (top 26) 5
theorem joinT {α β:Type}{G A:α->β->Prop}{goal:Prop}(use:(∀ a b,A a b->G a b)->goal)(rest:∀ a b,A a b->G a b):goal:=use rest
def Kp (S:List Addr)(H H':Hp):Prop:=∀ a o,H a=some o->a∉S->H' a=some o
section
variable {S T:List Addr}{H H1 H2:Hp}
theorem Kp.refl (S:List Addr)(H:Hp):Kp S H H:=fun _ _ h _=>h
theorem Kp.trans (h:Kp S H H1)(h':Kp S H1 H2):Kp S H H2:=fun a o e n=>h' a o (h a o e n) n
theorem Kp.mono (h:Kp S H H1)(hs:∀ a∈S,a∈T):Kp T H H1:=fun a o e n=>h a o e fun q=>n (hs a q)
theorem Kp.of (h:Same H H1):Kp S H H1:=fun a o e _=>h a o e
theorem Kp.same (h:Kp [] H H1):Same H H1:=fun a o e=>h a o e (fun q=>nomatch q)
theorem Kp.new {a:Addr}{o:HO}(h:Kp S H H1)(e:H1 a=none):Kp S H (upd H1 a o):=fun b u q n=>by
 rw[a06 (a01 (h b u q n) e)]
 exact h b u q n
theorem Kp.set {a:Addr}{o:HO}(h:Kp S H H1)(e:a∈S):Kp S H (upd H1 a o):=fun b u q n=>by
 rw[a06 (fun z=>n (by rw[z];exact e))]
 exact h b u q n
theorem Kp.free (h:Kp S H H1){l:Addr}(n:l∉S)(e:H1 l=none):H l=none:=by
 cases q:H l with
 | none=>rfl
 | some o=>rw[h l o q n] at e;cases e
theorem Kp.seq {K:PySem.W.Frag}{a:Addr}{xs:List V}(h:Kp S H H1)(n:a∉S)(q:SqL K H a xs):SqL K H1 a xs:=by
 rcases q with(q | ⟨o,q⟩) | q
 ·exact .inl (.inl (h a _ q n))
 ·exact .inl (.inr ⟨o,h a _ q n⟩)
 ·exact .inr q
def Tk (H H':Hp):Prop:=∀ a xs,H a=some (.tup xs)->H' a=some (.tup xs)
theorem Tk.refl (H:Hp):Tk H H:=fun _ _ h=>h
theorem Tk.trans (h:Tk H H1)(h':Tk H1 H2):Tk H H2:=fun a xs e=>h' a xs (h a xs e)
theorem Tk.of (h:Same H H1):Tk H H1:=fun a xs e=>h a _ e
theorem Kp.tk (h:Kp S H H1)(hs:∀ a∈S,∀ xs,H a≠some (.tup xs)):Tk H H1:=fun a xs e=>h a _ e fun q=>hs a q xs e
end
structure Bx where
 d:Int
 x:Int
 c:Int
def c58 (b:Bx):List V:=[.int b.d,.int b.x,.int b.c]
structure Good (b:Bx) (n:Nat):Prop where
 d0:0<=b.d
 x0:0<=b.x
 x1:b.x < 2147483648
 c0:0<=b.c
 c1:b.c<=n
theorem Good.mono {b:Bx}{n m:Nat}(h:Good b n)(q:n<=m):Good b m:=⟨h.d0,h.x0,h.x1,h.c0,by have:=h.c1;omega⟩
def e11 (ns:List Int) (k:Nat):Bx :=
 ⟨if 10 ^ 18<=(if (ns[k]?).getD 0 < 0 then -(ns[k]?).getD 0 else(ns[k]?).getD 0) then(if (ns[k]?).getD 0 < 0 then -(ns[k]?).getD 0 else(ns[k]?).getD 0) else 0,((ns[k]?).getD 0 % 2147483647+7919 * k+11) * 48271 % 2147483629,0⟩
theorem b31 (ns:List Int) (k:Nat):Good (e11 ns k) 0:=by
 refine⟨?_,EZ _ (by decide),?_,Int.le_refl _,Int.le_refl _⟩
 ·have h0:(0:Int)<=10 ^ 18:=by decide
  show 0<=(if 10 ^ 18<=(if (ns[k]?).getD 0 < 0 then -(ns[k]?).getD 0 else(ns[k]?).getD 0) then(if (ns[k]?).getD 0 < 0 then -(ns[k]?).getD 0 else(ns[k]?).getD 0) else 0)
  generalize (if (ns[k]?).getD 0 < 0 then -(ns[k]?).getD 0 else(ns[k]?).getD 0)=z
  split
  ·omega
  ·exact Int.le_refl _
 ·have:=Fj (((ns[k]?).getD 0 % 2147483647+7919 * k+11) * 48271) (show(0:Int) < 2147483629 by decide)
  show(((ns[k]?).getD 0 % 2147483647+7919 * k+11) * 48271 % 2147483629) < _
  omega
theorem e64 {ns:List Int}{k:Nat}{c:Int}(hc:(ns[k]?).getD 0=c):e11 ns k=⟨if 10 ^ 18<=(if c < 0 then -c else c) then(if c < 0 then -c else c) else 0,(c % 2147483647+7919 * k+11) * 48271 % 2147483629,0⟩:=by
 unfold e11
 rw[hc]
def h15 (b:Bx):Int:=(b.x+39373 * (b.c+1)) * (48271+(b.c+1)) % 2147483647
def d12 (b:Bx):Int:=(h15 b * (h15 b % 40009+7)+(b.c+1)) % 2147483629
def a05 (b:Bx) (m:Int):Int×Bx :=
 if 0 < b.d then(b.d % m,⟨b.d / m,b.x,b.c⟩) else(d12 b * (d12 b % 1009+3) % 998244353 / 7 % m,⟨b.d,d12 b,b.c+1⟩)
theorem a41 (b:Bx){m:Int}(h:0 < m):0<=(a05 b m).1:=by
 unfold a05
 split
 ·exact EZ _ (by omega)
 ·exact EZ _ (by omega)
theorem a40 (b:Bx){m:Int}(h:0 < m):(a05 b m).1 < m:=by
 unfold a05
 split
 ·exact Fj _ h
 ·exact Fj _ h
theorem a28 {b:Bx}{n:Nat}(g:Good b n){m:Int}(h:0 < m):Good (a05 b m).2 (n+1):=by
 have:=g.c1
 have:=g.c0
 unfold a05
 split
 ·exact⟨Int.ediv_nonneg g.d0 (by omega),g.x0,g.x1,g.c0,by show b.c<=_;omega⟩
 ·refine⟨g.d0,EZ _ (by decide),?_,by show 0<=b.c+1;omega,by show b.c+1<=_;omega⟩
  have:=Fj (h15 b * (h15 b % 40009+7)+(b.c+1)) (show(0:Int) < 2147483629 by decide)
  show d12 b < _
  unfold d12
  omega
def i27 (K:PySem.W.Frag):Sp:=fun vs H Q _=>∃(a:Addr) (ns:List Int) (k:Nat),vs=[.ref a,.int k]/\SqL K H a (ns.map V.int)/\k<=100/\ns.length<=63 /\
 ∀(t:Addr)(H':Hp),H t=none->H' t=some (.lst (c58 (e11 ns k)))->Same H H'->Q (.ref t) H'
def g15:Sp:=fun vs H Q _=>∃(b:Addr)(st:Bx) (n:Nat) (m:Int),vs=[.ref b,.int m]/\0 < m/\m < 1073741824/\H b=some (.lst (c58 st))/\Good st n/\n<=1000000 /\
 ∀ H',H' b=some (.lst (c58 (a05 st m).2))->Kp [b] H H'->Q (.int (a05 st m).1) H'
section
variable {P:Program}{w:World}{K:PySem.W.Frag}{mg:Str->Option Value}{base:Heap}
theorem scBox:FnScope ["_law_script", "_law_k", "_law_cell", "_law_digits"] ["_law_script", "_law_k"] (a09 i61):=⟨rfl,rfl,rfl,by decide +kernel,rfl,by decide +kernel,by decide +kernel⟩
theorem j01 {f:Addr}{fd:FuncData}(F:Fun K "_law_box" "_law_box" i61 f fd)(mLen:mg "len" = none)(mAbs:mg "abs" = none):FnOk P w K mg base CX0 1 f fd ["_law_script", "_law_k"] (i27 K):=by
 refine F.ok scBox (fun vs H Q E h=>?_) (fun cdv A outer s H vs Q E hr h=>?_)
 ·obtain⟨a,ns,k,rfl,_⟩:=h
  rfl
 ·obtain⟨a,ns,k,rfl,hS,hk,hlen,kk⟩:=h
  have nd:=scBox.nd
  refine⟨_,a03 (a39 (i:=2) nd rfl (Or.inl rfl) a07)
   (a03 (a47 (a32 e60 (pv 1) (a29 a30 (by rfl) mLen PySem.boot_len (a00 (pv 0) a04)) (a38 _)) (a08 (a39 (i:=2) nd rfl (Or.inl rfl) (a50 a53 (pv 0) (pv 1) (fun _ _=>rfl)))) a31)
   (a03 (a39 (i:=3) nd rfl (Or.inl rfl) a07)
   (a03 (a47 (a32 i63 (a29 f29 (by rfl) mAbs PyProof.Rows.boot_abs (a00 (pv 2) a04)) (a54 j16 a07 a07) (a38 _)) (a08 (a39 (i:=3) nd rfl (Or.inl rfl) (a29 f29 (by rfl) mAbs PyProof.Rows.boot_abs (a00 (pv 2) a04)))) a31)
   (a08 (a37 (a99 (a00 (pv 3) (a00 (a54 b59 (a54 c63 (a54 b02 (a54 b02 (a54 b59 (pv 2) a07) (a54 c63 a07 (pv 1))) a07) a07) a07) (a00 a07 a04)))))))))  , ?_⟩
  refine⟨_,rfl,_,rfl,a,_,rfl,.inl hS,_,_,rfl,rfl,_,rfl,?_⟩
  refine a71 (fun h1=>?_) (fun h1=>?_)
  ·have h1':(k:Int) < ((ns.map V.int).length:Nat):=AJ h1
   rw[Aj] at h1'
   have hlt:k < ns.length:=by omega
   have hat:atI (ns.map V.int) (k:Int)=some (V.int ns[k]):=by
    unfold atI ixN
    rw[if_pos (by omega),if_pos (by rw[Aj];omega)]
    show(ns.map V.int)[((k:Int)).toNat]?=_
    rw[Dq,CQ,Bz hlt]
    rfl
   have hc:(ns[k]?).getD 0=ns[k]:=by rw[Bz hlt];rfl
   refine⟨_,rfl,_,rfl,a,_,_,_,rfl,rfl,hS,hat,?_⟩
   refine⟨_,rfl,ns[k],rfl,_,_,rfl,rfl,⟨by decide,by decide,by decide⟩,_,_,rfl,rfl,_,rfl,?_⟩
   refine a71 (fun h2=>?_) (fun h2=>?_)
   ·refine⟨_,rfl,ns[k],rfl,?_⟩
    refine⟨_,rfl,_,rfl,_,_,rfl,rfl,(show(0:Int) < 2147483647 by decide),_,rfl,_,_,rfl,rfl,.inl ⟨by decide,by decide⟩,_,_,rfl,rfl,_,_,rfl,rfl,_,_,rfl,rfl,.inr ⟨by decide,by decide⟩,_,_,rfl,rfl,(show(0:Int) < 2147483629 by decide),by show 3<=sizeLine;decide,fun t ht=>?_⟩
    refine kk t _ ht ?_ ((Same.refl H).upd ht)
    rw[a02,e64 hc,if_pos (show(10:Int) ^ 18<=_ from AJ h2)]
    rfl
   ·refine⟨_,rfl,_,rfl,_,_,rfl,rfl,(show(0:Int) < 2147483647 by decide),_,rfl,_,_,rfl,rfl,.inl ⟨by decide,by decide⟩,_,_,rfl,rfl,_,_,rfl,rfl,_,_,rfl,rfl,.inr ⟨by decide,by decide⟩,_,_,rfl,rfl,(show(0:Int) < 2147483629 by decide),by show 3<=sizeLine;decide,fun t ht=>?_⟩
    refine kk t _ ht ?_ ((Same.refl H).upd ht)
    rw[a02,e64 hc,if_neg (show ¬(10:Int) ^ 18<=_ from fun q=>h2 (Az q))]
    rfl
  ·have h1':¬(k:Int) < ((ns.map V.int).length:Nat):=fun q=>h1 (Az q)
   rw[Aj] at h1'
   have hc:(ns[k]?).getD 0=0:=by rw[List.getElem?_eq_none (by omega)];rfl
   refine⟨_,rfl,0,rfl,_,_,rfl,rfl,⟨by decide,by decide,by decide⟩,_,_,rfl,rfl,_,rfl,?_⟩
   refine a71 (fun h2=>?_) (fun h2=>?_)
   ·refine⟨_,rfl,0,rfl,?_⟩
    refine⟨_,rfl,_,rfl,_,_,rfl,rfl,(show(0:Int) < 2147483647 by decide),_,rfl,_,_,rfl,rfl,.inl ⟨by decide,by decide⟩,_,_,rfl,rfl,_,_,rfl,rfl,_,_,rfl,rfl,.inr ⟨by decide,by decide⟩,_,_,rfl,rfl,(show(0:Int) < 2147483629 by decide),by show 3<=sizeLine;decide,fun t ht=>?_⟩
    refine kk t _ ht ?_ ((Same.refl H).upd ht)
    rw[a02,e64 hc,if_pos (show(10:Int) ^ 18<=_ from AJ h2)]
    rfl
   ·refine⟨_,rfl,_,rfl,_,_,rfl,rfl,(show(0:Int) < 2147483647 by decide),_,rfl,_,_,rfl,rfl,.inl ⟨by decide,by decide⟩,_,_,rfl,rfl,_,_,rfl,rfl,_,_,rfl,rfl,.inr ⟨by decide,by decide⟩,_,_,rfl,rfl,(show(0:Int) < 2147483629 by decide),by show 3<=sizeLine;decide,fun t ht=>?_⟩
    refine kk t _ ht ?_ ((Same.refl H).upd ht)
    rw[a02,e64 hc,if_neg (show ¬(10:Int) ^ 18<=_ from fun q=>h2 (Az q))]
    rfl
theorem scTake:FnScope ["_law_box_here", "_law_many", "_law_found", "_law_once"] ["_law_box_here", "_law_many"] (a09 f33):=⟨rfl,rfl,rfl,by decide +kernel,rfl,by decide +kernel,by decide +kernel⟩
theorem i45 {f:Addr}{fd:FuncData}(F:Fun K "_law_take" "_law_take" f33 f fd):FnOk P w K mg base CX0 1 f fd ["_law_box_here", "_law_many"] g15:=by
 refine F.ok scTake (fun vs H Q E h=>?_) (fun cdv A outer s H vs Q E hr h=>?_)
 ·obtain⟨b,st,n,m,rfl,_⟩:=h
  rfl
 ·obtain⟨b,st,n,m,rfl,hm0,hm1,hb,g,hn,kk⟩:=h
  have nd:=scTake.nd
  refine⟨_,a03 (a47 (a32 d84 (a50 a53 (pv 0) a07 (fun _ _=>rfl)) a07 (a38 _))
   (a03 (a39 (i:=2) nd rfl (Or.inl rfl) (a54 b59 (a50 a53 (pv 0) a07 (fun _ _=>rfl)) (pv 1)))
   (a03 (g60 (a54 d69 (a50 a53 (pv 0) a07 (fun _ _=>rfl)) (pv 1)) (g14 (pv 0) a07 d34))
   (a08 (a37 (pv 2))))) a31)
   (a03 (g60 (a54 b02 (a50 a53 (pv 0) a07 (fun _ _=>rfl)) a07) (g14 (pv 0) a07 d34))
   (a03 (a39 (i:=3) nd rfl (Or.inl rfl) (a54 b59 (a54 c63 (a54 b02 (a50 a53 (pv 0) a07 (fun _ _=>rfl)) (a54 c63 a07 (a50 a53 (pv 0) a07 (fun _ _=>rfl)))) (a54 b02 a07 (a50 a53 (pv 0) a07 (fun _ _=>rfl)))) a07))
   (a03 (g60 (a54 b59 (a54 b02 (a54 c63 (pv 3) (a54 b02 (a54 b59 (pv 3) a07) a07)) (a50 a53 (pv 0) a07 (fun _ _=>rfl))) a07) (g14 (pv 0) a07 d34))
   (a08 (a37 (a54 b59 (a54 d69 (a54 b59 (a54 c63 (a50 a53 (pv 0) a07 (fun _ _=>rfl)) (a54 b02 (a54 b59 (a50 a53 (pv 0) a07 (fun _ _=>rfl)) a07) a07)) a07) a07) (pv 1))))))),?_⟩
  have hmn:m≠0:=by omega
  refine⟨_,rfl,b,_,_,_,rfl,rfl,SqL.of hb,rfl,_,_,rfl,rfl,_,rfl,?_⟩
  refine a71 (fun h1=>?_) (fun h1=>?_)
  ·have h1':0 < st.d:=AJ h1
   have et:a05 st m=(st.d % m,⟨st.d / m,st.x,st.c⟩):=by
    unfold a05
    rw[if_pos h1']
   rw[et] at kk
   refine⟨_,rfl,b,_,_,_,rfl,rfl,SqL.of hb,rfl,_,rfl,_,_,rfl,rfl,hm0,?_⟩
   refine⟨_,rfl,b,_,_,_,rfl,rfl,SqL.of hb,rfl,_,rfl,_,_,rfl,rfl,⟨hm0,hm1⟩,_,rfl,b,_,_,_,rfl,rfl,hb,rfl,?_⟩
   refine⟨_,rfl,?_⟩
   exact kk _ a02 ((Kp.refl _ H).set (Ax.mpr rfl))
  ·have h1':¬ 0 < st.d:=fun q=>h1 (Az q)
   have et:a05 st m=(d12 st * (d12 st % 1009+3) % 998244353 / 7 % m,⟨st.d,d12 st,st.c+1⟩):=by
    unfold a05
    rw[if_neg h1']
   rw[et] at kk
   have hc0:=g.c0
   have hc1:=g.c1
   have mo:∀ z:Int,-(2 ^ 64) < z % 2147483647/\z % 2147483647 < 2 ^ 64:=fun z=>e03 z (by decide) (by decide)
   refine⟨_,rfl,b,_,_,_,rfl,rfl,SqL.of hb,rfl,_,_,rfl,rfl,_,rfl,b,_,_,_,rfl,rfl,hb,rfl,?_⟩
   have hb1:(upd H b (.lst [.int st.d,.int st.x,.int (st.c+1)])) b=some (.lst [.int st.d,.int st.x,.int (st.c+1)]):=a02
   refine⟨_,rfl,b,_,_,_,rfl,rfl,SqL.of hb1,rfl,_,rfl,b,_,_,_,rfl,rfl,SqL.of hb1,rfl,_,_,rfl,rfl,.inl ⟨by decide,by decide⟩,_,_,rfl,rfl,_,rfl,b,_,_,_,rfl,rfl,SqL.of hb1,rfl,_,_,rfl,rfl,_,_,rfl,rfl,.inr ⟨by show -(2 ^ 64) < 48271+(st.c+1);omega,by show 48271+(st.c+1) < 2 ^ 64;omega⟩,_,_,rfl,rfl,(show(0:Int) < 2147483647 by decide),?_⟩
   refine⟨_,rfl,_,rfl,_,_,rfl,rfl,(show(0:Int) < 40009 by decide),_,_,rfl,rfl,_,_,rfl,rfl,.inl (mo _),_,rfl,b,_,_,_,rfl,rfl,SqL.of hb1,rfl,_,_,rfl,rfl,_,_,rfl,rfl,(show(0:Int) < 2147483629 by decide),_,rfl,b,_,_,_,rfl,rfl,hb1,rfl,?_⟩
   rw[h91]
   have hb2:(upd H b (.lst [.int st.d,.int (d12 st),.int (st.c+1)])) b=some (.lst [.int st.d,.int (d12 st),.int (st.c+1)]):=a02
   have bo:∀ z:Int,-(2 ^ 64) < z % 2147483629/\z % 2147483629 < 2 ^ 64:=fun z=>e03 z (by decide) (by decide)
   refine⟨_,rfl,b,_,_,_,rfl,rfl,SqL.of hb2,rfl,_,rfl,b,_,_,_,rfl,rfl,SqL.of hb2,rfl,_,_,rfl,rfl,(show(0:Int) < 1009 by decide),_,_,rfl,rfl,_,_,rfl,rfl,.inl (bo _),_,_,rfl,rfl,(show(0:Int) < 998244353 by decide),_,_,rfl,rfl,⟨by decide,by decide⟩,_,rfl,_,_,rfl,rfl,hm0,?_⟩
   exact kk _ a02 ((Kp.refl _ H).set (Ax.mpr rfl))
end
theorem e05 (sep:Str)(hs:sep.cps=#[]):∀(rest:List Str)(acc:Array Nat),(rest.foldl (fun acc p=>acc++sep.cps++p.cps) acc).toList=acc.toList++(rest.map fun t=>t.cps.toList).flatten
 | [],acc=>by simp
 | p::r,acc=>by
  rw[List.foldl_cons,e05 sep hs r,hs]
  simp
theorem c06 (ts:List Str):(Txt.join ("" : Str) ts).cps.toList=(ts.map fun t=>t.cps.toList).flatten:=by
 have e0:("" : Str).cps=#[]:=by decide +kernel
 cases ts with
 | nil=>first | rfl | decide +kernel
 | cons p r =>
  show(Builtin.Str.glued ("" : Str) (p::r)).cps.toList=_
  have:=e05 ("" : Str) e0 r p.cps
  rw[CJ,List.flatten_cons,← this]
  first | rfl | simp[Builtin.Str.glued]
def someW:List Str:=["a", "aa", "ab", "b", "ba", "box", "c", "folder", "m", "mm", "quartzes", "z", "zebra", "n"]
def LTS:Str := "abcdefghijklmnopqrstuvwxyz"
def SGN:Str := " !\"#$&'()*+,-./0123456789:;<=>?@ABCDEFGHIJKLMNOPQRSTUVWXYZ[\\]^_`abcdefghijklmnopqrstuvwxyz{|}~"
theorem h57:LTS.cps.size=26:=by decide +kernel
theorem e72:SGN.cps.size=94:=by decide +kernel
theorem d45:("" : Str).cps.size=0:=by decide +kernel
def sgn (z:Str) (i:Int):Str:=⟨#[z.cps.toList.getD i.toNat 0]⟩
theorem g09 {z:Str}{i:Int}(h0:0<=i)(h1:i < (z.cps.size:Int)):∃ c,atI z.cps.toList i=some c/\sgn z i=⟨#[c]⟩:=by
 have hl:i.toNat < z.cps.toList.length:=by rw[Cq];omega
 refine⟨z.cps.toList[i.toNat],?_,?_⟩
 ·unfold atI ixN
  rw[if_pos h0,if_pos (by rw[Cq];exact h1)]
  show z.cps.toList[i.toNat]?=_
  rw[Bz hl]
 ·unfold sgn
  rw[List.getD_eq_getElem?_getD,Bz hl]
  rfl
theorem f84 {α:Type}(f:α->V){xs:List α}{i:Int}(d:α)(h0:0<=i)(h1:i < (xs.length:Int)):atI (xs.map f) i=some (f (xs.getD i.toNat d)):=by
 have hl:i.toNat < xs.length:=by omega
 unfold atI ixN
 rw[if_pos h0,if_pos (by rw[Aj];exact h1)]
 show(xs.map f)[i.toNat]?=_
 rw[CQ,List.getD_eq_getElem?_getD,Bz hl]
 rfl
def a56 (b:Bx):Nat->List Str×Bx
 | 0=>([],b)
 | n+1=>((a56 b n).1++[sgn LTS (a05 (a56 b n).2 26).1],(a05 (a56 b n).2 26).2)
theorem b50 {b:Bx}{m:Nat}(g:Good b m):∀ n,Good (a56 b n).2 (m+n)
 | 0=>g
 | n+1=>a28 (b50 g n) (by decide)
theorem a95 (b:Bx):∀ n,(a56 b n).1.length=n
 | 0=>rfl
 | n+1=>by
  show((a56 b n).1++[_]).length=_
  rw[Bj,a95 b n]
  rfl
theorem b41:∀ {l:List Str},(∀ z∈l,z.length=1)->(l.map (·.length)).sum=l.length
 | [],_=>rfl
 | z::l,h=>by
  rw[CJ,List.sum_cons,h z BZ,b41 fun y hy=>h y (BX _ hy),Cz]
  omega
theorem b24 (b:Bx):∀ n,∀ z∈(a56 b n).1,z.length=1
 | 0=>fun _ h=>nomatch h
 | n+1=>fun z h=>by
  rcases Bq.mp h with q | q
  ·exact b24 b n z q
  ·rw[Ax.mp q]
   rfl
def b25 (b:Bx):Str×Bx :=
 if (a05 b 4).1=0 then
  (Txt.join "" (a56 (a05 (a05 b 4).2 8).2 (1+(a05 (a05 b 4).2 8).1).toNat).1,(a56 (a05 (a05 b 4).2 8).2 (1+(a05 (a05 b 4).2 8).1).toNat).2)
 else(someW.getD (a05 (a05 b 4).2 14).1.toNat "", (a05 (a05 b 4).2 14).2)
theorem b77 {b:Bx}{n:Nat}(g:Good b n):Good (b25 b).2 (n+10):=by
 have h1:=a28 g (m:=4) (by decide)
 unfold b25
 split
 ·have h2:=a28 h1 (m:=8) (by decide)
  have l2:=a41 (a05 b 4).2 (m:=8) (by decide)
  have u2:=a40 (a05 b 4).2 (m:=8) (by decide)
  exact(b50 h2 _).mono (by omega)
 ·exact(a28 h1 (by decide)).mono (by omega)
theorem c71 (l:List Str):(Txt.join "" l).length=(l.map (·.length)).sum:=by
 have h:=c06 l
 have e:(Txt.join "" l).length=(Txt.join "" l).cps.toList.length:=by rw[Cq];rfl
 rw[e,h,List.length_flatten,List.map_map]
 rfl
theorem c33 (b:Bx):(b25 b).1.length<=8:=by
 unfold b25
 split
 ·have l2:=a41 (a05 b 4).2 (m:=8) (by decide)
  have u2:=a40 (a05 b 4).2 (m:=8) (by decide)
  show(Txt.join "" _).length<=8
  rw[c71,b41 (b24 _ _),a95]
  omega
 ·have hi:=a40 (a05 b 4).2 (m:=14) (by decide)
  have h:∀ i,(someW.getD i "").length<=8:=by
   intro i
   rw[List.getD_eq_getElem?_getD]
   cases q:someW[i]? with
   | none=>decide
   | some z =>
    have hm:z∈someW:=BQ q
    have ha:∀ z∈someW,z.length<=8:=by decide +kernel
    exact ha z hm
  exact h _
def d88:Sp:=fun vs H Q _=>∃(b:Addr)(st:Bx) (n:Nat),vs=[.ref b]/\H b=some (.lst (c58 st))/\Good st n/\n+20<=1000000 /\
 ∀ H',H' b=some (.lst (c58 (b25 st).2))->Kp [b] H H'->Q (.str (b25 st).1) H'
section
variable {P:Program}{w:World}{K:PySem.W.Frag}{mg:Str->Option Value}{base:Heap}
abbrev c34 (P:Program)(w:World)(K:PySem.W.Frag) (mg:Str->Option Value)(base:Heap):Prop:=Def P w K mg base 1 "_law_take" ["_law_box_here", "_law_many"] g15
theorem scWord:FnScope ["_law_box_here", "_law_some", "_law_letters"] ["_law_box_here"] (a09 f54):=⟨rfl,rfl,rfl,by decide +kernel,rfl,by decide +kernel,by decide +kernel⟩
theorem i02 {f:Addr}{fd:FuncData}(F:Fun K "_law_word" "_law_word" f54 f fd)(mRange:mg "range" = none)(DT:c34 P w K mg base):FnOk P w K mg base CX0 2 f fd ["_law_box_here"] d88:=by
 refine F.ok scWord (fun vs H Q E h=>?_) (fun cdv A outer s H vs Q E hr h=>?_)
 ·obtain⟨b,st,n,rfl,_⟩:=h
  rfl
 ·obtain⟨b,st,n,rfl,hb,g,hn,kk⟩:=h
  have nd:=scWord.nd
  refine⟨_,a03 (a39 (i:=1) nd rfl (Or.inl rfl) (a99 (a00 a36 (a00 a36 (a00 a36 (a00 a36 (a00 a36 (a00 a36 (a00 a36 (a00 a36 (a00 a36 (a00 a36 (a00 a36 (a00 a36 (a00 a36 (a00 a36 a04))))))))))))))))
   (a03 (a47 (a32 b07 (a35 DT hr (a00 (pv 0) (a00 a07 a04))) a07 (a38 _))
     (a03 (a39 (i:=2) nd rfl (Or.inr rfl) a36)
     (a08 (a37 (b20 PySem.F.plainAttrs_str PySem.F.slot_str_join PySem.F.type_str_join c77 a36 (a00 (a92 (x := "_law_k") scWord ⟨rfl,by decide +kernel,by decide +kernel,by decide +kernel,by decide +kernel,by decide +kernel⟩ (by decide +kernel)
       (b34 rfl mRange (a00 (a54 b02 a07 (a35 DT hr (a00 (pv 0) (a00 a07 a04)))) a04))
       (fun C fp s H=>a50 h74 (pv 2) (a35 DT hr (a00 (pv 0) (a00 a07 a04))) (fun _ _=>rfl))) a04))))) a31)
   (a08 (a37 (a50 a53 (pv 1) (a35 DT hr (a00 (pv 0) (a00 a07 a04))) (fun _ _=>rfl))))),?_⟩
  refine⟨by show 14<=sizeLine;decide,fun l hl=>?_⟩
  have nlb:b≠l:=a01 hb hl
  have hb1:(upd H l (.lst (someW.map V.str))) b=some (.lst (c58 st)):=by rw[a06 nlb];exact hb
  have hl1:(upd H l (.lst (someW.map V.str))) l=some (.lst (someW.map V.str)):=a02
  have k1:Kp [b] H (upd H l (.lst (someW.map V.str))):=(Kp.refl _ H).new hl
  refine⟨_,rfl,b,st,n,4,rfl,by decide,by decide,hb1,g,by omega,fun H2 hb2 k2=>?_⟩
  have g2:=a28 g (m:=4) (by decide)
  refine⟨rfl,_,rfl,?_⟩
  refine a71 (fun h1=>?_) (fun h1=>?_)
  ·have h1':(a05 st 4).1=0:=by
    have:=AJ h1
    injection this
   have ew:b25 st=(Txt.join "" (a56 (a05 (a05 st 4).2 8).2 (1+(a05 (a05 st 4).2 8).1).toNat).1,(a56 (a05 (a05 st 4).2 8).2 (1+(a05 (a05 st 4).2 8).1).toNat).2):=by
    unfold b25
    rw[if_pos h1']
   rw[ew] at kk
   have l8:=a41 (a05 st 4).2 (m:=8) (by decide)
   have u8:=a40 (a05 st 4).2 (m:=8) (by decide)
   refine⟨rfl,_,rfl,b,_,n+1,8,rfl,by decide,by decide,hb2,g2,by omega,fun H3 hb3 k3=>⟨_,_,rfl,rfl,_,rfl,by omega,by omega,?_⟩⟩
   have g3:=a28 g2 (m:=8) (by decide)
   generalize ej:(1+(a05 (a05 st 4).2 8).1).toNat=j at kk ⊢
   refine b66 (n:=j) (fun i ys H'=>ys=(a56 (a05 (a05 st 4).2 8).2 i).1.map V.str/\H' b=some (.lst (c58 (a56 (a05 (a05 st 4).2 8).2 i).2))/\Kp [b] H H') (by rw[sizeLine_eq];omega)
    ⟨rfl,hb3,k1.trans (k2.trans k3)⟩ (fun i ys H' ⟨e,_⟩=>by rw[e,Aj,a95]) ?_ ?_
   ·rintro i ys H' hi ⟨e1,hb',k'⟩
    have gi:=b50 g3 i
    have hlo:=a41 (a56 (a05 (a05 st 4).2 8).2 i).2 (m:=26) (by decide)
    have hhi:=a40 (a56 (a05 (a05 st 4).2 8).2 i).2 (m:=26) (by decide)
    refine⟨_,rfl,_,rfl,b,_,n+1+1+i,26,rfl,by decide,by decide,hb',gi,by omega,fun H4 hb4 k4=>?_⟩
    obtain⟨c,hc1,hc2⟩:=g09 (z:=LTS) hlo (by rw[h57];exact hhi)
    refine⟨LTS,_,c,rfl,rfl,by show LTS.cps.size<=sizeLine;decide +kernel,hc1,?_,hb4,k'.trans k4⟩
    rw[e1,← hc2,← List.map_singleton,← BJ]
    rfl
   ·rintro ys H' ⟨e1,hb',k'⟩ L hL
    have nLb:b≠L:=a01 hb' hL
    refine⟨_,L,_,rfl,rfl,SqL.of (by rw[a02,e1]),?_,?_⟩
    ·rw[b41 (b24 _ _),a95]
     show j+j * ("" : Str).cps.size<=_
     rw[d45]
     omega
    ·exact kk _ (by rw[a06 nLb];exact hb') (k'.new hL)
  ·have h1':¬(a05 st 4).1=0:=fun q=>h1 (Az (by rw[q]))
   have ew:b25 st=(someW.getD (a05 (a05 st 4).2 14).1.toNat "", (a05 (a05 st 4).2 14).2):=by
    unfold b25
    rw[if_neg h1']
   rw[ew] at kk
   refine⟨_,rfl,_,rfl,b,_,n+1,14,rfl,by decide,by decide,hb2,g2,by omega,fun H3 hb3 k3=>?_⟩
   have hl3:H3 l=some (.lst (someW.map V.str)):=k3 l _ (k2 l _ hl1 (by simpa using nlb.symm)) (by simpa using nlb.symm)
   refine⟨l,_,_,_,rfl,rfl,SqL.of hl3,f84 V.str "" (a41 _ (by decide)) (a40 _ (m:=14) (by decide)),?_⟩
   exact kk H3 hb3 (k1.trans (k2.trans k3))
end
def a61 (b:Bx):Int×Bx :=
 if (a05 (a05 b 8).2 8).1=0 then([(a05 (a05 (a05 b 8).2 8).2 201).1,200,199].getD (a05 (a05 (a05 (a05 b 8).2 8).2 201).2 3).1.toNat 0,(a05 (a05 (a05 (a05 b 8).2 8).2 201).2 3).2)
 else((a05 b 8).1,(a05 (a05 b 8).2 8).2)
def a69 (b:Bx):Str×Bx :=
 (Txt.join "" ((List.range (a61 b).1.toNat).map fun k:Nat=>sgn SGN (((a05 (a61 b).2 94).1+(k:Int) * (a05 (a05 (a61 b).2 94).2 94).1) % 94)),(a05 (a05 (a61 b).2 94).2 94).2)
theorem c37 {b:Bx}{n:Nat}(g:Good b n):Good (a61 b).2 (n+4):=by
 have g1:=a28 g (m:=8) (by decide)
 have g2:=a28 g1 (m:=8) (by decide)
 unfold a61
 split
 ·exact a28 (a28 g2 (by decide)) (by decide)
 ·exact g2.mono (by omega)
theorem pick3 {α:Type}(P:α->Prop){x y z d:α}{i:Int}(h0:0<=i)(h1:i < 3)(hx:P x)(hy:P y)(hz:P z):P ([x,y,z].getD i.toNat d):=by
 have:i.toNat=0∨i.toNat=1∨i.toNat=2:=by omega
 rcases this with e | e | e <;> rw[e] <;> assumption
theorem c83 (b:Bx):0<=(a61 b).1/\(a61 b).1<=200:=by
 unfold a61
 split
 ·have l1:=a41 (a05 (a05 b 8).2 8).2 (m:=201) (by decide)
  have u1:=a40 (a05 (a05 b 8).2 8).2 (m:=201) (by decide)
  exact pick3 (fun z:Int=>0<=z/\z<=200) (a41 _ (by decide)) (a40 _ (by decide)) ⟨l1,by omega⟩ (by decide) (by decide)
 ·have l1:=a41 b (m:=8) (by decide)
  have u1:=a40 b (m:=8) (by decide)
  exact⟨l1,by show(a05 b 8).1<=200;omega⟩
theorem b65 {b:Bx}{n:Nat}(g:Good b n):Good (a69 b).2 (n+6):=a28 (a28 (c37 g) (by decide)) (by decide)
theorem b30 (b:Bx):(a69 b).1.length<=200:=by
 unfold a69
 show(Txt.join "" _).length<=200
 rw[c71,b41 (fun z hz=>by obtain⟨k,_,rfl⟩:=Ez.mp hz;rfl),Aj,List.length_range]
 have:=c83 b
 omega
def f32:Sp:=fun vs H Q _=>∃(b:Addr)(st:Bx) (n:Nat),vs=[.ref b]/\H b=some (.lst (c58 st))/\Good st n/\n+20<=1000000 /\
 ∀ H',H' b=some (.lst (c58 (a69 st).2))->Kp [b] H H'->Q (.str (a69 st).1) H'
section
variable {P:Program}{w:World}{K:PySem.W.Frag}{mg:Str->Option Value}{base:Heap}
theorem scText:FnScope ["_law_box_here", "_law_signs", "_law_many", "_law_first", "_law_step"] ["_law_box_here"] (a09 f60):=⟨rfl,rfl,rfl,by decide +kernel,rfl,by decide +kernel,by decide +kernel⟩
theorem h95 {f:Addr}{fd:FuncData}(F:Fun K "_law_text" "_law_text" f60 f fd)(mRange:mg "range" = none)(DT:c34 P w K mg base):FnOk P w K mg base CX0 2 f fd ["_law_box_here"] f32:=by
 refine F.ok scText (fun vs H Q E h=>?_) (fun cdv A outer s H vs Q E hr h=>?_)
 ·obtain⟨b,st,n,rfl,_⟩:=h
  rfl
 ·obtain⟨b,st,n,rfl,hb,g,hn,kk⟩:=h
  have nd:=scText.nd
  refine⟨_,a03 (a39 (i:=1) nd rfl (Or.inr rfl) a36)
   (a03 (a39 (i:=2) nd rfl (Or.inl rfl) (a35 DT hr (a00 (pv 0) (a00 a07 a04))))
   (a03 (a47 (a32 b07 (a35 DT hr (a00 (pv 0) (a00 a07 a04))) a07 (a38 _))
     (a08 (a39 (i:=2) nd rfl (Or.inl rfl) (a50 a53 (a99 (a00 (a35 DT hr (a00 (pv 0) (a00 a07 a04))) (a00 a07 (a00 a07 a04)))) (a35 DT hr (a00 (pv 0) (a00 a07 a04))) (fun _ _=>rfl)))) a31)
   (a03 (a39 (i:=3) nd rfl (Or.inr rfl) (a35 DT hr (a00 (pv 0) (a00 a07 a04))))
   (a03 (a39 (i:=4) nd rfl (Or.inr rfl) (a35 DT hr (a00 (pv 0) (a00 a07 a04))))
   (a08 (a37 (b20 PySem.F.plainAttrs_str PySem.F.slot_str_join PySem.F.type_str_join c77 a36 (a00 (a92 (x := "_law_k") scText ⟨rfl,by decide +kernel,by decide +kernel,by decide +kernel,by decide +kernel,by decide +kernel⟩ (by decide +kernel)
     (b34 rfl mRange (a00 (pv 2) a04))
     (fun C fp s H=>a50 h74 (pv 1) (a54 b59 (a54 b02 (pv 3) (a54 c63 (pv 5) (pv 4))) a07) (fun _ _=>rfl))) a04)))))))),?_⟩
  refine⟨_,rfl,b,st,n,8,rfl,by decide,by decide,hb,g,by omega,fun H1 hb1 k1=>?_⟩
  have g1:=a28 g (m:=8) (by decide)
  refine⟨_,rfl,b,_,n+1,8,rfl,by decide,by decide,hb1,g1,by omega,fun H2 hb2 k2=>?_⟩
  have g2:=a28 g1 (m:=8) (by decide)
  refine⟨rfl,_,rfl,?_⟩
  refine a71 (fun h1=>?_) (fun h1=>?_)
  ·have h1':(a05 (a05 st 8).2 8).1=0:=by
    have:=AJ h1
    injection this
   have et:a61 st=([(a05 (a05 (a05 st 8).2 8).2 201).1,200,199].getD (a05 (a05 (a05 (a05 st 8).2 8).2 201).2 3).1.toNat 0,(a05 (a05 (a05 (a05 st 8).2 8).2 201).2 3).2):=by
    unfold a61
    rw[if_pos h1']
   refine⟨_,rfl,b,_,n+2,201,rfl,by decide,by decide,hb2,g2,by omega,fun H3 hb3 k3=>?_⟩
   have g3:=a28 g2 (m:=201) (by decide)
   refine⟨by show 3<=sizeLine;decide,fun l hl=>?_⟩
   have nlb:b≠l:=a01 hb3 hl
   refine⟨_,rfl,b,_,n+3,3,rfl,by decide,by decide,by rw[a06 nlb];exact hb3,g3,by omega,fun H4 hb4 k4=>?_⟩
   have hl4:H4 l=some (.lst ([(a05 (a05 (a05 st 8).2 8).2 201).1,200,199].map V.int)):=k4 l _ a02 (by simpa using nlb.symm)
   refine⟨l,_,_,_,rfl,rfl,SqL.of hl4,f84 V.int 0 (a41 _ (by decide)) (a40 _ (m:=3) (by decide)),?_⟩
   have hb5:H4 b=some (.lst (c58 (a61 st).2)):=by rw[et];exact hb4
   have em:[(a05 (a05 (a05 st 8).2 8).2 201).1,200,199].getD (a05 (a05 (a05 (a05 st 8).2 8).2 201).2 3).1.toNat 0=(a61 st).1:=by rw[et]
   rw[em]
   have kH:Kp [b] H H4:=k1.trans (k2.trans ((k3.new hl).trans k4))
   have g5:=c37 g
   have nm:=c83 st
   refine⟨_,rfl,b,_,n+4,94,rfl,by decide,by decide,hb5,g5,by omega,fun H6 hb6 k6=>?_⟩
   have g6:=a28 g5 (m:=94) (by decide)
   refine⟨_,rfl,b,_,n+5,94,rfl,by decide,by decide,hb6,g6,by omega,fun H7 hb7 k7=>?_⟩
   have l6:=a41 (a61 st).2 (m:=94) (by decide)
   have u6:=a40 (a61 st).2 (m:=94) (by decide)
   have l7:=a41 (a05 (a61 st).2 94).2 (m:=94) (by decide)
   have u7:=a40 (a05 (a61 st).2 94).2 (m:=94) (by decide)
   refine⟨rfl,_,rfl,_,rfl,by omega,by omega,?_⟩
   refine b66 (n:=(a61 st).1.toNat) (fun i ys H'=>ys=((List.range i).map fun k:Nat=>sgn SGN (((a05 (a61 st).2 94).1+(k:Int) * (a05 (a05 (a61 st).2 94).2 94).1) % 94)).map V.str/\H'=H7) (by rw[sizeLine_eq];omega)
    ⟨rfl,rfl⟩ (fun i ys H' ⟨e,_⟩=>by rw[e,Aj,Aj,List.length_range]) ?_ ?_
   ·rintro i ys H' hi ⟨e1,rfl⟩
    obtain⟨c,hc1,hc2⟩:=g09 (z:=SGN) (i:=((a05 (a61 st).2 94).1+(i:Int) * (a05 (a05 (a61 st).2 94).2 94).1) % 94) (EZ _ (by decide)) (by rw[e72];exact Fj _ (by decide))
    refine⟨_,rfl,_,rfl,_,rfl,_,rfl,_,_,rfl,rfl,.inr ⟨by omega,by omega⟩,_,_,rfl,rfl,_,_,rfl,rfl,(show(0:Int) < 94 by decide),?_⟩
    refine⟨SGN,_,c,rfl,by rw[Int.zero_add],by show SGN.cps.size<=sizeLine;decide +kernel,hc1,?_,rfl⟩
    rw[e1,← hc2,List.range_succ,BJ,BJ]
    rfl
   ·rintro ys H' ⟨e1,rfl⟩ L hL
    have nLb:b≠L:=a01 hb7 hL
    refine⟨_,L,_,rfl,rfl,SqL.of (by rw[a02,e1]),?_,?_⟩
    ·rw[b41 (fun z hz=>by obtain⟨k,_,rfl⟩:=Ez.mp hz;rfl),Aj,List.length_range]
     show(a61 st).1.toNat+(a61 st).1.toNat * ("" : Str).cps.size<=_
     rw[d45]
     omega
    ·exact kk _ (by rw[a06 nLb];exact hb7) ((kH.trans (k6.trans k7)).new hL)
  ·have h1':¬(a05 (a05 st 8).2 8).1=0:=fun q=>h1 (Az (by rw[q]))
   have et:a61 st=((a05 st 8).1,(a05 (a05 st 8).2 8).2):=by
    unfold a61
    rw[if_neg h1']
   have hb5:H2 b=some (.lst (c58 (a61 st).2)):=by rw[et];exact hb2
   have em:(a05 st 8).1=(a61 st).1:=by rw[et]
   rw[em]
   have kH:Kp [b] H H2:=k1.trans k2
   have g5:=c37 g
   have nm:=c83 st
   refine⟨_,rfl,b,_,n+4,94,rfl,by decide,by decide,hb5,g5,by omega,fun H6 hb6 k6=>?_⟩
   have g6:=a28 g5 (m:=94) (by decide)
   refine⟨_,rfl,b,_,n+5,94,rfl,by decide,by decide,hb6,g6,by omega,fun H7 hb7 k7=>?_⟩
   have l6:=a41 (a61 st).2 (m:=94) (by decide)
   have u6:=a40 (a61 st).2 (m:=94) (by decide)
   have l7:=a41 (a05 (a61 st).2 94).2 (m:=94) (by decide)
   have u7:=a40 (a05 (a61 st).2 94).2 (m:=94) (by decide)
   refine⟨rfl,_,rfl,_,rfl,by omega,by omega,?_⟩
   refine b66 (n:=(a61 st).1.toNat) (fun i ys H'=>ys=((List.range i).map fun k:Nat=>sgn SGN (((a05 (a61 st).2 94).1+(k:Int) * (a05 (a05 (a61 st).2 94).2 94).1) % 94)).map V.str/\H'=H7) (by rw[sizeLine_eq];omega)
    ⟨rfl,rfl⟩ (fun i ys H' ⟨e,_⟩=>by rw[e,Aj,Aj,List.length_range]) ?_ ?_
   ·rintro i ys H' hi ⟨e1,rfl⟩
    obtain⟨c,hc1,hc2⟩:=g09 (z:=SGN) (i:=((a05 (a61 st).2 94).1+(i:Int) * (a05 (a05 (a61 st).2 94).2 94).1) % 94) (EZ _ (by decide)) (by rw[e72];exact Fj _ (by decide))
    refine⟨_,rfl,_,rfl,_,rfl,_,rfl,_,_,rfl,rfl,.inr ⟨by omega,by omega⟩,_,_,rfl,rfl,_,_,rfl,rfl,(show(0:Int) < 94 by decide),?_⟩
    refine⟨SGN,_,c,rfl,by rw[Int.zero_add],by show SGN.cps.size<=sizeLine;decide +kernel,hc1,?_,rfl⟩
    rw[e1,← hc2,List.range_succ,BJ,BJ]
    rfl
   ·rintro ys H' ⟨e1,rfl⟩ L hL
    have nLb:b≠L:=a01 hb7 hL
    refine⟨_,L,_,rfl,rfl,SqL.of (by rw[a02,e1]),?_,?_⟩
    ·rw[b41 (fun z hz=>by obtain⟨k,_,rfl⟩:=Ez.mp hz;rfl),Aj,List.length_range]
     show(a61 st).1.toNat+(a61 st).1.toNat * ("" : Str).cps.size<=_
     rw[d45]
     omega
    ·exact kk _ (by rw[a06 nLb];exact hb7) ((kH.trans (k6.trans k7)).new hL)
end
def b55 (b:Bx):Nat->List Str×Bx
 | 0=>([],b)
 | n+1=>((b55 b n).1++[(b25 (b55 b n).2).1],(b25 (b55 b n).2).2)
theorem c00 {b:Bx}{m:Nat}(g:Good b m):∀ n,Good (b55 b n).2 (m+10 * n)
 | 0=>g
 | n+1=>(b77 (c00 g n)).mono (by omega)
theorem b64 (b:Bx):∀ n,(b55 b n).1.length=n
 | 0=>rfl
 | n+1=>by
  show((b55 b n).1++[_]).length=_
  rw[Bj,b64 b n]
  rfl
theorem e06 (b:Bx):∀ n,∀ z∈(b55 b n).1,z.length<=8
 | 0=>fun _ h=>nomatch h
 | n+1=>fun z h=>by
  rcases Bq.mp h with q | q
  ·exact e06 b n z q
  ·rw[Ax.mp q]
   exact c33 _
def g85 (b:Bx):Nat:=(1+(a05 b 3).1+5 * (if (a05 (a05 b 3).2 16).1=0 then 1 else 0)).toNat
def a74 (b:Bx):List Str×Bx:=b55 (a05 (a05 b 3).2 16).2 (g85 b)
theorem d37 (b:Bx):1<=g85 b/\g85 b<=8:=by
 have:=a41 b (m:=3) (by decide)
 have:=a40 b (m:=3) (by decide)
 unfold g85
 split <;> omega
theorem b16 {b:Bx}{n:Nat}(g:Good b n):Good (a74 b).2 (n+82):=by
 have:=d37 b
 exact(c00 (a28 (a28 g (m:=3) (by decide)) (m:=16) (by decide)) _).mono (by omega)
structure Pth (zs:List Str):Prop where
 len:zs.length<=9
 nam:∀ z∈zs,z.length<=8
theorem d39 (b:Bx):Pth (a74 b).1:=by
 have:=d37 b
 exact⟨by unfold a74;rw[b64];omega,e06 _ _⟩
def h44:Sp:=fun vs H Q _=>∃(b:Addr)(st:Bx) (n:Nat),vs=[.ref b]/\H b=some (.lst (c58 st))/\Good st n/\n+120<=1000000 /\
 ∀(t:Addr)(H':Hp),H t=none->H' t=some (.tup ((a74 st).1.map V.str))->H' b=some (.lst (c58 (a74 st).2))->Kp [b] H H'->Q (.ref t) H'
section
variable {P:Program}{w:World}{K:PySem.W.Frag}{mg:Str->Option Value}{base:Heap}
theorem scAny:FnScope ["_law_box_here", "_law_many"] ["_law_box_here"] (a09 b79):=⟨rfl,rfl,rfl,by decide +kernel,rfl,by decide +kernel,by decide +kernel⟩
theorem i69 {f:Addr}{fd:FuncData}(F:Fun K "_law_any_path" "_law_any_path" b79 f fd)(mRange:mg "range" = none)(mInt:mg "int" = none)(mTuple:mg "tuple" = none)(DT:c34 P w K mg base)
 (DW:Def P w K mg base 2 "_law_word" ["_law_box_here"] d88):FnOk P w K mg base CX0 3 f fd ["_law_box_here"] h44:=by
 refine F.ok scAny (fun vs H Q E h=>?_) (fun cdv A outer s H vs Q E hr h=>?_)
 ·obtain⟨b,st,n,rfl,_⟩:=h
  rfl
 ·obtain⟨b,st,n,rfl,hb,g,hn,kk⟩:=h
  have hr1:Room 1 _:=hr.mono (by decide)
  have nd:=scAny.nd
  refine⟨_,a03 (a39 (i:=1) nd rfl (Or.inl rfl) (a54 b02 (a54 b02 a07 (a35 DT hr1 (a00 (pv 0) (a00 a07 a04))))
   (a54 c63 a07 (a82 f68 (by rfl) mInt PyProof.Rows.Boot.int (a00 (b14 b07 (a35 DT hr1 (a00 (pv 0) (a00 a07 a04))) a07 (a38 _)) a04)))))
   (a08 (a37 (a82 a72 (by rfl) mTuple PyProof.Rows.Boot.tuple (a00 (a92 (x := "_law_k") scAny ⟨rfl,by decide +kernel,by decide +kernel,by decide +kernel,by decide +kernel,by decide +kernel⟩ (by decide +kernel)
     (b34 rfl mRange (a00 (pv 1) a04))
     (fun C fp s H=>a35 DW hr (a00 (pv 0) a04))) a04)))),?_⟩
  refine⟨_,rfl,b,st,n,3,rfl,by decide,by decide,hb,g,by omega,fun H1 hb1 k1=>⟨_,_,rfl,rfl,?_⟩⟩
  have g1:=a28 g (m:=3) (by decide)
  refine⟨_,rfl,b,_,n+1,16,rfl,by decide,by decide,hb1,g1,by omega,fun H2 hb2 k2=>⟨rfl,.inr ⟨_,rfl,_,_,rfl,rfl,.inl ⟨by decide,by decide⟩,_,_,rfl,rfl,?_⟩⟩⟩
  have g2:=a28 g1 (m:=16) (by decide)
  have hm:=d37 st
  have em:(1+(a05 st 3).1+5 * (if decide (V.int (a05 (a05 st 3).2 16).1=V.int 0)=true then(1:Int) else 0))=(g85 st:Int):=by
   have:=a41 st (m:=3) (by decide)
   unfold g85
   by_cases e:(a05 (a05 st 3).2 16).1=0
   ·rw[if_pos e,if_pos (Az (by rw[e]))]
    omega
   ·rw[if_neg e,if_neg (fun q=>e (by have:=AJ q;injection this))]
    omega
  refine⟨_,rfl,(g85 st:Int),congrArg (fun z=>[V.int z]) em,by omega,by omega,?_⟩
  rw[Dq]
  refine b66 (n:=g85 st) (fun i ys H'=>ys=(b55 (a05 (a05 st 3).2 16).2 i).1.map V.str/\H' b=some (.lst (c58 (b55 (a05 (a05 st 3).2 16).2 i).2))/\Kp [b] H H') (by rw[sizeLine_eq];omega)
   ⟨rfl,hb2,k1.trans k2⟩ (fun i ys H' ⟨e,_⟩=>by rw[e,Aj,b64]) ?_ ?_
  ·rintro i ys H' hi ⟨e1,hb',k'⟩
   refine⟨_,rfl,b,_,n+2+10 * i,rfl,hb',c00 g2 i,by omega,fun H4 hb4 k4=>⟨?_,hb4,k'.trans k4⟩⟩
   rw[e1,← List.map_singleton,← BJ]
   rfl
  ·rintro ys H' ⟨e1,hb',k'⟩ L hL
   have nLb:b≠L:=a01 hb' hL
   refine⟨L,_,rfl,.inl ⟨SqL.of a02,fun t ht=>?_⟩⟩
   have ntb:b≠t:=fun q=>by rw[← q,a06 nLb,hb'] at ht;cases ht
   have ntL:L≠t:=fun q=>by rw[← q,a02] at ht;cases ht
   refine kk t _ ?_ (by rw[a02,e1];rfl) (by rw[a06 ntb,a06 nLb];exact hb') ((k'.new hL).new ht)
   rw[a06 (Ne.symm ntL)] at ht
   exact k'.free (by simpa using Ne.symm ntb) ht
end
inductive Ent where
 | dir (o:Option (List Str))
 | fil (i:Int)
 | gone
abbrev Pr:=Option (List Str)×Option Str
def g82 (y:V)(x:Option Str):Prop:=match x with
 | none=>y=.non
 | some z=>y=.str z
def PairV (H:Hp) (v:V)(p:Pr):Prop:=∃ t w y,v=.ref t/\OptP H w p.1/\g82 y p.2/\H t=some (.tup [w,y])
def FoldV (H:Hp) (v:V) (zs:List Str):Prop:=∃ t,v=.ref t/\H t=some (.tup (zs.map V.str))
def EntV (H:Hp) (v:V) (p:List Str)(e:Ent):Prop:=∃ t pa,v=.ref t/\H pa=some (.tup (p.map V.str))/\match e with
 | .dir o=>∃ w,OptP H w o/\H t=some (.tup [.ref pa,.str "folder", w])
 | .fil i=>H t=some (.tup [.ref pa,.str "file", .int i])
 | .gone=>H t=some (.tup [.ref pa,.str "gone"])
theorem OptP.tk {H H':Hp}(k:Tk H H'){v:V}{o:Option (List Str)}(h:OptP H v o):OptP H' v o:=L2.OptP.mono (fun b xs=>k b xs) h
theorem PairV.tk {H H':Hp}(k:Tk H H'){v:V}{p:Pr}(h:PairV H v p):PairV H' v p:=by
 obtain⟨t,w,y,e,h1,h2,h3⟩:=h
 exact⟨t,w,y,e,OptP.tk k h1,h2,k _ _ h3⟩
theorem FoldV.tk {H H':Hp}(k:Tk H H'){v:V}{zs:List Str}(h:FoldV H v zs):FoldV H' v zs:=by
 obtain⟨t,e,h1⟩:=h
 exact⟨t,e,k _ _ h1⟩
theorem EntV.tk {H H':Hp}(k:Tk H H'){v:V}{p:List Str}{x:Ent}(h:EntV H v p x):EntV H' v p x:=by
 obtain⟨t,pa,e,h1,h2⟩:=h
 refine⟨t,pa,e,k _ _ h1,?_⟩
 cases x with
 | dir o =>
  obtain⟨w,h3,h4⟩:=h2
  exact⟨w,OptP.tk k h3,k _ _ h4⟩
 | fil i=>exact k _ _ h2
 | gone=>exact k _ _ h2
abbrev PairsV (H:Hp):List V->List Pr->Prop:=Paired (PairV H)
abbrev FoldsV (H:Hp):List V->List (List Str)->Prop:=Paired (FoldV H)
abbrev RowsV (H:Hp):b69->List (List Str×Ent)->Prop:=Paired fun q r=>q.1=r.1/\EntV H q.2 r.1 r.2
theorem PairsV.tk {H H':Hp}(k:Tk H H'){vs:List V}{ps:List Pr}(h:PairsV H vs ps):PairsV H' vs ps:=Paired.mono (fun _ _ q=>PairV.tk k q) h
theorem FoldsV.tk {H H':Hp}(k:Tk H H'){vs:List V}{ps:List (List Str)}(h:FoldsV H vs ps):FoldsV H' vs ps:=Paired.mono (fun _ _ q=>FoldV.tk k q) h
theorem RowsV.tk {H H':Hp}(k:Tk H H'){m:b69}{rs:List (List Str×Ent)}(h:RowsV H m rs):RowsV H' m rs:=Paired.mono (fun _ _ q=>⟨q.1,EntV.tk k q.2⟩) h
theorem a64 {α β:Type}{R:α->β->Prop}:∀ {xs:List α}{ys:List β}{i:Nat}{x:α},Paired R xs ys->xs[i]?=some x->∃ y,ys[i]?=some y/\R x y
 | _,_,_,_,.nil,e=>by simp at e
 | _,_,0,_,.cons r _,e=>by simp at e;subst e;exact⟨_,rfl,r⟩
 | _,_,i+1,x,.cons _ t,e=>by
  obtain⟨y,h1,h2⟩:=a64 (i:=i) (x:=x) t (by simpa using e)
  exact⟨y,by simpa using h1,h2⟩
theorem e19 {α β:Type}{R:α->β->Prop}:∀ {xs:List α}{ys:List β}{i:Nat}{y:β},Paired R xs ys->ys[i]?=some y->∃ x,xs[i]?=some x/\R x y
 | _,_,_,_,.nil,e=>by simp at e
 | _,_,0,_,.cons r _,e=>by simp at e;subst e;exact⟨_,rfl,r⟩
 | _,_,i+1,y,.cons _ t,e=>by
  obtain⟨x,h1,h2⟩:=e19 (i:=i) (y:=y) t (by simpa using e)
  exact⟨x,by simpa using h1,h2⟩
theorem a33 {H:Hp}{a:Addr}{xs:List V}(h:H a=some (.lst xs)):∀ ys,H a≠some (.tup ys):=fun ys e=>by rw[h] at e;cases e
theorem a93 {H:Hp}{a:Addr}{m:b69}(h:H a=some (dP m)):∀ ys,H a≠some (.tup ys):=fun ys e=>by rw[h] at e;cases e
def b82 (b:Bx):Option (List Str)×Bx:=if 0 < (a05 b 3).1 then(some (a74 (a05 b 3).2).1,(a74 (a05 b 3).2).2) else(none,(a05 b 3).2)
def e22 (o:Option (List Str))(b:Bx):Option Str×Bx:=match o with
 | none=>(some (a69 b).1,(a69 b).2)
 | some _=>(if (a05 (a69 b).2 3).1=0 then none else some (a69 b).1,(a05 (a69 b).2 3).2)
def b37 (b:Bx) (ps:List Pr):Int×Bx×List Pr :=
 if (b82 b).1≠none/\(b82 b).1∈ps.map (·.1) then(-1,(b82 b).2,ps)
 else(ps.length,(e22 (b82 b).1 (b82 b).2).2,ps++[((b82 b).1,(e22 (b82 b).1 (b82 b).2).1)])
theorem d90 {b:Bx}{n:Nat}(g:Good b n):Good (b82 b).2 (n+83):=by
 have g1:=a28 g (m:=3) (by decide)
 unfold b82
 split
 ·exact(b16 g1).mono (by omega)
 ·exact g1.mono (by omega)
theorem f85 {o:Option (List Str)}{b:Bx}{n:Nat}(g:Good b n):Good (e22 o b).2 (n+7):=by
 have g1:=b65 g
 cases o with
 | none=>exact g1.mono (by omega)
 | some z=>exact(a28 g1 (by decide)).mono (by omega)
theorem f69 {b:Bx}{n:Nat}(g:Good b n) (ps:List Pr):Good (b37 b ps).2.1 (n+90):=by
 unfold b37
 split
 ·exact(d90 g).mono (by omega)
 ·exact(f85 (d90 g)).mono (by omega)
structure PrOk (p:Pr):Prop where
 org:∀ zs,p.1=some zs->Pth zs
 txt:∀ z,p.2=some z->z.length<=200
theorem i33 (b:Bx):∀ zs,(b82 b).1=some zs->Pth zs:=by
 intro zs h
 unfold b82 at h
 split at h
 ·cases h
  exact d39 _
 ·cases h
theorem i54 (o:Option (List Str))(b:Bx):∀ z,(e22 o b).1=some z->z.length<=200:=by
 intro z h
 cases o with
 | none=>cases h;exact b30 _
 | some y =>
  have h':(if (a05 (a69 b).2 3).1=0 then none else some (a69 b).1)=some z:=h
  split at h'
  ·cases h'
  ·cases h'
   exact b30 _
theorem i43 {b:Bx}{ps:List Pr}(h:∀ p∈ps,PrOk p):∀ p∈(b37 b ps).2.2,PrOk p:=by
 unfold b37
 split
 ·exact h
 ·intro p hp
  rcases Bq.mp hp with q | q
  ·exact h p q
  ·rw[Ax.mp q]
   exact⟨i33 b,i54 _ _⟩
theorem h06 (b:Bx) (ps:List Pr):(b37 b ps).1 < (b37 b ps).2.2.length/\(b37 b ps).2.2.length<=ps.length+1/\ps.length<=(b37 b ps).2.2.length:=by
 unfold b37
 split
 ·exact⟨by show(-1:Int) < _;omega,FX _,AZ _⟩
 ·refine⟨?_,?_,?_⟩ <;> simp only[Bj,List.length_singleton] <;> omega
def i49:Sp:=fun vs H Q _=>∃(b p:Addr)(st:Bx) (n:Nat) (xs:List V) (ps:List Pr),vs=[.ref b,.ref p]/\H b=some (.lst (c58 st))/\H p=some (.lst xs)/\b≠p/\PairsV H xs ps/\Good st n/\n+200<=1000000/\ps.length<=300 /\
 ∀(xs':List V)(H':Hp),H' b=some (.lst (c58 (b37 st ps).2.1))->H' p=some (.lst xs')->PairsV H' xs' (b37 st ps).2.2->Kp [b,p] H H'->Q (.int (b37 st ps).1) H'
theorem e36 {H HX:Hp}{Q:VK}{b p t':Addr}{st b':Bx}{xs:List V}{ps:List Pr}{o:Option (List Str)}{x:Option Str}{w y:V}(eF:b37 st ps=((ps.length:Int),b',ps++[(o,x)]))(hbX:HX b=some (.lst (c58 b')))(hpX:HX p=some (.lst xs))(nbp:b≠p)
 (hPX:PairsV HX xs ps)(kX:Kp [b,p] H HX)(hw:OptP HX w o)(hy:g82 y x)(ht':HX t'=none)
 (kk:∀(xs':List V)(H':Hp),H' b=some (.lst (c58 (b37 st ps).2.1))->H' p=some (.lst xs')->PairsV H' xs' (b37 st ps).2.2->Kp [b,p] H H'->Q (.int (b37 st ps).1) H') :
 Q (.int (((xs++[V.ref t']).length:Nat)-1)) (upd (upd HX t' (.tup [w,y])) p (.lst (xs++[V.ref t']))):=by
 have n1:p≠t':=a01 hpX ht'
 have n2:b≠t':=a01 hbX ht'
 have lx:xs.length=ps.length:=Paired.length hPX
 rw[eF] at kk
 have e:((((xs++[V.ref t']).length:Nat):Int)-1)=(ps.length:Int):=by
  rw[Bj,lx]
  show(((ps.length+1:Nat)):Int)-1=_
  omega
 rw[e]
 have tk:Tk HX (upd (upd HX t' (.tup [w,y])) p (.lst (xs++[V.ref t']))):=fun a zs q=>by
  rw[a06 (fun z=>by rw[z,hpX] at q;cases q),a06 (a01 q ht')]
  exact q
 refine kk (xs++[V.ref t']) _ (by rw[a06 nbp,a06 n2];exact hbX) a02 ?_ ((kX.new ht').set (by simp))
 refine Paired.snoc (PairsV.tk tk hPX) ⟨t',w,y,rfl,OptP.tk tk hw,hy,?_⟩
 rw[a06 (Ne.symm n1),a02]
section
variable {P:Program}{w:World}{K:PySem.W.Frag}{mg:Str->Option Value}{base:Heap}
theorem scNew:FnScope ["_law_box_here", "_law_pairs", "_law_origin", "_law_text_here"] ["_law_box_here", "_law_pairs"] (a09 b71):=⟨rfl,rfl,rfl,by decide +kernel,rfl,by decide +kernel,by decide +kernel⟩
theorem j06 {f:Addr}{fd:FuncData}(F:Fun K "_law_new_file" "_law_new_file" b71 f fd)(mLen:mg "len" = none)(DT:c34 P w K mg base)(DA:Def P w K mg base 3 "_law_any_path" ["_law_box_here"] h44)
 (DX:Def P w K mg base 2 "_law_text" ["_law_box_here"] f32):FnOk P w K mg base CX0 4 f fd ["_law_box_here", "_law_pairs"] i49:=by
 refine F.ok scNew (fun vs H Q E h=>?_) (fun cdv A outer s H vs Q E hr h=>?_)
 ·obtain⟨b,p,st,n,xs,ps,rfl,_⟩:=h
  rfl
 ·obtain⟨b,p,st,n,xs,ps,rfl,hb,hp,nbp,hP,g,hn,hl,kk⟩:=h
  have hu:=d73 hr
  have hr1:Room 1 _:=hr.mono (by decide)
  have hr2:Room 2 _:=hr.mono (by decide)
  have nd:=scNew.nd
  refine⟨_,a03 (a39 (i:=2) nd rfl (Or.inl rfl) a62)
   (a03 (a47 (a32 d84 (a35 DT hr1 (a00 (pv 0) (a00 a07 a04))) a07 (a38 _)) (a08 (a39 (i:=2) nd rfl (Or.inl rfl) (a35 DA hr (a00 (pv 0) a04)))) a31)
   (a03 (a47 (PW.pt (d75 (a32 d56 (pv 2) a62 (a38 _)) (c79 (a32 (i97 hu) (pv 2) (a92 (x := "_law_pair") scNew ⟨rfl,by decide +kernel,by decide +kernel,by decide +kernel,by decide +kernel,by decide +kernel⟩ (by decide +kernel) (c35 (pv 1))
     (fun C fp s H=>a50 (show IxR _ (j21 K) from a66) (pv 4) a07 (fun _ _=>rfl))) rfl))))
     (a08 (a37 (i39 g22 a07))) a31)
   (a03 (a39 (i:=3) nd rfl (Or.inl rfl) (a35 DX hr2 (a00 (pv 0) a04)))
   (a03 (a47 (PW.pt (d75 (a32 d56 (pv 2) a62 (a38 _)) (c79 (a32 b07 (a35 DT hr1 (a00 (pv 0) (a00 a07 a04))) a07 (a38 _))))) (a08 (a39 (i:=3) nd rfl (Or.inl rfl) a62)) a31)
   (a03 (b46 (b20 PySem.F.plainAttrs_list PySem.F.slot_list_append PySem.F.type_list_append b19 (pv 1) (a00 (a59 (a00 (pv 2) (a00 (pv 3) a04))) a04)))
   (a08 (a37 (a54 e87 (a29 a30 (by rfl) mLen PySem.boot_len (a00 (pv 1) a04)) a07)))))))),?_⟩
  refine⟨_,rfl,b,st,n,3,rfl,by decide,by decide,hb,g,by omega,fun H1 hb1 k1=>⟨_,_,rfl,rfl,_,rfl,?_⟩⟩
  have g1:=a28 g (m:=3) (by decide)
  have npb:p∉[b]:=by simpa using Ne.symm nbp
  have hp1:H1 p=some (.lst xs):=k1 p _ hp npb
  have t1:Tk H H1:=k1.tk fun a ha=>by rw[Ax.mp ha];exact a33 hb
  have lx:xs.length=ps.length:=Paired.length hP
  have hs:∀ a∈[b],a∈[b,p]:=fun a ha=>by rw[Ax.mp ha];simp
  refine a71 (fun h1=>?_) (fun h1=>?_)
  ·have h1':0 < (a05 st 3).1:=AJ h1
   have eO:b82 st=(some (a74 (a05 st 3).2).1,(a74 (a05 st 3).2).2):=by
    unfold b82
    rw[if_pos h1']
   refine⟨_,rfl,b,_,n+1,rfl,hb1,g1,by omega,fun t H2 ht ht2 hb2 k2=>?_⟩
   have hp2:H2 p=some (.lst xs):=k2 p _ hp1 npb
   have t2:Tk H1 H2:=k2.tk fun a ha=>by rw[Ax.mp ha];exact a33 hb1
   have hP2:PairsV H2 xs ps:=PairsV.tk (t1.trans t2) hP
   have g2:=b16 g1
   refine⟨_,rfl,rfl,_,rfl,c01 ?_⟩
   refine⟨_,rfl,_,rfl,p,rfl,⟨_,SqL.of hp2⟩,c82 (xs:=xs) (fun i ys H'=>i<=ps.length/\H'=H2/\d78 H2 ys ((ps.take i).map (·.1))) (by rw[sizeLine_eq];omega)
    ⟨FJ _,rfl,.nil⟩ (fun i ys H' ⟨hi,_,e⟩=>by rw[Paired.length e,Aj,CZ];omega) (fun i ys H' _ ⟨_,e,_⟩=>by rw[e];exact SqL.of hp2) ?_ ?_⟩
   ·rintro i ys H' v hv ⟨hi,rfl,e⟩
    obtain⟨pr,hpr,t',w',y',rfl,o1,o2,o3⟩:=a64 hP2 hv
    have hlt:=(Ex.mp hpr).1
    refine⟨_,rfl,t',_,_,_,rfl,rfl,SqT.of o3,rfl,hlt,rfl,?_⟩
    rw[EX,hpr,BJ]
    exact Paired.snoc e o1
   ·rintro ys H' ⟨_,rfl,e⟩ L hL
    have nLb:b≠L:=a01 hb2 hL
    have nLp:p≠L:=a01 hp2 hL
    have nLt:t≠L:=a01 ht2 hL
    have e':d78 (upd H' L (.lst ys)) ys (ps.map (·.1)):=by
     rw[lx,DQ (AZ _)] at e
     exact Paired.mono (fun _ _ q=>OptP.tk (fun a zs q=>by rw[a06 (a01 q hL)];exact q) q) e
    have hpX:(upd H' L (.lst ys)) p=some (.lst xs):=by rw[a06 nLp];exact hp2
    have hbL:(upd H' L (.lst ys)) b=some (.lst (c58 (a74 (a05 st 3).2).2)):=by rw[a06 nLb];exact hb2
    have tX:Tk H' (upd H' L (.lst ys)):=Tk.of ((Same.refl _).upd hL)
    have kL:Kp [b,p] H (upd H' L (.lst ys)):=((k1.mono hs).trans (k2.mono hs)).new hL
    refine⟨t,L,_,ys,_,rfl,by rw[a06 nLt];exact ht2,rfl,SqL.of a02,e',_,rfl,?_⟩
    refine a71 (fun h2=>?_) (fun h2=>?_)
    ·have h2':some (a74 (a05 st 3).2).1∈ps.map (·.1):=AJ h2
     have eF:b37 st ps=(-1,(b82 st).2,ps):=by
      unfold b37
      have hc:(b82 st).1≠none/\(b82 st).1∈ps.map (·.1):=by
       rw[eO]
       exact⟨(fun q=>nomatch q),h2'⟩
      rw[if_pos hc]
     rw[eF,eO] at kk
     refine⟨_,rfl,?_⟩
     exact kk xs _ hbL hpX (PairsV.tk tX hP2) kL
    ·have h2':¬ some (a74 (a05 st 3).2).1∈ps.map (·.1):=fun q=>h2 (Az q)
     have eF:b37 st ps=((ps.length:Int),(e22 (b82 st).1 (b82 st).2).2,ps++[((b82 st).1,(e22 (b82 st).1 (b82 st).2).1)]):=by
      unfold b37
      rw[if_neg (fun q=>h2' (by have:=q.2;rw[eO] at this;exact this))]
     rw[eO] at eF
     refine⟨_,rfl,b,_,n+83,rfl,hbL,g2.mono (by omega),by omega,fun H3 hb3 k3=>?_⟩
     have g3:=b65 g2
     refine⟨_,rfl,rfl,_,rfl,c01 ?_⟩
     refine⟨_,rfl,b,_,n+89,3,rfl,by decide,by decide,hb3,g3.mono (by omega),by omega,fun H4 hb4 k4=>⟨rfl,_,rfl,?_⟩⟩
     have hp4:H4 p=some (.lst xs):=k4 p _ (k3 p _ hpX npb) npb
     have t34:Tk (upd H' L (.lst ys)) H4:=(k3.trans k4).tk fun a ha=>by rw[Ax.mp ha];exact a33 hbL
     have hPX:PairsV H4 xs ps:=PairsV.tk (tX.trans t34) hP2
     have kX:Kp [b,p] H H4:=kL.trans ((k3.trans k4).mono hs)
     have hw:OptP H4 (.ref t) (some (a74 (a05 st 3).2).1):=⟨t,rfl,t34 _ _ (by rw[a06 nLt];exact ht2)⟩
     have hpX:=hp4
     refine a71 (fun h3=>?_) (fun h3=>?_)
     ·have h3':(a05 (a69 (a74 (a05 st 3).2).2).2 3).1=0:=by
       have:=AJ h3
       injection this
      have hy:g82 .non (e22 (some (a74 (a05 st 3).2).1) (a74 (a05 st 3).2).2).1:=by
       show g82 .non (if (a05 (a69 (a74 (a05 st 3).2).2).2 3).1=0 then none else some (a69 (a74 (a05 st 3).2).2).1)
       rw[if_pos h3']
       rfl
      have hbX:H4 b=some (.lst (c58 (e22 (some (a74 (a05 st 3).2).1) (a74 (a05 st 3).2).2).2)):=hb4
      refine⟨_,rfl,.inl ⟨rfl,_,SqL.of hpX⟩,_,rfl,_,rfl,by show 2<=sizeLine;decide,fun t' ht'=>?_⟩
      have n1:p≠t':=a01 hpX ht'
      have n2:b≠t':=a01 hbX ht'
      refine⟨p,xs,_,rfl,rfl,(by rw[a06 n1];exact hpX),by rw[sizeLine_eq];omega,?_⟩
      refine⟨_,rfl,p,_,rfl,.inl (SqL.of a02),_,_,rfl,rfl,?_⟩
      exact e36 eF hbX hpX nbp hPX kX hw hy ht' kk
     ·have h3':¬(a05 (a69 (a74 (a05 st 3).2).2).2 3).1=0:=fun q=>h3 (Az (by rw[q]))
      have hy:g82 (.str (a69 (a74 (a05 st 3).2).2).1) (e22 (some (a74 (a05 st 3).2).1) (a74 (a05 st 3).2).2).1:=by
       show g82 _ (if (a05 (a69 (a74 (a05 st 3).2).2).2 3).1=0 then none else some (a69 (a74 (a05 st 3).2).2).1)
       rw[if_neg h3']
       rfl
      have hbX:H4 b=some (.lst (c58 (e22 (some (a74 (a05 st 3).2).1) (a74 (a05 st 3).2).2).2)):=hb4
      refine⟨_,rfl,.inl ⟨rfl,_,SqL.of hpX⟩,_,rfl,_,rfl,by show 2<=sizeLine;decide,fun t' ht'=>?_⟩
      have n1:p≠t':=a01 hpX ht'
      have n2:b≠t':=a01 hbX ht'
      refine⟨p,xs,_,rfl,rfl,(by rw[a06 n1];exact hpX),by rw[sizeLine_eq];omega,?_⟩
      refine⟨_,rfl,p,_,rfl,.inl (SqL.of a02),_,_,rfl,rfl,?_⟩
      exact e36 eF hbX hpX nbp hPX kX hw hy ht' kk
  ·have h1':¬ 0 < (a05 st 3).1:=fun q=>h1 (Az q)
   have eO:b82 st=(none,(a05 st 3).2):=by
    unfold b82
    rw[if_neg h1']
   have eF:b37 st ps=((ps.length:Int),(e22 (b82 st).1 (b82 st).2).2,ps++[((b82 st).1,(e22 (b82 st).1 (b82 st).2).1)]):=by
    unfold b37
    rw[if_neg (fun q=>q.1 (by rw[eO]))]
   rw[eO] at eF
   refine⟨_,rfl,rfl,_,rfl,b00 (b00 ?_)⟩
   refine⟨_,rfl,b,_,n+1,rfl,hb1,g1,by omega,fun H3 hb3 k3=>?_⟩
   refine⟨_,rfl,rfl,_,rfl,b00 (b00 ?_)⟩
   have hpX:H3 p=some (.lst xs):=k3 p _ hp1 npb
   have t3:Tk H1 H3:=k3.tk fun a ha=>by rw[Ax.mp ha];exact a33 hb1
   have hPX:PairsV H3 xs ps:=PairsV.tk (t1.trans t3) hP
   have kX:Kp [b,p] H H3:=(k1.trans k3).mono hs
   have hw:OptP H3 .non none:=rfl
   have hy:g82 (.str (a69 (a05 st 3).2).1) (e22 none (a05 st 3).2).1:=rfl
   have hbX:H3 b=some (.lst (c58 (e22 none (a05 st 3).2).2)):=hb3
   refine⟨_,rfl,.inl ⟨rfl,_,SqL.of hpX⟩,_,rfl,_,rfl,by show 2<=sizeLine;decide,fun t' ht'=>?_⟩
   have n1:p≠t':=a01 hpX ht'
   have n2:b≠t':=a01 hbX ht'
   refine⟨p,xs,_,rfl,rfl,(by rw[a06 n1];exact hpX),by rw[sizeLine_eq];omega,?_⟩
   refine⟨_,rfl,p,_,rfl,.inl (SqL.of a02),_,_,rfl,rfl,?_⟩
   exact e36 eF hbX hpX nbp hPX kX hw hy ht' kk
end
structure Gr where
 rows:List (List Str×Ent)
 pairs:List Pr
 folds:List (List Str)
def i21 (rows:List (List Str×Ent)) (p:List Str):Bool:=rows.any fun r=>decide (r.1=p)
def e57 (i:Int) (p a:List Str):Option (List Str):=[none,some p,some [],some a].getD i.toNat none
def e23 (b:Bx) (ps:List Pr):Int×Bx :=
 if 0 < ps.length then(if (a05 b 3).1=0 then a05 (a05 b 3).2 ps.length else(-1,(a05 b 3).2)) else(-1,b)
def a68 (b:Bx) (ps:List Pr):Int×Bx×List Pr:=if (e23 b ps).1 < 0 then b37 (e23 b ps).2 ps else((e23 b ps).1,(e23 b ps).2,ps)
def h23 (b:Bx) (p:List Str)(g:Gr):Bx×Gr :=
 ((a68 b g.pairs).2.1,⟨if 0<=(a68 b g.pairs).1 then g.rows++[(p,.fil (a68 b g.pairs).1)] else g.rows,(a68 b g.pairs).2.2,g.folds⟩)
def e13 (way:Int)(b:Bx) (p:List Str)(g:Gr):Bx×Gr :=
 if way < 3 then((a05 (a74 b).2 4).2,⟨g.rows++[(p,.dir (e57 (a05 (a74 b).2 4).1 p (a74 b).1))],g.pairs,g.folds++[p]⟩)
 else if way < 6 then h23 b p g else(b,⟨g.rows++[(p,.gone)],g.pairs,g.folds⟩)
def e88 (way:Int)(b:Bx)(g:Gr):Bx×Gr :=
 if way=7 then(if some (a74 b).1∈g.pairs.map (·.1) then((a74 b).2,g)
  else((a05 (a69 (a74 b).2).2 2).2,⟨g.rows,g.pairs++[(some (a74 b).1,[none,some (a69 (a74 b).2).1].getD (a05 (a69 (a74 b).2).2 2).1.toNat none)],g.folds⟩))
 else(b,g)
def a52 (b:Bx)(g:Gr):List Str:=g.folds.getD (a05 b g.folds.length).1.toNat []++[(b25 (a05 b g.folds.length).2).1]
def a58 (b:Bx)(g:Gr):Int×Bx:=a05 (b25 (a05 b g.folds.length).2).2 8
def c53 (b:Bx)(g:Gr):Bx×Gr :=
 if i21 g.rows (a52 b g)=true∨8 < (a52 b g).length∨190 < g.pairs.length then((a58 b g).2,g)
 else e88 (a58 b g).1 (e13 (a58 b g).1 (a58 b g).2 (a52 b g) g).1 (e13 (a58 b g).1 (a58 b g).2 (a52 b g) g).2
def EntOk (e:Ent) (m:Nat):Prop:=match e with
 | .dir o=>∀ zs,o=some zs->Pth zs
 | .fil i=>0<=i/\i < m
 | .gone=>True
structure GrOk (g:Gr) (n:Nat):Prop where
 rl:g.rows.length<=n
 pl:g.pairs.length<=192
 fl:g.folds.length<=n+1
 f0:0 < g.folds.length
 fp:∀ zs∈g.folds,Pth zs/\zs.length<=8
 rp:∀ r∈g.rows,r.1≠[]/\Pth r.1/\EntOk r.2 g.pairs.length
 pp:∀ p∈g.pairs,PrOk p
theorem EntOk.mono {e:Ent}{m m':Nat}(h:EntOk e m)(q:m<=m'):EntOk e m':=by
 cases e with
 | dir o=>exact h
 | fil i=>exact⟨h.1,by have:=h.2;omega⟩
 | gone=>trivial
theorem d89 {b:Bx}{n:Nat}(g:Good b n) (ps:List Pr):Good (e23 b ps).2 (n+2):=by
 unfold e23
 split
 ·rename_i h
  have g1:=a28 g (m:=3) (by decide)
  split
  ·exact a28 g1 (by omega)
  ·exact g1.mono (by omega)
 ·exact g.mono (by omega)
theorem g02 (b:Bx) (ps:List Pr):(e23 b ps).1 < ps.length:=by
 unfold e23
 split
 ·rename_i h
  split
  ·exact a40 _ (by omega)
  ·show(-1:Int) < _;omega
 ·show(-1:Int) < _;omega
theorem f37 {b:Bx}{n:Nat}(g:Good b n) (ps:List Pr):Good (a68 b ps).2.1 (n+92):=by
 unfold a68
 split
 ·exact(f69 (d89 g ps) ps).mono (by omega)
 ·exact(d89 g ps).mono (by omega)
theorem h07 (b:Bx){ps:List Pr}(h:∀ p∈ps,PrOk p):(a68 b ps).1 < (a68 b ps).2.2.length/\(a68 b ps).2.2.length<=ps.length+1/\ps.length<=(a68 b ps).2.2.length/\∀ p∈(a68 b ps).2.2,PrOk p:=by
 unfold a68
 split
 ·have:=h06 (e23 b ps).2 ps
  exact⟨this.1,this.2.1,this.2.2,i43 h⟩
 ·exact⟨g02 b ps,FX _,AZ _,h⟩
theorem d02 {b:Bx}{n:Nat}{g:Gr}(hg:Good b n)(hf:0 < g.folds.length):Good (a58 b g).2 (n+12) :=
 a28 (b77 (a28 hg (m:=g.folds.length) (by omega))) (by decide)
theorem f65 {b:Bx}{n:Nat}(hg:Good b n) (way:Int) (p:List Str)(g:Gr):Good (e13 way b p g).1 (n+92):=by
 unfold e13
 split
 ·exact(a28 (b16 hg) (by decide)).mono (by omega)
 ·split
  ·exact f37 hg _
  ·exact hg.mono (by omega)
theorem g57 {b:Bx}{n:Nat}(hg:Good b n) (way:Int)(g:Gr):Good (e88 way b g).1 (n+90):=by
 unfold e88
 split
 ·split
  ·exact(b16 hg).mono (by omega)
  ·exact(a28 (b65 (b16 hg)) (by decide)).mono (by omega)
 ·exact hg.mono (by omega)
theorem f56 {b:Bx}{n:Nat}{g:Gr}(hg:Good b n)(hf:0 < g.folds.length):Good (c53 b g).1 (n+200):=by
 unfold c53
 split
 ·exact(d02 hg hf).mono (by omega)
 ·exact(g57 (f65 (d02 hg hf) _ _ _) _ _).mono (by omega)
theorem e75 {b:Bx}{g:Gr}{n:Nat}(h:GrOk g n):a52 b g≠[]/\Pth (a52 b g):=by
 have hm:g.folds.getD (a05 b g.folds.length).1.toNat []∈g.folds:=by
  have h0:=h.f0
  have lo:=a41 b (m:=(g.folds.length:Int)) (by omega)
  have hi:=a40 b (m:=(g.folds.length:Int)) (by omega)
  have hlt:(a05 b g.folds.length).1.toNat < g.folds.length:=by omega
  rw[List.getD_eq_getElem?_getD,Bz hlt]
  exact List.getElem_mem _
 obtain⟨q1,q2⟩:=h.fp _ hm
 refine⟨by unfold a52;simp,by unfold a52;rw[Bj];show _+1<=9;omega,fun z hz=>?_⟩
 unfold a52 at hz
 rcases Bq.mp hz with q | q
 ·exact q1.nam z q
 ·rw[Ax.mp q]
  exact c33 _
theorem i93 {α:Type}(P:α->Prop){x y z u d:α}{i:Int}(h0:0<=i)(h1:i < 4)(hx:P x)(hy:P y)(hz:P z)(hu:P u):P ([x,y,z,u].getD i.toNat d):=by
 have:i.toNat=0∨i.toNat=1∨i.toNat=2∨i.toNat=3:=by omega
 rcases this with e | e | e | e <;> rw[e] <;> assumption
theorem j03 {α:Type}(P:α->Prop){x y d:α}{i:Int}(h0:0<=i)(h1:i < 2)(hx:P x)(hy:P y):P ([x,y].getD i.toNat d):=by
 have:i.toNat=0∨i.toNat=1:=by omega
 rcases this with e | e <;> rw[e] <;> assumption
theorem h82 {b:Bx}{way:Int}{p:List Str}{g:Gr}{n:Nat}(h:GrOk g n)(hp:p≠[]/\Pth p)(h8:p.length<=8)(hl:g.pairs.length<=190):GrOk (e13 way b p g).2 (n+1)/\(e13 way b p g).2.pairs.length<=191:=by
 unfold e13
 split
 ·refine⟨⟨?_,h.pl,?_,?_,?_,?_,h.pp⟩,by show g.pairs.length<=191;omega⟩
  ·show(g.rows++[_]).length<=_
   rw[Bj]
   have:=h.rl
   show g.rows.length+1<=_
   omega
  ·show(g.folds++[_]).length<=_
   rw[Bj]
   have:=h.fl
   show g.folds.length+1<=_
   omega
  ·show 0 < (g.folds++[_]).length
   rw[Bj]
   show 0 < g.folds.length+1
   omega
  ·intro zs hz
   rcases Bq.mp hz with q | q
   ·exact h.fp zs q
   ·rw[Ax.mp q]
    exact⟨hp.2,h8⟩
  ·intro r hr
   rcases Bq.mp hr with q | q
   ·exact h.rp r q
   ·rw[Ax.mp q]
    refine⟨hp.1,hp.2,?_⟩
    show ∀ zs,e57 _ _ _=some zs->Pth zs
    unfold e57
    refine i93 (fun o:Option (List Str)=>∀ zs,o=some zs->Pth zs) (a41 _ (by decide)) (a40 _ (by decide)) (fun zs e=>nomatch e) (fun zs e=>?_) (fun zs e=>?_) (fun zs e=>?_)
    ·cases e
     exact hp.2
    ·cases e
     exact⟨FJ _,fun _ q=>nomatch q⟩
    ·cases e
     exact d39 _
 ·split
  ·obtain⟨q1,q2,q3,q4⟩:=h07 b h.pp
   have hrl:=h.rl
   refine⟨⟨?_,?_,?_,h.f0,h.fp,?_,q4⟩,by show(a68 b g.pairs).2.2.length<=191;omega⟩
   ·show(if 0<=(a68 b g.pairs).1 then g.rows++[(p,Ent.fil (a68 b g.pairs).1)] else g.rows).length<=_
    split
    ·rw[Bj]
     show g.rows.length+1<=_
     omega
    ·omega
   ·show(a68 b g.pairs).2.2.length<=192
    omega
   ·have:=h.fl
    show g.folds.length<=_
    omega
   ·show ∀ r∈(if 0<=(a68 b g.pairs).1 then g.rows++[(p,Ent.fil (a68 b g.pairs).1)] else g.rows),r.1≠[]/\Pth r.1/\EntOk r.2 (a68 b g.pairs).2.2.length
    split
    ·rename_i h0
     intro r hr
     rcases Bq.mp hr with q | q
     ·have:=h.rp r q
      exact⟨this.1,this.2.1,this.2.2.mono q3⟩
     ·rw[Ax.mp q]
      exact⟨hp.1,hp.2,h0,q1⟩
    ·intro r hr
     have:=h.rp r hr
     exact⟨this.1,this.2.1,this.2.2.mono q3⟩
  ·refine⟨⟨?_,h.pl,?_,h.f0,h.fp,?_,h.pp⟩,by show g.pairs.length<=191;omega⟩
   ·show(g.rows++[_]).length<=_
    rw[Bj]
    have:=h.rl
    show g.rows.length+1<=_
    omega
   ·have:=h.fl
    show g.folds.length<=_
    omega
   ·intro r hr
    rcases Bq.mp hr with q | q
    ·exact h.rp r q
    ·rw[Ax.mp q]
     exact⟨hp.1,hp.2,trivial⟩
theorem h83 {b:Bx}{way:Int}{g:Gr}{n:Nat}(h:GrOk g n)(hl:g.pairs.length<=191):GrOk (e88 way b g).2 n:=by
 unfold e88
 split
 ·split
  ·exact h
  ·refine⟨h.rl,?_,h.fl,h.f0,h.fp,fun r hr=>?_,fun p hp=>?_⟩
   ·show(g.pairs++[_]).length<=_
    rw[Bj]
    show g.pairs.length+1<=_
    omega
   ·have:=h.rp r hr
    exact⟨this.1,this.2.1,this.2.2.mono (by show _<=(g.pairs++[_]).length;rw[Bj];omega)⟩
   ·rcases Bq.mp hp with q | q
    ·exact h.pp p q
    ·rw[Ax.mp q]
     refine⟨fun zs e=>?_,?_⟩
     ·cases e
      exact d39 _
     ·exact j03 (fun o:Option Str=>∀ z,o=some z->z.length<=200) (a41 _ (by decide)) (a40 _ (by decide)) (fun _ e=>nomatch e) (fun z e=>by cases e;exact b30 _)
 ·exact h
theorem GrOk.mono {g:Gr}{n m:Nat}(h:GrOk g n)(q:n<=m):GrOk g m:=⟨by have:=h.rl;omega,h.pl,by have:=h.fl;omega,h.f0,h.fp,h.rp,h.pp⟩
theorem h37 {b:Bx}{g:Gr}{n:Nat}(h:GrOk g n):GrOk (c53 b g).2 (n+1):=by
 unfold c53
 split
 ·exact h.mono (by omega)
 ·rename_i hc
  have h8:(a52 b g).length<=8:=Nat.not_lt.mp fun q=>hc (.inr (.inl q))
  have h9:g.pairs.length<=190:=Nat.not_lt.mp fun q=>hc (.inr (.inr q))
  obtain⟨q1,q2⟩:=h82 (b:=(a58 b g).2) (way:=(a58 b g).1) h (e75 h) h8 h9
  exact h83 q1 q2
theorem e71 {H:Hp}{m:b69}{rows:List (List Str×Ent)}(h:RowsV H m rows) (p:List Str):(a98 m p).isSome=i21 rows p:=by
 rw[← b22]
 unfold i21
 induction h with
 | nil=>rfl
 | cons q t ih=>rw[List.any_cons,List.any_cons,ih,q.1]
structure St4 (H:Hp)(b r p f:Addr)(bx:Bx)(m:b69) (xs fs:List V)(g:Gr):Prop where
 hb:H b=some (.lst (c58 bx))
 hr:H r=some (dP m)
 hp:H p=some (.lst xs)
 hf:H f=some (.lst fs)
 nbp:b≠p
 nbf:b≠f
 npf:p≠f
 R:RowsV H m g.rows
 P:PairsV H xs g.pairs
 F:FoldsV H fs g.folds
section
variable {H H':Hp}{b r p f:Addr}{bx bx':Bx}{m:b69}{xs fs:List V}{g:Gr}
theorem a78 {H:Hp}{a c:Addr}{xs:List V}{m:b69}(h:H a=some (.lst xs))(h':H c=some (dP m)):a≠c:=a85 h h' (fun z=>nomatch z)
theorem St4.nbr (s:St4 H b r p f bx m xs fs g):b≠r:=a78 s.hb s.hr
theorem St4.npr (s:St4 H b r p f bx m xs fs g):p≠r:=a78 s.hp s.hr
theorem St4.nfr (s:St4 H b r p f bx m xs fs g):f≠r:=a78 s.hf s.hr
theorem St4.box (s:St4 H b r p f bx m xs fs g)(h:H' b=some (.lst (c58 bx')))(k:Kp [b] H H'):St4 H' b r p f bx' m xs fs g:=by
 have t:Tk H H':=k.tk fun a ha=>by rw[Ax.mp ha];exact a33 s.hb
 exact⟨h,k _ _ s.hr (by simpa using s.nbr.symm),k _ _ s.hp (by simpa using s.nbp.symm),k _ _ s.hf (by simpa using s.nbf.symm),s.nbp,s.nbf,s.npf,RowsV.tk t s.R,PairsV.tk t s.P,FoldsV.tk t s.F⟩
theorem St4.same (s:St4 H b r p f bx m xs fs g)(k:Same H H'):St4 H' b r p f bx m xs fs g :=
 ⟨k _ _ s.hb,k _ _ s.hr,k _ _ s.hp,k _ _ s.hf,s.nbp,s.nbf,s.npf,RowsV.tk (Tk.of k) s.R,PairsV.tk (Tk.of k) s.P,FoldsV.tk (Tk.of k) s.F⟩
theorem St4.new (s:St4 H b r p f bx m xs fs g){t:Addr}{o:HO}(h:H t=none):St4 (upd H t o) b r p f bx m xs fs g:=s.same ((Same.refl H).upd h)
theorem b85 {a:Addr}{o:HO}(h:∀ ys,H a≠some (.tup ys)):Tk H (upd H a o):=fun c zs q=>by
 rw[a06 (fun z=>h zs (by rw[← z];exact q))]
 exact q
theorem St4.pair (s:St4 H b r p f bx m xs fs g){v:V}{q:Pr}(h:PairV H v q):St4 (upd H p (.lst (xs++[v]))) b r p f bx m (xs++[v]) fs ⟨g.rows,g.pairs++[q],g.folds⟩:=by
 have t:Tk H (upd H p (.lst (xs++[v]))):=b85 (a33 s.hp)
 exact⟨by rw[a06 s.nbp];exact s.hb,by rw[a06 s.npr.symm];exact s.hr,a02,by rw[a06 s.npf.symm];exact s.hf,s.nbp,s.nbf,s.npf,RowsV.tk t s.R,Paired.snoc (PairsV.tk t s.P) (PairV.tk t h),FoldsV.tk t s.F⟩
theorem St4.fold (s:St4 H b r p f bx m xs fs g){v:V}{zs:List Str}(h:FoldV H v zs):St4 (upd H f (.lst (fs++[v]))) b r p f bx m xs (fs++[v]) ⟨g.rows,g.pairs,g.folds++[zs]⟩:=by
 have t:Tk H (upd H f (.lst (fs++[v]))):=b85 (a33 s.hf)
 exact⟨by rw[a06 s.nbf];exact s.hb,by rw[a06 s.nfr.symm];exact s.hr,by rw[a06 s.npf];exact s.hp,a02,s.nbp,s.nbf,s.npf,RowsV.tk t s.R,PairsV.tk t s.P,Paired.snoc (FoldsV.tk t s.F) (FoldV.tk t h)⟩
theorem St4.row (s:St4 H b r p f bx m xs fs g){v:V}{zs:List Str}{e:Ent}(h:EntV H v zs e)(hn:i21 g.rows zs=false):St4 (upd H r (dP (b23 m zs v))) b r p f bx (b23 m zs v) xs fs ⟨g.rows++[(zs,e)],g.pairs,g.folds⟩:=by
 have t:Tk H (upd H r (dP (b23 m zs v))):=b85 (a93 s.hr)
 have e0:a98 m zs=none:=by
  have:=e71 s.R zs
  rw[hn] at this
  exact Option.not_isSome_iff_eq_none.mp (by rw[this];simp)
 refine⟨by rw[a06 s.nbr];exact s.hb,a02,by rw[a06 s.npr];exact s.hp,by rw[a06 s.nfr];exact s.hf,s.nbp,s.nbf,s.npf,?_,PairsV.tk t s.P,FoldsV.tk t s.F⟩
 have e1:=e65 v e0
 rw[e1] at t ⊢
 exact Paired.snoc (RowsV.tk t s.R) ⟨rfl,EntV.tk t h⟩
end
theorem d50 {xs:List V}{i:Int}{v:V}(h0:0<=i)(h:xs[i.toNat]?=some v):atI xs i=some v:=by
 have hl:=(Ex.mp h).1
 unfold atI ixN
 rw[if_pos h0,if_pos (by omega)]
 exact h
theorem c88 {β:Type}{R:V->β->Prop}{xs:List V}{os:List β}{i:Int}(d:β)(h:Paired R xs os)(h0:0<=i)(h1:i < (xs.length:Int)):∃ w,atI xs i=some w/\R w (os.getD i.toNat d):=by
 have hl:=Paired.length h
 have hlt:i.toNat < os.length:=by omega
 obtain⟨w,e,q⟩:=e19 h (Bz hlt)
 refine⟨w,d50 h0 e,?_⟩
 rw[List.getD_eq_getElem?_getD,Bz hlt]
 exact q
theorem e35 {way:Int}(b:Bx)(g:Gr)(h:¬ way=7):e88 way b g=(b,g):=by
 unfold e88
 rw[if_neg h]
theorem e48 {i:Int}(h:decide (V.int i=V.int 7)=true):i=7:=by
 have:=AJ h
 injection this
def f76:Sp:=fun vs H Q _=>∃(b r p f:Addr)(bx:Bx)(m:b69) (xs fs:List V)(g:Gr) (n k:Nat),vs=[.ref b,.ref r,.ref p,.ref f]/\St4 H b r p f bx m xs fs g/\Good bx n/\n+500<=1000000/\GrOk g k/\k<=1000 /\
 ∀(m':b69) (xs' fs':List V)(H':Hp),St4 H' b r p f (c53 bx g).1 m' xs' fs' (c53 bx g).2->Kp [b,r,p,f] H H'->Q .non H'
section
variable {P:Program}{w:World}{K:PySem.W.Frag}{mg:Str->Option Value}{base:Heap}
theorem scGrow:FnScope ["_law_box_here", "_law_rows", "_law_pairs", "_law_folders", "_law_path", "_law_way", "_law_number", "_law_origin"] ["_law_box_here", "_law_rows", "_law_pairs", "_law_folders"] (a09 f53):=⟨rfl,rfl,rfl,by decide +kernel,rfl,by decide +kernel,by decide +kernel⟩
theorem i46 {f:Addr}{fd:FuncData}(F:Fun K "_law_grow" "_law_grow" f53 f fd)(mLen:mg "len" = none)(DT:c34 P w K mg base)(DW:Def P w K mg base 2 "_law_word" ["_law_box_here"] d88)(DA:Def P w K mg base 3 "_law_any_path" ["_law_box_here"] h44)
 (DX:Def P w K mg base 2 "_law_text" ["_law_box_here"] f32)(DN:Def P w K mg base 4 "_law_new_file" ["_law_box_here", "_law_pairs"] i49):FnOk P w K mg base CX0 5 f fd ["_law_box_here", "_law_rows", "_law_pairs", "_law_folders"] f76:=by
 refine F.ok scGrow (fun vs H Q E h=>?_) (fun cdv A outer s H vs Q E hr h=>?_)
 ·obtain⟨b,r,p,f,bx,m,xs,fs,g,n,k,rfl,_⟩:=h
  rfl
 ·obtain⟨b,r,p,ff,bx,m,xs,fs,g,n,k,rfl,S0,hg,hn,ok,hk,kk⟩:=h
  have hu:=d73 hr
  have hr1:Room 1 _:=hr.mono (by decide)
  have hr2:Room 2 _:=hr.mono (by decide)
  have hr3:Room 3 _:=hr.mono (by decide)
  have nd:=scGrow.nd
  refine⟨_,a03 (a39 (i:=4) nd rfl (Or.inl rfl) (a54 d67 (a50 a53 (pv 3) (a35 DT hr1 (a00 (pv 0) (a00 (a29 a30 (by rfl) mLen PySem.boot_len (a00 (pv 3) a04)) a04))) (fun _ _=>rfl)) (a59 (a00 (a35 DW hr2 (a00 (pv 0) a04)) a04))))
   (a03 (a39 (i:=5) nd rfl (Or.inl rfl) (a35 DT hr1 (a00 (pv 0) (a00 a07 a04))))
   (a03 (a47 (PW.pt (c32 (b21 (i78 hu (pv 4) (pv 1))) (c32 (a32 d84 (a29 a30 (by rfl) mLen PySem.boot_len (a00 (pv 4) a04)) a07 (a38 _)) (b61 (a32 d84 (a29 a30 (by rfl) mLen PySem.boot_len (a00 (pv 2) a04)) a07 (a38 _)))))) (a08 f97) a31)
   (a03 (a47 (a32 e60 (pv 5) a07 (a38 _))
     (a03 (b94 hu (pv 1) (pv 4) (a59 (a00 (pv 4) (a00 a36 (a00 (a50 a53 (a99 (a00 a62 (a00 (pv 4) (a00 (a59 a04) (a00 (a35 DA hr3 (a00 (pv 0) a04)) a04))))) (a35 DT hr1 (a00 (pv 0) (a00 a07 a04))) (fun _ _=>rfl)) a04)))) rfl)
     (a08 (b46 (b20 PySem.F.plainAttrs_list PySem.F.slot_list_append PySem.F.type_list_append b19 (pv 3) (a00 (pv 4) a04)))))
     (a08 (a47 (a32 e60 (pv 5) a07 (a38 _))
       (a03 (a39 (i:=6) nd rfl (Or.inl rfl) (i39 g22 a07))
       (a03 (a47 (PW.pt (d75 (a32 d84 (a29 a30 (by rfl) mLen PySem.boot_len (a00 (pv 2) a04)) a07 (a38 _)) (c79 (a32 b07 (a35 DT hr1 (a00 (pv 0) (a00 a07 a04))) a07 (a38 _)))))
         (a08 (a39 (i:=6) nd rfl (Or.inl rfl) (a35 DT hr1 (a00 (pv 0) (a00 (a29 a30 (by rfl) mLen PySem.boot_len (a00 (pv 2) a04)) a04))))) a31)
       (a03 (a47 (a32 e60 (pv 6) a07 (a38 _)) (a08 (a39 (i:=6) nd rfl (Or.inl rfl) (a35 DN hr (a00 (pv 0) (a00 (pv 2) a04))))) a31)
       (a08 (a47 (a32 i63 (pv 6) a07 (a38 _)) (a08 (b94 hu (pv 1) (pv 4) (a59 (a00 (pv 4) (a00 a36 (a00 (pv 6) a04)))) rfl)) a31)))))
       (a08 (b94 hu (pv 1) (pv 4) (a59 (a00 (pv 4) (a00 a36 a04))) rfl)))))
   (a08 (a47 (a32 b07 (pv 5) a07 (a38 _))
     (a03 (a39 (i:=7) nd rfl (Or.inl rfl) (a35 DA hr3 (a00 (pv 0) a04)))
     (a08 (a47 (a32 (g36 hu) (pv 7) (a92 (x := "_law_pair") scGrow ⟨rfl,by decide +kernel,by decide +kernel,by decide +kernel,by decide +kernel,by decide +kernel⟩ (by decide +kernel) (c35 (pv 2)) (fun C fp s H=>a50 (show IxR _ (j21 K) from a66) (pv 8) a07 (fun _ _=>rfl))) rfl)
       (a08 (b46 (b20 PySem.F.plainAttrs_list PySem.F.slot_list_append PySem.F.type_list_append b19 (pv 2) (a00 (a59 (a00 (pv 7) (a00 (a50 a53 (a99 (a00 a62 (a00 (a35 DX hr2 (a00 (pv 0) a04)) a04))) (a35 DT hr1 (a00 (pv 0) (a00 a07 a04))) (fun _ _=>rfl)) a04))) a04)))) a31))) a31))))),?_⟩
  have lf:fs.length=g.folds.length:=Paired.length S0.F
  have lp:xs.length=g.pairs.length:=Paired.length S0.P
  have f0:=ok.f0
  have fl:=ok.fl
  refine⟨_,rfl,_,rfl,_,rfl,ff,_,rfl,.inl (SqL.of S0.hf),b,bx,n,(fs.length:Int),rfl,by omega,by omega,S0.hb,hg,by omega,fun H1 hb1 k1=>?_⟩
  rw[lf] at hb1
  rw[lf]
  have S1:=S0.box hb1 k1
  have g1:=a28 hg (m:=(g.folds.length:Int)) (by omega)
  obtain⟨v0,hat,tf,rfl,htf⟩:=c88 [] S1.F (a41 bx (m:=(g.folds.length:Int)) (by omega)) (by rw[lf];exact a40 bx (by omega))
  obtain⟨pOk1,pOk2⟩:=e75 (b:=bx) ok
  have fLen:(g.folds.getD (a05 bx g.folds.length).1.toNat []).length<=9:=by
   have:=pOk2.len
   unfold a52 at this
   rw[Bj] at this
   omega
  refine⟨ff,_,_,_,rfl,rfl,SqL.of S1.hf,hat,_,rfl,b,_,n+1,rfl,S1.hb,g1,by omega,fun H2 hb2 k2=>⟨by show 1<=sizeLine;decide,fun tw htw=>?_⟩⟩
  have htf2:H2 tf=some (.tup ((g.folds.getD (a05 bx g.folds.length).1.toNat []).map V.str)):=(k2.tk fun a ha=>by rw[Ax.mp ha];exact a33 S1.hb) _ _ htf
  refine⟨tf,tw,(g.folds.getD (a05 bx g.folds.length).1.toNat []).map V.str,_,rfl,rfl,by rw[a06 (a01 htf2 htw)];exact htf2,a02,by rw[Aj,sizeLine_eq];show _+1<=_;omega,fun t H4 ht s4=>?_⟩
  have S4:=((S1.box hb2 k2).new (o:=.tup [V.str (b25 (a05 bx g.folds.length).2).1]) htw).same s4
  have hpath:H4 t=some (.tup ((a52 bx g).map V.str)):=by
   rw[ht]
   unfold a52
   rw[BJ]
   rfl
  have g2:=b77 g1
  have K4:Kp [b,r,p,ff] H H4:=(((k1.trans k2).mono (fun a ha=>by rw[Ax.mp ha];simp)).new htw).trans (Kp.of s4)
  refine⟨_,rfl,b,_,n+11,8,rfl,by decide,by decide,S4.hb,g2,by omega,fun H5 hb5 k5=>?_⟩
  have S5:=S4.box hb5 k5
  have hpath5:H5 t=some (.tup ((a52 bx g).map V.str)):=(k5.tk fun a ha=>by rw[Ax.mp ha];exact a33 S4.hb) _ _ hpath
  have K5:Kp [b,r,p,ff] H H5:=K4.trans (k5.mono fun a ha=>by rw[Ax.mp ha];simp)
  have gw:Good (a58 bx g).2 (n+12):=d02 hg f0
  have wlo:0<=(a58 bx g).1:=a41 _ (by decide)
  have whi:(a58 bx g).1 < 8:=a40 _ (by decide)
  have eS:∀ {x:Prop}{y:Prop},x->(x∨y):=fun h=>.inl h
  have stop:(i21 g.rows (a52 bx g)=true∨8 < (a52 bx g).length∨190 < g.pairs.length)->Q .non H5:=fun hc=>by
   have eG:c53 bx g=((a58 bx g).2,g):=by
    unfold c53
    rw[if_pos hc]
   rw[eG] at kk
   exact kk _ _ _ _ S5 K5
  refine⟨_,rfl,_,rfl,r,_,rfl,getP S5.hr hpath5,_,rfl,?_⟩
  rw[e71 S5.R]
  refine a71 (fun h1=>c01 (stop (.inl h1))) (fun h1=>?_)
  refine⟨_,rfl,t,_,rfl,.inr (SqT.of hpath5),_,_,rfl,rfl,_,rfl,?_⟩
  refine a71 (fun h2=>c01 (stop (.inr (.inl ?_)))) (fun h2=>?_)
  ·have:=AJ h2
   rw[Aj] at this
   omega
  have h2':¬ 8 < (a52 bx g).length:=fun q=>h2 (Az (by rw[Aj];omega))
  refine⟨_,rfl,p,_,rfl,.inl (SqL.of S5.hp),_,_,rfl,rfl,_,rfl,?_⟩
  refine a71 (fun h3=>stop (.inr (.inr ?_))) (fun h3=>?_)
  ·have:=AJ h3
   omega
  have h3':¬ 190 < g.pairs.length:=fun q=>h3 (Az (by rw[lp];omega))
  have hno:i21 g.rows (a52 bx g)=false:=by simpa using h1
  have eG:c53 bx g=e88 (a58 bx g).1 (e13 (a58 bx g).1 (a58 bx g).2 (a52 bx g) g).1 (e13 (a58 bx g).1 (a58 bx g).2 (a52 bx g) g).2:=by
   unfold c53
   rw[if_neg (fun q=>q.elim (fun q=>h1 q) (fun q=>q.elim h2' h3'))]
  rw[eG] at kk
  have ml:m.length<=1000:=by rw[Paired.length S5.R];have:=ok.rl;omega
  have hb5':H5 b=some (.lst (c58 (a58 bx g).2)):=hb5
  have S5':St4 H5 b r p ff (a58 bx g).2 m xs fs g:=S5
  have sub1:∀ a∈[b],a∈[b,r,p,ff]:=fun a ha=>by rw[Ax.mp ha];simp
  refine⟨_,rfl,_,_,rfl,rfl,_,rfl,?_⟩
  refine a71 (fun h4=>?_) (fun h4=>?_)
  ·-- a folder
   have h4':(a58 bx g).1 < 3:=AJ h4
   have eM:e13 (a58 bx g).1 (a58 bx g).2 (a52 bx g) g=((a05 (a74 (a58 bx g).2).2 4).2,⟨g.rows++[(a52 bx g,.dir (e57 (a05 (a74 (a58 bx g).2).2 4).1 (a52 bx g) (a74 (a58 bx g).2).1))],g.pairs,g.folds++[a52 bx g]⟩):=by
    unfold e13
    rw[if_pos h4']
   rw[eM] at kk
   rw[e35 _ _ (by omega)] at kk
   refine⟨_,rfl,_,rfl,by show 0<=sizeLine;decide,fun te hte=>?_⟩
   have S6:=S5'.new (o:=.tup []) hte
   have hpath6:(upd H5 te (.tup [])) t=some (.tup ((a52 bx g).map V.str)):=by rw[a06 (a01 hpath5 hte)];exact hpath5
   refine⟨_,rfl,b,_,n+12,rfl,S6.hb,gw,by omega,fun ta H6 hta hta6 hb6 k6=>?_⟩
   have S7:=S6.box hb6 k6
   have t6:Tk (upd H5 te (.tup [])) H6:=k6.tk fun a ha=>by rw[Ax.mp ha];exact a33 S6.hb
   refine⟨by show 4<=sizeLine;decide,fun tl htl=>?_⟩
   have S8:=S7.new (o:=.lst [V.non,V.ref t,V.ref te,V.ref ta]) htl
   have ga:=b16 gw
   refine⟨_,rfl,b,_,n+94,4,rfl,by decide,by decide,S8.hb,ga.mono (by omega),by omega,fun H9 hb9 k9=>?_⟩
   have S9:=S8.box hb9 k9
   have t9:Tk (upd H6 tl (.lst [V.non,V.ref t,V.ref te,V.ref ta])) H9:=k9.tk fun a ha=>by rw[Ax.mp ha];exact a33 S8.hb
   have tl8:Tk H6 (upd H6 tl (.lst [V.non,V.ref t,V.ref te,V.ref ta])):=Tk.of ((Same.refl _).upd htl)
   have hl9:H9 tl=some (.lst [V.non,V.ref t,V.ref te,V.ref ta]):=k9 _ _ a02 (by simpa using (a01 S7.hb htl).symm)
   have hpath9:H9 t=some (.tup ((a52 bx g).map V.str)):=t9 _ _ (tl8 _ _ (t6 _ _ hpath6))
   have hte9:H9 te=some (.tup (([]:List Str).map V.str)):=t9 _ _ (tl8 _ _ (t6 _ _ a02))
   have hta9:H9 ta=some (.tup ((a74 (a58 bx g).2).1.map V.str)):=t9 _ _ (tl8 _ _ hta6)
   obtain⟨ww,hww,oww⟩:=c88 (R:=OptP H9) (xs:=[V.non,V.ref t,V.ref te,V.ref ta]) (os:=[none,some (a52 bx g),some [],some (a74 (a58 bx g).2).1]) none (.cons rfl (.cons ⟨t,rfl,hpath9⟩ (.cons ⟨te,rfl,hte9⟩ (.cons ⟨ta,rfl,hta9⟩ .nil)))) (a41 (a74 (a58 bx g).2).2 (m:=4) (by decide)) (a40 (a74 (a58 bx g).2).2 (m:=4) (by decide))
   refine⟨tl,_,_,ww,rfl,rfl,SqL.of hl9,hww,by show 3<=sizeLine;decide,fun tt htt=>?_⟩
   have S10:=S9.new (o:=.tup [V.ref t,V.str "folder", ww]) htt
   have tk10:Tk H9 (upd H9 tt (.tup [V.ref t,V.str "folder", ww])):=Tk.of ((Same.refl _).upd htt)
   have hpath10:=tk10 _ _ hpath9
   refine⟨_,rfl,_,rfl,r,_,rfl,h64 S10.hr hpath10 (by rw[sizeLine_eq];omega),?_⟩
   have ent:EntV (upd H9 tt (.tup [V.ref t,V.str "folder", ww])) (.ref tt) (a52 bx g) (.dir (e57 (a05 (a74 (a58 bx g).2).2 4).1 (a52 bx g) (a74 (a58 bx g).2).1)):=⟨tt,t,rfl,hpath10,ww,OptP.tk tk10 oww,a02⟩
   have S11:=S10.row ent hno
   refine⟨_,rfl,.inl ⟨rfl,_,SqL.of S11.hf⟩,_,rfl,ff,fs,_,rfl,rfl,S11.hf,by rw[sizeLine_eq];omega,?_⟩
   have hpath11:(upd (upd H9 tt (.tup [V.ref t,V.str "folder", ww])) r (dP (b23 m (a52 bx g) (.ref tt)))) t=some (.tup ((a52 bx g).map V.str)):=b85 (a93 S10.hr) _ _ hpath10
   have S12:=S11.fold (v:=.ref t) ⟨t,rfl,hpath11⟩
   refine⟨_,rfl,rfl,_,rfl,?_⟩
   refine a71 (fun q=>absurd (e48 q) (by show ¬(a58 bx g).1=7;omega)) (fun _=>?_)
   refine kk _ _ _ _ S12 ?_
   have K9:Kp [b,r,p,ff] H H9:=(((K5.new hte).trans (k6.mono sub1)).new htl).trans (k9.mono sub1)
   exact((K9.new htt).set (by simp)).set (by simp)
  ·have h4':¬(a58 bx g).1 < 3:=fun q=>h4 (Az q)
   refine⟨_,rfl,_,_,rfl,rfl,_,rfl,?_⟩
   refine a71 (fun h5=>?_) (fun h5=>?_)
   ·-- a file
    have h5':(a58 bx g).1 < 6:=AJ h5
    have eM:e13 (a58 bx g).1 (a58 bx g).2 (a52 bx g) g=h23 (a58 bx g).2 (a52 bx g) g:=by
     unfold e13
     rw[if_neg h4',if_pos h5']
    rw[eM,e35 _ _ (by omega)] at kk
    have last:∀(i:Int)(bb:Bx) (xs2:List V) (ps2:List Pr)(HX:Hp),a68 (a58 bx g).2 g.pairs=(i,bb,ps2)->St4 HX b r p ff bb m xs2 fs ⟨g.rows,ps2,g.folds⟩->Kp [b,r,p,ff] H HX->HX t=some (.tup ((a52 bx g).map V.str)) ->
     (0<=i->∀ tt,HX tt=none->Q .non (upd (upd HX tt (.tup [V.ref t,V.str "file", V.int i])) r (dP (b23 m (a52 bx g) (.ref tt)))))/\(¬ 0<=i->Q .non HX):=by
     intro i bb xs2 ps2 HX e SX KX hpX
     unfold h23 at kk
     rw[e] at kk
     refine⟨fun h0 tt htt=>?_,fun h0=>?_⟩
     ·have SY:=SX.new (o:=.tup [V.ref t,V.str "file", V.int i]) htt
      have tkY:Tk HX (upd HX tt (.tup [V.ref t,V.str "file", V.int i])):=Tk.of ((Same.refl _).upd htt)
      have ent:EntV (upd HX tt (.tup [V.ref t,V.str "file", V.int i])) (.ref tt) (a52 bx g) (.fil i):=⟨tt,t,rfl,tkY _ _ hpX,a02⟩
      have SZ:=SY.row ent hno
      refine kk (b23 m (a52 bx g) (.ref tt)) xs2 fs _ ?_ ((KX.new htt).set (by simp))
      show St4 _ b r p ff bb _ _ _ ⟨if 0<=i then g.rows++[(a52 bx g,Ent.fil i)] else g.rows,ps2,g.folds⟩
      rw[if_pos h0]
      exact SZ
     ·refine kk m xs2 fs _ ?_ KX
      show St4 _ b r p ff bb _ _ _ ⟨if 0<=i then g.rows++[(a52 bx g,Ent.fil i)] else g.rows,ps2,g.folds⟩
      rw[if_neg h0]
      exact SX
    have hg190:g.pairs.length<=190:=Nat.not_lt.mp h3'
    refine⟨_,rfl,?_⟩
    refine⟨_,rfl,p,_,rfl,.inl (SqL.of S5'.hp),_,_,rfl,rfl,_,rfl,?_⟩
    refine a71 (fun h6=>?_) (fun h6=>b00 ?_)
    ·have h6':0 < g.pairs.length:=by
      have:=AJ h6
      omega
     refine⟨_,rfl,b,_,n+12,3,rfl,by decide,by decide,hb5',gw,by omega,fun H6 hb6 k6=>⟨rfl,_,rfl,?_⟩⟩
     have S6:=S5'.box hb6 k6
     have gt:=a28 gw (m:=3) (by decide)
     have hpath6:H6 t=some (.tup ((a52 bx g).map V.str)):=(k6.tk fun a ha=>by rw[Ax.mp ha];exact a33 hb5') _ _ hpath5
     have K6:=K5.trans (k6.mono sub1)
     refine a71 (fun h7=>?_) (fun h7=>?_)
     ·have h7':(a05 (a58 bx g).2 3).1=0:=by
       have:=AJ h7
       injection this
      refine⟨_,rfl,_,rfl,p,_,rfl,.inl (SqL.of S6.hp),b,_,n+13,(xs.length:Int),rfl,by omega,by omega,S6.hb,gt,by omega,fun H7 hb7 k7=>?_⟩
      rw[lp] at hb7 ⊢
      have S7:=S6.box hb7 k7
      have hpath7:H7 t=some (.tup ((a52 bx g).map V.str)):=(k7.tk fun a ha=>by rw[Ax.mp ha];exact a33 S6.hb) _ _ hpath6
      have l0:0<=(a05 (a05 (a58 bx g).2 3).2 g.pairs.length).1:=a41 _ (by omega)
      have eN:e23 (a58 bx g).2 g.pairs=a05 (a05 (a58 bx g).2 3).2 g.pairs.length:=by
       unfold e23
       rw[if_pos h6',if_pos h7']
      have e2:a68 (a58 bx g).2 g.pairs=((a05 (a05 (a58 bx g).2 3).2 g.pairs.length).1,(a05 (a05 (a58 bx g).2 3).2 g.pairs.length).2,g.pairs):=by
       unfold a68
       rw[eN,if_neg (by omega)]
      obtain⟨fin1,fin2⟩:=last _ _ _ _ H7 e2 S7 (K6.trans (k7.mono sub1)) hpath7
      refine⟨_,rfl,_,_,rfl,rfl,_,rfl,?_⟩
      refine a71 (fun q=>absurd (AJ q) (by show ¬(a05 (a05 (a58 bx g).2 3).2 g.pairs.length).1 < 0;omega)) (fun _=>?_)
      refine⟨_,rfl,_,_,rfl,rfl,_,rfl,?_⟩
      refine a71 (fun _=>?_) (fun q=>absurd (Az l0) q)
      refine⟨_,rfl,_,rfl,by show 3<=sizeLine;decide,fun tt htt=>?_⟩
      refine⟨_,rfl,_,rfl,r,_,rfl,h64 (S7.new htt).hr (by rw[a06 (a01 hpath7 htt)];exact hpath7) (by rw[sizeLine_eq];omega),?_⟩
      refine⟨_,rfl,rfl,_,rfl,?_⟩
      refine a71 (fun q=>absurd (e48 q) (by show ¬(a58 bx g).1=7;omega)) (fun _=>fin1 l0 tt htt)
     ·have h7':¬(a05 (a58 bx g).2 3).1=0:=fun q=>h7 (Az (by rw[q]))
      have eN:e23 (a58 bx g).2 g.pairs=(-1,(a05 (a58 bx g).2 3).2):=by
       unfold e23
       rw[if_pos h6',if_neg h7']
      have e2:a68 (a58 bx g).2 g.pairs=b37 (a05 (a58 bx g).2 3).2 g.pairs:=by
       unfold a68
       rw[eN,if_pos (show(-1:Int) < 0 by decide)]
      have SN:=S6
      have gN:Good (a05 (a58 bx g).2 3).2 (n+20):=gt.mono (by omega)
      have KN:=K6
      have hpN:=hpath6
      refine⟨_,rfl,_,_,rfl,rfl,_,rfl,?_⟩
      refine a71 (fun _=>?_) (fun q=>absurd (Az (by decide)) q)
      refine⟨_,rfl,_,rfl,b,p,_,n+20,xs,g.pairs,rfl,SN.hb,SN.hp,SN.nbp,SN.P,gN,by omega,by omega,fun xs2 H8 hb8 hp8 hP8 k8=>?_⟩
      have t8:Tk _ H8:=k8.tk fun a ha=>by
       rcases Cj.mp ha with q | q
       ·rw[q];exact a33 SN.hb
       ·rw[Ax.mp q];exact a33 SN.hp
      have S8:St4 H8 b r p ff (b37 (a05 (a58 bx g).2 3).2 g.pairs).2.1 m xs2 fs ⟨g.rows,(b37 (a05 (a58 bx g).2 3).2 g.pairs).2.2,g.folds⟩:=⟨hb8,k8 _ _ SN.hr (by simp[SN.nbr.symm,SN.npr.symm]),hp8,k8 _ _ SN.hf (by simp[SN.nbf.symm,SN.npf.symm]),SN.nbp,SN.nbf,SN.npf,RowsV.tk t8 SN.R,hP8,FoldsV.tk t8 SN.F⟩
      have hpath8:=t8 _ _ hpN
      obtain⟨fin1,fin2⟩:=last (b37 (a05 (a58 bx g).2 3).2 g.pairs).1 (b37 (a05 (a58 bx g).2 3).2 g.pairs).2.1 xs2 (b37 (a05 (a58 bx g).2 3).2 g.pairs).2.2 H8 e2 S8 (KN.trans (k8.mono fun a ha=>by rcases Cj.mp ha with q | q;exact q ▸ (by simp);rw[Ax.mp q];simp)) hpath8
      refine⟨_,rfl,_,_,rfl,rfl,_,rfl,?_⟩
      refine a71 (fun q=>?_) (fun q=>?_)
      ·refine⟨_,rfl,_,rfl,by show 3<=sizeLine;decide,fun tt htt=>?_⟩
       refine⟨_,rfl,_,rfl,r,_,rfl,h64 (S8.new htt).hr (by rw[a06 (a01 hpath8 htt)];exact hpath8) (by rw[sizeLine_eq];omega),?_⟩
       refine⟨_,rfl,rfl,_,rfl,?_⟩
       refine a71 (fun q=>absurd (e48 q) (by show ¬(a58 bx g).1=7;omega)) (fun _=>fin1 (AJ q) tt htt)
      ·refine⟨_,rfl,rfl,_,rfl,?_⟩
       refine a71 (fun q=>absurd (e48 q) (by show ¬(a58 bx g).1=7;omega)) (fun _=>fin2 (fun z=>q (Az z)))
    ·have h6':¬ 0 < g.pairs.length:=fun q=>h6 (Az (by rw[lp];omega))
     have eN:e23 (a58 bx g).2 g.pairs=(-1,(a58 bx g).2):=by
      unfold e23
      rw[if_neg h6']
     have e2:a68 (a58 bx g).2 g.pairs=b37 (a58 bx g).2 g.pairs:=by
      unfold a68
      rw[eN,if_pos (show(-1:Int) < 0 by decide)]
     have SN:=S5'
     have gN:Good (a58 bx g).2 (n+20):=gw.mono (by omega)
     have KN:=K5
     have hpN:=hpath5
     refine⟨_,rfl,_,_,rfl,rfl,_,rfl,?_⟩
     refine a71 (fun _=>?_) (fun q=>absurd (Az (by decide)) q)
     refine⟨_,rfl,_,rfl,b,p,_,n+20,xs,g.pairs,rfl,SN.hb,SN.hp,SN.nbp,SN.P,gN,by omega,by omega,fun xs2 H8 hb8 hp8 hP8 k8=>?_⟩
     have t8:Tk _ H8:=k8.tk fun a ha=>by
      rcases Cj.mp ha with q | q
      ·rw[q];exact a33 SN.hb
      ·rw[Ax.mp q];exact a33 SN.hp
     have S8:St4 H8 b r p ff (b37 (a58 bx g).2 g.pairs).2.1 m xs2 fs ⟨g.rows,(b37 (a58 bx g).2 g.pairs).2.2,g.folds⟩:=⟨hb8,k8 _ _ SN.hr (by simp[SN.nbr.symm,SN.npr.symm]),hp8,k8 _ _ SN.hf (by simp[SN.nbf.symm,SN.npf.symm]),SN.nbp,SN.nbf,SN.npf,RowsV.tk t8 SN.R,hP8,FoldsV.tk t8 SN.F⟩
     have hpath8:=t8 _ _ hpN
     obtain⟨fin1,fin2⟩:=last (b37 (a58 bx g).2 g.pairs).1 (b37 (a58 bx g).2 g.pairs).2.1 xs2 (b37 (a58 bx g).2 g.pairs).2.2 H8 e2 S8 (KN.trans (k8.mono fun a ha=>by rcases Cj.mp ha with q | q;exact q ▸ (by simp);rw[Ax.mp q];simp)) hpath8
     refine⟨_,rfl,_,_,rfl,rfl,_,rfl,?_⟩
     refine a71 (fun q=>?_) (fun q=>?_)
     ·refine⟨_,rfl,_,rfl,by show 3<=sizeLine;decide,fun tt htt=>?_⟩
      refine⟨_,rfl,_,rfl,r,_,rfl,h64 (S8.new htt).hr (by rw[a06 (a01 hpath8 htt)];exact hpath8) (by rw[sizeLine_eq];omega),?_⟩
      refine⟨_,rfl,rfl,_,rfl,?_⟩
      refine a71 (fun q=>absurd (e48 q) (by show ¬(a58 bx g).1=7;omega)) (fun _=>fin1 (AJ q) tt htt)
     ·refine⟨_,rfl,rfl,_,rfl,?_⟩
      refine a71 (fun q=>absurd (e48 q) (by show ¬(a58 bx g).1=7;omega)) (fun _=>fin2 (fun z=>q (Az z)))
   ·-- a mark that hides
    have h5':¬(a58 bx g).1 < 6:=fun q=>h5 (Az q)
    have eM:e13 (a58 bx g).1 (a58 bx g).2 (a52 bx g) g=((a58 bx g).2,⟨g.rows++[(a52 bx g,.gone)],g.pairs,g.folds⟩):=by
     unfold e13
     rw[if_neg h4',if_neg h5']
    rw[eM] at kk
    refine⟨_,rfl,by show 2<=sizeLine;decide,fun tt htt=>?_⟩
    have S6:=S5'.new (o:=.tup [V.ref t,V.str "gone"]) htt
    have tk6:Tk H5 (upd H5 tt (.tup [V.ref t,V.str "gone"])):=Tk.of ((Same.refl _).upd htt)
    have hpath6:=tk6 _ _ hpath5
    refine⟨_,rfl,_,rfl,r,_,rfl,h64 S6.hr hpath6 (by rw[sizeLine_eq];omega),?_⟩
    have ent:EntV (upd H5 tt (.tup [V.ref t,V.str "gone"])) (.ref tt) (a52 bx g) .gone:=⟨tt,t,rfl,hpath6,a02⟩
    have S7:=S6.row ent hno
    have K7:=(K5.new (o:=.tup [V.ref t,V.str "gone"]) htt).set (a:=r) (o:=dP (b23 m (a52 bx g) (.ref tt))) (by simp)
    generalize hG:(upd (upd H5 tt (.tup [V.ref t,V.str "gone"])) r (dP (b23 m (a52 bx g) (.ref tt))))=H7 at S7 K7 ⊢
    generalize (b23 m (a52 bx g) (.ref tt))=m7 at S7
    refine⟨_,rfl,rfl,_,rfl,?_⟩
    refine a71 (fun h7=>?_) (fun h7=>?_)
    ·have h7':(a58 bx g).1=7:=e48 h7
     refine⟨_,rfl,b,_,n+12,rfl,S7.hb,gw,by omega,fun ta H8 hta hta8 hb8 k8=>?_⟩
     have S8:=S7.box hb8 k8
     have K8:=K7.trans (k8.mono sub1)
     have ga:=b16 gw
     have hg190:g.pairs.length<=190:=Nat.not_lt.mp h3'
     refine⟨_,rfl,_,rfl,p,rfl,⟨_,SqL.of S8.hp⟩,c82 (xs:=xs) (fun i ys H'=>i<=g.pairs.length/\H'=H8/\d78 H8 ys ((g.pairs.take i).map (·.1))) (by rw[sizeLine_eq];omega)
      ⟨FJ _,rfl,.nil⟩ (fun i ys H' ⟨hi,_,e⟩=>by rw[Paired.length e,Aj,CZ];omega) (fun i ys H' _ ⟨_,e,_⟩=>by rw[e];exact SqL.of S8.hp) ?_ ?_⟩
     ·rintro i ys H' v hv ⟨hi,rfl,e⟩
      obtain⟨pr,hpr,t',w',y',rfl,o1,o2,o3⟩:=a64 S8.P hv
      have hlt:=(Ex.mp hpr).1
      refine⟨_,rfl,t',_,_,_,rfl,rfl,SqT.of o3,rfl,hlt,rfl,?_⟩
      rw[EX,hpr,BJ]
      exact Paired.snoc e o1
     ·rintro ys H' ⟨_,rfl,e⟩ L hL
      have S9:=S8.new (o:=.lst ys) hL
      have K9:=K8.new (o:=.lst ys) hL
      have tk9:Tk H' (upd H' L (.lst ys)):=Tk.of ((Same.refl _).upd hL)
      have hta9:=tk9 _ _ hta8
      have e':d78 (upd H' L (.lst ys)) ys (g.pairs.map (·.1)):=by
       rw[lp,DQ (AZ _)] at e
       exact Paired.mono (fun _ _ q=>OptP.tk tk9 q) e
      refine⟨ta,L,_,ys,_,rfl,hta9,rfl,SqL.of a02,e',_,rfl,?_⟩
      refine a71 (fun h8=>?_) (fun h8=>?_)
      ·have h8':¬ some (a74 (a58 bx g).2).1∈g.pairs.map (·.1):=fun q=>by
        have z:(!decide (some (a74 (a58 bx g).2).1∈g.pairs.map (·.1)))=true:=h8
        rw[Az q] at z
        cases z
       have eE:e88 (a58 bx g).1 (a58 bx g).2 ⟨g.rows++[(a52 bx g,.gone)],g.pairs,g.folds⟩=((a05 (a69 (a74 (a58 bx g).2).2).2 2).2,⟨g.rows++[(a52 bx g,.gone)],g.pairs++[(some (a74 (a58 bx g).2).1,[none,some (a69 (a74 (a58 bx g).2).2).1].getD (a05 (a69 (a74 (a58 bx g).2).2).2 2).1.toNat none)],g.folds⟩):=by
        unfold e88
        rw[if_pos h7',if_neg h8']
       rw[eE] at kk
       refine⟨_,rfl,.inl ⟨rfl,_,SqL.of S9.hp⟩,_,rfl,_,rfl,b,_,n+94,rfl,S9.hb,ga.mono (by omega),by omega,fun H10 hb10 k10=>?_⟩
       have S10:=S9.box hb10 k10
       have gx:=b65 ga
       refine⟨by show 2<=sizeLine;decide,fun tl htl=>?_⟩
       have S11:=S10.new (o:=.lst [V.non,V.str (a69 (a74 (a58 bx g).2).2).1]) htl
       refine⟨_,rfl,b,_,n+100,2,rfl,by decide,by decide,S11.hb,gx.mono (by omega),by omega,fun H12 hb12 k12=>?_⟩
       have S12:=S11.box hb12 k12
       have hl12:H12 tl=some (.lst [V.non,V.str (a69 (a74 (a58 bx g).2).2).1]):=k12 _ _ a02 (by simpa using (a01 S10.hb htl).symm)
       obtain⟨ww,hww,oww⟩:=c88 (R:=g82) (xs:=[V.non,V.str (a69 (a74 (a58 bx g).2).2).1]) (os:=[none,some (a69 (a74 (a58 bx g).2).2).1]) none (.cons rfl (.cons rfl .nil)) (a41 (a69 (a74 (a58 bx g).2).2).2 (m:=2) (by decide)) (a40 (a69 (a74 (a58 bx g).2).2).2 (m:=2) (by decide))
       have hta12:H12 ta=some (.tup ((a74 (a58 bx g).2).1.map V.str)):=by
        have t10:Tk (upd H' L (.lst ys)) H10:=k10.tk fun a ha=>by rw[Ax.mp ha];exact a33 S9.hb
        have t12:Tk (upd H10 tl (.lst [V.non,V.str (a69 (a74 (a58 bx g).2).2).1])) H12:=k12.tk fun a ha=>by rw[Ax.mp ha];exact a33 S11.hb
        exact t12 _ _ (Tk.of ((Same.refl _).upd htl) _ _ (t10 _ _ hta9))
       refine⟨tl,_,_,ww,rfl,rfl,SqL.of hl12,hww,by show 2<=sizeLine;decide,fun tu htu=>?_⟩
       have S13:=S12.new (o:=.tup [V.ref ta,ww]) htu
       refine⟨p,xs,_,rfl,rfl,S13.hp,by rw[sizeLine_eq];omega,?_⟩
       have pv:PairV (upd H12 tu (.tup [V.ref ta,ww])) (.ref tu) (some (a74 (a58 bx g).2).1,[none,some (a69 (a74 (a58 bx g).2).2).1].getD (a05 (a69 (a74 (a58 bx g).2).2).2 2).1.toNat none):=⟨tu,.ref ta,ww,rfl,⟨ta,rfl,by rw[a06 (a01 hta12 htu)];exact hta12⟩,oww,a02⟩
       have K12:Kp [b,r,p,ff] H H12:=((K9.trans (k10.mono sub1)).new htl).trans (k12.mono sub1)
       exact kk _ _ _ _ (S13.pair pv) ((K12.new htu).set (by simp))
      ·have h8':some (a74 (a58 bx g).2).1∈g.pairs.map (·.1):=Classical.byContradiction fun q=>h8 (by rw[Fz q];rfl)
       have eE:e88 (a58 bx g).1 (a58 bx g).2 ⟨g.rows++[(a52 bx g,.gone)],g.pairs,g.folds⟩=((a74 (a58 bx g).2).2,⟨g.rows++[(a52 bx g,.gone)],g.pairs,g.folds⟩):=by
        unfold e88
        rw[if_pos h7',if_pos h8']
       rw[eE] at kk
       exact kk _ _ _ _ S9 K9
    ·rw[e35 _ _ (fun q=>h7 (Az (by show V.int (a58 bx g).1=_;rw[q])))] at kk
     exact kk _ _ _ _ S7 K7
end
def b17 (rows:List (List Str×Ent)) (p:List Str):Option Ent:=(rows.find? fun r=>decide (r.1=p)).map (·.2)
def i07:Ent->Bool
 | .dir _=>true
 | _=>false
def i60 (rows:List (List Str×Ent)) (p:List Str)(e:Ent):List (List Str×Ent):=if (rows.any fun r=>decide (r.1=p))=true then rows.map (fun r=>if r.1=p then(r.1,e) else r) else rows++[(p,e)]
theorem d94 {H:Hp}{m:b69}{rows:List (List Str×Ent)}(h:RowsV H m rows) (p:List Str):(∀ w,a98 m p=some w->∃ e,b17 rows p=some e/\EntV H w p e)/\(a98 m p=none->b17 rows p=none):=by
 induction h with
 | nil=>exact⟨(fun w e=>by cases e),(fun _=>rfl)⟩
 | @cons q r l1 l2 hq t ih =>
  by_cases e:q.1=p
  ·have e2:r.1=p:=hq.1.symm.trans e
   have el:b17 (r::l2) p=some r.2:=by
    unfold b17
    rw[List.find?_cons_of_pos (by exact Az e2)]
    rfl
   refine⟨fun w hw=>⟨r.2,el,?_⟩,fun hn=>?_⟩
   ·rw[a70 e] at hw
    cases hw
    rw[← e2]
    exact hq.2
   ·rw[a70 e] at hn
    cases hn
  ·have e2:¬ r.1=p:=fun z=>e (hq.1.trans z)
   have el:b17 (r::l2) p=b17 l2 p:=by
    unfold b17
    rw[List.find?_cons_of_neg (by rw[Fz e2];exact Fx)]
   rw[a73 e,el]
   exact ih
theorem g95 {H:Hp}{m:b69}{rows:List (List Str×Ent)}(h:RowsV H m rows){p:List Str}{v:V}{e:Ent}(hv:EntV H v p e):RowsV H (b23 m p v) (i60 rows p e):=by
 have e1:(m.any fun kv=>decide (kv.1=p))=rows.any fun r=>decide (r.1=p):=by
  clear hv
  induction h with
  | nil=>rfl
  | cons q t ih=>rw[List.any_cons,List.any_cons,ih,q.1]
 unfold b23 i60
 rw[e1]
 split
 ·clear e1
  rename_i hh
  clear hh
  induction h with
  | nil=>exact .nil
  | @cons q r l1 l2 hq t ih =>
   rw[CJ,CJ]
   refine .cons ?_ ih
   by_cases z:q.1=p
   ·have z2:r.1=p:=hq.1.symm.trans z
    rw[if_pos z,if_pos z2]
    exact⟨hq.1,by show EntV H v r.1 e;rw[z2];exact hv⟩
   ·rw[if_neg z,if_neg (fun y=>z (hq.1.trans y))]
    exact hq
 ·exact Paired.snoc h ⟨rfl,hv⟩
def rep (name:Str) (k:Nat):List Str:=List.replicate k name
theorem d47 (name:Str) (k:Nat):rep name (k+1)=rep name k++[name]:=List.replicate_succ'
def a63 (rows:List (List Str×Ent)) (name:Str):Nat->List (List Str×Ent)×Bool
 | 0=>(rows,true)
 | k+1=>if (a63 rows name k).2=false then a63 rows name k else match b17 (a63 rows name k).1 (rep name (k+1)) with
  | some e=>((a63 rows name k).1,i07 e)
  | none=>((a63 rows name k).1++[(rep name (k+1),.dir none)],true)
def c54 (rows:List (List Str×Ent)) (name:Str):List (List Str×Ent):=if (a63 rows name 8).2=true then i60 (a63 rows name 8).1 (rep name 9) .gone else(a63 rows name 8).1
theorem c39 {rows:List (List Str×Ent)}{name:Str}{k:Nat}(h:(a63 rows name k).2=false):∀ j,a63 rows name (k+j)=a63 rows name k
 | 0=>rfl
 | j+1=>by
  have ih:=c39 h j
  show(if (a63 rows name (k+j)).2=false then a63 rows name (k+j) else _)=_
  rw[if_pos (by rw[ih];exact h)]
  exact ih
theorem c46 {rows:List (List Str×Ent)}{name:Str}{k:Nat}(h:(a63 rows name k).2=true){e:Ent}(he:b17 (a63 rows name k).1 (rep name (k+1))=some e):a63 rows name (k+1)=((a63 rows name k).1,i07 e):=by
 show(if (a63 rows name k).2=false then _ else _)=_
 rw[if_neg (by rw[h];simp),he]
theorem d13 {rows:List (List Str×Ent)}{name:Str}{k:Nat}(h:(a63 rows name k).2=true)(he:b17 (a63 rows name k).1 (rep name (k+1))=none):a63 rows name (k+1)=((a63 rows name k).1++[(rep name (k+1),.dir none)],true):=by
 show(if (a63 rows name k).2=false then _ else _)=_
 rw[if_neg (by rw[h];simp),he]
def d11 (m:Nat) (r:List Str×Ent):Prop:=r.1≠[]/\Pth r.1/\EntOk r.2 m
theorem g28 {name:Str}(h:name.length<=8){k:Nat}(hk:k<=9):Pth (rep name k):=⟨by unfold rep;rw[List.length_replicate];exact hk,fun z hz=>by rw[List.eq_of_mem_replicate hz];exact h⟩
theorem e81 (name:Str) (k:Nat):rep name (k+1)≠[]:=by
 unfold rep
 rw[List.replicate_succ]
 exact fun q=>nomatch q
theorem c73 {rows:List (List Str×Ent)}{name:Str}{m:Nat}(hn:name.length<=8)(h:∀ r∈rows,d11 m r):∀ k,k<=8->(∀ r∈(a63 rows name k).1,d11 m r)/\(a63 rows name k).1.length<=rows.length+k
 | 0,_=>⟨h,AZ _⟩
 | k+1,hk=>by
  obtain⟨i1,i2⟩:=c73 hn h k (by omega)
  show(∀ r∈(if (a63 rows name k).2=false then _ else _:List (List Str×Ent)×Bool).1,d11 m r)/\(if (a63 rows name k).2=false then _ else _:List (List Str×Ent)×Bool).1.length<=_
  split
  ·exact⟨i1,by omega⟩
  ·cases q:b17 (a63 rows name k).1 (rep name (k+1)) with
   | some e=>exact⟨i1,by show(a63 rows name k).1.length<=_;omega⟩
   | none =>
    refine⟨fun r hr=>?_,by show((a63 rows name k).1++[_]).length<=_;rw[Bj];show _+1<=_;omega⟩
    rcases Bq.mp hr with z | z
    ·exact i1 r z
    ·rw[Ax.mp z]
     exact⟨e81 _ _,g28 hn (by omega),fun zs e=>nomatch e⟩
theorem g92 {rows:List (List Str×Ent)}{name:Str}{m:Nat}(hn:name.length<=8)(h:∀ r∈rows,d11 m r):(∀ r∈c54 rows name,d11 m r)/\(c54 rows name).length<=rows.length+9:=by
 obtain⟨i1,i2⟩:=c73 hn h 8 (AZ _)
 unfold c54
 split
 ·have hr9:d11 m (rep name 9,Ent.gone):=⟨e81 _ _,g28 hn (by omega),trivial⟩
  unfold i60
  split
  ·refine⟨fun r hr=>?_,by rw[Aj];omega⟩
   obtain⟨r0,h0,rfl⟩:=Ez.mp hr
   split
   ·rename_i e
    rw[e]
    exact hr9
   ·exact i1 r0 h0
  ·refine⟨fun r hr=>?_,by rw[Bj];show _+1<=_;omega⟩
   rcases Bq.mp hr with z | z
   ·exact i1 r z
   ·rw[Ax.mp z]
    exact hr9
 ·exact⟨i1,by omega⟩
def g48:Sp:=fun vs H Q _=>∃(r:Addr) (name:Str)(m:b69) (rows:List (List Str×Ent)),vs=[.ref r,.str name]/\H r=some (dP m)/\RowsV H m rows/\rows.length<=1000/\(∀ x∈rows,d11 1000 x)/\name.length<=8 /\
 ∀(m':b69)(H':Hp),H' r=some (dP m')->RowsV H' m' (c54 rows name)->Kp [r] H H'->Q .non H'
section
variable {P:Program}{w:World}{K:PySem.W.Frag}{mg:Str->Option Value}{base:Heap}
theorem scDeep:FnScope ["_law_rows", "_law_name", "_law_path", "_law_k"] ["_law_rows", "_law_name"] (a09 f52):=⟨rfl,rfl,rfl,by decide +kernel,rfl,by decide +kernel,by decide +kernel⟩
theorem i10 {f:Addr}{fd:FuncData}(F:Fun K "_law_deep" "_law_deep" f52 f fd)(mRange:mg "range" = none):FnOk P w K mg base CX0 1 f fd ["_law_rows", "_law_name"] g48:=by
 refine F.ok scDeep (fun vs H Q E h=>?_) (fun cdv A outer s H vs Q E hr h=>?_)
 ·obtain⟨r,name,m,rows,rfl,_⟩:=h
  rfl
 ·obtain⟨r,name,m,rows,rfl,hrr,hR,hl,hok,hn,kk⟩:=h
  have hu:=d73 hr
  have nd:=scDeep.nd
  refine⟨_,a03 (a39 (i:=2) nd rfl (Or.inl rfl) (a59 a04))
   (a03 (d05 PassesOwn.never rfl (b34 rfl mRange (a00 a07 a04)) (a91 (i:=3) nd rfl (Or.inl rfl))
     (a03 (a39 (i:=2) nd rfl (Or.inl rfl) (a54 d67 (pv 2) (a59 (a00 (pv 1) a04))))
     (a08 (a47 (a32 c96 (a50 a66 (b20 PySem.F.plainAttrs_dict PySem.F.slot_dict_setdefault PySem.F.type_dict_setdefault (g71 hu) (pv 0) (a00 (pv 2) (a00 (a59 (a00 (pv 2) (a00 a36 (a00 a62 a04)))) a04))) a07 (fun _ _=>rfl)) a36 (a38 _)) (a08 f97) a31))))
   (a08 (b94 hu (pv 0) (a54 d67 (pv 2) (a59 (a00 (pv 1) a04))) (a59 (a00 (a54 d67 (pv 2) (a59 (a00 (pv 1) a04))) (a00 a36 a04))) rfl))),?_⟩
  refine⟨by show 0<=sizeLine;decide,fun t0 ht0=>?_⟩
  refine⟨_,rfl,by decide,by decide,?_⟩
  have k0:Kp [r] H (upd H t0 (.tup [])):=(Kp.refl _ H).new ht0
  refine d03 (n:=8) (fun i σ H2=>(∃ t v3 m2,σ=[some (.ref r),some (.str name),some (.ref t),v3]/\H2 t=some (.tup ((rep name i).map V.str))/\H2 r=some (dP m2)/\RowsV H2 m2 (a63 rows name i).1)/\(a63 rows name i).2=true/\Kp [r] H H2)
   ⟨⟨t0,_,m,rfl,a02,by rw[a06 (a01 hrr ht0)];exact hrr,RowsV.tk (Tk.of ((Same.refl H).upd ht0)) hR⟩,rfl,k0⟩ ?_ ?_
  ·rintro i σ H2 hi ⟨⟨t,v3,m2,rfl,ht,hr2,hR2⟩,hgo,k2⟩
   have hl2:m2.length<=1100:=by
    rw[Paired.length hR2]
    have:=(c73 hn hok i (by omega)).2
    omega
   refine⟨_,rfl,_,rfl,by show 1<=sizeLine;decide,fun tn htn=>⟨t,tn,(rep name i).map V.str,_,rfl,rfl,by rw[a06 (a01 ht htn)];exact ht,a02,by rw[Aj];unfold rep;rw[List.length_replicate,sizeLine_eq];show i+1<=_;omega,fun t' H4 ht4 s4=>?_⟩⟩
   have hp4:H4 t'=some (.tup ((rep name (i+1)).map V.str)):=by
    rw[ht4,d47,BJ]
    rfl
   have sm:Same H2 H4:=((Same.refl H2).upd (o:=.tup [V.str name]) htn).trans s4
   have hr4:H4 r=some (dP m2):=sm _ _ hr2
   have hR4:=RowsV.tk (Tk.of sm) hR2
   have k4:Kp [r] H H4:=k2.trans (Kp.of sm)
   refine⟨_,rfl,.inr (.inr (.inl ⟨rfl,.inr ⟨_,hr4⟩⟩)),_,rfl,_,rfl,by show 3<=sizeLine;decide,fun tv htv=>?_⟩
   have sv:Same H4 (upd H4 tv (.tup [V.ref t',V.str "folder", V.non])):=(Same.refl H4).upd htv
   have hr5:=sv _ _ hr4
   have hp5:=sv _ _ hp4
   have hR5:=RowsV.tk (Tk.of sv) hR4
   have k5:Kp [r] H (upd H4 tv (.tup [V.ref t',V.str "folder", V.non])):=k4.trans (Kp.of sv)
   have lk:=d94 hR5 (rep name (i+1))
   have halt:∀ e,b17 (a63 rows name i).1 (rep name (i+1))=some e->i07 e=false->Q .non (upd H4 tv (.tup [V.ref t',V.str "folder", V.non])):=fun e he hd=>by
    have e1:=c46 hgo he
    have e2:(a63 rows name (i+1)).2=false:=by rw[e1];exact hd
    have e3:=c39 e2 (8-(i+1))
    rw[show i+1+(8-(i+1))=8 by omega,e1] at e3
    have eF:c54 rows name=(a63 rows name i).1:=by
     unfold c54
     rw[e3,if_neg (by rw[hd];simp)]
    refine kk m2 _ hr5 ?_ k5
    rw[eF]
    exact hR5
   refine⟨r,t',m2,_,.ref tv,rfl,rfl,hr5,hp5,by rw[sizeLine_eq];omega,fun w hw=>?_,fun hnone=>?_⟩
   ·obtain⟨e,he,tt,pa,rfl,h1,h2⟩:=lk.1 w hw
    cases e with
    | dir o =>
     obtain⟨w',_,h4⟩:=h2
     refine⟨tt,_,_,_,rfl,rfl,SqT.of h4,rfl,rfl,_,rfl,?_⟩
     refine a71 (fun q=>?_) (fun _=>?_)
     ·rw[Az rfl] at q
      cases q
     ·have e1:=c46 hgo he
      refine⟨⟨t',_,m2,rfl,hp5,hr5,?_⟩,?_,k5⟩
      ·rw[e1]
       exact hR5
      ·rw[e1]
       rfl
    | fil j =>
     refine⟨tt,_,_,_,rfl,rfl,SqT.of h2,rfl,rfl,_,rfl,?_⟩
     refine a71 (fun _=>halt _ he rfl) (fun q=>?_)
     exact absurd (by decide +kernel) q
    | gone =>
     refine⟨tt,_,_,_,rfl,rfl,SqT.of h2,rfl,rfl,_,rfl,?_⟩
     refine a71 (fun _=>halt _ he rfl) (fun q=>?_)
     exact absurd (by decide +kernel) q
   ·have hln:=lk.2 hnone
    have e1:=d13 hgo hln
    have tkr:Tk (upd H4 tv (.tup [V.ref t',V.str "folder", V.non])) (upd (upd H4 tv (.tup [V.ref t',V.str "folder", V.non])) r (dP (b23 m2 (rep name (i+1)) (.ref tv)))):=b85 (a93 hr5)
    have htv5:(upd (upd H4 tv (.tup [V.ref t',V.str "folder", V.non])) r (dP (b23 m2 (rep name (i+1)) (.ref tv)))) tv=some (.tup [V.ref t',V.str "folder", V.non]):=tkr _ _ a02
    refine⟨tv,_,_,_,rfl,rfl,SqT.of htv5,rfl,rfl,_,rfl,?_⟩
    refine a71 (fun q=>?_) (fun _=>?_)
    ·rw[Az rfl] at q
     cases q
    ·refine⟨⟨t',_,b23 m2 (rep name (i+1)) (.ref tv),rfl,tkr _ _ hp5,a02,?_⟩,by rw[e1],k5.set (by simp)⟩
     rw[e1]
     have ep:=e65 (.ref tv) hnone
     rw[ep] at tkr htv5 ⊢
     exact Paired.snoc (RowsV.tk tkr hR5) ⟨rfl,tv,t',rfl,tkr _ _ hp5,.non,rfl,htv5⟩
  ·rintro σ H2 ⟨⟨t,v3,m2,rfl,ht,hr2,hR2⟩,hgo,k2⟩
   have hl2:m2.length<=1100:=by
    rw[Paired.length hR2]
    have:=(c73 hn hok 8 (by omega)).2
    omega
   have eF:c54 rows name=i60 (a63 rows name 8).1 (rep name 9) .gone:=by
    unfold c54
    rw[if_pos hgo]
   rw[eF] at kk
   have l8:((rep name 8).map V.str).length+[V.str name].length<=sizeLine:=by
    rw[Aj]
    unfold rep
    rw[List.length_replicate,sizeLine_eq]
    show 8+1<=16777216
    decide
   refine⟨_,rfl,_,rfl,by show 1<=sizeLine;decide,fun tn htn=>⟨t,tn,(rep name 8).map V.str,_,rfl,rfl,by rw[a06 (a01 ht htn)];exact ht,a02,l8,fun t1 H3 ht1 s3=>?_⟩⟩
   have sm:Same H2 H3:=((Same.refl H2).upd (o:=.tup [V.str name]) htn).trans s3
   refine⟨by show 2<=sizeLine;decide,fun tv htv=>?_⟩
   have sv:Same H3 (upd H3 tv (.tup [V.ref t1,V.str "gone"])):=(Same.refl H3).upd htv
   have htX:=sv _ _ (sm _ _ ht)
   refine⟨_,rfl,_,rfl,_,rfl,by show 1<=sizeLine;decide,fun tn2 htn2=>⟨t,tn2,(rep name 8).map V.str,_,rfl,rfl,by rw[a06 (a01 htX htn2)];exact htX,a02,l8,fun t2 H5 ht2 s5=>?_⟩⟩
   have s25:Same (upd H3 tv (.tup [V.ref t1,V.str "gone"])) H5:=((Same.refl _).upd (o:=.tup [V.str name]) htn2).trans s5
   have sAll:Same H2 H5:=sm.trans (sv.trans s25)
   have e9:(rep name 8).map V.str++[V.str name]=(rep name 9).map V.str:=by
    rw[show(9:Nat)=8+1 from rfl,d47,BJ]
    rfl
   rw[e9] at ht1 ht2
   refine⟨r,_,rfl,h64 (sAll _ _ hr2) ht2 (by rw[sizeLine_eq];omega),?_⟩
   have tkr:Tk H5 (upd H5 r (dP (b23 m2 (rep name 9) (.ref tv)))):=b85 (a93 (sAll _ _ hr2))
   refine kk _ _ a02 (g95 (RowsV.tk tkr (RowsV.tk (Tk.of sAll) hR2)) ⟨tv,t1,rfl,tkr _ _ (s25 _ _ (sv _ _ ht1)),tkr _ _ (s25 _ _ a02)⟩) ((k2.trans (Kp.of sAll)).set (by simp))
end
def d30:Nat->Bx->Gr->Bx×Gr
 | 0,b,g=>(b,g)
 | n+1,b,g=>c53 (d30 n b g).1 (d30 n b g).2
def i87 (ns:List Int) (k:Nat)(g:Gr):Gr:=(d30 (1+(a05 (e11 ns k) 3).1).toNat (a05 (e11 ns k) 3).2 g).2
def b86 (ns:List Int):Nat->Gr
 | 0=>⟨[],[],[[]]⟩
 | k+1=>i87 ns k (b86 ns k)
theorem c68 {b:Bx}{g:Gr}{n k:Nat}(hb:Good b n)(hg:GrOk g k):∀ i,Good (d30 i b g).1 (n+200 * i)/\GrOk (d30 i b g).2 (k+i)
 | 0=>⟨hb,hg⟩
 | i+1=>by
  obtain⟨h1,h2⟩:=c68 hb hg i
  exact⟨(f56 h1 h2.f0).mono (by omega),h37 h2⟩
theorem h38 (ns:List Int) (k:Nat){g:Gr}{n:Nat}(hg:GrOk g n):GrOk (i87 ns k g) (n+3):=by
 have lo:=a41 (e11 ns k) (m:=3) (by decide)
 have hi:=a40 (e11 ns k) (m:=3) (by decide)
 exact(c68 (a28 (b31 ns k) (m:=3) (by decide)) hg _).2.mono (by omega)
theorem c08 (ns:List Int):∀ k,GrOk (b86 ns k) (3 * k)
 | 0=>⟨AZ _,FJ _,AZ _,Nat.zero_lt_one,fun zs h=>by rw[Ax.mp h];exact⟨⟨FJ _,(fun _ q=>nomatch q)⟩,FJ _⟩,(fun _ h=>nomatch h),(fun _ h=>nomatch h)⟩
 | k+1=>(h38 ns k (c08 ns k)).mono (by omega)
def a79 (ns:List Int):Gr:=b86 ns ns.length
def c65 (ns:List Int):Bx:=e11 ns (ns.length / 2)
def e85 (ns:List Int):Bool:=decide ((a05 (c65 ns) 4).1=0)
def a86 (ns:List Int):List (List Str×Ent):=if e85 ns=true then c54 (a79 ns).rows (b25 (a05 (c65 ns) 4).2).1 else(a79 ns).rows
def f34 (ns:List Int):Bx:=if e85 ns=true then(b25 (a05 (c65 ns) 4).2).2 else(a05 (c65 ns) 4).2
def a80 (ns:List Int):Int×Bx:=a05 (f34 ns) (1+(a79 ns).pairs.length)
def d29 (np:Nat) (turn:Int):Ent->Ent
 | .fil i=>.fil ((i+turn) % np)
 | e=>e
def h41 (rows:List (List Str×Ent)) (np:Nat) (turn:Int) (p:List Str):List Str×Ent:=(p,d29 np turn ((b17 rows p).getD .gone))
def d71 (l:List (List Str)):List (List Str):=l.mergeSort fun x y=>!Srt.lexB y x
theorem uniq {R:List Str->List Str->Prop}(anti:∀ a b,R a b->R b a->a=b):∀ {l₁ l₂:List (List Str)},l₁.Perm l₂->l₁.Pairwise R->l₂.Pairwise R->l₁=l₂
 | [],l₂,p,_,_=>(List.Perm.nil_eq p)
 | a::t,[],p,_,_=>absurd p.symm (by simp)
 | a::t,b::u,p,h1,h2=>by
  have e:a=b:=by
   have ha:a∈b::u:=p.mem_iff.mp BZ
   have hb:b∈a::t:=p.mem_iff.mpr BZ
   rcases Cj.mp ha with q | q
   ·exact q
   ·rcases Cj.mp hb with q' | q'
    ·exact q'.symm
    ·exact anti a b ((List.pairwise_cons.mp h1).1 b q') ((List.pairwise_cons.mp h2).1 a q)
  subst e
  rw[uniq anti (List.Perm.cons_inv p) (List.pairwise_cons.mp h1).2 (List.pairwise_cons.mp h2).2]
theorem h45 {ks l:List (List Str)}(hp:ks.Perm l)(hs:ks.Pairwise fun x y=>Srt.lexB y x=false):ks=d71 l:=by
 refine uniq (R:=fun x y=>Srt.lexB y x=false) (fun a b h1 h2=>Srt.lexB_total h2 h1) (hp.trans (List.mergeSort_perm _ _).symm) hs ?_
 have tr:∀ a b c:List Str,(!Srt.lexB b a)=true->(!Srt.lexB c b)=true->(!Srt.lexB c a)=true:=by
  intro a b c h1 h2
  have h1':Srt.pathOrd.kle a b:=show Srt.lexB b a=false by simpa using h1
  have h2':Srt.pathOrd.kle b c:=show Srt.lexB c b=false by simpa using h2
  have:=PyProof.Rows.KeyOrd.kle_trans h1' h2'
  have h3:Srt.lexB c a=false:=this
  rw[h3]
  rfl
 have to:∀ a b:List Str,((!Srt.lexB b a)||(!Srt.lexB a b))=true:=by
  intro a b
  cases q:Srt.lexB b a with
  | false=>rfl
  | true =>
   cases q2:Srt.lexB a b with
   | false=>rfl
   | true =>
    have:=Srt.lexB_trans q q2
    rw[Srt.lexB_irrefl] at this
    cases this
 have:=List.pairwise_mergeSort (le:=fun x y=>!Srt.lexB y x) tr to l
 exact this.imp fun h=>by simpa using h
structure Lay where
 ents:List (List Str×Ent)
 pairs:List Pr
def f61 {α:Type} (xs:List α)(lo hi:Option Int):List α:=(xs.drop (HT.sIx xs.length 0 lo)).take (HT.sIx xs.length xs.length hi-HT.sIx xs.length 0 lo)
def a89 (ns:List Int):Lay :=
 ⟨(d71 ((a86 ns).map (·.1))).map (h41 (a86 ns) (a79 ns).pairs.length (a80 ns).1),f61 (a79 ns).pairs (some ((a79 ns).pairs.length-(a80 ns).1)) none++f61 (a79 ns).pairs none (some ((a79 ns).pairs.length-(a80 ns).1))⟩
abbrev EntsV (H:Hp):List V->List (List Str×Ent)->Prop:=Paired fun v e=>EntV H v e.1 e.2
theorem EntsV.tk {H H':Hp}(k:Tk H H'){vs:List V}{es:List (List Str×Ent)}(h:EntsV H vs es):EntsV H' vs es:=Paired.mono (fun _ _ q=>EntV.tk k q) h
def LayV (H:Hp) (v:V)(L:Lay):Prop:=∃ t e p es ps,v=.ref t/\H t=some (.tup [.ref e,.ref p])/\H e=some (.tup es)/\H p=some (.tup ps)/\EntsV H es L.ents/\PairsV H ps L.pairs
theorem LayV.tk {H H':Hp}(k:Tk H H'){v:V}{L:Lay}(h:LayV H v L):LayV H' v L:=by
 obtain⟨t,e,p,es,ps,h0,h1,h2,h3,h4,h5⟩:=h
 exact⟨t,e,p,es,ps,h0,k _ _ h1,k _ _ h2,k _ _ h3,EntsV.tk k h4,PairsV.tk k h5⟩
theorem c76 {α β:Type}{R:α->β->Prop}:∀ {xs:List α}{ys:List β} (n:Nat),Paired R xs ys->Paired R (xs.drop n) (ys.drop n)
 | _,_,0,h=>h
 | _,_,_+1,.nil=>.nil
 | _,_,n+1,.cons _ t=>c76 n t
theorem b93 {α β:Type}{R:α->β->Prop}:∀ {xs:List α}{ys:List β} (n:Nat),Paired R xs ys->Paired R (xs.take n) (ys.take n)
 | _,_,0,_=>.nil
 | _,_,_+1,.nil=>.nil
 | _,_,n+1,.cons r t=>.cons r (b93 n t)
theorem c40 {α β:Type}{R:α->β->Prop}:∀ {xs xs':List α}{ys ys':List β},Paired R xs ys->Paired R xs' ys'->Paired R (xs++xs') (ys++ys')
 | _,_,_,_,.nil,h=>h
 | _,_,_,_,.cons r t,h=>.cons r (c40 t h)
theorem d28 {H:Hp}{xs:List V}{ps:List Pr}(h:PairsV H xs ps)(lo hi:Option Int):PairsV H (b52 xs lo hi) (f61 ps lo hi):=by
 unfold b52 f61
 rw[Paired.length h]
 exact b93 _ (c76 _ h)
theorem e52 {ns:List Int}(h:ns.length<=63):GrOk (a79 ns) 189:=(c08 ns ns.length).mono (by omega)
theorem e89 {ns:List Int}(h:ns.length<=63):(∀ r∈a86 ns,d11 (a79 ns).pairs.length r)/\(a86 ns).length<=198:=by
 have g:=e52 h
 have hr:=g.rl
 unfold a86
 split
 ·have:=g92 (rows:=(a79 ns).rows) (m:=(a79 ns).pairs.length) (c33 (a05 (c65 ns) 4).2) g.rp
  exact⟨this.1,by omega⟩
 ·exact⟨g.rp,by omega⟩
theorem f75 (ns:List Int):Good (f34 ns) 11:=by
 have g1:=a28 (b31 ns (ns.length / 2)) (m:=4) (by decide)
 unfold f34
 split
 ·exact b77 g1
 ·exact g1.mono (by omega)
theorem f89 {S:List Addr}{H H':Hp}(k:Kp S H H')(hs:∀ a∈S,H a=none):Same H H':=fun a o e=>k a o e fun q=>by rw[hs a q] at e;cases e
structure St3 (H:Hp)(r p f:Addr)(m:b69) (xs fs:List V)(g:Gr):Prop where
 hr:H r=some (dP m)
 hp:H p=some (.lst xs)
 hf:H f=some (.lst fs)
 npf:p≠f
 R:RowsV H m g.rows
 P:PairsV H xs g.pairs
 F:FoldsV H fs g.folds
theorem St4.st3 {H:Hp}{b r p f:Addr}{bx:Bx}{m:b69}{xs fs:List V}{g:Gr}(s:St4 H b r p f bx m xs fs g):St3 H r p f m xs fs g:=⟨s.hr,s.hp,s.hf,s.npf,s.R,s.P,s.F⟩
theorem St3.st4 {H:Hp}{b r p f:Addr}{bx:Bx}{m:b69}{xs fs:List V}{g:Gr}(s:St3 H r p f m xs fs g)(hb:H b=some (.lst (c58 bx)))(n1:b≠p)(n2:b≠f):St4 H b r p f bx m xs fs g:=⟨hb,s.hr,s.hp,s.hf,n1,n2,s.npf,s.R,s.P,s.F⟩
theorem St3.same {H H':Hp}{r p f:Addr}{m:b69}{xs fs:List V}{g:Gr}(s:St3 H r p f m xs fs g)(k:Same H H'):St3 H' r p f m xs fs g:=⟨k _ _ s.hr,k _ _ s.hp,k _ _ s.hf,s.npf,RowsV.tk (Tk.of k) s.R,PairsV.tk (Tk.of k) s.P,FoldsV.tk (Tk.of k) s.F⟩
theorem St3.kp {H H':Hp}{e r p f:Addr}{m:b69}{xs fs es:List V}{g:Gr}(s:St3 H r p f m xs fs g)(he:H e=some (.lst es))(n1:p≠e)(n2:f≠e)(k:Kp [e] H H'):St3 H' r p f m xs fs g:=by
 have t:Tk H H':=k.tk fun a ha=>by rw[Ax.mp ha];exact a33 he
 exact⟨k _ _ s.hr (by simpa using (a78 he s.hr).symm),k _ _ s.hp (by simpa using n1),k _ _ s.hf (by simpa using n2),s.npf,RowsV.tk t s.R,PairsV.tk t s.P,FoldsV.tk t s.F⟩
theorem Kp.fresh {S:List Addr}{H H':Hp}{t:Addr}(k:Kp (t::S) H H')(h:H t=none):Kp S H H':=fun a o e n=>k a o e fun q=>by
 rcases Cj.mp q with z | z
 ·rw[z,h] at e
  cases e
 ·exact n z
theorem Kp.seq0 {K:PySem.W.Frag}{S:List Addr}{H H1:Hp}{a:Addr}{xs:List V}(h:Kp S H H1)(hs:∀ x∈S,H x=none)(q:SqL K H a xs):SqL K H1 a xs:=Same.seq (f89 h hs) q
theorem i38 {H:Hp}{m:b69}{rows:List (List Str×Ent)}(h:RowsV H m rows){zs:List Str}(hz:zs∈m.map (·.1)):∃ w,a98 m zs=some w:=by
 cases q:a98 m zs with
 | some w=>exact⟨w,rfl⟩
 | none=>exact absurd hz (g88 q)
theorem f82 {H:Hp}{m:b69}{rows:List (List Str×Ent)}(h:RowsV H m rows):m.map (·.1)=rows.map (·.1):=by
 induction h with
 | nil=>rfl
 | cons q t ih=>rw[CJ,CJ,ih,q.1]
theorem f58 {H:Hp}{m:b69}{rows:List (List Str×Ent)}{n:Nat}(h:RowsV H m rows)(hk:∀ r∈rows,d11 n r):∀ p∈m,p.1≠[]:=by
 intro p hp
 have:p.1∈rows.map (·.1):=by
  rw[← f82 h]
  exact List.mem_map_of_mem hp
 obtain⟨r,hr,e⟩:=Ez.mp this
 rw[← e]
 exact(hk r hr).1
theorem e82 {rows:List (List Str×Ent)}{p:List Str}{e:Ent}(h:b17 rows p=some e):(p,e)∈rows:=by
 unfold b17 at h
 obtain⟨r,hr,rfl⟩:=Option.map_eq_some_iff.mp h
 have h1:=List.find?_some hr
 have h2:=List.mem_of_find?_eq_some hr
 have e1:r.1=p:=AJ h1
 rw[← e1]
 exact h2
def e50 (K:PySem.W.Frag):Sp:=fun vs H Q _=>∃(a:Addr) (ns:List Int),vs=[.ref a]/\SqL K H a (ns.map V.int)/\ns.length<=63/\∀(v:V)(H':Hp),LayV H' v (a89 ns)->Same H H'->Q v H'
section
variable {P:Program}{w:World}{K:PySem.W.Frag}{mg:Str->Option Value}{base:Heap}
theorem scLayer:FnScope ["_law_script", "_law_rows", "_law_pairs", "_law_folders", "_law_k", "_law_box_here", "_law_turn", "_law_last", "_law_entries", "_law_path", "_law_row"] ["_law_script"] (a09 d15):=⟨rfl,rfl,rfl,by decide +kernel,rfl,by decide +kernel,by decide +kernel⟩
theorem h52 {f:Addr}{fd:FuncData}(F:Fun K "_law_layer" "_law_layer" d15 f fd)(mLen:mg "len" = none)(mRange:mg "range" = none)(mTuple:mg "tuple" = none)(mSorted:mg "sorted" = none)(DT:c34 P w K mg base)(DB:Def P w K mg base 1 "_law_box" ["_law_script", "_law_k"] (i27 K))
 (DW:Def P w K mg base 2 "_law_word" ["_law_box_here"] d88)(DG:Def P w K mg base 5 "_law_grow" ["_law_box_here", "_law_rows", "_law_pairs", "_law_folders"] f76)(DD:Def P w K mg base 1 "_law_deep" ["_law_rows", "_law_name"] g48):FnOk P w K mg base CX0 6 f fd ["_law_script"] (e50 K):=by
 refine F.ok scLayer (fun vs H Q E h=>?_) (fun cdv A outer s H vs Q E hr h=>?_)
 ·obtain⟨a,ns,rfl,_⟩:=h
  rfl
 ·obtain⟨a,ns,rfl,hS,hlen,kk⟩:=h
  have hu:=d73 hr
  have hr1:Room 1 _:=hr.mono (by decide)
  have hr2:Room 2 _:=hr.mono (by decide)
  have nd:=scLayer.nd
  refine⟨_,a03 (a39 (i:=1) nd rfl (Or.inl rfl) e77)
   (a03 (a39 (i:=2) nd rfl (Or.inl rfl) (a99 a04))
   (a03 (a39 (i:=3) nd rfl (Or.inl rfl) (a99 (a00 (a59 a04) a04)))
   (a03 (d05 PassesOwn.never rfl (b34 rfl mRange (a00 (a29 a30 (by rfl) mLen PySem.boot_len (a00 (pv 0) a04)) a04)) (a91 (i:=4) nd rfl (Or.inl rfl))
     (a03 (a39 (i:=5) nd rfl (Or.inl rfl) (a35 DB hr1 (a00 (pv 0) (a00 (pv 4) a04))))
     (a08 (d05 PassesOwn.never rfl (b34 rfl mRange (a00 (a54 b02 a07 (a35 DT hr1 (a00 (pv 5) (a00 a07 a04)))) a04)) (a91 (i:=6) nd rfl (Or.inl rfl))
       (a08 (b46 (a35 DG hr (a00 (pv 5) (a00 (pv 1) (a00 (pv 2) (a00 (pv 3) a04)))))))))))
   (a03 (a39 (i:=7) nd rfl (Or.inl rfl) (a35 DB hr1 (a00 (pv 0) (a00 (a54 d69 (a29 a30 (by rfl) mLen PySem.boot_len (a00 (pv 0) a04)) a07) a04))))
   (a03 (a47 (a32 b07 (a35 DT hr1 (a00 (pv 7) (a00 a07 a04))) a07 (a38 _)) (a08 (b46 (a35 DD hr1 (a00 (pv 1) (a00 (a35 DW hr2 (a00 (pv 7) a04)) a04))))) a31)
   (a03 (a39 (i:=6) nd rfl (Or.inl rfl) (a35 DT hr1 (a00 (pv 7) (a00 (a54 b02 a07 (a29 a30 (by rfl) mLen PySem.boot_len (a00 (pv 2) a04))) a04))))
   (a03 (a39 (i:=8) nd rfl (Or.inl rfl) (a99 a04))
   (a03 (d05 PassesOwn.never rfl (c35 (a29 (d76 rfl) (by rfl) mSorted PyProof.Rows.boot_sorted (a00 (pv 1) a04))) (a91 (i:=9) nd rfl (Or.inl rfl))
     (a03 (a39 (i:=10) nd rfl (Or.inl rfl) (i05 hu (pv 1) (pv 9) (fun _ _=>rfl)))
     (a03 (a47 (a32 b07 (a50 a66 (pv 10) a07 (fun _ _=>rfl)) a36 (a38 _))
       (a08 (a39 (i:=10) nd rfl (Or.inl rfl) (a59 (a00 (pv 9) (a00 a36 (a00 (a54 b59 (a54 b02 (a50 a66 (pv 10) a07 (fun _ _=>rfl)) (pv 6)) (a29 a30 (by rfl) mLen PySem.boot_len (a00 (pv 2) a04))) a04)))))) a31)
     (a08 (b46 (b20 PySem.F.plainAttrs_list PySem.F.slot_list_append PySem.F.type_list_append b19 (pv 8) (a00 (pv 10) a04)))))))
   (a08 (a37 (a59 (a00 (a82 a72 (by rfl) mTuple PyProof.Rows.Boot.tuple (a00 (pv 8) a04))
     (a00 (a82 a72 (by rfl) mTuple PyProof.Rows.Boot.tuple (a00 (a54 h73 (b05 d36 (pv 2) (b38 (a54 e87 (a29 a30 (by rfl) mLen PySem.boot_len (a00 (pv 2) a04)) (pv 6))) b49)
       (b05 d36 (pv 2) b49 (b38 (a54 e87 (a29 a30 (by rfl) mLen PySem.boot_len (a00 (pv 2) a04)) (pv 6))))) a04)) a04))))))))))))),?_⟩
  intro r hrn
  refine⟨by show 0<=sizeLine;decide,fun p hpn=>?_⟩
  refine⟨by show 0<=sizeLine;decide,fun t0 ht0=>⟨by show 1<=sizeLine;decide,fun ff hfn=>?_⟩⟩
  have nrp:r≠p:=a01 a02 hpn
  have hp0:H p=none:=by rw[a06 nrp.symm] at hpn;exact hpn
  have kA:Kp [r,p,ff] H (upd (upd H r (dP [])) p (.lst [])):=((Kp.refl _ H).new hrn).new hpn
  have kB:Kp [r,p,ff] H (upd (upd (upd H r (dP [])) p (.lst [])) t0 (.tup [])):=kA.new ht0
  have npt:p≠t0:=a01 a02 ht0
  have hrA:(upd (upd H r (dP [])) p (.lst [])) r=some (dP []):=by rw[a06 nrp,a02]
  have hrB:(upd (upd (upd H r (dP [])) p (.lst [])) t0 (.tup [])) r=some (dP []):=by rw[a06 (a01 hrA ht0)];exact hrA
  have hpB:(upd (upd (upd H r (dP [])) p (.lst [])) t0 (.tup [])) p=some (.lst []):=by rw[a06 npt,a02]
  have hf0:H ff=none:=by
   cases q:H ff with
   | none=>rfl
   | some o =>
    have n1:ff≠r:=fun z=>by rw[z,hrn] at q;cases q
    have n2:ff≠p:=fun z=>by rw[z,hp0] at q;cases q
    have:(upd (upd H r (dP [])) p (.lst [])) ff=some o:=by rw[a06 n2,a06 n1];exact q
    have n3:ff≠t0:=a01 this ht0
    rw[a06 n3] at hfn
    have z:some o=none:=this.symm.trans hfn
    cases z
  have npf:p≠ff:=a01 hpB hfn
  have S0:St3 (upd (upd (upd (upd H r (dP [])) p (.lst [])) t0 (.tup [])) ff (.lst [V.ref t0])) r p ff [] [] [V.ref t0] (b86 ns 0) :=
   ⟨by rw[a06 (a01 hrB hfn)];exact hrB,by rw[a06 npf];exact hpB,a02,npf,.nil,.nil,.cons ⟨t0,rfl,by rw[a06 (a01 (show(upd (upd (upd H r (dP [])) p (.lst [])) t0 (.tup [])) t0=some (.tup []) from a02) hfn)];exact a02⟩ .nil⟩
  have K0:Kp [r,p,ff] H (upd (upd (upd (upd H r (dP [])) p (.lst [])) t0 (.tup [])) ff (.lst [V.ref t0])):=kB.new hfn
  have fr:∀ x∈[r,p,ff],H x=none:=fun x hx=>by
   simp only[Cj,List.not_mem_nil,or_false] at hx
   rcases hx with rfl | rfl | rfl <;> assumption
  refine⟨_,rfl,a,_,rfl,.inl (K0.seq0 fr hS),_,rfl,by rw[Aj];omega,by rw[Aj];omega,?_⟩
  have en:(((ns.map V.int).length:Nat):Int).toNat=ns.length:=by rw[Dq,Aj]
  rw[en]
  refine d03 (n:=ns.length) (fun i σ H2=>(∃ v4 v5 v6 v7 v8 v9 v10 m xs fs,σ=[some (.ref a),some (.ref r),some (.ref p),some (.ref ff),v4,v5,v6,v7,v8,v9,v10]/\St3 H2 r p ff m xs fs (b86 ns i))/\Kp [r,p,ff] H H2)
   ⟨⟨_,_,_,_,_,_,_,_,_,_,rfl,S0⟩,K0⟩ ?_ ?_
  ·rintro i σ H2 hi ⟨⟨v4,v5,v6,v7,v8,v9,v10,m,xs,fs,rfl,S2⟩,K2⟩
   refine⟨_,rfl,_,rfl,a,ns,i,congrArg (fun z=>[V.ref a,V.int z]) (Int.zero_add _),K2.seq0 fr hS,by omega,hlen,fun b H3 hbn hb3 s3=>?_⟩
   have S3:=(S2.same s3).st4 hb3 (a01 (S2.hp) hbn).symm (a01 S2.hf hbn).symm
   have hb0:H b=none:=K2.free (by simp only[Cj,List.not_mem_nil,or_false,not_or];exact⟨(a01 S2.hr hbn).symm,(a01 S2.hp hbn).symm,(a01 S2.hf hbn).symm⟩) hbn
   have K3:Kp [r,p,ff] H H3:=K2.trans (Kp.of s3)
   have lo:=a41 (e11 ns i) (m:=3) (by decide)
   have hi3:=a40 (e11 ns i) (m:=3) (by decide)
   have g0:=a28 (b31 ns i) (m:=3) (by decide)
   have gr:=c08 ns i
   refine⟨_,rfl,b,_,0,3,rfl,by decide,by decide,S3.hb,b31 ns i,by omega,fun H4 hb4 k4=>⟨_,_,rfl,rfl,_,rfl,by omega,by omega,?_⟩⟩
   have S4:=S3.box hb4 k4
   have sub4:∀ x∈[b],x∈[b,r,p,ff]:=fun x hx=>by rw[Ax.mp hx];simp
   have sub3:∀ x∈[r,p,ff],x∈[b,r,p,ff]:=fun x hx=>BX _ hx
   have K4:Kp [b,r,p,ff] H H4:=(K3.mono sub3).trans (k4.mono sub4)
   have ec:b86 ns (i+1)=(d30 (1+(a05 (e11 ns i) 3).1).toNat (a05 (e11 ns i) 3).2 (b86 ns i)).2:=rfl
   rw[ec]
   have hj3:(1+(a05 (e11 ns i) 3).1).toNat<=3:=by omega
   generalize (1+(a05 (e11 ns i) 3).1).toNat=jj at hj3 ⊢
   refine d03 (n:=jj) (fun j σ H5=>(∃ v4 v6 v7 v8 v9 v10 m xs fs,σ=[some (.ref a),some (.ref r),some (.ref p),some (.ref ff),v4,some (.ref b),v6,v7,v8,v9,v10]/\St4 H5 b r p ff (d30 j (a05 (e11 ns i) 3).2 (b86 ns i)).1 m xs fs (d30 j (a05 (e11 ns i) 3).2 (b86 ns i)).2)/\Kp [b,r,p,ff] H H5)
    ⟨⟨_,_,_,_,_,_,_,_,_,rfl,S4⟩,K4⟩ ?_ ?_
   ·rintro j σ H5 hj ⟨⟨v4,v6,v7,v8,v9,v10,m,xs,fs,rfl,S5⟩,K5⟩
    obtain⟨i1,i2⟩:=c68 g0 gr j
    refine⟨_,rfl,_,rfl,_,rfl,_,rfl,b,r,p,ff,_,m,xs,fs,_,_,_,rfl,S5,i1,by omega,i2,by omega,fun m' xs' fs' H6 S6 k6=>?_⟩
    exact⟨⟨_,_,_,_,_,_,_,_,_,rfl,S6⟩,K5.trans k6⟩
   ·rintro σ H5 ⟨⟨v4,v6,v7,v8,v9,v10,m,xs,fs,rfl,S5⟩,K5⟩
    exact⟨⟨_,_,_,_,_,_,_,_,_,_,rfl,S5.st3⟩,K5.fresh hb0⟩
  ·rintro σ H2 ⟨⟨v4,v5,v6,v7,v8,v9,v10,m,xs,fs,rfl,S2⟩,K2⟩
   have S2':St3 H2 r p ff m xs fs (a79 ns):=S2
   have gok:=e52 hlen
   have r2ok:=e89 hlen
   have lp:xs.length=(a79 ns).pairs.length:=Paired.length S2'.P
   have hpl:=gok.pl
   have e2:(((ns.map V.int).length:Nat):Int) / 2=((ns.length / 2:Nat):Int):=by rw[Aj];omega
   refine⟨_,rfl,_,rfl,a,_,rfl,.inl (K2.seq0 fr hS),_,_,rfl,rfl,⟨by decide,by decide⟩,a,ns,ns.length / 2,congrArg (fun z=>[V.ref a,V.int z]) e2,K2.seq0 fr hS,by omega,hlen,fun tl H3 htn htl3 s3=>?_⟩
   have S3:St4 H3 tl r p ff (c65 ns) m xs fs (a79 ns):=(S2'.same s3).st4 htl3 (a01 S2.hp htn).symm (a01 S2.hf htn).symm
   have htl0:H tl=none:=K2.free (by simp only[Cj,List.not_mem_nil,or_false,not_or];exact⟨(a01 S2.hr htn).symm,(a01 S2.hp htn).symm,(a01 S2.hf htn).symm⟩) htn
   have subt:∀ x∈[tl],x∈[tl,r,p,ff]:=fun x hx=>by rw[Ax.mp hx];simp
   have K3:Kp [tl,r,p,ff] H H3:=(K2.trans (Kp.of s3)).mono fun x hx=>BX _ hx
   have gl:Good (c65 ns) 0:=b31 ns _
   refine⟨_,rfl,tl,_,0,4,rfl,by decide,by decide,S3.hb,gl,by omega,fun H4 hb4 k4=>⟨rfl,_,rfl,?_⟩⟩
   have S4:=S3.box hb4 k4
   have K4:=K3.trans (k4.mono subt)
   have g4:=a28 gl (m:=4) (by decide)
   refine' joinT (A:=fun HX mX=>St4 HX tl r p ff (f34 ns) mX xs fs ⟨a86 ns,(a79 ns).pairs,(a79 ns).folds⟩/\Kp [tl,r,p,ff] H HX) (fun rest=>a71 (fun h1=>?b1) (fun h1=>?b2)) ?b3
   case b1 =>
    have h1':(a05 (c65 ns) 4).1=0:=by
     have:=AJ h1
     injection this
    have ed:e85 ns=true:=Az h1'
    have er:a86 ns=c54 (a79 ns).rows (b25 (a05 (c65 ns) 4).2).1:=by unfold a86;rw[if_pos ed]
    have eb:f34 ns=(b25 (a05 (c65 ns) 4).2).2:=by unfold f34;rw[if_pos ed]
    refine⟨_,rfl,_,rfl,tl,_,1,rfl,S4.hb,g4,by omega,fun H5 hb5 k5=>?_⟩
    have S5:=S4.box hb5 k5
    have rok:∀ x∈(a79 ns).rows,d11 1000 x:=fun x hx=>by
     have:=gok.rp x hx
     exact⟨this.1,this.2.1,this.2.2.mono (by omega)⟩
    refine⟨r,_,m,(a79 ns).rows,rfl,S5.hr,S5.R,by have:=gok.rl;omega,rok,c33 _,fun mX HX hrX hRX kX=>?_⟩
    have tX:Tk H5 HX:=kX.tk fun a ha=>by rw[Ax.mp ha];exact a93 S5.hr
    have SX:St4 HX tl r p ff (f34 ns) mX xs fs ⟨a86 ns,(a79 ns).pairs,(a79 ns).folds⟩:=⟨by rw[eb];exact kX _ _ S5.hb (by simpa using S5.nbr),hrX,kX _ _ S5.hp (by simpa using S5.npr),kX _ _ S5.hf (by simpa using S5.nfr),S5.nbp,S5.nbf,S5.npf,by rw[er];exact hRX,PairsV.tk tX S5.P,FoldsV.tk tX S5.F⟩
    have KX:Kp [tl,r,p,ff] H HX:=(K4.trans (k5.mono subt)).trans (kX.mono fun x hx=>by rw[Ax.mp hx];simp)
    exact rest HX mX ⟨SX,KX⟩
   case b2 =>
    have h1':¬(a05 (c65 ns) 4).1=0:=fun q=>h1 (Az (by rw[q]))
    have ed:¬ e85 ns=true:=fun q=>h1' (AJ q)
    have er:a86 ns=(a79 ns).rows:=by unfold a86;rw[if_neg ed]
    have eb:f34 ns=(a05 (c65 ns) 4).2:=by unfold f34;rw[if_neg ed]
    have SX:St4 H4 tl r p ff (f34 ns) m xs fs ⟨a86 ns,(a79 ns).pairs,(a79 ns).folds⟩:=⟨by rw[eb];exact S4.hb,S4.hr,S4.hp,S4.hf,S4.nbp,S4.nbf,S4.npf,by rw[er];exact S4.R,S4.P,S4.F⟩
    exact rest H4 m ⟨SX,K4⟩
   case b3 =>
    rintro HX mX ⟨SX,KX⟩
    refine⟨_,rfl,_,rfl,p,_,rfl,.inl (SqL.of SX.hp),_,_,rfl,rfl,tl,f34 ns,11,1+(xs.length:Int),rfl,by omega,by omega,SX.hb,f75 ns,by omega,fun H6 hb6 k6=>?_⟩
    rw[lp] at hb6 ⊢
    have S6:=SX.box hb6 k6
    have K6:Kp [tl,r,p,ff] H H6:=KX.trans (k6.mono fun a ha=>by rw[Ax.mp ha];simp)
    refine⟨by show 0<=sizeLine;decide,fun te hte=>?_⟩
    have S7:=S6.new (o:=.lst []) hte
    have K7:=K6.new (o:=.lst []) hte
    have hte0:H te=none:=K6.free (by simp only[Cj,List.not_mem_nil,or_false,not_or];exact⟨(a01 S6.hb hte).symm,(a01 S6.hr hte).symm,(a01 S6.hp hte).symm,(a01 S6.hf hte).symm⟩) hte
    refine⟨_,rfl,r,mX,rfl,S7.hr,f58 S7.R r2ok.1,fun l as ks hperm hpw hpa hl=>⟨l,rfl,⟨_,SqL.of a02⟩,?_⟩⟩
    have S8:=(S7.new (o:=.lst (as.map V.ref)) hl).st3
    have K8:=K7.new (o:=.lst (as.map V.ref)) hl
    have hl8:(upd (upd H6 te (.lst [])) l (.lst (as.map V.ref))) l=some (.lst (as.map V.ref)):=a02
    have nel:te≠l:=a01 a02 hl
    have hte8:(upd (upd H6 te (.lst [])) l (.lst (as.map V.ref))) te=some (.lst []):=by rw[a06 nel,a02]
    have tk8:Tk (upd H6 te (.lst [])) (upd (upd H6 te (.lst [])) l (.lst (as.map V.ref))):=Tk.of ((Same.refl _).upd hl)
    have hpa8:b56 (upd (upd H6 te (.lst [])) l (.lst (as.map V.ref))) as ks:=Paired.mono (fun _ _ q=>tk8 _ _ q) hpa
    have npe:p≠te:=a01 S6.hp hte
    have nfe:ff≠te:=a01 S6.hf hte
    have ek:ks=d71 ((a86 ns).map (·.1)):=h45 (hperm.trans (.of_eq (f82 S7.R))) hpw
    have ll:as.length=ks.length:=Paired.length hpa
    have lk:ks.length<=198:=by
     rw[hperm.length_eq,Aj,Paired.length S7.R]
     exact r2ok.2
    have lm:mX.length<=198:=by rw[Paired.length S7.R];exact r2ok.2
    generalize hH8:(upd (upd H6 te (.lst [])) l (.lst (as.map V.ref)))=H8 at S8 K8 hl8 hte8 hpa8 ⊢
    refine d66 (xs:=as.map V.ref) (fun i σ H2=>(∃ v4 v5 v7 v9 v10 es,σ=[some (.ref a),some (.ref r),some (.ref p),some (.ref ff),v4,v5,some (.int (a80 ns).1),v7,some (.ref te),v9,v10]/\H2 te=some (.lst es)/\EntsV H2 es ((ks.take i).map (h41 (a86 ns) (a79 ns).pairs.length (a80 ns).1)))/\Kp [te] H8 H2)
     ⟨⟨_,_,_,_,_,_,rfl,hte8,.nil⟩,Kp.refl _ _⟩ (fun i σ H2 _ ⟨_,k⟩=>SqL.of (k _ _ hl8 (by simpa using nel.symm))) ?_ ?_
    ·rintro i x σ H2 hx ⟨⟨v4,v5,v7,v9,v10,es,rfl,hte2,hes⟩,k2⟩
     have S9:=S8.kp hte8 npe nfe k2
     have t2:Tk H8 H2:=k2.tk fun a ha=>by rw[Ax.mp ha];exact a33 hte8
     rw[CQ] at hx
     obtain⟨ai,hai,rfl⟩:=Option.map_eq_some_iff.mp hx
     obtain⟨zs,hzs,hz⟩:=a64 hpa8 hai
     have hz2:=t2 _ _ hz
     have hlt:=(Ex.mp hzs).1
     have hmem:zs∈mX.map (·.1):=hperm.mem_iff.mp (BQ hzs)
     obtain⟨ww,hww⟩:=i38 S9.R hmem
     obtain⟨e,hel,hev⟩:=(d94 S9.R zs).1 ww hww
     have hget:DGet H2 r (.ref ai) (some ww):=by rw[← hww];exact getP S9.hr hz2
     have les:es.length<=198:=by rw[Paired.length hes,Aj,CZ];omega
     have nxt:(ks.take (i+1)).map (h41 (a86 ns) (a79 ns).pairs.length (a80 ns).1)=(ks.take i).map (h41 (a86 ns) (a79 ns).pairs.length (a80 ns).1)++[(zs,d29 (a79 ns).pairs.length (a80 ns).1 e)]:=by
      rw[EX,hzs,BJ]
      show _++[h41 _ _ _ zs]=_
      unfold h41
      rw[show b17 (a86 ns) zs=some e from hel]
      rfl
     have app:∀(v:V)(HY:Hp),Kp [te] H8 HY->HY te=some (.lst es)->EntsV HY es ((ks.take i).map (h41 (a86 ns) (a79 ns).pairs.length (a80 ns).1))->EntV HY v zs (d29 (a79 ns).pairs.length (a80 ns).1 e) ->
      (upd HY te (.lst (es++[v]))) te=some (.lst (es++[v]))/\EntsV (upd HY te (.lst (es++[v]))) (es++[v]) ((ks.take (i+1)).map (h41 (a86 ns) (a79 ns).pairs.length (a80 ns).1))/\Kp [te] H8 (upd HY te (.lst (es++[v]))):=by
      intro v HY kY hY hE hv
      have tY:Tk HY (upd HY te (.lst (es++[v]))):=b85 (a33 hY)
      refine⟨a02,?_,kY.set (by simp)⟩
      rw[nxt]
      exact Paired.snoc (EntsV.tk tY hE) (EntV.tk tY hv)
     refine⟨_,rfl,_,rfl,r,ww,rfl,hget,?_⟩
     obtain⟨tt,pa,rfl,h1,h2⟩:=id hev
     cases e with
     | dir o =>
      obtain⟨w',_,h4⟩:=h2
      refine⟨_,rfl,tt,_,_,_,rfl,rfl,SqT.of h4,rfl,rfl,_,rfl,?_⟩
      refine a71 (fun q=>absurd q (by decide +kernel)) (fun _=>?_)
      refine⟨_,rfl,.inl ⟨rfl,_,SqL.of hte2⟩,_,rfl,te,es,_,rfl,rfl,hte2,by rw[sizeLine_eq];omega,?_⟩
      obtain⟨a1,a2,a3⟩:=app _ H2 k2 hte2 hes hev
      exact⟨⟨_,_,_,_,_,_,rfl,a1,a2⟩,a3⟩
     | gone =>
      refine⟨_,rfl,tt,_,_,_,rfl,rfl,SqT.of h2,rfl,rfl,_,rfl,?_⟩
      refine a71 (fun q=>absurd q (by decide +kernel)) (fun _=>?_)
      refine⟨_,rfl,.inl ⟨rfl,_,SqL.of hte2⟩,_,rfl,te,es,_,rfl,rfl,hte2,by rw[sizeLine_eq];omega,?_⟩
      obtain⟨a1,a2,a3⟩:=app _ H2 k2 hte2 hes hev
      exact⟨⟨_,_,_,_,_,_,rfl,a1,a2⟩,a3⟩
     | fil j =>
      have hj:=(r2ok.1 _ (e82 hel)).2.2
      have hj1:0<=j/\j < ((a79 ns).pairs.length:Int):=hj
      refine⟨_,rfl,tt,_,_,_,rfl,rfl,SqT.of h2,rfl,rfl,_,rfl,?_⟩
      refine a71 (fun _=>?_) (fun q=>absurd (by decide +kernel) q)
      refine⟨_,rfl,_,rfl,tt,_,_,_,rfl,rfl,SqT.of h2,rfl,_,rfl,_,_,rfl,rfl,_,rfl,p,_,rfl,.inl (SqL.of S9.hp),_,_,rfl,rfl,(show(0:Int) < (xs.length:Int) by omega),by show 3<=sizeLine;decide,fun tu htu=>?_⟩
      have neu:te≠tu:=a01 hte2 htu
      have su:Same H2 (upd H2 tu (.tup [V.ref ai,V.str "file", V.int ((j+(a80 ns).1) % (xs.length:Int))])):=(Same.refl _).upd htu
      refine⟨_,rfl,.inl ⟨rfl,_,SqL.of (su _ _ hte2)⟩,_,rfl,te,es,_,rfl,rfl,su _ _ hte2,by rw[sizeLine_eq];omega,?_⟩
      obtain⟨a1,a2,a3⟩:=app (.ref tu) _ (k2.trans (Kp.of su)) (su _ _ hte2) (EntsV.tk (Tk.of su) hes) ⟨tu,ai,rfl,su _ _ hz2,by
       rw[a02,lp]
       rfl⟩
      exact⟨⟨_,_,_,_,_,_,rfl,a1,a2⟩,a3⟩
    ·rintro σ H2 ⟨⟨v4,v5,v7,v9,v10,es,rfl,hte2,hes⟩,k2⟩
     have S9:=S8.kp hte8 npe nfe k2
     rw[Aj,ll,DQ (AZ _),ek] at hes
     have lx:xs.length<=192:=by rw[lp];exact gok.pl
     refine⟨_,rfl,te,_,rfl,.inl ⟨SqL.of hte2,fun t1 ht1=>?_⟩⟩
     have s1:Same H2 (upd H2 t1 (.tup es)):=(Same.refl _).upd ht1
     have SA:=S9.same s1
     refine⟨_,rfl,_,rfl,p,_,rfl,.inl (SqL.of SA.hp),_,rfl,_,_,rfl,rfl,_,rfl,p,_,rfl,SqL.of SA.hp,fun c1 hc1=>?_⟩
     have s2:Same (upd H2 t1 (.tup es)) _:=(Same.refl _).upd (o:=.lst (b52 xs (some ((xs.length:Int)-(a80 ns).1)) none)) hc1
     have SB:=SA.same s2
     refine⟨_,rfl,_,rfl,p,_,rfl,.inl (SqL.of SB.hp),_,rfl,_,_,rfl,rfl,_,rfl,p,_,rfl,SqL.of SB.hp,fun c2 hc2=>?_⟩
     have s3:Same (upd (upd H2 t1 (.tup es)) c1 (.lst (b52 xs (some ((xs.length:Int)-(a80 ns).1)) none))) _:=(Same.refl _).upd (o:=.lst (b52 xs none (some ((xs.length:Int)-(a80 ns).1)))) hc2
     have SC:=SB.same s3
     refine⟨c1,c2,_,_,rfl,rfl,s3 _ _ a02,a02,?_,fun c3 hc3=>?_⟩
     ·have b1:=b47 xs (some ((xs.length:Int)-(a80 ns).1)) none
      have b2:=b47 xs none (some ((xs.length:Int)-(a80 ns).1))
      rw[sizeLine_eq]
      omega
     have s4:=(Same.refl (upd (upd (upd H2 t1 (.tup es)) c1 (.lst (b52 xs (some ((xs.length:Int)-(a80 ns).1)) none))) c2 (.lst (b52 xs none (some ((xs.length:Int)-(a80 ns).1)))))).upd (o:=.lst (b52 xs (some ((xs.length:Int)-(a80 ns).1)) none++b52 xs none (some ((xs.length:Int)-(a80 ns).1)))) hc3
     have SD:=SC.same s4
     refine⟨c3,_,rfl,.inl ⟨SqL.of a02,fun t2 ht2=>?_⟩⟩
     have s5:=(Same.refl (upd (upd (upd (upd H2 t1 (.tup es)) c1 (.lst (b52 xs (some ((xs.length:Int)-(a80 ns).1)) none))) c2 (.lst (b52 xs none (some ((xs.length:Int)-(a80 ns).1))))) c3 (.lst (b52 xs (some ((xs.length:Int)-(a80 ns).1)) none++b52 xs none (some ((xs.length:Int)-(a80 ns).1)))))).upd (o:=.tup (b52 xs (some ((xs.length:Int)-(a80 ns).1)) none++b52 xs none (some ((xs.length:Int)-(a80 ns).1)))) ht2
     refine⟨by show 2<=sizeLine;decide,fun t3 ht3=>?_⟩
     have s25:=s2.trans (s3.trans (s4.trans s5))
     have h2t:=s25 _ _ (show(upd H2 t1 (.tup es)) t1=some (.tup es) from a02)
     have SE:=SD.same s5
     have s6:=(Same.refl _).upd (o:=.tup [V.ref t1,V.ref t2]) ht3
     refine kk (.ref t3) _ ⟨t3,t1,t2,es,_,rfl,a02,s6 _ _ h2t,s6 _ _ a02,EntsV.tk (Tk.of (s1.trans (s25.trans s6))) hes,?_⟩ ?_
     ·have PE:=(SE.same s6).P
      rw[show(a89 ns).pairs=f61 (a79 ns).pairs (some ((a79 ns).pairs.length-(a80 ns).1)) none++f61 (a79 ns).pairs none (some ((a79 ns).pairs.length-(a80 ns).1)) from rfl,← lp]
      exact c40 (d28 PE _ _) (d28 PE _ _)
     ·have KZ:Kp [te,tl,r,p,ff] H H2:=(K8.mono (fun a ha=>BX _ ha)).trans (k2.mono fun a ha=>by rw[Ax.mp ha];simp)
      refine(f89 KZ ?_).trans (s1.trans (s25.trans s6))
      intro x hx
      simp only[Cj,List.not_mem_nil,or_false] at hx
      rcases hx with rfl | rfl | rfl | rfl | rfl
      ·exact hte0
      ·exact htl0
      ·exact hrn
      ·exact hp0
      ·exact hf0
end
def SL:Str := "/"
def b62 (zs:List Str):List Str:=zs.map fun z=>SL++z
def a34 (zs:List Str):Str:=if zs=[] then SL else Txt.join "" (b62 zs)
theorem b90:∀(zs:List Str),(∀ z∈zs,z.length<=8)->((b62 zs).map (·.length)).sum<=9 * zs.length
 | [],_=>AZ _
 | z::r,h=>by
  have ih:=b90 r fun x hx=>h x (BX _ hx)
  have hz:=h z BZ
  unfold b62 at ih ⊢
  rw[CJ,CJ,List.sum_cons,Dj,Cz]
  have e1:SL.length=1:=by decide +kernel
  omega
theorem c03 {α β:Type}{f:α->β}{xs:List α}{i:Nat}{x:α}(h:xs[i]?=some x):(xs.take i).map f++[f x]=(xs.take (i+1)).map f:=by
 rw[EX,h,BJ]
 rfl
theorem a84 {zs:List Str}(h:Pth zs):(a34 zs).length<=81:=by
 unfold a34
 split
 ·decide +kernel
 ·rw[c71]
  have:=b90 zs h.nam
  have:=h.len
  omega
def spPT:Sp:=fun vs H Q _=>∃(t:Addr) (zs:List Str),vs=[.ref t]/\H t=some (.tup (zs.map V.str))/\Pth zs/\∀ H',Same H H'->Q (.str (a34 zs)) H'
def b83 (x:List Str×Ent):Str:=match x.2 with
 | .gone=>Str.empty ++ "gone " ++ a34 x.1
 | .fil i=>Str.empty ++ "file " ++ a34 x.1 ++ " " ++ (toString i:String)
 | .dir none=>Str.empty ++ "folder " ++ a34 x.1 ++ " alone"
 | .dir (some b)=>Str.empty ++ "folder " ++ a34 x.1 ++ " over " ++ a34 b
def b87 (x:List Str×Ent):List Str:=match x.2 with
 | .gone=>["gone", a34 x.1]
 | .fil i=>["file", a34 x.1,(toString i:String)]
 | .dir none=>["folder", a34 x.1, "alone"]
 | .dir (some b)=>["folder", a34 x.1, "over", a34 b]
def ofP (o:Option (List Str)):Str:=match o with
 | none => "data"
 | some zs => "data" ++ (" of " ++ a34 zs)
def prP (x:Pr):Str:=match x.2 with
 | none=>ofP x.1
 | some z=>ofP x.1++(" =" ++ z)
theorem join2 (a b:Str):Txt.join " " [a,b]=a ++ " " ++ b:=Srt.str_ext (by
 show(Builtin.Str.glued (" " : Str) [a,b]).cps.toList=_
 simp[Builtin.Str.glued,Str.cps_append])
theorem i96 (a b c:Str):Txt.join " " [a,b,c]=a ++ " " ++ b ++ " " ++ c:=Srt.str_ext (by
 show(Builtin.Str.glued (" " : Str) [a,b,c]).cps.toList=_
 simp[Builtin.Str.glued,Str.cps_append])
theorem join4 (a b c d:Str):Txt.join " " [a,b,c,d]=a ++ " " ++ b ++ " " ++ c ++ " " ++ d:=Srt.str_ext (by
 show(Builtin.Str.glued (" " : Str) [a,b,c,d]).cps.toList=_
 simp[Builtin.Str.glued,Str.cps_append])
theorem a75 (a b c:Str):a++b++c=a++(b++c):=Srt.str_ext (by simp[Str.cps_append])
theorem f01 (x:List Str×Ent):Txt.join " " (b87 x)=b83 x:=by
 obtain⟨p,e⟩:=x
 cases e with
 | gone =>
  show Txt.join " " [_,_]=_
  rw[join2,show("gone" : Str) ++ " " = Str.empty ++ "gone " by decide +kernel]
  rfl
 | fil i =>
  show Txt.join " " [_,_,_]=_
  rw[i96,show("file" : Str) ++ " " = Str.empty ++ "file " by decide +kernel]
  rfl
 | dir o =>
  cases o with
  | none =>
   show Txt.join " " [_,_,_]=_
   rw[i96,show("folder" : Str) ++ " " = Str.empty ++ "folder " by decide +kernel,a75 (_++a34 p),show(" " : Str) ++ "alone" = " alone" by decide +kernel]
   rfl
  | some b =>
   show Txt.join " " [_,_,_,_]=_
   rw[join4,show("folder" : Str) ++ " " = Str.empty ++ "folder " by decide +kernel,a75 (_++a34 p),show(" " : Str) ++ "over" = " over" by decide +kernel,a75 (_++a34 p),show(" over" : Str) ++ " " = " over " by decide +kernel]
   rfl
theorem f95 (i:Int)(h0:0<=i)(h1:i < 1000):((toString i:String):Str).length<=1002:=by
 have:=PyProof.Rows.len_str_of_int i
 omega
theorem i35 {i:Int}(h0:0<=i)(h1:i < 1000):i.natAbs.log2 < 1920:=by
 have:=Nat.log2_le_self i.natAbs
 omega
theorem f28 {x:List Str×Ent}(hp:Pth x.1)(he:EntOk x.2 1000):(b83 x).length<=1200:=by
 obtain⟨p,e⟩:=x
 have hl:(a34 p).length<=81:=a84 hp
 have e0:Str.empty.length=0:=by decide +kernel
 have e1:("gone " : Str).length=5:=by decide +kernel
 have e2:("file " : Str).length=5:=by decide +kernel
 have e3:("folder " : Str).length=7:=by decide +kernel
 have e4:(" " : Str).length=1:=by decide +kernel
 have e5:(" alone" : Str).length=6:=by decide +kernel
 have e6:(" over " : Str).length=6:=by decide +kernel
 cases e with
 | gone =>
  show(Str.empty ++ "gone " ++ a34 p).length<=_
  rw[Dj,Dj]
  omega
 | fil i =>
  have:=f95 i he.1 he.2
  show(Str.empty ++ "file " ++ a34 p ++ " " ++ (toString i:String)).length<=_
  rw[Dj,Dj,Dj,Dj]
  omega
 | dir o =>
  cases o with
  | none =>
   show(Str.empty ++ "folder " ++ a34 p ++ " alone").length<=_
   rw[Dj,Dj,Dj]
   omega
  | some b =>
   have:=a84 (he b rfl)
   show(Str.empty ++ "folder " ++ a34 p ++ " over " ++ a34 b).length<=_
   rw[Dj,Dj,Dj,Dj]
   omega
theorem g38 {o:Option (List Str)}(h:∀ zs,o=some zs->Pth zs):(ofP o).length<=100:=by
 have e1:("data" : Str).length=4:=by decide +kernel
 have e2:(" of " : Str).length=4:=by decide +kernel
 cases o with
 | none =>
  show("data" : Str).length<=_
  omega
 | some zs =>
  have:=a84 (h zs rfl)
  show(("data" : Str)++(" of " ++ a34 zs)).length<=_
  rw[Dj,Dj]
  omega
theorem h90 {x:Pr}(h:PrOk x):(prP x).length<=400:=by
 obtain⟨o,z⟩:=x
 have:=g38 h.org
 have e2:(" =" : Str).length=2:=by decide +kernel
 cases z with
 | none =>
  show(ofP o).length<=_
  have:(ofP o).length<=100:=this
  omega
 | some z =>
  have hz:=h.txt z rfl
  have:(ofP o).length<=100:=this
  show(ofP o++(" =" ++ z)).length<=_
  rw[Dj,Dj]
  omega
section
variable {P:Program}{w:World}{K:PySem.W.Frag}{mg:Str->Option Value}{base:Heap}
theorem scPathText:FnScope ["path"] ["path"] (a09 b36):=⟨rfl,rfl,rfl,by decide +kernel,rfl,by decide +kernel,by decide +kernel⟩
theorem e24 {f:Addr}{fd:FuncData}(F:Fun K "path_text" "path_text" b36 f fd):FnOk P w K mg base CX0 1 f fd ["path"] spPT:=by
 refine F.ok scPathText (fun vs H Q E h=>?_) (fun cdv A outer s H vs Q E hr h=>?_)
 ·obtain⟨t,zs,rfl,_⟩:=h
  rfl
 ·obtain⟨t,zs,rfl,ht,hp,k⟩:=h
  have h8:=hp.len
  have hz:=hp.nam
  have nd:=scPathText.nd
  refine⟨_,a03 (a47 (a32 (h67 hr.units0) (pv 0) (a59 a04) (a38 _)) (a08 (a37 a36)) a31)
   (a08 (a37 (b20 PySem.F.plainAttrs_str PySem.F.slot_str_join PySem.F.type_str_join c77 a36 (a00 (a92 (x := "name") scPathText ⟨rfl,by decide +kernel,by decide +kernel,by decide +kernel,by decide +kernel,by decide +kernel⟩ (by decide +kernel) (e98 (pv 0))
     (fun C fp s H=>a54 c42 a36 (pv 1))) a04)))),?_⟩
  refine⟨_,rfl,by show 0<=sizeLine;decide,fun u hu=>?_⟩
  have s1:Same H (upd H u (.tup [])):=(Same.refl H).upd hu
  refine⟨t,u,zs,[],rfl,rfl,SqT.of (s1 _ _ ht),SqT.of a02,_,rfl,?_⟩
  refine a71 (fun h1=>?_) (fun h1=>?_)
  ·have e:a34 zs=SL:=by unfold a34;rw[if_pos (AJ h1)]
   show Q (.str SL) _
   rw[← e]
   exact k _ s1
  ·have e:a34 zs=Txt.join "" (b62 zs):=by unfold a34;rw[if_neg fun q=>h1 (Az q)]
   refine⟨rfl,_,rfl,t,rfl,⟨_,SqT.of (s1 _ _ ht)⟩,d49 (xs:=zs.map V.str) (fun i ys H'=>i<=zs.length/\H'=upd H u (.tup [])/\ys=((zs.take i).map fun z=>SL++z).map V.str) (by rw[Aj,sizeLine_eq];omega)
    ⟨FJ _,rfl,rfl⟩ (fun i ys H' ⟨hi,_,e⟩=>by rw[e,Aj,Aj,CZ];omega) (fun i ys H' _ ⟨_,e,_⟩=>by rw[e];exact SqT.of (s1 _ _ ht)) ?_ ?_⟩
   ·rintro i ys H' v hv ⟨hi,e1,e2⟩
    obtain⟨p,rfl,hp⟩:∃ p,v=V.str p/\zs[i]?=some p:=by
     rw[CQ] at hv
     cases q:zs[i]? with
     | none=>rw[q] at hv;cases hv
     | some p=>rw[q] at hv;exact⟨p,(EJ hv).symm,rfl⟩
    have hlt:=(Ex.mp hp).1
    have hpl:=hz p (BQ hp)
    refine⟨_,rfl,_,_,rfl,rfl,by show 1+p.length<=sizeLine;rw[sizeLine_eq];omega,hlt,e1,?_⟩
    rw[e2,← c03 (f:=fun z=>SL++z) hp,BJ]
    rfl
   ·rintro ys H' ⟨_,e1,e2⟩ D hD
    rw[Aj] at e2
    have e':ys=(b62 zs).map V.str:=by rw[e2,DQ (AZ _)];rfl
    have hsum:=b90 zs hz
    refine⟨"", D,b62 zs,rfl,rfl,SqL.of (by rw[a02,e']),by show _+_ * 0<=_;omega,?_⟩
    rw[← e]
    subst e1
    exact k _ (s1.upd hD)
end
def g01:Sp:=fun vs H Q _=>∃(v:V) (x:List Str×Ent),vs=[v]/\EntV H v x.1 x.2/\Pth x.1/\EntOk x.2 1000/\∀ H',Same H H'->Q (.str (b83 x)) H'
def h94:Sp:=fun vs H Q _=>∃(v:V)(x:Pr),vs=[v]/\PairV H v x/\PrOk x/\∀ H',Same H H'->Q (.str (prP x)) H'
section
variable {P:Program}{w:World}{K:PySem.W.Frag}{mg:Str->Option Value}{base:Heap}
theorem scEntT:FnScope ["entry", "where", "number", "beneath"] ["entry"] (a09 b08):=⟨rfl,rfl,rfl,by decide +kernel,rfl,by decide +kernel,by decide +kernel⟩
theorem i58 {f:Addr}{fd:FuncData}(F:Fun K "entry_text" "entry_text" b08 f fd)(DP:Def P w K mg base 1 "path_text" ["path"] spPT):FnOk P w K mg base CX0 2 f fd ["entry"] g01:=by
 refine F.ok scEntT (fun vs H Q E h=>?_) (fun cdv A outer s H vs Q E hr h=>?_)
 ·obtain⟨v,x,rfl,_⟩:=h
  rfl
 ·obtain⟨v,⟨p,e⟩,rfl,hv,hp,he,kk⟩:=h
  have nd:=scEntT.nd
  refine⟨_,a03 (a39 (i:=1) nd rfl (Or.inl rfl) (a35 DP hr (a00 (a50 a66 (pv 0) a07 (fun _ _=>rfl)) a04)))
   (a03 (a47 (a32 b07 (a50 a66 (pv 0) a07 (fun _ _=>rfl)) a36 (a38 _)) (a08 (a37 (d60 (d00 (d19 (pv 1) f30))))) a31)
   (a03 (a47 (a32 b07 (a50 a66 (pv 0) a07 (fun _ _=>rfl)) a36 (a38 _))
     (a03 (a39 (i:=2) nd rfl (Or.inl rfl) (a50 a66 (pv 0) a07 (fun _ _=>rfl)))
     (a08 (a37 (d60 (d00 (d19 (pv 1) (d00 (d19 (pv 2) f30)))))))) a31)
   (a03 (a47 (a32 j04 (a50 a66 (pv 0) a07 (fun _ _=>rfl)) a62 (a38 _)) (a08 (a37 (d60 (d00 (d19 (pv 1) (d00 f30)))))) a31)
   (a03 (a39 (i:=3) nd rfl (Or.inl rfl) (a35 DP hr (a00 (a50 a66 (pv 0) a07 (fun _ _=>rfl)) a04)))
   (a08 (a37 (d60 (d00 (d19 (pv 1) (d00 (d19 (pv 3) f30)))))))))))  , ?_⟩
  obtain⟨t,pa,rfl,hpa,h2⟩:=hv
  have hpt:=a84 hp
  have el:=f28 hp he
  have sz:∀(a:Str),a.length<=1300->a.length<=sizeLine:=fun a ha=>by rw[sizeLine_eq];omega
  have e0:Str.empty.length=0:=by decide +kernel
  have e1:("gone " : Str).length=5:=by decide +kernel
  have e2:("file " : Str).length=5:=by decide +kernel
  have e3:("folder " : Str).length=7:=by decide +kernel
  have e4:(" " : Str).length=1:=by decide +kernel
  have hpt':(a34 p).length<=81:=hpt
  cases e with
  | gone =>
   refine⟨_,rfl,t,_,_,_,rfl,rfl,SqT.of h2,rfl,pa,p,rfl,hpa,hp,fun H1 s1=>?_⟩
   refine⟨_,rfl,t,_,_,_,rfl,rfl,SqT.of (s1 _ _ h2),rfl,rfl,_,rfl,?_⟩
   refine a71 (fun _=>?_) (fun q=>absurd (by decide +kernel) q)
   have l1:(Str.empty ++ "gone ").length<=1300:=by rw[Dj];omega
   have l2:(Str.empty ++ "gone " ++ a34 p).length<=1300:=by rw[Dj,Dj];omega
   exact⟨sz _ l1,_,rfl,_,.inl rfl,sz _ (by omega),sz _ l2,sz _ l2,kk H1 s1⟩
  | fil i =>
   refine⟨_,rfl,t,_,_,_,rfl,rfl,SqT.of h2,rfl,pa,p,rfl,hpa,hp,fun H1 s1=>?_⟩
   have h2':=s1 _ _ h2
   refine⟨_,rfl,t,_,_,_,rfl,rfl,SqT.of h2',rfl,rfl,_,rfl,?_⟩
   refine a71 (fun q=>absurd q (by decide +kernel)) (fun _=>?_)
   refine⟨_,rfl,t,_,_,_,rfl,rfl,SqT.of h2',rfl,rfl,_,rfl,?_⟩
   refine a71 (fun _=>?_) (fun q=>absurd (by decide +kernel) q)
   refine⟨_,rfl,t,_,_,_,rfl,rfl,SqT.of h2',rfl,?_⟩
   have hd:=f95 i he.1 he.2
   have l1:(Str.empty ++ "file ").length<=1300:=by rw[Dj];omega
   have l2:(Str.empty ++ "file " ++ a34 p).length<=1300:=by rw[Dj,Dj];omega
   have l3:(Str.empty ++ "file " ++ a34 p ++ " ").length<=1300:=by rw[Dj,Dj,Dj];omega
   have l4:(Str.empty ++ "file " ++ a34 p ++ " " ++ (toString i:String)).length<=1300:=by rw[Dj,Dj,Dj,Dj];omega
   exact⟨sz _ l1,_,rfl,_,.inl rfl,sz _ (by omega),sz _ l2,sz _ l3,_,rfl,_,.inr ⟨i,rfl,i35 he.1 he.2,rfl⟩,sz _ (by omega),sz _ l4,sz _ l4,kk H1 s1⟩
  | dir o =>
   obtain⟨ww,ho,h4⟩:=h2
   refine⟨_,rfl,t,_,_,_,rfl,rfl,SqT.of h4,rfl,pa,p,rfl,hpa,hp,fun H1 s1=>?_⟩
   have h4':=s1 _ _ h4
   refine⟨_,rfl,t,_,_,_,rfl,rfl,SqT.of h4',rfl,rfl,_,rfl,?_⟩
   refine a71 (fun q=>absurd q (by decide +kernel)) (fun _=>?_)
   refine⟨_,rfl,t,_,_,_,rfl,rfl,SqT.of h4',rfl,rfl,_,rfl,?_⟩
   refine a71 (fun q=>absurd q (by decide +kernel)) (fun _=>?_)
   have l1:(Str.empty ++ "folder ").length<=1300:=by rw[Dj];omega
   have l2:(Str.empty ++ "folder " ++ a34 p).length<=1300:=by rw[Dj,Dj];omega
   cases o with
   | none =>
    cases (show ww=.non from ho)
    refine⟨_,rfl,t,_,_,_,rfl,rfl,SqT.of h4',rfl,rfl,_,rfl,?_⟩
    refine a71 (fun _=>?_) (fun q=>absurd (Az rfl) q)
    have l3:(Str.empty ++ "folder " ++ a34 p ++ " alone").length<=1300:=by
     have:(" alone" : Str).length=6:=by decide +kernel
     rw[Dj,Dj,Dj];omega
    exact⟨sz _ l1,_,rfl,_,.inl rfl,sz _ (by omega),sz _ l2,sz _ l3,sz _ l3,kk H1 s1⟩
   | some bs =>
    obtain⟨ab,rfl,hab⟩:=ho
    refine⟨_,rfl,t,_,_,_,rfl,rfl,SqT.of h4',rfl,rfl,_,rfl,?_⟩
    refine a71 (fun q=>absurd (AJ q) (fun z=>nomatch z)) (fun _=>?_)
    have hb:=he bs rfl
    have hbl:=a84 hb
    refine⟨_,rfl,t,_,_,_,rfl,rfl,SqT.of h4',rfl,ab,bs,rfl,s1 _ _ hab,hb,fun H2 s2=>?_⟩
    have e6:(" over " : Str).length=6:=by decide +kernel
    have l3:(Str.empty ++ "folder " ++ a34 p ++ " over ").length<=1300:=by rw[Dj,Dj,Dj];omega
    have l4:(Str.empty ++ "folder " ++ a34 p ++ " over " ++ a34 bs).length<=1300:=by rw[Dj,Dj,Dj,Dj];omega
    exact⟨sz _ l1,_,rfl,_,.inl rfl,sz _ (by omega),sz _ l2,sz _ l3,_,rfl,_,.inl rfl,sz _ (by omega),sz _ l4,sz _ l4,kk H2 (s1.trans s2)⟩
end
section
variable {P:Program}{w:World}{K:PySem.W.Frag}{mg:Str->Option Value}{base:Heap}
theorem scPrT:FnScope ["pair", "written"] ["pair"] (a09 b27):=⟨rfl,rfl,rfl,by decide +kernel,rfl,by decide +kernel,by decide +kernel⟩
theorem i80 {f:Addr}{fd:FuncData}(F:Fun K "pair_text" "pair_text" b27 f fd)(DP:Def P w K mg base 1 "path_text" ["path"] spPT):FnOk P w K mg base CX0 2 f fd ["pair"] h94:=by
 refine F.ok scPrT (fun vs H Q E h=>?_) (fun cdv A outer s H vs Q E hr h=>?_)
 ·obtain⟨v,x,rfl,_⟩:=h
  rfl
 ·obtain⟨v,⟨o,z⟩,rfl,hv,hok,kk⟩:=h
  have nd:=scPrT.nd
  refine⟨_,a03 (a39 (i:=1) nd rfl (Or.inl rfl) a36)
   (a03 (a47 (a32 d56 (a50 a66 (pv 0) a07 (fun _ _=>rfl)) a62 (a38 _)) (a08 (h62 (i:=1) nd rfl (Or.inl rfl) (a54 c42 a36 (a35 DP hr (a00 (a50 a66 (pv 0) a07 (fun _ _=>rfl)) a04))) h66)) a31)
   (a03 (a47 (a32 d56 (a50 a66 (pv 0) a07 (fun _ _=>rfl)) a62 (a38 _)) (a08 (h62 (i:=1) nd rfl (Or.inl rfl) (a54 c42 a36 (a50 a66 (pv 0) a07 (fun _ _=>rfl))) h66)) a31)
   (a08 (a37 (pv 1))))),?_⟩
  obtain⟨t,ww,y,rfl,ho,hy,ht⟩:=hv
  have lo:=g38 hok.org
  have lo':(ofP o).length<=100:=lo
  have e1:("data" : Str).length=4:=by decide +kernel
  have e2:(" of " : Str).length=4:=by decide +kernel
  have e3:(" =" : Str).length=2:=by decide +kernel
  have second:∀(H1:Hp),Same H H1->∀(z':Option Str),z'=z->H1 t=some (.tup [ww,y]):=fun H1 s1 _ _=>s1 _ _ ht
  refine⟨_,rfl,t,_,_,_,rfl,rfl,SqT.of ht,rfl,rfl,_,rfl,?_⟩
  cases o with
  | none =>
   cases (show ww=.non from ho)
   refine a71 (fun q=>absurd q (by decide)) (fun _=>?_)
   refine⟨_,rfl,t,_,_,_,rfl,rfl,SqT.of ht,rfl,rfl,_,rfl,?_⟩
   cases z with
   | none =>
    cases (show y=.non from hy)
    refine a71 (fun q=>absurd q (by decide)) (fun _=>?_)
    exact⟨_,rfl,kk H (Same.refl H)⟩
   | some z =>
    cases (show y=.str z from hy)
    have hz:=hok.txt z rfl
    refine a71 (fun _=>?_) (fun q=>absurd rfl q)
    refine⟨_,rfl,_,rfl,t,_,_,_,rfl,rfl,SqT.of ht,rfl,_,_,rfl,rfl,by rw[sizeLine_eq];omega,_,_,rfl,rfl,by rw[Dj,sizeLine_eq];omega,?_⟩
    exact⟨_,rfl,kk H (Same.refl H)⟩
  | some zs =>
   obtain⟨a,rfl,ha⟩:=ho
   have hp:=hok.org zs rfl
   have hl:=a84 hp
   refine a71 (fun _=>?_) (fun q=>absurd rfl q)
   refine⟨_,rfl,_,rfl,t,_,_,_,rfl,rfl,SqT.of ht,rfl,a,zs,rfl,ha,hp,fun H1 s1=>?_⟩
   refine⟨_,_,rfl,rfl,by rw[sizeLine_eq];omega,_,_,rfl,rfl,by rw[Dj,sizeLine_eq];omega,?_⟩
   refine⟨_,rfl,t,_,_,_,rfl,rfl,SqT.of (s1 _ _ ht),rfl,rfl,_,rfl,?_⟩
   cases z with
   | none =>
    cases (show y=.non from hy)
    refine a71 (fun q=>absurd q (by decide)) (fun _=>?_)
    exact⟨_,rfl,kk H1 s1⟩
   | some z =>
    cases (show y=.str z from hy)
    have hz:=hok.txt z rfl
    have lo2:(("data" : Str)++(" of " ++ a34 zs)).length<=100:=lo
    refine a71 (fun _=>?_) (fun q=>absurd rfl q)
    refine⟨_,rfl,_,rfl,t,_,_,_,rfl,rfl,SqT.of (s1 _ _ ht),rfl,_,_,rfl,rfl,by rw[sizeLine_eq];omega,_,_,rfl,rfl,by rw[Dj (" =" : Str),sizeLine_eq];omega,?_⟩
    exact⟨_,rfl,kk H1 s1⟩
end
structure LayOk (L:Lay):Prop where
 el:L.ents.length<=198
 pl:L.pairs.length<=400
 eo:∀ x∈L.ents,Pth x.1/\EntOk x.2 1000
 po:∀ x∈L.pairs,PrOk x
def a49 (L:Lay):List Str:=L.ents.map b83++L.pairs.map prP
theorem g03 {l:List Str}{n:Nat}(h:∀ z∈l,z.length<=n):(l.map (·.length)).sum<=n * l.length:=by
 induction l with
 | nil=>exact FJ _
 | cons z l ih =>
  rw[CJ,List.sum_cons,Cz,Nat.mul_succ]
  have h1:=h z BZ
  have h2:=ih fun y hy=>h y (BX _ hy)
  omega
theorem d92 {L:Lay}(h:LayOk L):((a49 L).map (·.length)).sum+(a49 L).length * ("\n" : Str).length<=16777216:=by
 have hs:∀ z∈a49 L,z.length<=1200:=fun z hz=>by
  rcases Bq.mp hz with q | q
  ·obtain⟨x,hx,rfl⟩:=Ez.mp q
   exact f28 (h.eo x hx).1 (h.eo x hx).2
  ·obtain⟨x,hx,rfl⟩:=Ez.mp q
   have:=h90 (h.po x hx)
   omega
 have hl:(a49 L).length<=598:=by
  unfold a49
  rw[Bj,Aj,Aj]
  have:=h.el
  have:=h.pl
  omega
 have h1:=g03 hs
 have e1:("\n" : Str).length=1:=by decide +kernel
 rw[e1]
 omega
def spLT:Sp:=fun vs H Q _=>∃(v:V)(L:Lay),vs=[v]/\LayV H v L/\LayOk L/\∀ H',Same H H'->Q (.str (Txt.join "\n" (a49 L))) H'
section
variable {P:Program}{w:World}{K:PySem.W.Frag}{mg:Str->Option Value}{base:Heap}
theorem scLT:FnScope ["layer", "rows"] ["layer"] (a09 b12):=⟨rfl,rfl,rfl,by decide +kernel,rfl,by decide +kernel,by decide +kernel⟩
theorem ok_LT {f:Addr}{fd:FuncData}(F:Fun K "layer_text" "layer_text" b12 f fd)(DE:Def P w K mg base 2 "entry_text" ["entry"] g01)(DP:Def P w K mg base 2 "pair_text" ["pair"] h94):FnOk P w K mg base CX0 3 f fd ["layer"] spLT:=by
 refine F.ok scLT (fun vs H Q E h=>?_) (fun cdv A outer s H vs Q E hr h=>?_)
 ·obtain⟨v,L,rfl,_⟩:=h
  rfl
 ·obtain⟨v,L,rfl,hv,ok,kk⟩:=h
  have nd:=scLT.nd
  refine⟨_,a03 (a39 (i:=1) nd rfl (Or.inl rfl) (a54 h73
   (a92 (x := "entry") scLT ⟨rfl,by decide +kernel,by decide +kernel,by decide +kernel,by decide +kernel,by decide +kernel⟩ (by decide +kernel) (e98 (a50 a66 (pv 0) a07 (fun _ _=>rfl))) (fun C fp s H=>a35 DE hr (a00 (pv 2) a04)))
   (a92 (x := "pair") scLT ⟨rfl,by decide +kernel,by decide +kernel,by decide +kernel,by decide +kernel,by decide +kernel⟩ (by decide +kernel) (e98 (a50 a66 (pv 0) a07 (fun _ _=>rfl))) (fun C fp s H=>a35 DP hr (a00 (pv 2) a04)))))
   (a08 (a37 (b20 PySem.F.plainAttrs_str PySem.F.slot_str_join PySem.F.type_str_join c77 a36 (a00 (pv 1) a04)))),?_⟩
  obtain⟨t,e,p,es,ps,rfl,ht,he,hp,hE,hP⟩:=hv
  have le:es.length=L.ents.length:=Paired.length hE
  have lq:ps.length=L.pairs.length:=Paired.length hP
  have l1:=ok.el
  have l2:=ok.pl
  refine⟨_,rfl,t,_,_,_,rfl,rfl,SqT.of ht,rfl,e,rfl,⟨_,SqT.of he⟩,d49 (xs:=es) (fun i ys H'=>i<=L.ents.length/\ys=((L.ents.take i).map b83).map V.str/\Same H H') (by rw[sizeLine_eq];omega)
   ⟨FJ _,rfl,Same.refl H⟩ (fun i ys H' ⟨hi,e,_⟩=>by rw[e,Aj,Aj,CZ];omega) (fun i ys H' _ ⟨_,_,s⟩=>SqT.of (s _ _ he)) ?_ ?_⟩
  ·rintro i ys H' v hv ⟨hi,e1,s1⟩
   obtain⟨x,hx,hxv⟩:=a64 hE hv
   have hlt:=(Ex.mp hx).1
   have hm:=BQ hx
   refine⟨_,rfl,v,x,rfl,EntV.tk (Tk.of s1) hxv,(ok.eo x hm).1,(ok.eo x hm).2,fun H2 s2=>⟨hlt,?_,s1.trans s2⟩⟩
   rw[e1,← c03 (f:=b83) hx,BJ]
   rfl
  rintro ys H1 ⟨_,e1,s1⟩ D1 hD1
  rw[le,DQ (AZ _)] at e1
  have sA1:Same H (upd H1 D1 (.lst ys)):=s1.upd hD1
  have hD1':(upd H1 D1 (.lst ys)) D1=some (.lst ((L.ents.map b83).map V.str)):=by rw[a02,e1]
  generalize (upd H1 D1 (.lst ys))=HB at sA1 hD1' ⊢
  refine⟨_,rfl,t,_,_,_,rfl,rfl,SqT.of (sA1 _ _ ht),rfl,p,rfl,⟨_,SqT.of (sA1 _ _ hp)⟩,d49 (xs:=ps) (fun i ys H'=>i<=L.pairs.length/\ys=((L.pairs.take i).map prP).map V.str/\Same HB H') (by rw[sizeLine_eq];omega)
   ⟨FJ _,rfl,Same.refl HB⟩ (fun i ys H' ⟨hi,e,_⟩=>by rw[e,Aj,Aj,CZ];omega) (fun i ys H' _ ⟨_,_,s⟩=>SqT.of (s _ _ (sA1 _ _ hp))) ?_ ?_⟩
  ·rintro i ys H' v hv ⟨hi,e1,s1⟩
   obtain⟨x,hx,hxv⟩:=a64 hP hv
   have hlt:=(Ex.mp hx).1
   have hm:=BQ hx
   refine⟨_,rfl,v,x,rfl,PairV.tk (Tk.of (sA1.trans s1)) hxv,ok.po x hm,fun H2 s2=>⟨hlt,?_,s1.trans s2⟩⟩
   rw[e1,← c03 (f:=prP) hx,BJ]
   rfl
  rintro zs H2 ⟨_,e2,s2⟩ D2 hD2
  rw[lq,DQ (AZ _)] at e2
  have s3:Same HB (upd H2 D2 (.lst zs)):=s2.upd hD2
  have sA:Same H (upd H2 D2 (.lst zs)):=sA1.trans s3
  refine⟨D1,D2,_,_,rfl,rfl,s3 _ _ hD1',by rw[a02,e2],by rw[Aj,Aj,Aj,Aj,sizeLine_eq];omega,fun N hN=>?_⟩
  refine⟨rfl,_,rfl, "\n", N,a49 L,rfl,rfl,SqL.of (by rw[a02];unfold a49;rw[BJ]),d92 ok,?_⟩
  exact kk _ (sA.upd hN)
end
def LET:Str := "abcdefghijklmnopqrstuvwxyz"
def occ (c:Nat):Bool:=!(Builtin.Str.occurrences LET ⟨#[c]⟩ 0 LET.length 1).isEmpty
def i40 (z:Str):Bool:=(z.cps.toList.map occ).all id
def b42 (z:Str):Bool:=if 0 < z.length/\z.length<=8 then i40 z else false
def h68 (z:Str) (i:Nat):List V:=((z.cps.toList.take i).map occ).map V.bl
theorem h22 {z:Str}{i:Nat}(h:i<=z.cps.size):(h68 z i).length=i:=by
 unfold h68
 rw[Aj,Aj,CZ,Cq]
 omega
theorem g37 {z:Str}{i c:Nat}(h:z.cps[i]?=some c):h68 z i++[V.bl (occ c)]=h68 z (i+1):=by
 have h':z.cps.toList[i]?=some c:=by simpa using h
 unfold h68
 rw[EX,h']
 simp
theorem h42 (z:Str):h68 z z.cps.size=(z.cps.toList.map occ).map V.bl:=by
 unfold h68
 rw[DQ (by simp)]
def d62:Sp:=fun vs H Q _=>∃ z:Str,vs=[.str z]/\z.length<=5000/\∀ H',Same H H'->Q (.bl (b42 z)) H'
def b57 (m:Int) (z:Str):Option (List Str) :=
 if z=SL then some [] else if Txt.startswith z SL=false then none else
 if m < (Txt.split (Txt.slice z (some 1) none) SL).length∨(Txt.split (Txt.slice z (some 1) none) SL).all b42=false then none else some (Txt.split (Txt.slice z (some 1) none) SL)
def b51 (z:Str):Option (List Str):=b57 8 z
def c67:Sp:=fun vs H Q _=>∃(z:Str) (m:Int),vs=[.str z,.int m]/\z.length<=5000 /\
 (∀ zs,b57 m z=some zs->∀(t:Addr)(H':Hp),H t=none->H' t=some (.tup (zs.map V.str))->Same H H'->Q (.ref t) H')/\(b57 m z=none->∀ H',Same H H'->Q .non H')
def c04:Sp:=fun vs H Q _=>∃ z:Str,vs=[.str z]/\z.length<=5000 /\
 (∀ zs,b51 z=some zs->∀(t:Addr)(H':Hp),H t=none->H' t=some (.tup (zs.map V.str))->Same H H'->Q (.ref t) H')/\(b51 z=none->∀ H',Same H H'->Q .non H')
section
variable {P:Program}{w:World}{K:PySem.W.Frag}{mg:Str->Option Value}{base:Heap}
theorem e78:FnScope ["word"] ["word"] (a09 c56):=⟨rfl,rfl,rfl,by decide +kernel,rfl,by decide +kernel,by decide +kernel⟩
theorem f70 {f:Addr}{fd:FuncData}{tl tn:Tok}(F:Fun K "is_name" "is_name" c56 f fd)(mLen:mg "len" = none)(mAll:mg "all" = none)(mLet:mg "LETTERS" = some (.str LET tl))(mLong:mg "LONGEST_NAME" = some (.int 8 tn)) :
 FnOk P w K mg base CX0 1 f fd ["word"] d62:=by
 refine F.ok e78 (fun vs H Q E h=>?_) (fun cdv A outer s H vs Q E hr h=>?_)
 ·obtain⟨z,rfl,_⟩:=h
  rfl
 ·obtain⟨z,rfl,hz,k⟩:=h
  have hzs:z.length<=sizeLine:=by rw[sizeLine_eq];omega
  refine⟨_,a08 (a37 (c61 (f06 e60 h99 a07 (a29 a83 (by rfl) mLen PySem.boot_len (a00 (pv 0) a04)) (b26 (v:=.int 8) rfl mLong ⟨tn,rfl⟩))
   (c95 (a29 (b70 rfl) (by rfl) mAll PyProof.Rows.boot_all (a00 (a92 (x := "sign") e78 ⟨rfl,by decide +kernel,by decide +kernel,by decide +kernel,by decide +kernel,by decide +kernel⟩ (by decide +kernel) (g62 (pv 0))
     (fun C fp s H=>b14 d99 (pv 1) (b26 (v:=.str LET) rfl mLet ⟨tl,rfl⟩) (by with_unfolding_all rfl))) a04))))),?_⟩
  refine⟨_,rfl,z,rfl,hzs,_,_,rfl,rfl,_,rfl,?_⟩
  refine a71 (fun h1=>?_) (fun h1=>?_)
  ·have h1':(0:Int) < (z.length:Int):=AJ h1
   refine⟨_,_,rfl,rfl,_,rfl,?_⟩
   refine a71 (fun h2=>?_) (fun h2=>?_)
   ·have h2':(z.length:Int)<=8:=AJ h2
    refine⟨_,rfl,z,rfl,d31 (fun i ys H'=>i<=z.cps.size/\H'=H/\ys=h68 z i) hzs ⟨FJ _,rfl,rfl⟩ (fun i ys H' ⟨hi,_,e⟩=>by rw[e];exact h22 hi) (fun i ys H' c hc ⟨hi,e1,e2⟩=>?_) (fun ys H' ⟨_,e1,e2⟩ D hD=>?_)⟩
    ·subst e1 e2
     have hlt:i < z.cps.size:=by
      rcases Nat.lt_or_ge i z.cps.size with q | q
      ·exact q
      ·rw[Array.getElem?_eq_none q] at hc;cases hc
     exact⟨_,rfl,_,_,rfl,rfl,hlt,rfl,g37 hc⟩
    ·subst e1 e2
     refine⟨D,z.cps.toList.map occ,rfl,SqL.of (by rw[a02,h42]),?_⟩
     have e:b42 z=(z.cps.toList.map occ).all id:=by
      unfold b42 i40
      rw[if_pos (by omega)]
     rw[← e]
     exact k _ ((Same.refl _).upd hD)
   ·have h2':¬(z.length:Int)<=8:=fun q=>h2 (Az q)
    have e:b42 z=false:=by
     unfold b42
     rw[if_neg (by omega)]
    rw[← e]
    exact k _ (Same.refl _)
  ·have h1':¬(0:Int) < (z.length:Int):=fun q=>h1 (Az q)
   refine⟨_,rfl,b00 ?_⟩
   have e:b42 z=false:=by
    unfold b42
    rw[if_neg (by omega)]
   rw[← e]
   exact k _ (Same.refl _)
theorem scPathUp:FnScope ["text", "most", "names"] ["text", "most"] (a09 b28):=⟨rfl,rfl,rfl,by decide +kernel,rfl,by decide +kernel,by decide +kernel⟩
theorem f72 {f:Addr}{fd:FuncData}(F:Fun K "path_up_to" "path_up_to" b28 f fd)(mLen:mg "len" = none)(mAll:mg "all" = none)(mTuple:mg "tuple" = none)
 (DN:Def P w K mg base 1 "is_name" ["word"] d62):FnOk P w K mg base CX0 2 f fd ["text", "most"] c67:=by
 refine F.ok scPathUp (fun vs H Q E h=>?_) (fun cdv A outer s H vs Q E hr h=>?_)
 ·obtain⟨z,m,rfl,_⟩:=h
  rfl
 ·obtain⟨z,m,rfl,hz,k1,k2⟩:=h
  have hr1:Room 1 _:=hr.mono (by decide)
  have nd:=scPathUp.nd
  refine⟨_,a03 (a47 (a32 b07 (pv 0) a36 (a38 _)) (a08 (a37 (a59 a04))) a31)
   (a03 (a47 (b84 (a96 (b20 PySem.F.plainAttrs_str PySem.F.slot_str_startswith PySem.F.type_str_startswith b06 (pv 0) (a00 a36 a04)))) (a08 (a37 a62)) a31)
   (a03 (a39 (i:=2) nd rfl (Or.inl rfl) (b20 PySem.F.plainAttrs_str PySem.F.slot_str_split PySem.F.type_str_split c70 (b05 g75 (pv 0) (b38 a07) b49) (a00 a36 a04)))
   (a03 (a47 (PW.pt (c32 (a32 d84 (a29 a30 (by rfl) mLen PySem.boot_len (a00 (pv 2) a04)) (pv 1) (a38 _))
     (b61 (b84 (a96 (a29 (b70 rfl) (by rfl) mAll PyProof.Rows.boot_all (a00 (a92 (x := "name") scPathUp ⟨rfl,by decide +kernel,by decide +kernel,by decide +kernel,by decide +kernel,by decide +kernel⟩ (by decide +kernel) (c35 (pv 2))
       (fun C fp s H=>a35 DN hr1 (a00 (pv 3) a04))) a04)))))))
     (a08 (a37 a62)) a31)
   (a08 (a37 (a82 a72 (by rfl) mTuple PyProof.Rows.Boot.tuple (a00 (pv 2) a04))))))),?_⟩
  refine⟨_,rfl,rfl,_,rfl,?_⟩
  refine a71 (fun h1=>?_) (fun h1=>?_)
  ·have e1:z=SL:=by
    have q:=AJ h1
    injection q with q
   refine⟨by show 0<=sizeLine;decide,fun t ht=>?_⟩
   have ep:b57 m z=some []:=by unfold b57;rw[if_pos e1]
   exact k1 [] ep t _ ht a02 ((Same.refl H).upd ht)
  ·have e1:¬ z=SL:=fun q=>h1 (Az (by rw[q];rfl))
   refine⟨_,rfl,rfl,z,SL,rfl,rfl,_,rfl,?_⟩
   cases h2:Txt.startswith z SL with
   | false =>
    refine c01 ?_
    exact k2 (by unfold b57;rw[if_neg e1,if_pos h2]) H (Same.refl H)
   | true =>
    refine b00 ?_
    have hsl:=Txt.slice_le z (some 1) none
    refine⟨_,rfl,_,rfl,z,rfl,by rw[sizeLine_eq];omega,rfl,_,SL,rfl,rfl,by decide +kernel,by omega,fun L hL=>?_⟩
    have hpl:=PyProof.Rows.split_le (Txt.slice z (some 1) none) SL
    have hpt:∀ p∈Txt.split (Txt.slice z (some 1) none) SL,p.length<=5000:=fun p hp=>by have:=PyProof.Rows.part_short hp;omega
    have ep:b57 m z=if m < (Txt.split (Txt.slice z (some 1) none) SL).length∨(Txt.split (Txt.slice z (some 1) none) SL).all b42=false then none else some (Txt.split (Txt.slice z (some 1) none) SL):=by
     unfold b57
     rw[if_neg e1,if_neg (by rw[h2];exact Bool.noConfusion)]
    generalize Txt.split (Txt.slice z (some 1) none) SL=ns at hpl hpt ep ⊢
    have sL:Same H (upd H L (.lst (ns.map V.str))):=(Same.refl H).upd hL
    refine⟨_,rfl,L,_,rfl,.inl (SqL.of a02),_,rfl,_,_,rfl,rfl,_,rfl,?_⟩
    refine a71 (fun h3=>c01 ?_) (fun h3=>?_)
    ·have h3':m < ((ns.map V.str).length:Int):=AJ h3
     rw[Aj] at h3'
     exact k2 (by rw[ep,if_pos (.inl (by omega))]) _ sL
    ·have h3':¬ m < ((ns.map V.str).length:Int):=fun q=>h3 (Az q)
     rw[Aj] at h3'
     refine⟨_,rfl,L,rfl,⟨_,SqL.of a02⟩,c82 (xs:=ns.map V.str) (fun i ys H'=>i<=ns.length/\Same (upd H L (.lst (ns.map V.str))) H'/\ys=((ns.take i).map b42).map V.bl) (by rw[Aj,sizeLine_eq];omega)
      ⟨FJ _,Same.refl _,rfl⟩ (fun i ys H' ⟨hi,_,e⟩=>by rw[e,Aj,Aj,CZ];omega) (fun i ys H' _ ⟨_,s',_⟩=>s'.seq (SqL.of a02)) ?_ ?_⟩
     ·rintro i ys H' v hv ⟨hi,s',e⟩
      obtain⟨p,rfl,hp⟩:∃ p,v=V.str p/\ns[i]?=some p:=by
       rw[CQ] at hv
       cases q:ns[i]? with
       | none=>rw[q] at hv;cases hv
       | some p=>rw[q] at hv;exact⟨p,(EJ hv).symm,rfl⟩
      have hlt:=(Ex.mp hp).1
      refine⟨_,rfl,p,rfl,hpt p (BQ hp),fun H2 s2=>⟨hlt,s'.trans s2,?_⟩⟩
      rw[e,← c03 (f:=b42) hp,BJ]
      rfl
     ·rintro ys H' ⟨_,s',e⟩ D hD
      rw[Aj] at e
      have e':ys=(ns.map b42).map V.bl:=by rw[e,DQ (AZ _)]
      have eall:(ns.map b42).all id=ns.all b42:=by rw[List.all_map];rfl
      have sD:Same (upd H L (.lst (ns.map V.str))) (upd H' D (.lst ys)):=s'.upd hD
      refine⟨D,ns.map b42,rfl,SqL.of (by rw[a02,e']),_,rfl,?_⟩
      rw[eall]
      cases h4:ns.all b42 with
      | false =>
       refine c01 ?_
       exact k2 (by rw[ep,if_pos (.inr h4)]) _ (sL.trans sD)
      | true =>
       refine b00 ?_
       refine⟨_,rfl,L,ns.map V.str,rfl,.inl ⟨SqL.of (sD _ _ a02),fun t ht=>?_⟩⟩
       refine k1 ns (by rw[ep,if_neg (by rw[h4];intro q;rcases q with q | q;exact absurd q (by omega);cases q)]) t _ (sL.trans sD |>.free ht) a02 ((sL.trans sD).upd ht)
theorem g83:FnScope ["text"] ["text"] (a09 c57):=⟨rfl,rfl,rfl,by decide +kernel,rfl,by decide +kernel,by decide +kernel⟩
theorem g61 {f:Addr}{fd:FuncData}{tm:Tok}(F:Fun K "path_in" "path_in" c57 f fd)(mMost:mg "MOST_NAMES" = some (.int 8 tm))
 (DU:Def P w K mg base 2 "path_up_to" ["text", "most"] c67):FnOk P w K mg base CX0 3 f fd ["text"] c04:=by
 refine F.ok g83 (fun vs H Q E h=>?_) (fun cdv A outer s H vs Q E hr h=>?_)
 ·obtain⟨z,rfl,_⟩:=h
  rfl
 ·obtain⟨z,rfl,hz,k1,k2⟩:=h
  refine⟨_,a08 (a37 (a35 DU hr (a00 (pv 0) (a00 (b26 (v:=.int 8) rfl mMost ⟨tm,rfl⟩) a04)))),?_⟩
  exact⟨_,rfl,z,8,rfl,hz,k1,k2⟩
end
structure Nm (z:Str):Prop where
 lo:0 < z.length
 hi:z.length<=8
 ok:∀ c∈z.cps.toList,97<=c/\c<=122
theorem c05:∀(zs:List Str),((b62 zs).map fun t=>t.cps.toList).flatten=(zs.map fun t=>47::t.cps.toList).flatten
 | []=>rfl
 | z::r=>by
  have ih:=c05 r
  unfold b62 at ih ⊢
  rw[CJ,CJ,List.flatten_cons,ih,CJ,List.flatten_cons,Str.cps_append,Array.toList_append]
  have e1:SL.cps.toList=[47]:=by decide +kernel
  rw[e1]
  rfl
theorem e02:∀(z:Str) (r:List Str),(((z::r).map fun t=>47::t.cps.toList).flatten)=47::b96 47 ((z::r).map fun t=>t.cps.toList)
 | z,[]=>by
  rw[CJ,List.map_nil,List.flatten_cons,List.flatten_nil,List.append_nil]
  rfl
 | z,y::r=>by
  rw[CJ,List.flatten_cons,e02 y r]
  rfl
theorem i51 {z:Str}(h:Nm z):b42 z=true:=by
 unfold b42 i40
 rw[if_pos ⟨h.lo,h.hi⟩,List.all_eq_true]
 intro b hb
 obtain⟨c,hc,rfl⟩:=Ez.mp hb
 have hk:∀ c < 123,97<=c->occ c=true:=by decide +kernel
 obtain⟨h1,h2⟩:=h.ok c hc
 exact hk c (by omega) h1
theorem g24 {z:Str}{r:List Nat}(h:z.cps.toList=47::r):Txt.startswith z SL=true:=by
 unfold Txt.startswith
 have e1:SL=⟨#[47]⟩:=by decide +kernel
 have hl:z.length=r.length+1:=by
  show z.cps.size=_
  rw[← Cq,h]
  rfl
 rw[e1,StrLaws.subAt_eq,h,Bool.and_eq_true]
 refine⟨Az (by show 0+1<=_;omega),?_⟩
 show(List.take 1 (List.drop 0 (47::r)) == [47])=true
 simp
theorem c86 (z:Str) (r:List Str):(a34 (z::r)).cps.toList=47::b96 47 ((z::r).map fun t=>t.cps.toList):=by
 unfold a34
 rw[if_neg (by simp),c06,c05,e02]
theorem a88 {zs:List Str}{m:Int}(h8:(zs.length:Int)<=m)(h:∀ z∈zs,Nm z):b57 m (a34 zs)=some zs:=by
 cases zs with
 | nil =>
  unfold b57 a34
  rw[if_pos rfl,if_pos rfl]
 | cons z r =>
  have ec:=c86 z r
  have hz:=h z BZ
  have ne:¬ a34 (z::r)=SL:=by
   intro e
   have e1:SL.cps.toList=[47]:=by decide +kernel
   rw[e,e1] at ec
   have e2:b96 47 ((z::r).map fun t=>t.cps.toList)=[]:=by
    injection ec with _ e2
    exact e2.symm
   have hlen:0 < z.cps.toList.length:=by rw[Cq];exact hz.lo
   cases r with
   | nil =>
    have e3:z.cps.toList=[]:=e2
    rw[e3] at hlen
    exact absurd hlen (by decide)
   | cons y q =>
    have e3:z.cps.toList++47::b96 47 ((y::q).map fun t=>t.cps.toList)=[]:=e2
    have:=congrArg List.length e3
    rw[Bj] at this
    simp at this
  have e47:SL=⟨#[47]⟩:=by decide +kernel
  have es:Txt.split (Txt.slice (a34 (z::r)) (some 1) none) SL=z::r:=by
   rw[e47,e70,e56,ec,List.drop_one,List.tail_cons,c72 _ (by simp),List.map_map]
   ·have:(c55 ∘ fun(t:Str)=>t.cps.toList)=id:=by
     funext t
     exact b39 t
    rw[this,List.map_id]
   ·intro p hp
    obtain⟨t,ht,rfl⟩:=Ez.mp hp
    intro m
    have:=(h t ht).ok 47 m
    omega
  unfold b57
  rw[if_neg ne,if_neg (by rw[g24 ec];exact Bool.noConfusion),es,if_neg]
  intro q
  rcases q with q | q
  ·omega
  ·have:(z::r).all b42=true:=List.all_eq_true.mpr fun x hx=>i51 (h x hx)
   rw[this] at q
   cases q
theorem d41 {c:Nat}{x:Nat}:∀ {ps:List (List Nat)},x∈b96 c ps->x=c∨∃ p∈ps,x∈p
 | [],h=>nomatch h
 | [p],h=>.inr ⟨p,Ax.mpr rfl,h⟩
 | p::q::r,h=>by
  have h':x∈p++c::b96 c (q::r):=h
  rcases Bq.mp h' with z | z
  ·exact .inr ⟨p,BZ,z⟩
  ·rcases Cj.mp z with z | z
   ·exact .inl z
   ·rcases d41 z with z | ⟨t,ht,hz⟩
    ·exact .inl z
    ·exact .inr ⟨t,BX _ ht,hz⟩
theorem d23 {zs:List Str}(h:∀ z∈zs,Nm z){x:Nat}(hx:x∈(a34 zs).cps.toList):x=47∨(97<=x/\x<=122):=by
 cases zs with
 | nil =>
  have e1:(a34 []).cps.toList=[47]:=by decide +kernel
  rw[e1] at hx
  exact .inl (Ax.mp hx)
 | cons z r =>
  rw[c86] at hx
  rcases Cj.mp hx with q | q
  ·exact .inl q
  ·rcases d41 q with q | ⟨p,hp,q⟩
   ·exact .inl q
   ·obtain⟨t,ht,rfl⟩:=Ez.mp hp
    exact .inr ((h t ht).ok x q)
def h81 (c:Nat):Prop:=32<=c/\c<=126/\c≠37
def g18:Sp:=fun vs H Q _=>∃ c:Nat,vs=[.str ⟨#[c]⟩]/\h81 c/\∀ H',Same H H'->Q (.bl true) H'
def d57:Sp:=fun vs H Q _=>∃ z:Str,vs=[.str z]/\z.length<=200/\(∀ c∈z.cps.toList,h81 c)/\∀ H',Same H H'->Q (.bl true) H'
def e30 (n:Nat):Str:=(toString ((n:Nat):Int):String)
def FIG:Str := "0123456789"
def figB (c:Nat):Bool:=!(Builtin.Str.occurrences FIG ⟨#[c]⟩ 0 FIG.length 1).isEmpty
def i29 (z:Str) (i:Nat):List V:=((z.cps.toList.take i).map figB).map V.bl
def h01 (n:Nat):Bool:=decide (e30 n ≠ "") && decide (1<=(e30 n).length) && decide ((e30 n).length<=3) && ((e30 n).cps.toList.map figB).all id && (decide (e30 n = "0")||!Txt.startswith (e30 n) "0") && ((e30 n).cps.toList.all fun c=>decide (48<=c) && decide (c<=57))
theorem e63:∀ n < 200,h01 n=true:=by decide +kernel
def e37:Sp:=fun vs H Q _=>∃ n:Nat,vs=[.str (e30 n),.int 199]/\n < 200/\∀ H',Same H H'->Q (.int n) H'
def d63:Sp:=fun vs H Q _=>∃(a:Addr) (zs:List Str),vs=[.ref a]/\H a=some (.tup (zs.map V.str))/\∀(t:Addr)(H':Hp),H' t=some (.tup (zs.dropLast.map V.str))->Same H H'->Q (.ref t) H'
theorem h59 (xs:List V):b52 xs none (some (-1))=xs.dropLast:=by
 unfold b52
 have e:HT.sIx xs.length xs.length (some (-1))=xs.length-1:=by
  show(if (-1:Int) < 0 then((-1:Int)+(xs.length:Int)).toNat else min (-1:Int).toNat xs.length)=_
  rw[if_pos (by decide)]
  omega
 rw[HT.sIx_none,e,List.drop_zero,Nat.sub_zero,List.dropLast_eq_take]
section
variable {P:Program}{w:World}{K:PySem.W.Frag}{mg:Str->Option Value}{base:Heap}
theorem j09:FnScope ["sign"] ["sign"] (a09 c49):=⟨rfl,rfl,rfl,by decide +kernel,rfl,by decide +kernel,by decide +kernel⟩
theorem i48 {f:Addr}{fd:FuncData}{tp:Tok}(F:Fun K "is_sign" "is_sign" c49 f fd)(mOrd:mg "ord" = none)(mP:mg "PERCENT" = some (.int 37 tp)):FnOk P w K mg base CX0 1 f fd ["sign"] g18:=by
 refine F.ok j09 (fun vs H Q E h=>?_) (fun cdv A outer s H vs Q E hr h=>?_)
 ·obtain⟨c,rfl,_⟩:=h
  rfl
 ·obtain⟨c,rfl,⟨h1,h2,h3⟩,k⟩:=h
  refine⟨_,a08 (a37 (c61 (f06 d80 d80 a36 (pv 0) a36) (c95 (b14 c96 (a29 h00 (by rfl) mOrd PyProof.Rows.boot_ord (a00 (pv 0) a04)) (b26 (v:=.int 37) rfl mP ⟨tp,rfl⟩) (a38 _))))),?_⟩
  have e1:(!decide ((⟨#[c]⟩:Str).cps.toList < (" " : Str).cps.toList))=true:=by
   have z:(" " : Str).cps.toList=[32]:=by decide +kernel
   rw[z]
   have q:¬([c] < [32]):=fun q=>by
    rcases List.cons_lt_cons_iff.mp q with q | ⟨_,q⟩
    ·omega
    ·cases q
   show(!decide ([c] < [32]))=true
   rw[Fz q]
   rfl
  have e2:(!decide (("~" : Str).cps.toList < (⟨#[c]⟩:Str).cps.toList))=true:=by
   have z:("~" : Str).cps.toList=[126]:=by decide +kernel
   rw[z]
   have q:¬([126] < [c]):=fun q=>by
    rcases List.cons_lt_cons_iff.mp q with q | ⟨_,q⟩
    ·omega
    ·cases q
   show(!decide ([126] < [c]))=true
   rw[Fz q]
   rfl
  refine⟨_,rfl,_,_,rfl,rfl,_,rfl,?_⟩
  rw[e1]
  refine c01 ⟨_,_,rfl,rfl,_,rfl,?_⟩
  rw[e2]
  refine c01 ⟨_,rfl,_,rfl,rfl,rfl,?_⟩
  have e3:(!decide (V.int (((⟨#[c]⟩:Str).cps.getD 0 0:Nat))=V.int 37))=true:=by
   have:((⟨#[c]⟩:Str).cps.getD 0 0)=c:=rfl
   rw[this]
   simp
   omega
  rw[e3]
  exact k H (Same.refl H)
theorem e73:FnScope ["text"] ["text"] (a09 c51):=⟨rfl,rfl,rfl,by decide +kernel,rfl,by decide +kernel,by decide +kernel⟩
theorem g50 {f:Addr}{fd:FuncData}{tp:Tok}(F:Fun K "is_text" "is_text" c51 f fd)(mLen:mg "len" = none)(mAll:mg "all" = none)(mL:mg "LONGEST_TEXT" = some (.int 200 tp))(DS:Def P w K mg base 1 "is_sign" ["sign"] g18):FnOk P w K mg base CX0 2 f fd ["text"] d57:=by
 refine F.ok e73 (fun vs H Q E h=>?_) (fun cdv A outer s H vs Q E hr h=>?_)
 ·obtain⟨c,rfl,_⟩:=h
  rfl
 ·obtain⟨z,rfl,hz,hs,k⟩:=h
  have hzs:z.length<=sizeLine:=by rw[sizeLine_eq];omega
  refine⟨_,a08 (a37 (c61 (b14 h99 (a29 a83 (by rfl) mLen PySem.boot_len (a00 (pv 0) a04)) (b26 (v:=.int 200) rfl mL ⟨tp,rfl⟩) (a38 _))
   (c95 (a29 (b70 rfl) (by rfl) mAll PyProof.Rows.boot_all (a00 (a92 (x := "sign") e73 ⟨rfl,by decide +kernel,by decide +kernel,by decide +kernel,by decide +kernel,by decide +kernel⟩ (by decide +kernel) (g62 (pv 0))
     (fun C fp s H=>a35 DS hr (a00 (pv 1) a04))) a04))))),?_⟩
  refine⟨_,rfl,z,rfl,hzs,_,_,rfl,rfl,_,rfl,?_⟩
  rw[show decide ((z.length:Int)<=200)=true from Az (by omega)]
  refine c01 ⟨_,rfl,z,rfl,d31 (fun i ys H'=>i<=z.cps.size/\Same H H'/\ys=List.replicate i (V.bl true)) hzs ⟨FJ _,Same.refl H,rfl⟩ (fun i ys H' ⟨hi,_,e⟩=>by rw[e,List.length_replicate]) (fun i ys H' c hc ⟨hi,s1,e2⟩=>?_) (fun ys H' ⟨_,s1,e2⟩ D hD=>?_)⟩
  ·have hlt:i < z.cps.size:=by
    rcases Nat.lt_or_ge i z.cps.size with q | q
    ·exact q
    ·rw[Array.getElem?_eq_none q] at hc;cases hc
   have hm:c∈z.cps.toList:=by
    have:z.cps.toList[i]?=some c:=by simpa using hc
    exact BQ this
   refine⟨_,rfl,c,rfl,hs c hm,fun H2 s2=>⟨hlt,s1.trans s2,?_⟩⟩
   rw[e2,List.replicate_succ']
  ·refine⟨D,List.replicate z.cps.size true,rfl,SqL.of (by rw[a02,e2,List.map_replicate]),?_⟩
   have:(List.replicate z.cps.size true).all id=true:=List.all_eq_true.mpr fun b hb=>List.eq_of_mem_replicate hb
   rw[this]
   exact k _ (s1.upd hD)
theorem scNumIn:FnScope ["text", "most", "number"] ["text", "most"] (a09 b33):=⟨rfl,rfl,rfl,by decide +kernel,rfl,by decide +kernel,by decide +kernel⟩
theorem g84 {f:Addr}{fd:FuncData}{tf:Tok}(F:Fun K "number_in" "number_in" b33 f fd)(mLen:mg "len" = none)(mAll:mg "all" = none)(mStr:mg "str" = none)(mInt:mg "int" = none)(mF:mg "FIGURES" = some (.str FIG tf)):FnOk P w K mg base CX0 1 f fd ["text", "most"] e37:=by
 refine F.ok scNumIn (fun vs H Q E h=>?_) (fun cdv A outer s H vs Q E hr h=>?_)
 ·obtain⟨c,rfl,_⟩:=h
  rfl
 ·obtain⟨n,rfl,hn,k⟩:=h
  have nd:=scNumIn.nd
  refine⟨_,a03 (a47 (PW.pt (c32 (a32 b07 (pv 0) a36 (a38 _)) (c32 (a32 d84 (a29 a83 (by rfl) mLen PySem.boot_len (a00 (pv 0) a04)) (a29 a83 (by rfl) mLen PySem.boot_len (a00 (a82 e18 (by rfl) mStr PyProof.Rows.Boot.str (a00 (pv 1) a04)) a04)) (a38 _))
   (b61 (b84 (a96 (a29 (b70 rfl) (by rfl) mAll PyProof.Rows.boot_all (a00 (a92 (x := "sign") scNumIn ⟨rfl,by decide +kernel,by decide +kernel,by decide +kernel,by decide +kernel,by decide +kernel⟩ (by decide +kernel) (g62 (pv 0))
     (fun C fp s H=>b14 d99 (pv 3) (b26 (v:=.str FIG) rfl mF ⟨tf,rfl⟩) (by with_unfolding_all rfl))) a04))))))))
   (a08 (a37 a62)) a31)
   (a03 (a47 (PW.pt (d75 (a32 c96 (pv 0) a36 (a38 _)) (c79 (a96 (b20 PySem.F.plainAttrs_str PySem.F.slot_str_startswith PySem.F.type_str_startswith b06 (pv 0) (a00 a36 a04))))))
     (a08 (a37 a62)) a31)
   (a03 (a39 (i:=2) nd rfl (Or.inl rfl) (a82 d58 (by rfl) mInt PyProof.Rows.Boot.int (a00 (pv 0) a04)))
   (a08 (a37 (b45 (a32 h99 (pv 2) (pv 1) (a38 _)) (pv 2) a62))))),?_⟩
  have hk:=e63 n hn
  unfold h01 at hk
  simp only[Bool.and_eq_true] at hk
  obtain⟨⟨⟨⟨⟨h0,h1⟩,h2⟩,h3⟩,h4⟩,h5⟩:=hk
  have h0':e30 n ≠ "" := AJ h0
  have h2':(e30 n).length<=3:=AJ h2
  have hr:=PySem.W.KIN.num_reads (n:=(n:Int)) (by omega) (by omega)
  have hr':intText? (e30 n)=some (n:Int):=hr
  generalize e30 n=z at h0' h2' h3 h4 hr' ⊢
  have hzs:z.length<=sizeLine:=by rw[sizeLine_eq];omega
  refine⟨_,rfl,rfl,_,rfl,?_⟩
  rw[show decide (V.str z=V.str "")=false from Fz (fun q=>h0' (by injection q))]
  refine b00 ⟨_,rfl,z,rfl,hzs,_,rfl,199,rfl,by decide,_,rfl,by decide +kernel,_,_,rfl,rfl,_,rfl,?_⟩
  have e3:((((toString (199:Int)):String):Str)).length=3:=by decide +kernel
  refine a71 (fun q=>absurd (AJ q) (by rw[e3];omega)) (fun _=>?_)
  refine⟨_,rfl,z,rfl,d31 (fun i ys H'=>i<=z.cps.size/\H'=H/\ys=i29 z i) hzs ⟨FJ _,rfl,rfl⟩ (fun i ys H' ⟨hi,_,e⟩=>by rw[e];unfold i29;rw[Aj,Aj,CZ,Cq];omega) (fun i ys H' c hc ⟨hi,e1,e2⟩=>?_) (fun ys H' ⟨_,e1,e2⟩ D hD=>?_)⟩
  ·subst e1 e2
   have hlt:i < z.cps.size:=by
    rcases Nat.lt_or_ge i z.cps.size with q | q
    ·exact q
    ·rw[Array.getElem?_eq_none q] at hc;cases hc
   refine⟨_,rfl,_,_,rfl,rfl,hlt,rfl,?_⟩
   have h':z.cps.toList[i]?=some c:=by simpa using hc
   show i29 z i++[V.bl (figB c)]=i29 z (i+1)
   unfold i29
   rw[EX,h']
   simp
  ·subst e1 e2
   refine⟨D,z.cps.toList.map figB,rfl,SqL.of (by rw[a02];unfold i29;rw[DQ (by simp)]),_,rfl,?_⟩
   rw[h3]
   refine b00 ?_
   refine⟨_,rfl,rfl,_,rfl,?_⟩
   have rest:∀(Q':Prop),Q'->Q':=fun _ q=>q
   have sD:Same H' (upd H' D (.lst (i29 z z.cps.size))):=(Same.refl _).upd hD
   rcases Bool.or_eq_true_iff.mp h4 with e | e
   ·have e0:z = "0" := AJ e
    rw[show(!decide (V.str z=V.str "0"))=false by rw[e0];simp]
    refine b00 (b00 ?_)
    refine⟨_,rfl,z,(n:Int),rfl,by omega,hr',?_⟩
    refine⟨_,rfl,_,rfl,_,_,rfl,rfl,_,rfl,?_⟩
    rw[show decide ((n:Int)<=199)=true from Az (by omega)]
    exact c01 ⟨_,rfl,k _ sD⟩
   ·have e1:Txt.startswith z "0" = false:=by simpa using e
    refine a71 (fun _=>?_) (fun _=>b00 ?_)
    ·refine⟨_,rfl,rfl,z, "0", rfl,rfl,_,rfl,?_⟩
     rw[e1]
     refine b00 ?_
     refine⟨_,rfl,z,(n:Int),rfl,by omega,hr',?_⟩
     refine⟨_,rfl,_,rfl,_,_,rfl,rfl,_,rfl,?_⟩
     rw[show decide ((n:Int)<=199)=true from Az (by omega)]
     exact c01 ⟨_,rfl,k _ sD⟩
    ·refine⟨_,rfl,z,(n:Int),rfl,by omega,hr',?_⟩
     refine⟨_,rfl,_,rfl,_,_,rfl,rfl,_,rfl,?_⟩
     rw[show decide ((n:Int)<=199)=true from Az (by omega)]
     exact c01 ⟨_,rfl,k _ sD⟩
theorem g91:FnScope ["path"] ["path"] (a09 b29):=⟨rfl,rfl,rfl,by decide +kernel,rfl,by decide +kernel,by decide +kernel⟩
theorem g79 {f:Addr}{fd:FuncData}(F:Fun K "parent_of" "parent_of" b29 f fd):FnOk P w K mg base CX0 1 f fd ["path"] d63:=by
 refine F.ok g91 (fun vs H Q E h=>?_) (fun cdv A outer s H vs Q E hr h=>?_)
 ·obtain⟨a,zs,rfl,_⟩:=h
  rfl
 ·obtain⟨a,zs,rfl,ha,k⟩:=h
  refine⟨_,a08 (a37 (b05 g47 (pv 0) b49 (b38 (i39 g22 a07)))),?_⟩
  refine⟨_,rfl,_,rfl,_,rfl,a,_,rfl,ha,fun t H' ht s'=>k t H' ?_ s'⟩
  rw[ht,show((-(1:Int)))=-1 from rfl,h59,List.map_dropLast]
end
theorem e80 (x y:Str) (hi:Nat):∀(l:List Nat)(st:Array Nat×Nat),1<=st.1.size->(forIn (m:=Id) l st (StrLaws.occBody x y hi 1)).run.fst=st.1
 | [],st,_=>rfl
 | a::l,st,h=>by
  have hc:¬(((st.fst.size < 1/\st.snd<=a)/\a+y.length<=hi)/\Builtin.Str.subAt x y a=true):=fun c=>by have:=c.1.1.1;omega
  simp only[List.forIn_cons,StrLaws.occBody,if_neg hc]
  exact e80 x y hi l _ h
theorem h80 (x y:Str) (hi k:Nat)(hk:k+y.length<=hi)(hs:Builtin.Str.subAt x y k=true)(hn:∀ i < k,Builtin.Str.subAt x y i=false):∀(m j free:Nat),free<=j->j<=k->k < j+m->(forIn (m:=Id) (List.range' j m) ((#[]:Array Nat),free) (StrLaws.occBody x y hi 1)).run.fst=#[k]
 | 0,j,free,_,_,h=>by omega
 | m+1,j,free,hf,hj,h=>by
  rw[List.range'_succ]
  by_cases e:j=k
  ·subst e
   have hc:(((((#[]:Array Nat),free).fst.size < 1/\((#[]:Array Nat),free).snd<=j)/\j+y.length<=hi)/\Builtin.Str.subAt x y j=true):=⟨⟨⟨by simp,hf⟩,hk⟩,hs⟩
   simp only[List.forIn_cons,StrLaws.occBody,if_pos hc]
   exact e80 x y hi _ _ (by simp)
  ·have hc:¬(((((#[]:Array Nat),free).fst.size < 1/\((#[]:Array Nat),free).snd<=j)/\j+y.length<=hi)/\Builtin.Str.subAt x y j=true):=fun c=>by
    have:=hn j (by omega)
    rw[this] at c
    cases c.2
   simp only[List.forIn_cons,StrLaws.occBody,if_neg hc]
   exact h80 x y hi k hk hs hn m (j+1) free (by omega) (by omega) (by omega)
theorem g53 {x y:Str}{k:Nat}(hk:k+y.length<=x.length)(hs:Builtin.Str.subAt x y k=true)(hn:∀ i < k,Builtin.Str.subAt x y i=false):Builtin.Str.occurrences x y 0 x.length 1=[k]:=by
 rw[StrLaws.occ_eq,h80 x y x.length k hk hs hn _ 0 0 (AZ _) (FJ _) (by omega)]
def BE:Str := " ="
theorem c74:BE.cps.toList=[32,61]:=by decide +kernel
theorem c87:BE.length=2:=by decide +kernel
theorem h72 {x:Str}{i:Nat}(h:∀ c,x.cps.toList[i]?=some c->c≠32):Builtin.Str.subAt x BE i=false:=by
 rw[StrLaws.subAt_eq,c74,c87]
 cases q:x.cps.toList.drop i with
 | nil=>decide
 | cons a r =>
  have e:x.cps.toList[i]?=some a:=by rw[← List.head?_drop,q];rfl
  have ha:=h a e
  cases r with
  | nil=>simp
  | cons b r=>simp[ha]
theorem e41 {x:Str}(h:∀ c∈x.cps.toList,c≠32):Txt.partition x BE=(x,Str.empty,Str.empty):=by
 unfold Txt.partition
 have e:Builtin.Str.occurrences x BE 0 x.length 1=[]:=by
  have:¬(!(Builtin.Str.occurrences x BE 0 x.length 1).isEmpty)=true:=fun z=>by
   obtain⟨i,_,hi⟩:=(StrLaws.found_iff x BE).mp z
   rw[h72 fun c hc=>h c (BQ hc)] at hi
   cases hi
  cases q:Builtin.Str.occurrences x BE 0 x.length 1 with
  | nil=>rfl
  | cons a r=>rw[q] at this;exact absurd rfl this
 rw[e]
theorem a81 (x:Str):x.cps.toList.length=x.length:=Cq
theorem e16 (x:Str) (i j:Nat):(Builtin.Str.strSub x i j).cps.toList=(x.cps.toList.take j).drop i:=by
 show(x.cps.extract i j).toList=_
 simp[Array.toList_extract,List.extract_eq_drop_take,List.drop_take]
theorem c93 {p z:Str}(h:∀ c∈p.cps.toList,c≠32):Txt.partition (p++(BE++z)) BE=(p,BE,z):=by
 have ec:(p++(BE++z)).cps.toList=p.cps.toList++(32::61::z.cps.toList):=by
  rw[Str.cps_append,Str.cps_append,Array.toList_append,Array.toList_append,c74]
  rfl
 have el:(p++(BE++z)).length=p.length+(2+z.length):=by rw[Dj,Dj,c87]
 have hl:=a81 p
 have eo:Builtin.Str.occurrences (p++(BE++z)) BE 0 (p++(BE++z)).length 1=[p.length]:=by
  refine g53 (by rw[el,c87];omega) ?_ fun i hi=>h72 fun c hc=>?_
  ·rw[StrLaws.subAt_eq,ec,c74,c87,← hl,List.drop_left]
   rfl
  ·rw[ec,List.getElem?_append_left (by omega)] at hc
   exact h c (BQ hc)
 unfold Txt.partition
 rw[eo]
 show(Builtin.Str.strSub _ 0 p.length,BE,Builtin.Str.strSub _ (p.length+BE.length) _)=_
 have e1:Builtin.Str.strSub (p++(BE++z)) 0 p.length=p:=Srt.str_ext (by
  rw[e16,ec,← hl,List.take_left,List.drop_zero])
 have e2:Builtin.Str.strSub (p++(BE++z)) (p.length+BE.length) (p++(BE++z)).length=z:=Srt.str_ext (by
  rw[e16,DQ (by rw[a81];exact AZ _),ec,c87,← hl,← List.drop_drop,List.drop_left]
  rfl)
 rw[e1,e2]
theorem f50 (x:Str) (n:Nat)(hn:n<=x.length):(Txt.slice x (some (n:Int)) none).cps.toList=x.cps.toList.drop n:=by
 have hL:x.cps.toList.length=x.length:=a81 x
 have e0:Builtin.Str.strSliceIndices (some (n:Int)) none 1 x.length=Builtin.Str.strSliceIndices (some (n:Int)) (some (x.length:Int)) 1 x.length:=by
  have h1:¬(x.length:Int) < 0:=by omega
  have h2:max (0:Int) (min (x.length:Int) (x.length:Int))=(x.length:Int):=by omega
  unfold Builtin.Str.strSliceIndices
  simp only[if_neg h1,h2]
  first | rfl | simp
 unfold Txt.slice
 rw[e0]
 have e2:=StrLaws.strSliceIndices_plain (a:=n) (b:=x.length) (len:=x.length) (by omega) (AZ _)
 have e3:=StrLaws.sliced_plain x (a:=n) (b:=x.length) (by omega) (AZ _)
 have e2':(Builtin.Str.strSliceIndices (some (n:Int)) (some (x.length:Int)) 1 x.length).length=x.length-n:=by
  rw[e2,Aj,List.length_range]
 split
 ·rename_i q
  rw[Bool.and_eq_true] at q
  have:=eq_of_beq q.2
  have e:n=0∨x.length=0:=by omega
  rcases e with e | e
  ·rw[e]
   rfl
  ·have e1:x.cps.toList=[]:=List.length_eq_zero_iff.mp (by omega)
   rw[e1,List.drop_nil]
 ·show((Builtin.Str.strSliceIndices (some (n:Int)) (some (x.length:Int)) 1 x.length).filterMap (x.cps[·]?))=_
  have e4:(Builtin.Str.strSliceIndices (some (n:Int)) (some (x.length:Int)) 1 x.length).filterMap (x.cps[·]?)=(x.cps.toList.drop n).take (x.length-n):=e3
  rw[e4,DQ (by rw[EQ,hL];exact AZ _)]
theorem d95 (a b:Str):Txt.slice (a++b) (some (a.length:Int)) none=b:=Srt.str_ext (by
 rw[f50 _ _ (by rw[Dj];omega),Str.cps_append,Array.toList_append,← a81,List.drop_left])
theorem d82 (x y:Str):Txt.startswith x y=(decide (y.length<=x.length) && (x.cps.toList.take y.length == y.cps.toList)):=by
 unfold Txt.startswith
 rw[StrLaws.subAt_eq,List.drop_zero,Nat.zero_add]
theorem c48 (a b:Str):Txt.startswith (a++b) a=true:=by
 rw[d82,Dj,Str.cps_append,Array.toList_append,← a81 a,List.take_left,Bool.and_eq_true]
 exact⟨Az (by omega),beq_iff_eq.mpr rfl⟩
theorem c52 {x y:Str}{i:Nat}{c d:Nat}(hi:i < y.length)(hx:x.cps.toList[i]?=some c)(hy:y.cps.toList[i]?=some d)(h:c≠d):Txt.startswith x y=false:=by
 rw[d82,Bool.and_eq_false_iff]
 refine .inr (beq_eq_false_iff_ne.mpr fun e=>h ?_)
 have:(x.cps.toList.take y.length)[i]?=some c:=by rw[List.getElem?_take_of_lt hi];exact hx
 rw[e,hy] at this
 exact(EJ this).symm
theorem d17 (c:Nat):∀(rest:List Str)(acc:Array Nat),(rest.foldl (fun acc p=>acc++(⟨#[c]⟩:Str).cps++p.cps) acc).toList=acc.toList++(rest.map fun t=>c::t.cps.toList).flatten
 | [],acc=>by simp
 | p::r,acc=>by
  rw[List.foldl_cons,d17 c r]
  simp
theorem b67 (c:Nat):∀(p:List Nat) (r:List (List Nat)),b96 c (p::r)=p++(r.map fun t=>c::t).flatten
 | p,[]=>by simp[b96]
 | p,q::r=>by
  show p++c::b96 c (q::r)=_
  rw[b67 c q r]
  simp
theorem c29 (c:Nat) (ts:List Str)(h:ts≠[]):(Txt.join (⟨#[c]⟩:Str) ts).cps.toList=b96 c (ts.map fun t=>t.cps.toList):=by
 cases ts with
 | nil=>exact absurd rfl h
 | cons p r =>
  rw[CJ,b67,List.map_map]
  show(Builtin.Str.glued (⟨#[c]⟩:Str) (p::r)).cps.toList=_
  have:=d17 c r p.cps
  first | exact this | (simp[Builtin.Str.glued];exact this) | simpa [Builtin.Str.glued] using this
theorem d25 {c:Nat}{ts:List Str}(h:ts≠[])(hc:∀ t∈ts,c∉t.cps.toList):Txt.split (Txt.join (⟨#[c]⟩:Str) ts) ⟨#[c]⟩=ts:=by
 rw[e70,c29 c ts h,c72 _ (by simpa using h),List.map_map]
 ·have:(c55 ∘ fun(t:Str)=>t.cps.toList)=id:=by
   funext t
   exact b39 t
  rw[this,List.map_id]
 ·intro p hp
  obtain⟨t,ht,rfl⟩:=Ez.mp hp
  exact hc t ht
structure PthG (zs:List Str) (n:Nat):Prop where
 len:zs.length<=n
 nm:∀ z∈zs,Nm z
def EntG (x:List Str×Ent):Prop:=match x.2 with
 | .gone=>PthG x.1 9
 | .fil i=>PthG x.1 8/\0<=i/\i < 200
 | .dir o=>PthG x.1 8/\∀ b,o=some b->PthG b 8
structure PrG (p:Pr):Prop where
 org:∀ zs,p.1=some zs->zs≠[]/\PthG zs 8
 txt:∀ z,p.2=some z->z.length<=200/\∀ c∈z.cps.toList,h81 c
 nn:p.1=none->p.2≠none
theorem PthG.pth {zs:List Str}{n:Nat}(h:PthG zs n)(hn:n<=9):Pth zs:=⟨FQ h.len hn,fun z hz=>(h.nm z hz).hi⟩
theorem PthG.tlen {zs:List Str}{n:Nat}(h:PthG zs n)(hn:n<=9):(a34 zs).length<=81:=a84 (h.pth hn)
theorem EntG.pth {x:List Str×Ent}(h:EntG x):Pth x.1:=by
 obtain⟨p,e⟩:=x
 cases e with
 | gone=>exact PthG.pth (n:=9) h (by decide)
 | fil i=>exact PthG.pth (n:=8) h.1 (by decide)
 | dir o=>exact PthG.pth (n:=8) h.1 (by decide)
theorem EntG.nm {x:List Str×Ent}(h:EntG x):∀ z∈x.1,Nm z:=by
 obtain⟨p,e⟩:=x
 cases e with
 | gone=>exact PthG.nm (n:=9) h
 | fil i=>exact h.1.nm
 | dir o=>exact h.1.nm
theorem b48 {zs:List Str}(h:∀ z∈zs,Nm z):∀ c∈(a34 zs).cps.toList,c≠32:=fun c hc e=>by
 rcases d23 h hc with q | q <;> omega
theorem e95 {n:Nat}(h:n < 200):∀ c∈(e30 n).cps.toList,48<=c/\c<=57:=fun c hc=>by
 have hk:=e63 n h
 unfold h01 at hk
 rw[Bool.and_eq_true] at hk
 have:=List.all_eq_true.mp hk.2 c hc
 simpa using this
theorem i47 {n:Nat}(h:n < 200):(e30 n).length<=3:=by
 have hk:=e63 n h
 unfold h01 at hk
 simp only[Bool.and_eq_true] at hk
 exact AJ hk.1.1.1.2
theorem g55 {x:List Str×Ent}(h:EntG x):∀ t∈b87 x,32∉t.cps.toList:=by
 obtain⟨p,e⟩:=x
 have g0:32∉("gone" : Str).cps.toList:=by decide +kernel
 have f0:32∉("file" : Str).cps.toList:=by decide +kernel
 have d0:32∉("folder" : Str).cps.toList:=by decide +kernel
 have a0:32∉("alone" : Str).cps.toList:=by decide +kernel
 have o0:32∉("over" : Str).cps.toList:=by decide +kernel
 have hp:32∉(a34 p).cps.toList:=fun q=>b48 h.nm 32 q rfl
 intro t ht
 cases e with
 | gone =>
  simp only[b87,Cj,List.not_mem_nil,or_false] at ht
  rcases ht with rfl | rfl
  ·exact g0
  ·exact hp
 | fil i =>
  simp only[b87,Cj,List.not_mem_nil,or_false] at ht
  rcases ht with rfl | rfl | rfl
  ·exact f0
  ·exact hp
  ·obtain⟨n,rfl⟩:=Int.eq_ofNat_of_zero_le h.2.1
   intro q
   have:=e95 (n:=n) (by have:=h.2.2;omega) 32 q
   omega
 | dir o =>
  cases o with
  | none =>
   simp only[b87,Cj,List.not_mem_nil,or_false] at ht
   rcases ht with rfl | rfl | rfl
   ·exact d0
   ·exact hp
   ·exact a0
  | some b =>
   simp only[b87,Cj,List.not_mem_nil,or_false] at ht
   rcases ht with rfl | rfl | rfl | rfl
   ·exact d0
   ·exact hp
   ·exact o0
   ·exact fun q=>b48 (h.2 b rfl).nm 32 q rfl
theorem h77 (x:List Str×Ent):b87 x≠[]:=by
 obtain⟨p,e⟩:=x
 cases e with
 | gone=>simp[b87]
 | fil i=>simp[b87]
 | dir o=>cases o <;> simp[b87]
theorem d01 {x:List Str×Ent}(h:EntG x):Txt.split (b83 x) " " = b87 x:=by
 have e:(" " : Str)=⟨#[32]⟩:=by decide +kernel
 rw[← f01,e]
 exact d25 (h77 x) (g55 h)
def d68:Sp:=fun vs H Q _=>∃(l:Addr) (p:List Str),vs=[.ref l]/\H l=some (.lst ((b87 (p,.gone)).map V.str))/\PthG p 9/\∀ v H',EntV H' v p .gone->Same H H'->Q v H'
def d48:Sp:=fun vs H Q _=>∃(l:Addr) (p:List Str) (n:Nat),vs=[.ref l]/\H l=some (.lst ((b87 (p,.fil n)).map V.str))/\PthG p 8/\n < 200/\∀ v H',EntV H' v p (.fil n)->Same H H'->Q v H'
def d72:Sp:=fun vs H Q _=>∃(l:Addr) (p:List Str)(o:Option (List Str)),vs=[.ref l]/\H l=some (.lst ((b87 (p,.dir o)).map V.str))/\PthG p 8/\(∀ b,o=some b->PthG b 8)/\∀ v H',EntV H' v p (.dir o)->Same H H'->Q v H'
def e49:Sp:=fun vs H Q _=>∃ x:List Str×Ent,vs=[.str (b83 x)]/\EntG x/\∀ v H',EntV H' v x.1 x.2->Same H H'->Q v H'
section
variable {P:Program}{w:World}{K:PySem.W.Frag}{mg:Str->Option Value}{base:Heap}
theorem scGoneIn:FnScope ["words", "path"] ["words"] (a09 c50):=⟨rfl,rfl,rfl,by decide +kernel,rfl,by decide +kernel,by decide +kernel⟩
theorem f79 {f:Addr}{fd:FuncData}{tm:Tok}(F:Fun K "gone_in" "gone_in" c50 f fd)(mLen:mg "len" = none)(mMost:mg "MOST_NAMES" = some (.int 8 tm))(DU:Def P w K mg base 2 "path_up_to" ["text", "most"] c67):FnOk P w K mg base CX0 3 f fd ["words"] d68:=by
 refine F.ok scGoneIn (fun vs H Q E h=>?_) (fun cdv A outer s H vs Q E hr h=>?_)
 ·obtain⟨l,p,rfl,_⟩:=h
  rfl
 ·obtain⟨l,p,rfl,hl,hp,k⟩:=h
  have nd:=scGoneIn.nd
  refine⟨_,a03 (a47 (a32 c96 (a29 a30 (by rfl) mLen PySem.boot_len (a00 (pv 0) a04)) a07 (a38 _)) (a08 (a37 a62)) a31)
   (a03 (a39 (i:=1) nd rfl (Or.inl rfl) (a35 DU hr (a00 (a50 a53 (pv 0) a07 (fun _ _=>rfl)) (a00 (a54 b02 (b26 (v:=.int 8) rfl mMost ⟨tm,rfl⟩) a07) a04))))
   (a08 (a37 (b45 (b21 (c30 (pv 1))) a62 (a59 (a00 (pv 1) (a00 a36 a04))))))),?_⟩
  refine⟨_,rfl,l,_,rfl,.inl (SqL.of hl),rfl,_,rfl,e62 rfl ?_⟩
  have ht:=hp.tlen (by decide)
  refine⟨_,rfl,l,_,_,_,rfl,rfl,SqL.of hl,rfl,_,_,rfl,rfl,a34 p,9,rfl,by omega,fun zs e t H1 h0 h1 s1=>?_,fun e=>?_⟩
  ·rw[a88 (by have:=hp.len;omega) hp.nm] at e
   cases e
   refine⟨_,rfl,_,rfl,b00 ⟨_,rfl,by show 2<=sizeLine;decide,fun u hu=>?_⟩⟩
   refine k _ _ ⟨u,t,rfl,?_,a02⟩ (s1.upd hu)
   rw[a06 (a01 h1 hu)]
   exact h1
  ·rw[a88 (by have:=hp.len;omega) hp.nm] at e
   cases e
theorem scFileIn:FnScope ["words", "path", "number"] ["words"] (a09 c36):=⟨rfl,rfl,rfl,by decide +kernel,rfl,by decide +kernel,by decide +kernel⟩
theorem f71 {f:Addr}{fd:FuncData}{tm:Tok}(F:Fun K "file_in" "file_in" c36 f fd)(mLen:mg "len" = none)(mMost:mg "MOST_FILES" = some (.int 200 tm))(DU:Def P w K mg base 3 "path_in" ["text"] c04)(DN:Def P w K mg base 1 "number_in" ["text", "most"] e37):FnOk P w K mg base CX0 4 f fd ["words"] d48:=by
 refine F.ok scFileIn (fun vs H Q E h=>?_) (fun cdv A outer s H vs Q E hr h=>?_)
 ·obtain⟨l,p,n,rfl,_⟩:=h
  rfl
 ·obtain⟨l,p,n,rfl,hl,hp,hn,k⟩:=h
  have nd:=scFileIn.nd
  have hr1:Room 1 _:=hr.mono (by decide)
  refine⟨_,a03 (a47 (a32 c96 (a29 a30 (by rfl) mLen PySem.boot_len (a00 (pv 0) a04)) a07 (a38 _)) (a08 (a37 a62)) a31)
   (a03 (a39 (i:=1) nd rfl (Or.inl rfl) (a35 DU hr (a00 (a50 a53 (pv 0) a07 (fun _ _=>rfl)) a04)))
   (a03 (a39 (i:=2) nd rfl (Or.inl rfl) (a35 DN hr1 (a00 (a50 a53 (pv 0) a07 (fun _ _=>rfl)) (a00 (a54 e87 (b26 (v:=.int 200) rfl mMost ⟨tm,rfl⟩) a07) a04))))
   (a08 (a37 (b45 (PW.pt (c32 (b21 (c30 (pv 1))) (b61 (b21 (c30 (pv 2)))))) a62 (a59 (a00 (pv 1) (a00 a36 (a00 (pv 2) a04))))))))),?_⟩
  refine⟨_,rfl,l,_,rfl,.inl (SqL.of hl),rfl,_,rfl,e62 rfl ?_⟩
  have ht:=hp.tlen (by decide)
  refine⟨_,rfl,l,_,_,_,rfl,rfl,SqL.of hl,rfl,a34 p,rfl,by omega,fun zs e t H1 h0 h1 s1=>?_,fun e=>?_⟩
  ·unfold b51 at e
   rw[a88 (by have:=hp.len;omega) hp.nm] at e
   cases e
   refine⟨_,rfl,l,_,_,_,rfl,rfl,SqL.of (s1 _ _ hl),rfl,_,_,rfl,rfl,n,rfl,hn,fun H2 s2=>?_⟩
   refine⟨_,rfl,_,rfl,b00 ⟨_,rfl,_,rfl,b00 ⟨_,rfl,_,rfl,by show 3<=sizeLine;decide,fun u hu=>?_⟩⟩⟩
   refine k _ _ ⟨u,t,rfl,?_,a02⟩ ((s1.trans s2).upd hu)
   have h2:=s2 _ _ h1
   rw[a06 (a01 h2 hu)]
   exact h2
  ·unfold b51 at e
   rw[a88 (by have:=hp.len;omega) hp.nm] at e
   cases e
end
def DE:Str := "data ="
def DO:Str := "data of "
theorem c69:DE.cps.toList=[100,97,116,97,32,61]:=by decide +kernel
theorem c02:DO.cps.toList=[100,97,116,97,32,111,102,32]:=by decide +kernel
theorem d21:DE.length=6:=by decide +kernel
theorem d07:DO.length=8:=by decide +kernel
theorem b40 (z:Str):prP (none,some z)=DE++z:=by
 show("data" : Str)++(" =" ++ z)=_
 rw[← a75,show("data" : Str) ++ " =" = DE by decide +kernel]
theorem b03 (zs:List Str):prP (some zs,none)=DO++a34 zs:=by
 show("data" : Str)++(" of " ++ a34 zs)=_
 rw[← a75,show("data" : Str) ++ " of " = DO by decide +kernel]
theorem b04 (zs:List Str) (z:Str):prP (some zs,some z)=DO++(a34 zs++(BE++z)):=by
 show(("data" : Str)++(" of " ++ a34 zs))++(" =" ++ z)=_
 rw[← a75 "data" " of " (a34 zs),show("data" : Str) ++ " of " = DO by decide +kernel,a75]
 rfl
theorem h60 (b:Str):Txt.startswith (DO++b) DE=false:=by
 refine c52 (i:=5) (c:=111) (d:=61) (by rw[d21];decide) ?_ (by rw[c69];rfl) (by decide)
 rw[Str.cps_append,Array.toList_append,c02]
 rfl
theorem d46 (x:List Str×Ent):∃ c,(b83 x).cps.toList[0]?=some c/\c≠100:=by
 obtain⟨p,e⟩:=x
 have hd:∀(a:Str) (b:Str) (c:Nat) (r:List Nat),a.cps.toList=c::r->(a++b).cps.toList[0]?=some c:=fun a b c r h=>by
  rw[Str.cps_append,Array.toList_append,h]
  rfl
 cases e with
 | gone=>exact⟨103,hd _ _ _ _ (show(Str.empty ++ "gone ").cps.toList=103::[111,110,101,32] by decide +kernel),by decide⟩
 | fil i =>
  refine⟨102,?_,by decide⟩
  show(Str.empty ++ "file " ++ a34 p ++ " " ++ (toString i:String)).cps.toList[0]?=_
  rw[a75,a75]
  exact hd _ _ _ _ (show(Str.empty ++ "file ").cps.toList=102::[105,108,101,32] by decide +kernel)
 | dir o =>
  refine⟨102,?_,by decide⟩
  cases o with
  | none =>
   show(Str.empty ++ "folder " ++ a34 p ++ " alone").cps.toList[0]?=_
   rw[a75]
   exact hd _ _ _ _ (show(Str.empty ++ "folder ").cps.toList=102::[111,108,100,101,114,32] by decide +kernel)
  | some b =>
   show(Str.empty ++ "folder " ++ a34 p ++ " over " ++ a34 b).cps.toList[0]?=_
   rw[a75,a75]
   exact hd _ _ _ _ (show(Str.empty ++ "folder ").cps.toList=102::[111,108,100,101,114,32] by decide +kernel)
theorem i24 (x:List Str×Ent):Txt.startswith (b83 x) DE=false/\Txt.startswith (b83 x) DO=false:=by
 obtain⟨c,hc,hn⟩:=d46 x
 exact⟨c52 (i:=0) (d:=100) (by rw[d21];decide) hc (by rw[c69];rfl) hn,c52 (i:=0) (d:=100) (by rw[d07];decide) hc (by rw[c02];rfl) hn⟩
theorem f02 {x:List Str×Ent}(h:EntG x):(b83 x).length<=175:=by
 obtain⟨p,e⟩:=x
 have hl:(a34 p).length<=81:=a84 h.pth
 have e0:Str.empty.length=0:=by decide +kernel
 have e1:("gone " : Str).length=5:=by decide +kernel
 have e2:("file " : Str).length=5:=by decide +kernel
 have e3:("folder " : Str).length=7:=by decide +kernel
 have e4:(" " : Str).length=1:=by decide +kernel
 have e5:(" alone" : Str).length=6:=by decide +kernel
 have e6:(" over " : Str).length=6:=by decide +kernel
 cases e with
 | gone =>
  show(Str.empty ++ "gone " ++ a34 p).length<=_
  rw[Dj,Dj]
  omega
 | fil i =>
  obtain⟨n,rfl⟩:=Int.eq_ofNat_of_zero_le h.2.1
  have hn:=i47 (n:=n) (by have:=h.2.2;omega)
  show(Str.empty ++ "file " ++ a34 p ++ " " ++ e30 n).length<=_
  rw[Dj,Dj,Dj,Dj]
  omega
 | dir o =>
  cases o with
  | none =>
   show(Str.empty ++ "folder " ++ a34 p ++ " alone").length<=_
   rw[Dj,Dj,Dj]
   omega
  | some b =>
   have:=a84 ((h.2 b rfl).pth (by decide))
   show(Str.empty ++ "folder " ++ a34 p ++ " over " ++ a34 b).length<=_
   rw[Dj,Dj,Dj,Dj]
   omega
def d65:Sp:=fun vs H Q _=>(∃ x:List Str×Ent,vs=[.str (b83 x)]/\EntG x/\∀ H',Same H H'->Q .non H')∨(∃ x:Pr,vs=[.str (prP x)]/\PrG x/\∀ v H',PairV H' v x->Same H H'->Q v H')
section
variable {P:Program}{w:World}{K:PySem.W.Frag}{mg:Str->Option Value}{base:Heap}
theorem scFoldIn:FnScope ["words", "path", "beneath"] ["words"] (a09 b32):=⟨rfl,rfl,rfl,by decide +kernel,rfl,by decide +kernel,by decide +kernel⟩
theorem g77 {f:Addr}{fd:FuncData}(F:Fun K "folder_in" "folder_in" b32 f fd)(mLen:mg "len" = none)(DU:Def P w K mg base 3 "path_in" ["text"] c04):FnOk P w K mg base CX0 4 f fd ["words"] d72:=by
 refine F.ok scFoldIn (fun vs H Q E h=>?_) (fun cdv A outer s H vs Q E hr h=>?_)
 ·obtain⟨l,p,n,rfl,_⟩:=h
  rfl
 ·obtain⟨l,p,o,rfl,hl,hp,ho,k⟩:=h
  have nd:=scFoldIn.nd
  refine⟨_,a03 (a47 (a32 e60 (a29 a30 (by rfl) mLen PySem.boot_len (a00 (pv 0) a04)) a07 (a38 _)) (a08 (a37 a62)) a31)
   (a03 (a39 (i:=1) nd rfl (Or.inl rfl) (a35 DU hr (a00 (a50 a53 (pv 0) a07 (fun _ _=>rfl)) a04)))
   (a03 (a47 (b21 (c30 (pv 1))) (a08 (a37 a62)) a31)
   (a03 (a47 (a32 (h61 hr.units0) (b05 d36 (pv 0) (b38 a07) b49) (a99 (a00 a36 a04)) (a38 _)) (a08 (a37 (a59 (a00 (pv 1) (a00 a36 (a00 a62 a04)))))) a31)
   (a03 (a47 (PW.pt (c32 (a32 c96 (a29 a30 (by rfl) mLen PySem.boot_len (a00 (pv 0) a04)) a07 (a38 _)) (b61 (a32 c96 (a50 a53 (pv 0) a07 (fun _ _=>rfl)) a36 (a38 _))))) (a08 (a37 a62)) a31)
   (a03 (a39 (i:=2) nd rfl (Or.inl rfl) (a35 DU hr (a00 (a50 a53 (pv 0) a07 (fun _ _=>rfl)) a04)))
   (a08 (a37 (b45 (b21 (c30 (pv 2))) a62 (a59 (a00 (pv 1) (a00 a36 (a00 (pv 2) a04)))))))))))),?_⟩
  have ht:=hp.tlen (by decide)
  cases o with
  | none =>
   refine⟨_,rfl,l,_,rfl,.inl (SqL.of hl),_,_,rfl,rfl,_,rfl,?_⟩
   refine a71 (fun q=>absurd (AJ q) (show ¬(((3:Nat):Int) < 3) by decide)) (fun _=>?_)
   refine⟨_,rfl,l,_,_,_,rfl,rfl,SqL.of hl,rfl,a34 p,rfl,by omega,fun zs e t H1 h0 h1 s1=>?_,fun e=>?_⟩
   ·unfold b51 at e
    rw[a88 (by have:=hp.len;omega) hp.nm] at e
    cases e
    refine⟨_,rfl,_,rfl,b00 ?_⟩
    refine⟨_,rfl,_,rfl,l,_,rfl,SqL.of (s1 _ _ hl),fun c hc=>⟨by show 1<=sizeLine;decide,fun d hd=>?_⟩⟩
    have nc:c≠d:=a01 (H:=upd H1 c _) a02 hd
    refine⟨c,d,["alone"],["alone"],rfl,rfl,SqL.of (by rw[a06 nc,a02];rfl),SqL.of a02,_,rfl,?_⟩
    refine a71 (fun _=>?_) (fun q=>absurd (Az rfl) q)
    refine⟨_,rfl,by show 3<=sizeLine;decide,fun u hu=>?_⟩
    have sA:=(s1.upd hc (o:=.lst (b52 ((b87 (p,Ent.dir none)).map V.str) (some 2) none))).upd hd (o:=.lst [V.str "alone"])
    refine k _ _ ⟨u,t,rfl,?_,.non,rfl,a02⟩ (sA.upd hu)
    have n1:t≠c:=a01 h1 hc
    have h2:(upd H1 c (.lst (b52 ((b87 (p,Ent.dir none)).map V.str) (some 2) none))) t=some (.tup (p.map V.str)):=by rw[a06 n1];exact h1
    have n2:t≠d:=a01 h2 hd
    have h3:(upd (upd H1 c (.lst (b52 ((b87 (p,Ent.dir none)).map V.str) (some 2) none))) d (.lst [V.str "alone"])) t=some (.tup (p.map V.str)):=by rw[a06 n2];exact h2
    rw[a06 (a01 h3 hu)]
    exact h3
   ·unfold b51 at e
    rw[a88 (by have:=hp.len;omega) hp.nm] at e
    cases e
  | some b =>
   have hb:=ho b rfl
   have htb:=hb.tlen (by decide)
   refine⟨_,rfl,l,_,rfl,.inl (SqL.of hl),_,_,rfl,rfl,_,rfl,?_⟩
   refine a71 (fun q=>absurd (AJ q) (show ¬(((4:Nat):Int) < 3) by decide)) (fun _=>?_)
   refine⟨_,rfl,l,_,_,_,rfl,rfl,SqL.of hl,rfl,a34 p,rfl,by omega,fun zs e t H1 h0 h1 s1=>?_,fun e=>?_⟩
   ·unfold b51 at e
    rw[a88 (by have:=hp.len;omega) hp.nm] at e
    cases e
    refine⟨_,rfl,_,rfl,b00 ?_⟩
    refine⟨_,rfl,_,rfl,l,_,rfl,SqL.of (s1 _ _ hl),fun c hc=>⟨by show 1<=sizeLine;decide,fun d hd=>?_⟩⟩
    have nc:c≠d:=a01 (H:=upd H1 c _) a02 hd
    refine⟨c,d,["over", a34 b],["alone"],rfl,rfl,SqL.of (by rw[a06 nc,a02];rfl),SqL.of a02,_,rfl,?_⟩
    refine a71 (fun q=>absurd (AJ q) (fun z=>by injection z with _ z;cases z)) (fun _=>?_)
    have sA:=(s1.upd hc (o:=.lst (b52 ((b87 (p,Ent.dir (some b))).map V.str) (some 2) none))).upd hd (o:=.lst [V.str "alone"])
    have n1:t≠c:=a01 h1 hc
    have h2:(upd H1 c (.lst (b52 ((b87 (p,Ent.dir (some b))).map V.str) (some 2) none))) t=some (.tup (p.map V.str)):=by rw[a06 n1];exact h1
    have n2:t≠d:=a01 h2 hd
    have h3:(upd (upd H1 c (.lst (b52 ((b87 (p,Ent.dir (some b))).map V.str) (some 2) none))) d (.lst [V.str "alone"])) t=some (.tup (p.map V.str)):=by rw[a06 n2];exact h2
    generalize (upd (upd H1 c (.lst (b52 ((b87 (p,Ent.dir (some b))).map V.str) (some 2) none))) d (.lst [V.str "alone"]))=HX at sA h3 ⊢
    have hlX:=sA _ _ hl
    refine⟨_,rfl,l,_,rfl,.inl (SqL.of hlX),rfl,_,rfl,e62 rfl ?_⟩
    refine⟨_,rfl,l,_,_,_,rfl,rfl,SqL.of hlX,rfl,rfl,_,rfl,e62 rfl ?_⟩
    refine⟨_,rfl,l,_,_,_,rfl,rfl,SqL.of hlX,rfl,a34 b,rfl,by omega,fun zs e t2 H2 h02 h12 s2=>?_,fun e=>?_⟩
    ·unfold b51 at e
     rw[a88 (by have:=hb.len;omega) hb.nm] at e
     cases e
     refine⟨_,rfl,_,rfl,b00 ⟨_,rfl,_,rfl,by show 3<=sizeLine;decide,fun u hu=>?_⟩⟩
     have h4:=s2 _ _ h3
     refine k _ _ ⟨u,t,rfl,by rw[a06 (a01 h4 hu)];exact h4,.ref t2,⟨t2,rfl,by rw[a06 (a01 h12 hu)];exact h12⟩,a02⟩ ((sA.trans s2).upd hu)
    ·unfold b51 at e
     rw[a88 (by have:=hb.len;omega) hb.nm] at e
     cases e
   ·unfold b51 at e
    rw[a88 (by have:=hp.len;omega) hp.nm] at e
    cases e
theorem scEntIn:FnScope ["row", "words"] ["row"] (a09 b75):=⟨rfl,rfl,rfl,by decide +kernel,rfl,by decide +kernel,by decide +kernel⟩
theorem g94 {f:Addr}{fd:FuncData}(F:Fun K "entry_in" "entry_in" b75 f fd)(DF:Def P w K mg base 4 "folder_in" ["words"] d72)(DL:Def P w K mg base 4 "file_in" ["words"] d48)(DG:Def P w K mg base 3 "gone_in" ["words"] d68):FnOk P w K mg base CX0 5 f fd ["row"] e49:=by
 refine F.ok scEntIn (fun vs H Q E h=>?_) (fun cdv A outer s H vs Q E hr h=>?_)
 ·obtain⟨x,rfl,_⟩:=h
  rfl
 ·obtain⟨x,rfl,hx,k⟩:=h
  have nd:=scEntIn.nd
  have hr3:Room 3 _:=hr.mono (by decide)
  refine⟨_,a03 (a39 (i:=1) nd rfl (Or.inl rfl) (b20 PySem.F.plainAttrs_str PySem.F.slot_str_split PySem.F.type_str_split c70 (pv 0) (a00 a36 a04)))
   (a03 (a47 (a32 b07 (a50 a53 (pv 1) a07 (fun _ _=>rfl)) a36 (a38 _)) (a08 (a37 (a35 DF hr (a00 (pv 1) a04)))) a31)
   (a03 (a47 (a32 b07 (a50 a53 (pv 1) a07 (fun _ _=>rfl)) a36 (a38 _)) (a08 (a37 (a35 DL hr (a00 (pv 1) a04)))) a31)
   (a03 (a47 (a32 b07 (a50 a53 (pv 1) a07 (fun _ _=>rfl)) a36 (a38 _)) (a08 (a37 (a35 DG hr3 (a00 (pv 1) a04)))) a31)
   b60))),?_⟩
  have hlen:=f02 hx
  refine⟨_,rfl,rfl,_,_,rfl,rfl,by decide +kernel,by omega,fun l hl=>?_⟩
  rw[d01 hx]
  have s1:Same H (upd H l (.lst ((b87 x).map V.str))):=(Same.refl H).upd hl
  have h1:(upd H l (.lst ((b87 x).map V.str))) l=some (.lst ((b87 x).map V.str)):=a02
  obtain⟨p,e⟩:=x
  cases e with
  | gone =>
   refine⟨_,rfl,l,_,_,_,rfl,rfl,SqL.of h1,rfl,rfl,_,rfl,?_⟩
   refine a71 (fun q=>absurd q (by decide +kernel)) (fun _=>?_)
   refine⟨_,rfl,l,_,_,_,rfl,rfl,SqL.of h1,rfl,rfl,_,rfl,?_⟩
   refine a71 (fun q=>absurd q (by decide +kernel)) (fun _=>?_)
   refine⟨_,rfl,l,_,_,_,rfl,rfl,SqL.of h1,rfl,rfl,_,rfl,?_⟩
   refine a71 (fun _=>?_) (fun q=>absurd (by decide +kernel) q)
   exact⟨_,rfl,l,p,rfl,h1,hx,fun v H' hv s'=>k v H' hv (s1.trans s')⟩
  | fil i =>
   obtain⟨n,rfl⟩:=Int.eq_ofNat_of_zero_le hx.2.1
   refine⟨_,rfl,l,_,_,_,rfl,rfl,SqL.of h1,rfl,rfl,_,rfl,?_⟩
   refine a71 (fun q=>absurd q (by decide +kernel)) (fun _=>?_)
   refine⟨_,rfl,l,_,_,_,rfl,rfl,SqL.of h1,rfl,rfl,_,rfl,?_⟩
   refine a71 (fun _=>?_) (fun q=>absurd (by decide +kernel) q)
   exact⟨_,rfl,l,p,n,rfl,h1,hx.1,by have:=hx.2.2;omega,fun v H' hv s'=>k v H' hv (s1.trans s')⟩
  | dir o =>
   have h0:atI ((b87 (p,Ent.dir o)).map V.str) 0=some (V.str "folder"):=by cases o <;> rfl
   refine⟨_,rfl,l,_,_,_,rfl,rfl,SqL.of h1,h0,rfl,_,rfl,?_⟩
   refine a71 (fun _=>?_) (fun q=>absurd (by decide +kernel) q)
   exact⟨_,rfl,l,p,o,rfl,h1,hx.1,hx.2,fun v H' hv s'=>k v H' hv (s1.trans s')⟩
theorem scPairIn:FnScope ["row", "text", "parts", "origin"] ["row"] (a09 c47):=⟨rfl,rfl,rfl,by decide +kernel,rfl,by decide +kernel,by decide +kernel⟩
theorem f83 {f:Addr}{fd:FuncData}(F:Fun K "pair_in" "pair_in" c47 f fd)(mLen:mg "len" = none)(DU:Def P w K mg base 3 "path_in" ["text"] c04)(DT:Def P w K mg base 2 "is_text" ["text"] d57):FnOk P w K mg base CX0 4 f fd ["row"] d65:=by
 refine F.ok scPairIn (fun vs H Q E h=>?_) (fun cdv A outer s H vs Q E hr h=>?_)
 ·rcases h with⟨x,rfl,_⟩ | ⟨x,rfl,_⟩ <;> rfl
 ·have nd:=scPairIn.nd
  have hr2:Room 2 _:=hr.mono (by decide)
  refine⟨_,a03 (a47 (a96 (b20 PySem.F.plainAttrs_str PySem.F.slot_str_startswith PySem.F.type_str_startswith b06 (pv 0) (a00 a36 a04)))
   (a03 (a39 (i:=1) nd rfl (Or.inl rfl) (b05 g75 (pv 0) (b38 (a29 a83 (by rfl) mLen PySem.boot_len (a00 a36 a04))) b49))
   (a08 (a37 (b45 (a96 (a35 DT hr2 (a00 (pv 1) a04))) (a59 (a00 a62 (a00 (pv 1) a04))) a62)))) a31)
   (a03 (a47 (b84 (a96 (b20 PySem.F.plainAttrs_str PySem.F.slot_str_startswith PySem.F.type_str_startswith b06 (pv 0) (a00 a36 a04)))) (a08 (a37 a62)) a31)
   (a03 (a39 (i:=2) nd rfl (Or.inl rfl) (b20 PySem.F.plainAttrs_str PySem.F.slot_str_partition PySem.F.type_str_partition e09 (b05 g75 (pv 0) (b38 (a29 a83 (by rfl) mLen PySem.boot_len (a00 a36 a04))) b49) (a00 a36 a04)))
   (a03 (a39 (i:=3) nd rfl (Or.inl rfl) (a35 DU hr (a00 (a50 a66 (pv 2) a07 (fun _ _=>rfl)) a04)))
   (a03 (a47 (PW.pt (c32 (b21 (c30 (pv 3))) (b61 (a32 (h67 hr.units0) (pv 3) (a59 a04) (a38 _))))) (a08 (a37 a62)) a31)
   (a03 (a47 (a32 b07 (a50 a66 (pv 2) a07 (fun _ _=>rfl)) a36 (a38 _)) (a08 (a37 (a59 (a00 (pv 3) (a00 a62 a04))))) a31)
   (a08 (a37 (b45 (a96 (a35 DT hr2 (a00 (a50 a66 (pv 2) a07 (fun _ _=>rfl)) a04))) (a59 (a00 (pv 3) (a00 (a50 a66 (pv 2) a07 (fun _ _=>rfl)) a04))) a62)))))))),?_⟩
  rcases h with⟨x,rfl,hx,k⟩ | ⟨x,rfl,hx,k⟩
  ·obtain⟨n1,n2⟩:=i24 x
   refine⟨_,rfl,rfl,_,DE,rfl,rfl,_,rfl,?_⟩
   rw[n1]
   refine b00 ⟨_,rfl,rfl,_,DO,rfl,rfl,_,rfl,?_⟩
   rw[n2]
   exact c01 (k H (Same.refl H))
  ·obtain⟨o,y⟩:=x
   have eDE:((DE.length:Nat):Int)=((DE.length:Nat):Int):=rfl
   cases o with
   | none =>
    cases y with
    | none=>exact absurd rfl (hx.nn rfl)
    | some z =>
     obtain⟨hz,hs⟩:=hx.txt z rfl
     rw[b40]
     refine⟨_,rfl,rfl,_,DE,rfl,rfl,_,rfl,?_⟩
     rw[c48]
     refine c01 ⟨_,rfl,DE,rfl,by rw[sizeLine_eq,d21];decide,_,rfl,_,rfl,by rw[Dj,d21,sizeLine_eq];omega,?_⟩
     rw[d95]
     refine⟨_,rfl,z,rfl,hz,hs,fun H1 s1=>⟨_,rfl,c01 ⟨_,rfl,by show 2<=sizeLine;decide,fun u hu=>?_⟩⟩⟩
     exact k _ _ ⟨u,.non,.str z,rfl,rfl,rfl,a02⟩ (s1.upd hu)
   | some zs =>
    obtain⟨hne,hzs⟩:=hx.org zs rfl
    have htl:=hzs.tlen (by decide)
    obtain⟨b,py,pz,hb,e1,e2,e3⟩:∃ b py pz:Str,b.length<=400/\prP (some zs,y)=DO++b/\Txt.partition b BE=(a34 zs,py,pz)/\((py = ""/\y=none)∨(py ≠ ""/\y=some pz)):=by
     cases y with
     | none=>exact⟨a34 zs,Str.empty,Str.empty,by omega,b03 zs,e41 (b48 hzs.nm),.inl ⟨by decide +kernel,rfl⟩⟩
     | some z =>
      obtain⟨hz,hs⟩:=hx.txt z rfl
      exact⟨a34 zs++(BE++z),BE,z,by rw[Dj,Dj,c87];omega,b04 zs z,c93 (b48 hzs.nm),.inr ⟨by decide +kernel,rfl⟩⟩
    rw[e1]
    refine⟨_,rfl,rfl,_,DE,rfl,rfl,_,rfl,?_⟩
    rw[h60]
    refine b00 ⟨_,rfl,rfl,_,DO,rfl,rfl,_,rfl,?_⟩
    rw[c48]
    refine b00 ⟨_,rfl,DO,rfl,by rw[sizeLine_eq,d07];decide,_,rfl,_,rfl,by rw[Dj,d07,sizeLine_eq];omega,?_⟩
    rw[d95]
    refine⟨rfl,b,BE,rfl,rfl,by decide +kernel,by rw[sizeLine_eq];omega,fun D hD=>?_⟩
    rw[e2]
    have sD:Same H (upd H D (.tup [V.str (a34 zs),V.str py,V.str pz])):=(Same.refl H).upd hD
    have hD1:(upd H D (.tup [V.str (a34 zs),V.str py,V.str pz])) D=some (.tup [V.str (a34 zs),V.str py,V.str pz]):=a02
    refine⟨_,rfl,D,_,_,_,rfl,rfl,SqT.of hD1,rfl,a34 zs,rfl,by omega,fun ys e t H1 h0 h1 s1=>?_,fun e=>?_⟩
    ·unfold b51 at e
     rw[a88 (by have:=hzs.len;omega) hzs.nm] at e
     cases e
     refine⟨_,rfl,_,rfl,b00 ?_⟩
     refine⟨_,rfl,by show 0<=sizeLine;decide,fun u hu=>?_⟩
     have s2:Same H1 (upd H1 u (.tup [])):=(Same.refl _).upd hu
     refine⟨t,u,zs,[],rfl,rfl,SqT.of (s2 _ _ h1),SqT.of a02,_,rfl,?_⟩
     refine a71 (fun q=>absurd (AJ q) hne) (fun _=>?_)
     have hD2:=s2 _ _ (s1 _ _ hD1)
     have h12:=s2 _ _ h1
     have sH:=sD.trans (s1.trans s2)
     generalize upd H1 u (.tup [])=HX at hD2 h12 sH ⊢
     refine⟨_,rfl,D,_,_,_,rfl,rfl,SqT.of hD2,rfl,rfl,_,rfl,?_⟩
     rcases e3 with⟨ey,eq⟩ | ⟨ey,eq⟩
     ·refine a71 (fun _=>?_) (fun q=>absurd (Az (by rw[ey])) q)
      refine⟨_,rfl,by show 2<=sizeLine;decide,fun x hx'=>?_⟩
      refine k _ _ ⟨x,.ref t,.non,rfl,⟨t,rfl,by rw[a06 (a01 h12 hx')];exact h12⟩,by rw[eq];rfl,a02⟩ (sH.upd hx')
     ·refine a71 (fun q=>absurd (AJ q) (fun z=>ey (by injection z))) (fun _=>?_)
      obtain⟨hz,hs⟩:=hx.txt pz eq
      refine⟨_,rfl,D,_,_,_,rfl,rfl,SqT.of hD2,rfl,pz,rfl,hz,hs,fun H3 s3=>⟨_,rfl,c01 ⟨_,rfl,_,rfl,D,_,_,_,rfl,rfl,SqT.of (s3 _ _ hD2),rfl,by show 2<=sizeLine;decide,fun x hx'=>?_⟩⟩⟩
      have h13:=s3 _ _ h12
      refine k _ _ ⟨x,.ref t,.str pz,rfl,⟨t,rfl,by rw[a06 (a01 h13 hx')];exact h13⟩,by rw[eq];rfl,a02⟩ ((sH.trans s3).upd hx')
    ·unfold b51 at e
     rw[a88 (by have:=hzs.len;omega) hzs.nm] at e
     cases e
end
structure DefM (P:Program)(w:World)(K:PySem.W.Frag) (mg:Str->Option Value)(base:Heap) (k:Nat)(C:Addr) (m:Str) (ps:List Str)(sp:Sp):Prop where
 ex:∃ f fd,FnOk P w K mg base CX0 k f fd ps sp/\Meth K C m f/\Binds K fd ps []
section
variable {X:Cx}{k:Nat}{ps:List Str}{sp:Sp}{m:Str}{C:Addr}{pos apos:Pos}{e o:Expr}{es:List Expr}{ta:TE}{t:TA}
theorem f67 {pl:Sem Bool}(D:DefM X.prog X.w X.K X.mg X.base k C m ps sp)(c:Cls X.K C)(hr:Room k X.A)(he:PE X o ta)(ha:PA X (e::es) t)
 (hst:starEach (e::es) X.env=(false,eval e X.env)::starEach es X.env:=by rfl)(hpl:(backTo pos (starEach es X.env)).any (·.1)=false:=by rfl)
 (ht:eval (.Call (.Attribute o m apos) (e::es) [] pos) X.env=(do
   let ov ← eval o X.env
   standAt apos.atName
   let (f,first) ← holding [ov] (getMethod ov m pl)
   callWith pos f first (backTo pos (starEach (e::es) X.env)) (backToKw pos (keywordEach [] X.env))):=by rfl) :
 PE X (.Call (.Attribute o m apos) (e::es) [] pos) (g97 C m sp [] E0 ta t):=by
 obtain⟨f,fd,F,hm,hb⟩:=D.ex
 exact i20 he c hm F hr hb .nil g89 ha hst hpl ht
theorem g08 {pl:Sem Bool}(D:DefM X.prog X.w X.K X.mg X.base k C m ps sp)(c:Cls X.K C)(hr:Room k X.A)(he:PE X o ta)
 (ht:eval (.Call (.Attribute o m apos) [] [] pos) X.env=(do
   let ov ← eval o X.env
   standAt apos.atName
   let (f,first) ← holding [ov] (getMethod ov m pl)
   callWith pos f first (backTo pos (starEach [] X.env)) (backToKw pos (keywordEach [] X.env))):=by rfl) :
 PE X (.Call (.Attribute o m apos) [] [] pos) (g97 C m sp [] E0 ta i70):=by
 obtain⟨f,fd,F,hm,hb⟩:=D.ex
 exact h40 he c hm F hr hb .nil g89 ht
end
structure Txt (K:PySem.W.Frag)(C:Addr):Prop where
 cl:Cls K C
 nE:NoAttr K C "entries"
 nF:NoAttr K C "files"
 nL:NoAttr K C "last_path"
 nP:NoAttr K C "folder_paths"
 nO:NoAttr K C "origins"
 nN:NoAttr K C "numbers"
structure RB where
 dx:Addr
 ae:Addr
 af:Addr
 am:Addr
 ao:Addr
 an:Addr
structure RD where
 fs:List (Str×V)
 al:Addr
 xs:List V
 ys:List V
 m:b69
 o:b69
 kvs:List (Key×V)
def RB.all (b:RB)(r:Addr):List Addr:=[r,b.ae,b.af,b.am,b.ao,b.an]
def f51 (es:List (List Str×Ent)):List Str:=(es.getLast?.map (·.1)).getD []
structure Flds (b:RB)(d:RD):Prop where
 f1:d.fs.lookup ("entries" : Str)=some (.ref b.ae)
 f2:d.fs.lookup ("files" : Str)=some (.ref b.af)
 f3:d.fs.lookup ("last_path" : Str)=some (.ref d.al)
 f4:d.fs.lookup ("folder_paths" : Str)=some (.ref b.am)
 f5:d.fs.lookup ("origins" : Str)=some (.ref b.ao)
 f6:d.fs.lookup ("numbers" : Str)=some (.ref b.an)
 m1:d.fs.lookup ("took_row" : Str)=none
 m2:d.fs.lookup ("took_entry" : Str)=none
 m3:d.fs.lookup ("took_pair" : Str)=none
 m4:d.fs.lookup ("is_whole" : Str)=none
 m5:d.fs.lookup ("layer_read" : Str)=none
 fl:d.fs.length<=20
structure RdOk (C:Addr)(H:Hp)(r:Addr)(b:RB)(d:RD) (es:List (List Str×Ent)) (ps:List Pr):Prop where
 hr:H r=some (.ins C b.dx d.fs)
 F:Flds b d
 he:H b.ae=some (.lst d.xs)
 hf:H b.af=some (.lst d.ys)
 hl:H d.al=some (.tup ((f51 es).map V.str))
 hm:H b.am=some (dP d.m)
 ho:H b.ao=some (dP d.o)
 hn:H b.an=some (.dK d.kvs)
 nef:b.ae≠b.af
 nmo:b.am≠b.ao
 E:EntsV H d.xs es
 Pp:PairsV H d.ys ps
 M:∀ zs,(a98 d.m zs).isSome=true↔zs=[]∨∃ o,(zs,Ent.dir o)∈es
 O:∀ zs,(a98 d.o zs).isSome=true↔∃ p∈ps,p.1=some zs
 N:∀ i:Int,(a98 d.kvs (Sum.inl i)).isSome=true↔∃ p,(p,Ent.fil i)∈es
 NK:∀ q∈d.kvs,∃ i:Int,q.1=Sum.inl i
 ml:d.m.length<=1+es.length
 ol:d.o.length<=ps.length
 nl:d.kvs.length<=es.length
theorem RdOk.same {C:Addr}{H H':Hp}{r:Addr}{b:RB}{d:RD}{es:List (List Str×Ent)}{ps:List Pr}(R:RdOk C H r b d es ps)(s:Same H H'):RdOk C H' r b d es ps :=
 ⟨s _ _ R.hr,R.F,s _ _ R.he,s _ _ R.hf,s _ _ R.hl,s _ _ R.hm,s _ _ R.ho,s _ _ R.hn,R.nef,R.nmo,EntsV.tk (Tk.of s) R.E,PairsV.tk (Tk.of s) R.Pp,R.M,R.O,R.N,R.NK,R.ml,R.ol,R.nl⟩
theorem f09 {f:Str}{v u:V}:∀ {fs:List (Str×V)},fs.lookup f=some u->(a51 f v fs).length=fs.length
 | [],h=>by cases h
 | (g,x)::r,h=>by
  show(if g=f then(g,v)::r else(g,x)::a51 f v r).length=_
  by_cases e:g=f
  ·rw[if_pos e]
   rfl
  ·rw[if_neg e,Cz,Cz]
   have hb:(f == g)=false:=beq_eq_false_iff_ne.mpr fun q=>e q.symm
   simp only[List.lookup,hb] at h
   rw[f09 h]
theorem Flds.last {b:RB}{d:RD}(h:Flds b d)(a:Addr) (xs ys:List V)(m o:b69) (kvs:List (Key×V)):Flds b ⟨a51 "last_path" (.ref a) d.fs,a,xs,ys,m,o,kvs⟩:=by
 have no:∀ f:Str,f ≠ "last_path"->(a51 "last_path" (.ref a) d.fs).lookup f=d.fs.lookup f:=fun f hf=>by rw[a94,if_neg hf]
 refine⟨(no _ (by decide +kernel)).trans h.f1,(no _ (by decide +kernel)).trans h.f2,by show(a51 _ _ _).lookup _=_;rw[a94,if_pos rfl],(no _ (by decide +kernel)).trans h.f4,(no _ (by decide +kernel)).trans h.f5,(no _ (by decide +kernel)).trans h.f6,(no _ (by decide +kernel)).trans h.m1,(no _ (by decide +kernel)).trans h.m2,(no _ (by decide +kernel)).trans h.m3,(no _ (by decide +kernel)).trans h.m4,(no _ (by decide +kernel)).trans h.m5,?_⟩
 show(a51 _ _ _).length<=_
 rw[f09 h.f3]
 exact h.fl
theorem Flds.data {b:RB}{d:RD}(h:Flds b d) (xs ys:List V)(m o:b69) (kvs:List (Key×V)):Flds b ⟨d.fs,d.al,xs,ys,m,o,kvs⟩:=⟨h.f1,h.f2,h.f3,h.f4,h.f5,h.f6,h.m1,h.m2,h.m3,h.m4,h.m5,h.fl⟩
def i25 (es:List (List Str×Ent)) (x:List Str×Ent):Prop:=Srt.lexB (f51 es) x.1=true/\es.length < 400/\(x.1.dropLast=[]∨∃ o,(x.1.dropLast,Ent.dir o)∈es)
def i56 (ps:List Pr)(x:Pr):Prop:=ps.length < 200/\∀ p∈ps,p.1=x.1->x.1=none
def g59 (C:Addr):Sp:=fun vs H Q _=>∃(r:Addr)(b:RB)(d:RD) (es:List (List Str×Ent)) (v:V) (x:List Str×Ent),vs=[.ref r,v]/\RdOk C H r b d es []/\EntV H v x.1 x.2/\i25 es x /\
 ∀ d' H',RdOk C H' r b d' (es++[x]) []->Kp (b.all r) H H'->Q (.bl true) H'
def g13 (C:Addr):Sp:=fun vs H Q _=>∃(r:Addr)(b:RB)(d:RD) (es:List (List Str×Ent)) (ps:List Pr) (v:V)(x:Pr),vs=[.ref r,v]/\RdOk C H r b d es ps/\PairV H v x/\i56 ps x /\
 ∀ d' H',RdOk C H' r b d' es (ps++[x])->Kp (b.all r) H H'->Q (.bl true) H'
theorem d16 (es:List (List Str×Ent)) (x:List Str×Ent):f51 (es++[x])=x.1:=by
 unfold f51
 rw[List.getLast?_append]
 rfl
section
variable {P:Program}{w:World}{K:PySem.W.Frag}{mg:Str->Option Value}{base:Heap}{C:Addr}
theorem scTookP:FnScope ["self", "pair", "origin"] ["self", "pair"] (a09 b35):=⟨rfl,rfl,rfl,by decide +kernel,rfl,by decide +kernel,by decide +kernel⟩
theorem h56 {f:Addr}{fd:FuncData}{tm:Tok}(F:Fun K "took_pair" "Reader.took_pair" b35 f fd)(T:Txt K C)(mLen:mg "len" = none)(mM:mg "MOST_FILES" = some (.int 200 tm)):FnOk P w K mg base CX0 1 f fd ["self", "pair"] (g13 C):=by
 refine F.ok scTookP (fun vs H Q E h=>?_) (fun cdv A outer s H vs Q E hr h=>?_)
 ·obtain⟨r,b,d,es,ps,v,x,rfl,_⟩:=h
  rfl
 ·obtain⟨r,b,d,es,ps,v,x,rfl,R,hv,hN,k⟩:=h
  have nd:=scTookP.nd
  have hu:=d73 hr
  refine⟨_,a03 (a39 (i:=2) nd rfl (Or.inl rfl) (a50 a66 (pv 1) a07 (fun _ _=>rfl)))
   (a03 (a47 (PW.pt (c32 (a32 b07 (a29 a30 (by rfl) mLen PySem.boot_len (a00 (b01 (pv 0) rfl) a04)) (b26 (v:=.int 200) rfl mM ⟨tm,rfl⟩) (a38 _)) (b61 (b21 (h88 hu (pv 2) (b01 (pv 0) rfl)))))) (a08 (a37 c31)) a31)
   (a03 (b46 (b20 PySem.F.plainAttrs_list PySem.F.slot_list_append PySem.F.type_list_append b19 (b01 (pv 0) rfl) (a00 (pv 1) a04)))
   (a03 (a47 (b21 (e45 (pv 2))) (a08 (b94 hu (b01 (pv 0) rfl) (pv 2) c31 rfl)) a31)
   (a08 (a37 c31))))),?_⟩
  obtain⟨t,ww,y,rfl,ho,hy,ht⟩:=id hv
  have lq:d.ys.length=ps.length:=Paired.length R.Pp
  have lp:=hN.1
  refine⟨_,rfl,t,_,_,_,rfl,rfl,SqT.of ht,rfl,?_⟩
  refine⟨_,rfl,r,C,b.dx,_,_,rfl,R.hr,T.cl,T.nF,R.F.f2,b.af,_,rfl,.inl (SqL.of R.hf),rfl,_,rfl,?_⟩
  refine a71 (fun q=>absurd (AJ q) (fun z=>by injection z with z;omega)) (fun _=>?_)
  refine⟨_,rfl,_,rfl,r,C,b.dx,_,_,rfl,R.hr,T.cl,T.nO,R.F.f5,b.ao,d.o,x.1,rfl,R.ho,ho,_,rfl,?_⟩
  have hin:inO d.o x.1=false:=by
   cases q:x.1 with
   | none=>rfl
   | some zs =>
    show(a98 d.o zs).isSome=false
    cases z:(a98 d.o zs).isSome with
    | false=>rfl
    | true =>
     obtain⟨p,hp,e⟩:=(R.O zs).mp z
     have:=hN.2 p hp (e.trans q.symm)
     rw[q] at this
     cases this
  rw[hin]
  refine b00 ?_
  refine⟨_,rfl,r,C,b.dx,_,_,rfl,R.hr,T.cl,T.nF,R.F.f2,.inl ⟨rfl,_,SqL.of R.hf⟩,_,rfl,b.af,_,_,rfl,rfl,R.hf,by rw[sizeLine_eq];omega,?_⟩
  have nrf:r≠b.af:=a85 R.hr R.hf (fun z=>nomatch z)
  have nfm:b.am≠b.af:=(a78 R.hf R.hm).symm
  have nfo:b.ao≠b.af:=(a78 R.hf R.ho).symm
  have nfn:b.an≠b.af:=a85 R.hn R.hf (fun z=>nomatch z)
  have nfl:d.al≠b.af:=a85 R.hl R.hf (fun z=>nomatch z)
  have k1:Kp (b.all r) H (upd H b.af (.lst (d.ys++[V.ref t]))):=(Kp.refl _ H).set (by simp[RB.all])
  have tk1:Tk H (upd H b.af (.lst (d.ys++[V.ref t]))):=b85 (a33 R.hf)
  have R1:∀(oo:b69),(∀ zs,(a98 oo zs).isSome=true↔∃ p∈ps++[x],p.1=some zs)->oo.length<=(ps++[x]).length->∀ H2:Hp,Kp [b.ao] (upd H b.af (.lst (d.ys++[V.ref t]))) H2->H2 b.ao=some (dP oo)->RdOk C H2 r b ⟨d.fs,d.al,d.xs,d.ys++[V.ref t],d.m,oo,d.kvs⟩ es (ps++[x]):=fun oo hO hl H2 k2 ho2=>by
   have nx:∀ c,c≠b.ao->c∉[b.ao]:=fun c hc=>by simpa using hc
   have tk2:Tk (upd H b.af (.lst (d.ys++[V.ref t]))) H2:=k2.tk fun a ha=>by
    rw[Ax.mp ha,a06 nfo]
    exact a93 R.ho
   have nro:r≠b.ao:=a85 R.hr R.ho (fun z=>nomatch z)
   have neo:b.ae≠b.ao:=a78 R.he R.ho
   have nfo':b.af≠b.ao:=a78 R.hf R.ho
   have nno:b.an≠b.ao:=a85 R.hn R.ho (fun z=>nomatch z)
   have nlo:d.al≠b.ao:=a85 R.hl R.ho (fun z=>nomatch z)
   refine⟨k2 _ _ (by rw[a06 nrf];exact R.hr) (nx _ nro),R.F.data _ _ _ _ _,k2 _ _ (by rw[a06 R.nef];exact R.he) (nx _ neo),k2 _ _ a02 (nx _ nfo'),k2 _ _ (by rw[a06 nfl];exact R.hl) (nx _ nlo),k2 _ _ (by rw[a06 nfm];exact R.hm) (nx _ R.nmo),ho2,k2 _ _ (by rw[a06 nfn];exact R.hn) (nx _ nno),R.nef,R.nmo,
    EntsV.tk (tk1.trans tk2) R.E,Paired.snoc (PairsV.tk (tk1.trans tk2) R.Pp) (PairV.tk (tk1.trans tk2) hv),R.M,hO,R.N,R.NK,R.ml,hl,R.nl⟩
  refine⟨_,rfl,_,rfl,?_⟩
  cases q:x.1 with
  | none =>
   rw[q] at ho
   cases (show ww=.non from ho)
   refine b00 ?_
   have hO:∀ zs,(a98 d.o zs).isSome=true↔∃ p∈ps++[x],p.1=some zs:=fun zs=>by
    rw[R.O zs]
    constructor
    ·rintro⟨p,hp,e⟩
     exact⟨p,List.mem_append_left _ hp,e⟩
    ·rintro⟨p,hp,e⟩
     rcases Bq.mp hp with z | z
     ·exact⟨p,z,e⟩
     ·rw[Ax.mp z,q] at e
      cases e
   exact k _ _ (R1 d.o hO (by rw[Bj];have:=R.ol;omega) _ (Kp.refl _ _) (by rw[a06 nfo];exact R.ho)) k1
  | some zs =>
   rw[q] at ho
   obtain⟨a,rfl,ha⟩:=ho
   refine c01 ?_
   refine⟨_,rfl,r,C,b.dx,_,_,rfl,by rw[a06 nrf];exact R.hr,T.cl,T.nO,R.F.f5,_,rfl,b.ao,_,rfl,h64 (m:=d.o) (zs:=zs) (by rw[a06 nfo];exact R.ho) (tk1 _ _ ha) (by have:=R.ol;rw[sizeLine_eq];omega),?_⟩
   have hO:∀ ws,(a98 (b23 d.o zs (.bl true)) ws).isSome=true↔∃ p∈ps++[x],p.1=some ws:=fun ws=>by
    rw[d35]
    by_cases e:ws=zs
    ·rw[if_pos e]
     exact⟨fun _=>⟨x,List.mem_append_right _ (Ax.mpr rfl),by rw[q,e]⟩,fun _=>rfl⟩
    ·rw[if_neg e,R.O ws]
     constructor
     ·rintro⟨p,hp,e'⟩
      exact⟨p,List.mem_append_left _ hp,e'⟩
     ·rintro⟨p,hp,e'⟩
      rcases Bq.mp hp with z | z
      ·exact⟨p,z,e'⟩
      ·rw[Ax.mp z,q] at e'
       exact absurd (EJ e').symm e
   refine k _ _ (R1 _ hO (by have:=a90 d.o zs (V.bl true);rw[Bj,List.length_singleton];have:=R.ol;omega) _ ((Kp.refl _ _).set (Ax.mpr rfl)) a02) (k1.set (by simp[RB.all]))
end
section
variable {P:Program}{w:World}{K:PySem.W.Frag}{mg:Str->Option Value}{base:Heap}{C:Addr}
theorem i08 {a b:List Str}(h:Srt.lexB a b=true):leS b a=false:=by rw[g27,h];rfl
theorem scTookE:FnScope ["self", "entry", "path"] ["self", "entry"] (a09 b10):=⟨rfl,rfl,rfl,by decide +kernel,rfl,by decide +kernel,by decide +kernel⟩
theorem h48 {f:Addr}{fd:FuncData}{tm:Tok}(F:Fun K "took_entry" "Reader.took_entry" b10 f fd)(T:Txt K C)(mLen:mg "len" = none)(mM:mg "MOST_ROWS" = some (.int 400 tm))(DP:Def P w K mg base 1 "parent_of" ["path"] d63):FnOk P w K mg base CX0 2 f fd ["self", "entry"] (g59 C):=by
 refine F.ok scTookE (fun vs H Q E h=>?_) (fun cdv A outer s H vs Q E hr h=>?_)
 ·obtain⟨r,b,d,es,v,x,rfl,_⟩:=h
  rfl
 ·obtain⟨r,b,d,es,v,x,rfl,R,hv,hN,k⟩:=h
  have nd:=scTookE.nd
  have hu:=d73 hr
  refine⟨_,a03 (a39 (i:=2) nd rfl (Or.inl rfl) (a50 a66 (pv 1) a07 (fun _ _=>rfl)))
   (a03 (a47 (PW.pt (c32 (a32 b07 (a29 a30 (by rfl) mLen PySem.boot_len (a00 (b01 (pv 0) rfl) a04)) (b26 (v:=.int 400) rfl mM ⟨tm,rfl⟩) (a38 _)) (b61 (a32 d84 (a29 a30 (by rfl) mLen PySem.boot_len (a00 (b01 (pv 0) rfl) a04)) a07 (a38 _))))) (a08 (a37 c31)) a31)
   (a03 (a47 (PW.pt (c32 (a32 (j13 hr.units0) (pv 2) (b01 (pv 0) rfl) (a38 _)) (b61 (b21 (e15 hu (a35 DP hr (a00 (pv 2) a04)) (b01 (pv 0) rfl)))))) (a08 (a37 c31)) a31)
   (a03 (b46 (b20 PySem.F.plainAttrs_list PySem.F.slot_list_append PySem.F.type_list_append b19 (b01 (pv 0) rfl) (a00 (pv 1) a04)))
   (a03 (c84 (pv 0) (pv 2) rfl)
   (a03 (a47 (a32 b07 (a50 a66 (pv 1) a07 (fun _ _=>rfl)) a36 (a38 _)) (a08 (b94 hu (b01 (pv 0) rfl) (pv 2) c31 rfl)) a31)
   (a03 (a47 (a32 b07 (a50 a66 (pv 1) a07 (fun _ _=>rfl)) a36 (a38 _)) (a08 (b94 hu (b01 (pv 0) rfl) (a50 a66 (pv 1) a07 (fun _ _=>rfl)) c31 rfl)) a31)
   (a08 (a37 c31)))))))),?_⟩
  obtain⟨p,e⟩:=x
  obtain⟨t,pa,rfl,hpa,hk⟩:=id hv
  have le:d.xs.length=es.length:=Paired.length R.E
  have lf:d.ys.length=0:=Paired.length R.Pp
  obtain⟨tl,ht,ht1⟩:∃ tl,H t=some (.tup (V.ref pa::tl))/\tl[0]?=some (.str (match e with | .dir _ => "folder" | .fil _ => "file" | .gone => "gone")):=by
   cases e with
   | gone=>exact⟨_,hk,rfl⟩
   | fil i=>exact⟨_,hk,rfl⟩
   | dir o=>obtain⟨ww,_,h4⟩:=hk;exact⟨_,h4,rfl⟩
  obtain⟨hlt,hlen,hpar⟩:=hN
  refine⟨_,rfl,t,_,_,_,rfl,rfl,SqT.of ht,d50 (v:=V.ref pa) (by decide) rfl,?_⟩
  refine⟨_,rfl,r,C,b.dx,_,_,rfl,R.hr,T.cl,T.nE,R.F.f1,b.ae,_,rfl,.inl (SqL.of R.he),rfl,_,rfl,?_⟩
  refine a71 (fun q=>absurd (AJ q) (fun z=>by injection z with z;omega)) (fun _=>?_)
  refine⟨_,rfl,r,C,b.dx,_,_,rfl,R.hr,T.cl,T.nF,R.F.f2,b.af,_,rfl,.inl (SqL.of R.hf),_,_,rfl,rfl,_,rfl,?_⟩
  refine a71 (fun q=>absurd (AJ q) (by rw[lf];decide)) (fun _=>?_)
  refine⟨_,rfl,_,rfl,r,C,b.dx,_,_,rfl,R.hr,T.cl,T.nL,R.F.f3,pa,d.al,p,f51 es,rfl,rfl,SqT.of hpa,SqT.of R.hl,_,rfl,?_⟩
  rw[i08 hlt]
  refine b00 ?_
  refine⟨_,rfl,pa,p,rfl,hpa,fun tp H1 htp s1=>?_⟩
  have R1:=R.same s1
  refine⟨_,rfl,r,C,b.dx,_,_,rfl,R1.hr,T.cl,T.nP,R.F.f4,b.am,_,rfl,getP R1.hm htp,_,rfl,?_⟩
  have hin:(a98 d.m p.dropLast).isSome=true:=(R.M _).mpr hpar
  rw[hin]
  refine b00 ?_
  have hpa1:=s1 _ _ hpa
  have ht1':=s1 _ _ ht
  have hv1:=EntV.tk (Tk.of s1) hv
  refine⟨_,rfl,r,C,b.dx,_,_,rfl,R1.hr,T.cl,T.nE,R.F.f1,.inl ⟨rfl,_,SqL.of R1.he⟩,_,rfl,b.ae,_,_,rfl,rfl,R1.he,by rw[sizeLine_eq];omega,?_⟩
  have nre:r≠b.ae:=a85 R.hr R.he (fun z=>nomatch z)
  have nme:b.am≠b.ae:=(a78 R.he R.hm).symm
  have noe:b.ao≠b.ae:=(a78 R.he R.ho).symm
  have nne:b.an≠b.ae:=a85 R.hn R.he (fun z=>nomatch z)
  have nrm:b.am≠r:=a85 R.hm R.hr (fun z=>nomatch z)
  have nro:b.ao≠r:=a85 R.ho R.hr (fun z=>nomatch z)
  have nrn:b.an≠r:=a85 R.hn R.hr (fun z=>nomatch z)
  have nrf:b.af≠r:=a85 R.hf R.hr (fun z=>nomatch z)
  have hr2:(upd H1 b.ae (.lst (d.xs++[V.ref t]))) r=some (.ins C b.dx d.fs):=by rw[a06 nre];exact R1.hr
  refine⟨_,rfl,_,rfl,r,C,b.dx,_,rfl,hr2,T.cl,T.nL,by have:=R.F.fl;omega,?_⟩
  have tkA:Tk H1 (upd H1 b.ae (.lst (d.xs++[V.ref t]))):=b85 (a33 R1.he)
  have tkB:Tk (upd H1 b.ae (.lst (d.xs++[V.ref t]))) (upd (upd H1 b.ae (.lst (d.xs++[V.ref t]))) r (.ins C b.dx (a51 "last_path" (.ref pa) d.fs))):=b85 (fun ys q=>by rw[hr2] at q;cases q)
  have k2:Kp (b.all r) H (upd (upd H1 b.ae (.lst (d.xs++[V.ref t]))) r (.ins C b.dx (a51 "last_path" (.ref pa) d.fs))):=((Kp.of s1).set (by simp[RB.all])).set (by simp[RB.all])
  have tk:=tkA.trans tkB
  have g1:(upd (upd H1 b.ae (.lst (d.xs++[V.ref t]))) r (.ins C b.dx (a51 "last_path" (.ref pa) d.fs))) r=some (.ins C b.dx (a51 "last_path" (.ref pa) d.fs)):=a02
  have g2:(upd (upd H1 b.ae (.lst (d.xs++[V.ref t]))) r (.ins C b.dx (a51 "last_path" (.ref pa) d.fs))) b.ae=some (.lst (d.xs++[V.ref t])):=by rw[a06 (Ne.symm nre),a02]
  have oth:∀ c u,H1 c=some u->c≠b.ae->c≠r->(upd (upd H1 b.ae (.lst (d.xs++[V.ref t]))) r (.ins C b.dx (a51 "last_path" (.ref pa) d.fs))) c=some u:=fun c u q n1 n2=>by rw[a06 n2,a06 n1];exact q
  generalize (upd (upd H1 b.ae (.lst (d.xs++[V.ref t]))) r (.ins C b.dx (a51 "last_path" (.ref pa) d.fs)))=HX at k2 tk g1 g2 oth ⊢
  have gf:=oth _ _ R1.hf (Ne.symm R.nef) nrf
  have gm:=oth _ _ R1.hm nme nrm
  have go:=oth _ _ R1.ho noe nro
  have gn:=oth _ _ R1.hn nne nrn
  have fl:Flds b ⟨a51 "last_path" (.ref pa) d.fs,pa,d.xs++[V.ref t],d.ys,d.m,d.o,d.kvs⟩:=R.F.last pa _ _ _ _ _
  have hvX:=EntV.tk tk hv1
  have hpaX:=tk _ _ hpa1
  have htX:=tk _ _ ht1'
  have fin:∀(m:b69) (kvs:List (Key×V))(H2:Hp),Kp [b.am,b.an] HX H2->H2 b.am=some (dP m)->H2 b.an=some (.dK kvs) ->
   (∀ zs,(a98 m zs).isSome=true↔zs=[]∨∃ o,(zs,Ent.dir o)∈es++[(p,e)])->(∀ i:Int,(a98 kvs (Sum.inl i)).isSome=true↔∃ q,(q,Ent.fil i)∈es++[(p,e)])->(∀ q∈kvs,∃ i:Int,q.1=Sum.inl i) ->
   m.length<=1+(es++[(p,e)]).length->kvs.length<=(es++[(p,e)]).length->Q (.bl true) H2:=fun m kvs H2 k3 hm2 hn2 hM hNn hNK ml nl=>by
   have nx:∀ c,c≠b.am->c≠b.an->c∉[b.am,b.an]:=fun c h1 h2=>by simp[h1,h2]
   have tk3:Tk HX H2:=k3.tk fun a ha=>by
    simp only[Cj,List.not_mem_nil,or_false] at ha
    rcases ha with rfl | rfl
    ·exact a93 gm
    ·exact fun ys q=>by rw[gn] at q;cases q
   refine k ⟨a51 "last_path" (.ref pa) d.fs,pa,d.xs++[V.ref t],d.ys,m,d.o,kvs⟩ H2 ?_ (k2.trans (k3.mono fun a ha=>by
    simp only[Cj,List.not_mem_nil,or_false] at ha
    rcases ha with rfl | rfl <;> simp[RB.all]))
   refine⟨k3 _ _ g1 (nx _ (Ne.symm nrm) (Ne.symm nrn)),⟨fl.f1,fl.f2,fl.f3,fl.f4,fl.f5,fl.f6,fl.m1,fl.m2,fl.m3,fl.m4,fl.m5,fl.fl⟩,k3 _ _ g2 (nx _ (Ne.symm nme) (Ne.symm nne)),k3 _ _ gf (nx _ (a78 gf gm) (a85 gf gn (fun z=>nomatch z))),?_,hm2,k3 _ _ go (nx _ (Ne.symm R.nmo) (a85 go gn (fun z=>nomatch z))),hn2,R.nef,R.nmo,?_,PairsV.tk (tk.trans tk3) R1.Pp,hM,R.O,hNn,hNK,ml,R.ol,nl⟩
   ·rw[d16]
    exact tk3 _ _ hpaX
   ·exact Paired.snoc (EntsV.tk (tk.trans tk3) R1.E) (EntV.tk tk3 hvX)
  have ma:∀ {q:List Str×Ent},q∈es++[(p,e)]↔q∈es∨q=(p,e):=fun {q}=>by rw[Bq,Ax]
  have len1:(es++[(p,e)]).length=es.length+1:=by rw[Bj];rfl
  cases e with
  | gone =>
   refine⟨_,rfl,t,_,_,_,rfl,rfl,SqT.of htX,d50 (v:=V.str "gone") (by decide) ht1,rfl,_,rfl,?_⟩
   refine a71 (fun q=>absurd q (by decide +kernel)) (fun _=>?_)
   refine⟨_,rfl,t,_,_,_,rfl,rfl,SqT.of htX,d50 (v:=V.str "gone") (by decide) ht1,rfl,_,rfl,?_⟩
   refine a71 (fun q=>absurd q (by decide +kernel)) (fun _=>?_)
   refine fin d.m d.kvs HX (Kp.refl _ _) gm gn (fun zs=>?_) (fun i=>?_) R.NK (by have:=R.ml;omega) (by have:=R.nl;omega)
   ·rw[R.M zs]
    constructor
    ·rintro(h | ⟨o,h⟩)
     ·exact .inl h
     ·exact .inr ⟨o,ma.mpr (.inl h)⟩
    ·rintro(h | ⟨o,h⟩)
     ·exact .inl h
     ·rcases ma.mp h with h | h
      ·exact .inr ⟨o,h⟩
      ·cases h
   ·rw[R.N i]
    constructor
    ·rintro⟨q,h⟩
     exact⟨q,ma.mpr (.inl h)⟩
    ·rintro⟨q,h⟩
     rcases ma.mp h with h | h
     ·exact⟨q,h⟩
     ·cases h
  | fil i =>
   refine⟨_,rfl,t,_,_,_,rfl,rfl,SqT.of htX,d50 (v:=V.str "file") (by decide) ht1,rfl,_,rfl,?_⟩
   refine a71 (fun q=>absurd q (by decide +kernel)) (fun _=>?_)
   refine⟨_,rfl,t,_,_,_,rfl,rfl,SqT.of htX,d50 (v:=V.str "file") (by decide) ht1,rfl,_,rfl,?_⟩
   refine a71 (fun _=>?_) (fun q=>absurd (by decide +kernel) q)
   have htl:tl=[.str "file", .int i]:=by
    have z:=ht.symm.trans (show H t=some (.tup [.ref pa,.str "file", .int i]) from hk)
    injection z with z
    injection z with z
    injection z
   refine⟨_,rfl,r,C,b.dx,_,_,rfl,g1,T.cl,T.nN,fl.f6,_,rfl,t,_,_,_,rfl,rfl,SqT.of htX,d50 (v:=V.int i) (by decide) (by rw[htl];rfl),b.an,_,rfl,DPut.k (k:=Sum.inl i) gn (by have:=R.nl;rw[sizeLine_eq];omega),?_⟩
   have nmn:b.am≠b.an:=a85 gm gn (fun z=>nomatch z)
   refine fin d.m (b23 d.kvs (Sum.inl i) (.bl true)) _ ((Kp.refl _ _).set (by simp)) (by rw[a06 nmn];exact gm) a02 (fun zs=>?_) (fun j=>?_) (fun q hq=>?_) (by have:=R.ml;omega) (by have:=a90 d.kvs (Sum.inl i) (V.bl true);have:=R.nl;omega)
   ·rw[R.M zs]
    constructor
    ·rintro(h | ⟨o,h⟩)
     ·exact .inl h
     ·exact .inr ⟨o,ma.mpr (.inl h)⟩
    ·rintro(h | ⟨o,h⟩)
     ·exact .inl h
     ·rcases ma.mp h with h | h
      ·exact .inr ⟨o,h⟩
      ·cases h
   ·rw[d35]
    by_cases ej:j=i
    ·subst ej
     rw[if_pos rfl]
     exact⟨fun _=>⟨p,ma.mpr (.inr rfl)⟩,fun _=>rfl⟩
    ·rw[if_neg (fun z=>ej (by injection z)),R.N j]
     constructor
     ·rintro⟨q,h⟩
      exact⟨q,ma.mpr (.inl h)⟩
     ·rintro⟨q,h⟩
      rcases ma.mp h with h | h
      ·exact⟨q,h⟩
      ·injection h with _ h
       injection h with h
       exact absurd h ej
   ·unfold b23 at hq
    split at hq
    ·obtain⟨u,hu',rfl⟩:=Ez.mp hq
     obtain⟨j,hj⟩:=R.NK u hu'
     refine⟨j,?_⟩
     by_cases z:u.1=Sum.inl i
     ·rw[if_pos z];exact hj
     ·rw[if_neg z];exact hj
    ·rcases Bq.mp hq with z | z
     ·exact R.NK q z
     ·rw[Ax.mp z];exact⟨i,rfl⟩
  | dir o =>
   refine⟨_,rfl,t,_,_,_,rfl,rfl,SqT.of htX,d50 (v:=V.str "folder") (by decide) ht1,rfl,_,rfl,?_⟩
   refine a71 (fun _=>?_) (fun q=>absurd (by decide +kernel) q)
   refine⟨_,rfl,r,C,b.dx,_,_,rfl,g1,T.cl,T.nP,fl.f4,_,rfl,b.am,_,rfl,h64 (m:=d.m) (zs:=p) gm hpaX (by have:=R.ml;rw[sizeLine_eq];omega),?_⟩
   have ntm:t≠b.am:=a85 htX gm (fun z=>nomatch z)
   have htY:(upd HX b.am (dP (b23 d.m p (V.bl true)))) t=some (.tup (V.ref pa::tl)):=by rw[a06 ntm];exact htX
   refine⟨_,rfl,t,_,_,_,rfl,rfl,SqT.of htY,d50 (v:=V.str "folder") (by decide) ht1,rfl,_,rfl,?_⟩
   refine a71 (fun q=>absurd q (by decide +kernel)) (fun _=>?_)
   have nmn:b.an≠b.am:=a85 gn gm (fun z=>nomatch z)
   refine fin (b23 d.m p (.bl true)) d.kvs _ ((Kp.refl _ _).set (by simp)) a02 (by rw[a06 nmn];exact gn) (fun zs=>?_) (fun i=>?_) R.NK (by have:=a90 d.m p (V.bl true);have:=R.ml;omega) (by have:=R.nl;omega)
   ·rw[d35]
    by_cases ez:zs=p
    ·subst ez
     rw[if_pos rfl]
     exact⟨fun _=>.inr ⟨o,ma.mpr (.inr rfl)⟩,fun _=>rfl⟩
    ·rw[if_neg ez,R.M zs]
     constructor
     ·rintro(h | ⟨o',h⟩)
      ·exact .inl h
      ·exact .inr ⟨o',ma.mpr (.inl h)⟩
     ·rintro(h | ⟨o',h⟩)
      ·exact .inl h
      ·rcases ma.mp h with h | h
       ·exact .inr ⟨o',h⟩
       ·injection h with h _
        exact absurd h ez
   ·rw[R.N i]
    constructor
    ·rintro⟨q,h⟩
     exact⟨q,ma.mpr (.inl h)⟩
    ·rintro⟨q,h⟩
     rcases ma.mp h with h | h
     ·exact⟨q,h⟩
     ·cases h
end
def g16 (C:Addr):Sp:=fun vs H Q _=>∃(r:Addr)(b:RB)(d:RD) (es:List (List Str×Ent)) (ps:List Pr) (z:Str),vs=[.ref r,.str z]/\RdOk C H r b d es ps /\
 ((∃ x,ps=[]/\z=b83 x/\EntG x/\i25 es x/\∀ d' H',RdOk C H' r b d' (es++[x]) []->Kp (b.all r) H H'->Q (.bl true) H') ∨
  (∃ x,z=prP x/\PrG x/\i56 ps x/\∀ d' H',RdOk C H' r b d' es (ps++[x])->Kp (b.all r) H H'->Q (.bl true) H'))
def g32 (C:Addr):Sp:=fun vs H Q _=>∃(r:Addr)(b:RB)(d:RD) (es:List (List Str×Ent)) (ps:List Pr),vs=[.ref r]/\RdOk C H r b d es ps/\ps.length<=200/\es.length<=400 /\
 (∀(j:Nat) y,ps[j]?=some (none,y)->∃ p,(p,Ent.fil j)∈es)/\(∀ p i,(p,Ent.fil i)∈es->i < (ps.length:Int))/\∀ H',Kp [b.an] H H'->Q (.bl true) H'
def h70 (C:Addr):Sp:=fun vs H Q _=>∃(x dx:Addr),vs=[.ref x]/\H x=some (.ins C dx [])/\∀(b:RB)(d:RD)(H':Hp),RdOk C H' x b d [] []->(∀ c∈b.all x,c≠x->H c=none)->Kp [x] H H'->Q .non H'
theorem e10 {H H1:Hp}{x p:Addr}{ox o o2:HO}(hx:H1 x=some ox)(hp:H1 p=none):(upd (upd H1 p o) x o2) x=some o2/\(upd (upd H1 p o) x o2) p=some o/\(∀ c u,H1 c=some u->c≠x->(upd (upd H1 p o) x o2) c=some u):=by
 have n:x≠p:=a01 hx hp
 refine⟨a02,by rw[a06 (Ne.symm n),a02],fun c u h hc=>?_⟩
 rw[a06 hc,a06 (a01 h hp)]
 exact h
theorem g26 {X:Cx}{K:PySem.W.Frag}{e:Expr}{f:Str}{pos:Pos}{ta:TE}(hK:X.K=K)(he:PE X e ta)(hb:attributeBase e f X.env (eval e X.env)=eval e X.env):PE X (.Attribute e f pos) (tFld K ta f):=by
 rw[← hK]
 exact b01 he hb
theorem g31 {X:Cx}:CallR X (.builtin "len") (fun xs H Q=>∃ p ys,xs=[.ref p]/\H p=some (.lst ys)/\Q (.int ys.length) H):=by
 intro pins s σ H xs us Q I r h
 obtain⟨p,ys,e,hp,q⟩:=h
 exact a30 pins s σ H xs us Q I r ⟨p,ys,e,.inl (SqL.of hp),q⟩
section
variable {P:Program}{w:World}{K:PySem.W.Frag}{mg:Str->Option Value}{base:Heap}{C:Addr}
theorem scTookR:FnScope ["self", "row", "pair", "entry"] ["self", "row"] (a09 b72):=⟨rfl,rfl,rfl,by decide +kernel,rfl,by decide +kernel,by decide +kernel⟩
theorem h04 {f:Addr}{fd:FuncData}(F:Fun K "took_row" "Reader.took_row" b72 f fd)(T:Txt K C)(DP:Def P w K mg base 4 "pair_in" ["row"] d65)(DE:Def P w K mg base 5 "entry_in" ["row"] e49)
 (MP:DefM P w K mg base 1 C "took_pair" ["self", "pair"] (g13 C))(ME:DefM P w K mg base 2 C "took_entry" ["self", "entry"] (g59 C)):FnOk P w K mg base CX0 6 f fd ["self", "row"] (g16 C):=by
 refine F.ok scTookR (fun vs H Q E h=>?_) (fun cdv A outer s H vs Q E hr h=>?_)
 ·obtain⟨r,b,d,es,ps,z,rfl,_⟩:=h
  rfl
 ·obtain⟨r,b,d,es,ps,z,rfl,R,h⟩:=h
  have nd:=scTookR.nd
  have hr4:Room 4 _:=hr.mono (by decide)
  have hr1:Room 1 _:=hr.mono (by decide)
  have hr2:Room 2 _:=hr.mono (by decide)
  refine⟨_,a03 (a39 (i:=2) nd rfl (Or.inl rfl) (a35 DP hr4 (a00 (pv 1) a04)))
   (a03 (a47 (b21 (e45 (pv 2))) (a08 (a37 (f67 MP T.cl hr1 (pv 0) (a00 (pv 2) a04)))) a31)
   (a03 (a39 (i:=3) nd rfl (Or.inl rfl) (a35 DE hr (a00 (pv 1) a04)))
   (a08 (a37 (c61 (h63 (e45 (pv 3))) (c95 (f67 ME T.cl hr2 (pv 0) (a00 (pv 3) a04)))))))),?_⟩
  rcases h with⟨x,rfl,rfl,hx,hN,k⟩ | ⟨x,rfl,hx,hN,k⟩
  ·refine⟨_,rfl,.inl ⟨x,rfl,hx,fun H1 s1=>?_⟩⟩
   refine⟨_,rfl,_,rfl,b00 ?_⟩
   refine⟨_,rfl,x,rfl,hx,fun v H2 hv s2=>?_⟩
   have R2:=R.same (s1.trans s2)
   obtain⟨t,pa,rfl,_⟩:=id hv
   refine⟨_,rfl,_,rfl,c01 ?_⟩
   refine⟨_,rfl,r,b.dx,_,rfl,R2.hr,R2.F.m2,_,rfl,r,b,d,es,_,x,rfl,R2,hv,hN,fun d' H3 R3 k3=>?_⟩
   exact k d' H3 R3 ((Kp.of (s1.trans s2)).trans k3)
  ·refine⟨_,rfl,.inr ⟨x,rfl,hx,fun v H1 hv s1=>?_⟩⟩
   have R1:=R.same s1
   obtain⟨t,ww,y,rfl,_⟩:=id hv
   refine⟨_,rfl,_,rfl,c01 ?_⟩
   refine⟨_,rfl,r,b.dx,_,rfl,R1.hr,R1.F.m3,_,rfl,r,b,d,es,ps,_,x,rfl,R1,hv,hN,fun d' H3 R3 k3=>?_⟩
   exact k d' H3 R3 ((Kp.of s1).trans k3)
theorem scWhole:FnScope ["self", "homeless"] ["self"] (a09 b76):=⟨rfl,rfl,rfl,by decide +kernel,rfl,by decide +kernel,by decide +kernel⟩
theorem h09 {f:Addr}{fd:FuncData}(F:Fun K "is_whole" "Reader.is_whole" b76 f fd)(T:Txt K C)(mLen:mg "len" = none)(mAll:mg "all" = none)(mEnum:mg "enumerate" = none):FnOk P w K mg base CX0 1 f fd ["self"] (g32 C):=by
 refine F.ok scWhole (fun vs H Q E h=>?_) (fun cdv A outer s H vs Q E hr h=>?_)
 ·obtain⟨r,b,d,es,ps,rfl,_⟩:=h
  rfl
 ·obtain⟨r,b,d,es,ps,rfl,R,lps,les,hh,hi,k⟩:=h
  have nd:=scWhole.nd
  have hu:=d73 hr
  refine⟨_,a03 (h46 (ix:=1) (x := "at") (y := "pair") scWhole ⟨rfl,by decide +kernel,by decide +kernel,by decide +kernel,by decide +kernel,by decide +kernel⟩ (by decide +kernel) (by decide +kernel) (by decide +kernel) (by decide +kernel) rfl (Or.inl rfl)
   (g04 rfl mEnum (a00 (b01 (pv 0) rfl) a04))
   (fun C fp s H=>g65 (PW.pt (d75 (b21 (c30 (a50 (show IxR _ (j21 K) from a66) (pv 3) a07 (fun _ _=>rfl)))) (c79 (b21 (e15 hu (pv 2) (g26 (K:=K) rfl (pv 0) rfl)))))))
   (fun C fp s H=>pv 2))
   (a08 (a37 (c61 (b14 (h61 hr.units0) (pv 1) (a99 a04) (a38 _))
     (c95 (a29 (b70 rfl) (by rfl) mAll PyProof.Rows.boot_all (a00 (a92 (x := "number") scWhole ⟨rfl,by decide +kernel,by decide +kernel,by decide +kernel,by decide +kernel,by decide +kernel⟩ (by decide +kernel) (i18 (b01 (pv 0) rfl))
       (fun C fp s H=>b14 e60 (pv 2) (a29 g31 (by rfl) mLen PySem.boot_len (a00 (g26 (K:=K) rfl (pv 0) rfl) a04)) (a38 _))) a04)))))),?_⟩
  have lq:d.ys.length=ps.length:=Paired.length R.Pp
  refine⟨_,rfl,r,C,b.dx,_,_,rfl,R.hr,T.cl,T.nF,R.F.f2,b.af,rfl,⟨_,SqL.of R.hf⟩,g52 (xs:=d.ys) (fun i ys H'=>ys=[]/\Same H H') (by rw[sizeLine_eq];omega) ⟨rfl,Same.refl H⟩ (fun i ys H' ⟨e,_⟩=>by rw[e];exact FJ _) (fun i ys H' _ ⟨_,s⟩=>SqL.of (s _ _ R.hf)) ?_ ?_⟩
  ·rintro i ys H' v T' hv ⟨rfl,s1⟩ hT
   obtain⟨x,hx,hxv⟩:=a64 R.Pp hv
   obtain⟨t,ww,y,rfl,ho,hy,ht⟩:=hxv
   have s2:Same H (upd H' T' (.tup [.int i,.ref t])):=s1.upd hT
   have R2:=R.same s2
   refine⟨T',_,rfl,SqT.of a02,rfl,_,_,rfl,_,_,rfl,rfl,?_⟩
   refine⟨_,rfl,t,_,_,_,rfl,rfl,SqT.of (s2 _ _ ht),rfl,_,rfl,?_⟩
   obtain⟨o,z⟩:=x
   cases o with
   | some zs =>
    obtain⟨a,rfl,_⟩:=ho
    exact b00 (b00 ⟨rfl,s2⟩)
   | none =>
    cases (show ww=.non from ho)
    refine c01 ⟨_,rfl,_,rfl,r,C,b.dx,_,_,rfl,R2.hr,T.cl,T.nN,R2.F.f6,b.an,_,rfl,DGet.k (k:=Sum.inl (i:Int)) R2.hn,_,rfl,?_⟩
    rw[(R.N (i:Int)).mpr (hh i z hx)]
    exact b00 ⟨rfl,s2⟩
  ·rintro ys H1 ⟨rfl,s1⟩ D hD
   have s2:Same H (upd H1 D (.lst [])):=s1.upd hD
   have hD2:(upd H1 D (.lst [])) D=some (.lst []):=a02
   generalize (upd H1 D (.lst []))=H2 at s2 hD2 ⊢
   refine⟨_,rfl,by show 0<=sizeLine;decide,fun e he=>?_⟩
   have s3:Same H2 (upd H2 e (.lst [])):=(Same.refl _).upd he
   have hE3:(upd H2 e (.lst [])) e=some (.lst []):=a02
   generalize (upd H2 e (.lst []))=H3 at s3 hE3 ⊢
   refine⟨D,e,[],[],rfl,rfl,SqL.of (s3 _ _ hD2),SqL.of hE3,_,rfl,?_⟩
   refine a71 (fun _=>?_) (fun q=>absurd (Az rfl) q)
   have R3:=R.same (s2.trans s3)
   have nrn:r≠b.an:=a85 R.hr R.hn (fun z=>nomatch z)
   have nfn:b.af≠b.an:=a85 R.hf R.hn (fun z=>nomatch z)
   refine⟨_,rfl,r,C,b.dx,_,_,rfl,R3.hr,T.cl,T.nN,R3.F.f6,b.an,d.kvs,rfl,R3.hn,fun ob=>f63 (fun i ys H'=>ys=List.replicate i (V.bl true)/\H'=upd H3 b.an (.frz ob (.dK d.kvs))) (by have:=R.nl;rw[sizeLine_eq];omega) ⟨rfl,rfl⟩ (fun i ys H' ⟨e,_⟩=>by rw[e,List.length_replicate]) (fun i ys H' _ ⟨_,e⟩=>by rw[e,a02]) ?_ ?_⟩
   ·rintro i ys H' q hq ⟨e1,rfl⟩
    obtain⟨j,hj⟩:=R.NK q (BQ hq)
    have hrX:(upd H3 b.an (.frz ob (.dK d.kvs))) r=some (.ins C b.dx d.fs):=by rw[a06 nrn];exact R3.hr
    have hfX:(upd H3 b.an (.frz ob (.dK d.kvs))) b.af=some (.lst d.ys):=by rw[a06 nfn];exact R3.hf
    have hlt:j < (ps.length:Int):=by
     have hs:(a98 d.kvs (Sum.inl j)).isSome=true:=by
      rw[← b22,List.any_eq_true]
      exact⟨q,BQ hq,Az hj⟩
     obtain⟨p,hp⟩:=(R.N j).mp hs
     exact hi p j hp
    rw[hj]
    refine⟨_,rfl,_,rfl,r,C,b.dx,_,_,rfl,hrX,T.cl,T.nF,R.F.f2,b.af,_,rfl,hfX,_,_,rfl,rfl,?_,rfl⟩
    show ys++[V.bl (decide (j < (d.ys.length:Int)))]=_
    rw[Az (show j < (d.ys.length:Int) by omega),e1,List.replicate_succ']
   ·rintro ys H' ⟨e1,rfl⟩ D2 hD2'
    refine⟨D2,List.replicate d.kvs.length true,rfl,SqL.of (by rw[a02,e1,List.map_replicate]),?_⟩
    have:(List.replicate d.kvs.length true).all id=true:=List.all_eq_true.mpr fun b hb=>List.eq_of_mem_replicate hb
    rw[this]
    exact k _ (((Kp.of (s2.trans s3)).set (by simp)).new hD2')
theorem i16:FnScope ["self"] ["self"] (a09 d24):=⟨rfl,rfl,rfl,by decide +kernel,rfl,by decide +kernel,by decide +kernel⟩
theorem h25 {f:Addr}{fd:FuncData}(F:Fun K "__init__" "Reader.__init__" d24 f fd)(T:Txt K C):FnOk P w K mg base CX0 1 f fd ["self"] (h70 C):=by
 refine F.ok i16 (fun vs H Q E h=>?_) (fun cdv A outer s H vs Q E hr h=>?_)
 ·obtain⟨x,dx,rfl,_⟩:=h
  rfl
 ·obtain⟨x,dx,rfl,hx,k⟩:=h
  have hu:=d73 hr
  refine⟨_,a03 (c84 (pv 0) (a99 a04) rfl) (a03 (c84 (pv 0) (a99 a04) rfl) (a03 (c84 (pv 0) (a59 a04) rfl) (a03 (c84 (pv 0) (h31 hu (a59 a04) c31) rfl) (a03 (c84 (pv 0) e77 rfl) (a08 (c84 (pv 0) h34 rfl)))))),?_⟩
  have len:∀(fs:List (Str×V)) (f:Str) (v:V) (n:Nat),fs.length<=n->(a51 f v fs).length<=n+1:=fun fs f v n h=>by have:=b89 f v fs;omega
  have l0:([]:List (Str×V)).length<=0:=AZ _
  refine⟨by show 0<=sizeLine;decide,fun p1 hp1=>⟨_,rfl,x,C,dx,_,rfl,by rw[a06 (a01 hx hp1)];exact hx,T.cl,T.nE,by show 0 < 1000;decide,?_⟩⟩
  obtain⟨x1,a1,o1⟩:=e10 (H:=H) (o:=.lst []) (o2:=.ins C dx (a51 "entries" (.ref p1) [])) hx hp1
  have l1:=len _ "entries" (.ref p1) _ l0
  have K1:Kp [x] H (upd (upd H p1 (.lst [])) x (.ins C dx (a51 "entries" (.ref p1) []))):=((Kp.refl _ H).new hp1).set (by simp)
  generalize (upd (upd H p1 (.lst [])) x (.ins C dx (a51 "entries" (.ref p1) [])))=H1 at x1 a1 o1 K1 ⊢
  refine⟨by show 0<=sizeLine;decide,fun p2 hp2=>⟨_,rfl,x,C,dx,_,rfl,by rw[a06 (a01 x1 hp2)];exact x1,T.cl,T.nF,by omega,?_⟩⟩
  obtain⟨x2,a2,o2⟩:=e10 (H:=H) (o:=.lst []) (o2:=.ins C dx (a51 "files" (.ref p2) (a51 "entries" (.ref p1) []))) x1 hp2
  have l2:=len _ "files" (.ref p2) _ l1
  have K2:Kp [x] H (upd (upd H1 p2 (.lst [])) x (.ins C dx (a51 "files" (.ref p2) (a51 "entries" (.ref p1) [])))):=(K1.new hp2).set (by simp)
  have n1x:p1≠x:=a01 hx hp1 |>.symm
  have b1:=o2 p1 _ a1 n1x
  generalize (upd (upd H1 p2 (.lst [])) x (.ins C dx (a51 "files" (.ref p2) (a51 "entries" (.ref p1) []))))=H2 at x2 a2 o2 K2 b1 ⊢
  have n2x:p2≠x:=a01 x1 hp2 |>.symm
  refine⟨by show 0<=sizeLine;decide,fun p3 hp3=>⟨_,rfl,x,C,dx,_,rfl,by rw[a06 (a01 x2 hp3)];exact x2,T.cl,T.nL,by omega,?_⟩⟩
  obtain⟨x3,a3,o3⟩:=e10 (H:=H) (o:=.tup []) (o2:=.ins C dx (a51 "last_path" (.ref p3) (a51 "files" (.ref p2) (a51 "entries" (.ref p1) [])))) x2 hp3
  have l3:=len _ "last_path" (.ref p3) _ l2
  have K3:Kp [x] H (upd (upd H2 p3 (.tup [])) x (.ins C dx (a51 "last_path" (.ref p3) (a51 "files" (.ref p2) (a51 "entries" (.ref p1) []))))):=(K2.new hp3).set (by simp)
  have c1:=o3 p1 _ b1 n1x
  have c2:=o3 p2 _ a2 n2x
  generalize (upd (upd H2 p3 (.tup [])) x (.ins C dx (a51 "last_path" (.ref p3) (a51 "files" (.ref p2) (a51 "entries" (.ref p1) [])))))=H3 at x3 a3 o3 K3 c1 c2 ⊢
  have n3x:p3≠x:=a01 x2 hp3 |>.symm
  intro p4 hp4
  refine⟨by show 0<=sizeLine;decide,fun q4 hq4=>⟨q4,[],rfl,a02,by rw[a06 (a01 (H:=upd H3 p4 (dP [])) a02 hq4),a02],?_⟩⟩
  have nq:q4≠p4:=(a01 (H:=upd H3 p4 (dP [])) a02 hq4).symm
  have hq3:H3 q4=none:=by rw[a06 nq] at hq4;exact hq4
  have xq:(upd (upd H3 p4 (dP [])) q4 (.tup [])) x=some (.ins C dx (a51 "last_path" (.ref p3) (a51 "files" (.ref p2) (a51 "entries" (.ref p1) [])))):=by rw[a06 (a01 x3 hq3),a06 (a01 x3 hp4)];exact x3
  have xq2:(upd (upd (upd H3 p4 (dP [])) q4 (.tup [])) p4 (dP [([],V.bl true)])) x=some (.ins C dx (a51 "last_path" (.ref p3) (a51 "files" (.ref p2) (a51 "entries" (.ref p1) [])))):=by rw[a06 (a01 x3 hp4)];exact xq
  have n4x:p4≠x:=a01 x3 hp4 |>.symm
  refine⟨_,rfl,x,C,dx,_,rfl,xq2,T.cl,T.nP,by omega,?_⟩
  have l4:=len _ "folder_paths" (.ref p4) _ l3
  have K4:Kp [x] H (upd (upd (upd (upd H3 p4 (dP [])) q4 (.tup [])) p4 (dP [([],V.bl true)])) x (.ins C dx (a51 "folder_paths" (.ref p4) (a51 "last_path" (.ref p3) (a51 "files" (.ref p2) (a51 "entries" (.ref p1) [])))))):=by
   intro c u hc hn
   have h3:=K3 c u hc hn
   rw[a06 (fun z=>hn (by simp[z])),a06 (a01 h3 hp4),a06 (a01 h3 hq3),a06 (a01 h3 hp4)]
   exact h3
  have o4:∀ c u,H3 c=some u->c≠x->(upd (upd (upd (upd H3 p4 (dP [])) q4 (.tup [])) p4 (dP [([],V.bl true)])) x (.ins C dx (a51 "folder_paths" (.ref p4) (a51 "last_path" (.ref p3) (a51 "files" (.ref p2) (a51 "entries" (.ref p1) [])))))) c=some u:=fun c u h3 hc=>by
   rw[a06 hc,a06 (a01 h3 hp4),a06 (a01 h3 hq3),a06 (a01 h3 hp4)]
   exact h3
  have x4:(upd (upd (upd (upd H3 p4 (dP [])) q4 (.tup [])) p4 (dP [([],V.bl true)])) x (.ins C dx (a51 "folder_paths" (.ref p4) (a51 "last_path" (.ref p3) (a51 "files" (.ref p2) (a51 "entries" (.ref p1) [])))))) x=some (.ins C dx (a51 "folder_paths" (.ref p4) (a51 "last_path" (.ref p3) (a51 "files" (.ref p2) (a51 "entries" (.ref p1) []))))):=a02
  have a4:(upd (upd (upd (upd H3 p4 (dP [])) q4 (.tup [])) p4 (dP [([],V.bl true)])) x (.ins C dx (a51 "folder_paths" (.ref p4) (a51 "last_path" (.ref p3) (a51 "files" (.ref p2) (a51 "entries" (.ref p1) [])))))) p4=some (dP [([],V.bl true)]):=by rw[a06 n4x,a02]
  have d1:=o4 p1 _ c1 n1x
  have d2:=o4 p2 _ c2 n2x
  have d3:=o4 p3 _ a3 n3x
  generalize (upd (upd (upd (upd H3 p4 (dP [])) q4 (.tup [])) p4 (dP [([],V.bl true)])) x (.ins C dx (a51 "folder_paths" (.ref p4) (a51 "last_path" (.ref p3) (a51 "files" (.ref p2) (a51 "entries" (.ref p1) []))))))=H4 at K4 o4 x4 a4 d1 d2 d3 ⊢
  intro p5 hp5
  refine⟨_,rfl,x,C,dx,_,rfl,by rw[a06 (a01 x4 hp5)];exact x4,T.cl,T.nO,by omega,?_⟩
  obtain⟨x5,a5,o5⟩:=e10 (H:=H) (o:=.dT []) (o2:=.ins C dx (a51 "origins" (.ref p5) (a51 "folder_paths" (.ref p4) (a51 "last_path" (.ref p3) (a51 "files" (.ref p2) (a51 "entries" (.ref p1) [])))))) x4 hp5
  have l5:=len _ "origins" (.ref p5) _ l4
  have K5:Kp [x] H (upd (upd H4 p5 (.dT [])) x (.ins C dx (a51 "origins" (.ref p5) (a51 "folder_paths" (.ref p4) (a51 "last_path" (.ref p3) (a51 "files" (.ref p2) (a51 "entries" (.ref p1) []))))))):=(K4.new hp5).set (by simp)
  have e1:=o5 p1 _ d1 n1x
  have e2:=o5 p2 _ d2 n2x
  have e3:=o5 p3 _ d3 n3x
  have e4:=o5 p4 _ a4 n4x
  generalize (upd (upd H4 p5 (.dT [])) x (.ins C dx (a51 "origins" (.ref p5) (a51 "folder_paths" (.ref p4) (a51 "last_path" (.ref p3) (a51 "files" (.ref p2) (a51 "entries" (.ref p1) [])))))))=H5 at x5 a5 o5 K5 e1 e2 e3 e4 ⊢
  have n5x:p5≠x:=a01 x4 hp5 |>.symm
  intro p6 hp6
  refine⟨_,rfl,x,C,dx,_,rfl,by rw[a06 (a01 x5 hp6)];exact x5,T.cl,T.nN,by omega,?_⟩
  obtain⟨x6,a6,o6⟩:=e10 (H:=H) (o:=.dK []) (o2:=.ins C dx (a51 "numbers" (.ref p6) (a51 "origins" (.ref p5) (a51 "folder_paths" (.ref p4) (a51 "last_path" (.ref p3) (a51 "files" (.ref p2) (a51 "entries" (.ref p1) []))))))) x5 hp6
  have l6:=len _ "numbers" (.ref p6) _ l5
  have K6:Kp [x] H (upd (upd H5 p6 (.dK [])) x (.ins C dx (a51 "numbers" (.ref p6) (a51 "origins" (.ref p5) (a51 "folder_paths" (.ref p4) (a51 "last_path" (.ref p3) (a51 "files" (.ref p2) (a51 "entries" (.ref p1) [])))))))):=(K5.new hp6).set (by simp)
  have g1:=o6 p1 _ e1 n1x
  have g2:=o6 p2 _ e2 n2x
  have g3:=o6 p3 _ e3 n3x
  have g4:=o6 p4 _ e4 n4x
  have g5:=o6 p5 _ a5 n5x
  have n6x:p6≠x:=a01 x5 hp6 |>.symm
  have lk:∀(f g:Str) (v:V) (fs:List (Str×V)),g=f->(a51 f v fs).lookup g=some v:=fun f g v fs e=>by rw[a94,if_pos e]
  have ln:∀(f g:Str) (v:V) (fs:List (Str×V)),g≠f->(a51 f v fs).lookup g=fs.lookup g:=fun f g v fs e=>by rw[a94,if_neg e]
  obtain⟨fs,hfs⟩:∃ fs,fs=a51 "numbers" (.ref p6) (a51 "origins" (.ref p5) (a51 "folder_paths" (.ref p4) (a51 "last_path" (.ref p3) (a51 "files" (.ref p2) (a51 "entries" (.ref p1) []))))):=⟨_,rfl⟩
  refine k ⟨dx,p1,p2,p4,p5,p6⟩ ⟨fs,p3,[],[],[([],V.bl true)],[],[]⟩ _ ⟨by rw[hfs];exact x6,?_,g1,g2,g3,g4,g5,a6,(fun z=>by
   have z':p1=p2:=z
   rw[z'] at a1
   exact absurd (a1.symm.trans hp2) (fun q=>nomatch q)),(fun z=>by
   have z':p4=p5:=z
   rw[z'] at a4
   exact absurd (a4.symm.trans hp5) (fun q=>nomatch q)),.nil,.nil,fun zs=>?_,fun zs=>?_,fun i=>?_,(fun q hq=>nomatch hq),AZ _,AZ _,AZ _⟩ ?_ K6
  ·rw[hfs]
   refine⟨?_,?_,?_,?_,?_,lk _ _ _ _ rfl,?_,?_,?_,?_,?_,FQ l6 (by decide)⟩
   ·exact(ln _ _ _ _ (by decide +kernel)).trans ((ln _ _ _ _ (by decide +kernel)).trans ((ln _ _ _ _ (by decide +kernel)).trans ((ln _ _ _ _ (by decide +kernel)).trans ((ln _ _ _ _ (by decide +kernel)).trans (lk _ _ _ _ rfl)))))
   ·exact(ln _ _ _ _ (by decide +kernel)).trans ((ln _ _ _ _ (by decide +kernel)).trans ((ln _ _ _ _ (by decide +kernel)).trans ((ln _ _ _ _ (by decide +kernel)).trans (lk _ _ _ _ rfl))))
   ·exact(ln _ _ _ _ (by decide +kernel)).trans ((ln _ _ _ _ (by decide +kernel)).trans ((ln _ _ _ _ (by decide +kernel)).trans (lk _ _ _ _ rfl)))
   ·exact(ln _ _ _ _ (by decide +kernel)).trans ((ln _ _ _ _ (by decide +kernel)).trans (lk _ _ _ _ rfl))
   ·exact(ln _ _ _ _ (by decide +kernel)).trans (lk _ _ _ _ rfl)
   all_goals exact(ln _ _ _ _ (by decide +kernel)).trans ((ln _ _ _ _ (by decide +kernel)).trans ((ln _ _ _ _ (by decide +kernel)).trans ((ln _ _ _ _ (by decide +kernel)).trans ((ln _ _ _ _ (by decide +kernel)).trans ((ln _ _ _ _ (by decide +kernel)).trans rfl)))))
  ·constructor
   ·intro h
    by_cases e:([]:List Str)=zs
    ·exact .inl e.symm
    ·rw[a73 (p:=(([]:List Str),V.bl true)) e] at h
     cases h
   ·rintro(rfl | ⟨o,h⟩)
    ·rw[a70 rfl]
     rfl
    ·cases h
  ·exact⟨(fun h=>nomatch h),fun⟨p,h,_⟩=>nomatch h⟩
  ·exact⟨(fun h=>nomatch h),fun⟨p,h⟩=>nomatch h⟩
  ·have back:∀ {S:List Addr}{G G':Hp}{c:Addr},Kp S G G'->c∉S->G' c=none->G c=none:=fun kk hn h=>kk.free hn h
   intro c hc hx'
   have hn:c∉[x]:=by simpa using hx'
   simp only[RB.all,Cj,List.not_mem_nil,or_false] at hc
   rcases hc with rfl | rfl | rfl | rfl | rfl | rfl
   ·exact absurd rfl hx'
   ·exact hp1
   ·exact K1.free hn hp2
   ·exact K3.free hn hp4
   ·exact K4.free hn hp5
   ·exact K5.free hn hp6
end
structure LayG (L:Lay):Prop where
 el:L.ents.length<=198
 pl:L.pairs.length<=192
 eg:∀ x∈L.ents,EntG x/\x.1≠[]
 pg:∀ x∈L.pairs,PrG x
 srt:L.ents.Pairwise fun x y=>Srt.lexB x.1 y.1=true
 par:∀ x∈L.ents,x.1.dropLast=[]∨∃ o,(x.1.dropLast,Ent.dir o)∈L.ents
 org:L.pairs.Pairwise fun a b=>a.1=b.1->b.1=none
 home:∀(j:Nat) y,L.pairs[j]?=some (none,y)->∃ p,(p,Ent.fil j)∈L.ents
 num:∀ p i,(p,Ent.fil i)∈L.ents->i < (L.pairs.length:Int)
theorem i13 {x:Pr}(h:PrG x):(prP x).length<=291:=by
 obtain⟨o,y⟩:=x
 cases o with
 | none =>
  cases y with
  | none=>exact absurd rfl (h.nn rfl)
  | some z =>
   rw[b40,Dj,d21]
   have:=(h.txt z rfl).1
   omega
 | some zs =>
  have ht:=(h.org zs rfl).2.tlen (by decide)
  cases y with
  | none =>
   rw[b03,Dj,d07]
   omega
  | some z =>
   rw[b04,Dj,Dj,Dj,d07,c87]
   have:=(h.txt z rfl).1
   omega
theorem h30 {x:List Str}(h:x≠[]):Srt.lexB [] x=true:=by
 cases x with
 | nil=>exact absurd rfl h
 | cons a r=>rfl
theorem b88:∀(p:List Str),p≠[]->Srt.lexB p.dropLast p=true
 | [],h=>absurd rfl h
 | [a],_=>rfl
 | a::b::r,_=>by
  show Srt.lexB (a::(b::r).dropLast) (a::b::r)=true
  unfold Srt.lexB
  rw[if_pos rfl]
  exact b88 (b::r) (by simp)
theorem c81 {a b:List Str}(h1:Srt.lexB a b=true)(h2:Srt.lexB b a=true):False:=by
 have:=Srt.lexB_trans h1 h2
 rw[Srt.lexB_irrefl] at this
 cases this
theorem g63 {α:Type}{R:α->α->Prop}{l:List α}(h:l.Pairwise R){i j:Nat}{x y:α}(hx:l[i]?=some x)(hy:l[j]?=some y)(hij:i < j):R x y:=by
 obtain⟨hi,rfl⟩:=Ex.mp hx
 obtain⟨hj,rfl⟩:=Ex.mp hy
 exact List.pairwise_iff_getElem.mp h i j hi hj hij
theorem LayG.next {L:Lay}(g:LayG L){i:Nat}{x:List Str×Ent}(hx:L.ents[i]?=some x):i25 (L.ents.take i) x:=by
 have hm:=BQ hx
 have hlt:=(Ex.mp hx).1
 have hne:=(g.eg x hm).2
 refine⟨?_,by rw[CZ];have:=g.el;omega,?_⟩
 ·cases i with
  | zero =>
   rw[List.take_zero]
   exact h30 hne
  | succ i =>
   obtain⟨y,hy⟩:∃ y,L.ents[i]?=some y:=⟨L.ents[i],by rw[Bz]⟩
   rw[EX,hy]
   show Srt.lexB (f51 (L.ents.take i++[y])) x.1=true
   rw[d16]
   exact g63 g.srt hy hx (Nat.lt_succ_self _)
 ·rcases g.par x hm with h | ⟨o,h⟩
  ·exact .inl h
  ·refine .inr ⟨o,?_⟩
   obtain⟨j,hj⟩:=List.mem_iff_getElem?.mp h
   have hji:j < i:=by
    rcases Nat.lt_trichotomy j i with q | q | q
    ·exact q
    ·subst q
     rw[hx] at hj
     have e:x.1=x.1.dropLast:=congrArg (·.1) (EJ hj)
     have hl:=congrArg List.length e
     rw[List.length_dropLast] at hl
     have:=List.length_pos_iff.mpr hne
     omega
    ·exact(c81 (g63 g.srt hx hj q) (b88 _ hne)).elim
   exact BQ (i:=j) (by rw[List.getElem?_take_of_lt hji];exact hj)
theorem LayG.nextP {L:Lay}(g:LayG L){i:Nat}{x:Pr}(hx:L.pairs[i]?=some x):i56 (L.pairs.take i) x:=by
 have hlt:=(Ex.mp hx).1
 refine⟨by rw[CZ];have:=g.pl;omega,fun p hp e=>?_⟩
 obtain⟨j,hj⟩:=List.mem_iff_getElem?.mp hp
 have hjl:j < (L.pairs.take i).length:=(Ex.mp hj).1
 rw[CZ] at hjl
 rw[List.getElem?_take_of_lt (by omega)] at hj
 exact g63 g.org hj hx (by omega) e
theorem i64 {z:Str}(h:∀ c∈z.cps.toList,h81 c):10∉z.cps.toList:=fun q=>by
 have:=h 10 q
 unfold h81 at this
 omega
theorem c85 {a b:Str}{c:Nat}(h:c∈(a++b).cps.toList):c∈a.cps.toList∨c∈b.cps.toList:=by
 rw[Str.cps_append,Array.toList_append] at h
 exact Bq.mp h
theorem h86 {zs:List Str}(h:∀ z∈zs,Nm z):10∉(a34 zs).cps.toList:=fun q=>by
 rcases d23 h q with z | z <;> omega
theorem i73 {x:List Str×Ent}(h:EntG x):10∉(b83 x).cps.toList:=by
 rw[← f01]
 have e:(" " : Str)=⟨#[32]⟩:=by decide +kernel
 rw[e,c29 32 _ (h77 x)]
 intro q
 rcases d41 q with z | ⟨p,hp,hz⟩
 ·omega
 ·obtain⟨t,ht,rfl⟩:=Ez.mp hp
  obtain⟨p,e⟩:=x
  have g0:10∉("gone" : Str).cps.toList:=by decide +kernel
  have f0:10∉("file" : Str).cps.toList:=by decide +kernel
  have d0:10∉("folder" : Str).cps.toList:=by decide +kernel
  have a0:10∉("alone" : Str).cps.toList:=by decide +kernel
  have o0:10∉("over" : Str).cps.toList:=by decide +kernel
  have hp':10∉(a34 p).cps.toList:=h86 h.nm
  cases e with
  | gone =>
   simp only[b87,Cj,List.not_mem_nil,or_false] at ht
   rcases ht with rfl | rfl
   ·exact g0 hz
   ·exact hp' hz
  | fil i =>
   simp only[b87,Cj,List.not_mem_nil,or_false] at ht
   rcases ht with rfl | rfl | rfl
   ·exact f0 hz
   ·exact hp' hz
   ·obtain⟨n,rfl⟩:=Int.eq_ofNat_of_zero_le h.2.1
    have:=e95 (n:=n) (by have:=h.2.2;omega) 10 hz
    omega
  | dir o =>
   cases o with
   | none =>
    simp only[b87,Cj,List.not_mem_nil,or_false] at ht
    rcases ht with rfl | rfl | rfl
    ·exact d0 hz
    ·exact hp' hz
    ·exact a0 hz
   | some b =>
    simp only[b87,Cj,List.not_mem_nil,or_false] at ht
    rcases ht with rfl | rfl | rfl | rfl
    ·exact d0 hz
    ·exact hp' hz
    ·exact o0 hz
    ·exact h86 (h.2 b rfl).nm hz
theorem pr_nl {x:Pr}(h:PrG x):10∉(prP x).cps.toList:=by
 obtain⟨o,y⟩:=x
 have e1:10∉DE.cps.toList:=by rw[c69];decide
 have e2:10∉DO.cps.toList:=by rw[c02];decide
 have e3:10∉BE.cps.toList:=by rw[c74];decide
 intro q
 cases o with
 | none =>
  cases y with
  | none=>exact absurd rfl (h.nn rfl)
  | some z =>
   rw[b40] at q
   rcases c85 q with q | q
   ·exact e1 q
   ·exact i64 (h.txt z rfl).2 q
 | some zs =>
  have hp:=h86 (h.org zs rfl).2.nm
  cases y with
  | none =>
   rw[b03] at q
   rcases c85 q with q | q
   ·exact e2 q
   ·exact hp q
  | some z =>
   rw[b04] at q
   rcases c85 q with q | q
   ·exact e2 q
   ·rcases c85 q with q | q
    ·exact hp q
    ·rcases c85 q with q | q
     ·exact e3 q
     ·exact i64 (h.txt z rfl).2 q
theorem i85 {L:Lay}(g:LayG L):∀ t∈a49 L,10∉t.cps.toList:=fun t ht=>by
 rcases Bq.mp ht with q | q
 ·obtain⟨x,hx,rfl⟩:=Ez.mp q
  exact i73 (g.eg x hx).1
 ·obtain⟨x,hx,rfl⟩:=Ez.mp q
  exact pr_nl (g.pg x hx)
theorem b78 {L:Lay}(g:LayG L)(h:a49 L≠[]):Txt.split (Txt.join "\n" (a49 L)) "\n" = a49 L:=by
 have e:("\n" : Str)=⟨#[10]⟩:=by decide +kernel
 rw[e]
 exact d25 h (i85 g)
theorem i41 {L:Lay}(g:LayG L):∀ t∈a49 L,0 < t.length:=fun t ht=>by
 rcases Bq.mp ht with q | q
 ·obtain⟨x,hx,rfl⟩:=Ez.mp q
  obtain⟨c,hc,_⟩:=d46 x
  have:=(Ex.mp hc).1
  rw[a81] at this
  omega
 ·obtain⟨x,hx,rfl⟩:=Ez.mp q
  obtain⟨o,y⟩:=x
  have h:=g.pg _ hx
  cases o with
  | none =>
   cases y with
   | none=>exact absurd rfl (h.nn rfl)
   | some z=>rw[b40,Dj,d21];omega
  | some zs =>
   cases y with
   | none=>rw[b03,Dj,d07];omega
   | some z=>rw[b04,Dj,d07];omega
theorem b11 {L:Lay}(g:LayG L):Txt.join "\n" (a49 L) = ""↔a49 L=[]:=by
 constructor
 ·intro h
  cases q:a49 L with
  | nil=>rfl
  | cons t r =>
   exfalso
   have ht:=i41 g t (by rw[q];exact BZ)
   have e:("\n" : Str)=⟨#[10]⟩:=by decide +kernel
   have hc:=congrArg (fun s:Str=>s.cps.toList) h
   simp only[q] at hc
   rw[e,c29 10 (t::r) (by simp),CJ,b67] at hc
   have e0:("" : Str).cps.toList=[]:=by decide +kernel
   rw[e0] at hc
   have:=congrArg List.length hc
   rw[Bj,a81] at this
   simp only[List.length_nil] at this
   omega
 ·intro h
  rw[h]
  rfl
theorem g74 (c:Nat):∀(ts:List Str),(Txt.join (⟨#[c]⟩:Str) ts).length<=(ts.map (·.length)).sum+ts.length:=by
 intro ts
 cases ts with
 | nil =>
  exact AZ 0
 | cons p r =>
  rw[← a81,c29 c (p::r) (by simp),CJ,b67,Bj,a81,CJ,List.sum_cons,Cz]
  have:∀(l:List Str),((l.map fun t=>t.cps.toList).map fun t=>c::t).flatten.length<=(l.map (·.length)).sum+l.length:=by
   intro l
   induction l with
   | nil=>exact AZ _
   | cons a l ih =>
    rw[CJ,CJ,List.flatten_cons,Bj,Cz,a81,CJ,List.sum_cons,Cz]
    omega
  have:=this r
  omega
theorem f08 {L:Lay}(g:LayG L):(Txt.join "\n" (a49 L)).length<=100000:=by
 have e:("\n" : Str)=⟨#[10]⟩:=by decide +kernel
 rw[e]
 refine FQ (g74 10 _) ?_
 unfold a49
 rw[BJ,List.sum_append,Bj,Aj,Aj]
 have h1:((L.ents.map b83).map (·.length)).sum<=175 * (L.ents.map b83).length:=g03 fun z hz=>by
  obtain⟨x,hx,rfl⟩:=Ez.mp hz
  exact f02 (g.eg x hx).1
 have h2:((L.pairs.map prP).map (·.length)).sum<=291 * (L.pairs.map prP).length:=g03 fun z hz=>by
  obtain⟨x,hx,rfl⟩:=Ez.mp hz
  exact i13 (g.pg x hx)
 rw[Aj] at h1 h2
 have:=g.el
 have:=g.pl
 omega
theorem LayG.ok {L:Lay}(g:LayG L):LayOk L:=by
 refine⟨g.el,by have:=g.pl;omega,fun x hx=>⟨(g.eg x hx).1.pth,?_⟩,fun x hx=>⟨fun zs e=>((g.pg x hx).org zs e).2.pth (by decide),fun z e=>((g.pg x hx).txt z e).1⟩⟩
 have h:=(g.eg x hx).1
 obtain⟨p,e⟩:=x
 cases e with
 | gone=>trivial
 | fil i=>exact⟨h.2.1,by have:=h.2.2;show i < ((1000:Nat):Int);omega⟩
 | dir o=>exact fun b hb=>(h.2 b hb).pth (by decide)
structure DefI (P:Program)(w:World)(K:PySem.W.Frag) (mg:Str->Option Value)(base:Heap) (k:Nat)(C:Addr) (x:Str)(sp:Sp):Prop where
 ex:∃ f fd,FnOk P w K mg base CX0 k f fd ["self"] sp/\Mk K C f/\mg x=some (.ref C)/\Binds K fd ["self"] []
theorem j18 {X:Cx}{k:Nat}{C:Addr}{x:Str}{sp:Sp}{p pos:Pos}(D:DefI X.prog X.w X.K X.mg X.base k C x sp)(hr:Room (k+1) X.A)(hg:Gl X x:=by rfl)(hdb:(x == ("__debug__" : Str))=false:=by decide):PE X (.Call (.Name x p) [] [] pos) (j00 C sp [] E0 i70):=by
 obtain⟨f,fd,F,M,hm,hb⟩:=D.ex
 exact g86 M F hr hg hm hb .nil g89 hdb
def spLR (C:Addr):Sp:=fun vs H Q _=>∃(r:Addr)(b:RB)(d:RD)(L:Lay),vs=[.ref r]/\H r=some (.ins C b.dx d.fs)/\Flds b d/\H b.ae=some (.lst d.xs)/\H b.af=some (.lst d.ys)/\EntsV H d.xs L.ents/\PairsV H d.ys L.pairs/\∀ v H',LayV H' v L->Same H H'->Q v H'
def g00:Sp:=fun vs H Q _=>∃ L:Lay,vs=[.str (Txt.join "\n" (a49 L))]/\LayG L/\∀ v H',LayV H' v L->Same H H'->Q v H'
section
variable {P:Program}{w:World}{K:PySem.W.Frag}{mg:Str->Option Value}{base:Heap}{C:Addr}
theorem scLR:FnScope ["self"] ["self"] (a09 b09):=⟨rfl,rfl,rfl,by decide +kernel,rfl,by decide +kernel,by decide +kernel⟩
theorem ok_LR {f:Addr}{fd:FuncData}(F:Fun K "layer_read" "Reader.layer_read" b09 f fd)(T:Txt K C)(mTuple:mg "tuple" = none):FnOk P w K mg base CX0 1 f fd ["self"] (spLR C):=by
 refine F.ok scLR (fun vs H Q E h=>?_) (fun cdv A outer s H vs Q E hr h=>?_)
 ·obtain⟨r,b,d,L,rfl,_⟩:=h
  rfl
 ·obtain⟨x,b,d,L,rfl,hr4,fl,he4,hf4,hE,hP,k⟩:=h
  refine⟨_,a08 (a37 (a59 (a00 (a82 a72 (by rfl) mTuple PyProof.Rows.Boot.tuple (a00 (b01 (pv 0) rfl) a04)) (a00 (a82 a72 (by rfl) mTuple PyProof.Rows.Boot.tuple (a00 (b01 (pv 0) rfl) a04)) a04)))),?_⟩
  refine⟨_,rfl,x,C,b.dx,_,_,rfl,hr4,T.cl,T.nE,fl.f1,b.ae,d.xs,rfl,.inl ⟨SqL.of he4,fun t1 ht1=>?_⟩⟩
  have s5:Same H (upd H t1 (.tup d.xs)):=(Same.refl _).upd ht1
  have h1t:(upd H t1 (.tup d.xs)) t1=some (.tup d.xs):=a02
  generalize (upd H t1 (.tup d.xs))=H5 at s5 h1t ⊢
  refine⟨_,rfl,x,C,b.dx,_,_,rfl,s5 _ _ hr4,T.cl,T.nF,fl.f2,b.af,d.ys,rfl,.inl ⟨SqL.of (s5 _ _ hf4),fun t2 ht2=>?_⟩⟩
  have s6:Same H5 (upd H5 t2 (.tup d.ys)):=(Same.refl _).upd ht2
  have h2t:(upd H5 t2 (.tup d.ys)) t2=some (.tup d.ys):=a02
  generalize (upd H5 t2 (.tup d.ys))=H6 at s6 h2t ⊢
  refine⟨by show 2<=sizeLine;decide,fun t3 ht3=>?_⟩
  have s7:Same H6 (upd H6 t3 (.tup [V.ref t1,V.ref t2])):=(Same.refl _).upd ht3
  have sx:=s5.trans (s6.trans s7)
  exact k _ _ ⟨t3,t1,t2,d.xs,d.ys,rfl,a02,s7 _ _ (s6 _ _ h1t),s7 _ _ h2t,EntsV.tk (Tk.of sx) hE,PairsV.tk (Tk.of sx) hP⟩ sx
theorem scRead:FnScope ["text", "reader", "rows", "at", "row"] ["text"] (a09 b13):=⟨rfl,rfl,rfl,by decide +kernel,rfl,by decide +kernel,by decide +kernel⟩
theorem i42 {f:Addr}{fd:FuncData}(F:Fun K "read_layer" "read_layer" b13 f fd)(T:Txt K C)(mEnum:mg "enumerate" = none)(DI:DefI P w K mg base 1 C "Reader" (h70 C))
 (MR:DefM P w K mg base 6 C "took_row" ["self", "row"] (g16 C))(MW:DefM P w K mg base 1 C "is_whole" ["self"] (g32 C))(ML:DefM P w K mg base 1 C "layer_read" ["self"] (spLR C)):FnOk P w K mg base CX0 7 f fd ["text"] g00:=by
 refine F.ok scRead (fun vs H Q E h=>?_) (fun cdv A outer s H vs Q E hr h=>?_)
 ·obtain⟨L,rfl,_⟩:=h
  rfl
 ·obtain⟨L,rfl,g,k⟩:=h
  have nd:=scRead.nd
  have hr2:Room 2 _:=hr.mono (by decide)
  have hr1:Room 1 _:=hr.mono (by decide)
  refine⟨_,a03 (a39 (i:=1) nd rfl (Or.inl rfl) (j18 DI hr2))
   (a03 (a39 (i:=2) nd rfl (Or.inl rfl) (b45 (a32 b07 (pv 0) a36 (a38 _)) (a99 a04) (b20 PySem.F.plainAttrs_str PySem.F.slot_str_split PySem.F.type_str_split c70 (pv 0) (a00 a36 a04))))
   (a03 (d05 PassesOwn.never rfl (g04 rfl mEnum (a00 (pv 2) a04)) (g56 rfl (b81 (a91 (i:=3) nd rfl (Or.inl rfl)) (b81 (a91 (i:=4) nd rfl (Or.inl rfl)) e55)))
     (a08 (a47 (b84 (a96 (f67 MR T.cl hr (pv 1) (a00 (pv 4) a04)))) b60 a31)))
   (a03 (a47 (b84 (a96 (g08 MW T.cl hr1 (pv 1)))) b60 a31)
   (a08 (a37 (g08 ML T.cl hr1 (pv 1))))))),?_⟩
  intro x dx nx ndx nex
  refine⟨x,dx,rfl,a02,fun b d H1 R fr kp=>⟨rfl,?_⟩⟩
  have s0:Same H (upd (upd H dx (.own x)) x (.ins C dx [])):=fun c o e=>by
   rw[a06 (a01 e nx),a06 (a01 e ndx)]
   exact e
  have s1:Same H H1:=fun c o e=>kp c o (s0 c o e) (by simpa using a01 e nx)
  have frH:∀ c∈b.all x,H c=none:=fun c hc=>by
   by_cases e:c=x
   ·rw[e];exact nx
   ·exact s0.free (fr c hc e)
  have inR:∀ c∈b.all x,∃ o,H1 c=some o:=fun c hc=>by
   simp only[RB.all,Cj,List.not_mem_nil,or_false] at hc
   rcases hc with rfl | rfl | rfl | rfl | rfl | rfl
   ·exact⟨_,R.hr⟩
   ·exact⟨_,R.he⟩
   ·exact⟨_,R.hf⟩
   ·exact⟨_,R.hm⟩
   ·exact⟨_,R.ho⟩
   ·exact⟨_,R.hn⟩
  have le:=g.el
  have lp:=g.pl
  have lr:(a49 L).length=L.ents.length+L.pairs.length:=by unfold a49;rw[Bj,Aj,Aj]
  refine⟨_,rfl,rfl,_,rfl,?_⟩
  refine a71 (fun h1=>?_) (fun h1=>?_)
  ·have e0:a49 L=[]:=(b11 g).mp (by have:=AJ h1;injection this)
   refine⟨by show 0<=sizeLine;decide,fun l hl=>?_⟩
   have hl2:(upd H1 l (.lst [])) l=some (.lst ((a49 L).map V.str)):=by rw[a02,e0];rfl
   have s12:Same H1 (upd H1 l (.lst [])):=(Same.refl _).upd hl
   have hlb:l∉b.all x:=fun q=>by obtain⟨o,e⟩:=inR l q;rw[hl] at e;cases e
   generalize (upd H1 l (.lst []))=H2 at hl2 s12 ⊢
   exact⟨_,rfl,l,rfl,⟨_,SqL.of hl2⟩,e93 (K:=K) (l:=l) (xs:=(a49 L).map V.str) (fun i σ H'=>(∃ v3 v4,σ=[some (.str (Txt.join "\n" (a49 L))),some (.ref x),some (.ref l),v3,v4])/\(∃ d',RdOk C H' x b d' (L.ents.take i) (L.pairs.take (i-L.ents.length)))/\Kp (b.all x) H2 H')
    ⟨⟨none,none,rfl⟩,⟨d,by rw[Nat.zero_sub];exact R.same s12⟩,Kp.refl _ _⟩ (fun i σ H' _ ⟨_,_,k'⟩=>SqL.of (k' _ _ hl2 hlb)) (by
     rintro i v σ H' T' hv ⟨⟨v3,v4,rfl⟩,⟨d',R'⟩,k'⟩ hT
     obtain⟨z,rfl,hz⟩:∃ z,v=V.str z/\(a49 L)[i]?=some z:=by
      rw[CQ] at hv
      cases q:(a49 L)[i]? with
      | none=>rw[q] at hv;cases hv
      | some z=>rw[q] at hv;exact⟨z,(EJ hv).symm,rfl⟩
     have s3:Same H' (upd H' T' (.tup [.int i,.str z])):=(Same.refl _).upd hT
     have R3:=R'.same s3
     refine⟨T',_,rfl,SqT.of a02,rfl,_,_,rfl,_,_,rfl,rfl,?_⟩
     have k3:Kp (b.all x) H2 (upd H' T' (.tup [.int i,.str z])):=k'.new hT
     refine⟨_,rfl,x,b.dx,_,rfl,R3.hr,R3.F.m1,_,rfl,x,b,d',_,_,z,rfl,R3,?_⟩
     by_cases hi:i < L.ents.length
     ·obtain⟨y,hy⟩:∃ y,L.ents[i]?=some y:=⟨L.ents[i],by rw[Bz]⟩
      have ez:z=b83 y:=by
       unfold a49 at hz
       rw[List.getElem?_append_left (by rw[Aj];exact hi),CQ,hy] at hz
       exact(EJ hz).symm
      have e0:i-L.ents.length=0:=by omega
      rw[e0,List.take_zero]
      refine .inl ⟨y,rfl,ez,(g.eg y (BQ hy)).1,g.next hy,fun d4 H4 R4 k4=>⟨_,rfl,b00 ⟨⟨_,_,rfl⟩,⟨d4,?_⟩,k3.trans k4⟩⟩⟩
      have e1:i+1-L.ents.length=0:=by omega
      rw[e1,List.take_zero,EX,hy]
      exact R4
     ·have hj:i-L.ents.length < L.pairs.length:=by
       have:=(Ex.mp hz).1
       omega
      obtain⟨y,hy⟩:∃ y,L.pairs[i-L.ents.length]?=some y:=⟨L.pairs[i-L.ents.length],by rw[Bz]⟩
      have ez:z=prP y:=by
       unfold a49 at hz
       rw[List.getElem?_append_right (by rw[Aj];omega),Aj,CQ,hy] at hz
       exact(EJ hz).symm
      refine .inr ⟨y,ez,g.pg y (BQ hy),g.nextP hy,fun d4 H4 R4 k4=>⟨_,rfl,b00 ⟨⟨_,_,rfl⟩,⟨d4,?_⟩,k3.trans k4⟩⟩⟩
      have e1:i+1-L.ents.length=(i-L.ents.length)+1:=by omega
      rw[e1,EX (l:=L.pairs),hy,DQ (by omega)]
      rw[DQ (by omega)] at R4
      exact R4) (by
     rintro σ H' ⟨⟨v3,v4,rfl⟩,⟨d',R'⟩,k'⟩
     rw[Aj,lr,DQ (by omega),show L.ents.length+L.pairs.length-L.ents.length=L.pairs.length by omega,DQ (AZ _)] at R'
     refine⟨_,rfl,x,b.dx,_,rfl,R'.hr,R'.F.m4,x,b,d',_,_,rfl,R',by omega,by omega,g.home,g.num,fun H4 k4=>⟨_,rfl,b00 ?_⟩⟩
     have nn:∀ c o,H' c=some o->c≠b.an->H4 c=some o:=fun c o e hc=>k4 c o e (by simpa using hc)
     have hr4:=nn _ _ R'.hr (a85 R'.hr R'.hn (fun z=>nomatch z))
     have he4:=nn _ _ R'.he (a85 R'.he R'.hn (fun z=>nomatch z))
     have hf4:=nn _ _ R'.hf (a85 R'.hf R'.hn (fun z=>nomatch z))
     have tk4:Tk H' H4:=k4.tk fun a ha ys e=>by rw[Ax.mp ha,R'.hn] at e;cases e
     have hE:=EntsV.tk tk4 R'.E
     have hP:=PairsV.tk tk4 R'.Pp
     have lx:d'.xs.length=L.ents.length:=Paired.length R'.E
     have ly:d'.ys.length=L.pairs.length:=Paired.length R'.Pp
     have sA:Same H H4:=fun c o e=>by
      have nb:c∉b.all x:=fun q=>by rw[frH c q] at e;cases e
      refine nn c o (k' c o (s12 c o (s1 c o e)) nb) fun q=>nb (by rw[q];simp[RB.all])
     exact⟨_,rfl,x,b.dx,_,rfl,hr4,R'.F.m5,x,b,d',L,rfl,hr4,R'.F,he4,hf4,hE,hP,fun v H5 hv s5=>k _ _ hv (sA.trans s5)⟩)⟩
  ·have e0:a49 L≠[]:=fun q=>h1 (Az (by rw[(b11 g).mpr q]))
   refine⟨_,rfl,rfl,_,_,rfl,rfl,by decide +kernel,FQ (f08 g) (by decide),fun l hl=>?_⟩
   rw[b78 g e0]
   have hl2:(upd H1 l (.lst ((a49 L).map V.str))) l=some (.lst ((a49 L).map V.str)):=a02
   have s12:Same H1 (upd H1 l (.lst ((a49 L).map V.str))):=(Same.refl _).upd hl
   have hlb:l∉b.all x:=fun q=>by obtain⟨o,e⟩:=inR l q;rw[hl] at e;cases e
   generalize (upd H1 l (.lst ((a49 L).map V.str)))=H2 at hl2 s12 ⊢
   exact⟨_,rfl,l,rfl,⟨_,SqL.of hl2⟩,e93 (K:=K) (l:=l) (xs:=(a49 L).map V.str) (fun i σ H'=>(∃ v3 v4,σ=[some (.str (Txt.join "\n" (a49 L))),some (.ref x),some (.ref l),v3,v4])/\(∃ d',RdOk C H' x b d' (L.ents.take i) (L.pairs.take (i-L.ents.length)))/\Kp (b.all x) H2 H')
    ⟨⟨none,none,rfl⟩,⟨d,by rw[Nat.zero_sub];exact R.same s12⟩,Kp.refl _ _⟩ (fun i σ H' _ ⟨_,_,k'⟩=>SqL.of (k' _ _ hl2 hlb)) (by
     rintro i v σ H' T' hv ⟨⟨v3,v4,rfl⟩,⟨d',R'⟩,k'⟩ hT
     obtain⟨z,rfl,hz⟩:∃ z,v=V.str z/\(a49 L)[i]?=some z:=by
      rw[CQ] at hv
      cases q:(a49 L)[i]? with
      | none=>rw[q] at hv;cases hv
      | some z=>rw[q] at hv;exact⟨z,(EJ hv).symm,rfl⟩
     have s3:Same H' (upd H' T' (.tup [.int i,.str z])):=(Same.refl _).upd hT
     have R3:=R'.same s3
     refine⟨T',_,rfl,SqT.of a02,rfl,_,_,rfl,_,_,rfl,rfl,?_⟩
     have k3:Kp (b.all x) H2 (upd H' T' (.tup [.int i,.str z])):=k'.new hT
     refine⟨_,rfl,x,b.dx,_,rfl,R3.hr,R3.F.m1,_,rfl,x,b,d',_,_,z,rfl,R3,?_⟩
     by_cases hi:i < L.ents.length
     ·obtain⟨y,hy⟩:∃ y,L.ents[i]?=some y:=⟨L.ents[i],by rw[Bz]⟩
      have ez:z=b83 y:=by
       unfold a49 at hz
       rw[List.getElem?_append_left (by rw[Aj];exact hi),CQ,hy] at hz
       exact(EJ hz).symm
      have e0:i-L.ents.length=0:=by omega
      rw[e0,List.take_zero]
      refine .inl ⟨y,rfl,ez,(g.eg y (BQ hy)).1,g.next hy,fun d4 H4 R4 k4=>⟨_,rfl,b00 ⟨⟨_,_,rfl⟩,⟨d4,?_⟩,k3.trans k4⟩⟩⟩
      have e1:i+1-L.ents.length=0:=by omega
      rw[e1,List.take_zero,EX,hy]
      exact R4
     ·have hj:i-L.ents.length < L.pairs.length:=by
       have:=(Ex.mp hz).1
       omega
      obtain⟨y,hy⟩:∃ y,L.pairs[i-L.ents.length]?=some y:=⟨L.pairs[i-L.ents.length],by rw[Bz]⟩
      have ez:z=prP y:=by
       unfold a49 at hz
       rw[List.getElem?_append_right (by rw[Aj];omega),Aj,CQ,hy] at hz
       exact(EJ hz).symm
      refine .inr ⟨y,ez,g.pg y (BQ hy),g.nextP hy,fun d4 H4 R4 k4=>⟨_,rfl,b00 ⟨⟨_,_,rfl⟩,⟨d4,?_⟩,k3.trans k4⟩⟩⟩
      have e1:i+1-L.ents.length=(i-L.ents.length)+1:=by omega
      rw[e1,EX (l:=L.pairs),hy,DQ (by omega)]
      rw[DQ (by omega)] at R4
      exact R4) (by
     rintro σ H' ⟨⟨v3,v4,rfl⟩,⟨d',R'⟩,k'⟩
     rw[Aj,lr,DQ (by omega),show L.ents.length+L.pairs.length-L.ents.length=L.pairs.length by omega,DQ (AZ _)] at R'
     refine⟨_,rfl,x,b.dx,_,rfl,R'.hr,R'.F.m4,x,b,d',_,_,rfl,R',by omega,by omega,g.home,g.num,fun H4 k4=>⟨_,rfl,b00 ?_⟩⟩
     have nn:∀ c o,H' c=some o->c≠b.an->H4 c=some o:=fun c o e hc=>k4 c o e (by simpa using hc)
     have hr4:=nn _ _ R'.hr (a85 R'.hr R'.hn (fun z=>nomatch z))
     have he4:=nn _ _ R'.he (a85 R'.he R'.hn (fun z=>nomatch z))
     have hf4:=nn _ _ R'.hf (a85 R'.hf R'.hn (fun z=>nomatch z))
     have tk4:Tk H' H4:=k4.tk fun a ha ys e=>by rw[Ax.mp ha,R'.hn] at e;cases e
     have hE:=EntsV.tk tk4 R'.E
     have hP:=PairsV.tk tk4 R'.Pp
     have lx:d'.xs.length=L.ents.length:=Paired.length R'.E
     have ly:d'.ys.length=L.pairs.length:=Paired.length R'.Pp
     have sA:Same H H4:=fun c o e=>by
      have nb:c∉b.all x:=fun q=>by rw[frH c q] at e;cases e
      refine nn c o (k' c o (s12 c o (s1 c o e)) nb) fun q=>nb (by rw[q];simp[RB.all])
     exact⟨_,rfl,x,b.dx,_,rfl,hr4,R'.F.m5,x,b,d',L,rfl,hr4,R'.F,he4,hf4,hE,hP,fun v H5 hv s5=>k _ _ hv (sA.trans s5)⟩)⟩
end
def Atm (x y:V):Prop:=(x=.non/\y=.non)∨(∃ z,x=.str z/\y=.str z)∨(∃ i,x=.int i/\y=.int i)
def Alk (H:Hp):Nat->V->V->Prop
 | 0,x,y=>Atm x y
 | n+1,x,y=>Atm x y∨∃ a b xs ys,x=.ref a/\y=.ref b/\H a=some (.tup xs)/\H b=some (.tup ys)/\xs.length<=1000/\Paired (Alk H n) xs ys
theorem Alk.tk {H H':Hp}(k:Tk H H'):∀ {n:Nat}{x y:V},Alk H n x y->Alk H' n x y
 | 0,_,_,h=>h
 | n+1,_,_,h=>by
  rcases h with h | ⟨a,b,xs,ys,e1,e2,h1,h2,hl,p⟩
  ·exact .inl h
  ·exact .inr ⟨a,b,xs,ys,e1,e2,k _ _ h1,k _ _ h2,hl,Paired.mono (fun _ _ q=>Alk.tk k q) p⟩
theorem e74 (H:Hp) (n:Nat):∀ zs:List Str,Paired (Alk H n) (zs.map V.str) (zs.map V.str)
 | []=>.nil
 | z::r=>.cons (by cases n with | zero=>exact .inr (.inl ⟨z,rfl,rfl⟩) | succ n=>exact .inl (.inr (.inl ⟨z,rfl,rfl⟩))) (e74 H n r)
theorem e97 {H:Hp}{a b:Addr}{zs:List Str}(ha:H a=some (.tup (zs.map V.str)))(hb:H b=some (.tup (zs.map V.str)))(hl:zs.length<=1000):Alk H 1 (.ref a) (.ref b) :=
 .inr ⟨a,b,_,_,rfl,rfl,ha,hb,by rw[Aj];exact hl,e74 H 0 zs⟩
theorem g34 {H:Hp}{v u:V}{o:Option (List Str)}(h1:OptP H v o)(h2:OptP H u o)(hl:∀ zs,o=some zs->zs.length<=1000):Alk H 1 v u:=by
 cases o with
 | none =>
  cases (show v=.non from h1)
  cases (show u=.non from h2)
  exact .inl (.inl ⟨rfl,rfl⟩)
 | some zs =>
  obtain⟨a,rfl,ha⟩:=h1
  obtain⟨b,rfl,hb⟩:=h2
  exact e97 ha hb (hl zs rfl)
theorem c91 {H:Hp}{n:Nat}{x y:V}(h:Atm x y):Alk H n x y:=by
 cases n with
 | zero=>exact h
 | succ n=>exact .inl h
theorem h85 {H:Hp}{v u:V}{x:List Str×Ent}(h1:EntV H v x.1 x.2)(h2:EntV H u x.1 x.2)(hg:EntG x):Alk H 2 v u:=by
 obtain⟨p,e⟩:=x
 have hl:p.length<=1000:=FQ hg.pth.len (by decide)
 obtain⟨t,pa,rfl,hpa,g1⟩:=h1
 obtain⟨t',pb,rfl,hpb,g2⟩:=h2
 have hP:Alk H 1 (.ref pa) (.ref pb):=e97 hpa hpb hl
 cases e with
 | gone=>exact .inr ⟨t,t',_,_,rfl,rfl,g1,g2,by show 2<=1000;decide,.cons hP (.cons (c91 (.inr (.inl ⟨_,rfl,rfl⟩))) .nil)⟩
 | fil i=>exact .inr ⟨t,t',_,_,rfl,rfl,g1,g2,by show 3<=1000;decide,.cons hP (.cons (c91 (.inr (.inl ⟨_,rfl,rfl⟩))) (.cons (c91 (.inr (.inr ⟨_,rfl,rfl⟩))) .nil))⟩
 | dir o =>
  obtain⟨w1,o1,g1⟩:=g1
  obtain⟨w2,o2,g2⟩:=g2
  exact .inr ⟨t,t',_,_,rfl,rfl,g1,g2,by show 3<=1000;decide,.cons hP (.cons (c91 (.inr (.inl ⟨_,rfl,rfl⟩))) (.cons (g34 o1 o2 fun zs e=>FQ (hg.2 zs e).len (by decide)) .nil))⟩
theorem h28 {H:Hp}{v u:V}{x:Pr}(h1:PairV H v x)(h2:PairV H u x)(hg:PrG x):Alk H 2 v u:=by
 obtain⟨t,w1,y1,rfl,o1,s1,g1⟩:=h1
 obtain⟨t',w2,y2,rfl,o2,s2,g2⟩:=h2
 have hy:Atm y1 y2:=by
  cases q:x.2 with
  | none =>
   rw[q] at s1 s2
   cases (show y1=.non from s1)
   cases (show y2=.non from s2)
   exact .inl ⟨rfl,rfl⟩
  | some z =>
   rw[q] at s1 s2
   cases (show y1=.str z from s1)
   cases (show y2=.str z from s2)
   exact .inr (.inl ⟨z,rfl,rfl⟩)
 exact .inr ⟨t,t',_,_,rfl,rfl,g1,g2,by show 2<=1000;decide,.cons (g34 o1 o2 fun zs e=>FQ (hg.org zs e).2.len (by decide)) (.cons (c91 hy) .nil)⟩
theorem c41 {α β:Type}{R S:V->β->Prop}{T:V->V->Prop}:∀ {xs ys:List V}{bs:List β},Paired R xs bs->Paired S ys bs->(∀ x y b,b∈bs->R x b->S y b->T x y)->Paired T xs ys
 | _,_,_,.nil,.nil,_=>.nil
 | _,_,_,.cons h1 t1,.cons h2 t2,h=>.cons (h _ _ _ BZ h1 h2) (c41 (α:=α) t1 t2 fun x y b hb=>h x y b (BX _ hb))
theorem g54 {H:Hp}{v u:V}{L:Lay}(h1:LayV H v L)(h2:LayV H u L)(g:LayG L):Alk H 4 v u:=by
 obtain⟨t,e,p,es,ps,rfl,ht,he,hp,hE,hP⟩:=h1
 obtain⟨t',e',p',es',ps',rfl,ht',he',hp',hE',hP'⟩:=h2
 have l1:es.length=L.ents.length:=Paired.length hE
 have l2:ps.length=L.pairs.length:=Paired.length hP
 have:=g.el
 have:=g.pl
 have a1:Alk H 3 (.ref e) (.ref e'):=.inr ⟨e,e',es,es',rfl,rfl,he,he',by omega,c41 (α:=Nat) hE hE' fun x y b hb r s=>h85 r s (g.eg b hb).1⟩
 have a2:Alk H 3 (.ref p) (.ref p'):=.inr ⟨p,p',ps,ps',rfl,rfl,hp,hp',by omega,c41 (α:=Nat) hP hP' fun x y b hb r s=>h28 r s (g.pg b hb)⟩
 exact .inr ⟨t,t',_,_,rfl,rfl,ht,ht',by show 2<=1000;decide,.cons a1 (.cons a2 .nil)⟩
structure Kits (K:PySem.W.Frag):Prop where
 tt:PySem.W.kitOne K (.type "tuple") (.type "tuple")=some true
 nt:PySem.W.kitOne K (.type "NoneType") (.type "tuple")=some false
 st:PySem.W.kitOne K (.type "str") (.type "tuple")=some false
 it:PySem.W.kitOne K (.type "int") (.type "tuple")=some false
 ss:PySem.W.kitOne K (.type "str") (.type "str")=some true
 is:PySem.W.kitOne K (.type "int") (.type "str")=some false
 ii:PySem.W.kitOne K (.type "int") (.type "int")=some true
 ib:PySem.W.kitOne K (.type "int") (.type "bool")=some false
def c75 (n:Nat):Sp:=fun vs H Q _=>∃ x y,vs=[x,y]/\Alk H n x y/\∀ H',Same H H'->Q (.bl true) H'
section
variable {P:Program}{w:World}{K:PySem.W.Frag}{mg:Str->Option Value}{base:Heap}
theorem e42:FnScope ["_law_found", "_law_due"] ["_law_found", "_law_due"] (a09 c59):=⟨rfl,rfl,rfl,by decide +kernel,rfl,by decide +kernel,by decide +kernel⟩
theorem d98 {f:Addr}{fd:FuncData}(F:Fun K "_law_alike" "_law_alike" c59 f fd)(kt:Kits K)(mIs:mg "isinstance" = none)(mTuple:mg "tuple" = none)(mStr:mg "str" = none)(mInt:mg "int" = none)(mBool:mg "bool" = none):∀ k,FnOk P w K mg base CX0 (k+1) f fd ["_law_found", "_law_due"] (fun vs H Q _=>∃ x y,vs=[x,y]/\Atm x y/\∀ H',Same H H'->Q (.bl true) H'):=by
 intro n
 refine F.ok e42 (fun vs H Q E h=>?_) (fun cdv A outer s H vs Q E hr h=>?_)
 ·obtain⟨x,y,rfl,_⟩:=h
  rfl
 ·obtain⟨x,y,rfl,hxy,k⟩:=h
  refine⟨_,a03 (a47 (a96 (a29 a76 (by rfl) mIs PyProof.Rows.Boot.isinstance (a00 (pv 1) (a00 (b53 (v:=.ty "tuple") rfl mTuple PyProof.Rows.Boot.tuple rfl) a04)))) b60 a31)
   (a03 (a47 (b21 (c30 (pv 1))) (a08 (a37 (h63 (c30 (pv 0))))) a31)
   (a03 (a47 (a96 (a29 a76 (by rfl) mIs PyProof.Rows.Boot.isinstance (a00 (pv 1) (a00 (b53 (v:=.ty "str") rfl mStr PyProof.Rows.Boot.str rfl) a04)))) (a08 (a37 (c61 (a29 a76 (by rfl) mIs PyProof.Rows.Boot.isinstance (a00 (pv 0) (a00 (b53 (v:=.ty "str") rfl mStr PyProof.Rows.Boot.str rfl) a04))) (c95 (b14 b07 (pv 0) (pv 1) (a38 _)))))) a31)
   (a08 (a37 (c61 (a29 a76 (by rfl) mIs PyProof.Rows.Boot.isinstance (a00 (pv 0) (a00 (b53 (v:=.ty "int") rfl mInt PyProof.Rows.Boot.int rfl) a04))) (c61 (j11 (a29 a76 (by rfl) mIs PyProof.Rows.Boot.isinstance (a00 (pv 0) (a00 (b53 (v:=.ty "bool") rfl mBool PyProof.Rows.Boot.bool rfl) a04)))) (c95 (b14 b07 (pv 0) (pv 1) (a38 _)))))))))  , ?_⟩
  rcases hxy with⟨rfl,rfl⟩ | ⟨z,rfl,rfl⟩ | ⟨i,rfl,rfl⟩
  ·refine⟨_,rfl,_,_,_,_,_,rfl,.non,rfl,kt.nt,_,rfl,b00 ?_⟩
   refine⟨_,rfl,_,rfl,c01 ?_⟩
   exact⟨_,rfl,k H (Same.refl H)⟩
  ·refine⟨_,rfl,_,_,_,_,_,rfl,.str z,rfl,kt.st,_,rfl,b00 ?_⟩
   refine⟨_,rfl,_,rfl,b00 ?_⟩
   refine⟨_,rfl,_,_,_,_,_,rfl,.str z,rfl,kt.ss,_,rfl,c01 ?_⟩
   refine⟨_,rfl,_,_,_,_,_,rfl,.str z,rfl,kt.ss,_,rfl,c01 ?_⟩
   refine⟨_,rfl,_,rfl,rfl,?_⟩
   rw[Az rfl]
   exact k H (Same.refl H)
  ·refine⟨_,rfl,_,_,_,_,_,rfl,.int i,rfl,kt.it,_,rfl,b00 ?_⟩
   refine⟨_,rfl,_,rfl,b00 ?_⟩
   refine⟨_,rfl,_,_,_,_,_,rfl,.int i,rfl,kt.is,_,rfl,b00 ?_⟩
   refine⟨_,rfl,_,_,_,_,_,rfl,.int i,rfl,kt.ii,_,rfl,c01 ?_⟩
   refine⟨_,rfl,_,_,_,_,_,rfl,.int i,rfl,kt.ib,_,rfl,_,rfl,c01 ?_⟩
   refine⟨_,rfl,_,rfl,rfl,?_⟩
   rw[Az rfl]
   exact k H (Same.refl H)
theorem g72 {f:Addr}{fd:FuncData}(F:Fun K "_law_alike" "_law_alike" c59 f fd)(kt:Kits K)(mIs:mg "isinstance" = none)(mTuple:mg "tuple" = none)(mLen:mg "len" = none)(mAll:mg "all" = none)(mZip:mg "zip" = none){n:Nat}(D:Def P w K mg base (n+1) "_law_alike" ["_law_found", "_law_due"] (c75 n)):FnOk P w K mg base CX0 (n+2) f fd ["_law_found", "_law_due"] (fun vs H Q _=>∃ a b xs ys,vs=[.ref a,.ref b]/\H a=some (.tup xs)/\H b=some (.tup ys)/\xs.length<=1000/\Paired (Alk H n) xs ys/\∀ H',Same H H'->Q (.bl true) H'):=by
 refine F.ok e42 (fun vs H Q E h=>?_) (fun cdv A outer s H vs Q E hr h=>?_)
 ·obtain⟨a,b,xs,ys,rfl,_⟩:=h
  rfl
 ·obtain⟨a,b,xs,ys,rfl,ha,hb,hl,hp,k⟩:=h
  have lxy:xs.length=ys.length:=Paired.length hp
  refine⟨_,a03 (a47 (a96 (a29 a76 (by rfl) mIs PyProof.Rows.Boot.isinstance (a00 (pv 1) (a00 (b53 (v:=.ty "tuple") rfl mTuple PyProof.Rows.Boot.tuple rfl) a04))))
   (a03 (a47 (PW.pt (c32 (b84 (a96 (a29 a76 (by rfl) mIs PyProof.Rows.Boot.isinstance (a00 (pv 0) (a00 (b53 (v:=.ty "tuple") rfl mTuple PyProof.Rows.Boot.tuple rfl) a04))))) (b61 (a32 c96 (a29 a30 (by rfl) mLen PySem.boot_len (a00 (pv 0) a04)) (a29 a30 (by rfl) mLen PySem.boot_len (a00 (pv 1) a04)) (a38 _))))) (a08 (a37 c31)) a31)
   (a08 (a37 (a29 (b70 rfl) (by rfl) mAll PyProof.Rows.boot_all (a00 (h08 (x := "_law_one") (y := "_law_other") e42 ⟨rfl,by decide +kernel,by decide +kernel,by decide +kernel,by decide +kernel,by decide +kernel⟩ (by decide +kernel) (by decide +kernel) (by decide +kernel) (by decide +kernel)
     (i68 rfl mZip (a00 (pv 0) (a00 (pv 1) a04))) (fun C fp s H=>i59) (fun C fp s H=>a35 D hr (a00 (pv 2) (a00 (pv 3) a04)))) a04))))) a31) b60,?_⟩
  refine⟨_,rfl,_,_,_,_,_,rfl,.tup hb,rfl,kt.tt,_,rfl,c01 ?_⟩
  refine⟨_,rfl,_,_,_,_,_,rfl,.tup ha,rfl,kt.tt,_,rfl,b00 ?_⟩
  refine⟨_,rfl,a,_,rfl,.inr (SqT.of ha),_,rfl,b,_,rfl,.inr (SqT.of hb),rfl,_,rfl,e62 (by rw[lxy]) ?_⟩
  refine⟨_,rfl,_,rfl,a,b,rfl,⟨_,SqT.of ha⟩,⟨_,SqT.of hb⟩,h20 (K:=K) (xs:=xs) (zs:=ys) (fun i vs H'=>vs=List.replicate i (V.bl true)/\Same H H') lxy (by rw[sizeLine_eq];omega) ⟨rfl,Same.refl H⟩ (fun i vs H' ⟨e,_⟩=>by rw[e,List.length_replicate];exact AZ _) (fun i vs H' _ ⟨_,s⟩=>⟨SqT.of (s _ _ ha),SqT.of (s _ _ hb)⟩) ?_ ?_⟩
  ·rintro i vs H' v u T hv hu ⟨e1,s1⟩ hT
   have s2:Same H' (upd H' T (.tup [v,u])):=(Same.refl _).upd hT
   refine⟨T,_,rfl,SqT.of a02,rfl,_,_,rfl,_,_,rfl,rfl,?_⟩
   obtain⟨u',hu',hvu⟩:=a64 hp hv
   rw[hu] at hu'
   cases hu'
   refine c01 ⟨_,rfl,_,rfl,v,u,rfl,Alk.tk (Tk.of (s1.trans s2)) hvu,fun H3 s3=>⟨?_,s1.trans (s2.trans s3)⟩⟩
   rw[e1,List.replicate_succ']
  ·rintro vs H' ⟨e1,s1⟩ E hE
   refine⟨E,List.replicate xs.length true,rfl,SqL.of (by rw[a02,e1,List.map_replicate]),?_⟩
   have:(List.replicate xs.length true).all id=true:=List.all_eq_true.mpr fun b hb=>List.eq_of_mem_replicate hb
   rw[this]
   exact k _ (s1.upd hE)
theorem e76 {f:Addr}{fd:FuncData}(F:Fun K "_law_alike" "_law_alike" c59 f fd)(kt:Kits K)(mIs:mg "isinstance" = none)(mTuple:mg "tuple" = none)(mStr:mg "str" = none)(mInt:mg "int" = none)(mBool:mg "bool" = none)(mLen:mg "len" = none)(mAll:mg "all" = none)(mZip:mg "zip" = none)
 (hm:mg "_law_alike" = some (.ref f))(hk:PySem.W.keepIn K (.ref f)=true)(hb:Binds K fd ["_law_found", "_law_due"] []):∀ n,FnOk P w K mg base CX0 (n+1) f fd ["_law_found", "_law_due"] (c75 n)
 | 0=>(d98 F kt mIs mTuple mStr mInt mBool 0).imp fun vs H Q E h=>by
  obtain⟨x,y,e,ha,k⟩:=h
  exact⟨x,y,e,ha,k⟩
 | n+1=>by
  have D:Def P w K mg base (n+1) "_law_alike" ["_law_found", "_law_due"] (c75 n):=⟨f,fd,e76 F kt mIs mTuple mStr mInt mBool mLen mAll mZip hm hk hb n,hm,hk,hb⟩
  refine(FnOk.or (d98 F kt mIs mTuple mStr mInt mBool (n+1)) (g72 F kt mIs mTuple mLen mAll mZip D)).imp fun vs H Q E h=>?_
  obtain⟨x,y,e,ha,k⟩:=h
  rcases ha with ha | ⟨a,b,xs,ys,rfl,rfl,h1,h2,hl,p⟩
  ·exact .inl ⟨x,y,e,ha,k⟩
  ·exact .inr ⟨a,b,xs,ys,e,h1,h2,hl,p,k⟩
end
theorem i65:∀ n < 26,97<=LTS.cps.toList.getD n 0/\LTS.cps.toList.getD n 0<=122:=by decide +kernel
theorem i86:∀ n < 94,32<=SGN.cps.toList.getD n 0/\SGN.cps.toList.getD n 0<=126/\SGN.cps.toList.getD n 0≠37:=by decide +kernel
theorem g46 {z:Str}{i:Int}{c:Nat}(h:c∈(sgn z i).cps.toList):c=z.cps.toList.getD i.toNat 0:=Ax.mp h
theorem c98 (b:Bx):∀ n,∀ z∈(a56 b n).1,∀ c∈z.cps.toList,97<=c/\c<=122
 | 0=>fun _ h=>nomatch h
 | n+1=>fun z h c hc=>by
  rcases Bq.mp h with q | q
  ·exact c98 b n z q c hc
  ·rw[Ax.mp q] at hc
   rw[g46 hc]
   have lo:=a41 (a56 b n).2 (m:=26) (by decide)
   have hi:=a40 (a56 b n).2 (m:=26) (by decide)
   exact i65 _ (by omega)
theorem i30:∀ z∈someW,0 < z.length/\z.length<=8/\∀ c∈z.cps.toList,97<=c/\c<=122:=by decide +kernel
theorem d70 (b:Bx):Nm (b25 b).1:=by
 unfold b25
 split
 ·have l2:=a41 (a05 b 4).2 (m:=8) (by decide)
  have u2:=a40 (a05 b 4).2 (m:=8) (by decide)
  have hl:(Txt.join "" (a56 (a05 (a05 b 4).2 8).2 (1+(a05 (a05 b 4).2 8).1).toNat).1).length=(1+(a05 (a05 b 4).2 8).1).toNat:=by rw[c71,b41 (b24 _ _),a95]
  refine⟨by show 0 < (Txt.join "" _).length;rw[hl];omega,by show(Txt.join "" _).length<=8;rw[hl];omega,fun c hc=>?_⟩
  have hc':c∈(Txt.join "" (a56 (a05 (a05 b 4).2 8).2 (1+(a05 (a05 b 4).2 8).1).toNat).1).cps.toList:=hc
  rw[c06] at hc'
  obtain⟨l,hl',hcl⟩:=List.mem_flatten.mp hc'
  obtain⟨z,hz,rfl⟩:=Ez.mp hl'
  exact c98 _ _ z hz c hcl
 ·have lo:=a41 (a05 b 4).2 (m:=14) (by decide)
  have hi:=a40 (a05 b 4).2 (m:=14) (by decide)
  have hm:someW.getD (a05 (a05 b 4).2 14).1.toNat "" ∈ someW:=by
   have hlt:(a05 (a05 b 4).2 14).1.toNat < someW.length:=by show _ < 14;omega
   rw[List.getD_eq_getElem?_getD,Bz hlt]
   exact List.getElem_mem _
  obtain⟨h1,h2,h3⟩:=i30 _ hm
  exact⟨h1,h2,h3⟩
theorem d32 (b:Bx):∀ c∈(a69 b).1.cps.toList,h81 c:=fun c hc=>by
 have hc':c∈(Txt.join "" ((List.range (a61 b).1.toNat).map fun k:Nat=>sgn SGN (((a05 (a61 b).2 94).1+(k:Int) * (a05 (a05 (a61 b).2 94).2 94).1) % 94))).cps.toList:=hc
 rw[c06] at hc'
 obtain⟨l,hl,hcl⟩:=List.mem_flatten.mp hc'
 obtain⟨z,hz,rfl⟩:=Ez.mp hl
 obtain⟨k,_,rfl⟩:=Ez.mp hz
 rw[g46 hcl]
 have h0:=EZ ((a05 (a61 b).2 94).1+(k:Int) * (a05 (a05 (a61 b).2 94).2 94).1) (show(94:Int)≠0 by decide)
 have h1:=Fj ((a05 (a61 b).2 94).1+(k:Int) * (a05 (a05 (a61 b).2 94).2 94).1) (show(0:Int) < 94 by decide)
 exact i86 _ (by omega)
theorem e00 (b:Bx):∀ n,∀ z∈(b55 b n).1,Nm z
 | 0=>fun _ h=>nomatch h
 | n+1=>fun z h=>by
  rcases Bq.mp h with q | q
  ·exact e00 b n z q
  ·rw[Ax.mp q]
   exact d70 _
theorem g25 (b:Bx):(a74 b).1≠[]/\PthG (a74 b).1 8:=by
 have:=d37 b
 have hl:(a74 b).1.length=g85 b:=by unfold a74;rw[b64]
 refine⟨fun e=>by rw[e] at hl;simp only[List.length_nil] at hl;omega,by omega,e00 _ _⟩
def RowG (np:Nat) (r:List Str×Ent):Prop:=r.1≠[]/\match r.2 with
 | .gone=>PthG r.1 9
 | .fil i=>PthG r.1 8/\0<=i/\i < (np:Int)
 | .dir o=>PthG r.1 8/\∀ b,o=some b->PthG b 8
theorem RowG.mono {n m:Nat}{r:List Str×Ent}(h:RowG n r)(q:n<=m):RowG m r:=by
 obtain⟨p,e⟩:=r
 cases e with
 | gone=>exact h
 | fil i=>exact⟨h.1,h.2.1,h.2.2.1,by have:=h.2.2.2;omega⟩
 | dir o=>exact h
def Par (rows:List (List Str×Ent)) (p:List Str):Prop:=p=[]∨∃ o,(p,Ent.dir o)∈rows
theorem Par.mono {rows rows':List (List Str×Ent)}{p:List Str}(h:Par rows p)(hs:∀ r∈rows,r∈rows'):Par rows' p:=by
 rcases h with h | ⟨o,h⟩
 ·exact .inl h
 ·exact .inr ⟨o,hs _ h⟩
structure RowsS (rows:List (List Str×Ent)) (np:Nat):Prop where
 keys:(rows.map (·.1)).Nodup
 ent:∀ r∈rows,RowG np r
 par:∀ r∈rows,Par rows r.1.dropLast
theorem RowsS.mono {rows:List (List Str×Ent)}{n m:Nat}(h:RowsS rows n)(q:n<=m):RowsS rows m:=⟨h.keys,fun r hr=>(h.ent r hr).mono q,h.par⟩
theorem RowsS.add {rows:List (List Str×Ent)}{np:Nat}(h:RowsS rows np){r:List Str×Ent}(hn:r.1∉rows.map (·.1))(hr:RowG np r)(hp:Par rows r.1.dropLast):RowsS (rows++[r]) np:=by
 have hs:∀ q∈rows,q∈rows++[r]:=fun q hq=>List.mem_append_left _ hq
 refine⟨?_,fun q hq=>?_,fun q hq=>?_⟩
 ·rw[BJ,List.nodup_append]
  refine⟨h.keys,by simp,fun a ha b hb=>?_⟩
  rw[Ax.mp hb]
  exact fun e=>hn (by rw[show r.1=a from e.symm];exact ha)
 ·rcases Bq.mp hq with z | z
  ·exact h.ent q z
  ·rw[Ax.mp z];exact hr
 ·rcases Bq.mp hq with z | z
  ·exact(h.par q z).mono hs
  ·rw[Ax.mp z];exact hp.mono hs
abbrev i03 (a b:Pr):Prop:=a.1=b.1->b.1=none
structure GrS (g:Gr):Prop where
 R:RowsS g.rows g.pairs.length
 len:∀ r∈g.rows,r.1.length<=8
 fold:∀ f∈g.folds,Par g.rows f
 pr:∀ p∈g.pairs,PrG p
 org:g.pairs.Pairwise i03
 home:∀(j:Nat) y,g.pairs[j]?=some (none,y)->∃ p,(p,Ent.fil j)∈g.rows
theorem e86 {ps:List Pr}{x:Pr}(h:ps.Pairwise i03)(hx:∀ p∈ps,p.1=x.1->x.1=none):(ps++[x]).Pairwise i03:=by
 rw[List.pairwise_append]
 refine⟨h,List.pairwise_singleton _ _,fun a ha b hb=>?_⟩
 rw[Ax.mp hb]
 exact hx a ha
theorem h78 (o:Option (List Str))(b:Bx):(∀ z,(e22 o b).1=some z->z.length<=200/\∀ c∈z.cps.toList,h81 c)/\(o=none->(e22 o b).1≠none):=by
 cases o with
 | none =>
  refine⟨fun z h=>?_,fun _ q=>nomatch q⟩
  cases h
  exact⟨b30 _,d32 _⟩
 | some y =>
  refine⟨fun z h=>?_,fun q=>nomatch q⟩
  have h':(if (a05 (a69 b).2 3).1=0 then none else some (a69 b).1)=some z:=h
  split at h'
  ·cases h'
  ·cases h'
   exact⟨b30 _,d32 _⟩
theorem i90 (b:Bx):∀ zs,(b82 b).1=some zs->zs≠[]/\PthG zs 8:=by
 intro zs h
 unfold b82 at h
 split at h
 ·cases h
  exact g25 _
 ·cases h
theorem j07 {b:Bx}{ps:List Pr}(h:∀ p∈ps,PrG p)(ho:ps.Pairwise i03):(b37 b ps).2.2=ps/\(b37 b ps).1=-1∨∃ x,PrG x/\(b37 b ps).2.2=ps++[x]/\(b37 b ps).1=ps.length/\(∀ p∈ps,p.1=x.1->x.1=none):=by
 unfold b37
 split
 ·exact .inl ⟨rfl,rfl⟩
 ·rename_i hc
  refine .inr ⟨_,⟨i90 b,(h78 _ _).1,(h78 _ _).2⟩,rfl,rfl,fun p hp e=>?_⟩
  cases q:(b82 b).1 with
  | none=>rfl
  | some zs =>
   refine absurd ⟨?_,?_⟩ hc
   ·rw[q];exact fun z=>nomatch z
   ·rw[← (show p.1=(b82 b).1 from e)]
    exact Ez.mpr ⟨p,hp,rfl⟩
theorem i04 {b:Bx}{ps:List Pr}(h:∀ p∈ps,PrG p)(ho:ps.Pairwise i03):((a68 b ps).2.2=ps/\(a68 b ps).1 < ps.length)∨∃ x,PrG x/\(a68 b ps).2.2=ps++[x]/\(a68 b ps).1=ps.length/\(∀ p∈ps,p.1=x.1->x.1=none):=by
 unfold a68
 split
 ·rcases j07 (b:=(e23 b ps).2) h ho with⟨e1,e2⟩ | q
  ·exact .inl ⟨e1,by rw[e2];omega⟩
  ·exact .inr q
 ·exact .inl ⟨rfl,g02 b ps⟩
theorem i36 {rows:List (List Str×Ent)}{p:List Str}(h:¬ i21 rows p=true):p∉rows.map (·.1):=fun q=>by
 obtain⟨r,hr,e⟩:=Ez.mp q
 exact h (List.any_eq_true.mpr ⟨r,hr,Az e⟩)
theorem i77 {b:Bx}{way:Int}{p:List Str}{g:Gr}(h:GrS g)(hn:p∉g.rows.map (·.1))(hne:p≠[])(hp:PthG p 8)(hpar:Par g.rows p.dropLast):GrS (e13 way b p g).2:=by
 unfold e13
 split
 ·have hs:∀ q∈g.rows,q∈g.rows++[(p,Ent.dir (e57 (a05 (a74 b).2 4).1 p (a74 b).1))]:=fun q hq=>List.mem_append_left _ hq
  refine⟨h.R.add hn ⟨hne,hp,?_⟩ hpar,fun r hr=>?_,fun f hf=>?_,h.pr,h.org,fun j y e=>?_⟩
  ·unfold e57
   refine i93 (fun o:Option (List Str)=>∀ b,o=some b->PthG b 8) (a41 _ (by decide)) (a40 _ (by decide)) (fun zs e=>nomatch e) (fun zs e=>?_) (fun zs e=>?_) (fun zs e=>?_)
   ·cases e;exact hp
   ·cases e;exact⟨FJ _,fun _ q=>nomatch q⟩
   ·cases e;exact(g25 _).2
  ·rcases Bq.mp hr with z | z
   ·exact h.len r z
   ·rw[Ax.mp z];exact hp.len
  ·rcases Bq.mp hf with z | z
   ·exact(h.fold f z).mono hs
   ·rw[Ax.mp z]
    exact .inr ⟨_,List.mem_append_right _ (Ax.mpr rfl)⟩
  ·obtain⟨q,hq⟩:=h.home j y e
   exact⟨q,hs _ hq⟩
 ·split
  ·unfold h23
   rcases i04 (b:=b) h.pr h.org with⟨e1,e2⟩ | ⟨x,hx,e1,e2,e3⟩
   ·by_cases h0:0<=(a68 b g.pairs).1
    ·have hs:∀ q∈g.rows,q∈g.rows++[(p,Ent.fil (a68 b g.pairs).1)]:=fun q hq=>List.mem_append_left _ hq
     show GrS ⟨if 0<=(a68 b g.pairs).1 then g.rows++[(p,Ent.fil (a68 b g.pairs).1)] else g.rows,(a68 b g.pairs).2.2,g.folds⟩
     rw[if_pos h0,e1]
     refine⟨h.R.add hn ⟨hne,hp,h0,e2⟩ hpar,fun r hr=>?_,fun f hf=>(h.fold f hf).mono hs,h.pr,h.org,fun j y e=>?_⟩
     ·rcases Bq.mp hr with z | z
      ·exact h.len r z
      ·rw[Ax.mp z];exact hp.len
     ·obtain⟨q,hq⟩:=h.home j y e
      exact⟨q,hs _ hq⟩
    ·show GrS ⟨if 0<=(a68 b g.pairs).1 then g.rows++[(p,Ent.fil (a68 b g.pairs).1)] else g.rows,(a68 b g.pairs).2.2,g.folds⟩
     rw[if_neg h0,e1]
     exact h
   ·have hs:∀ q∈g.rows,q∈g.rows++[(p,Ent.fil (g.pairs.length:Int))]:=fun q hq=>List.mem_append_left _ hq
    show GrS ⟨if 0<=(a68 b g.pairs).1 then g.rows++[(p,Ent.fil (a68 b g.pairs).1)] else g.rows,(a68 b g.pairs).2.2,g.folds⟩
    rw[e2,if_pos (by omega),e1]
    have hl:(g.pairs++[x]).length=g.pairs.length+1:=by rw[Bj];rfl
    refine⟨RowsS.add (h.R.mono (by show _<=(g.pairs++[x]).length;omega)) hn ⟨hne,hp,by omega,by show(g.pairs.length:Int) < ((g.pairs++[x]).length:Int);omega⟩ hpar,fun r hr=>?_,fun f hf=>(h.fold f hf).mono hs,fun q hq=>?_,e86 h.org e3,fun j y e=>?_⟩
    ·rcases Bq.mp hr with z | z
     ·exact h.len r z
     ·rw[Ax.mp z];exact hp.len
    ·rcases Bq.mp hq with z | z
     ·exact h.pr q z
     ·rw[Ax.mp z];exact hx
    ·have e':(g.pairs++[x])[j]?=some (none,y):=e
     rcases Nat.lt_or_ge j g.pairs.length with z | z
     ·rw[List.getElem?_append_left z] at e'
      obtain⟨q,hq⟩:=h.home j y e'
      exact⟨q,hs _ hq⟩
     ·have hj:=(Ex.mp e').1
      have:j=g.pairs.length:=by omega
      subst this
      exact⟨p,List.mem_append_right _ (Ax.mpr rfl)⟩
  ·have hs:∀ q∈g.rows,q∈g.rows++[(p,Ent.gone)]:=fun q hq=>List.mem_append_left _ hq
   refine⟨h.R.add hn ⟨hne,FQ hp.len (by decide),hp.nm⟩ hpar,fun r hr=>?_,fun f hf=>(h.fold f hf).mono hs,h.pr,h.org,fun j y e=>?_⟩
   ·rcases Bq.mp hr with z | z
    ·exact h.len r z
    ·rw[Ax.mp z];exact hp.len
   ·obtain⟨q,hq⟩:=h.home j y e
    exact⟨q,hs _ hq⟩
theorem j10 {b:Bx}{way:Int}{g:Gr}(h:GrS g):GrS (e88 way b g).2:=by
 unfold e88
 split
 ·split
  ·exact h
  ·rename_i hc
   have hl:(g.pairs++[(some (a74 b).1,[none,some (a69 (a74 b).2).1].getD (a05 (a69 (a74 b).2).2 2).1.toNat none)]).length=g.pairs.length+1:=by rw[Bj];rfl
   refine⟨h.R.mono (by show _<=(g.pairs++[_]).length;omega),h.len,h.fold,fun q hq=>?_,e86 h.org fun p hp e=>?_,fun j y e=>?_⟩
   ·rcases Bq.mp hq with z | z
    ·exact h.pr q z
    ·rw[Ax.mp z]
     refine⟨fun zs e=>by cases e;exact g25 _,?_,fun e=>nomatch e⟩
     exact j03 (fun o:Option Str=>∀ z,o=some z->z.length<=200/\∀ c∈z.cps.toList,h81 c) (a41 _ (by decide)) (a40 _ (by decide)) (fun _ e=>nomatch e) (fun z e=>by cases e;exact⟨b30 _,d32 _⟩)
   ·exact absurd (Ez.mpr ⟨p,hp,e⟩) hc
   ·have e':(g.pairs++[(some (a74 b).1,[none,some (a69 (a74 b).2).1].getD (a05 (a69 (a74 b).2).2 2).1.toNat none)])[j]?=some (none,y):=e
    rcases Nat.lt_or_ge j g.pairs.length with z | z
    ·rw[List.getElem?_append_left z] at e'
     exact h.home j y e'
    ·have hj:=(Ex.mp e').1
     have:j=g.pairs.length:=by omega
     subst this
     rw[List.getElem?_append_right (AZ _),Nat.sub_self] at e'
     cases e'
 ·exact h
theorem i17 {b:Bx}{g:Gr}{n:Nat}(ok:GrOk g n)(h:GrS g):GrS (c53 b g).2:=by
 unfold c53
 split
 ·exact h
 ·rename_i hc
  have h8:(a52 b g).length<=8:=Nat.not_lt.mp fun q=>hc (.inr (.inl q))
  have hn:a52 b g∉g.rows.map (·.1):=i36 fun q=>hc (.inl q)
  have hm:g.folds.getD (a05 b g.folds.length).1.toNat []∈g.folds:=by
   have h0:=ok.f0
   have lo:=a41 b (m:=(g.folds.length:Int)) (by omega)
   have hi:=a40 b (m:=(g.folds.length:Int)) (by omega)
   have hlt:(a05 b g.folds.length).1.toNat < g.folds.length:=by omega
   rw[List.getD_eq_getElem?_getD,Bz hlt]
   exact List.getElem_mem _
  have hf:=h.fold _ hm
  have hnm:∀ z∈g.folds.getD (a05 b g.folds.length).1.toNat [],Nm z:=by
   rcases hf with e | ⟨o,ho⟩
   ·rw[e];exact fun _ q=>nomatch q
   ·exact(h.R.ent _ ho).2.1.nm
  refine j10 (i77 h hn (by unfold a52;simp) ⟨h8,fun z hz=>?_⟩ ?_)
  ·unfold a52 at hz
   rcases Bq.mp hz with q | q
   ·exact hnm z q
   ·rw[Ax.mp q]
    exact d70 _
  ·unfold a52
   rw[List.dropLast_concat]
   exact hf
theorem g10 {b:Bx}{g:Gr}{n k:Nat}(hb:Good b n)(hg:GrOk g k)(h:GrS g):∀ i,GrS (d30 i b g).2
 | 0=>h
 | i+1=>i17 (c68 hb hg i).2 (g10 hb hg h i)
theorem e84 (ns:List Int):∀ k,GrS (b86 ns k)
 | 0=>⟨⟨List.nodup_nil,(fun _ h=>nomatch h),(fun _ h=>nomatch h)⟩,(fun _ h=>nomatch h),(fun f h=>.inl (Ax.mp h)),(fun _ h=>nomatch h),.nil,(fun j y e=>by cases e)⟩
 | k+1=>g10 (a28 (b31 ns k) (m:=3) (by decide)) (c08 ns k) (e84 ns k) _
theorem g44 {rows:List (List Str×Ent)}:∀ {p:List Str}{e:Ent},(rows.map (·.1)).Nodup->(p,e)∈rows->b17 rows p=some e:=by
 induction rows with
 | nil=>intro p e _ h;cases h
 | cons r rs ih =>
  intro p e hn h
  rw[CJ,List.nodup_cons] at hn
  unfold b17
  rw[List.find?_cons]
  by_cases q:r.1=p
  ·rw[Az q]
   rcases Cj.mp h with z | z
   ·rw[← z];rfl
   ·exact absurd (Ez.mpr ⟨(p,e),z,rfl⟩) (by rw[← q];exact hn.1)
  ·rw[Fz q]
   rcases Cj.mp h with z | z
   ·rw[← z] at q;exact absurd rfl q
   ·exact ih hn.2 z
theorem f90 {rows:List (List Str×Ent)}{p:List Str}(h:b17 rows p=none):p∉rows.map (·.1):=fun q=>by
 obtain⟨r,hr,e⟩:=Ez.mp q
 unfold b17 at h
 rw[Option.map_eq_none_iff,List.find?_eq_none] at h
 exact h r hr (Az e)
theorem e68 (name:Str) (k:Nat):(rep name (k+1)).dropLast=rep name k:=by
 rw[d47,List.dropLast_concat]
theorem j14 {name:Str}(h:Nm name){k n:Nat}(hk:k<=n):PthG (rep name k) n:=⟨by unfold rep;rw[List.length_replicate];exact hk,fun z hz=>by rw[List.eq_of_mem_replicate hz];exact h⟩
theorem g69 {rows:List (List Str×Ent)}{name:Str}{np:Nat}(hn:Nm name)(h:RowsS rows np)(hl:∀ r∈rows,r.1.length<=8):∀ k,k<=8->RowsS (a63 rows name k).1 np/\(∀ r∈(a63 rows name k).1,r.1.length<=8)/\(∀ r∈rows,r∈(a63 rows name k).1)/\((a63 rows name k).2=true->Par (a63 rows name k).1 (rep name k))
 | 0,_=>⟨h,hl,(fun _ q=>q),fun _=>.inl rfl⟩
 | k+1,hk=>by
  obtain⟨h1,h2,h3,h4⟩:=g69 hn h hl k (by omega)
  cases q:(a63 rows name k).2 with
  | false =>
   have e:=c39 q 1
   rw[e]
   exact⟨h1,h2,h3,fun z=>by rw[q] at z;cases z⟩
  | true =>
   cases z:b17 (a63 rows name k).1 (rep name (k+1)) with
   | some e =>
    rw[c46 q z]
    refine⟨h1,h2,h3,fun d=>?_⟩
    cases e with
    | dir o=>exact .inr ⟨o,e82 z⟩
    | fil i=>cases d
    | gone=>cases d
   | none =>
    rw[d13 q z]
    refine⟨h1.add (f90 z) ⟨e81 _ _,j14 hn hk,(fun _ e=>nomatch e)⟩ (by rw[e68];exact h4 q),fun r hr=>?_,fun r hr=>List.mem_append_left _ (h3 r hr),fun _=>.inr ⟨none,List.mem_append_right _ (Ax.mpr rfl)⟩⟩
    rcases Bq.mp hr with y | y
    ·exact h2 r y
    ·rw[Ax.mp y]
     show(rep name (k+1)).length<=8
     unfold rep
     rw[List.length_replicate]
     exact hk
theorem h93 {rows:List (List Str×Ent)}{name:Str}{np:Nat}(hn:Nm name)(h:RowsS rows np)(hl:∀ r∈rows,r.1.length<=8):RowsS (c54 rows name) np/\∀ r∈rows,r∈c54 rows name:=by
 obtain⟨h1,h2,h3,h4⟩:=g69 hn h hl 8 (AZ _)
 unfold c54
 split
 ·rename_i q
  have h9:(rep name 9).length=9:=by unfold rep;rw[List.length_replicate]
  have hno:rep name 9∉(a63 rows name 8).1.map (·.1):=fun z=>by
   obtain⟨r,hr,e⟩:=Ez.mp z
   have:=h2 r hr
   rw[show r.1=rep name 9 from e,h9] at this
   omega
  have hany:¬((a63 rows name 8).1.any fun r=>decide (r.1=rep name 9))=true:=fun z=>by
   obtain⟨r,hr,e⟩:=List.any_eq_true.mp z
   exact hno (Ez.mpr ⟨r,hr,AJ e⟩)
  unfold i60
  rw[if_neg hany]
  exact⟨h1.add hno ⟨e81 _ _,j14 hn (AZ _)⟩ (by rw[e68];exact h4 q),fun r hr=>List.mem_append_left _ (h3 r hr)⟩
 ·exact⟨h1,h3⟩
theorem g78 (l:List (List Str)):(d71 l).Pairwise fun x y=>Srt.lexB y x=false:=by
 unfold d71
 have tr:∀ a b c:List Str,(!Srt.lexB b a)=true->(!Srt.lexB c b)=true->(!Srt.lexB c a)=true:=by
  intro a b c h1 h2
  have h1':Srt.pathOrd.kle a b:=show Srt.lexB b a=false by simpa using h1
  have h2':Srt.pathOrd.kle b c:=show Srt.lexB c b=false by simpa using h2
  have:=PyProof.Rows.KeyOrd.kle_trans h1' h2'
  have h3:Srt.lexB c a=false:=this
  rw[h3]
  rfl
 have to:∀ a b:List Str,((!Srt.lexB b a)||(!Srt.lexB a b))=true:=by
  intro a b
  cases q:Srt.lexB b a with
  | false=>rfl
  | true =>
   cases q2:Srt.lexB a b with
   | false=>rfl
   | true=>exact(c81 q q2).elim
 exact(List.pairwise_mergeSort (le:=fun x y=>!Srt.lexB y x) tr to l).imp fun h=>by simpa using h
theorem e14 {l:List (List Str)}(h:l.Nodup):(d71 l).Pairwise fun x y=>Srt.lexB x y=true:=by
 have hn:(d71 l).Nodup:=(List.mergeSort_perm l _).nodup_iff.mpr h
 have:=(g78 l).and hn
 refine this.imp fun {a b} ⟨h1,h2⟩=>?_
 cases q:Srt.lexB a b with
 | true=>rfl
 | false=>exact absurd (Srt.lexB_total q h1) h2
theorem g17 {α:Type} (xs:List α) (k:Nat)(h:k<=xs.length):f61 xs (some (k:Int)) none=xs.drop k:=by
 unfold f61
 rw[HT.sIx_none,HT.sIx_nat,Nat.min_eq_left h,DQ (by rw[EQ];exact AZ _)]
theorem i19 {α:Type} (xs:List α) (k:Nat)(h:k<=xs.length):f61 xs none (some (k:Int))=xs.take k:=by
 unfold f61
 rw[HT.sIx_none,HT.sIx_nat,Nat.min_eq_left h,List.drop_zero,Nat.sub_zero]
theorem layG {ns:List Int}(hlen:ns.length<=63):LayG (a89 ns):=by
 have G:GrS (a79 ns):=e84 ns _
 have ok:=e52 hlen
 have r2:=e89 hlen
 obtain⟨R,sub⟩:RowsS (a86 ns) (a79 ns).pairs.length/\∀ r∈(a79 ns).rows,r∈a86 ns:=by
  unfold a86
  split
  ·exact h93 (d70 _) G.R G.len
  ·exact⟨G.R,fun _ h=>h⟩
 have lo:=a41 (f34 ns) (m:=1+((a79 ns).pairs.length:Int)) (by omega)
 have hi:=a40 (f34 ns) (m:=1+((a79 ns).pairs.length:Int)) (by omega)
 obtain⟨t,ht⟩:∃ t:Nat,(a80 ns).1=(t:Int):=Int.eq_ofNat_of_zero_le lo
 have htl:t<=(a79 ns).pairs.length:=by
  have:(a80 ns).1 < 1+((a79 ns).pairs.length:Int):=hi
  omega
 have hpl:=ok.pl
 have eP:(a89 ns).pairs=(a79 ns).pairs.drop ((a79 ns).pairs.length-t)++(a79 ns).pairs.take ((a79 ns).pairs.length-t):=by
  show f61 _ (some (((a79 ns).pairs.length:Int)-(a80 ns).1)) none++f61 _ none (some (((a79 ns).pairs.length:Int)-(a80 ns).1))=_
  have e:((a79 ns).pairs.length:Int)-(a80 ns).1=(((a79 ns).pairs.length-t:Nat):Int):=by rw[ht];omega
  rw[e,g17 _ _ (by omega),i19 _ _ (by omega)]
 have eE:(a89 ns).ents=(d71 ((a86 ns).map (·.1))).map (h41 (a86 ns) (a79 ns).pairs.length (t:Int)):=by rw[← ht];rfl
 have lP:(a89 ns).pairs.length=(a79 ns).pairs.length:=by rw[eP,Bj,EQ,CZ];omega
 have mE:∀ x,x∈(a89 ns).ents↔∃ e,(x.1,e)∈a86 ns/\x.2=d29 (a79 ns).pairs.length (t:Int) e:=fun x=>by
  rw[eE,Ez]
  constructor
  ·rintro⟨p,hp,rfl⟩
   have hp2:p∈(a86 ns).map (·.1):=(List.mergeSort_perm _ _).mem_iff.mp hp
   obtain⟨r,hr,rfl⟩:=Ez.mp hp2
   refine⟨r.2,hr,?_⟩
   show d29 _ _ ((b17 (a86 ns) r.1).getD .gone)=_
   rw[g44 R.keys (show(r.1,r.2)∈a86 ns from hr)]
   rfl
  ·rintro⟨e,he,hx⟩
   refine⟨x.1,(List.mergeSort_perm _ _).mem_iff.mpr (Ez.mpr ⟨_,he,rfl⟩),?_⟩
   show(x.1,d29 _ _ ((b17 (a86 ns) x.1).getD .gone))=x
   rw[g44 R.keys he]
   exact Prod.ext rfl hx.symm
 have modB:∀ i:Int,0<=i->i < ((a79 ns).pairs.length:Int)->0<=(i+(t:Int)) % ((a79 ns).pairs.length:Int)/\(i+(t:Int)) % ((a79 ns).pairs.length:Int) < ((a79 ns).pairs.length:Int):=fun i h0 h1=>⟨EZ _ (by omega),Fj _ (by omega)⟩
 refine⟨?_,by rw[lP];exact hpl,fun x hx=>?_,fun x hx=>?_,?_,fun x hx=>?_,?_,fun j y hj=>?_,fun p i hp=>?_⟩
 ·rw[eE,Aj]
  unfold d71
  rw[(List.mergeSort_perm _ _).length_eq,Aj]
  exact r2.2
 ·obtain⟨e,he,hx2⟩:=(mE x).mp hx
  have rg:=R.ent _ he
  obtain⟨p,e'⟩:=x
  refine⟨?_,rg.1⟩
  cases e with
  | gone =>
   cases (show e'=Ent.gone from hx2)
   exact rg.2
  | dir o =>
   cases (show e'=Ent.dir o from hx2)
   exact rg.2
  | fil i =>
   cases (show e'=Ent.fil ((i+(t:Int)) % ((a79 ns).pairs.length:Int)) from hx2)
   have:=modB i rg.2.2.1 rg.2.2.2
   exact⟨rg.2.1,this.1,by omega⟩
 ·rw[eP] at hx
  rcases Bq.mp hx with q | q
  ·exact G.pr x (List.mem_of_mem_drop q)
  ·exact G.pr x (List.mem_of_mem_take q)
 ·rw[eE,List.pairwise_map]
  exact e14 R.keys
 ·obtain⟨e,he,_⟩:=(mE x).mp hx
  rcases R.par _ he with h | ⟨o,h⟩
  ·exact .inl h
  ·exact .inr ⟨o,(mE _).mpr ⟨_,h,rfl⟩⟩
 ·rw[eP]
  have sy:∀ {a b:Pr},i03 a b->i03 b a:=fun {a b} h e=>by
   have:=h e.symm
   rw[e] at this
   exact e ▸ this
  refine(List.Perm.pairwise_iff (fun {a b} h=>sy h) List.perm_append_comm).mp ?_
  rw[List.take_append_drop]
  exact G.org
 ·rw[eP] at hj
  have hjl:=(Ex.mp hj).1
  rw[Bj,EQ,CZ] at hjl
  by_cases q:j < t
  ·rw[List.getElem?_append_left (by rw[EQ];omega),List.getElem?_drop] at hj
   obtain⟨p,hp⟩:=G.home _ y hj
   refine⟨p,(mE _).mpr ⟨_,sub _ hp,?_⟩⟩
   show Ent.fil (j:Int)=Ent.fil (((((a79 ns).pairs.length-t+j:Nat):Int)+(t:Int)) % ((a79 ns).pairs.length:Int))
   have e:((((a79 ns).pairs.length-t+j:Nat):Int)+(t:Int))=(j:Int)+((a79 ns).pairs.length:Int):=by omega
   rw[e,Int.add_emod_right,Int.emod_eq_of_lt (by omega) (by omega)]
  ·rw[List.getElem?_append_right (by rw[EQ];omega),EQ,List.getElem?_take_of_lt (by omega)] at hj
   obtain⟨p,hp⟩:=G.home _ y hj
   refine⟨p,(mE _).mpr ⟨_,sub _ hp,?_⟩⟩
   show Ent.fil (j:Int)=Ent.fil ((((j-((a79 ns).pairs.length-((a79 ns).pairs.length-t)):Nat):Int)+(t:Int)) % ((a79 ns).pairs.length:Int))
   have e:(((j-((a79 ns).pairs.length-((a79 ns).pairs.length-t)):Nat):Int)+(t:Int))=(j:Int):=by omega
   rw[e,Int.emod_eq_of_lt (by omega) (by omega)]
 ·obtain⟨e,he,hx2⟩:=(mE _).mp hp
  have rg:=R.ent _ he
  cases e with
  | gone=>cases hx2
  | dir o=>cases hx2
  | fil i0 =>
   have e2:i=(i0+(t:Int)) % ((a79 ns).pairs.length:Int):=by injection hx2
   rw[lP,e2]
   exact(modB i0 rg.2.2.1 rg.2.2.2).2
theorem b15 {p q:List Str}{n m:Nat}(hp:PthG p n)(hq:PthG q m)(hn:n<=9)(hm:m<=9)(e:a34 p=a34 q):p=q:=by
 have h1:=a88 (m:=9) (by have:=hp.len;omega) hp.nm
 have h2:=a88 (m:=9) (by have:=hq.len;omega) hq.nm
 rw[e,h2] at h1
 injection h1 with h1
 exact h1.symm
theorem i12 {i j:Int}(hi:0<=i/\i < 200)(hj:0<=j/\j < 200)(e:((toString i:String):Str)=((toString j:String):Str)):i=j:=by
 have h1:=PySem.W.KIN.num_reads (n:=i) (by omega) (by omega)
 have h2:=PySem.W.KIN.num_reads (n:=j) (by omega) (by omega)
 have h1':intText? ((toString i:String):Str)=some i:=h1
 have h2':intText? ((toString j:String):Str)=some j:=h2
 rw[e,h2'] at h1'
 injection h1' with h
 exact h.symm
theorem i28 {x y:List Str×Ent}(hx:EntG x)(hy:EntG y)(e:b83 x=b83 y):x=y:=by
 have es:b87 x=b87 y:=by rw[← d01 hx,← d01 hy,e]
 have gf:("gone" : Str) ≠ "file" := by decide +kernel
 have gd:("gone" : Str) ≠ "folder" := by decide +kernel
 have fd:("file" : Str) ≠ "folder" := by decide +kernel
 obtain⟨p,a⟩:=x
 obtain⟨q,b⟩:=y
 have hd:∀ {u v:Str}{r s:List Str},u::r=v::s->u=v/\r=s:=fun h=>List.cons.inj h
 cases a with
 | gone =>
  cases b with
  | gone =>
   obtain⟨_,e2⟩:=hd (show("gone" : Str)::[a34 p]=("gone" : Str)::[a34 q] from es)
   rw[show p=q from b15 (n:=9) (m:=9) hx hy (by decide) (by decide) (hd e2).1]
  | fil i=>exact absurd (hd (show("gone" : Str)::[a34 p]=("file" : Str)::_ from es)).1 gf
  | dir o=>cases o with
   | none=>exact absurd (hd (show("gone" : Str)::[a34 p]=("folder" : Str)::_ from es)).1 gd
   | some c=>exact absurd (hd (show("gone" : Str)::[a34 p]=("folder" : Str)::_ from es)).1 gd
 | fil i =>
  cases b with
  | gone=>exact absurd (hd (show("file" : Str)::_=("gone" : Str)::[a34 q] from es)).1 gf.symm
  | fil j =>
   obtain⟨_,e2⟩:=hd (show("file" : Str)::a34 p::[((toString i:String):Str)]=("file" : Str)::a34 q::[((toString j:String):Str)] from es)
   rw[show p=q from b15 (n:=8) (m:=8) hx.1 hy.1 (by decide) (by decide) (hd e2).1,i12 hx.2 hy.2 (hd (hd e2).2).1]
  | dir o=>cases o with
   | none=>exact absurd (hd (show("file" : Str)::_=("folder" : Str)::_ from es)).1 fd
   | some c=>exact absurd (hd (show("file" : Str)::_=("folder" : Str)::_ from es)).1 fd
 | dir o =>
  cases b with
  | gone=>cases o with
   | none=>exact absurd (hd (show("folder" : Str)::_=("gone" : Str)::[a34 q] from es)).1 gd.symm
   | some c=>exact absurd (hd (show("folder" : Str)::_=("gone" : Str)::[a34 q] from es)).1 gd.symm
  | fil j=>cases o with
   | none=>exact absurd (hd (show("folder" : Str)::_=("file" : Str)::_ from es)).1 fd.symm
   | some c=>exact absurd (hd (show("folder" : Str)::_=("file" : Str)::_ from es)).1 fd.symm
  | dir o' =>
   cases o with
   | none =>
    cases o' with
    | none =>
     obtain⟨_,e2⟩:=hd (show("folder" : Str)::a34 p::["alone"]=("folder" : Str)::a34 q::["alone"] from es)
     rw[show p=q from b15 (n:=8) (m:=8) hx.1 hy.1 (by decide) (by decide) (hd e2).1]
    | some c=>exact absurd (congrArg List.length (show [("folder" : Str),a34 p, "alone"]=[("folder" : Str),a34 q, "over", a34 c] from es)) (by simp)
   | some c' =>
    cases o' with
    | none=>exact absurd (congrArg List.length (show [("folder" : Str),a34 p, "over", a34 c']=[("folder" : Str),a34 q, "alone"] from es)) (by simp)
    | some c =>
     obtain⟨_,e2⟩:=hd (show("folder" : Str)::a34 p::("over" : Str)::[a34 c']=("folder" : Str)::a34 q::("over" : Str)::[a34 c] from es)
     rw[show p=q from b15 (n:=8) (m:=8) hx.1 hy.1 (by decide) (by decide) (hd e2).1,b15 (n:=8) (m:=8) (hx.2 c' rfl) (hy.2 c rfl) (by decide) (by decide) (hd (hd (hd e2).2).2).1]
theorem d08 {a b c:Str}(e:a++b=a++c):b=c:=Srt.str_ext (by
 have h:=congrArg (fun s:Str=>s.cps.toList) e
 rw[Str.cps_append,Str.cps_append,Array.toList_append,Array.toList_append] at h
 exact List.append_cancel_left h)
theorem j05:BE≠Str.empty:=by decide +kernel
theorem i75 {x y:Pr}(hx:PrG x)(hy:PrG y)(e:prP x=prP y):x=y:=by
 have dd:∀ a b,DE++a≠DO++b:=fun a b h=>by
  have h1:=h60 b
  rw[← h,c48] at h1
  cases h1
 obtain⟨o,t⟩:=x
 obtain⟨o',t'⟩:=y
 cases o with
 | none =>
  cases t with
  | none=>exact absurd rfl (hx.nn rfl)
  | some z =>
   rw[b40] at e
   cases o' with
   | none =>
    cases t' with
    | none=>exact absurd rfl (hy.nn rfl)
    | some z'=>rw[b40] at e;rw[d08 e]
   | some ws =>
    cases t' with
    | none=>rw[b03] at e;exact absurd e (dd _ _)
    | some z'=>rw[b04] at e;exact absurd e (dd _ _)
 | some zs =>
  have gz:=(hx.org zs rfl).2
  have sz:=b48 gz.nm
  cases t with
  | none =>
   rw[b03] at e
   cases o' with
   | none =>
    cases t' with
    | none=>exact absurd rfl (hy.nn rfl)
    | some z'=>rw[b40] at e;exact absurd e.symm (dd _ _)
   | some ws =>
    have gw:=(hy.org ws rfl).2
    have sw:=b48 gw.nm
    cases t' with
    | none=>rw[b03] at e;rw[b15 gz gw (by decide) (by decide) (d08 e)]
    | some z' =>
     rw[b04] at e
     have h:=congrArg (fun s=>Txt.partition s BE) (d08 e)
     rw[e41 sz,c93 sw] at h
     exact absurd (congrArg (fun q=>q.2.1) h).symm j05
  | some z =>
   rw[b04] at e
   cases o' with
   | none =>
    cases t' with
    | none=>exact absurd rfl (hy.nn rfl)
    | some z'=>rw[b40] at e;exact absurd e.symm (dd _ _)
   | some ws =>
    have gw:=(hy.org ws rfl).2
    have sw:=b48 gw.nm
    cases t' with
    | none =>
     rw[b03] at e
     have h:=congrArg (fun s=>Txt.partition s BE) (d08 e)
     rw[e41 sw,c93 sz] at h
     exact absurd (congrArg (fun q=>q.2.1) h) j05
    | some z' =>
     rw[b04] at e
     have h:=congrArg (fun s=>Txt.partition s BE) (d08 e)
     rw[c93 sz,c93 sw] at h
     have h1:=congrArg (fun q=>q.1) h
     have h2:=congrArg (fun q=>q.2.2) h
     rw[b15 gz gw (by decide) (by decide) h1,show z=z' from h2]
theorem i52 {x:Pr}(hx:PrG x):(prP x).cps.toList[0]?=some 100:=by
 have hd:∀(a b:Str) (r:List Nat),a.cps.toList=100::r->(a++b).cps.toList[0]?=some 100:=fun a b r h=>by
  rw[Str.cps_append,Array.toList_append,h]
  rfl
 obtain⟨o,t⟩:=x
 cases o with
 | none =>
  cases t with
  | none=>exact absurd rfl (hx.nn rfl)
  | some z=>rw[b40];exact hd _ _ _ c69
 | some zs =>
  cases t with
  | none=>rw[b03];exact hd _ _ _ c02
  | some z=>rw[b04];exact hd _ _ _ c02
theorem h71 {x:List Str×Ent}{y:Pr}(hy:PrG y)(e:b83 x=prP y):False:=by
 obtain⟨c,hc,hn⟩:=d46 x
 rw[e,i52 hy] at hc
 injection hc with hc
 exact hn hc.symm
theorem d54:∀ {es es':List (List Str×Ent)}{ps ps':List Pr},(∀ x∈es,EntG x)->(∀ x∈es',EntG x)->(∀ x∈ps,PrG x)->(∀ x∈ps',PrG x)->es.map b83++ps.map prP=es'.map b83++ps'.map prP->es=es'/\ps=ps'
 | [],[],[],[],_,_,_,_,_=>⟨rfl,rfl⟩
 | [],[],[],_::_,_,_,_,_,e=>by cases e
 | [],[],_::_,[],_,_,_,_,e=>by cases e
 | [],[],x::ps,y::ps',h1,h2,h3,h4,e=>by
  obtain⟨e1,e2⟩:=List.cons.inj (show prP x::ps.map prP=prP y::ps'.map prP from e)
  have hx:=i75 (h3 x BZ) (h4 y BZ) e1
  obtain⟨_,hr⟩:=d54 (es:=[]) (es':=[]) (ps:=ps) (ps':=ps') h1 h2 (fun z hz=>h3 z (BX _ hz)) (fun z hz=>h4 z (BX _ hz)) e2
  rw[hx,hr]
  exact⟨rfl,rfl⟩
 | [],_::_,[],_,_,_,_,_,e=>by cases e
 | [],y::es',x::ps,ps',h1,h2,h3,h4,e=>by
  obtain⟨e1,_⟩:=List.cons.inj (show prP x::ps.map prP=b83 y::(es'.map b83++ps'.map prP) from e)
  exact(h71 (h3 x BZ) e1.symm).elim
 | _::_,[],_,[],_,_,_,_,e=>by cases e
 | x::es,[],ps,y::ps',h1,h2,h3,h4,e=>by
  obtain⟨e1,_⟩:=List.cons.inj (show b83 x::(es.map b83++ps.map prP)=prP y::ps'.map prP from e)
  exact(h71 (h4 y BZ) e1).elim
 | x::es,y::es',ps,ps',h1,h2,h3,h4,e=>by
  obtain⟨e1,e2⟩:=List.cons.inj (show b83 x::(es.map b83++ps.map prP)=b83 y::(es'.map b83++ps'.map prP) from e)
  have hx:=i28 (h1 x BZ) (h2 y BZ) e1
  obtain⟨hr,hs⟩:=d54 (fun z hz=>h1 z (BX _ hz)) (fun z hz=>h2 z (BX _ hz)) h3 h4 e2
  rw[hx,hr,hs]
  exact⟨rfl,rfl⟩
def ltx (L:Lay):Str:=Txt.join "\n" (a49 L)
theorem h24 {L L':Lay}(g:LayG L)(g':LayG L'):ltx L=ltx L'↔L=L':=by
 constructor
 ·intro e
  have er:a49 L=a49 L':=by
   by_cases h:a49 L=[]
   ·have h':=(b11 g).mpr h
    have e':Txt.join "\n" (a49 L') = "" := by rw[← h'];exact e.symm
    rw[h,(b11 g').mp e']
   ·have h':a49 L'≠[]:=fun q=>h ((b11 g).mp (e.trans ((b11 g').mpr q)))
    rw[← b78 g h,← b78 g' h',show Txt.join "\n" (a49 L)=Txt.join "\n" (a49 L') from e]
  obtain⟨h1,h2⟩:=d54 (fun x hx=>(g.eg x hx).1) (fun x hx=>(g'.eg x hx).1) g.pg g'.pg er
  obtain⟨a,b⟩:=L
  obtain⟨c,d⟩:=L'
  cases h1
  cases h2
  rfl
 ·intro e
  rw[e]
theorem d59 {α:Type}{H:Hp}{D:V->V->Prop->Prop}{R S:V->α->Prop}{t t':Addr}{xs ys:List V}{as bs:List α}(ht:H t=some (.tup xs))(ht':H t'=some (.tup ys))(h1:Paired R xs as)(h2:Paired S ys bs)
 (hD:∀ x a y b,R x a->S y b->D x y (a=b)):TEq H D (.ref t) (.ref t') (as=bs):=by
 have l1:xs.length=as.length:=Paired.length h1
 have l2:ys.length=bs.length:=Paired.length h2
 refine⟨t,t',xs,ys,fun j=>as[j]?=bs[j]?,rfl,rfl,ht,ht',fun j x y hx hy=>?_,?_⟩
 ·obtain⟨a,ha,r⟩:=a64 h1 hx
  obtain⟨b,hb,s⟩:=a64 h2 hy
  have:=hD x a y b r s
  show D x y (as[j]?=bs[j]?)
  rw[show(as[j]?=bs[j]?)=(a=b) by rw[ha,hb];exact propext ⟨EJ,congrArg some⟩]
  exact this
 ·constructor
  ·intro e
   subst e
   exact⟨by omega,fun _ _=>rfl⟩
  ·rintro⟨e,h⟩
   apply List.ext_getElem?
   intro j
   by_cases q:j < xs.length
   ·exact h j q
   ·rw[List.getElem?_eq_none (by omega),List.getElem?_eq_none (by omega)]
theorem b98:∀ zs:List Str,Paired (fun(v:V) (z:Str)=>v=.str z) (zs.map V.str) zs
 | []=>.nil
 | z::r=>.cons rfl (b98 r)
theorem e83 {H:Hp}{n:Nat}{a b:Addr}{p q:List Str}(ha:H a=some (.tup (p.map V.str)))(hb:H b=some (.tup (q.map V.str))):DEq H (n+1) (.ref a) (.ref b) (p=q) :=
 .inr (.inl (d59 ha hb (b98 p) (b98 q) fun x u y v r s=>by
  have:AEq x y (u=v):=.inr (.inl ⟨u,v,r,s,Iff.rfl⟩)
  cases n with
  | zero=>exact this
  | succ n=>exact .inl this))
theorem f81 {H:Hp}{n:Nat}{v u:V}{o o':Option (List Str)}(h:OptP H v o)(h':OptP H u o'):DEq H (n+1) v u (o=o'):=by
 cases o with
 | none =>
  cases (show v=.non from h)
  cases o' with
  | none =>
   cases (show u=.non from h')
   exact .inl (.inl ⟨rfl,rfl,rfl⟩)
  | some ws =>
   obtain⟨b,rfl,hb⟩:=h'
   exact .inr (.inr (.inl ⟨.inl rfl,⟨b,_,rfl,hb⟩,fun q=>nomatch q⟩))
 | some zs =>
  obtain⟨a,rfl,ha⟩:=h
  cases o' with
  | none =>
   cases (show u=.non from h')
   exact .inr (.inr (.inr ⟨⟨a,_,rfl,ha⟩,.inl rfl,fun q=>nomatch q⟩))
  | some ws =>
   obtain⟨b,rfl,hb⟩:=h'
   rw[show(some zs=some ws)=(zs=ws) from propext ⟨EJ,congrArg some⟩]
   exact e83 ha hb
theorem i44 {H:Hp}{n:Nat}{v u:V}{o o':Option Str}(h:g82 v o)(h':g82 u o'):DEq H (n+1) v u (o=o'):=by
 cases o with
 | none =>
  cases (show v=.non from h)
  cases o' with
  | none =>
   cases (show u=.non from h')
   exact .inl (.inl ⟨rfl,rfl,rfl⟩)
  | some w =>
   cases (show u=.str w from h')
   exact .inl (.inr (.inr (.inr (.inl ⟨rfl,⟨w,rfl⟩,fun q=>nomatch q⟩))))
 | some z =>
  cases (show v=.str z from h)
  cases o' with
  | none =>
   cases (show u=.non from h')
   exact .inl (.inr (.inr (.inr (.inr (.inl ⟨⟨z,rfl⟩,rfl,fun q=>nomatch q⟩)))))
  | some w =>
   cases (show u=.str w from h')
   exact .inl (.inr (.inl ⟨z,w,rfl,rfl,⟨EJ,congrArg some⟩⟩))
theorem g99 {H:Hp}{v u:V}{x y:Pr}(h:PairV H v x)(h':PairV H u y):DEq H 2 v u (x=y):=by
 obtain⟨t,w,z,rfl,o1,o2,o3⟩:=h
 obtain⟨t',w',z',rfl,p1,p2,p3⟩:=h'
 refine .inr (.inl ⟨t,t',_,_,fun j=>if j=0 then x.1=y.1 else x.2=y.2,rfl,rfl,o3,p3,fun j a b ha hb=>?_,?_⟩)
 ·match j,ha,hb with
  | 0,ha,hb =>
   cases ha
   cases hb
   show DEq H _ _ _ (if _ then _ else _)
   rw[if_pos rfl]
   exact f81 o1 p1
  | 1,ha,hb =>
   cases ha
   cases hb
   show DEq H _ _ _ (if _ then _ else _)
   rw[if_neg (by decide)]
   exact i44 o2 p2
  | j+2,ha,hb=>cases ha
 ·constructor
  ·intro e
   subst e
   exact⟨rfl,fun j _=>by
    show(if j=0 then _ else _)
    split <;> rfl⟩
  ·rintro⟨_,q⟩
   exact Prod.ext (q 0 (by show 0 < 2;decide)) (q 1 (by show 1 < 2;decide))
theorem b44 {H:Hp}{t t' pa pb:Addr}{p q:List Str}{k k':Str}{ms ms':List V}{P:Prop}{e:Prop}(hp:H pa=some (.tup (p.map V.str)))(hq:H pb=some (.tup (q.map V.str)))(ht:H t=some (.tup (.ref pa::.str k::ms)))(ht':H t'=some (.tup (.ref pb::.str k'::ms')))
 (hl:ms.length<=1)(hl':ms'.length<=1)(hm:∀ c c',ms=[c]->ms'=[c']->DEq H 1 c c' e)(hP:P↔(ms.length=ms'.length/\p=q/\k=k'/\(ms.length=1->e))):DEq H 2 (.ref t) (.ref t') P:=by
 refine .inr (.inl ⟨t,t',_,_,fun j=>if j=0 then p=q else if j=1 then k=k' else e,rfl,rfl,ht,ht',fun j a b ha hb=>?_,?_⟩)
 ·match j,ha,hb with
  | 0,ha,hb =>
   cases ha
   cases hb
   show DEq H _ _ _ (if _ then _ else _)
   rw[if_pos rfl]
   exact e83 hp hq
  | 1,ha,hb =>
   cases ha
   cases hb
   show DEq H _ _ _ (if _ then _ else _)
   rw[if_neg (by decide),if_pos rfl]
   exact .inl (.inr (.inl ⟨k,k',rfl,rfl,Iff.rfl⟩))
  | j+2,ha,hb =>
   show DEq H _ _ _ (if _ then _ else _)
   rw[if_neg (by omega),if_neg (by omega)]
   have ha':ms[j]?=some a:=ha
   have hb':ms'[j]?=some b:=hb
   cases ms with
   | nil=>cases ha'
   | cons c r =>
    cases r with
    | cons _ _=>simp at hl
    | nil =>
     cases j with
     | succ j=>cases ha'
     | zero =>
      cases ha'
      cases ms' with
      | nil=>cases hb'
      | cons c' r' =>
       cases hb'
       cases r' with
       | nil=>exact hm _ _ rfl rfl
       | cons d r''=>simp at hl'
 ·rw[hP]
  simp only[Cz]
  constructor
  ·rintro⟨h1,h2,h3,h4⟩
   refine⟨by omega,fun j hj=>?_⟩
   by_cases z:j=0
   ·rw[if_pos z];exact h2
   ·rw[if_neg z]
    by_cases z1:j=1
    ·rw[if_pos z1];exact h3
    ·rw[if_neg z1];exact h4 (by omega)
  ·rintro⟨h1,h2⟩
   refine⟨by omega,?_,?_,fun hl1=>?_⟩
   ·have:=h2 0 (by omega)
    rwa[if_pos rfl] at this
   ·have:=h2 1 (by omega)
    rwa[if_neg (by decide),if_pos rfl] at this
   ·have:=h2 2 (by omega)
    rwa[if_neg (by decide),if_neg (by decide)] at this
theorem i55 {H:Hp}{v u:V}{x y:List Str×Ent}(h:EntV H v x.1 x.2)(h':EntV H u y.1 y.2):DEq H 2 v u (x=y):=by
 obtain⟨p,a⟩:=x
 obtain⟨q,b⟩:=y
 have gf:("gone" : Str) ≠ "file" := by decide +kernel
 have gd:("gone" : Str) ≠ "folder" := by decide +kernel
 have fd:("file" : Str) ≠ "folder" := by decide +kernel
 obtain⟨t,pa,rfl,hp,g1⟩:=h
 obtain⟨t',pb,rfl,hq,g2⟩:=h'
 cases a with
 | gone =>
  cases b with
  | gone=>exact b44 (e:=True) (ms:=[]) (ms':=[]) hp hq g1 g2 (by simp) (by simp) (fun _ _ z=>nomatch z) ⟨fun z=>by cases z;exact⟨rfl,rfl,rfl,fun _=>trivial⟩,fun⟨_,z,_⟩=>by rw[show p=q from z]⟩
  | fil j=>exact b44 (e:=True) (ms:=[]) (ms':=[_]) hp hq g1 g2 (by simp) (by simp) (fun _ _ z=>nomatch z) ⟨(fun z=>nomatch z),fun⟨_,_,z,_⟩=>absurd z gf⟩
  | dir o =>
   obtain⟨w,ow,g2⟩:=g2
   exact b44 (e:=True) (ms:=[]) (ms':=[_]) hp hq g1 g2 (by simp) (by simp) (fun _ _ z=>nomatch z) ⟨(fun z=>nomatch z),fun⟨_,_,z,_⟩=>absurd z gd⟩
 | fil i =>
  cases b with
  | gone=>exact b44 (e:=True) (ms:=[_]) (ms':=[]) hp hq g1 g2 (by simp) (by simp) (fun _ _ _ z=>nomatch z) ⟨(fun z=>nomatch z),fun⟨_,_,z,_⟩=>absurd z gf.symm⟩
  | fil j =>
   refine b44 (e:=i=j) (ms:=[.int i]) (ms':=[.int j]) hp hq g1 g2 (by simp) (by simp) (fun c c' z z'=>?_) ⟨fun z=>by cases z;exact⟨rfl,rfl,rfl,fun _=>rfl⟩,fun⟨_,z,_,z'⟩=>by rw[show p=q from z,show i=j from z' rfl]⟩
   cases z
   cases z'
   exact .inl (.inr (.inr (.inl ⟨i,j,rfl,rfl,Iff.rfl⟩)))
  | dir o =>
   obtain⟨w,ow,g2⟩:=g2
   refine b44 (e:=False) (ms:=[.int i]) (ms':=[w]) hp hq g1 g2 (by simp) (by simp) (fun c c' z z'=>?_) ⟨(fun z=>nomatch z),fun⟨_,_,z,_⟩=>absurd z fd⟩
   cases z
   cases z'
   cases o with
   | none =>
    cases (show w=.non from ow)
    exact .inl (.inr (.inr (.inr (.inr (.inr (.inr ⟨⟨i,rfl⟩,rfl,id⟩))))))
   | some zs =>
    obtain⟨b,rfl,hb⟩:=ow
    exact .inr (.inr (.inl ⟨.inr ⟨i,rfl⟩,⟨b,_,rfl,hb⟩,id⟩))
 | dir o =>
  obtain⟨w,ow,g1⟩:=g1
  cases b with
  | gone=>exact b44 (e:=True) (ms:=[_]) (ms':=[]) hp hq g1 g2 (by simp) (by simp) (fun _ _ _ z=>nomatch z) ⟨(fun z=>nomatch z),fun⟨_,_,z,_⟩=>absurd z gd.symm⟩
  | fil j =>
   refine b44 (e:=False) (ms:=[w]) (ms':=[.int j]) hp hq g1 g2 (by simp) (by simp) (fun c c' z z'=>?_) ⟨(fun z=>nomatch z),fun⟨_,_,z,_⟩=>absurd z fd.symm⟩
   cases z
   cases z'
   cases o with
   | none =>
    cases (show w=.non from ow)
    exact .inl (.inr (.inr (.inr (.inr (.inr (.inl ⟨rfl,⟨j,rfl⟩,id⟩))))))
   | some zs =>
    obtain⟨b,rfl,hb⟩:=ow
    exact .inr (.inr (.inr ⟨⟨b,_,rfl,hb⟩,.inr ⟨j,rfl⟩,id⟩))
  | dir o' =>
   obtain⟨w',ow',g2⟩:=g2
   refine b44 (e:=o=o') (ms:=[w]) (ms':=[w']) hp hq g1 g2 (by simp) (by simp) (fun c c' z z'=>?_) ⟨fun z=>by cases z;exact⟨rfl,rfl,rfl,fun _=>rfl⟩,fun⟨_,z,_,z'⟩=>by rw[show p=q from z,show o=o' from z' rfl]⟩
   cases z
   cases z'
   exact f81 ow ow'
theorem i34 {H:Hp}{v u:V}{L L':Lay}(h:LayV H v L)(h':LayV H u L'):TEq H (DEq H 3) v u (L=L'):=by
 obtain⟨t,e,p,es,ps,rfl,ht,he,hp,hE,hP⟩:=h
 obtain⟨t',e',p',es',ps',rfl,ht',he',hp',hE',hP'⟩:=h'
 have a1:DEq H 3 (.ref e) (.ref e') (L.ents=L'.ents):=.inr (.inl (d59 he he' hE hE' fun x a y b r s=>i55 r s))
 have a2:DEq H 3 (.ref p) (.ref p') (L.pairs=L'.pairs):=.inr (.inl (d59 hp hp' hP hP' fun x a y b r s=>g99 r s))
 refine⟨t,t',_,_,fun j=>if j=0 then L.ents=L'.ents else L.pairs=L'.pairs,rfl,rfl,ht,ht',fun j a b ha hb=>?_,?_⟩
 ·match j,ha,hb with
  | 0,ha,hb =>
   cases ha
   cases hb
   show DEq H _ _ _ (if _ then _ else _)
   rw[if_pos rfl]
   exact a1
  | 1,ha,hb =>
   cases ha
   cases hb
   show DEq H _ _ _ (if _ then _ else _)
   rw[if_neg (by decide)]
   exact a2
  | j+2,ha,hb=>cases ha
 ·constructor
  ·intro z
   subst z
   exact⟨rfl,fun j _=>by
    show(if j=0 then _ else _)
    split <;> rfl⟩
  ·rintro⟨_,q⟩
   have q0:L.ents=L'.ents:=q 0 (by show 0 < 2;decide)
   have q1:L.pairs=L'.pairs:=q 1 (by show 1 < 2;decide)
   obtain⟨a,b⟩:=L
   obtain⟨c,d⟩:=L'
   cases (show a=c from q0)
   cases (show b=d from q1)
   rfl
def isF:Ent->Bool
 | .fil _=>true
 | _=>false
def marks (L:Lay):List (List Str×Ent):=L.ents.filter fun x=>!isF x.2
def c99 (L:Lay) (n:Nat):Lay:=⟨(marks L).take n,[]⟩
theorem d81 (L:Lay):(marks L).length<=L.ents.length:=List.length_filter_le _ _
theorem g30 {L:Lay}(g:LayG L) (n:Nat):LayG (c99 L n):=by
 have sub:∀ x∈(marks L).take n,x∈L.ents/\isF x.2=false:=fun x hx=>by
  have:=List.mem_filter.mp (List.mem_of_mem_take hx)
  exact⟨this.1,by simpa using this.2⟩
 have srtM:(marks L).Pairwise fun x y=>Srt.lexB x.1 y.1=true:=g.srt.sublist List.filter_sublist
 refine⟨?_,FJ _,fun x hx=>g.eg x (sub x hx).1,(fun _ h=>nomatch h),srtM.sublist (List.take_sublist _ _),fun x hx=>?_,.nil,(fun j y h=>by cases h),fun p i hp=>?_⟩
 ·show((marks L).take n).length<=198
  rw[CZ]
  have:=d81 L
  have:=g.el
  omega
 ·rcases g.par x (sub x hx).1 with h | ⟨o,h⟩
  ·exact .inl h
  ·refine .inr ⟨o,?_⟩
   have hm:(x.1.dropLast,Ent.dir o)∈marks L:=List.mem_filter.mpr ⟨h,rfl⟩
   rw[← List.take_append_drop n (marks L)] at hm
   rcases Bq.mp hm with z | z
   ·exact z
   ·have pw:=srtM
    rw[← List.take_append_drop n (marks L)] at pw
    have h1:=(List.pairwise_append.mp pw).2.2 x hx _ z
    exact(c81 h1 (b88 x.1 (g.eg x (sub x hx).1).2)).elim
 ·have:=(sub _ hp).2
  cases this
theorem g35 (L:Lay) (n:Nat):a49 (c99 L n)=(a49 (c99 L (marks L).length)).take n:=by
 unfold a49 c99
 simp[List.map_take]
section
variable {P:Program}{w:World}{K:PySem.W.Frag}{mg:Str->Option Value}{base:Heap}
theorem scLaw:FnScope ["_law_script", "_law_layer_here", "_law_other", "_law_texts", "_law_one", "_law_text_here", "_law_marks", "_law_size", "_law_part"] ["_law_script"] (a09 h19):=⟨rfl,rfl,rfl,by decide +kernel,rfl,by decide +kernel,by decide +kernel⟩
theorem i95 {f:Addr}{fd:FuncData}(hG:∀ ns:List Int,ns.length<=63->LayG (a89 ns))(F:Fun K "law" "law" h19 f fd)(kss:PySem.W.kitOne K (.type "str") (.type "str")=some true)(mIs:mg "isinstance" = none)(mStr:mg "str" = none)(mList:mg "list" = none)(mRev:mg "reversed" = none)(mTuple:mg "tuple" = none)(mLen:mg "len" = none)
 (DL:Def P w K mg base 6 "_law_layer" ["_law_script"] (e50 K))(DX:Def P w K mg base 3 "layer_text" ["layer"] spLT)(DR:Def P w K mg base 7 "read_layer" ["text"] g00)(DA:Def P w K mg base 5 "_law_alike" ["_law_found", "_law_due"] (c75 4)):FnOk P w K mg base CX0 8 f fd ["_law_script"] (g90 K):=by
 refine F.ok scLaw (fun vs H Q E h=>?_) (fun cdv A outer s H vs Q E hr h=>?_)
 ·obtain⟨a,ns,rfl,_⟩:=h
  rfl
 ·obtain⟨a,ns,rfl,hS,hlen,k⟩:=h
  have hr3:Room 3 _:=hr.mono (by decide)
  have hr6:Room 6 _:=hr.mono (by decide)
  have hr5:Room 5 _:=hr.mono (by decide)
  have hu5:=Nat.lt_of_le_of_lt (Nat.add_le_add_left (by decide:3+1<=64) _) hr.units
  have nd:=scLaw.nd
  refine⟨_,a03 (a39 (i:=1) nd rfl (Or.inl rfl) (a35 DL hr6 (a00 (pv 0) a04)))
   (a03 (a39 (i:=2) nd rfl (Or.inl rfl) (a35 DL hr6 (a00 (f36 rfl rfl mList rfl mRev PyProof.Rows.Boot.list PyProof.Rows.Boot.reversed (pv 0)) a04)))
   (a03 (a39 (i:=3) nd rfl (Or.inl rfl) (a99 a04))
   (a03 (d05 PassesOwn.never rfl (c35 (a99 (a00 (pv 1) (a00 (pv 2) a04)))) (a91 (i:=4) nd rfl (Or.inl rfl))
     (a03 (a39 (i:=5) nd rfl (Or.inl rfl) (a35 DX hr3 (a00 (pv 4) a04)))
     (a03 (a47 (PW.pt (c32 (b84 (a96 (a29 a76 (by rfl) mIs PyProof.Rows.Boot.isinstance (a00 (pv 5) (a00 (b53 (v:=.ty "str") rfl mStr PyProof.Rows.Boot.str rfl) a04)))))
       (c32 (b84 (a96 (a35 DA hr5 (a00 (a35 DR hr (a00 (pv 5) a04)) (a00 (pv 4) a04)))))
       (b61 (a32 c96 (a35 DX hr3 (a00 (a35 DR hr (a00 (pv 5) a04)) a04)) (pv 5) (a38 _)))))) (a08 (a37 c31)) a31)
     (a08 (b46 (b20 PySem.F.plainAttrs_list PySem.F.slot_list_append PySem.F.type_list_append b19 (pv 3) (a00 (pv 5) a04)))))))
   (a03 (a47 (a32 c96 (b14 b07 (a50 a53 (pv 3) a07 (fun _ _=>rfl)) (a50 a53 (pv 3) a07 (fun _ _=>rfl)) (a38 _)) (b14 (i84 (n:=3) hu5) (pv 1) (pv 2) (a38 _)) (a38 _)) (a08 (a37 c31)) a31)
   (a03 (a39 (i:=6) nd rfl (Or.inl rfl) (a82 a72 (by rfl) mTuple PyProof.Rows.Boot.tuple (a00 (g93 (x := "_law_entry") scLaw ⟨rfl,by decide +kernel,by decide +kernel,by decide +kernel,by decide +kernel,by decide +kernel⟩ (by decide +kernel) (e98 (a50 a66 (pv 1) a07 (fun _ _=>rfl)))
     (fun C fp s H=>g65 (a32 c96 (a50 (show IxR _ (j21 K) from a66) (pv 9) a07 (fun _ _=>rfl)) a36 (a38 _))) (fun C fp s H=>pv 9)) a04)))
   (a03 (a39 (i:=5) nd rfl (Or.inl rfl) (a35 DX hr3 (a00 (a59 (a00 (pv 6) (a00 (a59 a04) a04))) a04)))
   (a03 (d05 PassesOwn.never rfl (c35 (a99 (a00 a07 (a00 (a54 d69 (a29 a30 (by rfl) mLen PySem.boot_len (a00 (pv 6) a04)) a07) (a00 (a29 a30 (by rfl) mLen PySem.boot_len (a00 (pv 6) a04)) a04))))) (a91 (i:=7) nd rfl (Or.inl rfl))
     (a03 (a39 (i:=8) nd rfl (Or.inl rfl) (b20 PySem.F.plainAttrs_str PySem.F.slot_str_join PySem.F.type_str_join c77 a36 (a00 (b05 d36 (b20 PySem.F.plainAttrs_str PySem.F.slot_str_split PySem.F.type_str_split c70 (pv 5) (a00 a36 a04)) b49 (b38 (pv 7))) a04)))
     (a08 (a47 (b84 (a96 (a35 DA hr5 (a00 (a35 DR hr (a00 (pv 8) a04)) (a00 (a59 (a00 (b05 g47 (pv 6) b49 (b38 (pv 7))) (a00 (a59 a04) a04))) a04))))) (a08 (a37 c31)) a31))))
   (a08 (a37 c31))))))))),?_⟩
  have gL:=hG ns hlen
  have lr:ns.reverse.length<=63:=by rw[List.length_reverse];exact hlen
  have gR:=hG ns.reverse lr
  refine⟨_,rfl,a,ns,rfl,hS,hlen,fun v H1 hv1 s1=>?_⟩
  refine⟨_,rfl,a,_,rfl,s1.seq hS,fun c hc=>?_⟩
  rw[← List.map_reverse]
  have s2:Same H1 (upd H1 c (.lst (ns.reverse.map V.int))):=(Same.refl _).upd hc
  refine⟨c,ns.reverse,rfl,SqL.of a02,lr,fun v2 H3 hw3 s3=>?_⟩
  have hv3:=LayV.tk (Tk.of (s2.trans s3)) hv1
  refine⟨by show 0<=sizeLine;decide,fun tx htx=>?_⟩
  have s4:Same H3 (upd H3 tx (.lst [])):=(Same.refl _).upd htx
  have htx4:(upd H3 tx (.lst [])) tx=some (.lst []):=a02
  have hv4:=LayV.tk (Tk.of s4) hv3
  have hw4:=LayV.tk (Tk.of s4) hw3
  generalize (upd H3 tx (.lst []))=H4 at s4 htx4 hv4 hw4 ⊢
  refine⟨_,rfl,_,rfl,by show 2<=sizeLine;decide,fun l hl=>?_⟩
  have s5:Same H4 (upd H4 l (.lst [v,v2])):=(Same.refl _).upd hl
  have hl5:(upd H4 l (.lst [v,v2])) l=some (.lst [v,v2]):=a02
  have htx5:=s5 _ _ htx4
  have nlt:l≠tx:=(a01 htx4 hl).symm
  have hv5:=LayV.tk (Tk.of s5) hv4
  have hw5:=LayV.tk (Tk.of s5) hw4
  generalize (upd H4 l (.lst [v,v2]))=H5 at s5 hl5 htx5 hv5 hw5 ⊢
  have hP:Paired (LayV H5) [v,v2] [a89 ns,a89 ns.reverse]:=.cons hv5 (.cons hw5 .nil)
  have hGs:∀ L∈[a89 ns,a89 ns.reverse],LayG L:=fun L hL=>by
   rcases Cj.mp hL with q | q
   ·rw[q];exact gL
   ·rw[Ax.mp q];exact gR
  refine⟨l,rfl,⟨_,SqL.of hl5⟩,d66 (K:=K) (a:=l) (xs:=[v,v2]) (fun i σ H'=>(∃ v4 v5,σ=[some (.ref a),some v,some v2,some (.ref tx),v4,v5,none,none,none])/\H' tx=some (.lst ((([a89 ns,a89 ns.reverse].take i).map ltx).map V.str))/\Kp [tx] H5 H')
   ⟨⟨_,_,rfl⟩,htx5,Kp.refl _ _⟩ (fun i σ H' _ ⟨_,_,k'⟩=>SqL.of (k' _ _ hl5 (by simpa using nlt))) ?_ ?_⟩
  ·rintro i x σ H' hi ⟨⟨v4,v5,rfl⟩,htx',k'⟩
   obtain⟨L,hL,hLV⟩:=a64 hP hi
   have g:=hGs L (BQ hL)
   have t':Tk H5 H':=k'.tk fun b hb=>by rw[Ax.mp hb];exact a33 htx5
   have h0:=LayV.tk t' hLV
   refine⟨_,rfl,x,L,rfl,h0,g.ok,fun H6 s6=>?_⟩
   have h6:=LayV.tk (Tk.of s6) h0
   refine⟨_,rfl,_,_,_,_,_,rfl,.str _,rfl,kss,_,rfl,b00 ?_⟩
   refine⟨_,rfl,L,rfl,g,fun u H7 hu7 s7=>?_⟩
   have h7:=LayV.tk (Tk.of s7) h6
   refine⟨_,rfl,u,x,rfl,g54 hu7 h7 g,fun H8 s8=>⟨_,rfl,b00 ?_⟩⟩
   refine⟨_,rfl,L,rfl,g,fun u2 H9 hu9 s9=>⟨u2,L,rfl,hu9,g.ok,fun H10 s10=>⟨_,rfl,rfl,_,rfl,e62 rfl ?_⟩⟩⟩
   have sA:Same H' H10:=s6.trans (s7.trans (s8.trans (s9.trans s10)))
   have htx10:=sA _ _ htx'
   have hle:i < 2:=(Ex.mp hi).1
   refine⟨_,rfl,.inl ⟨rfl,_,SqL.of htx10⟩,_,rfl,tx,_,_,rfl,rfl,htx10,?_,⟨_,_,rfl⟩,?_,(k'.trans (Kp.of sA)).set (by simp)⟩
   ·rw[Aj,Aj,CZ,sizeLine_eq];omega
   ·rw[a02,← c03 (f:=ltx) hL,BJ]
    rfl
  ·rintro σ H6 ⟨⟨v4,v5,rfl⟩,htx6,k6⟩
   have t6:Tk H5 H6:=k6.tk fun b hb=>by rw[Ax.mp hb];exact a33 htx5
   have hv6:=LayV.tk t6 hv5
   have hw6:=LayV.tk t6 hw5
   have htx6':H6 tx=some (.lst [.str (ltx (a89 ns)),.str (ltx (a89 ns.reverse))]):=htx6
   refine⟨_,rfl,tx,_,_,_,rfl,rfl,SqL.of htx6',rfl,_,rfl,tx,_,_,_,rfl,rfl,SqL.of htx6',rfl,rfl,_,rfl,_,rfl,_,i34 hv6 hw6,fun b hb=>⟨rfl,_,rfl,?_⟩⟩
   have hd:decide (V.str (ltx (a89 ns))=V.str (ltx (a89 ns.reverse)))=b:=by
    rw[Bool.eq_iff_iff,hb,decide_eq_true_iff,← h24 gL gR]
    exact⟨fun z=>by injection z,fun z=>by rw[z]⟩
   refine e62 (by rw[hd]) ?_
   clear hd hb b
   have h198:=gL.el
   obtain⟨t,e,p,es,ps,rfl,ht,he,hp,hE,hP'⟩:=hv6
   have le:es.length=(a89 ns).ents.length:=Paired.length hE
   refine⟨_,rfl,t,_,_,_,rfl,rfl,SqT.of ht,rfl,e,rfl,⟨_,SqT.of he⟩,g81 (xs:=es) (fun i ys H'=>H'=H6/\ys.length<=i/\EntsV H6 ys (((a89 ns).ents.take i).filter fun x=>!isF x.2)) (by rw[sizeLine_eq];omega)
    ⟨rfl,AZ _,.nil⟩ (fun i ys H' ⟨_,h,_⟩=>h) (fun i ys H' _ ⟨e',_,_⟩=>by rw[e'];exact SqT.of he) ?_ ?_⟩
   ·rintro i ys H' x hx ⟨rfl,hyl,hys⟩
    obtain⟨⟨q,en⟩,hy,hxy⟩:=a64 hE hx
    have ex:=hxy
    obtain⟨t',pa,rfl,hpa,hm⟩:=hxy
    have add:isF en=false->EntsV H' (ys++[V.ref t']) (((a89 ns).ents.take (i+1)).filter fun x=>!isF x.2):=fun hf=>by
     rw[EX,hy,List.filter_append]
     have e0:List.filter (fun x:List Str×Ent=>!isF x.2) (some (q,en)).toList=[(q,en)]:=by simp[hf]
     rw[e0]
     exact c40 hys (.cons ex .nil)
    have skip:isF en=true->EntsV H' ys (((a89 ns).ents.take (i+1)).filter fun x=>!isF x.2):=fun hf=>by
     rw[EX,hy,List.filter_append]
     have e0:List.filter (fun x:List Str×Ent=>!isF x.2) (some (q,en)).toList=[]:=by simp[hf]
     rw[e0,List.append_nil]
     exact hys
    cases en with
    | gone =>
     refine⟨_,rfl,t',_,_,_,rfl,rfl,SqT.of hm,rfl,rfl,_,rfl,?_⟩
     rw[show(!decide (V.str "gone" = V.str "file"))=true by decide +kernel]
     exact c01 ⟨_,rfl,rfl,by rw[Bj];show ys.length+1<=i+1;omega,add rfl⟩
    | dir o =>
     obtain⟨w',_,hm⟩:=hm
     refine⟨_,rfl,t',_,_,_,rfl,rfl,SqT.of hm,rfl,rfl,_,rfl,?_⟩
     rw[show(!decide (V.str "folder" = V.str "file"))=true by decide +kernel]
     exact c01 ⟨_,rfl,rfl,by rw[Bj];show ys.length+1<=i+1;omega,add rfl⟩
    | fil n =>
     refine⟨_,rfl,t',_,_,_,rfl,rfl,SqT.of hm,rfl,rfl,_,rfl,?_⟩
     rw[show(!decide (V.str "file" = V.str "file"))=false by decide +kernel]
     exact b00 ⟨rfl,by omega,skip rfl⟩
   ·rintro ys H' ⟨rfl,hyl,hys⟩ D hD
    rw[le,DQ (AZ _)] at hys
    have lm:ys.length=(marks (a89 ns)).length:=Paired.length hys
    have hml:=d81 (a89 ns)
    have sD:Same H' (upd H' D (.lst ys)):=(Same.refl _).upd hD
    refine⟨D,ys,rfl,.inl ⟨SqL.of a02,fun m hm=>?_⟩⟩
    have s7:Same H' (upd (upd H' D (.lst ys)) m (.tup ys)):=sD.upd hm
    have hm7:(upd (upd H' D (.lst ys)) m (.tup ys)) m=some (.tup ys):=a02
    have hM7:=EntsV.tk (Tk.of s7) hys
    generalize (upd (upd H' D (.lst ys)) m (.tup ys))=H7 at s7 hm7 hM7 ⊢
    refine⟨_,rfl,by show 0<=sizeLine;decide,fun t1 ht1=>⟨by show 2<=sizeLine;decide,fun t2 ht2=>?_⟩⟩
    have s8:Same H7 (upd H7 t1 (.tup [])):=(Same.refl _).upd ht1
    have h18:(upd H7 t1 (.tup [])) t1=some (.tup []):=a02
    generalize (upd H7 t1 (.tup []))=H8 at s8 h18 ht2 ⊢
    have s9:Same H8 (upd H8 t2 (.tup [V.ref m,V.ref t1])):=(Same.refl _).upd ht2
    have h29:(upd H8 t2 (.tup [V.ref m,V.ref t1])) t2=some (.tup [V.ref m,V.ref t1]):=a02
    generalize (upd H8 t2 (.tup [V.ref m,V.ref t1]))=H9 at s9 h29 ⊢
    have gM:∀ n,LayG (c99 (a89 ns) n):=g30 gL
    have eM:(c99 (a89 ns) (marks (a89 ns)).length).ents=marks (a89 ns):=DQ (AZ _)
    refine⟨_,c99 (a89 ns) (marks (a89 ns)).length,rfl,⟨t2,m,t1,ys,[],rfl,h29,s9 _ _ (s8 _ _ hm7),s9 _ _ h18,by rw[eM];exact EntsV.tk (Tk.of (s8.trans s9)) hM7,.nil⟩,(gM _).ok,fun H10 s10=>?_⟩
    have s710:Same H7 H10:=s8.trans (s9.trans s10)
    have hm10:=s710 _ _ hm7
    have hM10:=EntsV.tk (Tk.of s710) hM7
    clear s7 hm7 hM7 s8 h18 s9 h29 s10 s710
    refine⟨_,rfl,m,_,rfl,.inr (SqT.of hm10),_,_,rfl,rfl,⟨by decide,by decide⟩,_,rfl,m,_,rfl,.inr (SqT.of hm10),by show 3<=sizeLine;decide,fun l3 hl3=>?_⟩
    have s11:Same H10 (upd H10 l3 (.lst [V.int 0,V.int ((ys.length:Int) / 2),V.int (ys.length:Int)])):=(Same.refl _).upd hl3
    have hl11:(upd H10 l3 (.lst [V.int 0,V.int ((ys.length:Int) / 2),V.int (ys.length:Int)])) l3=some (.lst [V.int 0,V.int ((ys.length:Int) / 2),V.int (ys.length:Int)]):=a02
    have hm11:=s11 _ _ hm10
    have hM11:=EntsV.tk (Tk.of s11) hM10
    generalize (upd H10 l3 (.lst [V.int 0,V.int ((ys.length:Int) / 2),V.int (ys.length:Int)]))=H11 at s11 hl11 hm11 hM11 ⊢
    refine⟨l3,rfl,⟨_,SqL.of hl11⟩,d66 (K:=K) (a:=l3) (xs:=[V.int 0,V.int ((ys.length:Int) / 2),V.int (ys.length:Int)]) (fun i σ H'=>(∃ v0 v1 v2' v3 v4 v7 v8,σ=[v0,v1,v2',v3,v4,some (.str (ltx (c99 (a89 ns) (marks (a89 ns)).length))),some (.ref m),v7,v8])/\Same H11 H')
     ⟨⟨_,_,_,_,_,_,_,rfl⟩,Same.refl _⟩ (fun i σ H' _ ⟨_,s'⟩=>s'.seq (SqL.of hl11)) ?_ ?_⟩
    ·rintro i x σ H12 hi ⟨⟨v0,v1,v2',v3,v4',v7,v8,rfl⟩,s12⟩
     obtain⟨n,rfl,hn⟩:∃ n:Nat,x=V.int (n:Int)/\n<=ys.length:=by
      match i,hi with
      | 0,hi=>cases hi;exact⟨0,rfl,FJ _⟩
      | 1,hi=>cases hi;exact⟨ys.length / 2,by congr 1,by omega⟩
      | 2,hi=>cases hi;exact⟨ys.length,rfl,AZ _⟩
      | i+3,hi=>cases hi
     have tl:=FQ (f08 (gM (marks (a89 ns)).length)) (show 100000<=1000000 by decide)
     refine⟨rfl,_,rfl,rfl,_,_,rfl,rfl,by decide +kernel,tl,fun l4 hl4=>?_⟩
     have s13:Same H12 (upd H12 l4 (.lst ((Txt.split (ltx (c99 (a89 ns) (marks (a89 ns)).length)) "\n").map V.str))):=(Same.refl _).upd hl4
     have h13:(upd H12 l4 (.lst ((Txt.split (ltx (c99 (a89 ns) (marks (a89 ns)).length)) "\n").map V.str))) l4=some (.lst ((Txt.split (ltx (c99 (a89 ns) (marks (a89 ns)).length)) "\n").map V.str)):=a02
     generalize (upd H12 l4 (.lst ((Txt.split (ltx (c99 (a89 ns) (marks (a89 ns)).length)) "\n").map V.str)))=H13 at s13 h13 ⊢
     refine⟨_,rfl,_,rfl,l4,_,rfl,SqL.of h13,fun l5 hl5=>?_⟩
     have cut:b52 ((Txt.split (ltx (c99 (a89 ns) (marks (a89 ns)).length)) "\n").map V.str) none (some (n:Int))=(a49 (c99 (a89 ns) n)).map V.str:=by
      have ec:∀ l:List Str,b52 (l.map V.str) none (some (n:Int))=(l.take n).map V.str:=fun l=>by
       unfold b52
       rw[HT.sIx_none,HT.sIx_nat,List.drop_zero,Nat.sub_zero,List.map_take,Aj]
       by_cases z:n<=l.length
       ·rw[Nat.min_eq_left z]
       ·rw[Nat.min_eq_right (by omega),DQ (by rw[Aj];omega),DQ (by rw[Aj];omega)]
      rw[ec,g35]
      by_cases z:a49 (c99 (a89 ns) (marks (a89 ns)).length)=[]
      ·have n0:n=0:=by
        have hz:=congrArg List.length z
        unfold a49 at hz
        rw[eM,Bj,Aj,List.length_nil] at hz
        omega
       rw[n0,List.take_zero,List.take_zero]
      ·rw[show Txt.split (ltx (c99 (a89 ns) (marks (a89 ns)).length)) "\n" = a49 (c99 (a89 ns) (marks (a89 ns)).length) from b78 (gM _) z]
     rw[cut]
     have s14:Same H13 (upd H13 l5 (.lst ((a49 (c99 (a89 ns) n)).map V.str))):=(Same.refl _).upd hl5
     have h14:(upd H13 l5 (.lst ((a49 (c99 (a89 ns) n)).map V.str))) l5=some (.lst ((a49 (c99 (a89 ns) n)).map V.str)):=a02
     generalize (upd H13 l5 (.lst ((a49 (c99 (a89 ns) n)).map V.str)))=H14 at s14 h14 ⊢
     refine⟨_,l5,_,rfl,rfl,SqL.of h14,d92 (gM n).ok,?_⟩
     refine⟨_,rfl,c99 (a89 ns) n,rfl,gM n,fun u H15 hu15 s15=>?_⟩
     have sB:Same H11 H15:=s12.trans (s13.trans (s14.trans s15))
     refine⟨_,rfl,_,rfl,_,rfl,m,_,rfl,sB _ _ hm11,fun t5 H16 ht5 s16=>?_⟩
     have ecm:b52 ys none (some (n:Int))=ys.take n:=by
      unfold b52
      rw[HT.sIx_none,HT.sIx_nat,List.drop_zero,Nat.sub_zero,Nat.min_eq_left hn]
     rw[ecm] at ht5
     refine⟨by show 0<=sizeLine;decide,fun t6 ht6=>⟨by show 2<=sizeLine;decide,fun t7 ht7=>?_⟩⟩
     have s17:Same H16 (upd H16 t6 (.tup [])):=(Same.refl _).upd ht6
     have h17:(upd H16 t6 (.tup [])) t6=some (.tup []):=a02
     generalize (upd H16 t6 (.tup []))=H17 at s17 h17 ht7 ⊢
     have s18:Same H17 (upd H17 t7 (.tup [V.ref t5,V.ref t6])):=(Same.refl _).upd ht7
     have h18:(upd H17 t7 (.tup [V.ref t5,V.ref t6])) t7=some (.tup [V.ref t5,V.ref t6]):=a02
     generalize (upd H17 t7 (.tup [V.ref t5,V.ref t6]))=H18 at s18 h18 ⊢
     have sC:Same H15 H18:=s16.trans (s17.trans s18)
     have hLV:LayV H18 (.ref t7) (c99 (a89 ns) n):=⟨t7,t5,t6,ys.take n,[],rfl,h18,s18 _ _ (s17 _ _ ht5),s18 _ _ h17,EntsV.tk (Tk.of (sB.trans sC)) (b93 n hM11),.nil⟩
     refine⟨u,.ref t7,rfl,g54 (LayV.tk (Tk.of sC) hu15) hLV (gM n),fun H19 s19=>⟨_,rfl,b00 ⟨⟨_,_,_,_,_,_,_,rfl⟩,sB.trans (sC.trans s19)⟩⟩⟩
    ·rintro σ H12 ⟨_,s12⟩
     exact k H12
end
theorem all_mk {l:PySem.W.OpenLaw}{w:World}{K:PySem.W.Frag}{h:Heap}{mg:Str->Option Value}{fa:Addr}(X:K.In h)(G:h.Ns mainGlobals mg)(hfa:mg "law" = some (.ref fa))
 {f0 f1 f2 f3 f4 f5 f6 f7 f8 f9 f10 f11 f12 f13 f14 f15 f16 f17 f18 f19 f20 f21 f22 f23 f24 f25 f26 f27:Addr}
 {od0 an0 od1 an1 od2 an2 od3 an3 od4 an4 od5 an5 od6 an6 od7 an7 od8 an8 od9 an9 od10 an10 od11 an11 od12 an12 od13 an13 od14 an14 od15 an15 od16 an16 od17 an17 od18 an18 od19 an19 od20 an20 od21 an21 od22 an22 od23 an23 od24 an24 od25 an25 od26 an26 od27 an27:Option Addr}{sl0 sl1 sl2 sl3 sl4 sl5 sl6 sl7 sl8 sl9 sl10 sl11 sl12 sl13 sl14 sl15 sl16 sl17 sl18 sl19 sl20 sl21 sl22 sl23 sl24 sl25 sl26 sl27:Array (Option Value)}
 {oc0 kV0 dc0 pm0 cd0 ct0 oc1 kV1 dc1 pm1 cd1 ct1 oc2 kV2 dc2 pm2 cd2 ct2 oc3 kV3 dc3 pm3 cd3 ct3 oc4 kV4 dc4 pm4 cd4 ct4 oc5 kV5 dc5 pm5 cd5 ct5 oc6 kV6 dc6 pm6 cd6 ct6 oc7 kV7 dc7 pm7 cd7 ct7 oc8 kV8 dc8 pm8 cd8 ct8 oc9 kV9 dc9 pm9 cd9 ct9 oc10 kV10 dc10 pm10 cd10 ct10 oc11 kV11 dc11 pm11 cd11 ct11 oc12 kV12 dc12 pm12 cd12 ct12 oc13 kV13 dc13 pm13 cd13 ct13 oc14 kV14 dc14 pm14 cd14 ct14 oc15 kV15 dc15 pm15 cd15 ct15 oc16 kV16 dc16 pm16 cd16 ct16 oc17 kV17 dc17 pm17 cd17 ct17 oc18 kV18 dc18 pm18 cd18 ct18 oc19 kV19 dc19 pm19 cd19 ct19 oc20 kV20 dc20 pm20 cd20 ct20 oc21 kV21 dc21 pm21 cd21 ct21 oc22 kV22 dc22 pm22 cd22 ct22 oc23 kV23 dc23 pm23 cd23 ct23 oc24 kV24 dc24 pm24 cd24 ct24 oc25 kV25 dc25 pm25 cd25 ct25 oc26 kV26 dc26 pm26 cd26 ct26 oc27 kV27 dc27 pm27 cd27 ct27:Value}
 {tLet tLong tMost tText tFig tPer tRows tFiles:Tok}
 (a0:PySem.W.nsIn K mainGlobals "is_name" = some (some (.ref f0)))(l0:K.lookup f0=some ⟨oc0,od0,.func (PySem.W.fnOf "is_name" "is_name" (a43 c56) (a42 c56) (a09 c56) .none kV0 dc0 pm0 an0 cd0 ct0),sl0⟩)(c0:PySem.W.codeIn K cd0 "is_name" = true)(k0:PySem.W.keepIn K (.ref f0)=true)
 (a1:PySem.W.nsIn K mainGlobals "path_text" = some (some (.ref f1)))(l1:K.lookup f1=some ⟨oc1,od1,.func (PySem.W.fnOf "path_text" "path_text" (a43 b36) (a42 b36) (a09 b36) .none kV1 dc1 pm1 an1 cd1 ct1),sl1⟩)(c1:PySem.W.codeIn K cd1 "path_text" = true)(k1:PySem.W.keepIn K (.ref f1)=true)
 (a2:PySem.W.nsIn K mainGlobals "path_in" = some (some (.ref f2)))(l2:K.lookup f2=some ⟨oc2,od2,.func (PySem.W.fnOf "path_in" "path_in" (a43 c57) (a42 c57) (a09 c57) .none kV2 dc2 pm2 an2 cd2 ct2),sl2⟩)(c2:PySem.W.codeIn K cd2 "path_in" = true)(k2:PySem.W.keepIn K (.ref f2)=true)
 (a3:PySem.W.nsIn K mainGlobals "path_up_to" = some (some (.ref f3)))(l3:K.lookup f3=some ⟨oc3,od3,.func (PySem.W.fnOf "path_up_to" "path_up_to" (a43 b28) (a42 b28) (a09 b28) .none kV3 dc3 pm3 an3 cd3 ct3),sl3⟩)(c3:PySem.W.codeIn K cd3 "path_up_to" = true)(k3:PySem.W.keepIn K (.ref f3)=true)
 (a4:PySem.W.nsIn K mainGlobals "parent_of" = some (some (.ref f4)))(l4:K.lookup f4=some ⟨oc4,od4,.func (PySem.W.fnOf "parent_of" "parent_of" (a43 b29) (a42 b29) (a09 b29) .none kV4 dc4 pm4 an4 cd4 ct4),sl4⟩)(c4:PySem.W.codeIn K cd4 "parent_of" = true)(k4:PySem.W.keepIn K (.ref f4)=true)
 (a5:PySem.W.nsIn K mainGlobals "is_sign" = some (some (.ref f5)))(l5:K.lookup f5=some ⟨oc5,od5,.func (PySem.W.fnOf "is_sign" "is_sign" (a43 c49) (a42 c49) (a09 c49) .none kV5 dc5 pm5 an5 cd5 ct5),sl5⟩)(c5:PySem.W.codeIn K cd5 "is_sign" = true)(k5:PySem.W.keepIn K (.ref f5)=true)
 (a6:PySem.W.nsIn K mainGlobals "is_text" = some (some (.ref f6)))(l6:K.lookup f6=some ⟨oc6,od6,.func (PySem.W.fnOf "is_text" "is_text" (a43 c51) (a42 c51) (a09 c51) .none kV6 dc6 pm6 an6 cd6 ct6),sl6⟩)(c6:PySem.W.codeIn K cd6 "is_text" = true)(k6:PySem.W.keepIn K (.ref f6)=true)
 (a7:PySem.W.nsIn K mainGlobals "number_in" = some (some (.ref f7)))(l7:K.lookup f7=some ⟨oc7,od7,.func (PySem.W.fnOf "number_in" "number_in" (a43 b33) (a42 b33) (a09 b33) .none kV7 dc7 pm7 an7 cd7 ct7),sl7⟩)(c7:PySem.W.codeIn K cd7 "number_in" = true)(k7:PySem.W.keepIn K (.ref f7)=true)
 (a8:PySem.W.nsIn K mainGlobals "layer_text" = some (some (.ref f8)))(l8:K.lookup f8=some ⟨oc8,od8,.func (PySem.W.fnOf "layer_text" "layer_text" (a43 b12) (a42 b12) (a09 b12) .none kV8 dc8 pm8 an8 cd8 ct8),sl8⟩)(c8:PySem.W.codeIn K cd8 "layer_text" = true)(k8:PySem.W.keepIn K (.ref f8)=true)
 (a9:PySem.W.nsIn K mainGlobals "entry_text" = some (some (.ref f9)))(l9:K.lookup f9=some ⟨oc9,od9,.func (PySem.W.fnOf "entry_text" "entry_text" (a43 b08) (a42 b08) (a09 b08) .none kV9 dc9 pm9 an9 cd9 ct9),sl9⟩)(c9:PySem.W.codeIn K cd9 "entry_text" = true)(k9:PySem.W.keepIn K (.ref f9)=true)
 (a10:PySem.W.nsIn K mainGlobals "pair_text" = some (some (.ref f10)))(l10:K.lookup f10=some ⟨oc10,od10,.func (PySem.W.fnOf "pair_text" "pair_text" (a43 b27) (a42 b27) (a09 b27) .none kV10 dc10 pm10 an10 cd10 ct10),sl10⟩)(c10:PySem.W.codeIn K cd10 "pair_text" = true)(k10:PySem.W.keepIn K (.ref f10)=true)
 (a11:PySem.W.nsIn K mainGlobals "read_layer" = some (some (.ref f11)))(l11:K.lookup f11=some ⟨oc11,od11,.func (PySem.W.fnOf "read_layer" "read_layer" (a43 b13) (a42 b13) (a09 b13) .none kV11 dc11 pm11 an11 cd11 ct11),sl11⟩)(c11:PySem.W.codeIn K cd11 "read_layer" = true)(k11:PySem.W.keepIn K (.ref f11)=true)
 (a12:PySem.W.nsIn K mainGlobals "entry_in" = some (some (.ref f12)))(l12:K.lookup f12=some ⟨oc12,od12,.func (PySem.W.fnOf "entry_in" "entry_in" (a43 b75) (a42 b75) (a09 b75) .none kV12 dc12 pm12 an12 cd12 ct12),sl12⟩)(c12:PySem.W.codeIn K cd12 "entry_in" = true)(k12:PySem.W.keepIn K (.ref f12)=true)
 (a13:PySem.W.nsIn K mainGlobals "folder_in" = some (some (.ref f13)))(l13:K.lookup f13=some ⟨oc13,od13,.func (PySem.W.fnOf "folder_in" "folder_in" (a43 b32) (a42 b32) (a09 b32) .none kV13 dc13 pm13 an13 cd13 ct13),sl13⟩)(c13:PySem.W.codeIn K cd13 "folder_in" = true)(k13:PySem.W.keepIn K (.ref f13)=true)
 (a14:PySem.W.nsIn K mainGlobals "file_in" = some (some (.ref f14)))(l14:K.lookup f14=some ⟨oc14,od14,.func (PySem.W.fnOf "file_in" "file_in" (a43 c36) (a42 c36) (a09 c36) .none kV14 dc14 pm14 an14 cd14 ct14),sl14⟩)(c14:PySem.W.codeIn K cd14 "file_in" = true)(k14:PySem.W.keepIn K (.ref f14)=true)
 (a15:PySem.W.nsIn K mainGlobals "gone_in" = some (some (.ref f15)))(l15:K.lookup f15=some ⟨oc15,od15,.func (PySem.W.fnOf "gone_in" "gone_in" (a43 c50) (a42 c50) (a09 c50) .none kV15 dc15 pm15 an15 cd15 ct15),sl15⟩)(c15:PySem.W.codeIn K cd15 "gone_in" = true)(k15:PySem.W.keepIn K (.ref f15)=true)
 (a16:PySem.W.nsIn K mainGlobals "pair_in" = some (some (.ref f16)))(l16:K.lookup f16=some ⟨oc16,od16,.func (PySem.W.fnOf "pair_in" "pair_in" (a43 c47) (a42 c47) (a09 c47) .none kV16 dc16 pm16 an16 cd16 ct16),sl16⟩)(c16:PySem.W.codeIn K cd16 "pair_in" = true)(k16:PySem.W.keepIn K (.ref f16)=true)
 (a17:PySem.W.nsIn K mainGlobals "_law_box" = some (some (.ref f17)))(l17:K.lookup f17=some ⟨oc17,od17,.func (PySem.W.fnOf "_law_box" "_law_box" (a43 i61) (a42 i61) (a09 i61) .none kV17 dc17 pm17 an17 cd17 ct17),sl17⟩)(c17:PySem.W.codeIn K cd17 "_law_box" = true)(k17:PySem.W.keepIn K (.ref f17)=true)
 (a18:PySem.W.nsIn K mainGlobals "_law_take" = some (some (.ref f18)))(l18:K.lookup f18=some ⟨oc18,od18,.func (PySem.W.fnOf "_law_take" "_law_take" (a43 f33) (a42 f33) (a09 f33) .none kV18 dc18 pm18 an18 cd18 ct18),sl18⟩)(c18:PySem.W.codeIn K cd18 "_law_take" = true)(k18:PySem.W.keepIn K (.ref f18)=true)
 (a19:PySem.W.nsIn K mainGlobals "_law_word" = some (some (.ref f19)))(l19:K.lookup f19=some ⟨oc19,od19,.func (PySem.W.fnOf "_law_word" "_law_word" (a43 f54) (a42 f54) (a09 f54) .none kV19 dc19 pm19 an19 cd19 ct19),sl19⟩)(c19:PySem.W.codeIn K cd19 "_law_word" = true)(k19:PySem.W.keepIn K (.ref f19)=true)
 (a20:PySem.W.nsIn K mainGlobals "_law_text" = some (some (.ref f20)))(l20:K.lookup f20=some ⟨oc20,od20,.func (PySem.W.fnOf "_law_text" "_law_text" (a43 f60) (a42 f60) (a09 f60) .none kV20 dc20 pm20 an20 cd20 ct20),sl20⟩)(c20:PySem.W.codeIn K cd20 "_law_text" = true)(k20:PySem.W.keepIn K (.ref f20)=true)
 (a21:PySem.W.nsIn K mainGlobals "_law_any_path" = some (some (.ref f21)))(l21:K.lookup f21=some ⟨oc21,od21,.func (PySem.W.fnOf "_law_any_path" "_law_any_path" (a43 b79) (a42 b79) (a09 b79) .none kV21 dc21 pm21 an21 cd21 ct21),sl21⟩)(c21:PySem.W.codeIn K cd21 "_law_any_path" = true)(k21:PySem.W.keepIn K (.ref f21)=true)
 (a22:PySem.W.nsIn K mainGlobals "_law_new_file" = some (some (.ref f22)))(l22:K.lookup f22=some ⟨oc22,od22,.func (PySem.W.fnOf "_law_new_file" "_law_new_file" (a43 b71) (a42 b71) (a09 b71) .none kV22 dc22 pm22 an22 cd22 ct22),sl22⟩)(c22:PySem.W.codeIn K cd22 "_law_new_file" = true)(k22:PySem.W.keepIn K (.ref f22)=true)
 (a23:PySem.W.nsIn K mainGlobals "_law_grow" = some (some (.ref f23)))(l23:K.lookup f23=some ⟨oc23,od23,.func (PySem.W.fnOf "_law_grow" "_law_grow" (a43 f53) (a42 f53) (a09 f53) .none kV23 dc23 pm23 an23 cd23 ct23),sl23⟩)(c23:PySem.W.codeIn K cd23 "_law_grow" = true)(k23:PySem.W.keepIn K (.ref f23)=true)
 (a24:PySem.W.nsIn K mainGlobals "_law_deep" = some (some (.ref f24)))(l24:K.lookup f24=some ⟨oc24,od24,.func (PySem.W.fnOf "_law_deep" "_law_deep" (a43 f52) (a42 f52) (a09 f52) .none kV24 dc24 pm24 an24 cd24 ct24),sl24⟩)(c24:PySem.W.codeIn K cd24 "_law_deep" = true)(k24:PySem.W.keepIn K (.ref f24)=true)
 (a25:PySem.W.nsIn K mainGlobals "_law_layer" = some (some (.ref f25)))(l25:K.lookup f25=some ⟨oc25,od25,.func (PySem.W.fnOf "_law_layer" "_law_layer" (a43 d15) (a42 d15) (a09 d15) .none kV25 dc25 pm25 an25 cd25 ct25),sl25⟩)(c25:PySem.W.codeIn K cd25 "_law_layer" = true)(k25:PySem.W.keepIn K (.ref f25)=true)
 (a26:PySem.W.nsIn K mainGlobals "_law_alike" = some (some (.ref f26)))(l26:K.lookup f26=some ⟨oc26,od26,.func (PySem.W.fnOf "_law_alike" "_law_alike" (a43 c59) (a42 c59) (a09 c59) .none kV26 dc26 pm26 an26 cd26 ct26),sl26⟩)(c26:PySem.W.codeIn K cd26 "_law_alike" = true)(k26:PySem.W.keepIn K (.ref f26)=true)
 (a27:PySem.W.nsIn K mainGlobals "law" = some (some (.ref f27)))(l27:K.lookup f27=some ⟨oc27,od27,.func (PySem.W.fnOf "law" "law" (a43 h19) (a42 h19) (a09 h19) .none kV27 dc27 pm27 an27 cd27 ct27),sl27⟩)(c27:PySem.W.codeIn K cd27 "law" = true)(k27:PySem.W.keepIn K (.ref f27)=true)
 (z0:PySem.W.nsIn K mainGlobals "len" = some none)
 (z1:PySem.W.nsIn K mainGlobals "abs" = some none)
 (z2:PySem.W.nsIn K mainGlobals "range" = some none)
 (z3:PySem.W.nsIn K mainGlobals "int" = some none)
 (z4:PySem.W.nsIn K mainGlobals "tuple" = some none)
 (z5:PySem.W.nsIn K mainGlobals "sorted" = some none)
 (z6:PySem.W.nsIn K mainGlobals "str" = some none)
 (z7:PySem.W.nsIn K mainGlobals "isinstance" = some none)
 (z8:PySem.W.nsIn K mainGlobals "all" = some none)
 (z9:PySem.W.nsIn K mainGlobals "enumerate" = some none)
 (z10:PySem.W.nsIn K mainGlobals "ord" = some none)
 (z11:PySem.W.nsIn K mainGlobals "zip" = some none)
 (z12:PySem.W.nsIn K mainGlobals "bool" = some none)
 (z13:PySem.W.nsIn K mainGlobals "list" = some none)
 (z14:PySem.W.nsIn K mainGlobals "reversed" = some none)
 (g0:PySem.W.nsIn K mainGlobals "LETTERS" = some (some (.str LET tLet)))
 (g1:PySem.W.nsIn K mainGlobals "LONGEST_NAME" = some (some (.int 8 tLong)))
 (g2:PySem.W.nsIn K mainGlobals "MOST_NAMES" = some (some (.int 8 tMost)))
 (g3:PySem.W.nsIn K mainGlobals "LONGEST_TEXT" = some (some (.int 200 tText)))
 (g4:PySem.W.nsIn K mainGlobals "FIGURES" = some (some (.str FIG tFig)))
 (g5:PySem.W.nsIn K mainGlobals "PERCENT" = some (some (.int 37 tPer)))
 (g6:PySem.W.nsIn K mainGlobals "MOST_ROWS" = some (some (.int 400 tRows)))
 (g7:PySem.W.nsIn K mainGlobals "MOST_FILES" = some (some (.int 200 tFiles)))
 {C q0 q1 q2 q3 q4 q5:Addr}{qod0 qan0 qod1 qan1 qod2 qan2 qod3 qan3 qod4 qan4 qod5 qan5:Option Addr}{qsl0 qsl1 qsl2 qsl3 qsl4 qsl5:Array (Option Value)}{qoc0 qkV0 qdc0 qpm0 qcd0 qct0 qoc1 qkV1 qdc1 qpm1 qcd1 qct1 qoc2 qkV2 qdc2 qpm2 qcd2 qct2 qoc3 qkV3 qdc3 qpm3 qcd3 qct3 qoc4 qkV4 qdc4 qpm4 qcd4 qct4 qoc5 qkV5 qdc5 qpm5 qcd5 qct5:Value}
 (aC:PySem.W.nsIn K mainGlobals "Reader" = some (some (.ref C)))
 (qa0:PySem.W.findIn K (.ref C) "__init__" = some (some (.ref q0)))
 (qi0:PySem.W.isFn K (.ref q0)=true)
 (ql0:K.lookup q0=some ⟨qoc0,qod0,.func (PySem.W.fnOf "__init__" "Reader.__init__" (a43 d24) (a42 d24) (a09 d24) .none qkV0 qdc0 qpm0 qan0 qcd0 qct0),qsl0⟩)
 (qc0:PySem.W.codeIn K qcd0 "Reader.__init__" = true)
 (qk0:PySem.W.keepIn K (.ref q0)=true)
 (qa1:PySem.W.findIn K (.ref C) "took_row" = some (some (.ref q1)))
 (qi1:PySem.W.isFn K (.ref q1)=true)
 (ql1:K.lookup q1=some ⟨qoc1,qod1,.func (PySem.W.fnOf "took_row" "Reader.took_row" (a43 b72) (a42 b72) (a09 b72) .none qkV1 qdc1 qpm1 qan1 qcd1 qct1),qsl1⟩)
 (qc1:PySem.W.codeIn K qcd1 "Reader.took_row" = true)
 (qk1:PySem.W.keepIn K (.ref q1)=true)
 (qa2:PySem.W.findIn K (.ref C) "took_entry" = some (some (.ref q2)))
 (qi2:PySem.W.isFn K (.ref q2)=true)
 (ql2:K.lookup q2=some ⟨qoc2,qod2,.func (PySem.W.fnOf "took_entry" "Reader.took_entry" (a43 b10) (a42 b10) (a09 b10) .none qkV2 qdc2 qpm2 qan2 qcd2 qct2),qsl2⟩)
 (qc2:PySem.W.codeIn K qcd2 "Reader.took_entry" = true)
 (qk2:PySem.W.keepIn K (.ref q2)=true)
 (qa3:PySem.W.findIn K (.ref C) "took_pair" = some (some (.ref q3)))
 (qi3:PySem.W.isFn K (.ref q3)=true)
 (ql3:K.lookup q3=some ⟨qoc3,qod3,.func (PySem.W.fnOf "took_pair" "Reader.took_pair" (a43 b35) (a42 b35) (a09 b35) .none qkV3 qdc3 qpm3 qan3 qcd3 qct3),qsl3⟩)
 (qc3:PySem.W.codeIn K qcd3 "Reader.took_pair" = true)
 (qk3:PySem.W.keepIn K (.ref q3)=true)
 (qa4:PySem.W.findIn K (.ref C) "is_whole" = some (some (.ref q4)))
 (qi4:PySem.W.isFn K (.ref q4)=true)
 (ql4:K.lookup q4=some ⟨qoc4,qod4,.func (PySem.W.fnOf "is_whole" "Reader.is_whole" (a43 b76) (a42 b76) (a09 b76) .none qkV4 qdc4 qpm4 qan4 qcd4 qct4),qsl4⟩)
 (qc4:PySem.W.codeIn K qcd4 "Reader.is_whole" = true)
 (qk4:PySem.W.keepIn K (.ref q4)=true)
 (qa5:PySem.W.findIn K (.ref C) "layer_read" = some (some (.ref q5)))
 (qi5:PySem.W.isFn K (.ref q5)=true)
 (ql5:K.lookup q5=some ⟨qoc5,qod5,.func (PySem.W.fnOf "layer_read" "Reader.layer_read" (a43 b09) (a42 b09) (a09 b09) .none qkV5 qdc5 qpm5 qan5 qcd5 qct5),qsl5⟩)
 (qc5:PySem.W.codeIn K qcd5 "Reader.layer_read" = true)
 (qk5:PySem.W.keepIn K (.ref q5)=true)
 (cpg:PySem.W.plainGet K C Str.empty=true)
 (chd:PySem.W.hasDictIn K C=true)
 (cpo:PySem.W.plainOver K C=true)
 (csa:PySem.W.findIn K (.ref C) "__setattr__" = some (some (.builtin "object.__setattr__")))
 (cmk:PySem.W.makesIn K C=true)
 (ckc:PySem.W.keepIn K (.ref C)=true)
 (cnE:PySem.W.findIn K (.ref C) "entries" = some none)
 (cnF:PySem.W.findIn K (.ref C) "files" = some none)
 (cnL:PySem.W.findIn K (.ref C) "last_path" = some none)
 (cnP:PySem.W.findIn K (.ref C) "folder_paths" = some none)
 (cnO:PySem.W.findIn K (.ref C) "origins" = some none)
 (cnN:PySem.W.findIn K (.ref C) "numbers" = some none)
 (kittt:PySem.W.kitOne K (.type "tuple") (.type "tuple")=some true)
 (kitnt:PySem.W.kitOne K (.type "NoneType") (.type "tuple")=some false)
 (kitst:PySem.W.kitOne K (.type "str") (.type "tuple")=some false)
 (kitit:PySem.W.kitOne K (.type "int") (.type "tuple")=some false)
 (kitss:PySem.W.kitOne K (.type "str") (.type "str")=some true)
 (kitis:PySem.W.kitOne K (.type "int") (.type "str")=some false)
 (kitii:PySem.W.kitOne K (.type "int") (.type "int")=some true)
 (kitib:PySem.W.kitOne K (.type "int") (.type "bool")=some false)
 : ∃ fd:FuncData,(∀(s:Shared) (v:Value),BindsTo s fd ⟨[v],[]⟩ [("_law_script", v)])/\∀ base:Heap,K.In base->base.Ns mainGlobals mg->FnOk l.prog w K mg base CX0 8 fa fd ["_law_script"] (g90 K):=by
 have e:=hfa.symm.trans (PySem.W.mg_of X G a27)
 cases e
 have FIsName:=a57 (st:=c56) l0 c0 k0
 have bIsName:=FIsName.binds (ps:=["word"]) fun _ _ _ _ _ _ us hl=>match us,hl with | [_],_=>rfl
 have mIsName:=PySem.W.mg_of X G a0
 have FPathText:=a57 (st:=b36) l1 c1 k1
 have bPathText:=FPathText.binds (ps:=["path"]) fun _ _ _ _ _ _ us hl=>match us,hl with | [_],_=>rfl
 have mPathText:=PySem.W.mg_of X G a1
 have FPathIn:=a57 (st:=c57) l2 c2 k2
 have bPathIn:=FPathIn.binds (ps:=["text"]) fun _ _ _ _ _ _ us hl=>match us,hl with | [_],_=>rfl
 have mPathIn:=PySem.W.mg_of X G a2
 have FPathUpTo:=a57 (st:=b28) l3 c3 k3
 have bPathUpTo:=FPathUpTo.binds (ps:=["text", "most"]) fun _ _ _ _ _ _ us hl=>match us,hl with | [_,_],_=>rfl
 have mPathUpTo:=PySem.W.mg_of X G a3
 have FParentOf:=a57 (st:=b29) l4 c4 k4
 have bParentOf:=FParentOf.binds (ps:=["path"]) fun _ _ _ _ _ _ us hl=>match us,hl with | [_],_=>rfl
 have mParentOf:=PySem.W.mg_of X G a4
 have FIsSign:=a57 (st:=c49) l5 c5 k5
 have bIsSign:=FIsSign.binds (ps:=["sign"]) fun _ _ _ _ _ _ us hl=>match us,hl with | [_],_=>rfl
 have mIsSign:=PySem.W.mg_of X G a5
 have FIsText:=a57 (st:=c51) l6 c6 k6
 have bIsText:=FIsText.binds (ps:=["text"]) fun _ _ _ _ _ _ us hl=>match us,hl with | [_],_=>rfl
 have mIsText:=PySem.W.mg_of X G a6
 have FNumberIn:=a57 (st:=b33) l7 c7 k7
 have bNumberIn:=FNumberIn.binds (ps:=["text", "most"]) fun _ _ _ _ _ _ us hl=>match us,hl with | [_,_],_=>rfl
 have mNumberIn:=PySem.W.mg_of X G a7
 have FLayerText:=a57 (st:=b12) l8 c8 k8
 have bLayerText:=FLayerText.binds (ps:=["layer"]) fun _ _ _ _ _ _ us hl=>match us,hl with | [_],_=>rfl
 have mLayerText:=PySem.W.mg_of X G a8
 have FEntryText:=a57 (st:=b08) l9 c9 k9
 have bEntryText:=FEntryText.binds (ps:=["entry"]) fun _ _ _ _ _ _ us hl=>match us,hl with | [_],_=>rfl
 have mEntryText:=PySem.W.mg_of X G a9
 have FPairText:=a57 (st:=b27) l10 c10 k10
 have bPairText:=FPairText.binds (ps:=["pair"]) fun _ _ _ _ _ _ us hl=>match us,hl with | [_],_=>rfl
 have mPairText:=PySem.W.mg_of X G a10
 have FReadLayer:=a57 (st:=b13) l11 c11 k11
 have bReadLayer:=FReadLayer.binds (ps:=["text"]) fun _ _ _ _ _ _ us hl=>match us,hl with | [_],_=>rfl
 have mReadLayer:=PySem.W.mg_of X G a11
 have FEntryIn:=a57 (st:=b75) l12 c12 k12
 have bEntryIn:=FEntryIn.binds (ps:=["row"]) fun _ _ _ _ _ _ us hl=>match us,hl with | [_],_=>rfl
 have mEntryIn:=PySem.W.mg_of X G a12
 have FFolderIn:=a57 (st:=b32) l13 c13 k13
 have bFolderIn:=FFolderIn.binds (ps:=["words"]) fun _ _ _ _ _ _ us hl=>match us,hl with | [_],_=>rfl
 have mFolderIn:=PySem.W.mg_of X G a13
 have FFileIn:=a57 (st:=c36) l14 c14 k14
 have bFileIn:=FFileIn.binds (ps:=["words"]) fun _ _ _ _ _ _ us hl=>match us,hl with | [_],_=>rfl
 have mFileIn:=PySem.W.mg_of X G a14
 have FGoneIn:=a57 (st:=c50) l15 c15 k15
 have bGoneIn:=FGoneIn.binds (ps:=["words"]) fun _ _ _ _ _ _ us hl=>match us,hl with | [_],_=>rfl
 have mGoneIn:=PySem.W.mg_of X G a15
 have FPairIn:=a57 (st:=c47) l16 c16 k16
 have bPairIn:=FPairIn.binds (ps:=["row"]) fun _ _ _ _ _ _ us hl=>match us,hl with | [_],_=>rfl
 have mPairIn:=PySem.W.mg_of X G a16
 have FBox:=a57 (st:=i61) l17 c17 k17
 have bBox:=FBox.binds (ps:=["_law_script", "_law_k"]) fun _ _ _ _ _ _ us hl=>match us,hl with | [_,_],_=>rfl
 have mBox:=PySem.W.mg_of X G a17
 have FTake:=a57 (st:=f33) l18 c18 k18
 have bTake:=FTake.binds (ps:=["_law_box_here", "_law_many"]) fun _ _ _ _ _ _ us hl=>match us,hl with | [_,_],_=>rfl
 have mTake:=PySem.W.mg_of X G a18
 have FWord:=a57 (st:=f54) l19 c19 k19
 have bWord:=FWord.binds (ps:=["_law_box_here"]) fun _ _ _ _ _ _ us hl=>match us,hl with | [_],_=>rfl
 have mWord:=PySem.W.mg_of X G a19
 have FText:=a57 (st:=f60) l20 c20 k20
 have bText:=FText.binds (ps:=["_law_box_here"]) fun _ _ _ _ _ _ us hl=>match us,hl with | [_],_=>rfl
 have mText:=PySem.W.mg_of X G a20
 have FAnyPath:=a57 (st:=b79) l21 c21 k21
 have bAnyPath:=FAnyPath.binds (ps:=["_law_box_here"]) fun _ _ _ _ _ _ us hl=>match us,hl with | [_],_=>rfl
 have mAnyPath:=PySem.W.mg_of X G a21
 have FNewFile:=a57 (st:=b71) l22 c22 k22
 have bNewFile:=FNewFile.binds (ps:=["_law_box_here", "_law_pairs"]) fun _ _ _ _ _ _ us hl=>match us,hl with | [_,_],_=>rfl
 have mNewFile:=PySem.W.mg_of X G a22
 have FGrow:=a57 (st:=f53) l23 c23 k23
 have bGrow:=FGrow.binds (ps:=["_law_box_here", "_law_rows", "_law_pairs", "_law_folders"]) fun _ _ _ _ _ _ us hl=>match us,hl with | [_,_,_,_],_=>rfl
 have mGrow:=PySem.W.mg_of X G a23
 have FDeep:=a57 (st:=f52) l24 c24 k24
 have bDeep:=FDeep.binds (ps:=["_law_rows", "_law_name"]) fun _ _ _ _ _ _ us hl=>match us,hl with | [_,_],_=>rfl
 have mDeep:=PySem.W.mg_of X G a24
 have FLayer:=a57 (st:=d15) l25 c25 k25
 have bLayer:=FLayer.binds (ps:=["_law_script"]) fun _ _ _ _ _ _ us hl=>match us,hl with | [_],_=>rfl
 have mLayer:=PySem.W.mg_of X G a25
 have FAlike:=a57 (st:=c59) l26 c26 k26
 have bAlike:=FAlike.binds (ps:=["_law_found", "_law_due"]) fun _ _ _ _ _ _ us hl=>match us,hl with | [_,_],_=>rfl
 have mAlike:=PySem.W.mg_of X G a26
 have FLaw:=a57 (st:=h19) l27 c27 k27
 have z_len:=PySem.W.mg_none_of X G z0
 have z_abs:=PySem.W.mg_none_of X G z1
 have z_range:=PySem.W.mg_none_of X G z2
 have z_int:=PySem.W.mg_none_of X G z3
 have z_tuple:=PySem.W.mg_none_of X G z4
 have z_sorted:=PySem.W.mg_none_of X G z5
 have z_str:=PySem.W.mg_none_of X G z6
 have z_isinstance:=PySem.W.mg_none_of X G z7
 have z_all:=PySem.W.mg_none_of X G z8
 have z_enumerate:=PySem.W.mg_none_of X G z9
 have z_ord:=PySem.W.mg_none_of X G z10
 have z_zip:=PySem.W.mg_none_of X G z11
 have z_bool:=PySem.W.mg_none_of X G z12
 have z_list:=PySem.W.mg_none_of X G z13
 have z_reversed:=PySem.W.mg_none_of X G z14
 have g_LETTERS:=PySem.W.mg_of X G g0
 have g_LONGEST_NAME:=PySem.W.mg_of X G g1
 have g_MOST_NAMES:=PySem.W.mg_of X G g2
 have g_LONGEST_TEXT:=PySem.W.mg_of X G g3
 have g_FIGURES:=PySem.W.mg_of X G g4
 have g_PERCENT:=PySem.W.mg_of X G g5
 have g_MOST_ROWS:=PySem.W.mg_of X G g6
 have g_MOST_FILES:=PySem.W.mg_of X G g7
 refine⟨PySem.W.fnOf "law" "law" (a43 h19) (a42 h19) (a09 h19) .none kV27 dc27 pm27 an27 cd27 ct27,fun s v=>.of_eq rfl,fun base _ _=>?_⟩
 have kt:Kits K:=⟨kittt,kitnt,kitst,kitit,kitss,kitis,kitii,kitib⟩
 have mReader:=PySem.W.mg_of X G aC
 have T:Txt K C:=⟨⟨cpg,chd,cpo,csa⟩,cnE,cnF,cnL,cnP,cnO,cnN⟩
 have FRInit:=a57 (st:=d24) ql0 qc0 qk0
 have bRInit:=FRInit.binds (ps:=["self"]) fun _ _ _ _ _ _ us hl=>match us,hl with | [_],_=>rfl
 have FTookRow:=a57 (st:=b72) ql1 qc1 qk1
 have bTookRow:=FTookRow.binds (ps:=["self", "row"]) fun _ _ _ _ _ _ us hl=>match us,hl with | [_,_],_=>rfl
 have FTookEntry:=a57 (st:=b10) ql2 qc2 qk2
 have bTookEntry:=FTookEntry.binds (ps:=["self", "entry"]) fun _ _ _ _ _ _ us hl=>match us,hl with | [_,_],_=>rfl
 have FTookPair:=a57 (st:=b35) ql3 qc3 qk3
 have bTookPair:=FTookPair.binds (ps:=["self", "pair"]) fun _ _ _ _ _ _ us hl=>match us,hl with | [_,_],_=>rfl
 have FIsWhole:=a57 (st:=b76) ql4 qc4 qk4
 have bIsWhole:=FIsWhole.binds (ps:=["self"]) fun _ _ _ _ _ _ us hl=>match us,hl with | [_],_=>rfl
 have FLayerRead:=a57 (st:=b09) ql5 qc5 qk5
 have bLayerRead:=FLayerRead.binds (ps:=["self"]) fun _ _ _ _ _ _ us hl=>match us,hl with | [_],_=>rfl
 have DBox:Def l.prog w K mg base 1 "_law_box" ["_law_script", "_law_k"] (i27 K):=⟨f17,_,j01 FBox z_len z_abs,mBox,k17,bBox⟩
 have c34:Def l.prog w K mg base 1 "_law_take" ["_law_box_here", "_law_many"] g15:=⟨f18,_,i45 FTake,mTake,k18,bTake⟩
 have DWord:Def l.prog w K mg base 2 "_law_word" ["_law_box_here"] d88:=⟨f19,_,i02 FWord z_range c34,mWord,k19,bWord⟩
 have DText:Def l.prog w K mg base 2 "_law_text" ["_law_box_here"] f32:=⟨f20,_,h95 FText z_range c34,mText,k20,bText⟩
 have DAnyPath:Def l.prog w K mg base 3 "_law_any_path" ["_law_box_here"] h44:=⟨f21,_,i69 FAnyPath z_range z_int z_tuple c34 DWord,mAnyPath,k21,bAnyPath⟩
 have DNewFile:Def l.prog w K mg base 4 "_law_new_file" ["_law_box_here", "_law_pairs"] i49:=⟨f22,_,j06 FNewFile z_len c34 DAnyPath DText,mNewFile,k22,bNewFile⟩
 have DGrow:Def l.prog w K mg base 5 "_law_grow" ["_law_box_here", "_law_rows", "_law_pairs", "_law_folders"] f76:=⟨f23,_,i46 FGrow z_len c34 DWord DAnyPath DText DNewFile,mGrow,k23,bGrow⟩
 have DDeep:Def l.prog w K mg base 1 "_law_deep" ["_law_rows", "_law_name"] g48:=⟨f24,_,i10 FDeep z_range,mDeep,k24,bDeep⟩
 have DLayer:Def l.prog w K mg base 6 "_law_layer" ["_law_script"] (e50 K):=⟨f25,_,h52 FLayer z_len z_range z_tuple z_sorted c34 DBox DWord DGrow DDeep,mLayer,k25,bLayer⟩
 have DPathText:Def l.prog w K mg base 1 "path_text" ["path"] spPT:=⟨f1,_,e24 FPathText,mPathText,k1,bPathText⟩
 have DEntryText:Def l.prog w K mg base 2 "entry_text" ["entry"] g01:=⟨f9,_,i58 FEntryText DPathText,mEntryText,k9,bEntryText⟩
 have DPairText:Def l.prog w K mg base 2 "pair_text" ["pair"] h94:=⟨f10,_,i80 FPairText DPathText,mPairText,k10,bPairText⟩
 have DLayerText:Def l.prog w K mg base 3 "layer_text" ["layer"] spLT:=⟨f8,_,ok_LT FLayerText DEntryText DPairText,mLayerText,k8,bLayerText⟩
 have DIsName:Def l.prog w K mg base 1 "is_name" ["word"] d62:=⟨f0,_,f70 FIsName z_len z_all g_LETTERS g_LONGEST_NAME,mIsName,k0,bIsName⟩
 have DPathUpTo:Def l.prog w K mg base 2 "path_up_to" ["text", "most"] c67:=⟨f3,_,f72 FPathUpTo z_len z_all z_tuple DIsName,mPathUpTo,k3,bPathUpTo⟩
 have DPathIn:Def l.prog w K mg base 3 "path_in" ["text"] c04:=⟨f2,_,g61 FPathIn g_MOST_NAMES DPathUpTo,mPathIn,k2,bPathIn⟩
 have DParentOf:Def l.prog w K mg base 1 "parent_of" ["path"] d63:=⟨f4,_,g79 FParentOf,mParentOf,k4,bParentOf⟩
 have DIsSign:Def l.prog w K mg base 1 "is_sign" ["sign"] g18:=⟨f5,_,i48 FIsSign z_ord g_PERCENT,mIsSign,k5,bIsSign⟩
 have DIsText:Def l.prog w K mg base 2 "is_text" ["text"] d57:=⟨f6,_,g50 FIsText z_len z_all g_LONGEST_TEXT DIsSign,mIsText,k6,bIsText⟩
 have DNumberIn:Def l.prog w K mg base 1 "number_in" ["text", "most"] e37:=⟨f7,_,g84 FNumberIn z_len z_all z_str z_int g_FIGURES,mNumberIn,k7,bNumberIn⟩
 have DGoneIn:Def l.prog w K mg base 3 "gone_in" ["words"] d68:=⟨f15,_,f79 FGoneIn z_len g_MOST_NAMES DPathUpTo,mGoneIn,k15,bGoneIn⟩
 have DFileIn:Def l.prog w K mg base 4 "file_in" ["words"] d48:=⟨f14,_,f71 FFileIn z_len g_MOST_FILES DPathIn DNumberIn,mFileIn,k14,bFileIn⟩
 have DFolderIn:Def l.prog w K mg base 4 "folder_in" ["words"] d72:=⟨f13,_,g77 FFolderIn z_len DPathIn,mFolderIn,k13,bFolderIn⟩
 have DEntryIn:Def l.prog w K mg base 5 "entry_in" ["row"] e49:=⟨f12,_,g94 FEntryIn DFolderIn DFileIn DGoneIn,mEntryIn,k12,bEntryIn⟩
 have DPairIn:Def l.prog w K mg base 4 "pair_in" ["row"] d65:=⟨f16,_,f83 FPairIn z_len DPathIn DIsText,mPairIn,k16,bPairIn⟩
 have DReadLayer:Def l.prog w K mg base 7 "read_layer" ["text"] g00:=⟨f11,_,i42 FReadLayer T z_enumerate ⟨⟨q0,_,h25 FRInit T,⟨cmk,qa0,qi0,ckc⟩,mReader,bRInit⟩⟩ ⟨⟨q1,_,h04 FTookRow T DPairIn DEntryIn ⟨⟨q3,_,h56 FTookPair T z_len g_MOST_FILES,⟨qa3,qi3,qk3⟩,bTookPair⟩⟩ ⟨⟨q2,_,h48 FTookEntry T z_len g_MOST_ROWS DParentOf,⟨qa2,qi2,qk2⟩,bTookEntry⟩⟩,⟨qa1,qi1,qk1⟩,bTookRow⟩⟩ ⟨⟨q4,_,h09 FIsWhole T z_len z_all z_enumerate,⟨qa4,qi4,qk4⟩,bIsWhole⟩⟩ ⟨⟨q5,_,ok_LR FLayerRead T z_tuple,⟨qa5,qi5,qk5⟩,bLayerRead⟩⟩,mReadLayer,k11,bReadLayer⟩
 have DAlike:Def l.prog w K mg base 5 "_law_alike" ["_law_found", "_law_due"] (c75 4):=⟨f26,_,e76 FAlike kt z_isinstance z_tuple z_str z_int z_bool z_len z_all z_zip mAlike k26 bAlike 4,mAlike,k26,bAlike⟩
 exact i95 (fun _ h=>layG h) FLaw kitss z_isinstance z_str z_list z_reversed z_tuple z_len DLayer DLayerText DReadLayer DAlike
theorem walk {l:PySem.W.OpenLaw}{q:Program}{loose:List Str}{XP:(Str->Option Value)->Heap->Prop}{YP:World->Heap->Prop}{d:DefRec}{K:Params->PySem.W.Frag}(hn:l.most=some 63)(hdf:d.params.defaults=[])
 (hY:∀(w:World)(h:Heap),YP w h->(K w.params).In h)
 (F:∀(w:World) (mg:Str->Option Value)(fa:Addr)(h:Heap),(K w.params).In h->h.Ns mainGlobals mg->mg d.name=some (.ref fa) ->
   ∃ fd:FuncData,(∀(s:Shared) (u:Value),BindsTo s fd ⟨[u],[]⟩ [("_law_script", u)])/\∀ base:Heap,(K w.params).In base->base.Ns mainGlobals mg->FnOk l.prog w (K w.params) mg base CX0 8 fa fd ["_law_script"] (g90 (K w.params))) :
 PySem.W.WalkO q loose XP YP l.row.toRowW d [] (fun f vs=>PySem.call f vs) :=
 L2.walk_of (n:=63) (k:=8) (x := "_law_script") (CX:=fun _=>CX0) (sp:=fun w=>g90 (K w.params)) hn (by decide) hdf ⟨rfl,by decide,by decide⟩ hY F (fun _ _ a ns hl _ hS=>⟨a,ns,rfl,hS,hl,fun _=>rfl⟩) fun _ _ _ _ _ z=>z
end K25
namespace PySem.W.Fast
def tw16050421970735287825:=0
def tw3901391363573885953:=0
def tw11208906294358173036:=0
def tw9584344568218101609:=0
def tw8809383713660527121:=0
def tw2503630224890738149:=0
def tw2480768846727504075:=0
def tw9447560876356808821:=0
def tw13484894527169760596:=0
def tw14560485313629402729:=0
def tw14102197855996256712:=0
def tw12516311963523112749:=0
def tw14492394916541758971:=0
def tw6661584205642700534:=0
def tw13472018686346434256:=0
def tw8044021474516363473:=0
def tw2991762429495953808:=0
def tw6307338853579647937:=0
def tw17913536429956102789:=0
def tw2527740166312876398:=0
def tw6278259891675174769:=0
def tw5529617264455234039:=0
def tw12761960320335946633:=0
def tw5204585433630686222:=0
def tw14989943125803827868:=0
def tw3517315736621657649:=0
def tw15852143665676057125:=0
def tw7891605171076476196:=0
def tw16534936600079090816:=0
def tw8907764562611923258:=0
def tw104382331645429372:=0
def tw9050551013830739332:=0
def tw6810514319180011618:=0
def tw14998744636049905010:=0
def tw18108817688332046223:=0
def tw2780599554100544133:=0
def tw1948366745452671486:=0
def tw6460289109141027944:=0
def tw4635415009150435806:=0
def tw3041591858164280127:=0
def tw1816326241992248286:=0
def tw2581925222919689089:=0
def tw16439938624347921711:=0
def tw9194693503414330953:=0
def tw1009367409791389005:=0
def tw17788763065200467234:=0
def tw15823370125133616726:=0
def tw2275312953980250571:=0
def tw8537956131855332850:=0
def tw4499490221250547937:=0
def tw2340263192201179010:=0
def tw329193282076286407:=0
def tw14195616144604551829:=0
def tw15351096647718353019:=0
def tw4129068833773051651:=0
end PySem.W.Fast
open PySem PySem.W PyProof.Rows
set_option maxRecDepth 100000 in
set_option maxHeartbeats 0 in
theorem PySem.Challenge.cw_overfold_k25_whole_written_and_read_holds : PySem.Challenge.rw_overfold_k25_whole_written_and_read.Holds := by
 w_on;o_law;k_head;(case hw=>w_witness2)
 k_fill
 refine K25.walk (l:=PySem.Challenge.rw_overfold_k25_whole_written_and_read) rfl rfl (fun w h Y=>PySem.W.kIn_of Y) ?F
 case F =>
  intro w mg fa h KX G hmg
  refine' K25.all_mk KX G hmg ?uua0 ?uul0 ?uuc0 ?uuk0 ?uua1 ?uul1 ?uuc1 ?uuk1 ?uua2 ?uul2 ?uuc2 ?uuk2 ?uua3 ?uul3 ?uuc3 ?uuk3 ?uua4 ?uul4 ?uuc4 ?uuk4 ?uua5 ?uul5 ?uuc5 ?uuk5 ?uua6 ?uul6 ?uuc6 ?uuk6 ?uua7 ?uul7 ?uuc7 ?uuk7 ?uua8 ?uul8 ?uuc8 ?uuk8 ?uua9 ?uul9 ?uuc9 ?uuk9 ?uua10 ?uul10 ?uuc10 ?uuk10 ?uua11 ?uul11 ?uuc11 ?uuk11 ?uua12 ?uul12 ?uuc12 ?uuk12 ?uua13 ?uul13 ?uuc13 ?uuk13 ?uua14 ?uul14 ?uuc14 ?uuk14 ?uua15 ?uul15 ?uuc15 ?uuk15 ?uua16 ?uul16 ?uuc16 ?uuk16 ?uua17 ?uul17 ?uuc17 ?uuk17 ?uua18 ?uul18 ?uuc18 ?uuk18 ?uua19 ?uul19 ?uuc19 ?uuk19 ?uua20 ?uul20 ?uuc20 ?uuk20 ?uua21 ?uul21 ?uuc21 ?uuk21 ?uua22 ?uul22 ?uuc22 ?uuk22 ?uua23 ?uul23 ?uuc23 ?uuk23 ?uua24 ?uul24 ?uuc24 ?uuk24 ?uua25 ?uul25 ?uuc25 ?uuk25 ?uua26 ?uul26 ?uuc26 ?uuk26 ?uua27 ?uul27 ?uuc27 ?uuk27 ?uuz0 ?uuz1 ?uuz2 ?uuz3 ?uuz4 ?uuz5 ?uuz6 ?uuz7 ?uuz8 ?uuz9 ?uuz10 ?uuz11 ?uuz12 ?uuz13 ?uuz14 ?uug0 ?uug1 ?uug2 ?uug3 ?uug4 ?uug5 ?uug6 ?uug7 ?uuaC ?uuqa0 ?uuqi0 ?uuql0 ?uuqc0 ?uuqk0 ?uuqa1 ?uuqi1 ?uuql1 ?uuqc1 ?uuqk1 ?uuqa2 ?uuqi2 ?uuql2 ?uuqc2 ?uuqk2 ?uuqa3 ?uuqi3 ?uuql3 ?uuqc3 ?uuqk3 ?uuqa4 ?uuqi4 ?uuql4 ?uuqc4 ?uuqk4 ?uuqa5 ?uuqi5 ?uuql5 ?uuqc5 ?uuqk5 ?uucpg ?uuchd ?uucpo ?uucsa ?uucmk ?uuckc ?uucnE ?uucnF ?uucnL ?uucnP ?uucnO ?uucnN ?uukittt ?uukitnt ?uukitst ?uukitit ?uukitss ?uukitis ?uukitii ?uukitib
  (case uua0=>k_is)
  (case uul0=>k_is)
  (case uuc0=>k_is)
  (case uuk0=>k_is)
  (case uua1=>k_is)
  (case uul1=>k_is)
  (case uuc1=>k_is)
  (case uuk1=>k_is)
  (case uua2=>k_is)
  (case uul2=>k_is)
  (case uuc2=>k_is)
  (case uuk2=>k_is)
  (case uua3=>k_is)
  (case uul3=>k_is)
  (case uuc3=>k_is)
  (case uuk3=>k_is)
  (case uua4=>k_is)
  (case uul4=>k_is)
  (case uuc4=>k_is)
  (case uuk4=>k_is)
  (case uua5=>k_is)
  (case uul5=>k_is)
  (case uuc5=>k_is)
  (case uuk5=>k_is)
  (case uua6=>k_is)
  (case uul6=>k_is)
  (case uuc6=>k_is)
  (case uuk6=>k_is)
  (case uua7=>k_is)
  (case uul7=>k_is)
  (case uuc7=>k_is)
  (case uuk7=>k_is)
  (case uua8=>k_is)
  (case uul8=>k_is)
  (case uuc8=>k_is)
  (case uuk8=>k_is)
  (case uua9=>k_is)
  (case uul9=>k_is)
  (case uuc9=>k_is)
  (case uuk9=>k_is)
  (case uua10=>k_is)
  (case uul10=>k_is)
  (case uuc10=>k_is)
  (case uuk10=>k_is)
  (case uua11=>k_is)
  (case uul11=>k_is)
  (case uuc11=>k_is)
  (case uuk11=>k_is)
  (case uua12=>k_is)
  (case uul12=>k_is)
  (case uuc12=>k_is)
  (case uuk12=>k_is)
  (case uua13=>k_is)
  (case uul13=>k_is)
  (case uuc13=>k_is)
  (case uuk13=>k_is)
  (case uua14=>k_is)
  (case uul14=>k_is)
  (case uuc14=>k_is)
  (case uuk14=>k_is)
  (case uua15=>k_is)
  (case uul15=>k_is)
  (case uuc15=>k_is)
  (case uuk15=>k_is)
  (case uua16=>k_is)
  (case uul16=>k_is)
  (case uuc16=>k_is)
  (case uuk16=>k_is)
  (case uua17=>k_is)
  (case uul17=>k_is)
  (case uuc17=>k_is)
  (case uuk17=>k_is)
  (case uua18=>k_is)
  (case uul18=>k_is)
  (case uuc18=>k_is)
  (case uuk18=>k_is)
  (case uua19=>k_is)
  (case uul19=>k_is)
  (case uuc19=>k_is)
  (case uuk19=>k_is)
  (case uua20=>k_is)
  (case uul20=>k_is)
  (case uuc20=>k_is)
  (case uuk20=>k_is)
  (case uua21=>k_is)
  (case uul21=>k_is)
  (case uuc21=>k_is)
  (case uuk21=>k_is)
  (case uua22=>k_is)
  (case uul22=>k_is)
  (case uuc22=>k_is)
  (case uuk22=>k_is)
  (case uua23=>k_is)
  (case uul23=>k_is)
  (case uuc23=>k_is)
  (case uuk23=>k_is)
  (case uua24=>k_is)
  (case uul24=>k_is)
  (case uuc24=>k_is)
  (case uuk24=>k_is)
  (case uua25=>k_is)
  (case uul25=>k_is)
  (case uuc25=>k_is)
  (case uuk25=>k_is)
  (case uua26=>k_is)
  (case uul26=>k_is)
  (case uuc26=>k_is)
  (case uuk26=>k_is)
  (case uua27=>k_is)
  (case uul27=>k_is)
  (case uuc27=>k_is)
  (case uuk27=>k_is)
  (case uuz0=>k_is)
  (case uuz1=>k_is)
  (case uuz2=>k_is)
  (case uuz3=>k_is)
  (case uuz4=>k_is)
  (case uuz5=>k_is)
  (case uuz6=>k_is)
  (case uuz7=>k_is)
  (case uuz8=>k_is)
  (case uuz9=>k_is)
  (case uuz10=>k_is)
  (case uuz11=>k_is)
  (case uuz12=>k_is)
  (case uuz13=>k_is)
  (case uuz14=>k_is)
  (case uug0=>k_is)
  (case uug1=>k_is)
  (case uug2=>k_is)
  (case uug3=>k_is)
  (case uug4=>k_is)
  (case uug5=>k_is)
  (case uug6=>k_is)
  (case uug7=>k_is)
  (case uuaC=>k_is)
  (case uuqa0=>k_is)
  (case uuqi0=>k_is)
  (case uuql0=>k_is)
  (case uuqc0=>k_is)
  (case uuqk0=>k_is)
  (case uuqa1=>k_is)
  (case uuqi1=>k_is)
  (case uuql1=>k_is)
  (case uuqc1=>k_is)
  (case uuqk1=>k_is)
  (case uuqa2=>k_is)
  (case uuqi2=>k_is)
  (case uuql2=>k_is)
  (case uuqc2=>k_is)
  (case uuqk2=>k_is)
  (case uuqa3=>k_is)
  (case uuqi3=>k_is)
  (case uuql3=>k_is)
  (case uuqc3=>k_is)
  (case uuqk3=>k_is)
  (case uuqa4=>k_is)
  (case uuqi4=>k_is)
  (case uuql4=>k_is)
  (case uuqc4=>k_is)
  (case uuqk4=>k_is)
  (case uuqa5=>k_is)
  (case uuqi5=>k_is)
  (case uuql5=>k_is)
  (case uuqc5=>k_is)
  (case uuqk5=>k_is)
  (case uucpg=>k_is)
  (case uuchd=>k_is)
  (case uucpo=>k_is)
  (case uucsa=>k_is)
  (case uucmk=>k_is)
  (case uuckc=>k_is)
  (case uucnE=>k_is)
  (case uucnF=>k_is)
  (case uucnL=>k_is)
  (case uucnP=>k_is)
  (case uucnO=>k_is)
  (case uucnN=>k_is)
  (case uukittt=>kit_is)
  (case uukitnt=>kit_is)
  (case uukitst=>kit_is)
  (case uukitit=>kit_is)
  (case uukitss=>kit_is)
  (case uukitis=>kit_is)
  (case uukitii=>kit_is)
  (case uukitib=>kit_is)