import PyProof.Rows.All
import Wide.All
import OpenK.AllK
import Wide.FinOn
import Lean
import PyProof.EqAt
import PyProof.EqKinds
import PyProof.TupleCall
import PyProof.NeKinds
import KE.KSortTup
import PySem.Challenge.RW_overfold_k23_rows_in_their_places
open PySem renaming sizeLine → zL, Shared → Sd, Program → Pm, FuncData → FD, mainGlobals → mG
open List renaming size_toArray → lS, mem_append_right → lR, getD_eq_getElem?_getD → lG, not_mem_nil → lN, getElem?_set_ne → lE, getElem?_append_right → lA
open PySem.W renaming nsIn → wN, mg_of → wM, mg_none_of → wO, findIn → wF
open PySem renaming boot_len → bLn
open Nat renaming ne_of_lt → nLQ, lt_of_lt_of_le → nTQ
open Option renaming bind_some → oB
open PySem.F renaming plainAttrs_str → pS, plainAttrs_list → pLQ, slot_str_split → pZ, type_str_split → pY
set_option compiler.extract_closed false
set_option Elab.async false
set_option linter.all false
set_option maxRecDepth 100000
set_option maxHeartbeats 1000000
abbrev VSP:=PySem.Value->PySem.Shared->Prop
abbrev LAO:=List (PySem.Addr×PySem.Obj)
abbrev WFr:=PySem.W.Frag
section
open PySem PyProof.Rows
abbrev Aj:=@List.length_map
abbrev Aq:=@Heap.get?_push_of_some
abbrev Ax:=@List.mem_singleton
abbrev Az:=@decide_eq_true
abbrev AJ:=@of_decide_eq_true
abbrev AQ:=@wpAny_bind
abbrev AX:=@wpAny_pure
abbrev AZ:=@Nat.le_refl
abbrev Bj:=@List.length_append
abbrev Bq:=@List.mem_append
abbrev Bx:=@List.getElem?_eq_getElem
abbrev Bz:=@List.map_append
abbrev BJ:=@List.mem_of_getElem?
abbrev BQ:=@List.mem_cons_of_mem
abbrev BX:=@List.mem_cons_self
abbrev BZ:=@List.mem_cons
abbrev Cj:=@Array.length_toList
abbrev Cq:=@List.length_cons
abbrev Cz:=@List.map_cons
abbrev CJ:=@List.getElem?_map
abbrev CQ:=@List.length_take
abbrev CZ:=@Str.length_append
abbrev Dj:=@Int.toNat_natCast
abbrev Dq:=@wpAny_mono
abbrev Dx:=@Heap.get?_push_size
abbrev Dz:=@List.take_of_length_le
abbrev DJ:=@Heap.get?_update_other
abbrev DQ:=@Heap.lt_size
abbrev DZ:=@wpAny_typeOf
abbrev Ej:=@List.getElem?_eq_some_iff
abbrev Ex:=@List.mem_map
abbrev Ez:=@Option.some.inj
abbrev EJ:=@List.length_drop
abbrev EQ:=@List.take_succ
abbrev EX:=@Int.emod_lt_of_pos
abbrev EZ:=@wpAny_newObj_type
abbrev Fj:=@Bool.false_ne_true
abbrev Fq:=@decide_eq_false
abbrev Fx:=@Nat.zero_le
abbrev Fz:=@Nat.le_trans
abbrev FJ:=@Nat.le_succ
end
namespace Srt
open PySem PyProof.Rows
set_option autoImplicit false
def ltS (a b:Str):Bool:=decide (a.cps.toList < b.cps.toList)
theorem str_ext {a b:Str}(h:a.cps.toList=b.cps.toList):a=b:=by
 cases a;cases b;congr 1;exact Array.toList_inj.mp h
def lexB:List Str->List Str->Bool
 | [],[]=>false
 | [],_::_=>true
 | _::_,[]=>false
 | a::x,b::y=>if a=b then lexB x y else ltS a b
section
variable {prog:Pm}{w:World}{A:Around}{E:VSP}{s:Sd}
theorem e64 {b:Bool}(hb:b=true):∀ {us vs:List Value}{zs ys:List Str} (i:Nat){Q:Bool->Sd->Prop},StrsAre us zs->StrsAre vs ys->Q (lexB zs ys) s ->
 PySem.W.KatLex prog w A b (decide (zs.length < ys.length)) Q (us.zip vs) i s
 | [],[],_,_,i,Q,.nil,.nil,h=>h
 | [],_::_,_,_,i,Q,.nil,.cons _ _ _,h=>by
  show Q _ s;rw[show decide (([]:List Str).length < (_::_:List Str).length)=true from Az (Nat.zero_lt_succ _)];exact h
 | _::_,[],_,_,i,Q,.cons _ _ _,.nil,h=>by
  show Q _ s;rw[show decide ((_::_:List Str).length < ([]:List Str).length)=false from Fq (Nat.not_lt_zero _)];exact h
 | _::us,_::vs,_,_,i,Q,.cons (ys:=zs) a t r1,.cons (ys:=ys) c u r2,h=>by
  rw[List.zip_cons_cons];refine PySem.W.kat_cons (wpAny_eqBool_str ?_);unfold lexB at h;by_cases e:a=c
  ·rw[Az e];rw[if_pos e] at h;refine PySem.W.kat_yes ?_;have q:=e64 hb (i+1) r1 r2 h;rw[Cq,Cq,show decide (zs.length+1 < ys.length+1)=decide (zs.length < ys.length) by congr 1;exact propext ⟨fun q=>by lia,fun q=>by lia⟩];exact q
  ·rw[Fq e];rw[if_neg e] at h;refine PySem.W.kat_no ?_;subst hb;cases i with
   | zero=>exact oneLt_str h
   | succ i=>exact PySem.W.kat_one _ _ (PyProof.Rows.lt_str h)
structure PathV (h:Heap) (v:Value) (zs:List Str):Prop where
 ex:∃ a o xs n,v=.ref a/\h.get? a=some o/\o.cls=.type "tuple"/\o.data=.seq xs n/\StrsAre xs.toList zs
theorem path_lt {x y:Value}{zs ys:List Str}{Q:Bool->Sd->Prop}(px:PathV s.heap x zs)(py:PathV s.heap y ys)(h:Q (lexB zs ys) s):wpAny (model prog w) A (keyLt' (tuples' true) x y) Q E s:=by
 obtain⟨a,o,xs,n,rfl,h1,h2,h3,h4⟩:=px.ex;obtain⟨a',o',xs',n',rfl,h1',h2',h3',h4'⟩:=py.ex;refine PySem.W.kat_lt h1 h3 h1' h3' ?_;have e1:xs.size=zs.length:=by rw[← h4.strs,Aj,Cj]
 have e2:xs'.size=ys.length:=by rw[← h4'.strs,Aj,Cj]
 rw[e1,e2];exact e64 rfl 0 h4 h4' h
theorem kind_paths {vs:List Value}{Q:SortKind->Sd->Prop}(h2:vs≠[])(hv:∀ v∈vs,∃ zs,PathV s.heap v zs/\zs≠[])(h:Q (tuples' true) s):wpAny (model prog w) A (keyKind' vs.toArray) Q E s:=by
 have go:∀ vs:List Value,(∀ v∈vs,∃ zs,PathV s.heap v zs/\zs≠[])->∃ fs,PySem.W.KatTups s.heap vs fs/\fs.length=vs.length/\∀ v∈fs,∃ x t,v=Value.str x t:=by
  intro vs;induction vs with
  | nil=>exact fun _=>⟨[],trivial,rfl,fun _ q=>nomatch q⟩
  | cons v vs ih =>
   intro hv;obtain⟨fs,i1,i2,i3⟩:=ih fun u hu=>hv u (BQ _ hu);obtain⟨zs,p,hz⟩:=hv v BX;obtain⟨a,o,xs,n,rfl,h1,hc,h3,h4⟩:=p.ex;have e:xs.size=zs.length:=by rw[← h4.strs,Aj,Cj]
   have hp:0 < xs.size:=by
    rw[e];exact List.length_pos_iff.mpr hz
   have hm:xs[0]∈xs.toList:=by simp
   obtain⟨x,t,ex⟩:=h4.all _ hm;refine⟨xs[0]::fs,.cons h1 hc h3 (getElem?_pos xs 0 hp) i1,by rw[Cq,Cq,i2],fun u hu=>?_⟩;rcases BZ.mp hu with rfl | hu
   ·exact⟨x,t,ex⟩
   ·exact i3 u hu
 obtain⟨fs,i1,i2,i3⟩:=go vs hv;refine PySem.W.kat_kind (T:=.type "str") i1 (by rw[i2];exact List.length_pos_iff.mpr h2) (fun v hv=>?_) rfl h;obtain⟨x,t,rfl⟩:=i3 v hv;exact .now
end
end Srt
namespace Srt
open PySem PyProof.Rows
set_option autoImplicit false
def RawD (h:Heap)(d:Addr)(es:Array DictEntry) (ep:Nat):Prop:=∃ o,h.get? d=some o/\o.ExactDict/\o.data=.dict es ep
theorem RawD.at {h h':Heap}{d:Addr}{es:Array DictEntry}{ep:Nat}(x:RawD h d es ep)(e:∀ o,h.get? d=some o->h'.get? d=some o):RawD h' d es ep:=let ⟨o,ho,r⟩:=x;⟨o,e _ ho,r⟩
theorem RawD.type {s:Sd}{d:Addr}{es:Array DictEntry}{ep:Nat}(x:RawD s.heap d es ep):s.TypeIs (.ref d) "dict" := let ⟨o,ho,r,_⟩:=x;⟨o,ho,r.1⟩
section
variable {prog:Pm}{w:World}{A:Around}{E:VSP}{s:Sd}{d J:Addr}{es:Array DictEntry}{ep i:Nat}
theorem h07 {Q:VSP}(hd:(d == sysModules)=false)(x:RawD s.heap d es ep)
 (q:Q (.ref s.heap.objs.size) { s with heap:=s.heap.push { cls:=.type "dict_keyiterator", data:=.fields #[.ref d,.int 0 0,.int es.size 0,.int ep 0] } }):wpAny (model prog w) A (pyIter (.ref d)) Q E s:=by
 have tD:=x.type;obtain⟨o,ho,hc,hdat⟩:=x;refine wpAny_pyIter_slot tD PySem.F.slot_dict_iter (wpAny_call_entry PySem.F.slot_dict_iter tD PySem.F.entry_dict_iter ?_ (PySem.F.args_dict_iter_1 _));unfold Builtin.«dict.__iter__»;refine AQ ?_;unfold Builtin.Dict.dictSlotNone;refine AQ (wpAny_notOrdered_dict tD ?_);show wpAny _ _ (pure (Value.ref d)) _ _ s;refine AX ?_;show wpAny _ _ (Builtin.Dict.showsAll d >>= _) _ _ s;unfold Builtin.Dict.showsAll;rw[if_neg (by rw[hd];simp)];refine AQ (AX (AQ (wpAny_dictEntries ho hdat (AQ (wpAny_dictEpoch ho hdat ?_)))));exact AQ (EZ (AX ⟨_,rfl, "dict_keyiterator", _,⟨_,Dx _ rfl,rfl⟩,PySem.F.slot_dict_keyiterator_next.lookup,q⟩))
theorem g92 {x:DictEntry}{Q:Option Value->Sd->Prop}(hit:s.heap.IsKeyIter J d i es.size ep)(hm:RawD s.heap d es ep)(hx:es[i]?=some x)
 (q:∀ h',h'.IsKeyIter J d (i+1) es.size ep->Heap.SameBut J s.heap h'->Q (some x.key) { s with heap:=h' }):wpAny (model prog w) A (pyNext (.ref J)) Q E s:=by
 obtain⟨o,ho,hc,hd⟩:=id hit;obtain⟨od,hod,hcd,hdd⟩:=id hm;have tJ:=hit.typeIs;unfold pyNext;refine AQ (wpAny_attempt (wpAny_callSpecial?_slot (name:=Str.ofString "__next__") tJ PySem.F.slot_dict_keyiterator_next (wpAny_call_entry PySem.F.slot_dict_keyiterator_next tJ PySem.F.entry_dict_keyiterator_next ?_ (PySem.F.args_dict_keyiterator_next_1 _))));refine AQ (AX (AQ (AQ ?_)));first | refine AQ (wpAny_typeNameOfWhole_keyiter tJ (AX ?_)) | refine AQ (wpAny_typeNameOf_keyiter tJ (AX ?_))
 refine AQ (wpAny_fieldsOf ho hd ?_);have no:Builtin.Dict_items.ownsTuple "dict_keyiterator" = false:=by decide
 simp only[no,Bool.false_eq_true,if_false];show wpAny _ _ (if (Value.ref d == Value.none)=true then _ else _) _ _ s;rw[if_neg (show ¬((Value.ref d == Value.none)=true) from fun z=>nomatch z)];refine AQ (AX (AQ (wpAny_dictEntries hod hdd ?_)));rw[if_neg (by simp)];refine AQ (AX (AQ (wpAny_dictEpoch hod hdd ?_)));rw[if_neg (by simp)];refine AX ?_;simp only[show ¬((i:Int) < 0) by lia,if_false,Dj,hx];refine AQ ?_;first | refine AQ (wpAny_typeNameOfWhole_keyiter tJ (AX ?_)) | refine AQ (wpAny_typeNameOf_keyiter tJ (AX ?_))
 refine AQ (wpAny_isOneOf_keyiter tJ ?_);show wpAny _ _ (setField (.ref J) 1 (rawInt ((i:Int)+1)) >>= _) _ _ s;refine AQ (wpAny_setField ho hd (by simp) ?_);have hit':(s.heap.update J (Obj.mapFields (·.setIfInBounds 1 (rawInt ((i:Int)+1))))).IsKeyIter J d (i+1) es.size ep :=
  ⟨_,Heap.get?_update_self _ ho (Obj.isFreed_of_fields (Obj.data_mapFields hd _)),(Obj.cls_mapFields ..).trans hc,by rw[Obj.data_mapFields hd];simp[rawInt]⟩
 refine AQ (wpAny_holding (AQ (wpAny_isOneOf_keyiter (s:={ s with heap:=s.heap.update J (Obj.mapFields (·.setIfInBounds 1 (rawInt ((i:Int)+1)))) }) hit'.typeIs ?_)))
 show wpAny _ _ (pure x.key) _ _ _;exact AX (AX ⟨_,rfl,AX (q _ hit' (Heap.SameBut.update ..))⟩)
theorem h78 {Q:Option Value->Sd->Prop}(hh:A.handled=none)(hit:s.heap.IsKeyIter J d i es.size ep)(hm:RawD s.heap d es ep)(hx:es[i]?=none)
 (q:∀ h',Heap.ExtBut J s.heap h'->Q none { s with heap:=h' }):wpAny (model prog w) A (pyNext (.ref J)) Q E s:=by
 obtain⟨o,ho,hc,hd⟩:=id hit;obtain⟨od,hod,hcd,hdd⟩:=id hm;have tJ:=hit.typeIs;unfold pyNext;refine AQ (wpAny_attempt (wpAny_callSpecial?_slot (name:=Str.ofString "__next__") tJ PySem.F.slot_dict_keyiterator_next (wpAny_call_entry PySem.F.slot_dict_keyiterator_next tJ PySem.F.entry_dict_keyiterator_next ?_ (PySem.F.args_dict_keyiterator_next_1 _))));refine AQ (AX (AQ (AQ ?_)));first | refine AQ (wpAny_typeNameOfWhole_keyiter tJ (AX ?_)) | refine AQ (wpAny_typeNameOf_keyiter tJ (AX ?_))
 refine AQ (wpAny_fieldsOf ho hd ?_);have no:Builtin.Dict_items.ownsTuple "dict_keyiterator" = false:=by decide
 simp only[no,Bool.false_eq_true,if_false];show wpAny _ _ (if (Value.ref d == Value.none)=true then _ else _) _ _ s;rw[if_neg (show ¬((Value.ref d == Value.none)=true) from fun z=>nomatch z)];refine AQ (AX (AQ (wpAny_dictEntries hod hdd ?_)));rw[if_neg (by simp)];refine AQ (AX (AQ (wpAny_dictEpoch hod hdd ?_)));rw[if_neg (by simp)];refine AX ?_;simp only[show ¬((i:Int) < 0) by omega,if_false,Dj,hx];refine AQ ?_;first | refine AQ (wpAny_typeNameOfWhole_keyiter tJ (AX ?_)) | refine AQ (wpAny_typeNameOf_keyiter tJ (AX ?_))
 show wpAny _ _ (setField (.ref J) 0 .none >>= _) _ _ s;refine AQ (wpAny_setField ho hd (by simp) ?_);show wpAny _ _ (newExc (.type "StopIteration") [] >>= _) _ _ _;refine AQ ?_;simp only[newExc,newTuple];refine AQ (EZ ?_ (by size_fits));refine AQ (m:=firstArgMember _ _) (wpAny_of_eq (a:=Value.none) (by first | rfl | (simp only[firstArgMember];rfl)) (EZ ?_ (by size_fits)))
 simp only[raiseNew];refine AQ (wpAny_handled ?_);rw[show A.in1.handled=none from hh];refine AQ (AX (wpAny_throw ?_));refine AQ (wpAny_isInstance (T := "StopIteration") (b:=true) ⟨_,Dx _ rfl,rfl⟩ isSubtype_stop ?_);exact AX (q _ (((Heap.SameBut.update ..).extBut.push _).push _))
theorem f40 (hh:A.handled=none)(J d:Addr)(hne:d≠J)(es:Array DictEntry) (ep:Nat) :
 Walks prog w A J [J,d] [J] es.size (fun i v=>∃ x,es[i]?=some x/\v=x.key) (fun i h=>h.IsKeyIter J d i es.size ep/\RawD h d es ep) where
 sub:=fun b hb=>by simp at hb;simp[hb]
 frame:=fun _ _ _ st hk=>⟨st.1.at fun o e=>hk J (by simp) o e,st.2.at fun o e=>hk d (by simp) o e⟩
 item:=fun i s Q E hi st hQ=>g92 st.1 st.2 (getElem?_pos es i hi) fun h' hit' hs' =>
  hQ _ h' s.toks ⟨_,getElem?_pos es i hi,rfl⟩ ⟨hit',st.2.at fun o e=>hs'.extBut d o hne e⟩ fun b o hb e=>hs'.extBut b o (fun h=>hb (by simp[h])) e
 done:=fun s Q E st hQ=>h78 hh st.1 st.2 (by simp) fun h' he'=>hQ h' s.toks fun b o hb e=>he' b o (fun h=>hb (by simp[h])) e
 self:=fun _ _ _ _ st hQ=>wpAny_pyIter_keyiter st.1 hQ
theorem h03:typeLookup (.type "dict") "__len__" = pure (some (.builtin "dict.__len__")):=by rw[typeLookup_type,builtinLookup_eq_fast];kernel_rfl
theorem collect_raw {Q:List Value->Sd->Prop}(hh:A.handled=none)(hd:(d == sysModules)=false)(x:RawD s.heap d es ep)(hn:es.size<=zL)
 (q:∀ s',(∀ b o,s.heap.get? b=some o->s'.heap.get? b=some o)->s'.gens=s.gens->s'.drawn=s.drawn->s'.os=s.os->Q (es.toList.map (·.key)) s'):wpAny (model prog w) A (collect (.ref d)) Q E s:=by
 have hlt:d < s.heap.objs.size:=let ⟨o,ho,_⟩:=x;DQ ho
 unfold collect;refine AQ (wpAny_runValue (codeAny_builtin PySem.F.entry_proto_collect ?_));rw[Around.under_plainId PySem.F.plain_proto_collect _];show wpAny _ A.in1 (newList [] >>= fun l=>again (.builtin "list.__iadd__" ⟨[l,.ref d],[]⟩)) _ _ s;refine AQ (EZ ?_);refine AX ⟨plainId_quiet PySem.F.plain_list_iadd _,codeAny_builtin PySem.F.entry_list_iadd ?_⟩;rw[Around.under_plainId PySem.F.plain_list_iadd _];show wpAny _ A.in1 (Builtin.List.listExtendWith (.ref s.heap.objs.size) (.ref d) (.ref s.heap.objs.size)) _ _ _;unfold Builtin.List.listExtendWith;have x1:RawD (s.heap.push { cls:=.type "list", data:=.seq ([]:List Value).toArray }) d es ep:=x.at fun o e=>Aq _ e;have t1:Shared.TypeIs { s with heap:=s.heap.push { cls:=.type "list", data:=.seq ([]:List Value).toArray } } (.ref d) "dict" := RawD.type (s:={ s with heap:=s.heap.push { cls:=.type "list", data:=.seq ([]:List Value).toArray } }) x1
 refine AQ (DZ t1 ?_);have h1:Builtin.List.listSameRef (.ref s.heap.objs.size) (.ref d)=false:=by
  simp only[Builtin.List.listSameRef];exact beq_eq_false_iff_ne.mpr (Nat.ne_of_gt hlt)
 have h2:(Value.type "dict" == Value.type "list")=false:=by decide
 have h3:(Value.type "dict" == Value.type "tuple")=false:=by decide
 simp only[h1,h2,h3,Bool.or_false,Bool.false_eq_true,if_false];refine AQ (h07 hd x1 ?_);refine AQ (wpAny_holding ?_);generalize hH:s.heap.push { cls:=.type "list", data:=.seq ([]:List Value).toArray }=G at x1 t1 ⊢;have hG:G.objs.size=s.heap.objs.size+1:=by rw[← hH,Heap.size_push]
 have kG:∀ b o,s.heap.get? b=some o->G.get? b=some o:=fun b o e=>by rw[← hH];exact Aq _ e
 have sG:G.get? s.heap.objs.size=some { cls:=.type "list", data:=.seq ([]:List Value).toArray }:=by rw[← hH];exact Dx _ rfl
 have t2:Shared.TypeIs { s with heap:=G.push { cls:=.type "dict_keyiterator", data:=.fields #[.ref d,.int 0 0,.int es.size 0,.int ep 0] } } (.ref d) "dict" :=
  RawD.type (s:={ s with heap:=G.push { cls:=.type "dict_keyiterator", data:=.fields #[.ref d,.int 0 0,.int es.size 0,.int ep 0] } }) (x1.at fun o e=>Aq _ e)
 unfold Builtin.List.listLengthHint;refine AQ (wpAny_specialOf (T := "dict") (v:=.ref d) t2 h03 ?_)
 wp_delta
 refine AQ (wpAny_isInstance (T := "dict") (v:=.ref d) (b:=true) t2 (by rw[isSubtype_type];kernel_rfl) ?_);show wpAny _ A.in1 (typeOf (Value.ref d) >>= _) _ _ _;refine AQ (DZ t2 ?_);refine AX ?_;rw[if_pos (by decide)];refine AQ (wpAny_rule ?_);have sP:(G.push { cls:=.type "dict_keyiterator", data:=.fields #[.ref d,.int 0 0,.int es.size 0,.int ep 0] }).get? s.heap.objs.size=some { cls:=.type "list", data:=.seq ([]:List Value).toArray }:=Aq _ sG;have iP:(G.push { cls:=.type "dict_keyiterator", data:=.fields #[.ref d,.int 0 0,.int es.size 0,.int ep 0] }).IsKeyIter G.objs.size d 0 es.size ep:=⟨_,Dx _ rfl,rfl,rfl⟩;have dP:RawD (G.push { cls:=.type "dict_keyiterator", data:=.fields #[.ref d,.int 0 0,.int es.size 0,.int ep 0] }) d es ep:=x1.at fun o e=>Aq _ e;have kP:∀ b o,s.heap.get? b=some o->(G.push { cls:=.type "dict_keyiterator", data:=.fields #[.ref d,.int 0 0,.int es.size 0,.int ep 0] }).get? b=some o:=fun b o e=>Aq _ (kG b o e);show wpAny _ A.in1 (Builtin.List.listTouch (.ref s.heap.objs.size) >>= fun _=>again (.builtin "list.extend.loop" ⟨[.ref s.heap.objs.size,.ref G.objs.size,.ref s.heap.objs.size],[]⟩)) _ _ { s with heap:=G.push { cls:=.type "dict_keyiterator", data:=.fields #[.ref d,.int 0 0,.int es.size 0,.int ep 0] } }
 generalize G.push { cls:=.type "dict_keyiterator", data:=.fields #[.ref d,.int 0 0,.int es.size 0,.int ep 0] }=Y at sP iP dP kP ⊢;refine AQ ?_;show wpAny _ A.in1 (updateSeq s.heap.objs.size (·.push .none) >>= fun _=>updateSeq s.heap.objs.size (·.pop)) _ _ _;refine AQ (wpAny_updateSeq sP rfl ?_);have s2:=Heap.get?_update_self (Obj.mapSeq (·.push Value.none)) sP rfl;refine wpAny_updateSeq s2 rfl ?_;have s3:=Heap.get?_update_self (Obj.mapSeq (·.pop)) s2 rfl;have oth:∀ b o,b≠s.heap.objs.size->Y.get? b=some o->((Y.update s.heap.objs.size (Obj.mapSeq (·.push Value.none))).update s.heap.objs.size (Obj.mapSeq (·.pop))).get? b=some o :=
  fun b o hb e=>(DJ _ _ (Ne.symm hb)).trans ((DJ _ _ (Ne.symm hb)).trans e)
 have hJ:s.heap.objs.size∉[G.objs.size,d]:=fun hm=>by
  rcases BZ.mp hm with h | h
  ·rw[hG] at h;exact absurd h (nLQ (Nat.lt_succ_self _))
  ·exact absurd (Ax.mp h) (Nat.ne_of_gt hlt)
 have dG:d≠G.objs.size:=by rw[hG];exact nLQ (Nat.lt_succ_of_lt hlt)
 have gs:G.objs.size≠s.heap.objs.size:=by rw[hG];exact Nat.ne_of_gt (Nat.lt_succ_self _)
 refine AX ⟨plainId_quiet PySem.F.plain_extend_loop _,codeAny_extend_loopS (f40 (prog:=prog) (w:=w) (A:=A.in1) hh G.objs.size d dG es ep).toS hn _ hJ _ es.size 0 _ _ _ rfl (Fx _)
  ⟨iP.at fun o e=>oth _ o gs e,dP.at fun o e=>oth _ o (nLQ hlt) e⟩ s3 (ItemsOf.nil _) fun s' acc c hm hS' hacc=>?_⟩
 show wpAny _ A (load s.heap.objs.size >>= _) _ _ s';refine AQ (wpAny_load hS' ?_);have ea:acc.toList=es.toList.map (·.key):=by
  apply List.ext_getElem?;intro i;rw[CJ,Array.getElem?_toList,Array.getElem?_toList];by_cases hi:i < es.size
  ·have hi2:i < acc.size:=by rw[hacc.1];exact hi
   obtain⟨y,hy,e⟩:=hacc.2 i acc[i] (getElem?_pos acc i hi2);rw[getElem?_pos acc i hi2,hy,e];rfl
  ·rw[getElem?_neg acc i (by rw[hacc.1];exact hi),getElem?_neg es i hi];rfl
 show wpAny _ A (pure acc.toList) _ _ _;rw[ea];refine AX (q s' (fun b o e=>?_) hm.gens hm.drawn hm.os);have hb:=DQ e;exact hm.heap b o (fun hm2=>by
  rcases BZ.mp hm2 with h | h
  ·exact absurd h (nLQ hb)
  ·rw[Ax.mp h,hG] at hb;exact absurd hb (Nat.not_lt.mpr (FJ _))) (oth b o (nLQ hb) (kP b o e))
end
end Srt
namespace L2
open PySem PySem.Spec PyProof.Rows
abbrev Key:=Sum Int Str
def d59:Key->Value->Bool
 | .inl k,v=>Value.isInt k v
 | .inr x,v=>Value.isStrOf x v
def keyH (w:World):Key->Int
 | .inl k=>hashInt k
 | .inr x=>hashStr w x
theorem a72:∀ {k:Key}{v:Value},d59 k v=true->(∃ i t,k=Sum.inl i/\v=Value.int i t)∨(∃ x t,k=Sum.inr x/\v=Value.str x t)
 | .inl i,v,h=>by
  obtain⟨t,e⟩:=Value.isInt_shape (k:=i) (v:=v) h;exact .inl ⟨i,t,rfl,e⟩
 | .inr x,v,h=>by
  obtain⟨t,e⟩:=Value.isStrOf_shape (x:=x) (v:=v) h;exact .inr ⟨x,t,rfl,e⟩
theorem f42 (i:Int)(t:Tok):d59 (.inl i) (.int i t)=true:=by simp[d59,Value.isInt]
theorem e99 (x:Str)(t:Tok):d59 (.inr x) (.str x t)=true:=by simp[d59,Value.isStrOf]
theorem i67 (a b:Int):decide ((Sum.inl a:Key)=Sum.inl b)=(a == b):=by
 by_cases e:a=b
 ·subst e;simp
 ·have h:¬(Sum.inl a:Key)=Sum.inl b:=fun q=>e (Sum.inl.inj q);rw[Fq h];exact(beq_eq_false_iff_ne.mpr e).symm
theorem i28 (a b:Str):decide ((Sum.inr a:Key)=Sum.inr b)=decide (a=b):=by
 by_cases e:a=b
 ·subst e;simp
 ·have h:¬(Sum.inr a:Key)=Sum.inr b:=fun q=>e (Sum.inr.inj q);rw[Fq h,Fq e]
theorem i76 (a:Int) (b:Str):decide ((Sum.inl a:Key)=Sum.inr b)=false:=Fq (fun q=>nomatch q)
theorem i62 (a:Str) (b:Int):decide ((Sum.inr a:Key)=Sum.inl b)=false:=Fq (fun q=>nomatch q)
def a85 (prog:Pm)(w:World):PySem.KeyKind prog w Key where
 is:=d59
 hash:=keyH w
 inj:=fun v a b ha hb=>by
  rcases a72 ha with⟨i,t,rfl,rfl⟩ | ⟨x,t,rfl,rfl⟩
  ·rcases a72 hb with⟨j,u,rfl,e⟩ | ⟨y,u,rfl,e⟩
   ·injection e with e1 _;rw[e1]
   ·exact nomatch e
  ·rcases a72 hb with⟨j,u,rfl,e⟩ | ⟨y,u,rfl,e⟩
   ·exact nomatch e
   ·injection e with e1 _;rw[e1]
 byValue:=fun k v h=>by
  rcases a72 h with⟨i,t,rfl,rfl⟩ | ⟨x,t,rfl,rfl⟩ <;> rfl
 pyHash:=fun hv h=>by
  rcases a72 hv with⟨i,t,rfl,rfl⟩ | ⟨x,t,rfl,rfl⟩
  ·exact wpAny_pyHash_int h
  ·exact wpAny_pyHash_str h
 eqBool:=fun hu hv h=>by
  rcases a72 hu with⟨i,t,rfl,rfl⟩ | ⟨x,t,rfl,rfl⟩
  ·rcases a72 hv with⟨j,u,rfl,rfl⟩ | ⟨y,u,rfl,rfl⟩
   ·rw[i67] at h;exact wpAny_eqBool_int h
   ·rw[i76] at h;exact SeqAt.EqAt.int_str i t y u _ _ _ _ h
  ·rcases a72 hv with⟨j,u,rfl,rfl⟩ | ⟨y,u,rfl,rfl⟩
   ·rw[i62] at h;exact SeqAt.EqAt.str_int x t j u _ _ _ _ h
   ·rw[i28] at h;exact wpAny_eqBool_str h
 «strs»:=fun k x t v h=>by
  rcases a72 h with⟨i,u,rfl,e⟩ | ⟨y,u,rfl,e⟩
  ·exact nomatch e
  ·injection e with e1 _
   subst e1;cases v <;> rfl
theorem e80 (prog:Pm)(w:World)(k:Key) (v:Value):(a85 prog w).is k v=d59 k v:=rfl
theorem d68 (prog:Pm)(w:World) (i:Int)(t:Tok):(a85 prog w).is (.inl i) (.int i t)=true:=f42 i t
theorem d75 (prog:Pm)(w:World) (x:Str)(t:Tok):(a85 prog w).is (.inr x) (.str x t)=true:=e99 x t
end L2
namespace L2
open PySem PySem.Spec PyProof.Rows
inductive V where
 | non | bl (b:Bool) | int (i:Int) | str (x:Str) | byt (b:Array UInt8) | flt (b:UInt64) | ref (a:Addr) | ty (n:String)
 deriving DecidableEq
def RelV:V->Value->Prop
 | .non,u=>u=Value.none
 | .bl b,u=>u=Value.bool b
 | .int i,u=>∃ t,u=Value.int i t
 | .str x,u=>∃ t,u=Value.str x t
 | .byt b,u=>∃ t,u=Value.bytes b t
 | .flt b,u=>∃ t,u=Value.float b t
 | .ref a,u=>u=Value.ref a
 | .ty n,u=>u=Value.type n
abbrev Vals:List V->List Value->Prop:=Paired RelV
theorem Vals.length {xs:List V}{us:List Value}(r:Vals xs us):xs.length=us.length:=Paired.length r
theorem Vals.get:∀ {xs:List V}{us:List Value}{i:Nat}{x:V},Vals xs us->xs[i]?=some x->∃ u,us[i]?=some u/\RelV x u
 | _,_,_,_,.nil,e=>by simp at e
 | _,_,0,_,.cons r _,e=>by simp at e;subst e;exact⟨_,rfl,r⟩
 | _,_,i+1,x,.cons _ t,e=>by
  obtain⟨u,h1,h2⟩:=Vals.get (i:=i) (x:=x) t (by simpa using e);exact⟨u,by simpa using h1,h2⟩
theorem Vals.set {x:V}{u:Value}(r:RelV x u):∀ {xs:List V}{us:List Value} (i:Nat),Vals xs us->Vals (xs.set i x) (us.set i u)
 | _,_,_,.nil=>.nil
 | _,_,0,.cons _ t=>.cons r t
 | _,_,i+1,.cons q t=>.cons q (Vals.set r i t)
theorem Vals.append:∀ {xs ys:List V}{us ws:List Value},Vals xs us->Vals ys ws->Vals (xs++ys) (us++ws)
 | _,_,_,_,.nil,s=>s
 | _,_,_,_,.cons r t,s=>.cons r (Vals.append t s)
theorem Vals.take:∀ {xs:List V}{us:List Value} (n:Nat),Vals xs us->Vals (xs.take n) (us.take n)
 | _,_,0,_=>.nil
 | _,_,_+1,.nil=>.nil
 | _,_,n+1,.cons r t=>.cons r (Vals.take n t)
theorem Vals.drop:∀ {xs:List V}{us:List Value} (n:Nat),Vals xs us->Vals (xs.drop n) (us.drop n)
 | _,_,0,r=>r
 | _,_,_+1,.nil=>.nil
 | _,_,n+1,.cons _ t=>Vals.drop n t
def RelO:Option V->Option Value->Prop
 | some v,some u=>RelV v u
 | none,none=>True
 | _,_=>False
def KV {κ:Type}:List (κ×V)->List (κ×Value)->Prop:=Paired fun(p:κ×V)(q:κ×Value)=>p.1=q.1/\RelV p.2 q.2
def kV:Key->V
 | .inl i=>.int i
 | .inr x=>.str x
inductive HO where
 | lst (xs:List V)
 | tup (xs:List V)
 | dK (kvs:List (Key×V)) | dT (kvs:List (List Key×V))
 | set (S:Int->Bool) (n:Nat)
 | ins (C dx:Addr) (fs:List (Str×V))
 | own (x:Addr)
 | xd (fs:List (Str×V))
 | met (f x:Addr)
 | rng (lo hi:Int)
 | frz (o:Obj)(u:HO)
 | tbl (ps:Array Value)
 | ext (φ:Heap->Prop)
abbrev Hp:=Addr->Option HO
def upd (H:Hp)(a:Addr)(o:HO):Hp:=fun b=>if b=a then some o else H b
theorem a01 {H:Hp}{a:Addr}{o:HO}:upd H a o a=some o:=by unfold upd;rw[if_pos rfl]
theorem a07 {H:Hp}{a b:Addr}{o:HO}(h:b≠a):upd H a o b=H b:=by unfold upd;rw[if_neg h]
theorem h83 {H:Hp}{a:Addr}{o u:HO}:upd (upd H a o) a u=upd H a u:=by
 funext b;unfold upd;split <;> rfl
theorem b06 {H:Hp}{a b:Addr}{o u:HO}(h:H a=some o)(h':H b=some u)(d:o≠u):a≠b:=by
 intro e;subst e;rw[h] at h';exact d (Ez h')
theorem a04 {H:Hp}{a b:Addr}{o:HO}(h:H a=some o)(h':H b=none):a≠b:=by
 intro e;subst e;rw[h] at h';cases h'
section
variable (P:Pm)(w:World)
def ObjOk (H:Hp)(h:Heap)(a:Addr):HO->Prop
 | .lst xs=>xs.length<=zL/\∃(its:List Value) (n:Nat),Vals xs its/\h.get? a=some { cls:=.type "list", data:=.seq its.toArray n }
 | .tup xs=>xs.length<=zL/\∃ its:List Value,Vals xs its/\IsTup h a its.toArray
 | .dK kvs=>kvs.length<=zL/\(a == sysModules)=false/\∃ vs,KV kvs vs/\h.DictOf (a85 P w) a vs
 | .dT kvs=>kvs.length<=zL/\(a == sysModules)=false/\∃ xs:List (List Key×Addr×Value),
  Paired (fun(p:List Key×V) (q:List Key×Addr×Value)=>p.1=q.1/\H q.2.1=some (.tup (p.1.map kV))/\RelV p.2 q.2.2) kvs xs /\
  ∃ o es ep,h.get? a=some o/\o.ExactDict/\o.data=.dict es ep/\es.toList=xs.map (entryOfKey (tupleKind (a85 P w)))/\(xs.map (·.1)).Nodup
 | .set S n=>h.SetOf (intKind P w) a S n
 | .ins C dx fs=>H dx=some (.own a)/\fs.length<=1000/\dx≠a/\h.get? a=some (PySem.W.instObj C dx) /\
  ∃ mA,h.Ns1 dx mA/\(∀ f,RelO (fs.lookup f) (mA f))/\PySem.Within mA (fs.map (·.1))
 | .own _=>∃ o,h.get? a=some o
 | .xd fs=>∃ mA,h.Ns1 a mA/\∀ f,RelO (fs.lookup f) (mA f)
 | .rng lo hi=>∃ t u v,h.get? a=some { cls:=.type "range", data:=.fields #[.int lo t,.int hi u,.int 1 v] }
 | .frz o u=>h.get? a=some o/\ObjOk H h a u
 | .tbl ps=>h.get? a=some { cls:=.none,data:=.fields ps }
 | .met f x=>h.get? a=some (PySem.W.methodObj (.ref f) (.ref x))
 | .ext φ=>φ h/\(∃ o,h.get? a=some o)/\∀ h1 h2:Heap,φ h1->(∀ o,h1.get? a=some o->h2.get? a=some o)->φ h2
def HOk (H:Hp)(h:Heap):Prop:=∀ a o,H a=some o->ObjOk P w H h a o
end
section
variable {P:Pm}{w:World}{H H':Hp}{h h':Heap}{a:Addr}{o:HO}
theorem ObjOk.lt (x:ObjOk P w H h a o):a < h.objs.size:=by
 cases o with
 | lst xs=>obtain⟨_,_,_,_,e⟩:=x;exact DQ e
 | tup xs=>obtain⟨_,_,_,p⟩:=x;exact p.lt
 | dK kvs=>obtain⟨_,_,_,_,o,_,_,e,_⟩:=x;exact DQ e
 | dT kvs=>obtain⟨_,_,_,_,o,_,_,e,_⟩:=x;exact DQ e
 | set S n=>obtain⟨o,_,_,_,e,_⟩:=x;exact DQ e
 | ins C dx fs=>obtain⟨_,_,_,e,_⟩:=x;exact DQ e
 | own y=>obtain⟨_,e⟩:=x;exact DQ e
 | xd fs=>obtain⟨_,⟨_,_,_,e,_⟩,_⟩:=x;exact DQ e
 | rng lo hi=>obtain⟨_,_,_,e⟩:=x;exact DQ e
 | frz ob u=>obtain⟨e,_⟩:=x;exact DQ e
 | tbl ps=>exact DQ (show h.get? a=some _ from x)
 | met f y=>exact DQ (show h.get? a=some _ from x)
 | ext φ=>obtain⟨_,⟨_,e⟩,_⟩:=x;exact DQ e
theorem Paired.mapP {α β:Type}{F G:α->β->Prop}:∀ {l₁:List α}{l₂:List β},Paired F l₁ l₂->(∀ a b,F a b->G a b)->Paired G l₁ l₂
 | _,_,.nil,_=>.nil
 | _,_,.cons r t,f=>.cons (f _ _ r) (Paired.mapP t f)
theorem ObjOk.stay (x:ObjOk P w H h a o)(k:∀ b u,(b=a∨H b=some (.own a))->h.get? b=some u->h'.get? b=some u)
 (ho:∀ b,H b=some (.own a)->H' b=some (.own a))(ht:∀ b xs,H b=some (.tup xs)->H' b=some (.tup xs)):ObjOk P w H' h' a o:=by
 induction o with
 | lst xs=>obtain⟨z,its,n,r,e⟩:=x;exact⟨z,its,n,r,k _ _ (.inl rfl) e⟩
 | tup xs=>obtain⟨z,its,r,ob,e,c⟩:=x;exact⟨z,its,r,ob,k _ _ (.inl rfl) e,c⟩
 | dK kvs=>obtain⟨z,y,vs,r,ob,es,ep,e,c⟩:=x;exact⟨z,y,vs,r,ob,es,ep,k _ _ (.inl rfl) e,c⟩
 | dT kvs =>
  obtain⟨z,y,xs,r,ob,es,ep,e,c⟩:=x;exact⟨z,y,xs,Paired.mapP r fun p q z=>⟨z.1,ht _ _ z.2.1,z.2.2⟩,ob,es,ep,k _ _ (.inl rfl) e,c⟩
 | set S n=>obtain⟨ob,es,ep,t,e,c⟩:=x;exact⟨ob,es,ep,t,k _ _ (.inl rfl) e,c⟩
 | ins C dx fs =>
  obtain⟨d,z,ne,e,mA,⟨od,es,ep,e2,c⟩,r⟩:=x;exact⟨ho _ d,z,ne,k _ _ (.inl rfl) e,mA,⟨od,es,ep,k _ _ (.inr d) e2,c⟩,r⟩
 | own y=>obtain⟨ob,e⟩:=x;exact⟨ob,k _ _ (.inl rfl) e⟩
 | xd fs=>obtain⟨mA,⟨od,es,ep,e,c⟩,r⟩:=x;exact⟨mA,⟨od,es,ep,k _ _ (.inl rfl) e,c⟩,r⟩
 | rng lo hi=>obtain⟨t,u,v,e⟩:=x;exact⟨t,u,v,k _ _ (.inl rfl) e⟩
 | frz ob u ih=>obtain⟨e,q⟩:=x;exact⟨k _ _ (.inl rfl) e,ih q⟩
 | tbl ps =>
  have e:h.get? a=some { cls:=.none,data:=.fields ps }:=x;show h'.get? a=some { cls:=.none,data:=.fields ps };exact k a _ (.inl rfl) e
 | met f y =>
  have e:h.get? a=some (PySem.W.methodObj (.ref f) (.ref y)):=x;show h'.get? a=some (PySem.W.methodObj (.ref f) (.ref y));exact k a _ (.inl rfl) e
 | ext φ=>obtain⟨p,⟨o,e⟩,st⟩:=x;exact⟨st _ _ p fun o q=>k _ _ (.inl rfl) q,⟨o,k _ _ (.inl rfl) e⟩,st⟩
theorem HOk.lt (x:HOk P w H h)(e:H a=some o):a < h.objs.size:=(x a o e).lt
theorem HOk.fresh (x:HOk P w H h)(e:h.objs.size<=a):H a=none:=by
 cases q:H a with
 | none=>rfl
 | some u=>exact absurd (nTQ (x.lt q) e) (Nat.lt_irrefl _)
theorem HOk.kept (x:HOk P w H h)(k:∀ b u,h.get? b=some u->h'.get? b=some u):HOk P w H h':=fun a o e =>
 (x a o e).stay (fun b u _ q=>k b u q) (fun _ q=>q) fun _ _ q=>q
theorem HOk.laid (x:HOk P w H h)(k:∀ b u,h.get? b=some u->h'.get? b=some u)(hp:h.objs.size<=a)(new:ObjOk P w (upd H a o) h' a o):HOk P w (upd H a o) h':=fun b u e=>by
 have hn:=x.fresh hp;by_cases hb:b=a
 ·subst hb;rw[a01] at e;cases e;exact new
 ·rw[a07 hb] at e;exact(x b u e).stay (fun c v _ q=>k c v q) (fun c q=>by rw[a07 (a04 q hn)];exact q) fun c xs q=>by rw[a07 (a04 q hn)];exact q
end
def Rd (H:Hp)(a:Addr)(u:HO):Prop:=H a=some u∨∃ o,H a=some (.frz o u)
theorem Rd.ok {P:Pm}{w:World}{H:Hp}{h:Heap}{a:Addr}{u:HO}(r:Rd H a u)(x:HOk P w H h):ObjOk P w H h a u:=by
 rcases r with r | ⟨o,r⟩
 ·exact x a u r
 ·obtain⟨_,q⟩:=x a _ r;exact q
def Mut:Option HO->Prop
 | some (.lst _)=>True
 | some (.dK _)=>True
 | some (.dT _)=>True
 | some (.set _ _)=>True
 | some (.ins _ _ _)=>True
 | some (.ext _)=>True
 | _=>False
section
variable {P:Pm}{w:World}{H:Hp}{h h':Heap}{x e:Addr}{o':HO}
theorem HOk.write (ok:HOk P w H h)(mu:Mut (H x))(he:e=x∨H e=some (.own x))(k:∀ b u,b≠e->h.get? b=some u->h'.get? b=some u)(heo:∃ u,h'.get? e=some u)
 (new:ObjOk P w (upd H x o') h' x o'):HOk P w (upd H x o') h':=fun b u q=>by
 have nown:∀ c y,H c=some (.own y)->c≠x:=fun c y r z=>by subst z;rw[r] at mu;exact mu
 have ntup:∀ c xs,H c=some (.tup xs)->c≠x:=fun c xs r z=>by subst z;rw[r] at mu;exact mu
 by_cases hb:b=x
 ·subst hb;rw[a01] at q;cases q;exact new
 ·rw[a07 hb] at q;by_cases hbe:b=e
  ·have q':H b=some (.own x):=by
    rcases he with z | z
    ·exact absurd (hbe.trans z) hb
    ·rw[hbe];exact z
   rw[q] at q';cases q';obtain⟨v,hv⟩:=heo;exact⟨v,by rw[hbe];exact hv⟩
  ·refine(ok b u q).stay (fun c v hc r=>k c v ?_ r) (fun c r=>by rw[a07 (nown c b r)];exact r) fun c xs r=>by rw[a07 (ntup c xs r)];exact r
   rcases hc with rfl | hc
   ·exact hbe
   ·rintro rfl;rcases he with z | z
    ·exact nown c b hc z
    ·rw[hc] at z;cases z;exact hb rfl
end
structure Un (fs ex:List Addr)(H H':Hp)(h h':Heap):Prop where
 keep:∀ b o,h.get? b=some o->H b=none->b∉fs->b∉ex->h'.get? b=some o
 slot:∀ b o,h.get? b=some o->H b=none->b∈fs->b∉ex->∃ sl,h'.get? b=some { o with slots:=sl }
 free:∀ b o,h.get? b=some o->H b=none->b∉ex->H' b=none
 there:∀ b o,h.get? b=some o->b∉ex->∃ o',h'.get? b=some o'
 tups:∀ b xs,H b=some (.tup xs)->H' b=some (.tup xs)
 frzs:∀ b o u,H b=some (.frz o u)->H' b=some (.frz o u)
 tbls:∀ b ps,H b=some (.tbl ps)->∃ more,H' b=some (.tbl (ps++more))
section
variable {fs fs' ex ex':List Addr}{H H1 H2:Hp}{h h1 h2 h':Heap}{a x e:Addr}{o:HO}
theorem Un.any (u:Un fs ex H H1 h h1){b:Addr}{ob:Obj}(q:h.get? b=some ob)(n:H b=none)(hx:b∉ex):∃ sl,h1.get? b=some { ob with slots:=sl }:=by
 by_cases hb:b∈fs
 ·exact u.slot b ob q n hb hx
 ·exact⟨ob.slots,u.keep b ob q n hb hx⟩
theorem Un.kept (k:∀ b u,h.get? b=some u->h'.get? b=some u):Un fs ex H H h h' :=
 ⟨fun b ob q _ _ _=>k b ob q,fun b ob q _ _ _=>⟨ob.slots,k b ob q⟩,fun _ _ _ n _=>n,fun b ob q _=>⟨ob,k b ob q⟩,fun _ _ q=>q,fun _ _ _ q=>q,fun _ ps q=>⟨#[],by rw[q];simp⟩⟩
theorem Un.refl:Un fs ex H H h h:=Un.kept fun _ _ q=>q
theorem Un.laid (k:∀ b u,h.get? b=some u->h'.get? b=some u)(hp:h.objs.size<=a)(hn:H a=none):Un fs ex H (upd H a o) h h' where
 keep:=fun b u q _ _ _=>k b u q
 slot:=fun b u q _ _ _=>⟨u.slots,k b u q⟩
 free:=fun b u q n _=>by rw[a07 (nLQ (nTQ (DQ q) hp))];exact n
 there:=fun b u q _=>⟨u,k b u q⟩
 tups:=fun b xs q=>by rw[a07 (a04 q hn)];exact q
 frzs:=fun b u xs q=>by rw[a07 (a04 q hn)];exact q
 tbls:=fun b ps q=>⟨#[],by rw[a07 (a04 q hn),q];simp⟩
theorem Un.write (mu:Mut (H x))(he:e=x∨H e=some (.own x))(k:∀ b u,b≠e->h.get? b=some u->h'.get? b=some u)(heo:∃ u,h'.get? e=some u):Un fs ex H (upd H x o) h h':=by
 have hx:∀ b,H b=none->b≠x:=fun b n z=>by subst z;rw[n] at mu;exact mu
 have hb:∀ b,H b=none->b≠e:=fun b n z=>by
  subst z;rcases he with r | r
  ·exact hx b n r
  ·rw[n] at r;cases r
 have hm:∀ b u,H b=some u->¬ Mut (some u)->b≠x:=fun b u q nm z=>by subst z;rw[q] at mu;exact nm mu
 refine⟨fun b u q n _ _=>k b u (hb b n) q,fun b u q n _ _=>⟨u.slots,k b u (hb b n) q⟩,fun b u q n _=>by rw[a07 (hx b n)];exact n,fun b u q _=>?_,
  fun b xs q=>by rw[a07 (hm b _ q fun z=>z)];exact q,fun b u xs q=>by rw[a07 (hm b _ q fun z=>z)];exact q,fun b ps q=>⟨#[],by rw[a07 (hm b _ q fun z=>z),q];simp⟩⟩
 by_cases hbe:b=e
 ·subst hbe;exact heo
 ·exact⟨u,k b u hbe q⟩
end
def trk (h:Heap)(H:Hp):List Addr:=(List.range h.objs.size).filter fun a=>(H a).isSome
def g84 (h:Heap)(H:Hp):Heap:=PySem.W.hideAll h (trk h H)
theorem f70 (h:Heap)(H:Hp):(g84 h H).objs.size=h.objs.size:=PySem.W.hideAll_size _ _
theorem g43 {h:Heap}{H:Hp}{b:Addr}{o:Obj}(e:h.get? b=some o)(n:H b=none):(g84 h H).get? b=some o :=
 PySem.W.hideAll_get _ e fun hm=>by
  have q:(H b).isSome=true:=(List.mem_filter.mp hm).2;rw[n] at q;simp at q
theorem h93 {h:Heap}{H:Hp}{b:Addr}{o:Obj}(e:(g84 h H).get? b=some o):h.get? b=some o/\H b=none:=by
 have e':h.get? b=some o:=PySem.W.of_hideAll (trk h H) e;refine⟨e',?_⟩;cases q:H b with
 | none=>rfl
 | some x =>
  have hm:b∈trk h H:=List.mem_filter.mpr ⟨List.mem_range.mpr (DQ e'),by simp[q]⟩;have z:(g84 h H).get? b=none:=PySem.W.hideAll_none (trk h H) hm;rw[z] at e;cases e
def i16 (g h:Heap)(L:Addr):LAO:=(List.range h.objs.size).filterMap fun a=>if a=L∨(g.get? a).isSome=true then none else(h.get? a).map fun o=>(a,o)
def rest (g h:Heap)(L d:Addr):LAO:=(i16 g h L).filter fun p=>decide (p.1≠d)
end L2
namespace L2
open PySem PySem.Spec PyProof.Rows
structure Mod (K:WFr) (mg:Str->Option Value)(base:Heap):Prop where
 kin:K.In base
 glob:base.Ns mG mg
 blt:∃ mb,base.Ns builtinsNs mb/\∀ x:Str,x ≠ "__name__"->mb x=bootBuiltins x
 nolimit:base.NoLimit
structure Cx where
 prog:Pm
 w:World
 K:WFr
 mg:Str->Option Value
 base:Heap
 A:Around
 N:List Str
 s₀:Sd
 H₀:Hp
 env:Env
 outer:List Env
 stack:List Env
 ex:List Addr
 fn:Str->Bool
 calm:Bool
 pn:LAO
 xe:Value->Sd->Prop
def frs (l:List Env):List Addr:=l.filterMap (·.frame)
abbrev Cx.fs (X:Cx):List Addr:=frs X.outer
def Vis (sc:Scope) (x:Str):Prop:=sc.names.lookup x=some .local∨sc.names.lookup x=some .cell∨sc.names.lookup x=some .free
def Loc (sc:Scope) (x:Str):Prop:=sc.names.lookup x=some .local∨sc.names.lookup x=some .cell
def Look (env:Env)(h:Heap) (m:Str->Option Value) (x:Str) (u:Value):Prop :=
 (env.kindOf x=some .local/\m x=some u)∨((env.kindOf x=some .cell∨env.kindOf x=some .free)/\∃ c,env.cells.lookup x=some c/\h.IsCell c (some u))
structure Cx.Ok (X:Cx):Prop where
 mod:Mod X.K X.mg X.base
 kind:X.env.scope.kind=.function
 glob:X.env.globals=mG
 blt:X.env.builtins=builtinsNs
 above:X.s₀.heap.objs.size<=X.env.locals
 inj:∀ x y c,X.env.cells.lookup x=some c->X.env.cells.lookup y=some c->x=y
 has:∀ x,(X.env.kindOf x=some .cell∨X.env.kindOf x=some .free)->∃ c,X.env.cells.lookup x=some c
 cab:∀ x c,X.fn x=true->X.env.cells.lookup x=some c->X.s₀.heap.objs.size<=c
 hd:X.calm=true->X.A.handled=none
 frames:X.A.frames=some X.stack
 stk:X.stack=X.outer∨(X.stack=X.env::X.outer/\X.env.frame=some X.env.locals)
 exf:∀ b∈X.ex,b≠X.env.locals/\∀ x c,X.env.cells.lookup x=some c->c≠b
 bs:∀ b o,X.base.get? b=some o->X.s₀.heap.get? b=some o/\X.H₀ b=none
 bsz:X.base.objs.size<=X.s₀.heap.objs.size
 noex:∀ b o,X.base.get? b=some o->b∉X.ex
 exfs:∀ b∈X.ex,b∉X.fs
 funs:X.s₀.heap.FunFrames X.base X.outer
 frf:∀ b∈X.fs,X.H₀ b=none
structure Inv (X:Cx)(pins:LAO) (σ:List (Option V))(H:Hp)(s:Sd):Prop where
 ok:X.Ok
 os:s.os=X.s₀.os
 bare:AllBare s.gens
 base:Un X.fs X.ex X.H₀ H X.s₀.heap s.heap
 loc:∃ m,s.heap.Ns X.env.locals m/\∀(i:Nat) (x:Str) (v:V),X.N[i]?=some x->σ[i]?=some (some v)->Vis X.env.scope x->∃ u,RelV v u/\Look X.env s.heap m x u
 cell:∀ x c,X.env.cells.lookup x=some c->∃ v,s.heap.IsCell c v
 free:H X.env.locals=none
 freeC:∀ x c,X.env.cells.lookup x=some c->H c=none
 pin:∀ p∈X.pn++pins,s.heap.get? p.1=some p.2/\H p.1=none/\p.1≠X.env.locals/\p.1∉X.fs/\∀ v,p.2.data≠.cell v
 hok:HOk X.prog X.w H s.heap
 len:σ.length=X.N.length
section
variable {X:Cx}{pins:LAO}{σ:List (Option V)}{H H':Hp}{s:Sd}{h':Heap}
theorem Cx.Ok.nofr (ok:X.Ok){b:Addr}{o:Obj}(e:X.base.get? b=some o):b∉X.fs:=fun hb=>by
 have:=(ok.funs.mem hb).1
 rw[e] at this;cases this
theorem Inv.bs (I:Inv X pins σ H s):∀ b o,X.base.get? b=some o->s.heap.get? b=some o/\H b=none:=fun b o e =>
 ⟨I.base.keep b o (I.ok.bs b o e).1 (I.ok.bs b o e).2 (I.ok.nofr e) (I.ok.noex b o e),I.base.free b o (I.ok.bs b o e).1 (I.ok.bs b o e).2 (I.ok.noex b o e)⟩
theorem Inv.bk (I:Inv X pins σ H s):∀ b o,X.base.get? b=some o->s.heap.get? b=some o:=fun b o e=>(I.bs b o e).1
theorem Inv.mod (I:Inv X pins σ H s):Mod X.K X.mg X.base:=I.ok.mod
theorem Inv.kIn (I:Inv X pins σ H s):X.K.In s.heap:=I.ok.mod.kin.keeps I.bk
theorem Inv.lt (I:Inv X pins σ H s):X.env.locals < s.heap.objs.size:=let ⟨_,hn,_⟩:=I.loc;hn.lt
theorem Inv.sz (I:Inv X pins σ H s):X.s₀.heap.objs.size<=s.heap.objs.size:=Fz I.ok.above (Nat.le_of_lt I.lt)
theorem Inv.nofs (I:Inv X pins σ H s){a:Addr}(h:s.heap.objs.size<=a):a∉X.fs:=fun hb=>by
 obtain⟨_,o,ho,_⟩:=I.ok.funs.mem hb;exact absurd (nTQ (DQ ho) (Fz I.sz h)) (Nat.lt_irrefl _)
theorem Inv.cne (I:Inv X pins σ H s):∀ x c,X.env.cells.lookup x=some c->c≠X.env.locals:=fun x c e z=>by
 obtain⟨v,o,ho,hd⟩:=I.cell x c e;obtain⟨m,⟨o',es,ep,ho',hd',_⟩,_⟩:=I.loc;rw[z,ho'] at ho;cases ho;rw[hd'] at hd;cases hd
theorem Inv.funs (I:Inv X pins σ H s):s.heap.FunFrames X.base X.outer:=by
 have all:∀(l:List Env),(∀ b∈frs l,b∈X.fs)->X.s₀.heap.FunFrames X.base l->s.heap.FunFrames X.base l:=by
  intro l;induction l with
  | nil=>intro _ _;trivial
  | cons env r ih =>
   intro hs hl;obtain⟨hk,⟨L,o,hf,hn,ho,hd⟩,hr⟩:=hl;have hL:L∈X.fs:=hs L (by unfold frs;rw[List.filterMap_cons,hf];exact BX);obtain⟨sl,e⟩:=I.base.slot L o ho (I.ok.frf L hL) hL fun z=>I.ok.exfs L z hL;exact⟨hk,⟨L,_,hf,hn,e,hd⟩,ih (fun b hb=>hs b (by unfold frs;rw[List.filterMap_cons,hf];exact BQ _ hb)) hr⟩
 exact all X.outer (fun _ hb=>hb) I.ok.funs
theorem Inv.stack (I:Inv X pins σ H s):s.heap.FunFrames X.base X.stack:=by
 rcases I.ok.stk with e | ⟨e,hf⟩
 ·rw[e];exact I.funs
 ·rw[e];obtain⟨m,hn,_⟩:=I.loc;refine .cons (by rw[I.ok.kind];decide) hf hn ?_ I.funs;exact Heap.get?_none_of_le (Fz I.ok.bsz I.ok.above)
theorem Inv.stkSub (I:Inv X pins σ H s):∀ b∈frs X.stack,b∈X.env.locals::X.fs:=fun b hb=>by
 rcases I.ok.stk with e | ⟨e,hf⟩
 ·rw[e] at hb;exact BQ _ hb
 ·rw[e] at hb;unfold frs at hb;rw[List.filterMap_cons,hf] at hb;exact hb
theorem Inv.stkFree (I:Inv X pins σ H s):∀ b∈frs X.stack,H b=none:=fun b hb=>by
 rcases BZ.mp (I.stkSub b hb) with e | hb
 ·rw[e];exact I.free
 ·obtain⟨_,o,ho,_⟩:=I.ok.funs.mem hb;exact I.base.free b o ho (I.ok.frf b hb) fun z=>I.ok.exfs b z hb
theorem Inv.step {g':Array GenState}{t':Nat}{d':Drawn}{ch:List Addr}(I:Inv X pins σ H s)
 (hch:∀ b∈ch,(b∈X.ex∨X.s₀.heap.objs.size<=b)/\b≠X.env.locals/\(∀ x c,X.env.cells.lookup x=some c->c≠b)/\∀ p∈X.pn++pins,p.1≠b)
 (keep:∀ b o,b≠X.env.locals->b∉X.fs->b∉ch->s.heap.get? b=some o->H b=none->h'.get? b=some o)
 (slot:∀ b o,b≠X.env.locals->b∈X.fs->b∉ch->s.heap.get? b=some o->H b=none->∃ sl,h'.get? b=some { o with slots:=sl })(free:∀ b o,b∉ch->s.heap.get? b=some o->H b=none->H' b=none)
 (there:∀ b o,b∉ch->s.heap.get? b=some o->∃ o',h'.get? b=some o')
 (tups:∀ b xs,H b=some (.tup xs)->H' b=some (.tup xs))(frzs:∀ b o u,H b=some (.frz o u)->H' b=some (.frz o u))(tbls:∀ b ps,H b=some (.tbl ps)->∃ more,H' b=some (.tbl (ps++more)))
 (ns:∀ m,s.heap.Ns X.env.locals m->h'.Ns X.env.locals m)(hok:HOk X.prog X.w H' h')(hg:AllBare g') :
 Inv X pins σ H' { s with heap:=h',gens:=g',drawn:=d',toks:=t' }:=by
 have neL:∀ b o,X.s₀.heap.get? b=some o->b≠X.env.locals:=fun b o e=>nLQ (nTQ (DQ e) I.ok.above);have neC:∀ b o,X.s₀.heap.get? b=some o->b∉X.ex->b∉ch:=fun b o e hx hb=>by
  rcases(hch b hb).1 with z | z
  ·exact hx z
  ·exact absurd (nTQ (DQ e) z) (Nat.lt_irrefl _)
 have cellK:∀ x c,X.env.cells.lookup x=some c->∀ v,s.heap.IsCell c v->h'.IsCell c v:=fun x c e v ⟨o,ho,hd⟩=>by
  have nch:c∉ch:=fun z=>(hch c z).2.2.1 x c e rfl;by_cases hc:c∈X.fs
  ·obtain⟨sl,q⟩:=slot c o (I.cne x c e) hc nch ho (I.freeC x c e);exact⟨_,q,hd⟩
  ·exact⟨o,keep c o (I.cne x c e) hc nch ho (I.freeC x c e),hd⟩
 refine⟨I.ok,I.os,hg,⟨fun b o e n hb hx=>?_,fun b o e n hb hx=>?_,fun b o e n hx=>?_,fun b o e hx=>?_,fun b xs e=>tups b xs (I.base.tups b xs e),fun b o xs e=>frzs b o xs (I.base.frzs b o xs e),fun b ps e=>?_⟩,?_,fun x c e=>?_,?_,fun x c e=>?_,fun p hp=>?_,hok,I.len⟩
 ·exact keep b o (neL b o e) hb (neC b o e hx) (I.base.keep b o e n hb hx) (I.base.free b o e n hx)
 ·obtain⟨sl,e1⟩:=I.base.slot b o e n hb hx;obtain⟨sl',e2⟩:=slot b _ (neL b o e) hb (neC b o e hx) e1 (I.base.free b o e n hx);exact⟨sl',e2⟩
 ·obtain⟨o',e1⟩:=I.base.there b o e hx;exact free b o' (neC b o e hx) e1 (I.base.free b o e n hx)
 ·obtain⟨o',e1⟩:=I.base.there b o e hx;exact there b o' (neC b o e hx) e1
 ·obtain⟨m1,e1⟩:=I.base.tbls b ps e;obtain⟨m2,e2⟩:=tbls b _ e1;exact⟨m1++m2,by rw[e2,Array.append_assoc]⟩
 ·obtain⟨m,hn,hl⟩:=I.loc;refine⟨m,ns m hn,fun i x v e1 e2 e3=>?_⟩;obtain⟨u,r,l⟩:=hl i x v e1 e2 e3;refine⟨u,r,?_⟩;rcases l with l | ⟨k,c,e,z⟩
  ·exact .inl l
  ·exact .inr ⟨k,c,e,cellK x c e _ z⟩
 ·obtain⟨v,z⟩:=I.cell x c e;exact⟨v,cellK x c e v z⟩
 ·obtain⟨m,⟨o,_,_,ho,_⟩,_⟩:=I.loc;exact free _ o (fun z=>(hch _ z).2.1 rfl) ho I.free
 ·obtain⟨v,o,ho,hd⟩:=I.cell x c e;exact free c o (fun z=>(hch c z).2.2.1 x c e rfl) ho (I.freeC x c e)
 ·obtain⟨e,n,ne,nf,d⟩:=I.pin p hp;have nch:p.1∉ch:=fun z=>(hch p.1 z).2.2.2 p hp rfl;exact⟨keep p.1 p.2 ne nf nch e n,free p.1 p.2 nch e n,ne,nf,d⟩
theorem Inv.un {t':Nat}(I:Inv X pins σ H s)(u:Un X.fs [] H H' s.heap h')(hok:HOk X.prog X.w H' h'):Inv X pins σ H' { s with heap:=h',toks:=t' }:=by
 obtain⟨m,⟨o,es,ep,ho,r⟩,_⟩:=id I.loc;obtain⟨sl,hL⟩:=u.any ho I.free (by simp);exact I.step (g':=s.gens) (d':=s.drawn) (ch:=[]) (fun _ z=>nomatch z) (fun b o _ hb _ e n=>u.keep b o e n hb (by simp)) (fun b o _ hb _ e n=>u.slot b o e n hb (by simp)) (fun b o _ e n=>u.free b o e n (by simp)) (fun b o _ e=>u.there b o e (by simp)) u.tups u.frzs u.tbls (fun m' hm=>by
  obtain⟨o',es',ep',ho',r'⟩:=hm;rw[ho] at ho';cases ho';exact⟨_,es',ep',hL,r'⟩) hok I.bare
theorem Inv.call {g':Array GenState}{t':Nat}{d':Drawn}{ch:List Addr}(I:Inv X pins σ H s)(u:Un (frs X.stack) ch H H' s.heap h')(hok:HOk X.prog X.w H' h')(hg:AllBare g')
 (hch:∀ b∈ch,(b∈X.ex∨X.s₀.heap.objs.size<=b)/\b≠X.env.locals/\(∀ x c,X.env.cells.lookup x=some c->c≠b)/\∀ p∈X.pn++pins,p.1≠b) :
 Inv X pins σ H' { s with heap:=h',gens:=g',drawn:=d',toks:=t' }:=by
 obtain⟨m,⟨o,es,ep,ho,r⟩,_⟩:=id I.loc;obtain⟨sl,hL⟩:=u.any ho I.free fun z=>(hch _ z).2.1 rfl;exact I.step (ch:=ch) hch (fun b o hL hb hc e n=>u.keep b o e n (fun z=>(BZ.mp (I.stkSub b z)).elim hL hb) hc) (fun b o _ _ hc e n=>u.any e n hc) (fun b o hc e n=>u.free b o e n hc) (fun b o hc e=>u.there b o e hc) u.tups u.frzs u.tbls (fun m' hm=>by
  obtain⟨o',es',ep',ho',r'⟩:=hm;rw[ho] at ho';cases ho';exact⟨_,es',ep',hL,r'⟩) hok hg
theorem Inv.turned {t':Nat}{it:Addr}(I:Inv X pins σ H s)(k:∀ b o,b≠it->s.heap.get? b=some o->h'.get? b=some o)(hn:H it=none)(hL:it≠X.env.locals)
 (h1:it∈X.ex∨X.s₀.heap.objs.size<=it)(h2:∀ x c,X.env.cells.lookup x=some c->c≠it)(h3:∀ p∈X.pn++pins,p.1≠it):Inv X pins σ H { s with heap:=h',toks:=t' }:=by
 have nit:∀ b u,H b=some u->b≠it:=fun b u e z=>by rw[z,hn] at e;cases e
 refine I.step (g':=s.gens) (d':=s.drawn) (ch:=[it]) (fun b hb=>?_) (fun b o _ _ hc e _=>k b o (fun z=>hc (by simp[z])) e) (fun b o _ _ hc e _=>⟨o.slots,k b o (fun z=>hc (by simp[z])) e⟩) (fun _ _ _ _ n=>n)
  (fun b o hc e=>⟨o,k b o (fun z=>hc (by simp[z])) e⟩) (fun _ _ e=>e) (fun _ _ _ e=>e) (fun b ps e=>⟨#[],by rw[e];simp⟩) (fun m hm=>?_) (fun b u e=>?_) I.bare
 ·have e:b=it:=by simpa using hb
  subst e;exact⟨h1,hL,h2,h3⟩
 ·obtain⟨o,es,ep,ho,r⟩:=hm;exact⟨o,es,ep,k _ o (Ne.symm hL) ho,r⟩
 ·refine(I.hok b u e).stay (fun c v hc q=>k c v ?_ q) (fun _ q=>q) fun _ _ q=>q;rcases hc with z | z
  ·rw[z];exact nit b u e
  ·exact nit c _ z
theorem Inv.tok (I:Inv X pins σ H s) (t:Nat):Inv X pins σ H { s with toks:=t }:=I.un (h':=s.heap) (t':=t) Un.refl I.hok
theorem Inv.kept {t':Nat}(I:Inv X pins σ H s)(k:∀ b u,s.heap.get? b=some u->h'.get? b=some u):Inv X pins σ H { s with heap:=h',toks:=t' }:=I.un (Un.kept k) (I.hok.kept k)
theorem Inv.laid {a:Addr}{o:HO}{t':Nat}(I:Inv X pins σ H s)(k:∀ b u,s.heap.get? b=some u->h'.get? b=some u)(hp:s.heap.objs.size<=a)(new:ObjOk X.prog X.w (upd H a o) h' a o) :
 Inv X pins σ (upd H a o) { s with heap:=h',toks:=t' }:=I.un (Un.laid k hp (I.hok.fresh hp)) (I.hok.laid k hp new)
theorem Inv.write {x e:Addr}{o:HO}{t':Nat}(I:Inv X pins σ H s)(mu:Mut (H x))(he:e=x∨H e=some (.own x))(k:∀ b u,b≠e->s.heap.get? b=some u->h'.get? b=some u)(heo:∃ u,h'.get? e=some u)
 (new:ObjOk X.prog X.w (upd H x o) h' x o):Inv X pins σ (upd H x o) { s with heap:=h',toks:=t' }:=I.un (Un.write mu he k heo) (I.hok.write mu he k heo new)
theorem Inv.weak {σ':List (Option V)}(I:Inv X pins σ H s)(hl:σ'.length=σ.length)(w:∀(i:Nat) v,σ'[i]?=some (some v)->σ[i]?=some (some v)):Inv X pins σ' H s :=
 ⟨I.ok,I.os,I.bare,I.base,let ⟨m,hn,hl'⟩:=I.loc;⟨m,hn,fun i x v e1 e2 e3=>hl' i x v e1 (w i v e2) e3⟩,I.cell,I.free,I.freeC,I.pin,I.hok,hl.trans I.len⟩
theorem Inv.pins_of {pins':LAO}(I:Inv X pins σ H s)(h:∀ p∈pins',s.heap.get? p.1=some p.2/\H p.1=none/\p.1≠X.env.locals/\p.1∉X.fs/\∀ v,p.2.data≠.cell v):Inv X pins' σ H s :=
 ⟨I.ok,I.os,I.bare,I.base,I.loc,I.cell,I.free,I.freeC,fun p hp=>(Bq.mp hp).elim (fun z=>I.pin p (List.mem_append_left _ z)) (h p),I.hok,I.len⟩
theorem b76 {N:List Str}(hN:N.Nodup){i j:Nat}{x:Str}(a:N[i]?=some x)(b:N[j]?=some x):i=j:=by
 obtain⟨h1,e1⟩:=Ej.mp a;obtain⟨h2,e2⟩:=Ej.mp b;exact(List.getElem_inj hN).mp (e1.trans e2.symm)
theorem e96 {M:Model}{A:Around}{E:VSP}{i:Nat}{x:Str}{v:V}{u:Value}{Q:Unit->Sd->Prop}(I:Inv X pins σ H s)(hN:X.N.Nodup)(hi:X.N[i]?=some x)(hx:Loc X.env.scope x)(r:RelV v u)
 (h:∀ s',Inv X pins (σ.set i (some v)) H s'->(∃ a,Heap.SameBut a s.heap s'.heap/\(a=X.env.locals∨X.env.cells.lookup x=some a))->Q () s')(hf:X.fn x=true∨X.env.scope.names.lookup x=some .local:=by first | exact .inl rfl | exact .inr rfl | assumption):wpAny M A (storeName X.env x u) Q E s:=by
 obtain⟨m,hn,hl⟩:=id I.loc;have hcls:(X.env.scope.kind == .class||(X.env.scope.kind == .module && X.env.locals != X.env.globals))=false:=by rw[I.ok.kind];rfl
 have hiσ:i < σ.length:=by rw[I.len];exact(Ej.mp hi).1
 have cne:=I.cne;have tracked:∀ {a:Addr}{h':Heap},(∃ o,s.heap.get? a=some o/\H a=none)->Heap.SameBut a s.heap h'->HOk X.prog X.w H h':=fun {a h'} ha hs b ob e=>by
  obtain⟨_,_,hfree⟩:=ha;refine(I.hok b ob e).stay (fun c w' hc q=>(hs.2 c ?_).trans q) (fun _ q=>q) fun _ _ q=>q;rintro rfl;rcases hc with rfl | hc
  ·rw[hfree] at e;cases e
  ·rw[hfree] at hc;cases hc
 rcases hx with hk | hk
 ·refine wpAny_storeName_local hk hn (fun h' hn' hs=>?_) hcls;obtain⟨oL,_,_,hoL,_⟩:=id hn;refine h _ ⟨I.ok,I.os,I.bare,⟨fun b o e n hb hx=>?_,fun b o e n hb hx=>?_,I.base.free,fun b o e hx=>?_,I.base.tups,I.base.frzs,I.base.tbls⟩,⟨_,hn',fun j y v' e1 e2 e3=>?_⟩,fun y c e=>?_,I.free,I.freeC,fun p hp=>?_,tracked ⟨oL,hoL,I.free⟩ hs,by simpa using I.len⟩ ⟨_,hs,.inl rfl⟩
  ·exact(hs.2 b (nLQ (nTQ (DQ e) I.ok.above))).trans (I.base.keep b o e n hb hx)
  ·obtain⟨sl,e1⟩:=I.base.slot b o e n hb hx;exact⟨sl,(hs.2 b (nLQ (nTQ (DQ e) I.ok.above))).trans e1⟩
  ·obtain⟨o',e1⟩:=I.base.there b o e hx;exact⟨o',(hs.2 b (nLQ (nTQ (DQ e) I.ok.above))).trans e1⟩
  ·by_cases hj:j=i
   ·subst hj;rw[hi] at e1;cases e1;rw[List.getElem?_set_self hiσ] at e2;cases e2;exact⟨u,r,.inl ⟨hk,by simp⟩⟩
   ·rw[lE (Ne.symm hj)] at e2;obtain⟨u',r',q⟩:=hl j y v' e1 e2 e3;refine⟨u',r',?_⟩;rcases q with⟨k,e⟩ | ⟨k,c,e,z⟩
    ·refine .inl ⟨k,?_⟩
     have:y≠x:=fun e=>hj (b76 hN e1 (e ▸ hi))
     simp[this,e]
    ·exact .inr ⟨k,c,e,z.sameBut hs (cne y c e)⟩
  ·obtain⟨w',z⟩:=I.cell y c e;exact⟨w',z.sameBut hs (cne y c e)⟩
  ·obtain⟨e,n,ne,nf,d⟩:=I.pin p hp;exact⟨(hs.2 p.1 ne).trans e,n,ne,nf,d⟩
 ·have hfn:X.fn x=true:=by
   rcases hf with z | z
   ·exact z
   ·rw[z] at hk;cases hk
  obtain⟨c,hc⟩:=I.ok.has x (.inl hk);obtain⟨w',z⟩:=I.cell x c hc;refine wpAny_storeName_cell I.ok.kind hk hc z (fun h' hc' hs=>?_);obtain⟨oc,hoc,hocd⟩:=id z;refine h { s with heap:=h' } ⟨I.ok,I.os,I.bare,⟨fun b o e n hb hx=>?_,fun b o e n hb hx=>?_,I.base.free,fun b o e hx=>?_,I.base.tups,I.base.frzs,I.base.tbls⟩,⟨m,hn.sameBut hs (Ne.symm (cne x c hc)),fun j y v' e1 e2 e3=>?_⟩,fun y c' e=>?_,I.free,I.freeC,fun p hp=>?_,tracked ⟨oc,hoc,I.freeC x c hc⟩ hs,by simpa using I.len⟩ ⟨c,hs,.inr hc⟩
  ·exact(hs.2 b (nLQ (nTQ (DQ e) (I.ok.cab x c hfn hc)))).trans (I.base.keep b o e n hb hx)
  ·obtain⟨sl,e1⟩:=I.base.slot b o e n hb hx;exact⟨sl,(hs.2 b (nLQ (nTQ (DQ e) (I.ok.cab x c hfn hc)))).trans e1⟩
  ·obtain⟨o',e1⟩:=I.base.there b o e hx;exact⟨o',(hs.2 b (nLQ (nTQ (DQ e) (I.ok.cab x c hfn hc)))).trans e1⟩
  ·by_cases hj:j=i
   ·subst hj;rw[hi] at e1;cases e1;rw[List.getElem?_set_self hiσ] at e2;cases e2;exact⟨u,r,.inr ⟨.inl hk,c,hc,hc'⟩⟩
   ·rw[lE (Ne.symm hj)] at e2;obtain⟨u',r',q⟩:=hl j y v' e1 e2 e3;refine⟨u',r',?_⟩;rcases q with q | ⟨k,c',e,z'⟩
    ·exact .inl q
    ·refine .inr ⟨k,c',e,z'.sameBut hs ?_⟩;rintro rfl;exact hj (b76 hN e1 (I.ok.inj _ _ _ e hc ▸ hi))
  ·by_cases hcc:c'=c
   ·subst hcc;exact⟨_,hc'⟩
   ·obtain⟨w2,z2⟩:=I.cell y c' e;exact⟨w2,z2.sameBut hs hcc⟩
  ·obtain⟨e,n,ne,nf,d⟩:=I.pin p hp;refine⟨(hs.2 p.1 ?_).trans e,n,ne,nf,d⟩;intro q;rw[q,hoc] at e;have q':oc=p.2:=Ez e;exact d w' (by rw[← q'];exact hocd)
theorem b54 {M:Model}{A:Around}{E:VSP}{i:Nat}{x:Str}{v:V}{u:Value}{Q:Unit->Sd->Prop}(I:Inv X pins σ H s)(hN:X.N.Nodup)(hi:X.N[i]?=some x)(hx:Loc X.env.scope x)(r:RelV v u)
 (h:∀ s',Inv X pins (σ.set i (some v)) H s'->Q () s')(hf:X.fn x=true∨X.env.scope.names.lookup x=some .local:=by first | exact .inl rfl | exact .inr rfl | assumption):wpAny M A (storeName X.env x u) Q E s :=
 e96 I hN hi hx r (fun s' I' _=>h s' I') hf
theorem Inv.call' {s':Sd}{ch:List Addr}(I:Inv X pins σ H s)(ho:s'.os=s.os)(u:Un (frs X.stack) ch H H' s.heap s'.heap)(hok:HOk X.prog X.w H' s'.heap)(hg:AllBare s'.gens)
 (hch:∀ b∈ch,(b∈X.ex∨X.s₀.heap.objs.size<=b)/\b≠X.env.locals/\(∀ x c,X.env.cells.lookup x=some c->c≠b)/\∀ p∈X.pn++pins,p.1≠b):Inv X pins σ H' s':=by
 obtain⟨h',g',d',t',o'⟩:=s';have e:o'=s.os:=ho;subst e;exact I.call (g':=g') (t':=t') (d':=d') u hok hg hch
end
abbrev XK:=Value->Option Addr->Hp->Prop
abbrev St:=List (Option V)
abbrev VK:=V->Hp->Prop
abbrev TE:=St->Hp->VK->Prop
abbrev TT:=St->Hp->(Bool->Hp->Prop)->Prop
abbrev TA:=St->Hp->(List V->Hp->Prop)->Prop
structure Ends where
 nx:St->Hp->Prop
 rt:VK
 bk:St->Hp->Prop:=fun _ _=>False
 ct:St->Hp->Prop:=fun _ _=>False
abbrev TS:=Ends->St->Hp->Prop
def EP (X:Cx)(pins:LAO)(σ:St)(Q:VK) (u:Value)(s':Sd):Prop:=∃ v H',Inv X pins σ H' s'/\RelV v u/\Q v H'
def TP (X:Cx)(pins:LAO)(σ:St) (Q:Bool->Hp->Prop) (b:Bool)(s':Sd):Prop:=∃ H',Inv X pins σ H' s'/\Q b H'
def AP (X:Cx)(pins:LAO)(σ:St) (Q:List V->Hp->Prop) (us:List Value)(s':Sd):Prop:=∃ vs H',Inv X pins σ H' s'/\Vals vs us/\Q vs H'
def SP (X:Cx)(pins:LAO)(D:Ends)(f:Flow)(s':Sd):Prop :=
 match f with
 | .next=>∃ σ' H',Inv X pins σ' H' s'/\D.nx σ' H'
 | .brk=>∃ σ' H',Inv X pins σ' H' s'/\D.bk σ' H'
 | .cont=>∃ σ' H',Inv X pins σ' H' s'/\D.ct σ' H'
 | .ret u=>∃ v σ' H',Inv X pins σ' H' s'/\RelV v u/\D.rt v H'
structure PE (X:Cx)(e:Expr)(t:TE):Prop where
 run :
  ∀(pins:LAO)(s:Sd)(σ:St)(H:Hp)(Q:VK),Inv X pins σ H s->t σ H Q->wpAny (model X.prog X.w) X.A (eval e X.env) (EP X pins σ Q) X.xe s
instance {X:Cx}{e:Expr}{t:TE}:CoeFun (PE X e t) (fun _ =>
 ∀(pins:LAO)(s:Sd)(σ:St)(H:Hp)(Q:VK),Inv X pins σ H s->t σ H Q->wpAny (model X.prog X.w) X.A (eval e X.env) (EP X pins σ Q) X.xe s
 ):=⟨PE.run⟩
structure PT (X:Cx)(e:Expr)(t:TT):Prop where
 run :
  ∀(pins:LAO)(s:Sd)(σ:St)(H:Hp) (Q:Bool->Hp->Prop),Inv X pins σ H s->t σ H Q->wpAny (model X.prog X.w) X.A (isTrue e X.env (eval e X.env)) (TP X pins σ Q) X.xe s
instance {X:Cx}{e:Expr}{t:TT}:CoeFun (PT X e t) (fun _ =>
 ∀(pins:LAO)(s:Sd)(σ:St)(H:Hp) (Q:Bool->Hp->Prop),Inv X pins σ H s->t σ H Q->wpAny (model X.prog X.w) X.A (isTrue e X.env (eval e X.env)) (TP X pins σ Q) X.xe s
 ):=⟨PT.run⟩
structure PW (X:Cx)(e:Expr)(t:TT):Prop where
 run :
  ∀(whole:Sem Value)(pins:LAO)(s:Sd)(σ:St)(H:Hp) (Q:Bool->Hp->Prop),Inv X pins σ H s->t σ H Q->wpAny (model X.prog X.w) X.A (isTrue e X.env whole) (TP X pins σ Q) X.xe s
instance {X:Cx}{e:Expr}{t:TT}:CoeFun (PW X e t) (fun _ =>
 ∀(whole:Sem Value)(pins:LAO)(s:Sd)(σ:St)(H:Hp) (Q:Bool->Hp->Prop),Inv X pins σ H s->t σ H Q->wpAny (model X.prog X.w) X.A (isTrue e X.env whole) (TP X pins σ Q) X.xe s
 ):=⟨PW.run⟩
theorem PW.pt {X:Cx}{e:Expr}{t:TT}(h:PW X e t):PT X e t:=⟨h.run _⟩
structure PA (X:Cx) (es:List Expr)(t:TA):Prop where
 run :
  ∀(pos:Pos)(pins:LAO)(s:Sd)(σ:St)(H:Hp) (Q:List V->Hp->Prop),Inv X pins σ H s->t σ H Q->wpAny (model X.prog X.w) X.A (spliced (backTo pos (starEach es X.env))) (AP X pins σ Q) X.xe s
instance {X:Cx}{es:List Expr}{t:TA}:CoeFun (PA X es t) (fun _ =>
 ∀(pos:Pos)(pins:LAO)(s:Sd)(σ:St)(H:Hp) (Q:List V->Hp->Prop),Inv X pins σ H s->t σ H Q->wpAny (model X.prog X.w) X.A (spliced (backTo pos (starEach es X.env))) (AP X pins σ Q) X.xe s
 ):=⟨PA.run⟩
structure PS (X:Cx)(st:Stmt)(t:TS):Prop where
 run :
  ∀(pins:LAO)(s:Sd)(σ:St)(H:Hp)(D:Ends),Inv X pins σ H s->t D σ H->wpAny (model X.prog X.w) X.A (exec st X.env) (SP X pins D) X.xe s
instance {X:Cx}{st:Stmt}{t:TS}:CoeFun (PS X st t) (fun _ =>
 ∀(pins:LAO)(s:Sd)(σ:St)(H:Hp)(D:Ends),Inv X pins σ H s->t D σ H->wpAny (model X.prog X.w) X.A (exec st X.env) (SP X pins D) X.xe s
 ):=⟨PS.run⟩
structure PSs (X:Cx) (st:List Stmt)(t:TS):Prop where
 run :
  ∀(pins:LAO)(s:Sd)(σ:St)(H:Hp)(D:Ends),Inv X pins σ H s->t D σ H->wpAny (model X.prog X.w) X.A (execs st X.env) (SP X pins D) X.xe s
instance {X:Cx}{st:List Stmt}{t:TS}:CoeFun (PSs X st t) (fun _ =>
 ∀(pins:LAO)(s:Sd)(σ:St)(H:Hp)(D:Ends),Inv X pins σ H s->t D σ H->wpAny (model X.prog X.w) X.A (execs st X.env) (SP X pins D) X.xe s
 ):=⟨PSs.run⟩
theorem thn {α:Type}{t:Sem α}{Q Q':α->Sd->Prop}{M:Model}{A:Around}{E:VSP}{s:Sd}(h:wpAny M A t Q E s)(hQ:∀ a s,Q a s->Q' a s):wpAny M A t Q' E s:=Dq h hQ fun _ _ x=>x
end L2
namespace L2
open PySem PySem.Spec PyProof.Rows
section
variable {X:Cx}
def tVar (i:Nat):TE:=fun σ H Q=>∃ v,σ[i]?=some (some v)/\Q v H
def tC (v:V):TE:=fun _ H Q=>Q v H
theorem i71 {i:Nat}{x:Str}{pos:Pos}(hN:X.N[i]?=some x)(hv:Vis X.env.scope x)(hd:(x == ("__debug__" : Str))=false:=by decide)(hcd:(x == ("__classdict__" : Str))=false:=by decide):PE X (.Name x pos) (tVar i):=by
 try constructor
 intro pins s σ H Q I h;obtain⟨v,e,h⟩:=h;obtain⟨m,hn,hl⟩:=I.loc;obtain⟨u,r,l⟩:=hl i x v hN e hv;have fin:EP X pins σ Q u s:=⟨v,H,I,r,h⟩;rcases l with⟨hk,hm⟩ | ⟨hk,c,hc,hcell⟩
 ·exact wpAny_Name (wpAny_loadName_local I.ok.kind hk hn hm fin) hd
 ·rcases hk with hk | hk
  ·exact wpAny_Name (wpAny_loadName_cell I.ok.kind hk hc hcell fin) hd
  ·exact wpAny_Name (wpAny_loadName_free I.ok.kind hk hc hcell fin hcd) hd
theorem a05 {i j pos}:PE X (.Constant (.int i) j pos) (tC (.int i)):=.mk fun _ _ _ H _ I h=>wpAny_Constant_int ⟨.int i,H,I.tok _,⟨_,rfl⟩,h⟩
theorem b08 {b j pos}:PE X (.Constant (.bool b) j pos) (tC (.bl b)):=.mk fun _ _ _ H _ I h=>Constant_bool ⟨.bl b,H,I,rfl,h⟩
theorem a55 {j pos}:PE X (.Constant .none j pos) (tC .non):=.mk fun _ _ _ H _ I h=>Constant_none ⟨.non,H,I,rfl,h⟩
theorem a37 {x j pos}:PE X (.Constant (.str x) j pos) (tC (.str x)):=.mk fun _ _ _ H _ I h=>Calls.Constant_str ⟨.str x,H,I.tok _,⟨_,rfl⟩,h⟩
def Gl (X:Cx) (x:Str):Prop:=X.env.kindOf x=some .globalImplicit
theorem b62 {E:VSP}{pins:LAO}{s:Sd}{σ:St}{H:Hp}{x:Str}{u:Value}{pos:Pos}{Q:VSP}(I:Inv X pins σ H s)(hg:Gl X x)(hm:X.mg x=some u)(h:Q u s)
 (hd:(x == ("__debug__" : Str))=false:=by decide):wpAny (model X.prog X.w) X.A (eval (.Name x pos) X.env) Q E s :=
 Calls.Name_function_global I.ok.kind hg (Calls.loadGlobal_global (by rw[I.ok.glob];exact I.mod.glob.keeps I.bk) hm h) hd
theorem c17 {E:VSP}{pins:LAO}{s:Sd}{σ:St}{H:Hp}{x:Str}{u:Value}{pos:Pos}{Q:VSP}(I:Inv X pins σ H s)(hg:Gl X x)(hm:X.mg x=none)(hv:bootBuiltins x=some u)(h:Q u s)
 (hn:x ≠ "__name__" := by decide)(hd:(x == ("__debug__" : Str))=false:=by decide):wpAny (model X.prog X.w) X.A (eval (.Name x pos) X.env) Q E s:=by
 obtain⟨mb,h1,h2⟩:=I.mod.blt;exact Calls.Name_function_global I.ok.kind hg (Calls.loadGlobal_builtin (by rw[I.ok.glob];exact I.mod.glob.keeps I.bk) hm (by rw[I.ok.blt];exact h1.keeps I.bk) ((h2 x hn).trans hv) h) hd
theorem a66 {x:Str}{v:V}{u:Value}{pos:Pos}(hg:Gl X x)(hm:X.mg x=some u)(r:RelV v u)(hd:(x == ("__debug__" : Str))=false:=by decide):PE X (.Name x pos) (tC v):=.mk fun _ _ _ H _ I h=>b62 I hg hm ⟨v,H,I,r,h⟩ hd
theorem b39 {x:Str}{v:V}{u:Value}{pos:Pos}(hg:Gl X x)(hm:X.mg x=none)(hv:bootBuiltins x=some u)(r:RelV v u)(hn:x ≠ "__name__" := by decide)(hd:(x == ("__debug__" : Str))=false:=by decide):PE X (.Name x pos) (tC v):=.mk fun _ _ _ H _ I h=>c17 I hg hm hv ⟨v,H,I,r,h⟩ hn hd
variable {a b:Expr}{ta tb:TE}{pos:Pos}
structure PC (X:Cx)(op:CmpOp)(a b:Expr)(t:TE):Prop where
 run :
  ∀(pins:LAO)(s:Sd)(σ:St)(H:Hp)(Q:VK),Inv X pins σ H s->t σ H Q ->
   wpAny (model X.prog X.w) X.A (eval a X.env) (fun v s₁=>wpAny (model X.prog X.w) X.A (eval b X.env) (fun u s₂=>wpAny (model X.prog X.w) X.A (compareOp op v u) (EP X pins σ Q) X.xe s₂) X.xe s₁) X.xe s
instance {X:Cx}{op:CmpOp}{a b:Expr}{t:TE}:CoeFun (PC X op a b t) (fun _ =>
 ∀(pins:LAO)(s:Sd)(σ:St)(H:Hp)(Q:VK),Inv X pins σ H s->t σ H Q ->
  wpAny (model X.prog X.w) X.A (eval a X.env) (fun v s₁=>wpAny (model X.prog X.w) X.A (eval b X.env) (fun u s₂=>wpAny (model X.prog X.w) X.A (compareOp op v u) (EP X pins σ Q) X.xe s₂) X.xe s₁) X.xe s
 ):=⟨PC.run⟩
theorem e39 (b:Expr){op:CmpOp}(h:op≠.In)(h2:op≠.NotIn):behindInMarks op b=false:=by
 have e1:(op == CmpOp.In)=false:=by cases op <;> first | rfl | exact absurd rfl h
 have e2:(op == CmpOp.NotIn)=false:=by cases op <;> first | rfl | exact absurd rfl h2
 cases b <;> simp[behindInMarks,e1,e2]
def tIsN (ta:TE):TE:=fun σ H Q=>ta σ H fun x H1=>Q (.bl (decide (x=.non))) H1
def tNotN (ta:TE):TE:=fun σ H Q=>ta σ H fun x H1=>Q (.bl (!decide (x=.non))) H1
theorem RelV.none_iff {x:V}{v:Value}(r:RelV x v):(v == Value.none)=decide (x=.non):=by
 cases x with
 | non=>cases r;rfl
 | bl _=>cases r;rfl
 | int _=>obtain⟨t,rfl⟩:=r;rfl
 | str _=>obtain⟨t,rfl⟩:=r;rfl
 | byt _=>obtain⟨t,rfl⟩:=r;rfl
 | flt _=>obtain⟨t,rfl⟩:=r;rfl
 | ref _=>cases r;rfl
 | ty _=>cases r;rfl
theorem b30 {j pos'}(ha:PE X a ta):PC X .Is a (.Constant .none j pos') (tIsN ta):=by
 try constructor
 intro pins s σ H Q I h;refine thn (ha pins s σ H _ I h) fun v s1 ⟨x,H1,I1,r1,q1⟩=>?_;exact Constant_none (is_none_gen ⟨.bl _,H1,I1,by rw[r1.none_iff];rfl,q1⟩)
theorem b68 {j pos'}(ha:PE X a ta):PC X .IsNot a (.Constant .none j pos') (tNotN ta):=by
 try constructor
 intro pins s σ H Q I h;refine thn (ha pins s σ H _ I h) fun v s1 ⟨x,H1,I1,r1,q1⟩=>?_;exact Constant_none (isnot_none_gen ⟨.bl _,H1,I1,by rw[r1.none_iff];rfl,q1⟩)
def tB (t:TE):TT:=fun σ H Q=>t σ H fun x H1=>∃ c,x=.bl c/\Q c H1
theorem g29 {op:CmpOp}{t:TE}(h:PC X op a b t)(h1:behindInMarks op b=false:=by first | exact e39 _ (by decide) (by decide) | rfl):PE X (.Compare a [op] [b] pos) t:=.mk fun pins s σ H Q I hw=>wpAny_Compare1 (h pins s σ H Q I hw) h1
theorem a86 {op:CmpOp}{t:TE}(h:PC X op a b t)(h1:behindInMarks op b=false:=by first | exact e39 _ (by decide) (by decide) | rfl):PT X (.Compare a [op] [b] pos) (tB t):=by
 try constructor
 intro pins s σ H Q I hw;refine wpAny_isTrue_Compare1 (thn (h pins s σ H _ I hw) fun v s1 h1=>thn h1 fun u s2 h2=>thn h2 fun c s3 ⟨x,H1,I1,r1,q1⟩=>?_) h1;obtain⟨d,rfl,q⟩:=q1;cases r1;exact wpAny_truthy_bool ⟨H1,I1,q⟩
theorem a83 {e:Expr}{t:TE}(h:PE X e t)(he:∀ whole,isTrue e X.env whole=(do let v ← whole;standAt e.pos;holding [v] (truthy v)):=by intro _;rfl):PT X e (tB t):=by
 try constructor
 intro pins s σ H Q I hw;refine isTrue_plain (thn (h pins s σ H _ I hw) fun v s1 ⟨x,H1,I1,r1,q1⟩=>?_) (he _);obtain⟨d,rfl,q⟩:=q1;cases r1;exact wpAny_truthy_bool ⟨H1,I1,q⟩
variable {tA tB':TT}{rest:List Expr}
def tAnd (t u:TT):TT:=fun σ H Q=>t σ H fun c H1=>if c=true then u σ H1 Q else Q false H1
def tOr (t u:TT):TT:=fun σ H Q=>t σ H fun c H1=>if c=true then Q true H1 else u σ H1 Q
def tNot (t:TT):TT:=fun σ H Q=>t σ H fun c H1=>Q (!c) H1
theorem a93 (ha:PT X a tA):PW X (.BoolOp .And [a] pos) tA:=by
 try constructor
 intro wh pins s σ H Q I h;refine isTrue_and (thn (ha pins s σ H Q I h) fun c s1 e=>?_);cases c with
 | true=>exact isTrue_and_nil e
 | false=>exact e
theorem a79 (ha:PT X a tA):PW X (.BoolOp .Or [a] pos) tA:=by
 try constructor
 intro wh pins s σ H Q I h;refine isTrue_or (thn (ha pins s σ H Q I h) fun c s1 e=>?_);cases c with
 | false=>exact isTrue_or_nil e
 | true=>exact e
theorem a97 (ha:PT X a tA)(hb:PW X (.BoolOp .And (b::rest) pos) tB'):PW X (.BoolOp .And (a::b::rest) pos) (tAnd tA tB'):=by
 try constructor
 intro wh pins s σ H Q I h;refine isTrue_and (thn (ha pins s σ H _ I h) fun c s1 ⟨H1,I1,q1⟩=>?_);cases c with
 | true=>exact hb wh pins s1 σ H1 Q I1 q1
 | false=>exact⟨H1,I1,q1⟩
theorem a94 (ha:PT X a tA)(hb:PW X (.BoolOp .Or (b::rest) pos) tB'):PW X (.BoolOp .Or (a::b::rest) pos) (tOr tA tB'):=by
 try constructor
 intro wh pins s σ H Q I h;refine isTrue_or (thn (ha pins s σ H _ I h) fun c s1 ⟨H1,I1,q1⟩=>?_);cases c with
 | true=>exact⟨H1,I1,q1⟩
 | false=>exact hb wh pins s1 σ H1 Q I1 q1
theorem b35 (ha:PT X a tA):PT X (.UnaryOp .Not a pos) (tNot tA):=by
 try constructor
 intro pins s σ H Q I h;exact isTrue_not (ha pins s σ H (fun c H1=>Q (!c) H1) I h)
def tAndV (ta tb:TE):TE:=fun σ H Q=>ta σ H fun x H1=>∃ c,x=.bl c/\if c=true then tb σ H1 Q else Q (.bl false) H1
def tOrV (ta tb:TE):TE:=fun σ H Q=>ta σ H fun x H1=>∃ c,x=.bl c/\if c=true then Q (.bl true) H1 else tb σ H1 Q
def tNotV (ta:TE):TE:=fun σ H Q=>ta σ H fun x H1=>∃ c,x=.bl c/\Q (.bl (!c)) H1
theorem b59 {op}{t:TE}(h:PE X a t):PE X (.BoolOp op [a] pos) t:=.mk fun pins s σ H Q I hw=>BoolOp_one (h pins s σ H Q I hw)
theorem b61 (ha:PE X a ta)(hb:PE X (.BoolOp .And (b::rest) pos) tb):PE X (.BoolOp .And (a::b::rest) pos) (tAndV ta tb):=by
 try constructor
 intro pins s σ H Q I h;refine BoolOp_and (thn (ha pins s σ H _ I h) fun v s1 ⟨x,H1,I1,r1,q1⟩=>?_);obtain⟨c,rfl,q1⟩:=q1;cases r1;refine wpAny_truthy_bool ?_;cases c with
 | true=>exact hb pins s1 σ H1 Q I1 q1
 | false=>exact⟨.bl false,H1,I1,rfl,q1⟩
theorem pe_or (ha:PE X a ta)(hb:PE X (.BoolOp .Or (b::rest) pos) tb):PE X (.BoolOp .Or (a::b::rest) pos) (tOrV ta tb):=by
 try constructor
 intro pins s σ H Q I h;refine BoolOp_or (thn (ha pins s σ H _ I h) fun v s1 ⟨x,H1,I1,r1,q1⟩=>?_);obtain⟨c,rfl,q1⟩:=q1;cases r1;refine wpAny_truthy_bool ?_;cases c with
 | false=>exact hb pins s1 σ H1 Q I1 q1
 | true=>exact⟨.bl true,H1,I1,rfl,q1⟩
theorem f62 (ha:PE X a ta):PE X (.UnaryOp .Not a pos) (tNotV ta):=by
 try constructor
 intro pins s σ H Q I h;refine UnaryOp_ (thn (ha pins s σ H _ I h) fun v s1 ⟨x,H1,I1,r1,q1⟩=>?_);obtain⟨c,rfl,q1⟩:=q1;cases r1;exact not_of (wpAny_truthy_bool ⟨.bl (!c),H1,I1,rfl,q1⟩)
def tIf (t:TT)(ta tb:TE):TE:=fun σ H Q=>t σ H fun c H1=>if c=true then ta σ H1 Q else tb σ H1 Q
theorem b27 {c:Expr}(hc:PT X c tA)(ha:PE X a ta)(hb:PE X b tb):PE X (.IfExp c a b pos) (tIf tA ta tb):=by
 try constructor
 intro pins s σ H Q I h;refine wpAny_IfExp (thn (hc pins s σ H _ I h) fun d s1 ⟨H1,I1,q1⟩=>?_);cases d with
 | true=>exact ha pins s1 σ H1 Q I1 q1
 | false=>exact hb pins s1 σ H1 Q I1 q1
end
end L2
namespace L2
open PySem PySem.Spec PyProof.Rows
def SqL (K:WFr)(H:Hp)(a:Addr) (xs:List V):Prop :=
 Rd H a (.lst xs) ∨
  ∃(o:Obj)(its:Array Value) (n:Nat),K.lookup a=some o/\o.cls=.type "list"/\o.dict=none/\o.data=.seq its n/\its.size<=zL/\Vals xs its.toList
def SqT (K:WFr)(H:Hp)(a:Addr) (xs:List V):Prop :=
 Rd H a (.tup xs) ∨
  ∃(o:Obj)(its:Array Value) (n:Nat),K.lookup a=some o/\o.cls=.type "tuple"/\o.data=.seq its n/\its.size<=zL/\Vals xs its.toList
def absV:Value->Option V
 | .none=>some .non
 | .bool b=>some (.bl b)
 | .int i _=>some (.int i)
 | .str x _=>some (.str x)
 | .bytes b _=>some (.byt b)
 | .float b _=>some (.flt b)
 | .ref a=>some (.ref a)
 | .type n=>some (.ty n)
 | _=>none
theorem RelV.abs {x:V}{u:Value}(r:RelV x u):absV u=some x:=by
 cases x with
 | non=>cases r;rfl
 | bl _=>cases r;rfl
 | int _=>obtain⟨t,rfl⟩:=r;rfl
 | str _=>obtain⟨t,rfl⟩:=r;rfl
 | byt _=>obtain⟨t,rfl⟩:=r;rfl
 | flt _=>obtain⟨t,rfl⟩:=r;rfl
 | ref _=>cases r;rfl
 | ty _=>cases r;rfl
theorem RelV.inj {x y:V}{u:Value}(r:RelV x u)(q:RelV y u):x=y:=Ez (r.abs.symm.trans q.abs)
theorem Vals.inj:∀ {xs ys:List V}{us:List Value},Vals xs us->Vals ys us->xs=ys
 | _,_,_,.nil,.nil=>rfl
 | _,_,_,.cons r t,.cons r' t'=>by rw[r.inj r',Vals.inj t t']
section
variable {X:Cx}{pins:LAO}{σ:St}{H:Hp}{s:Sd}{a:Addr}{xs ys:List V}
theorem SqL.of {K:WFr}(h:H a=some (.lst xs)):SqL K H a xs:=.inl (.inl h)
theorem SqT.of {K:WFr}(h:H a=some (.tup xs)):SqT K H a xs:=.inl (.inl h)
theorem Inv.list (I:Inv X pins σ H s)(h:SqL X.K H a xs):∃ its:List Value,Vals xs its/\PlainL s.heap a its.toArray/\xs.length<=zL:=by
 rcases h with h | ⟨o,its,n,hk,hc,hd,hs,hz,r⟩
 ·obtain⟨z,its,n,r,e⟩:=h.ok I.hok;exact⟨its,r,⟨_,n,e,rfl,rfl,rfl⟩,z⟩
 ·refine⟨its.toList,r,⟨o,n,I.kIn a o hk,hc,hd,by simpa using hs⟩,?_⟩;have e:=r.length;simp only[Cj] at e;lia
theorem Inv.tuple (I:Inv X pins σ H s)(h:SqT X.K H a xs):∃ its:List Value,Vals xs its/\IsTup s.heap a its.toArray/\xs.length<=zL:=by
 rcases h with h | ⟨o,its,n,hk,hc,hs,hz,r⟩
 ·obtain⟨z,its,r,p⟩:=h.ok I.hok;exact⟨its,r,p,z⟩
 ·refine⟨its.toList,r,⟨o,I.kIn a o hk,hc,n,by simpa using hs⟩,?_⟩;have e:=r.length;simp only[Cj] at e;lia
theorem Inv.list_inj (I:Inv X pins σ H s)(h:SqL X.K H a xs)(h':SqL X.K H a ys):xs=ys:=by
 obtain⟨its,r,⟨o,n,e,_,_,d⟩,_⟩:=I.list h;obtain⟨its',r',⟨o',n',e',_,_,d'⟩,_⟩:=I.list h';rw[e] at e';cases e';rw[d] at d';injection d' with d1 _
 have:its=its':=by simpa using congrArg Array.toList d1
 subst this;exact r.inj r'
theorem Inv.tuple_inj (I:Inv X pins σ H s)(h:SqT X.K H a xs)(h':SqT X.K H a ys):xs=ys:=by
 obtain⟨its,r,⟨o,e,_,n,d⟩,_⟩:=I.tuple h;obtain⟨its',r',⟨o',e',_,n',d'⟩,_⟩:=I.tuple h';rw[e] at e';cases e';rw[d] at d';injection d' with d1 _
 have:its=its':=by simpa using congrArg Array.toList d1
 subst this;exact r.inj r'
end
abbrev Cx.wish (X:Cx)(E:VSP):Cx:={ X with xe:=E }
abbrev Cx.nox (X:Cx):Cx:=X.wish fun _ _=>False
theorem Cx.Ok.wish {X:Cx}(ok:X.Ok)(E:VSP):(X.wish E).Ok :=
 ⟨ok.mod,ok.kind,ok.glob,ok.blt,ok.above,ok.inj,ok.has,ok.cab,ok.hd,ok.frames,ok.stk,ok.exf,ok.bs,ok.bsz,ok.noex,ok.exfs,ok.funs,ok.frf⟩
theorem Cx.Ok.unwish {X:Cx}{E:VSP}(ok:(X.wish E).Ok):X.Ok :=
 ⟨ok.mod,ok.kind,ok.glob,ok.blt,ok.above,ok.inj,ok.has,ok.cab,ok.hd,ok.frames,ok.stk,ok.exf,ok.bs,ok.bsz,ok.noex,ok.exfs,ok.funs,ok.frf⟩
section
variable {X:Cx}{pins:LAO}{σ:St}{H:Hp}{s:Sd}{E:VSP}
theorem Inv.wish (I:Inv X pins σ H s)(E:VSP):Inv (X.wish E) pins σ H s:=⟨I.ok.wish E,I.os,I.bare,I.base,I.loc,I.cell,I.free,I.freeC,I.pin,I.hok,I.len⟩
theorem Inv.unwish (I:Inv (X.wish E) pins σ H s):Inv X pins σ H s:=⟨I.ok.unwish,I.os,I.bare,I.base,I.loc,I.cell,I.free,I.freeC,I.pin,I.hok,I.len⟩
theorem SP.unwish {D:Ends}{f:Flow}{s':Sd}(h:SP (X.wish E) pins D f s'):SP X pins D f s':=by
 cases f with
 | next=>obtain⟨σ',H',I,q⟩:=h;exact⟨σ',H',I.unwish,q⟩
 | brk=>obtain⟨σ',H',I,q⟩:=h;exact⟨σ',H',I.unwish,q⟩
 | cont=>obtain⟨σ',H',I,q⟩:=h;exact⟨σ',H',I.unwish,q⟩
 | ret u=>obtain⟨v,σ',H',I,r,q⟩:=h;exact⟨v,σ',H',I.unwish,r,q⟩
theorem PSs.nox {st:List Stmt}{t:TS}(h:PSs X.nox st t):PSs X st t:=.mk fun pins s σ H D I hw =>
 Dq (h pins s σ H D (I.wish _) hw) (fun _ _ q=>q.unwish) fun _ _ z=>False.elim z
end
section
variable {X:Cx}{st:Stmt}{rest:List Stmt}{t u:TS}{e:Expr}{te:TE}{pos:Pos}
def tNext:TS:=fun D σ H=>D.nx σ H
def tSeq (t u:TS):TS:=fun D σ H=>t { D with nx:=u D } σ H
theorem a39:PSs X [] tNext:=.mk fun _ _ σ H _ I h=>wpAny_execs_nil ⟨σ,H,I,h⟩
theorem a03 (h1:PS X st t)(h2:PSs X rest u):PSs X (st::rest) (tSeq t u):=by
 try constructor
 intro pins s σ H D I h;refine wpAny_execs_cons (thn (h1 pins s σ H { D with nx:=u D } I h) fun f s1 q=>?_)
 cases f with
 | next =>
  obtain⟨σ',H',I',q⟩:=q;exact h2 pins s1 σ' H' D I' q
 | ret v=>exact q
 | brk=>exact q
 | cont=>exact q
theorem a06 (h1:PS X st t):PSs X [st] t:=by
 try constructor
 intro pins s σ H D I h;refine wpAny_execs_cons (thn (h1 pins s σ H D I h) fun f s1 q=>?_);cases f with
 | next=>exact wpAny_execs_nil q
 | ret v=>exact q
 | brk=>exact q
 | cont=>exact q
theorem Inv.quiet {pins:LAO}{σ:St}{H:Hp}{s:Sd}(I:Inv X pins σ H s):interactive X.env=false:=by simp[interactive,I.ok.kind]
def tDrop (te:TE):TS:=fun D σ H=>te σ H fun _ H1=>D.nx σ H1
theorem a81 (he:PE X e te)(hs:swapsWith e none pos.line X.env=pure false:=by rfl):PS X (.Expr e pos) (tDrop te):=by
 try constructor
 intro pins s σ H D I h;exact wpAny_Expr_any (thn (he pins s σ H _ I h) fun v s1 ⟨x,H1,I1,r1,q1⟩=>⟨σ,H1,I1,q1⟩) I.quiet hs
def tRet (te:TE):TS:=fun D σ H=>te σ H D.rt
theorem a40 (he:PE X e te):PS X (.Return (some e) pos) (tRet te):=by
 try constructor
 intro pins s σ H D I h;exact wpAny_Return_some (thn (he pins s σ H _ I h) fun v s1 ⟨x,H1,I1,r1,q1⟩=>⟨x,σ,H1,I1,r1,q1⟩)
def tRetN:TS:=fun D _ H=>D.rt .non H
theorem e92:PS X (.Return none pos) tRetN:=.mk fun _ _ σ H _ I h=>wpAny_Return_none ⟨.non,σ,H,I,rfl,h⟩
def tIfS (c:TT)(t u:TS):TS:=fun D σ H=>c σ H fun b H1=>if b=true then t D σ H1 else u D σ H1
theorem a46 {c:Expr}{a b:List Stmt}{tc:TT}(hc:PT X c tc)(ha:PSs X a t)(hb:PSs X b u):PS X (.If c a b pos) (tIfS tc t u):=by
 try constructor
 intro pins s σ H D I h;refine wpAny_If (thn (hc pins s σ H _ I h) fun d s1 ⟨H1,I1,q1⟩=>?_);cases d with
 | true=>exact ha pins s1 σ H1 D I1 q1
 | false=>exact hb pins s1 σ H1 D I1 q1
def i70:TS:=fun _ _ _=>False
theorem d19 {sts:List Stmt}:PSs X sts i70:=.mk fun _ _ _ _ _ _ h=>h.elim
end
abbrev TG:=V->St->Hp->(St->Hp->Prop)->Prop
abbrev TGs:=List V->St->Hp->(St->Hp->Prop)->Prop
structure PG (X:Cx)(target:Expr)(t:TG):Prop where
 run :
  ∀(pins:LAO)(s:Sd)(σ:St)(H:Hp) (v:V) (u:Value)(Q:St->Hp->Prop),Inv X pins σ H s->RelV v u->t v σ H Q ->
   wpAny (model X.prog X.w) X.A (assign target X.env u) (fun _ s'=>∃ σ' H',Inv X pins σ' H' s'/\Q σ' H') X.xe s
instance {X:Cx}{target:Expr}{t:TG}:CoeFun (PG X target t) (fun _ =>
 ∀(pins:LAO)(s:Sd)(σ:St)(H:Hp) (v:V) (u:Value)(Q:St->Hp->Prop),Inv X pins σ H s->RelV v u->t v σ H Q ->
  wpAny (model X.prog X.w) X.A (assign target X.env u) (fun _ s'=>∃ σ' H',Inv X pins σ' H' s'/\Q σ' H') X.xe s
 ):=⟨PG.run⟩
structure PGs (X:Cx) (ts:List Expr)(t:TGs):Prop where
 run :
  ∀(pins:LAO)(s:Sd)(σ:St)(H:Hp) (vs:List V) (us:List Value)(Q:St->Hp->Prop),Inv X pins σ H s->Vals vs us->t vs σ H Q ->
   wpAny (model X.prog X.w) X.A (assignInOrder ((assignEach ts X.env).map (·.2)) us) (fun _ s'=>∃ σ' H',Inv X pins σ' H' s'/\Q σ' H') X.xe s
instance {X:Cx}{ts:List Expr}{t:TGs}:CoeFun (PGs X ts t) (fun _ =>
 ∀(pins:LAO)(s:Sd)(σ:St)(H:Hp) (vs:List V) (us:List Value)(Q:St->Hp->Prop),Inv X pins σ H s->Vals vs us->t vs σ H Q ->
  wpAny (model X.prog X.w) X.A (assignInOrder ((assignEach ts X.env).map (·.2)) us) (fun _ s'=>∃ σ' H',Inv X pins σ' H' s'/\Q σ' H') X.xe s
 ):=⟨PGs.run⟩
abbrev TSet:=V->V->V->Hp->(Hp->Prop)->Prop
def PSet (X:Cx)(t:TSet):Prop :=
 ∀(pins:LAO)(s:Sd)(σ:St)(H:Hp) (o i v:V) (ov iv u:Value)(Q:Hp->Prop),Inv X pins σ H s->RelV o ov->RelV i iv->RelV v u->t o i v H Q ->
  wpAny (model X.prog X.w) X.A (setItem ov iv u) (fun _ s'=>∃ H',Inv X pins σ H' s'/\Q H') X.xe s
section
variable {X:Cx}{pos:Pos}
def b65 (i:Nat):TG:=fun v σ H Q=>Q (σ.set i (some v)) H
theorem a75 {i:Nat}{x:Str}(hN:X.N.Nodup)(hi:X.N[i]?=some x)(hx:Loc X.env.scope x)(hf:X.fn x=true∨X.env.scope.names.lookup x=some .local:=by first | exact .inl rfl | exact .inr rfl | assumption):PG X (.Name x pos) (b65 i):=by
 try constructor
 intro pins s σ H v u Q I r h;exact wpAny_assign_Name (b54 I hN hi hx r (fun s' I'=>⟨_,H,I',h⟩) hf)
def gNil:TGs:=fun vs σ H Q=>vs=[]/\Q σ H
def d63 (t:TG)(u:TGs):TGs:=fun vs σ H Q=>∃ v r,vs=v::r/\t v σ H fun σ' H'=>u r σ' H' Q
theorem c01:PGs X [] gNil:=by
 try constructor
 intro pins s σ H vs us Q I r h;obtain⟨e,h⟩:=h;subst e;cases r;exact assignInOrder_nil ⟨σ,H,I,h⟩
theorem a89 {e:Expr}{es:List Expr}{t:TG}{u:TGs}(h1:PG X e t)(h2:PGs X es u)
 (hs:(assignEach (e::es) X.env).map (·.2)=assign e X.env::(assignEach es X.env).map (·.2):=by rfl):PGs X (e::es) (d63 t u):=by
 try constructor
 intro pins s σ H vs us Q I r h;obtain⟨v,vr,e1,h⟩:=h;subst e1;cases r with
 | cons r rr =>
  rw[hs];refine assignInOrder_cons (thn (h1 pins s σ H _ _ _ I r h) fun _ s1 ⟨σ1,H1,I1,q1⟩=>?_);exact h2 pins s1 σ1 H1 _ _ Q I1 rr q1
def gTup (K:WFr) (n:Nat)(t:TGs):TG:=fun v σ H Q=>∃ a xs,v=.ref a/\SqT K H a xs/\xs.length=n/\t xs σ H Q
theorem c67 {es:List Expr}{k:Nat}{t:TGs}{n:Nat}(hc:X.calm=true)(h:PGs X es t)
 (hn:(assignEach es X.env).length=n:=by rfl)(hst:(assignEach es X.env).findIdx? (·.1)=none:=by rfl):PG X (.Tuple es k pos) (gTup X.K n t):=by
 try constructor
 intro pins s σ H v u Q I r hw;obtain⟨a,xs,e1,hq,hl,hw⟩:=hw;subst e1;cases r;obtain⟨its,rv,ht,hz⟩:=I.tuple hq;refine assign_Tuple_tuple (I.ok.hd hc) ht (by simp[hn,← hl,rv.length]) hst fun h' hx=>?_;have I1:Inv X pins σ H { s with heap:=h' }:=I.kept (t':=s.toks) fun b o e=>hx b o (nLQ (DQ e)) e
 exact h pins _ σ H xs _ Q I1 (by simpa using rv) hw
def gSub (to ti:TE)(t:TSet):TG:=fun v σ H Q=>to σ H fun o H1=>ti σ H1 fun i H2=>t o i v H2 fun H3=>Q σ H3
theorem c68 {o i:Expr}{to ti:TE}{t:TSet}(ho:PE X o to)(hi:PE X i ti)(hs:PSet X t)
 (ha:∀ v,assign (.Subscript o i pos) X.env v=(do
   let ov ← holding [v] (eval o X.env)
   let iv ← holding [v,ov] (eval i X.env)
   standAt pos
   holding [v,ov,iv] (setItem ov iv v)
   release [v,ov,iv] []):=by intro _;rfl):PG X (.Subscript o i pos) (gSub to ti t):=by
 try constructor
 intro pins s σ H v u Q I r h;rw[ha];refine AQ (wpAny_holding (thn (ho pins s σ H _ I h) fun ov s1 ⟨x,H1,I1,r1,q1⟩=>?_));refine AQ (wpAny_holding (thn (hi pins s1 σ H1 _ I1 q1) fun iv s2 ⟨y,H2,I2,r2,q2⟩=>?_));refine AQ (wpAny_standAt (AQ (wpAny_holding (thn (hs pins s2 σ H2 x y v ov iv u _ I2 r1 r2 r q2) fun _ s3 ⟨H3,I3,q3⟩=>?_))));exact wpAny_release ⟨σ,H3,I3,q3⟩
def i18 (te:TE)(g:TG):TS:=fun D σ H=>te σ H fun x H1=>g x σ H1 D.nx
theorem d29 {tg e:Expr}{te:TE}{g:TG}(he:PE X e te)(hg:PG X tg g)(hs:swapsWithSole [tg] e pos.line X.env=pure false:=by rfl)(hw:swappedStores [tg] e X.env=pure none:=by rfl)
 (h1:(assignEach [tg] X.env).map (·.2)=[assign tg X.env]:=by rfl):PS X (.Assign [tg] e pos) (i18 te g):=by
 try constructor
 intro pins s σ H D I h;refine wpAny_Assign_stores (thn (he pins s σ H _ I h) fun v s1 ⟨x,H1,I1,r1,q1⟩=>?_) hs hw;rw[h1];exact thn (hg pins s1 σ H1 x v _ I1 r1 q1) fun _ s2 q=>q
theorem c21 {i:Nat}{x:Str}{e:Expr}{te:TE}{pos':Pos}(hN:X.N.Nodup)(hi:X.N[i]?=some x)(hx:Loc X.env.scope x)(he:PE X e te)(hs:swapsWith e (some (.Name x pos')) pos.line X.env=pure false:=by rfl)(hf:X.fn x=true∨X.env.scope.names.lookup x=some .local:=by first | exact .inl rfl | exact .inr rfl | assumption) :
 PS X (.Assign [.Name x pos'] e pos) (i18 te (b65 i)):=by
 try constructor
 intro pins s σ H D I h;refine wpAny_Assign_Name (thn (he pins s σ H _ I h) fun v s1 ⟨y,H1,I1,r1,q1⟩=>?_) hs;exact b54 I1 hN hi hx r1 (fun s2 I2=>⟨_,H1,I2,q1⟩) hf
end
section
variable {X:Cx}{pos:Pos}
end
structure It where
 go:Nat->Hp->Prop
 yld:Nat->Hp->V->Hp->Prop
 stop:Nat->Hp->Prop
def f72 (X:Cx)(pins:LAO)(H:Hp)(b:Addr):Prop :=
 H b=none/\b≠X.env.locals/\b∉X.fs/\(b∈X.ex∨X.s₀.heap.objs.size<=b)/\(∀ x c,X.env.cells.lookup x=some c->c≠b)/\∀ p∈X.pn++pins,p.1≠b
theorem Inv.fpOk {X:Cx}{pins:LAO}{σ:St}{H H':Hp}{s:Sd}{b:Addr}(I:Inv X pins σ H s)(hb:s.heap.objs.size<=b)(hn:H' b=none):f72 X pins H' b:=by
 refine⟨hn,Nat.ne_of_gt (nTQ I.lt hb),I.nofs hb,.inr (Fz I.sz hb),fun x c e z=>?_,fun p hp z=>?_⟩
 ·obtain⟨v,q⟩:=I.cell x c e;exact absurd (nTQ q.lt (by rw[z];exact hb)) (Nat.lt_irrefl _)
 ·exact absurd (nTQ (DQ (I.pin p hp).1) (by rw[z];exact hb)) (Nat.lt_irrefl _)
structure Turn (P:Pm)(w:World)(K:WFr)(tg:Expr)(J:It) (fp:List Addr)(it:Addr) (tn:Nat->Heap->Prop):Prop where
 mem:it∈fp
 obj:∀ i h,tn i h->∀ b∈fp,∃ o,h.get? b=some o/\∀ v,o.data≠.cell v
 keep:∀ i h h',tn i h->(∀ b∈fp,∀ o,h.get? b=some o->h'.get? b=some o)->tn i h'
 item:∀(X:Cx),X.prog=P->X.w=w->X.K=K->X.calm=true->∀(i:Nat)(pins:LAO)(s:Sd)(σ:St)(H:Hp)(E:VSP),Inv X pins σ H s->(∀ b∈fp,f72 X pins H b)->tn i s.heap->J.go i H ->
  wpAny (model P w) X.A (pyNext (.ref it)) (fun r s1=>∃ u,r=some u /\
   wpAny (model P w) X.A (letOwnedTupleGo tg (.ref it) u) (fun _ s2=>∃ x H',Inv X pins σ H' s2/\RelV x u/\J.yld i H x H'/\tn (i+1) s2.heap/\∀ b∈fp,H' b=none) E s1) E s
 done:∀(X:Cx),X.prog=P->X.w=w->X.K=K->X.calm=true->∀(i:Nat)(pins:LAO)(s:Sd)(σ:St)(H:Hp)(E:VSP),Inv X pins σ H s->(∀ b∈fp,f72 X pins H b)->tn i s.heap->J.stop i H ->
  wpAny (model P w) X.A (pyNext (.ref it)) (fun r s1=>r=none/\Inv X pins σ H s1) E s
 self:∀(A:Around) (i:Nat)(s:Sd)(Q:VSP)(E:VSP),tn i s.heap->Q (.ref it) s->wpAny (model P w) A (pyIter (.ref it)) Q E s
abbrev TI:=St->Hp->(It->Hp->Prop)->Prop
def PIE (X:Cx)(pins:LAO)(σ:St)(tg:Expr)(R:It->Hp->Prop) (itv:Value)(s2:Sd):Prop :=
 ∃(it:Addr) (fp:List Addr) (tn:Nat->Heap->Prop)(J:It)(H':Hp),itv=.ref it/\Inv X pins σ H' s2/\Turn X.prog X.w X.K tg J fp it tn/\tn 0 s2.heap/\(∀ b∈fp,f72 X pins H' b)/\R J H'
structure PI (X:Cx)(tg iter:Expr)(wi:TI):Prop where
 run :
  ∀(pins:LAO)(s:Sd)(σ:St)(H:Hp)(R:It->Hp->Prop),Inv X pins σ H s->wi σ H R ->
   wpAny (model X.prog X.w) X.A (eval iter X.env) (fun v s1=>wpAny (model X.prog X.w) X.A (pyIter v) (PIE X pins σ tg R) X.xe s1) X.xe s
instance {X:Cx}{tg iter:Expr}{wi:TI}:CoeFun (PI X tg iter wi) (fun _ =>
 ∀(pins:LAO)(s:Sd)(σ:St)(H:Hp)(R:It->Hp->Prop),Inv X pins σ H s->wi σ H R ->
  wpAny (model X.prog X.w) X.A (eval iter X.env) (fun v s1=>wpAny (model X.prog X.w) X.A (pyIter v) (PIE X pins σ tg R) X.xe s1) X.xe s
 ):=⟨PI.run⟩
theorem f48 {M:Model}{A:Around}{E:VSP}{s:Sd}{tg:Expr}{it:Addr}{u:Value}{o:Obj}{n:String}{vs:Array Value}{Q:Unit->Sd->Prop}(ho:s.heap.get? it=some o)(hc:o.cls=.type n)(hd:o.data=.fields vs)
 (hn:["enumerate", "zip", "dict_itemiterator", "dict_reverseitemiterator", "odict_iterator", "itertools.zip_longest", "itertools.pairwise"].contains n=false)(hQ:Q () s):wpAny M A (letOwnedTupleGo tg (.ref it) u) Q E s:=by
 unfold letOwnedTupleGo;cases tg <;> first
  | exact AX hQ
  | (cases u <;> first
      | exact AX hQ
      | (refine AQ (wpAny_load ho ?_)
         rw[hc,hd];show wpAny M A (if (["enumerate", "zip", "dict_itemiterator", "dict_reverseitemiterator", "odict_iterator", "itertools.zip_longest", "itertools.pairwise"].contains n && vs[0]? == some (rawInt _))=true then _ else _) Q E s;rw[if_neg (by intro h;rw[hn,Bool.false_and] at h;cases h)];exact AX hQ))
def Itl (K:WFr)(a:Addr):It :=
 ⟨fun i H=>∃ xs x,SqL K H a xs/\xs[i]?=some x,fun i H x H'=>H'=H/\∀ xs,SqL K H a xs->xs[i]?=some x,fun i H=>∃ xs,SqL K H a xs/\xs.length<=i⟩
def Itt (K:WFr)(a:Addr):It :=
 ⟨fun i H=>∃ xs x,SqT K H a xs/\xs[i]?=some x,fun i H x H'=>H'=H/\∀ xs,SqT K H a xs->xs[i]?=some x,fun i H=>∃ xs,SqT K H a xs/\xs.length<=i⟩
def Itr (lo:Int) (n:Nat):It:=⟨fun i _=>i < n,fun i H x H'=>H'=H/\x=.int (lo+i),fun i _=>n<=i⟩
theorem g15 {P:Pm}{w:World}{K:WFr}{tg:Expr}(a it:Addr):Turn P w K tg (Itl K a) [it] it (fun i h=>h.IsListIter it a i) where
 mem:=by simp
 obj:=fun i h st b hb=>by
  have e:b=it:=by simpa using hb
  subst e;obtain⟨o,e,c,d⟩:=st;exact⟨o,e,fun v z=>by rw[d] at z;cases z⟩
 keep:=fun i h h' st k=>st.at fun o e=>k it (by simp) o e
 item:=by
  intro X hP hw hK hc i pins s σ H E I hf st hg;subst hP hw hK;obtain⟨xs,x,hq,hx⟩:=hg;obtain⟨its,rv,p,hz⟩:=I.list hq;obtain⟨u,hu,ru⟩:=rv.get hx;obtain⟨f0,f1,f2,f3,f4,f5⟩:=hf it (by simp);refine wpAny_pyNext_list_item st p.isList (x:=u) (by simpa using hu) fun h' st' sb=>?_;have I1:Inv X pins σ H { s with heap:=h' }:=I.turned (t':=s.toks) (fun b o hb e=>(sb.2 b hb).trans e) f0 f1 f3 f4 f5
  obtain⟨o,e,c,d⟩:=id st';exact⟨u,rfl,f48 (s:={ s with heap:=h' }) e c d (by decide) ⟨x,H,I1,ru,⟨rfl,fun ys hy=>by rw[I.list_inj hy hq];exact hx⟩,st',fun b hb=>(hf b hb).1⟩⟩
 done:=by
  intro X hP hw hK hc i pins s σ H E I hf st hg;subst hP hw hK;obtain⟨xs,hq,hx⟩:=hg;obtain⟨its,rv,p,hz⟩:=I.list hq;obtain⟨f0,f1,f2,f3,f4,f5⟩:=hf it (by simp);have hl:=rv.length;exact wpAny_pyNext_list_end (I.ok.hd hc) st p.isList (by simp;lia) fun h' eb=>⟨rfl,I.turned (t':=s.toks) (fun b o hb e=>eb b o hb e) f0 f1 f3 f4 f5⟩
 self:=fun _ _ _ _ _ st h=>wpAny_pyIter_listiter st h
theorem e77 {P:Pm}{w:World}{K:WFr}{tg:Expr}(a it:Addr):Turn P w K tg (Itt K a) [it] it (fun i h=>h.IsTupleIter it a i) where
 mem:=by simp
 obj:=fun i h st b hb=>by
  have e:b=it:=by simpa using hb
  subst e;obtain⟨o,e,c,d⟩:=st;exact⟨o,e,fun v z=>by rw[d] at z;cases z⟩
 keep:=fun i h h' st k=>st.at fun o e=>k it (by simp) o e
 item:=by
  intro X hP hw hK hc i pins s σ H E I hf st hg;subst hP hw hK;obtain⟨xs,x,hq,hx⟩:=hg;obtain⟨its,rv,p,hz⟩:=I.tuple hq;obtain⟨u,hu,ru⟩:=rv.get hx;obtain⟨f0,f1,f2,f3,f4,f5⟩:=hf it (by simp);refine wpAny_pyNext_tuple_item st (show s.heap.IsTuple a its.toArray from p) (x:=u) (by simpa using hu) fun h' st' sb=>?_;have I1:Inv X pins σ H { s with heap:=h' }:=I.turned (t':=s.toks) (fun b o hb e=>(sb.2 b hb).trans e) f0 f1 f3 f4 f5
  obtain⟨o,e,c,d⟩:=id st';exact⟨u,rfl,f48 (s:={ s with heap:=h' }) e c d (by decide) ⟨x,H,I1,ru,⟨rfl,fun ys hy=>by rw[I.tuple_inj hy hq];exact hx⟩,st',fun b hb=>(hf b hb).1⟩⟩
 done:=by
  intro X hP hw hK hc i pins s σ H E I hf st hg;subst hP hw hK;obtain⟨xs,hq,hx⟩:=hg;obtain⟨its,rv,p,hz⟩:=I.tuple hq;obtain⟨f0,f1,f2,f3,f4,f5⟩:=hf it (by simp);have hl:=rv.length;exact wpAny_pyNext_tuple_end (I.ok.hd hc) st (show s.heap.IsTuple a its.toArray from p) (by simp;lia) fun h' eb=>⟨rfl,I.turned (t':=s.toks) (fun b o hb e=>eb b o hb e) f0 f1 f3 f4 f5⟩
 self:=fun _ _ _ _ _ st h=>wpAny_pyIter_tupleiter st h
theorem e73 {P:Pm}{w:World}{K:WFr}{tg:Expr}(it:Addr) (lo:Int) (n:Nat):Turn P w K tg (Itr lo n) [it] it (fun i h=>IsRangeIter h it (lo+(i:Nat) * 1) ((n:Int)-(i:Nat)) 1) where
 mem:=by simp
 obj:=fun i h st b hb=>by
  have e:b=it:=by simpa using hb
  subst e;exact⟨_,st,fun v z=>by
   have z':Data.fields _=Data.cell v:=z;cases z'⟩
 keep:=fun i h h' st k=>k it (by simp) _ st
 item:=by
  intro X hP hw hK hc i pins s σ H E I hf st hg;subst hP hw hK;obtain⟨f0,f1,f2,f3,f4,f5⟩:=hf it (by simp);have W:=Walks.range (prog:=X.prog) (w:=X.w) (I.ok.hd hc) it lo 1 n;refine W.item i s _ _ hg st fun v h' tk hv st' kk=>?_;obtain⟨t,rfl⟩:=hv;have I1:Inv X pins σ H { s with heap:=h',toks:=tk }:=I.turned (fun b o hb e=>kk b o (by simpa using hb) e) f0 f1 f3 f4 f5
  refine⟨_,rfl,f48 (s:={ s with heap:=h',toks:=tk }) (n := "range_iterator") st' rfl rfl (by decide) ⟨.int (lo+i),H,I1,⟨t,?_⟩,⟨rfl,rfl⟩,st',fun b hb=>(hf b hb).1⟩⟩
  rw[Int.mul_one]
 done:=by
  intro X hP hw hK hc i pins s σ H E I hf st hg;subst hP hw hK;obtain⟨f0,f1,f2,f3,f4,f5⟩:=hf it (by simp);exact wpAny_pyNext_range_end (I.ok.hd hc) st (by have:n<=i:=hg;lia) fun h' eb=>⟨rfl,I.turned (t':=s.toks) (fun b o hb e=>eb b o hb e) f0 f1 f3 f4 f5⟩
 self:=fun _ _ _ _ _ st h=>wpAny_pyIter_rangeiter st h
end L2
namespace L2
open PySem PySem.Spec PyProof.Rows
section
variable {X:Cx}{tg:Expr}
def iList (K:WFr)(tl:TE):TI:=fun σ H R=>tl σ H fun x H1=>∃ a,x=.ref a/\(∃ xs,SqL K H1 a xs)/\R (Itl K a) H1
def iTup (K:WFr)(tl:TE):TI:=fun σ H R=>tl σ H fun x H1=>∃ a,x=.ref a/\(∃ xs,SqT K H1 a xs)/\R (Itt K a) H1
theorem b15 {l:Expr}{tl:TE}(hl:PE X l tl):PI X tg l (iList X.K tl):=by
 try constructor
 intro pins s σ H R I h;refine thn (hl pins s σ H _ I h) fun v s1 ⟨x,H1,I1,r1,q1⟩=>?_;obtain⟨a,e,⟨xs,hq⟩,q⟩:=q1;subst e;cases r1;obtain⟨its,rv,p,hz⟩:=I1.list hq;refine wpAny_pyIter_list p.isList ?_;refine⟨s1.heap.objs.size,[s1.heap.objs.size],_,_,H1,rfl,I1.kept (t':=s1.toks) fun b o e=>Aq _ e,g15 a _,⟨_,Dx _ rfl,rfl,rfl⟩,fun b hb=>?_,q⟩;have e:b=s1.heap.objs.size:=by simpa using hb
 subst e;exact I1.fpOk (AZ _) (I1.hok.fresh (AZ _))
theorem f54 {l:Expr}{tl:TE}(hl:PE X l tl):PI X tg l (iTup X.K tl):=by
 try constructor
 intro pins s σ H R I h;refine thn (hl pins s σ H _ I h) fun v s1 ⟨x,H1,I1,r1,q1⟩=>?_;obtain⟨a,e,⟨xs,hq⟩,q⟩:=q1;subst e;cases r1;obtain⟨its,rv,p,hz⟩:=I1.tuple hq;refine wpAny_pyIter_tuple (show s1.heap.IsTuple a its.toArray from p) ?_;refine⟨s1.heap.objs.size,[s1.heap.objs.size],_,_,H1,rfl,I1.kept (t':=s1.toks) fun b o e=>Aq _ e,e77 a _,⟨_,Dx _ rfl,rfl,rfl⟩,fun b hb=>?_,q⟩;have e:b=s1.heap.objs.size:=by simpa using hb
 subst e;exact I1.fpOk (AZ _) (I1.hok.fresh (AZ _))
theorem range_it {pins:LAO}{σ:St}{H:Hp}{s:Sd}{R:It->Hp->Prop}{E:VSP}{lo hi:Int}{t u v:Tok}{tk:Nat}(I:Inv X pins σ H s)(h1:-(2 ^ 62)<=lo)(h2:lo < 2 ^ 62)(h3:-(2 ^ 62)<=hi)(h4:hi < 2 ^ 62)
 (q:R (Itr lo (hi-lo).toNat) H):wpAny (model X.prog X.w) X.A (pyIter (.ref s.heap.objs.size)) (PIE X pins σ tg R) E { s with heap:=s.heap.push { cls:=.type "range", data:=.fields #[.int lo t,.int hi u,.int 1 v] },toks:=tk }:=by
 refine wpAny_pyIter_range (IsRange.new ..) (small_one h1 h2 h3 h4) ?_;have I1:Inv X pins σ H { s with heap:=s.heap.push { cls:=.type "range", data:=.fields #[.int lo t,.int hi u,.int 1 v] },toks:=tk }:=I.kept fun b o e=>Aq _ e
 refine⟨(s.heap.push { cls:=.type "range", data:=.fields #[.int lo t,.int hi u,.int 1 v] }).objs.size,[(s.heap.push { cls:=.type "range", data:=.fields #[.int lo t,.int hi u,.int 1 v] }).objs.size],_,_,H,rfl,
  I1.kept (t':=tk) fun b o e=>Aq _ e,e73 _ lo (hi-lo).toNat,?_,fun b hb=>?_,q⟩
 ·have e1:lo+((0:Nat):Int) * 1=lo:=by simp
  have e2:(((hi-lo).toNat:Nat):Int)-((0:Nat):Int)=Builtin.Range.rangeSize lo hi 1:=by rw[rangeSize_one];split <;> lia
  show IsRangeIter _ _ (lo+((0:Nat):Int) * 1) ((((hi-lo).toNat:Nat):Int)-((0:Nat):Int)) 1;rw[e1,e2];exact Dx _ rfl
 ·have e:b=(s.heap.push { cls:=.type "range", data:=.fields #[.int lo t,.int hi u,.int 1 v] }).objs.size:=by simpa using hb
  subst e;exact I1.fpOk (AZ _) (I1.hok.fresh (AZ _))
def iRng1 (ta:TA):TI:=fun σ H R=>ta σ H fun vs H1=>∃ j:Int,vs=[.int j]/\-(2 ^ 62)<=j/\j < 2 ^ 62/\R (Itr 0 j.toNat) H1
theorem b05 {a:Expr}{ta:TA}{p pos:Pos}(hg:Gl X "range")(hm:X.mg "range" = none)(ha:PA X [a] ta)(hs:starEach [a] X.env=[(false,eval a X.env)]:=by rfl):PI X tg (.Call (.Name "range" p) [a] [] pos) (iRng1 ta):=by
 try constructor
 intro pins s σ H R I h;refine Call_ (c17 I hg hm boot_range (PyProof.Rows.callWith_type1 (thn (ha pos pins s σ H _ I h) fun us s1 ⟨vs,H1,I1,r1,q1⟩=>?_) hs rfl));obtain⟨j,e,q1,q2,q⟩:=q1;subst e;cases r1 with
 | cons r rr =>
  cases rr;obtain⟨t,rfl⟩:=r;exact call_range_1 (range_it I1 (by lia) (by lia) q1 q2 (by simpa using q))
def tFor (wi:TI)(g:TG)(tb:TS):TS:=fun D σ H=>wi σ H fun J H1=>∃ W:Nat->Nat->St->Hp->Prop,(∃ m,W 0 m σ H1)/\∀ i m σ H,W i m σ H ->
 (J.stop i H/\D.nx σ H)∨(J.go i H/\∃ N:St->Hp->Prop,(∀ σ' H',N σ' H'->∃ m',m' < m/\W (i+1) m' σ' H')/\∀ x H',J.yld i H x H'->g x σ H' fun σ2 H2=>tb { D with nx:=N,ct:=N,bk:=D.nx } σ2 H2)
def e42 (fp:List Addr)(h:Heap):LAO:=fp.filterMap fun b=>(h.get? b).map fun o=>(b,o)
theorem a68 {fp:List Addr}{h:Heap}{b:Addr}{o:Obj}(hb:b∈fp)(e:h.get? b=some o):(b,o)∈e42 fp h:=List.mem_filterMap.mpr ⟨b,hb,by rw[e];rfl⟩
theorem f60 {fp:List Addr}{h:Heap}{p:Addr×Obj}(hp:p∈e42 fp h):p.1∈fp/\h.get? p.1=some p.2:=by
 obtain⟨b,hb,e⟩:=List.mem_filterMap.mp hp;cases q:h.get? b with
 | none=>rw[q] at e;cases e
 | some o =>
  rw[q] at e;have e':(b,o)=p:=Ez e;subst e';exact⟨hb,q⟩
theorem Inv.pinned {pins:LAO}{σ:St}{H:Hp}{s:Sd}{fp:List Addr}(I:Inv X pins σ H s)(hf:∀ b∈fp,f72 X pins H b)(ho:∀ b∈fp,∃ o,s.heap.get? b=some o/\∀ v,o.data≠.cell v):Inv X (pins++e42 fp s.heap) σ H s :=
 I.pins_of fun p hp=>(Bq.mp hp).elim (fun z=>I.pin p (lR _ z)) fun z=>by
  obtain⟨hb,e⟩:=f60 z;obtain⟨f0,f1,f2,_⟩:=hf p.1 hb;obtain⟨o,e',d⟩:=ho p.1 hb;rw[e] at e';cases e';exact⟨e,f0,f1,f2,d⟩
theorem Inv.unpinned {pins pl:LAO}{σ:St}{H:Hp}{s:Sd}(I:Inv X (pins++pl) σ H s):Inv X pins σ H s:=I.pins_of fun p hp=>I.pin p (lR _ (List.mem_append_left _ hp))
theorem b82 {iter:Expr}{body:List Stmt}{wi:TI}{g:TG}{tb:TS}{pos:Pos}(hp:PassesOwn (model X.prog X.w) X.A X.env X.xe)(hc:X.calm=true)(hi:PI X tg iter wi)(hg:PG X tg g)(hb:PSs X body tb)
 (hs:∀ x,foldedSetIterable iter X.env x=pure x:=by intro _;rfl):PS X (.For tg iter body [] pos) (tFor wi g tb):=by
 try constructor
 intro pins s σ H D I h;refine wpAny_For (thn (hi pins s σ H _ I h) fun v s1 h1=>thn h1 fun itv s2 h2=>?_) hs;obtain⟨it,fp,tn,J,H2,e,I2,T,st2,f2,W,⟨m0,w0⟩,turn⟩:=h2;subst e;have stat:∀ {H':Hp},(∀ b∈fp,H' b=none)->∀ b∈fp,f72 X pins H' b:=fun hn b hb=>⟨hn b hb,(f2 b hb).2⟩;refine codeAny_forLoop_any (fun n s'=>∃ i σ' H',Inv X pins σ' H' s'/\tn i s'.heap/\(∀ b∈fp,H' b=none)/\W i n σ' H') ?_ m0 ⟨0,σ,H2,I2,st2,fun b hb=>(f2 b hb).1,w0⟩;rintro n s3 ⟨i,σ3,H3,I3,st3,fr3,w3⟩;rcases turn i n σ3 H3 w3 with⟨stop,qn⟩ | ⟨go,N,hN,step⟩
 ·refine wpAny_passesOwn hp (thn (T.done X rfl rfl rfl hc i pins s3 σ3 H3 X.xe I3 (stat fr3) st3 stop) fun r s4 ⟨hr,I4⟩=>?_);subst hr;exact wpAny_execs_nil ⟨σ3,H3,I4,qn⟩
 ·refine wpAny_passesOwn hp (thn (T.item X rfl rfl rfl hc i pins s3 σ3 H3 X.xe I3 (stat fr3) st3 go) fun r s4 ⟨u,hr,h4⟩=>?_);subst hr;refine wpAny_passesOwn hp (thn h4 fun _ s5 ⟨x,H5,I5,r5,y5,st5,fr5⟩=>?_);have I5':=I5.pinned (stat fr5) (T.obj _ _ st5);refine wpAny_passesOwn hp (thn (hg _ s5 σ3 H5 x u _ I5' r5 (step x H5 y5)) fun _ s6 ⟨σ6,H6,I6,q6⟩=>?_);refine wpAny_passesOwn hp (thn (hb _ s6 σ6 H6 _ I6 q6) fun f s7 q7=>?_);have again:∀ {σ7:St}{H7:Hp},Inv X (pins++e42 fp s5.heap) σ7 H7 s7->N σ7 H7->∃ m,m < n/\∃ i σ' H',Inv X pins σ' H' s7/\tn i s7.heap/\(∀ b∈fp,H' b=none)/\W i m σ' H':=fun {σ7 H7} I7 n7=>by
   obtain⟨m',hm,w7⟩:=hN σ7 H7 n7;refine⟨m',hm,i+1,σ7,H7,I7.unpinned,T.keep _ _ _ st5 fun b hb o e=>(I7.pin (b,o) (lR _ (lR _ (a68 hb e)))).1,fun b hb=>?_,w7⟩;obtain⟨o,e,d⟩:=T.obj _ _ st5 b hb;exact(I7.pin (b,o) (lR _ (lR _ (a68 hb e)))).2.1
  cases f with
  | next=>obtain⟨σ7,H7,I7,n7⟩:=q7;exact again I7 n7
  | cont=>obtain⟨σ7,H7,I7,n7⟩:=q7;exact again I7 n7
  | brk=>obtain⟨σ7,H7,I7,q7⟩:=q7;exact⟨σ7,H7,I7.unpinned,q7⟩
  | ret v=>obtain⟨x7,σ7,H7,I7,r7,q7⟩:=q7;exact⟨x7,σ7,H7,I7.unpinned,r7,q7⟩
end
theorem e51 {K:WFr}{a:Addr}{xs:List V}{g:TG}{tb:TS}{D:Ends}{σ:St}{H:Hp} (Pv:Nat->St->Hp->Prop)(h0:Pv 0 σ H)(hl:∀ i σ H,i<=xs.length->Pv i σ H->SqL K H a xs)
 (hs:∀ i x σ H,xs[i]?=some x->Pv i σ H->g x σ H fun σ2 H2=>tb { D with nx:=Pv (i+1),ct:=Pv (i+1),bk:=D.nx } σ2 H2)(hd:∀ σ H,Pv xs.length σ H->D.nx σ H) :
 ∃ W:Nat->Nat->St->Hp->Prop,(∃ m,W 0 m σ H)/\∀ i m σ H,W i m σ H ->
  ((Itl K a).stop i H/\D.nx σ H)∨((Itl K a).go i H/\∃ N:St->Hp->Prop,(∀ σ' H',N σ' H'->∃ m',m' < m/\W (i+1) m' σ' H')/\∀ x H',(Itl K a).yld i H x H'->g x σ H' fun σ2 H2=>tb { D with nx:=N,ct:=N,bk:=D.nx } σ2 H2):=by
 refine⟨fun i m σ H=>m=xs.length-i/\i<=xs.length/\Pv i σ H,⟨xs.length,by simp,Fx _,h0⟩,?_⟩;rintro i m σ H ⟨rfl,hi,p⟩;have q:=hl i σ H hi p;by_cases hlt:i < xs.length
 ·refine .inr ⟨⟨xs,xs[i],q,by simp[hlt]⟩,Pv (i+1),fun σ' H' p'=>⟨xs.length-(i+1),by lia,rfl,hlt,p'⟩,fun x H' y=>?_⟩;obtain⟨e,y⟩:=y;subst e;exact hs i x σ _ (y xs q) p
 ·have e:i=xs.length:=by lia
  subst e;exact .inl ⟨⟨xs,q,AZ _⟩,hd σ H p⟩
theorem b41 {lo:Int}{n:Nat}{g:TG}{tb:TS}{D:Ends}{σ:St}{H:Hp} (Pv:Nat->St->Hp->Prop)(h0:Pv 0 σ H)
 (hs:∀ i σ H,i < n->Pv i σ H->g (.int (lo+i)) σ H fun σ2 H2=>tb { D with nx:=Pv (i+1),ct:=Pv (i+1),bk:=D.nx } σ2 H2)(hd:∀ σ H,Pv n σ H->D.nx σ H) :
 ∃ W:Nat->Nat->St->Hp->Prop,(∃ m,W 0 m σ H)/\∀ i m σ H,W i m σ H ->
  ((Itr lo n).stop i H/\D.nx σ H)∨((Itr lo n).go i H/\∃ N:St->Hp->Prop,(∀ σ' H',N σ' H'->∃ m',m' < m/\W (i+1) m' σ' H')/\∀ x H',(Itr lo n).yld i H x H'->g x σ H' fun σ2 H2=>tb { D with nx:=N,ct:=N,bk:=D.nx } σ2 H2):=by
 refine⟨fun i m σ H=>m=n-i/\i<=n/\Pv i σ H,⟨n,by simp,Fx _,h0⟩,?_⟩;rintro i m σ H ⟨rfl,hi,p⟩;by_cases hlt:i < n
 ·refine .inr ⟨hlt,Pv (i+1),fun σ' H' p'=>⟨n-(i+1),by lia,rfl,hlt,p'⟩,fun x H' y=>?_⟩;obtain⟨e,y⟩:=y;subst e y;exact hs i σ _ hlt p
 ·have e:i=n:=by lia
  subst e;exact .inl ⟨AZ _,hd σ H p⟩
end L2
namespace L2
open PySem PySem.Spec PyProof.Rows
abbrev R2:=V->V->Hp->VK->Prop
def OpR (X:Cx) (f:Value->Value->Sem Value)(r:R2):Prop :=
 ∀(pins:LAO)(s:Sd)(σ:St)(H:Hp) (x y:V) (v u:Value)(Q:VK),Inv X pins σ H s->RelV x v->RelV y u->r x y H Q ->
  wpAny (model X.prog X.w) X.A (f v u) (EP X pins σ Q) X.xe s
def UnR (X:Cx) (f:Value->Sem Value) (r:V->Hp->VK->Prop):Prop :=
 ∀(pins:LAO)(s:Sd)(σ:St)(H:Hp) (x:V) (v:Value)(Q:VK),Inv X pins σ H s->RelV x v->r x H Q ->
  wpAny (model X.prog X.w) X.A (f v) (EP X pins σ Q) X.xe s
def b25 (X:Cx) (f:Value) (r:List V->Hp->VK->Prop):Prop :=
 ∀(pins:LAO)(s:Sd)(σ:St)(H:Hp) (xs:List V) (us:List Value)(Q:VK),Inv X pins σ H s->Vals xs us->r xs H Q ->
  wpAny (model X.prog X.w) X.A (call f us) (EP X pins σ Q) X.xe s
def tOp (r:R2)(ta tb:TE):TE:=fun σ H Q=>ta σ H fun x H1=>tb σ H1 fun y H2=>r x y H2 Q
def tUn (r:V->Hp->VK->Prop)(ta:TE):TE:=fun σ H Q=>ta σ H fun x H1=>r x H1 Q
def rI (C:Int->Int->Prop) (g:Int->Int->V):R2:=fun x y H Q=>∃ i j,x=.int i/\y=.int j/\C i j/\Q (g i j) H
def rI0 (g:Int->Int->V):R2:=fun x y H Q=>∃ i j,x=.int i/\y=.int j/\Q (g i j) H
def rU (g:Int->V):V->Hp->VK->Prop:=fun x H Q=>∃ i,x=.int i/\Q (g i) H
section
variable {X:Cx}{a b c:Expr}{ta tb tc:TE}{pos:Pos}
theorem binT (ha:PE X a ta)(hb:PE X b tb){pins:LAO}{s:Sd}{σ:St}{H:Hp}{R:V->V->Hp->Prop}(I:Inv X pins σ H s)
 (h:ta σ H fun x H1=>tb σ H1 fun y H2=>R x y H2){Q:VSP}{f:Value->Value->Sem Value}
 (hf:∀ v u s2 x y H2,Inv X pins σ H2 s2->RelV x v->RelV y u->R x y H2->wpAny (model X.prog X.w) X.A (f v u) Q X.xe s2) :
 wpAny (model X.prog X.w) X.A (eval a X.env) (fun v s₁=>wpAny (model X.prog X.w) X.A (eval b X.env) (fun u s₂=>wpAny (model X.prog X.w) X.A (f v u) Q X.xe s₂) X.xe s₁) X.xe s:=by
 refine thn (ha pins s σ H _ I h) fun v s1 ⟨x,H1,I1,r1,q1⟩=>?_;refine thn (hb pins s1 σ H1 _ I1 q1) fun u s2 ⟨y,H2,I2,r2,q2⟩=>?_;exact hf v u s2 x y H2 I2 r1 r2 q2
theorem a47 {op:Operator}{r:R2}(ho:OpR X (binaryOp op) r)(ha:PE X a ta)(hb:PE X b tb):PE X (.BinOp a op b pos) (tOp r ta tb):=by
 try constructor
 intro pins s σ H Q I h;exact wpAny_BinOp (binT ha hb I h fun v u s2 x y H2 I2 rx ry q=>ho pins s2 σ H2 x y v u Q I2 rx ry q)
theorem d48 {op:UnaryOp}{r:V->Hp->VK->Prop}(ho:UnR X (unaryOp op) r)(ha:PE X a ta):PE X (.UnaryOp op a pos) (tUn r ta):=by
 try constructor
 intro pins s σ H Q I h;exact UnaryOp_ (thn (ha pins s σ H _ I h) fun v s1 ⟨x,H1,I1,r1,q1⟩=>ho pins s1 σ H1 x v Q I1 r1 q1)
theorem opI {f:Value->Value->Sem Value}{C:Int->Int->Prop}{g:Int->Int->Int}
 (rule:∀(i j:Int)(t u:Tok)(s:Sd)(Q:VSP)(E:VSP),C i j->Q (.int (g i j) s.toks) { s with toks:=s.toks+1 }->wpAny (model X.prog X.w) X.A (f (.int i t) (.int j u)) Q E s) :
 OpR X f (rI C fun i j=>.int (g i j)):=by
 try constructor
 intro pins s σ H x y v u Q I rx ry h;obtain⟨i,j,rfl,rfl,hc,q⟩:=h;obtain⟨t,rfl⟩:=rx;obtain⟨t',rfl⟩:=ry;exact rule i j t t' s _ _ hc ⟨.int (g i j),H,I.tok _,⟨_,rfl⟩,q⟩
theorem opI0 {f:Value->Value->Sem Value}{g:Int->Int->Int}
 (rule:∀(i j:Int)(t u:Tok)(s:Sd)(Q:VSP)(E:VSP),Q (.int (g i j) s.toks) { s with toks:=s.toks+1 }->wpAny (model X.prog X.w) X.A (f (.int i t) (.int j u)) Q E s) :
 OpR X f (rI0 fun i j=>.int (g i j)):=by
 try constructor
 intro pins s σ H x y v u Q I rx ry h;obtain⟨i,j,rfl,rfl,q⟩:=h;obtain⟨t,rfl⟩:=rx;obtain⟨t',rfl⟩:=ry;exact rule i j t t' s _ _ ⟨.int (g i j),H,I.tok _,⟨_,rfl⟩,q⟩
theorem opB0 {f:Value->Value->Sem Value}{g:Int->Int->Bool}
 (rule:∀(i j:Int)(t u:Tok)(s:Sd)(Q:VSP)(E:VSP),Q (.bool (g i j)) s->wpAny (model X.prog X.w) X.A (f (.int i t) (.int j u)) Q E s) :
 OpR X f (rI0 fun i j=>.bl (g i j)):=by
 try constructor
 intro pins s σ H x y v u Q I rx ry h;obtain⟨i,j,rfl,rfl,q⟩:=h;obtain⟨t,rfl⟩:=rx;obtain⟨t',rfl⟩:=ry;exact rule i j t t' s _ _ ⟨.bl (g i j),H,I,rfl,q⟩
def CDiv (i j:Int):Prop:=0 < j/\j < 1073741824
def CPow (i j:Int):Prop:=0<=j/\j<=1000000/\i.natAbs < 2 ^ 64
def CMul (i j:Int):Prop:=(-(2 ^ 64) < i/\i < 2 ^ 64)∨(-(2 ^ 64) < j/\j < 2 ^ 64)
theorem CMul.ok {i j:Int}(h:CMul i j):IntMulOk i j:=by
 rcases h with⟨h1,h2⟩ | ⟨h1,h2⟩
 ·exact .of_left (intBits_le_64 h1 h2)
 ·exact .of_right (intBits_le_64 h1 h2)
theorem a80:OpR X (binaryOp .Add) (rI0 fun i j=>.int (i+j)):=opI0 fun _ _ _ _ _ _ _ q=>add_int q
theorem e48:OpR X (binaryOp .Sub) (rI0 fun i j=>.int (i-j)):=opI0 fun _ _ _ _ _ _ _ q=>sub_int q
theorem c15:OpR X (binaryOp .Mult) (rI CMul fun i j=>.int (i * j)):=opI fun _ _ _ _ _ _ _ hc q=>mul_int q hc.ok
theorem d85:OpR X (binaryOp .FloorDiv) (rI CDiv fun i j=>.int (i / j)):=opI fun i j _ _ _ _ _ hc q=>by
 have h1:(0:Int) < j:=hc.1;have h2:j < 1073741824:=hc.2;exact floordiv_int (by omega) (by rw[Int.fdiv_eq_ediv_of_nonneg i (by omega)];exact q) (.inl (PyProof.noPylong_small (by omega)))
theorem b31:OpR X (binaryOp .Mod) (rI (fun _ j=>0 < j) fun i j=>.int (i % j)):=opI fun i j _ _ _ _ _ hc q=>by
 have h1:(0:Int) < j:=hc;exact mod_int' (by lia) (by rw[Int.fmod_eq_emod_of_nonneg i (by lia)];exact q)
theorem i75:OpR X (binaryOp .Pow) (rI CPow fun i j=>.int (i ^ j.toNat)):=opI fun _ _ _ _ _ _ _ hc q=>pow_int_small hc.1 hc.2.1 hc.2.2 q
theorem unI {f:Value->Sem Value}{g:Int->Int}
 (rule:∀(i:Int)(t:Tok)(s:Sd)(Q:VSP)(E:VSP),Q (.int (g i) s.toks) { s with toks:=s.toks+1 }->wpAny (model X.prog X.w) X.A (f (.int i t)) Q E s) :
 UnR X f (rU fun i=>.int (g i)):=by
 try constructor
 intro pins s σ H x v Q I rx h;obtain⟨i,rfl,q⟩:=h;obtain⟨t,rfl⟩:=rx;exact rule i t s _ _ ⟨.int (g i),H,I.tok _,⟨_,rfl⟩,q⟩
theorem c19:UnR X (unaryOp .USub) (rU fun i=>.int (-i)):=unI fun _ _ _ _ _ q=>neg_int q
end
def scal:V->V->Bool
 | .non,.non=>true | .non,.int _=>true | .int _,.non=>true | .non,.bl _=>true | .bl _,.non=>true | .non,.str _=>true | .str _,.non=>true
 | .int _,.int _=>true | .bl _,.bl _=>true | .str _,.str _=>true | .byt _,.byt _=>true
 | .int _,.str _=>true | .str _,.int _=>true | .bl _,.str _=>true | .str _,.bl _=>true
 | _,_=>false
def rEq:R2:=fun x y H Q=>scal x y=true/\Q (.bl (decide (x=y))) H
def rNe:R2:=fun x y H Q=>scal x y=true/\Q (.bl (!decide (x=y))) H
theorem e91 {i j:Int}:decide (V.int i=V.int j)=(i == j):=by
 rw[Bool.eq_iff_iff];simp
theorem h34 {i j:Bool}:decide (V.bl i=V.bl j)=(i == j):=by
 rw[Bool.eq_iff_iff];simp
theorem g10 {i j:Str}:decide (V.str i=V.str j)=(i == j):=by
 rw[Bool.eq_iff_iff];simp
theorem g27 {i j:Array UInt8}:decide (V.byt i=V.byt j)=(i.toList == j.toList):=by
 rw[Bool.eq_iff_iff];cases i;cases j;simp
section
variable {X:Cx}{a b c:Expr}{ta tb tc:TE}{pos:Pos}
theorem a62 {pins:LAO}{σ:St}{H:Hp}{s:Sd}{Q:VK}{k k':Bool}(I:Inv X pins σ H s)(q:Q (.bl k) H)(e:k=k'):EP X pins σ Q (.bool k') s:=by
 subst e;exact⟨.bl k,H,I,rfl,q⟩
theorem a58:OpR X (compareOp .Eq) rEq:=by
 try constructor
 intro pins s σ H x y v u Q I rx ry h;obtain⟨hs,q⟩:=h;cases x with
 | non =>
  cases rx;cases y with
  | non=>cases ry;exact PySem.EqNone.eq_none_none (a62 I q (by simp))
  | bl j=>cases ry;exact PySem.EqNone.eq_none_bool (a62 I q (by simp))
  | int j=>obtain⟨t',rfl⟩:=ry;exact PySem.EqNone.eq_none_int (a62 I q (by simp))
  | str j=>obtain⟨t',rfl⟩:=ry;exact PySem.EqNone.eq_none_str (a62 I q (by simp))
  | _=>exact absurd (show false=true from hs) Fj
 | bl i =>
  cases rx;cases y with
  | non=>cases ry;exact PySem.EqNone.eq_bool_none (a62 I q (by simp))
  | bl j=>cases ry;exact eq_bool (a62 I q h34)
  | str j=>obtain⟨t',rfl⟩:=ry;exact PySem.EqMixed.eq_bool_str (a62 I q (by simp))
  | _=>exact absurd (show false=true from hs) Fj
 | int i =>
  obtain⟨t,rfl⟩:=rx;cases y with
  | non=>cases ry;exact PySem.EqNone.eq_int_none (a62 I q (by simp))
  | int j=>obtain⟨t',rfl⟩:=ry;exact eq_int (a62 I q e91)
  | str j=>obtain⟨t',rfl⟩:=ry;exact PySem.EqMixed.eq_int_str (a62 I q (by simp))
  | _=>exact absurd (show false=true from hs) Fj
 | str i =>
  obtain⟨t,rfl⟩:=rx;cases y with
  | non=>cases ry;exact PySem.EqNone.eq_str_none (a62 I q (by simp))
  | bl j=>cases ry;exact PySem.EqMixed.eq_str_bool (a62 I q (by simp))
  | int j=>obtain⟨t',rfl⟩:=ry;exact PySem.EqMixed.eq_str_int (a62 I q (by simp))
  | str j=>obtain⟨t',rfl⟩:=ry;exact eq_str (a62 I q g10)
  | _=>exact absurd (show false=true from hs) Fj
 | byt i =>
  obtain⟨t,rfl⟩:=rx;cases y with
  | byt j=>obtain⟨t',rfl⟩:=ry;exact PySem.W.eq_bytes (a62 I q g27)
  | _=>exact absurd (show false=true from hs) Fj
 | _=>cases y <;> exact absurd (show false=true from hs) Fj
theorem b98:OpR X (compareOp .NotEq) rNe:=by
 try constructor
 intro pins s σ H x y v u Q I rx ry h;obtain⟨hs,q⟩:=h;cases x with
 | non =>
  cases rx;cases y with
  | non=>cases ry;exact PySem.EqNone.ne_none_none (a62 I q (by simp))
  | bl j=>cases ry;exact PySem.EqNone.ne_none_bool (a62 I q (by simp))
  | int j=>obtain⟨t',rfl⟩:=ry;exact PySem.EqNone.ne_none_int (a62 I q (by simp))
  | str j=>obtain⟨t',rfl⟩:=ry;exact PySem.EqNone.ne_none_str (a62 I q (by simp))
  | _=>exact absurd (show false=true from hs) Fj
 | bl i =>
  cases rx;cases y with
  | non=>cases ry;exact PySem.EqNone.ne_bool_none (a62 I q (by simp))
  | bl j=>cases ry;exact ne_bool (a62 I q (congrArg not h34))
  | str j=>obtain⟨t',rfl⟩:=ry;exact PySem.EqMixed.ne_bool_str (a62 I q (by simp))
  | _=>exact absurd (show false=true from hs) Fj
 | int i =>
  obtain⟨t,rfl⟩:=rx;cases y with
  | non=>cases ry;exact PySem.EqNone.ne_int_none (a62 I q (by simp))
  | int j=>obtain⟨t',rfl⟩:=ry;exact ne_int (a62 I q (congrArg not e91))
  | str j=>obtain⟨t',rfl⟩:=ry;exact PySem.EqMixed.ne_int_str (a62 I q (by simp))
  | _=>exact absurd (show false=true from hs) Fj
 | str i =>
  obtain⟨t,rfl⟩:=rx;cases y with
  | non=>cases ry;exact PySem.EqNone.ne_str_none (a62 I q (by simp))
  | bl j=>cases ry;exact PySem.EqMixed.ne_str_bool (a62 I q (by simp))
  | int j=>obtain⟨t',rfl⟩:=ry;exact PySem.EqMixed.ne_str_int (a62 I q (by simp))
  | str j=>obtain⟨t',rfl⟩:=ry;exact ne_str (a62 I q (congrArg not g10))
  | _=>exact absurd (show false=true from hs) Fj
 | byt i =>
  obtain⟨t,rfl⟩:=rx;cases y with
  | byt j=>obtain⟨t',rfl⟩:=ry;exact PySem.W.ne_bytes (a62 I q (congrArg not g27))
  | _=>exact absurd (show false=true from hs) Fj
 | _=>cases y <;> exact absurd (show false=true from hs) Fj
theorem c58:OpR X (compareOp .Lt) (rI0 fun i j=>.bl (decide (i < j))):=opB0 fun _ _ _ _ _ _ _ q=>lt_int q
theorem h99:OpR X (compareOp .LtE) (rI0 fun i j=>.bl (decide (i<=j))):=opB0 fun _ _ _ _ _ _ _ q=>le_int q
theorem b92:OpR X (compareOp .Gt) (rI0 fun i j=>.bl (decide (j < i))):=opB0 fun _ _ _ _ _ _ _ q=>gt_int q
theorem g71:OpR X (compareOp .GtE) (rI0 fun i j=>.bl (decide (j<=i))):=opB0 fun _ _ _ _ _ _ _ q=>ge_int q
theorem c39:OpR X (compareOp .In) (fun x y H Q=>∃ i j,x=.str i/\y=.str j/\Q (.bl (!(Builtin.Str.occurrences j i 0 j.length 1).isEmpty)) H):=by
 try constructor
 intro pins s σ H x y v u Q I rx ry h;obtain⟨i,j,rfl,rfl,q⟩:=h;obtain⟨t,rfl⟩:=rx;obtain⟨t',rfl⟩:=ry;exact in_str (a62 I q rfl)
theorem i49:OpR X (compareOp .Is) (fun x y H Q=>y=.non/\Q (.bl (decide (x=.non))) H):=by
 try constructor
 intro pins s σ H x y v u Q I rx ry h;obtain⟨rfl,q⟩:=h;cases ry;refine is_none_gen (a62 I q ?_);cases x <;> first
  | (cases rx;rfl)
  | (obtain⟨t,rfl⟩:=rx;rfl)
theorem c79:OpR X (compareOp .IsNot) (fun x y H Q=>y=.non/\Q (.bl (!decide (x=.non))) H):=by
 try constructor
 intro pins s σ H x y v u Q I rx ry h;obtain⟨rfl,q⟩:=h;cases ry;refine isnot_none_gen (a62 I q ?_);cases x <;> first
  | (cases rx;rfl)
  | (obtain⟨t,rfl⟩:=rx;rfl)
theorem c10:OpR X (compareOp .NotIn) (fun x y H Q=>∃ i j,x=.str i/\y=.str j/\Q (.bl (!(!(Builtin.Str.occurrences j i 0 j.length 1).isEmpty))) H):=by
 try constructor
 intro pins s σ H x y v u Q I rx ry h;obtain⟨i,j,rfl,rfl,q⟩:=h;obtain⟨t,rfl⟩:=rx;obtain⟨t',rfl⟩:=ry;exact notIn_str (a62 I q rfl)
theorem OpR.or {f:Value->Value->Sem Value}{r r':R2}(h:OpR X f r)(h':OpR X f r'):OpR X f (fun x y H Q=>r x y H Q∨r' x y H Q):=by
 try constructor
 intro pins s σ H x y v u Q I rx ry q;rcases q with q | q
 ·exact h pins s σ H x y v u Q I rx ry q
 ·exact h' pins s σ H x y v u Q I rx ry q
theorem a38 (b:Expr){op:CmpOp}(h:op≠.In:=by decide)(h2:op≠.NotIn:=by decide):behindInMarks op b=false:=by
 have e1:(op == CmpOp.In)=false:=by cases op <;> first | rfl | exact absurd rfl h
 have e2:(op == CmpOp.NotIn)=false:=by cases op <;> first | rfl | exact absurd rfl h2
 cases b <;> simp[behindInMarks,e1,e2]
theorem a98 {op:CmpOp}{r:R2}(ho:OpR X (compareOp op) r)(ha:PE X a ta)(hb:PE X b tb)(hm:behindInMarks op b=false):PE X (.Compare a [op] [b] pos) (tOp r ta tb):=by
 try constructor
 intro pins s σ H Q I h;exact wpAny_Compare1 (binT ha hb I h fun v u s2 x y H2 I2 rx ry q=>ho pins s2 σ H2 x y v u Q I2 rx ry q) hm
def tTest (t:TE):TT:=fun σ H Q=>t σ H fun x H'=>∃ k,x=.bl k/\Q k H'
theorem a08 {op:CmpOp}{r:R2}(ho:OpR X (compareOp op) r)(ha:PE X a ta)(hb:PE X b tb)(hm:behindInMarks op b=false):PT X (.Compare a [op] [b] pos) (tTest (tOp r ta tb)):=by
 try constructor
 intro pins s σ H Q I h;refine wpAny_isTrue_Compare1 (thn (ha pins s σ H _ I h) fun v s1 ⟨x,H1,I1,r1,q1⟩=>thn (hb pins s1 σ H1 _ I1 q1) fun u s2 ⟨y,H2,I2,r2,q2⟩ =>
  thn (ho pins s2 σ H2 x y v u _ I2 r1 r2 q2) fun c s3 ⟨z,H3,I3,r3,k,e,q3⟩=>?_) hm
 subst e;cases r3;exact wpAny_truthy_bool ⟨H3,I3,q3⟩
def i24 (r r':R2)(ta tb tc:TE):TE:=fun σ H Q=>ta σ H fun x H1=>tb σ H1 fun y H2=>r x y H2 fun z H3=>∃ k,z=.bl k /\
 (if k=true then tc σ H3 fun w' H4=>r' y w' H4 Q else Q (.bl false) H3)
theorem c28 {op op':CmpOp}{r r':R2}(ho:OpR X (compareOp op) r)(ho':OpR X (compareOp op') r')(ha:PE X a ta)(hb:PE X b tb)(hc:PE X c tc)
 (hm:lastMarks [op,op'] [b,c]=false:=by with_unfolding_all rfl):PE X (.Compare a [op,op'] [b,c] pos) (i24 r r' ta tb tc):=by
 try constructor
 intro pins s σ H Q I h;refine Compare_chain (thn (ha pins s σ H _ I h) fun v s1 ⟨x,H1,I1,r1,q1⟩=>chain_link (thn (hb pins s1 σ H1 _ I1 q1) fun u s2 ⟨y,H2,I2,r2,q2⟩ =>
  thn (ho pins s2 σ H2 x y v u _ I2 r1 r2 q2) fun d s3 ⟨z,H3,I3,r3,k,e,q3⟩=>?_)) hm
 subst e;cases r3;refine wpAny_truthy_bool ?_;cases k with
 | false=>exact ite_ff ⟨.bl false,H3,I3,rfl,q3⟩
 | true=>exact ite_tt (chain_last (thn (hc pins s3 σ H3 _ I3 q3) fun w' s4 ⟨z',H4,I4,r4,q4⟩=>ho' pins s4 σ H4 y z' u w' Q I4 r2 r4 q4))
theorem c62:(zL:Nat) < 2 ^ 63:=by rw[sizeLine_eq];decide
theorem a67:OpR X (binaryOp .Add) (fun x y H Q=>∃ i j,x=.str i/\y=.str j/\i.length+j.length<=zL/\Q (.str (i++j)) H):=by
 try constructor
 intro pins s σ H x y v u Q I rx ry h;obtain⟨i,j,rfl,rfl,hz,q⟩:=h;obtain⟨t,rfl⟩:=rx;obtain⟨t',rfl⟩:=ry;exact add_str (fun t' tk=>⟨.str (i++j),H,I.tok _,⟨_,rfl⟩,q⟩) hz
theorem b86 {x:V}{us:List Value}(r:Vals [x] us):∃ u,us=[u]/\RelV x u:=by
 cases r with
 | cons r1 r2=>cases r2;exact⟨_,rfl,r1⟩
theorem g28 {x y:V}{us:List Value}(r:Vals [x,y] us):∃ u w',us=[u,w']/\RelV x u/\RelV y w':=by
 cases r with
 | cons r1 r2 =>
  cases r2 with
  | cons r3 r4=>cases r4;exact⟨_,_,rfl,r1,r3⟩
theorem e13:b25 X (.builtin "abs") (fun xs H Q=>∃ i,xs=[.int i]/\Q (.int (if i < 0 then -i else i)) H):=by
 try constructor
 intro pins s σ H xs us Q I r h;obtain⟨i,rfl,q⟩:=h;obtain⟨u,rfl,t,rfl⟩:=b86 r;exact call_abs_int fun u tk=>⟨.int (if i < 0 then -i else i),H,I.tok _,⟨_,rfl⟩,q⟩
theorem d21:b25 X (.type "int") (fun xs H Q=>(∃ i,xs=[.int i]/\Q (.int i) H)∨∃ k,xs=[.bl k]/\Q (.int (if k then 1 else 0)) H):=by
 try constructor
 intro pins s σ H xs us Q I r h;rcases h with⟨i,rfl,q⟩ | ⟨k,rfl,q⟩
 ·obtain⟨u,rfl,t,rfl⟩:=b86 r;exact call_int_int ⟨.int i,H,I,⟨_,rfl⟩,q⟩
 ·obtain⟨u,rfl,r1⟩:=b86 r;cases r1;exact call_int_bool ⟨.int (if k then 1 else 0),H,I.tok _,⟨_,rfl⟩,q⟩
theorem b40:b25 X (.type "str") (fun xs H Q=>∃ i,xs=[.int i]/\i.natAbs.log2 < 1920/\Q (.str (toString i)) H):=by
 try constructor
 intro pins s σ H xs us Q I r h;obtain⟨i,rfl,hz,q⟩:=h;obtain⟨u,rfl,t,rfl⟩:=b86 r;exact PySem.P.str_of_int hz ⟨.str _,H,I.tok _,⟨_,rfl⟩,q⟩
theorem g63:b25 X (.builtin "ord") (fun xs H Q=>∃ x,xs=[.str x]/\x.length=1/\Q (.int (x.cps.getD 0 0:Nat)) H):=by
 try constructor
 intro pins s σ H xs us Q I r h;obtain⟨x,rfl,hz,q⟩:=h;obtain⟨u,rfl,t,rfl⟩:=b86 r;exact ord_of_one hz ⟨.int _,H,I.tok _,⟨_,rfl⟩,q⟩
end
end L2
namespace L2
open PySem PySem.Spec PyProof.Rows
structure ObjM (h:Heap)(x dx C:Addr) (mA:Str->Option Value):Prop where
 obj:h.get? x=some (PySem.W.instObj C dx)
 ns:h.Ns1 dx mA
 ne:dx≠x
theorem f46 {h:Heap}{dx:Addr}{mA:Str->Option Value}(n:h.Ns1 dx mA):∃ od,h.get? dx=some od/\∀ name,PySem.W.lookIn name od=some (mA name):=by
 obtain⟨o,es,ep,ho,hd,hk,_,hm⟩:=n;refine⟨o,ho,fun name=>?_⟩;have e:=hm name;unfold nsFind findBy at e;rw[← Array.find?_toList] at e;unfold PySem.W.lookIn;rw[hd];dsimp only;split
 ·rename_i y q;rw[q] at e;exact congrArg some e
 ·rename_i q;rw[q] at e;have a:es.toList.any (·.refKey)=false:=by
   rw[List.any_eq_false];intro y hy;obtain⟨z,t,hkey⟩:=hk y (Array.mem_toList_iff.mp hy);simp[DictEntry.refKey,hkey]
  have a':¬ es.toList.any (·.refKey)=true:=by rw[a];exact Fj
  rw[if_neg a'];exact congrArg some e
theorem ObjM.look {h:Heap}{x dx C:Addr}{mA:Str->Option Value}(I:ObjM h x dx C mA):∃ od,PySem.W.InstAt h x (PySem.W.instObj C dx) C (some od)/\∀ name,PySem.W.lookIn name od=some (mA name) :=
 let ⟨od,ho,hl⟩:=f46 I.ns
 ⟨od,⟨I.obj,rfl,rfl,ho⟩,hl⟩
section
variable {prog:Pm}{w:World}{A:Around}{E:VSP}{s:Sd}{K:WFr}{x dx C f:Addr}{mA:Str->Option Value}{name:Str}{v:Value}
theorem h94 {expr:Bool}{Q:VSP}(X:K.In s.heap)(I:ObjM s.heap x dx C mA)(hg:PySem.W.plainGet K C name=true)(hh:PySem.W.hasDictIn K C=true)
 (ha:wF K (.ref C) name=some none)(hv:mA name=some v)(hv':PySem.W.handedIn v=true)(h:Q v { s with toks:=s.toks+1 }) :
 wpAny (model prog w) A (getAttr (.ref x) name expr) Q E s:=by
 obtain⟨od,J,hl⟩:=I.look;exact PySem.W.get_value X J (PySem.W.plainGet_of hg).1 (PySem.W.findObj_own hh ha rfl (by rw[hl,hv])) hv' h
theorem g54 {pl:Sem Bool}{Q:Value×List Value->Sd->Prop}(X:K.In s.heap)(I:ObjM s.heap x dx C mA)(hg:PySem.W.plainGet K C name=true)
 (hf:wF K (.ref C) name=some (some (.ref f)))(ht:PySem.W.isFn K (.ref f)=true)(hv:mA name=none)(h:Q (.ref f,[.ref x]) s) :
 wpAny (model prog w) A (getMethod (.ref x) name pl) Q E s:=by
 obtain⟨od,J,hl⟩:=I.look;exact PySem.W.method_fn X J (PySem.W.plainGet_of hg).1 (PySem.W.plainGet_of hg).2 hf (beq_iff_eq.mp ht) (by show(PySem.W.lookIn name od).map (·.isSome)=some false;rw[hl,hv];rfl) h
theorem h56 {ns:List Str}{Q:Unit->Sd->Prop}(X:K.In s.heap)(I:ObjM s.heap x dx C mA)
 (hs:wF K (.ref C) "__setattr__" = some (some (.builtin "object.__setattr__")))(hp:PySem.W.plainOver K C=true)(ht:PySem.W.takerIn K C name=some none)(hh:PySem.W.hasDictIn K C=true)
 (hw:PySem.Within mA ns)(hsz:ns.length<=zL)
 (h:∀ h',ObjM h' x dx C (fun y=>if y=name then some v else mA y)->Heap.SameBut dx s.heap h'->Q () { s with heap:=h',toks:=s.toks+2 }) :
 wpAny (model prog w) A (setAttr (.ref x) name v) Q E s:=by
 obtain⟨od,J,hl⟩:=I.look;refine PySem.W.set_plain X J hs (PySem.W.osa_open (s:={ s with toks:=s.toks+1 }) (r:=none) X J hp ht fun b=>?_)
 obtain⟨cd,hc,hd'⟩:=PySem.W.any_some hh;have hx:s.heap.get? x=some ⟨.ref C,some dx,.plain,#[]⟩:=I.obj;refine AQ (AX (AQ (AQ (wpAny_loadPart hx (AQ (PySem.W.Looks.here (s:={ s with toks:=s.toks+1 }) (PySem.W.looks_clsIn X hc) ?_))))))
 rw[hd'];refine AX (a:=some dx) (AQ (AX (AQ ?_)));refine wpAny_nsSet1 (s:={ s with toks:=s.toks+1 }) I.ns fun h' hn2 hs2=>?_
 obtain⟨oD,esD,epD,hoD,hdD,hcD⟩:=hn2.count (PySem.Within.cons name v hw);refine AQ (wpAny_lookBehind hoD (by rw[hdD];exact pastItsLine_dict (Fz hcD (by rw[Cq];lia))) ?_);exact AX (h _ ⟨(hs2.2 _ (Ne.symm I.ne)).trans I.obj,hn2,I.ne⟩ hs2)
theorem g72 {R:Result->Sd->Prop}{vs:List Value}{kw:List (Str×Value)}(X:K.In s.heap)(hm:PySem.W.makesIn K C=true)
 (hi:wF K (.ref C) "__init__" = some (some (.ref f)))(hf:PySem.W.typeIn K (.ref f)=some (.type "function"))
 (h:codeAny (model prog w) (A.under (.builtin "type.__call__" ⟨.ref C::vs,kw⟩)) (.call (.ref f) ⟨.ref (s.heap.objs.size+1)::vs,kw⟩) (PySem.W.InitBack (s.heap.objs.size+1) R)
   { s with heap:=(s.heap.push PySem.W.emptyDict).push (PySem.W.instObj C s.heap.objs.size) }) :
 codeAny (model prog w) A (.call (.ref C) ⟨vs,kw⟩) R s:=by
 obtain⟨hh,g,d,t,os⟩:=s;exact PySem.W.make_core (PySem.W.makes_of X hm) (PySem.W.looks_findIn X hi) (fun self=>PySem.W.bind_fn X self hf) (.inl rfl) h
end
def a59 (f:Str) (v:V):List (Str×V)->List (Str×V)
 | []=>[(f,v)]
 | (g,x)::r=>if g=f then(g,v)::r else(g,x)::a59 f v r
theorem b02 (f g:Str) (v:V):∀ fs:List (Str×V),(a59 f v fs).lookup g=if g=f then some v else fs.lookup g
 | []=>by
  show List.lookup g [(f,v)]=_;by_cases h:g=f
  ·have hb:(g == f)=true:=beq_iff_eq.mpr h;simp only[List.lookup,hb,if_pos h]
  ·have hb:(g == f)=false:=beq_eq_false_iff_ne.mpr h;simp only[List.lookup,hb,if_neg h]
 | (k,x)::r=>by
  have ih:=b02 f g v r;rw[show a59 f v ((k,x)::r)=(if k=f then(k,v)::r else(k,x)::a59 f v r) from rfl];by_cases hk:k=f
  ·rw[if_pos hk];by_cases h:g=k
   ·have hb:(g == k)=true:=beq_iff_eq.mpr h;simp only[List.lookup,hb,if_pos (h.trans hk)]
   ·have hb:(g == k)=false:=beq_eq_false_iff_ne.mpr h;simp only[List.lookup,hb,if_neg (fun e:g=f=>h (e.trans hk.symm))]
  ·rw[if_neg hk];by_cases h:g=k
   ·have hb:(g == k)=true:=beq_iff_eq.mpr h;simp only[List.lookup,hb,if_neg (fun e:g=f=>hk (h.symm.trans e))]
   ·have hb:(g == k)=false:=beq_eq_false_iff_ne.mpr h;simp only[List.lookup,hb];exact ih
theorem c44 (f:Str) (v:V):∀ fs:List (Str×V),f∈(a59 f v fs).map (·.1)/\∀ g,g∈fs.map (·.1)->g∈(a59 f v fs).map (·.1)
 | []=>⟨by simp[a59],fun g h=>by simp at h⟩
 | (k,x)::r=>by
  obtain⟨i1,i2⟩:=c44 f v r;rw[show a59 f v ((k,x)::r)=(if k=f then(k,v)::r else(k,x)::a59 f v r) from rfl];by_cases hk:k=f
  ·rw[if_pos hk];subst hk;exact⟨by simp,fun g h=>by simpa using h⟩
  ·rw[if_neg hk];refine⟨?_,fun g h=>?_⟩
   ·rw[Cz];exact BQ _ i1
   ·rw[Cz] at h ⊢;rcases BZ.mp h with e | e
    ·exact BZ.mpr (.inl e)
    ·exact BQ _ (i2 g e)
theorem b73 (f:Str) (v:V):∀ fs:List (Str×V),(a59 f v fs).length<=fs.length+1
 | []=>by simp[a59]
 | (k,x)::r=>by
  have ih:=b73 f v r;rw[show a59 f v ((k,x)::r)=(if k=f then(k,v)::r else(k,x)::a59 f v r) from rfl];by_cases hk:k=f
  ·rw[if_pos hk,Cq,Cq];lia
  ·rw[if_neg hk,Cq,Cq];lia
theorem RelO.some_of {v:V}{o:Option Value}(r:RelO (some v) o):∃ u,o=some u/\RelV v u:=by
 cases o with
 | none=>exact(show False from r).elim
 | some u=>exact⟨u,rfl,r⟩
theorem RelO.none_of {o:Option Value}(r:RelO none o):o=none:=by
 cases o with
 | none=>rfl
 | some u=>exact(show False from r).elim
theorem d37 {v:V}{u:Value}(r:RelV v u):PySem.W.handedIn u=true:=by
 cases v with
 | non=>cases (show u=Value.none from r);rfl
 | bl b=>cases (show u=Value.bool b from r);rfl
 | int i=>obtain⟨t,e⟩:=(show ∃ t,u=Value.int i t from r);cases e;rfl
 | str x=>obtain⟨t,e⟩:=(show ∃ t,u=Value.str x t from r);cases e;rfl
 | byt b=>obtain⟨t,e⟩:=(show ∃ t,u=Value.bytes b t from r);cases e;rfl
 | flt b=>obtain⟨t,e⟩:=(show ∃ t,u=Value.float b t from r);cases e;rfl
 | ref a=>cases (show u=Value.ref a from r);rfl
 | ty n=>cases (show u=Value.type n from r);rfl
section
variable {P:Pm}{w:World}{H H':Hp}{h h':Heap}{a C dx:Addr}{fs fs':List (Str×V)}
theorem c77 (hok:HOk P w H h)(e:H a=some (.ins C dx fs)):∃ mA,ObjM h a dx C mA/\(∀ f,RelO (fs.lookup f) (mA f))/\PySem.Within mA (fs.map (·.1))/\fs.length<=1000/\H dx=some (.own a):=by
 obtain⟨d,z,ne,ob,mA,n,r,q⟩:=(show ObjOk P w H h a (.ins C dx fs) from hok a _ e);exact⟨mA,⟨ob,n,ne⟩,r,q,z,d⟩
end
structure Cls (K:WFr)(C:Addr):Prop where
 pg:PySem.W.plainGet K C Str.empty=true
 hd:PySem.W.hasDictIn K C=true
 po:PySem.W.plainOver K C=true
 sa:wF K (.ref C) "__setattr__" = some (some (.builtin "object.__setattr__"))
theorem Cls.get {K:WFr}{C:Addr}(c:Cls K C) (f:Str):PySem.W.plainGet K C f=true:=c.pg
def NoAttr (K:WFr)(C:Addr) (f:Str):Prop:=wF K (.ref C) f=some none
theorem NoAttr.taker {K:WFr}{C:Addr}{f:Str}(n:NoAttr K C f):PySem.W.takerIn K C f=some none:=by
 unfold PySem.W.takerIn;rw[show wF K (.ref C) f=some none from n];rfl
structure Meth (K:WFr)(C:Addr) (m:Str)(f:Addr):Prop where
 at_:wF K (.ref C) m=some (some (.ref f))
 fn:PySem.W.isFn K (.ref f)=true
 kp:PySem.W.keepIn K (.ref f)=true
section
variable {X:Cx}{pins:LAO}{σ:St}{H:Hp}{s:Sd}{a C dx:Addr}{fs:List (Str×V)}{f:Str}{v:V}{A:Around}{E:VSP}
theorem e69 {b:Bool}{Q:VSP}(I:Inv X pins σ H s)(e:H a=some (.ins C dx fs))(c:Cls X.K C)(n:NoAttr X.K C f)(l:fs.lookup f=some v)
 (h:∀ u s',Inv X pins σ H s'->RelV v u->Q u s'):wpAny (model X.prog X.w) A (getAttr (.ref a) f b) Q E s:=by
 obtain⟨mA,O,r,_,_,_⟩:=c77 I.hok e;obtain⟨u,hu,ru⟩:=RelO.some_of (v:=v) (o:=mA f) (by rw[← l];exact r f);exact h94 I.kIn O (c.get f) c.hd n hu (d37 ru) (h u _ (I.tok _) ru)
theorem c64 {m:Str}{g:Addr}{pl:Sem Bool}{Q:Value×List Value->Sd->Prop}(I:Inv X pins σ H s)(e:H a=some (.ins C dx fs))(c:Cls X.K C)(k:Meth X.K C m g)(l:fs.lookup m=none)
 (h:Q (.ref g,[.ref a]) s):wpAny (model X.prog X.w) A (getMethod (.ref a) m pl) Q E s:=by
 obtain⟨mA,O,r,_,_,_⟩:=c77 I.hok e;have hn:mA m=none:=RelO.none_of (by rw[← l];exact r m);exact g54 I.kIn O (c.get m) k.at_ k.fn hn h
theorem e81 {y:V}{u:Value}{Q:Unit->Sd->Prop}(I:Inv X pins σ H s)(e:H a=some (.ins C dx fs))(c:Cls X.K C)(n:NoAttr X.K C f)(hl:fs.length < 1000)(ry:RelV y u)
 (h:∀ s',Inv X pins σ (upd H a (.ins C dx (a59 f y fs))) s'->Q () s'):wpAny (model X.prog X.w) A (setAttr (.ref a) f u) Q E s:=by
 obtain⟨mA,O,r,wi,_,ho⟩:=c77 I.hok e;have hz:(fs.map (·.1)).length<=zL:=by rw[Aj,sizeLine_eq];lia
 refine h56 I.kIn O c.sa c.po n.taker c.hd wi hz fun h' O' sb=>h _ ?_;have hd:∃ o,h'.get? dx=some o:=let ⟨o,_,_,e',_⟩:=O'.ns;⟨o,e'⟩
 refine I.write (x:=a) (e:=dx) (by rw[e];exact True.intro) (.inr ho) (fun b q hb z=>(sb.2 b hb).trans z) hd ?_;refine⟨by rw[a07 O.ne];exact ho,?_,O.ne,O'.obj,_,O'.ns,fun g=>?_,fun g hg=>?_⟩
 ·have:=b73 f y fs;lia
 ·show RelO ((a59 f y fs).lookup g) (if g=f then some u else mA g);rw[b02];by_cases q:g=f
  ·rw[if_pos q,if_pos q];exact ry
  ·rw[if_neg q,if_neg q];exact r g
 ·by_cases q:g=f
  ·rw[q];exact(c44 f y fs).1
  ·refine(c44 f y fs).2 g (wi g fun z=>hg ?_);show(if g=f then some u else mA g)=none;rw[if_neg q];exact z
theorem Inv.made (I:Inv X pins σ H s):Inv X pins σ (upd (upd H s.heap.objs.size (.own (s.heap.objs.size+1))) (s.heap.objs.size+1) (.ins C s.heap.objs.size []))
 { s with heap:=(s.heap.push PySem.W.emptyDict).push (PySem.W.instObj C s.heap.objs.size) }:=by
 have e1:(s.heap.push PySem.W.emptyDict).get? s.heap.objs.size=some PySem.W.emptyDict:=Dx s.heap rfl;have e2:((s.heap.push PySem.W.emptyDict).push (PySem.W.instObj C s.heap.objs.size)).get? (s.heap.objs.size+1)=some (PySem.W.instObj C s.heap.objs.size):=by
  have:=Dx (s.heap.push PySem.W.emptyDict) (o:=PySem.W.instObj C s.heap.objs.size) rfl
  rwa[Heap.size_push] at this
 have e3:(s.heap.push PySem.W.emptyDict).Ns s.heap.objs.size (fun _=>none):=⟨PySem.W.emptyDict,#[],_,e1,rfl,(fun e he=>absurd he (by simp)),fun _=>rfl⟩;have I1:=I.laid (a:=s.heap.objs.size) (o:=.own (s.heap.objs.size+1)) (h':=s.heap.push PySem.W.emptyDict) (t':=s.toks) (fun b u q=>Aq _ q) (AZ _) ⟨_,e1⟩;refine I1.laid (a:=s.heap.objs.size+1) (o:=.ins C s.heap.objs.size []) (t':=s.toks) (fun b u q=>Aq _ q) (Nat.le_of_eq (Heap.size_push _ _)) ?_;have ne:s.heap.objs.size≠s.heap.objs.size+1:=nLQ (Nat.lt_succ_self _);refine⟨by rw[a07 ne,a01],Fx _,ne,e2,fun _=>none,(Heap.Ns1.of_empty e3).at fun o q=>Aq _ q,fun _=>True.intro,fun y hy=>absurd rfl hy⟩
theorem g23 {prog:Pm}{w:World}{env:Env}{e:Expr}{f:Str}{pos:Pos}{s:Sd}{Q:VSP}(hb:attributeBase e f env (eval e env)=eval e env)
 (h:wpAny (model prog w) A (eval e env) (fun o s₁=>wpAny (model prog w) A (getAttr o f true) Q E s₁) E s):wpAny (model prog w) A (eval (.Attribute e f pos) env) Q E s :=
 Attribute_any_ h (by rw[arm_eval_Attribute,hb])
end
def tFld (K:WFr)(ta:TE) (f:Str):TE:=fun σ H Q=>ta σ H fun x H1=>∃ a C dx fs v,x=.ref a/\H1 a=some (.ins C dx fs)/\Cls K C/\NoAttr K C f/\fs.lookup f=some v/\Q v H1
def sFld (K:WFr)(ta tv:TE) (f:Str):TS:=fun D σ H=>tv σ H fun y H1=>ta σ H1 fun x H2=>∃ a C dx fs,x=.ref a/\H2 a=some (.ins C dx fs)/\Cls K C/\NoAttr K C f/\fs.length < 1000 /\
 D.nx σ (upd H2 a (.ins C dx (a59 f y fs)))
section
variable {X:Cx}{o e value:Expr}{f:Str}{pos pos' tpos:Pos}{ta tv:TE}
theorem a74 (he:PE X e ta)(hb:attributeBase e f X.env (eval e X.env)=eval e X.env):PE X (.Attribute e f pos) (tFld X.K ta f):=by
 try constructor
 intro pins s σ H Q I h;refine g23 hb (thn (he pins s σ H _ I h) fun u s1 ⟨x,H1,I1,rx,a,C,dx,fs,v,ex,ea,c,n,l,q⟩=>?_);subst ex;obtain rfl:u=Value.ref a:=rx;exact e69 I1 ea c n l fun u' s2 I2 ru=>⟨v,H1,I2,ru,q⟩
theorem c20 (ha:PE X o ta)(hv:PE X value tv)(hs:swapsWith value (some (.Attribute o f pos')) pos.line X.env=pure false):PS X (.Assign [.Attribute o f pos'] value pos) (sFld X.K ta tv f):=by
 try constructor
 intro pins s σ H D I h;refine plainObj_wpAny_Assign_Attribute (thn (hv pins s σ H _ I h) fun u s1 ⟨y,H1,I1,ry,q⟩=>thn (ha pins s1 σ H1 _ I1 q) fun ov s2 ⟨x,H2,I2,rx,a,C,dx,fs,ex,ea,c,n,l,q2⟩=>?_) hs;subst ex;obtain rfl:ov=Value.ref a:=rx;exact e81 I2 ea c n l ry fun s3 I3=>⟨σ,_,I3,q2⟩
end
section
variable {X:Cx}{pins:LAO}{σ:St}{H:Hp}{s:Sd}{A:Around}{E:VSP}{Q:VSP}{c:Value}{b:Bool}
inductive TyOf (K:WFr)(H:Hp):V->Value->Prop where
 | non:TyOf K H .non (.type "NoneType")
 | bl (x:Bool):TyOf K H (.bl x) (.type "bool")
 | int (i:Int):TyOf K H (.int i) (.type "int")
 | str (x:Str):TyOf K H (.str x) (.type "str")
 | flt (x:UInt64):TyOf K H (.flt x) (.type "float")
 | lst {a:Addr}{xs:List V}(e:H a=some (.lst xs)):TyOf K H (.ref a) (.type "list")
 | frz {a:Addr}{o:Obj}{xs:List V}(e:H a=some (.frz o (.lst xs))):TyOf K H (.ref a) (.type "list")
 | tup {a:Addr}{xs:List V}(e:H a=some (.tup xs)):TyOf K H (.ref a) (.type "tuple")
 | dK {a:Addr}{kvs:List (Key×V)}(e:H a=some (.dK kvs)):TyOf K H (.ref a) (.type "dict")
 | dT {a:Addr}{kvs:List (List Key×V)}(e:H a=some (.dT kvs)):TyOf K H (.ref a) (.type "dict")
 | ins {a C dx:Addr}{fs:List (Str×V)}(e:H a=some (.ins C dx fs))(cl:Cls K C)(ha:wF K (.ref C) "__class__" = some (some (.builtin "object.__class__")))
  (hn:PySem.W.specialIn K (.builtin "object.__class__") "__get__" = some (some (.builtin "getset_descriptor.__get__")))(htk:PySem.W.takesIn K (.builtin "object.__class__")=some true)
  (hm:PySem.W.mroIn K C (.type "object")=some true):TyOf K H (.ref a) (.ref C)
theorem f98 {x:V}{u t:Value}(I:Inv X pins σ H s)(rx:RelV x u)(ty:TyOf X.K H x t)(e:PySem.W.kitOne X.K t c=some b)(h:∀ tk,Q (.bool b) { s with toks:=tk }) :
 wpAny (model X.prog X.w) A (call (.builtin "isinstance") [u,c]) Q E s:=by
 cases ty with
 | non=>cases (show u=Value.none from rx);exact PySem.W.kia_one PySem.W.kitx_none I.kIn True.intro e (fun z=>nomatch z) h
 | bl y=>cases (show u=Value.bool y from rx);exact PySem.W.kia_one PySem.W.kitx_bool I.kIn True.intro e (fun z=>nomatch z) h
 | int i=>obtain⟨t,q⟩:=(show ∃ t,u=Value.int i t from rx);cases q;exact PySem.W.kia_one PySem.W.kitx_int I.kIn True.intro e (fun z=>nomatch z) h
 | str y=>obtain⟨t,q⟩:=(show ∃ t,u=Value.str y t from rx);cases q;exact PySem.W.kia_one PySem.W.kitx_str I.kIn True.intro e (fun z=>nomatch z) h
 | flt y=>obtain⟨t,q⟩:=(show ∃ t,u=Value.float y t from rx);cases q;exact PySem.W.kia_one PySem.W.kitx_float I.kIn True.intro e (fun z=>nomatch z) h
 | @lst a xs ea =>
  cases (show u=Value.ref a from rx);obtain⟨_,_,n,_,h1⟩:=(show ObjOk X.prog X.w H s.heap a (.lst xs) from I.hok a _ ea);exact PySem.W.kia_one PySem.W.kitx_list I.kIn ⟨_,h1,rfl⟩ e (fun z=>nomatch z) h
 | @frz a ob xs ea =>
  cases (show u=Value.ref a from rx);obtain⟨_,_,_,n,_,h1⟩:=(show ObjOk X.prog X.w H s.heap a (.frz ob (.lst xs)) from I.hok a _ ea);exact PySem.W.kia_one PySem.W.kitx_list I.kIn ⟨_,h1,rfl⟩ e (fun z=>nomatch z) h
 | @tup a xs ea =>
  cases (show u=Value.ref a from rx);obtain⟨_,_,_,p⟩:=(show ObjOk X.prog X.w H s.heap a (.tup xs) from I.hok a _ ea);obtain⟨o,h1,h2,_⟩:=p;exact PySem.W.kia_one PySem.W.kitx_tuple I.kIn ⟨o,h1,h2⟩ e (fun z=>nomatch z) h
 | @dK a kvs ea =>
  cases (show u=Value.ref a from rx);obtain⟨_,_,vs,_,p⟩:=(show ObjOk X.prog X.w H s.heap a (.dK kvs) from I.hok a _ ea);obtain⟨o,es,ep,h1,h2,_⟩:=p;exact PySem.W.kia_one PySem.W.kitx_dict I.kIn ⟨o,h1,h2.1⟩ e (fun z=>nomatch z) h
 | @dT a kvs ea =>
  cases (show u=Value.ref a from rx);obtain⟨_,_,xs,_,o,es,ep,h1,h2,_⟩:=(show ObjOk X.prog X.w H s.heap a (.dT kvs) from I.hok a _ ea);exact PySem.W.kia_one PySem.W.kitx_dict I.kIn ⟨o,h1,h2.1⟩ e (fun z=>nomatch z) h
 | @ins a C dx fs ea cl ha hn htk hm =>
  cases (show u=Value.ref a from rx);obtain⟨mA,O,_⟩:=c77 I.hok ea;obtain⟨od,J,_⟩:=O.look;exact PySem.W.kia_one (PySem.W.kitx_own (cl.get _) cl.hd ha hn htk hm) I.kIn J e (fun z=>nomatch z) h
end
end L2
namespace L2
open PySem PySem.Spec PyProof.Rows
structure Room (k:Nat)(A:Around):Prop where
 hd:A.handled=none
 dp:A.depth+3 * k+5 < recursionLimit
 un:A.units+16 * k+200 < cLine
theorem Room.mono {j k:Nat}{A:Around}(r:Room k A)(h:j<=k):Room j A:=⟨r.hd,by have:=r.dp;lia,by have:=r.un;lia⟩
theorem Room.deeper {k:Nat}{A:Around}(r:Room (k+1) A)(env:Env):Room k (A.deeper env) :=
 ⟨r.hd,by have:=r.dp;show A.depth+1+3 * k+5 < _;lia,by have:=r.un;show A.units+3+16 * k+200 < _;lia⟩
theorem e75 {A:Around}{C:Addr}{us:List Value}{kw:List (Str×Value)}:(A.under (.builtin "type.__call__" ⟨.ref C::us,kw⟩)).depth=A.depth+1:=by
 first | rfl | simp[Around.under,Code.weight,Code.isCreation,Code.isGuard,Code.isCaller,Code.frames,Code.isFrame,guardIds]
theorem e74 {A:Around}{C:Addr}{us:List Value}{kw:List (Str×Value)}:(A.under (.builtin "type.__call__" ⟨.ref C::us,kw⟩)).units=A.units+1:=by
 first | rfl | simp[Around.under,Code.cUnits,Code.frames,Code.isFrame]
theorem Room.make {k:Nat}{A:Around}(r:Room (k+1) A)(C:Addr) (us:List Value) (kw:List (Str×Value)):Room k (A.under (.builtin "type.__call__" ⟨.ref C::us,kw⟩)) :=
 ⟨r.hd,by have:=r.dp;rw[e75];omega,by have:=r.un;rw[e74];omega⟩
theorem Room.depth {k:Nat}{A:Around}(r:Room k A):A.depth < recursionLimit:=by have:=r.dp;lia
theorem Room.units {k:Nat}{A:Around}(r:Room k A):A.units+64 < cLine:=by have:=r.un;lia
theorem Room.units0 {k:Nat}{A:Around}(r:Room k A):A.units < cLine:=by have:=r.un;omega
def i26:TA:=fun _ H Q=>Q [] H
def tCons (ta:TE)(tr:TA):TA:=fun σ H Q=>ta σ H fun x H1=>tr σ H1 fun xs H2=>Q (x::xs) H2
section
variable {X:Cx}{e:Expr}{es:List Expr}{te:TE}{t:TA}{pos:Pos}
theorem a02:PA X [] i26:=.mk fun _ _ _ _ H Q I h=>Calls.spliced_nil ⟨[],H,I,.nil,h⟩
theorem a00 (ha:PE X e te)(hr:PA X es t)(hs:starEach (e::es) X.env=(false,eval e X.env)::starEach es X.env:=by rfl):PA X (e::es) (tCons te t):=by
 try constructor
 intro pos pins s σ H Q I h;rw[hs];show wpAny _ _ (spliced ((false,eval e X.env)::backTo pos (starEach es X.env))) _ _ s;refine Calls.spliced_cons (thn (ha pins s σ H _ I h) fun u s1 ⟨x,H1,I1,r1,q1⟩=>?_);exact thn (hr pos pins s1 σ H1 _ I1 q1) fun us s2 ⟨xs,H2,I2,r2,q2⟩=>⟨x::xs,H2,I2,.cons r1 r2,q2⟩
def tTup (t:TA):TE:=fun σ H Q=>t σ H fun xs H1=>xs.length<=zL/\∀ p,H1 p=none->Q (.ref p) (upd H1 p (.tup xs))
def tLst (t:TA):TE:=fun σ H Q=>t σ H fun xs H1=>xs.length<=zL/\∀ p,H1 p=none->Q (.ref p) (upd H1 p (.lst xs))
theorem a52 {x1}(h:PA X es t):PE X (.Tuple es x1 pos) (tTup t):=by
 try constructor
 intro pins s σ H Q I hq;refine wpAny_Tuple_spliced (thn (h pos pins s σ H _ I hq) fun us s1 ⟨xs,H1,I1,r,z,q⟩=>⟨by rw[← r.length];exact z,?_⟩);have hf:H1 s1.heap.objs.size=none:=I1.hok.fresh (AZ _);refine⟨.ref s1.heap.objs.size,upd H1 s1.heap.objs.size (.tup xs),I1.laid (t':=s1.toks) (fun b u e=>Aq _ e) (AZ _) ?_,rfl,q _ hf⟩;exact⟨z,us,r,⟨_,Dx _ rfl,rfl,_,rfl⟩⟩
theorem a56 (h:PA X es t):PE X (.List es pos) (tLst t):=by
 try constructor
 intro pins s σ H Q I hq;refine wpAny_List_spliced (thn (h pos pins s σ H _ I hq) fun us s1 ⟨xs,H1,I1,r,z,q⟩=>⟨by rw[← r.length];exact z,?_⟩);have hf:H1 s1.heap.objs.size=none:=I1.hok.fresh (AZ _);refine⟨.ref s1.heap.objs.size,upd H1 s1.heap.objs.size (.lst xs),I1.laid (t':=s1.toks) (fun b u e=>Aq _ e) (AZ _) ?_,rfl,q _ hf⟩;exact⟨z,us,0,r,Dx _ rfl⟩
end
abbrev Sp:=List V->Hp->VK->XK->Prop
abbrev CXT:=List Env->Hp->Sd->XK->Value->Sd->Prop
structure Env0 (P:Pm)(w:World)(K:WFr) (mg:Str->Option Value)(base:Heap)(A:Around) (outer:List Env)(s:Sd)(H:Hp):Prop where
 frames:A.frames=some outer
 mod:Mod K mg base
 bs:∀ b o,base.get? b=some o->s.heap.get? b=some o/\H b=none
 bsz:base.objs.size<=s.heap.objs.size
 funs:s.heap.FunFrames base outer
 frf:∀ b∈frs outer,H b=none
 hok:HOk P w H s.heap
 bare:AllBare s.gens
def CE (outer:List Env)(P:Pm)(w:World)(H:Hp)(s:Sd)(Q:VK) (u:Value)(s':Sd):Prop :=
 ∃ v H',s'.os=s.os/\AllBare s'.gens/\Un (frs outer) [] H H' s.heap s'.heap/\HOk P w H' s'.heap/\RelV v u/\Q v H'
def CR (CX:CXT) (outer:List Env)(P:Pm)(w:World)(H:Hp)(s:Sd)(Q:VK)(E:XK)(r:Result)(s':Sd):Prop :=
 match r with
 | .ok (.ret u)=>CE outer P w H s Q u s'
 | .ok _=>False
 | .error e=>CX outer H s E e s'
structure FnOk (P:Pm)(w:World)(K:WFr) (mg:Str->Option Value)(base:Heap)(CX:CXT) (k:Nat)(f:Addr)(fd:FD) (ps:List Str)(sp:Sp):Prop where
 len:∀ vs H Q E,sp vs H Q E->vs.length=ps.length
 run:∀(A:Around) (outer:List Env)(s:Sd)(H:Hp)(args:Args) (us:List Value) (vs:List V)(Q:VK)(E:XK),Room k A->Env0 P w K mg base A outer s H->BindsTo s fd args (ps.zip us)->Vals vs us->sp vs H Q E ->
  codeAny (model P w) A (.call (.ref f) args) (CR CX outer P w H s Q E) s
theorem FnOk.imp {P:Pm}{w:World}{K:WFr}{mg:Str->Option Value}{base:Heap}{CX:CXT}{k:Nat}{f:Addr}{fd:FD}{ps:List Str}{sp sp':Sp}(F:FnOk P w K mg base CX k f fd ps sp)
 (h:∀ vs H Q E,sp' vs H Q E->sp vs H Q E):FnOk P w K mg base CX k f fd ps sp' :=
 ⟨fun vs H Q E q=>F.len vs H Q E (h _ _ _ _ q),fun A outer s H args us vs Q E hr he hb hv hs=>F.run A outer s H args us vs Q E hr he hb hv (h _ _ _ _ hs)⟩
theorem Env0.make {P:Pm}{w:World}{K:WFr}{mg:Str->Option Value}{base:Heap}{A:Around}{outer:List Env}{s:Sd}{H:Hp}(e:Env0 P w K mg base A outer s H)(C:Addr) (us:List Value) (kw:List (Str×Value)) :
 Env0 P w K mg base (A.under (.builtin "type.__call__" ⟨.ref C::us,kw⟩)) outer s H:=⟨by first | exact e.frames | (simpa [Around.under,Code.envs,Code.isFrame,pushEnvs] using e.frames),e.mod,e.bs,e.bsz,e.funs,e.frf,e.hok,e.bare⟩
section
variable {X:Cx}{pins:LAO}{σ:St}{H:Hp}{s s':Sd}
theorem Inv.env0 (I:Inv X pins σ H s):Env0 X.prog X.w X.K X.mg X.base X.A X.stack s H :=
 ⟨I.ok.frames,I.ok.mod,I.bs,Fz I.ok.bsz I.sz,I.stack,I.stkFree,I.hok,I.bare⟩
theorem Inv.after {Q:VK}{u:Value}(I:Inv X pins σ H s)(h:CE X.stack X.prog X.w H s Q u s'):EP X pins σ Q u s':=by
 obtain⟨v,H',os,bare,un,hok,r,q⟩:=h;obtain⟨hh,g,d,t,os'⟩:=s';obtain rfl:os'=s.os:=os;exact⟨v,H',I.call (h':=hh) (g':=g) (d':=d) (t':=t) (ch:=[]) un hok bare (fun b z=>absurd z (by simp)),r,q⟩
end
def i65 (sp:Sp) (dvs:List V)(E:XK)(t:TA):TE:=fun σ H Q=>t σ H fun vs H1=>sp (vs++dvs) H1 Q E
def g66 (C:Addr) (m:Str)(sp:Sp) (dvs:List V)(E:XK)(ta:TE)(t:TA):TE:=fun σ H Q=>ta σ H fun x H1=>∃ a dx fs,x=.ref a/\H1 a=some (.ins C dx fs)/\fs.lookup m=none /\
 t σ H1 fun vs H2=>sp (x::(vs++dvs)) H2 Q E
def i30 (C:Addr)(sp:Sp) (dvs:List V)(E:XK)(t:TA):TE:=fun σ H Q=>t σ H fun vs H1=>∀ x dx,H1 x=none->H1 dx=none->dx≠x ->
 sp (.ref x::(vs++dvs)) (upd (upd H1 dx (.own x)) x (.ins C dx [])) (fun v H2=>v=.non/\Q (.ref x) H2) E
def Binds (K:WFr)(fd:FD) (ps:List Str) (ds:List Value):Prop :=
 ∀(s:Sd) (us:List Value),K.In s.heap->(us++ds).length=ps.length->BindsTo s fd ⟨us,[]⟩ (ps.zip (us++ds))
theorem Binds.all {K:WFr}{fd:FD}{ps:List Str}(h:∀ us:List Value,us.length=ps.length->bindArgs fd ⟨us,[]⟩=pure (ps.zip us)):Binds K fd ps []:=fun s us _ hl=>by
 rw[List.append_nil] at hl ⊢;exact .of_eq (h us hl)
def c48 (CX:CXT)(X:Cx)(E:XK):Prop:=∀(pins:LAO)(σ:St)(H:Hp)(s:Sd) (e:Value)(s':Sd),Inv X pins σ H s->CX X.stack H s E e s'->X.xe e s'
section
variable {X:Cx}{CX:CXT}{k:Nat}{f C:Addr}{fd:FD}{ps:List Str}{sp:Sp}{dvs:List V}{ds:List Value}{E:XK}{x m:Str}{p pos apos:Pos}{e o:Expr}{es:List Expr}{ta:TE}{t:TA}
theorem f88 {pins:LAO}{σ:St}{H:Hp}{s:Sd}{Q:VK}{us:List Value}{vs:List V}(F:FnOk X.prog X.w X.K X.mg X.base CX k f fd ps sp)(hr:Room k X.A)(hb:Binds X.K fd ps ds)(hd:Vals dvs ds)(hx:c48 CX X E)
 (I:Inv X pins σ H s)(r:Vals vs us)(h:sp (vs++dvs) H Q E):wpAny (model X.prog X.w) X.A (call (.ref f) us) (EP X pins σ Q) X.xe s:=by
 have r2:Vals (vs++dvs) (us++ds):=r.append hd;have hl:(us++ds).length=ps.length:=by rw[← r2.length];exact F.len _ _ _ _ h
 refine wpAny_call (codeAny_mono (F.run X.A X.stack s H ⟨us,[]⟩ (us++ds) (vs++dvs) Q E hr I.env0 (hb s us I.kIn hl) r2 h) fun r s' hq=>?_);cases r with
 | error e=>exact hx pins σ H s e s' I hq
 | ok fl =>
  cases fl with
  | ret u=>exact I.after hq
  | next=>exact False.elim hq
  | brk=>exact False.elim hq
  | cont=>exact False.elim hq
theorem h88 (F:FnOk X.prog X.w X.K X.mg X.base CX k f fd ps sp)(hr:Room k X.A)(hg:Gl X x)(hm:X.mg x=some (.ref f))(hk:PySem.W.keepIn X.K (.ref f)=true)(hb:Binds X.K fd ps ds)(hd:Vals dvs ds)(hx:c48 CX X E)
 (ha:PA X (e::es) t)(hdb:(x == ("__debug__" : Str))=false:=by decide)(he:starEach (e::es) X.env=(false,eval e X.env)::starEach es X.env:=by rfl)(hpl:(backTo pos (starEach es X.env)).any (·.1)=false:=by rfl) :
 PE X (.Call (.Name x p) (e::es) [] pos) (i65 sp dvs E t):=by
 try constructor
 intro pins s σ H Q I h;refine wpAny_Call_Name_kw (b62 I hg hm ?_ hdb);refine PySem.W.callWith_K (h₀:=X.base) I.ok.mod.kin hk (thn (ha pos pins s σ H _ I h) fun us s1 ⟨vs,H1,I1,r,q⟩=>⟨I1.kIn,?_⟩) he hpl;exact f88 F hr hb hd hx I1 r q
theorem h63 {pl:Sem Bool}(he:PE X o ta)(c:Cls X.K C)(hm:Meth X.K C m f)(F:FnOk X.prog X.w X.K X.mg X.base CX k f fd ps sp)(hr:Room k X.A)(hb:Binds X.K fd ps ds)(hd:Vals dvs ds)(hx:c48 CX X E)(ha:PA X (e::es) t)
 (hst:starEach (e::es) X.env=(false,eval e X.env)::starEach es X.env:=by rfl)(hpl:(backTo pos (starEach es X.env)).any (·.1)=false:=by rfl)
 (ht:eval (.Call (.Attribute o m apos) (e::es) [] pos) X.env=(do
   let ov ← eval o X.env
   standAt apos.atName
   let (f,first) ← holding [ov] (getMethod ov m pl)
   callWith pos f first (backTo pos (starEach (e::es) X.env)) (backToKw pos (keywordEach [] X.env))):=by rfl) :
 PE X (.Call (.Attribute o m apos) (e::es) [] pos) (g66 C m sp dvs E ta t):=by
 try constructor
 intro pins s σ H Q I h;refine PySem.W.methodCall_KW (pl:=pl) (thn (he pins s σ H _ I h) fun u s1 ⟨x,H1,I1,rx,a,dx,fs,ex,ea,l,q⟩=>?_) ht;subst ex;obtain rfl:u=Value.ref a:=rx;refine c64 I1 ea c hm l ?_;refine PySem.W.callWith_K (first:=[.ref a]) (h₀:=X.base) I.ok.mod.kin hm.kp (thn (ha pos pins s1 σ H1 _ I1 q) fun us s2 ⟨vs,H2,I2,r,q2⟩=>⟨I2.kIn,?_⟩) hst hpl
 exact f88 (us:=.ref a::us) (vs:=.ref a::vs) F hr hb hd hx I2 (.cons rfl r) q2
theorem g48 {pl:Sem Bool}(he:PE X o ta)(c:Cls X.K C)(hm:Meth X.K C m f)(F:FnOk X.prog X.w X.K X.mg X.base CX k f fd ps sp)(hr:Room k X.A)(hb:Binds X.K fd ps ds)(hd:Vals dvs ds)(hx:c48 CX X E)
 (ht:eval (.Call (.Attribute o m apos) [] [] pos) X.env=(do
   let ov ← eval o X.env
   standAt apos.atName
   let (f,first) ← holding [ov] (getMethod ov m pl)
   callWith pos f first (backTo pos (starEach [] X.env)) (backToKw pos (keywordEach [] X.env))):=by rfl) :
 PE X (.Call (.Attribute o m apos) [] [] pos) (g66 C m sp dvs E ta i26):=by
 try constructor
 intro pins s σ H Q I h;refine PySem.W.methodCall_KW (pl:=pl) (thn (he pins s σ H _ I h) fun u s1 ⟨x,H1,I1,rx,a,dx,fs,ex,ea,l,q⟩=>?_) ht;subst ex;obtain rfl:u=Value.ref a:=rx;refine c64 I1 ea c hm l ?_;exact PySem.W.callWith_K0 (first:=[.ref a]) I1.kIn hm.kp (f88 (us:=[.ref a]) (vs:=[.ref a]) F hr hb hd hx I1 (.cons rfl .nil) q)
structure Mk (K:WFr)(C f:Addr):Prop where
 makes:PySem.W.makesIn K C=true
 init:wF K (.ref C) "__init__" = some (some (.ref f))
 fn:PySem.W.isFn K (.ref f)=true
 kp:PySem.W.keepIn K (.ref C)=true
theorem g45 {pins:LAO}{σ:St}{H:Hp}{s:Sd}{Q:VK}{us:List Value}{vs:List V}(M:Mk X.K C f)(F:FnOk X.prog X.w X.K X.mg X.base CX k f fd ps sp)(hr:Room (k+1) X.A)(hb:Binds X.K fd ps ds)(hd:Vals dvs ds)
 (hx:c48 CX X E)(I:Inv X pins σ H s)(r:Vals vs us)
 (h:∀ x dx,H x=none->H dx=none->dx≠x->sp (.ref x::(vs++dvs)) (upd (upd H dx (.own x)) x (.ins C dx [])) (fun v H2=>v=.non/\Q (.ref x) H2) E) :
 wpAny (model X.prog X.w) X.A (call (.ref C) us) (EP X pins σ Q) X.xe s:=by
 have hq:=h (s.heap.objs.size+1) s.heap.objs.size (I.hok.fresh (FJ _)) (I.hok.fresh (AZ _)) (nLQ (Nat.lt_succ_self _));have I2:=Inv.made (C:=C) I;have r2:Vals (V.ref (s.heap.objs.size+1)::(vs++dvs)) (Value.ref (s.heap.objs.size+1)::(us++ds)):=.cons rfl (r.append hd);have hl:(Value.ref (s.heap.objs.size+1)::us++ds).length=ps.length:=by
  have e:=r2.length;rw[F.len _ _ _ _ hq] at e;exact e.symm
 refine wpAny_call (g72 (f:=f) I.kIn M.makes M.init (beq_iff_eq.mp M.fn) (codeAny_mono (F.run _ X.stack _ _ ⟨Value.ref (s.heap.objs.size+1)::us,[]⟩ (Value.ref (s.heap.objs.size+1)::(us++ds)) _ _ E (hr.make C us [])
  (I2.env0.make C us []) (hb _ (Value.ref (s.heap.objs.size+1)::us) I2.kIn hl) r2 hq) fun r s' hq'=>?_))
 cases r with
 | error e=>exact hx pins σ _ _ e s' I2 hq'
 | ok fl =>
  cases fl with
  | ret u =>
   obtain⟨v,H',I3,rv,ev,q3⟩:=I2.after hq';subst ev;exact⟨rv,⟨V.ref (s.heap.objs.size+1),H',I3,rfl,q3⟩⟩
  | next=>exact False.elim hq'
  | brk=>exact False.elim hq'
  | cont=>exact False.elim hq'
theorem g87 (M:Mk X.K C f)(F:FnOk X.prog X.w X.K X.mg X.base CX k f fd ps sp)(hr:Room (k+1) X.A)(hg:Gl X x)(hm:X.mg x=some (.ref C))(hb:Binds X.K fd ps ds)(hd:Vals dvs ds)(hx:c48 CX X E)
 (hdb:(x == ("__debug__" : Str))=false:=by decide):PE X (.Call (.Name x p) [] [] pos) (i30 C sp dvs E i26):=by
 try constructor
 intro pins s σ H Q I h;refine wpAny_Call_Name_kw (b62 I hg hm ?_ hdb);exact PySem.W.callWith_K0 I.kIn M.kp (g45 (us:=[]) M F hr hb hd hx I .nil h)
end
structure PK (X:Cx) (kws:List Keyword)(t:TA):Prop where
 run :
  ∀(pos:Pos)(pins:LAO)(s:Sd)(σ:St)(H:Hp) (Q:List V->Hp->Prop),Inv X pins σ H s->t σ H Q->wpAny (model X.prog X.w) X.A (evalAll ((backToKw pos (keywordEach kws X.env)).map (·.2))) (AP X pins σ Q) X.xe s
instance {X:Cx}{kws:List Keyword}{t:TA}:CoeFun (PK X kws t) (fun _ =>
 ∀(pos:Pos)(pins:LAO)(s:Sd)(σ:St)(H:Hp) (Q:List V->Hp->Prop),Inv X pins σ H s->t σ H Q->wpAny (model X.prog X.w) X.A (evalAll ((backToKw pos (keywordEach kws X.env)).map (·.2))) (AP X pins σ Q) X.xe s
 ):=⟨PK.run⟩
section
variable {X:Cx}{CX:CXT}{k:Nat}{f C:Addr}{fd:FD}{ps ks:List Str}{sp:Sp}{E:XK}{x m:Str}{p pos apos kpos:Pos}{e o:Expr}{es:List Expr}{kws:List Keyword}{te ta:TE}{t tk:TA}{nm:Option Str}
variable {g:List Value->List Value->List Value}{gV:List V->List V->List V}
end
structure FnScope (N P:List Str)(sc:Scope):Prop where
 kind:sc.kind=.function
 co:sc.isCoroutine=false
 gen:sc.isGenerator=false
 nd:N.Nodup
 pre:N.take P.length=P
 par:∀ x∈P,sc.names.lookup x=some .local∨sc.names.lookup x=some .cell
 nofree:∀ y∈sc.names,y.2≠.free
theorem d39 {kindOf:Str->Option NameKind}{x:Str}:∀ {binds:List (Str×Value)}{m:Str->Option Value},(∀ v,(x,v)∉binds)->bindL kindOf binds m x=m x
 | [],_,_=>rfl
 | (n,v)::r,m,h=>by
  unfold bindL;rw[d39 fun w hw=>h w (BQ _ hw)];split
  ·have:x≠n:=by rintro rfl;exact h v BX
   simp[this]
  ·rfl
theorem d23 {kindOf:Str->Option NameKind}{x:Str}:∀ {binds:List (Str×Value)}{m:Str->Option Value},(∀ v,(x,v)∉binds)->bindC kindOf binds m x=m x
 | [],_,_=>rfl
 | (n,v)::r,m,h=>by
  unfold bindC;rw[d23 fun w hw=>h w (BQ _ hw)];split
  ·rfl
  ·have:x≠n:=by rintro rfl;exact h v BX
   simp[this]
theorem d38 {kindOf:Str->Option NameKind}{x:Str}{v:Value}:∀ {P:List Str}{vs:List Value}{i:Nat}{m:Str->Option Value},P.Nodup->P[i]?=some x->vs[i]?=some v->kindOf x=some .local ->
 bindL kindOf (P.zip vs) m x=some v
 | [],_,_,_,_,h,_,_=>by simp at h
 | _::_,[],_,_,_,_,h,_=>by simp at h
 | p::P,w::vs,0,m,nd,h1,h2,hk=>by
  simp at h1 h2;subst h1;subst h2;show bindL kindOf ((p,w)::P.zip vs) m p=_;unfold bindL;rw[d39 fun v hv=>(List.nodup_cons.mp nd).1 (List.of_mem_zip hv).1,if_pos hk];simp
 | p::P,w::vs,i+1,m,nd,h1,h2,hk=>by
  show bindL kindOf ((p,w)::P.zip vs) m x=_;unfold bindL;exact d38 (i:=i) (List.nodup_cons.mp nd).2 (by simpa using h1) (by simpa using h2) hk
theorem d49 {kindOf:Str->Option NameKind}{x:Str}{v:Value}:∀ {P:List Str}{vs:List Value}{i:Nat}{m:Str->Option Value},P.Nodup->P[i]?=some x->vs[i]?=some v->kindOf x≠some .local ->
 bindC kindOf (P.zip vs) m x=some v
 | [],_,_,_,_,h,_,_=>by simp at h
 | _::_,[],_,_,_,_,h,_=>by simp at h
 | p::P,w::vs,0,m,nd,h1,h2,hk=>by
  simp at h1 h2;subst h1;subst h2;show bindC kindOf ((p,w)::P.zip vs) m p=_;unfold bindC;rw[d23 fun v hv=>(List.nodup_cons.mp nd).1 (List.of_mem_zip hv).1,if_neg hk];simp
 | p::P,w::vs,i+1,m,nd,h1,h2,hk=>by
  show bindC kindOf ((p,w)::P.zip vs) m x=_;unfold bindC;exact d49 (i:=i) (List.nodup_cons.mp nd).2 (by simpa using h1) (by simpa using h2) hk
def start (N:List Str) (vs:List V):St:=vs.map some++List.replicate (N.length-vs.length) none
def e16 (CX:CXT)(P:Pm)(w:World)(K:WFr) (mg:Str->Option Value)(base:Heap) (N:List Str) (qual:Str)(scope:Scope)(f:Addr) (cd:Value)(A:Around) (outer:List Env)(s:Sd)(H:Hp)(E:XK):Cx where
 prog:=P
 w:=w
 K:=K
 mg:=mg
 base:=base
 A:=A.deeper (envOfC qual scope s.heap.objs.size f cd)
 N:=N
 s₀:=s
 H₀:=H
 env:=envOfC qual scope s.heap.objs.size f cd
 outer:=outer
 stack:=envOfC qual scope s.heap.objs.size f cd::outer
 ex:=[]
 calm:=true
 fn:=fun _=>true
 pn:=[]
 xe:=fun e s'=>wpAny (model P w) (A.deeper (envOfC qual scope s.heap.objs.size f cd)) (leaving (envOfC qual scope s.heap.objs.size f cd) e) (fun _ s''=>CX outer H s E e s'') (fun e' s''=>CX outer H s E e' s'') s'
theorem e35 {sc:Scope}{n:Nat}{x:Str}(h:sc.names.lookup x=some .cell):∃ c,(cellsFrom n sc.names []).lookup x=some c:=by
 have q:=PySem.W.cellsFrom_some sc.names n [] (.inl h);exact Option.isSome_iff_exists.mp q
theorem f38 {CX:CXT}{P:Pm}{w:World}{K:WFr}{mg:Str->Option Value}{base:Heap}{N ps:List Str}{qual:Str}{scope:Scope}{f:Addr}{cd:Value}{A:Around}{outer:List Env}{s s1:Sd}{H:Hp}{E:XK}{us:List Value}{vs:List V}
 (S:FnScope N ps scope)(hd:A.handled=none)(e0:Env0 P w K mg base A outer s H)(hl:vs.length=ps.length)(r:Vals vs us)
 (x:InCallC s s.heap.objs.size (bindL (envOfC qual scope s.heap.objs.size f cd).kindOf (ps.zip us) fun _=>none) (cellsFrom (s.heap.objs.size+1) scope.names []) (bindC (envOfC qual scope s.heap.objs.size f cd).kindOf (ps.zip us) fun _=>none) s1) :
 Inv (e16 CX P w K mg base N qual scope f cd A outer s H E) [] (start N vs) H s1:=by
 have hpl:ps.length<=N.length:=by have:=congrArg List.length S.pre;rw[CQ] at this;lia
 obtain⟨h1,tk,rfl,hk⟩:=x.done;have noA:∀ b:Addr,b∉(e16 CX P w K mg base N qual scope f cd A outer s H E).ex:=fun b z=>absurd (show b∈([]:List Addr) from z) (by simp);refine⟨⟨e0.mod,S.kind,rfl,rfl,AZ _,fun y z c h1 h2=>?_,fun y hy=>?_,fun y c _ h=>?_,fun _=>hd,Around.frames_deeper e0.frames,.inr ⟨rfl,rfl⟩,fun b z=>absurd z (noA b),e0.bs,e0.bsz,fun b _ _=>noA b,fun b z=>absurd z (noA b),e0.funs,e0.frf⟩,
  rfl,e0.bare,Un.kept hk,⟨_,x.toInCall.ns,fun i y v h1 h2 h3=>?_⟩,fun y c h=>⟨_,x.cell y c h⟩,e0.hok.fresh (AZ _),fun y c h=>?_,fun p hp=>absurd (show p∈([]:LAO) from hp) (by simp),e0.hok.kept hk,?_⟩
 ·exact name_of_addr x.apart (PySem.mem_of_lookup h1) (PySem.mem_of_lookup h2)
 ·have hy:scope.names.lookup y=some .cell∨scope.names.lookup y=some .free:=hy;rcases hy with hy | hy
  ·exact e35 hy
  ·exact absurd rfl (S.nofree _ (PySem.mem_of_lookup hy))
 ·exact Nat.le_of_lt (x.above y c (PySem.mem_of_lookup h))
 ·have hi:i < vs.length:=by
   unfold start at h2;by_cases hi:i < vs.length
   ·exact hi
   ·rw[lA (by simpa using hi)] at h2;rw[List.getElem?_replicate] at h2;split at h2 <;> cases h2
  have ha:vs[i]?=some v:=by
   unfold start at h2;rw[List.getElem?_append_left (by simpa using hi),CJ] at h2;cases e:vs[i]? with
   | none=>rw[e] at h2;cases h2
   | some a=>rw[e] at h2;cases h2;rfl
  obtain⟨u,hu,rv⟩:=r.get ha;have hp:ps[i]?=some y:=by
   rw[← S.pre,List.getElem?_take_of_lt (by lia)];exact h1
  have ndP:ps.Nodup:=by rw[← S.pre];exact S.nd.sublist (List.take_sublist _ _)
  refine⟨u,rv,?_⟩;rcases S.par y (BJ hp) with k | k
  ·exact .inl ⟨k,d38 ndP hp hu k⟩
  ·obtain⟨c,e⟩:=e35 (n:=s.heap.objs.size+1) k;refine .inr ⟨.inl k,c,e,?_⟩;have q:=x.cell y c e;rw[d49 ndP hp hu (by show scope.names.lookup y≠_;rw[k];decide)] at q;exact q
 ·exact e0.hok.fresh (Nat.le_of_lt (x.above y c (PySem.mem_of_lookup h)))
 ·unfold start;show _=N.length;rw[Bj,Aj,List.length_replicate];lia
theorem i53 {CX:CXT}{P:Pm}{w:World}{K:WFr}{mg:Str->Option Value}{base:Heap}{k:Nat}{f:Addr}{name qual:Str}{params:Arguments}{body:List Stmt}{scope:Scope}{dV kV doc pm cdv ct oc:Value}{an od:Option Addr}
 {osl:Array (Option Value)}{N ps:List Str}{sp:Sp}(lk:K.lookup f=some ⟨oc,od,.func (PySem.W.fnOf name qual params body scope dV kV doc pm an cdv ct),osl⟩)(hcd:PySem.W.codeIn K cdv qual=true)(S:FnScope N ps scope)
 (len:∀ vs H Q E,sp vs H Q E->vs.length=ps.length)
 (hbody:∀(A:Around) (outer:List Env)(s:Sd)(H:Hp) (vs:List V)(Q:VK)(E:XK),Room k (A.deeper (envOfC qual scope s.heap.objs.size f cdv))->sp vs H Q E ->
   ∃ t,PSs (e16 CX P w K mg base N qual scope f cdv A outer s H E) body t/\t { nx:=fun _ H'=>Q .non H',rt:=Q } (start N vs) H) :
 FnOk P w K mg base CX (k+1) f (PySem.W.fnOf name qual params body scope dV kV doc pm an cdv ct) ps sp:=by
 refine⟨len,fun A outer s H args us vs Q E hr e0 hb r hsp=>?_⟩;have hl:=len _ _ _ _ hsp;have KX:K.In s.heap:=e0.mod.kin.keeps fun b o e=>(e0.bs b o e).1;have lim:s.heap.NoLimit:=e0.mod.nolimit.keeps fun b o e=>(e0.bs b o e).1;have hkind:∀ y∈ps.zip us,scope.names.lookup y.1=some .local∨(scope.names.lookup y.1=some .cell/\((cellsFrom (s.heap.objs.size+1) scope.names []).lookup y.1).isSome=true):=fun⟨n,v⟩ hy=>by
  rcases S.par n (List.of_mem_zip hy).1 with q | q
  ·exact .inl q
  ·exact .inr ⟨q,PySem.W.cellsFrom_some _ _ _ (.inl q)⟩
 refine codeAny_call_function hr.depth (KX _ _ lk) rfl S.co S.gen rfl (PySem.W.codeRec_of KX hcd) (hb _ _ _ _ ?_);refine wpAny_newFunctionEnv_cells S.kind hkind fun env he s1 x=>?_;subst he;refine⟨lim.keeps x.toInCall.keep,codeAny_func ?_⟩;obtain⟨t,ht,hq⟩:=hbody A outer s H vs Q E (hr.deeper _) hsp;have I:Inv (e16 CX P w K mg base N qual scope f cdv A outer s H E) [] (start N vs) H s1:=f38 S hr.hd e0 hl r x;refine Dq (ht [] s1 (start N vs) H _ I hq) (fun fl s' hs=>?_) fun e s' hs=>hs;have fin:∀ {σ':St}{H':Hp}{v:V}{u:Value},Inv (e16 CX P w K mg base N qual scope f cdv A outer s H E) [] σ' H' s'->RelV v u->Q v H'->CE outer P w H s Q u s' :=
  fun {σ' H' v u} J rv q=>⟨v,H',J.os,J.bare,J.base,J.hok,rv,q⟩
 cases fl with
 | ret u =>
  obtain⟨v,σ',H',J,rv,q⟩:=hs;exact fin J rv q
 | next =>
  obtain⟨σ',H',J,q⟩:=hs;exact fin (v:=V.non) (u:=Value.none) J rfl q
 | brk =>
  obtain⟨_,_,_,q⟩:=hs;exact False.elim q
 | cont =>
  obtain⟨_,_,_,q⟩:=hs;exact False.elim q
end L2
namespace L2
open PySem PySem.Spec PyProof.Rows
section
variable {X:Cx}{x:Str}{p pos:Pos}{e:Expr}{es:List Expr}{t:TA}{id T:String}{r:List V->Hp->VK->Prop}
def tCB (r:List V->Hp->VK->Prop)(t:TA):TE:=fun σ H Q=>t σ H fun vs H1=>r vs H1 Q
theorem a09 (hc:b25 X (.builtin id) r)(hg:Gl X x)(hm:X.mg x=none)(hv:bootBuiltins x=some (.builtin id))(ha:PA X (e::es) t)(hn:x ≠ "__name__" := by decide)(hdb:(x == ("__debug__" : Str))=false:=by decide)
 (he:starEach (e::es) X.env=(false,eval e X.env)::starEach es X.env:=by rfl)(hpl:(backTo pos (starEach es X.env)).any (·.1)=false:=by rfl):PE X (.Call (.Name x p) (e::es) [] pos) (tCB r t):=by
 try constructor
 intro pins s σ H Q I h;refine wpAny_Call_Name_kw (c17 I hg hm hv ?_ hn hdb);exact PyProof.Rows.callWith_builtin1 (thn (ha pos pins s σ H _ I h) fun us s1 ⟨vs,H1,I1,r1,q1⟩=>hc pins s1 σ H1 vs us Q I1 r1 q1) he hpl
theorem a63 (hc:b25 X (.type T) r)(hg:Gl X x)(hm:X.mg x=none)(hv:bootBuiltins x=some (.type T))(ha:PA X (e::es) t)(hn:x ≠ "__name__" := by decide)(hdb:(x == ("__debug__" : Str))=false:=by decide)
 (he:starEach (e::es) X.env=(false,eval e X.env)::starEach es X.env:=by rfl)(hpl:(backTo pos (starEach es X.env)).any (·.1)=false:=by rfl):PE X (.Call (.Name x p) (e::es) [] pos) (tCB r t):=by
 try constructor
 intro pins s σ H Q I h;refine wpAny_Call_Name_kw (c17 I hg hm hv ?_ hn hdb);exact PyProof.Rows.callWith_type1 (thn (ha pos pins s σ H _ I h) fun us s1 ⟨vs,H1,I1,r1,q1⟩=>hc pins s1 σ H1 vs us Q I1 r1 q1) he hpl
end
end L2
namespace HT
open PySem PyProof.Rows
section
open PySem.SeqAt
open PySem.AutoSeq1 (wpAny_loadPart')
open PySem.MeetsSeq PySem.MeetsSeq2 PySem.MeetsSeq3
end
section
variable {prog:Pm}{w:World}{A:Around}{E:VSP}{s:Sd}
theorem cat_tup {t b:Addr}{vs ws:List Value}{Q:VSP}(ht:IsTup s.heap t vs.toArray)(hb:IsTup s.heap b ws.toArray)(hv:vs≠[])
 (h1:ws=[]->Q (.ref t) s)(h2:ws≠[]->Q (.ref s.heap.objs.size) { s with heap:=s.heap.push { cls:=.type "tuple", data:=.seq (vs++ws).toArray } })
 (hsz:vs.length+ws.length<=zL):wpAny (model prog w) A (binaryOp .Add (.ref t) (.ref b)) Q E s:=by
 obtain⟨⟨cls,dd,data,sl⟩,ho,hc,n,hd⟩:=id ht;obtain⟨⟨cls2,dd2,data2,sl2⟩,ho2,hc2,n2,hd2⟩:=id hb;simp only at hc hd hc2 hd2;subst hc hd hc2 hd2;have e:vs.toArray++ws.toArray=(vs++ws).toArray:=by simp
 by_cases hw:ws=[]
 ·exact concat_meets ⟨_,ho,rfl⟩ ⟨_,ho2,rfl⟩ noFill_tuple_add seq_tuple_add PySem.F.slot_tuple_add PySem.F.entry_tuple_add (PySem.F.args_tuple_add_2 _ _)
   (tuple_addW1 t b vs.toArray ws.toArray n n2 dd dd2 sl sl2 (by simpa using hv) (by simp[hw])) ⟨ho,ho2,h1 hw⟩
 ·refine concat_meets ⟨_,ho,rfl⟩ ⟨_,ho2,rfl⟩ noFill_tuple_add seq_tuple_add PySem.F.slot_tuple_add PySem.F.entry_tuple_add (PySem.F.args_tuple_add_2 _ _)
   (tuple_addW2 t b vs.toArray ws.toArray n n2 dd dd2 sl sl2 (by simpa using hv) (by simpa using hw) (by rw[lS,lS];exact hsz)) ⟨ho,ho2,?_⟩
  rw[e];exact h2 hw
def sIx (n d:Nat):Option Int->Nat
 | none=>d
 | some v=>if v < 0 then(v+(n:Int)).toNat else min v.toNat n
theorem sIx_none (n d:Nat):sIx n d none=d:=rfl
theorem sIx_nat (n d k:Nat):sIx n d (some (k:Int))=min k n:=by
 show(if (k:Int) < 0 then((k:Int)+(n:Int)).toNat else min (k:Int).toNat n)=min k n;rw[if_neg (by lia),Dj]
theorem i52 (n d:Nat)(hd:d<=n)(o:Option Int):sIx n d o<=n:=by
 cases o with
 | none=>exact hd
 | some v =>
  show(if v < 0 then(v+(n:Int)).toNat else min v.toNat n)<=n;by_cases hv:v < 0
  ·rw[if_pos hv];lia
  ·rw[if_neg hv];exact Nat.min_le_right _ _
theorem g32 (v:Int) (n d:Nat):(if v < 0 then max (v+(n:Int)) 0 else min v (n:Int))=((sIx n d (some v):Nat):Int):=by
 show(if v < 0 then max (v+(n:Int)) 0 else min v (n:Int))=(((if v < 0 then(v+(n:Int)).toNat else min v.toNat n):Nat):Int);by_cases hv:v < 0
 ·simp only[if_pos hv];lia
 ·simp only[if_neg hv];lia
theorem e83 (lo hi:Option Int) (n:Nat):Builtin.Slice.sliceAdjust lo hi 1 (n:Int)=(((sIx n 0 lo:Nat):Int),((sIx n n hi:Nat):Int)):=by
 have h1:¬((1:Int) < 0):=by lia
 unfold Builtin.Slice.sliceAdjust;simp only[h1,if_false];refine Prod.ext ?_ ?_
 ·cases lo with
  | none=>rfl
  | some v=>exact g32 v n 0
 ·cases hi with
  | none=>rfl
  | some v=>exact g32 v n n
theorem e87 (i j:Nat):Builtin.Slice.slicePlaces (i:Int) (j:Int) 1=j-i:=by
 unfold Builtin.Slice.slicePlaces;have h1:(1:Int) > 0:=by lia
 simp only[h1,if_true,Int.ediv_one];split <;> lia
theorem c63 {v:Value}{o:Option Int}{Q:Option Int->Sd->Prop}(p:IsPart v o)(h:Q o s):wpAny (model prog w) A (Builtin.Slice.slicePartIndex v) Q E s:=by
 cases p with
 | none=>exact slicePart_none h
 | int i t=>exact slicePart_int h
theorem sliceApplied_gen {sl:Addr}{vl vu:Value}{lo hi:Option Int}{n:Nat}{Q:Int×Int×Nat->Sd->Prop}(hs:s.heap.IsSliceOf sl vl vu .none)(pl:IsPart vl lo)(pu:IsPart vu hi)
 (h:Q (((sIx n 0 lo:Nat):Int),1,sIx n n hi-sIx n 0 lo) s):wpAny (model prog w) A (Builtin.Slice.sliceApplied (.ref sl) (pure (n:Int))) Q E s:=by
 obtain⟨os,hos,hcs,hds⟩:=id hs;unfold Builtin.Slice.sliceApplied Builtin.Slice.sliceFields;refine AQ (AQ (wpAny_field hos hds (x:=vl) rfl (AQ (wpAny_field hos hds (x:=vu) rfl (AQ (wpAny_field hos hds (x:=.none) rfl (AX ?_)))))));refine AQ (slicePart_none ?_);show wpAny _ _ (if ((1:Int) == 0)=true then _ else _) _ _ s;rw[if_neg (by decide)];refine AQ (c63 pl (AQ (c63 pu (AQ (AX ?_)))));show wpAny _ _ (match Builtin.Slice.sliceAdjust lo hi 1 (n:Int) with | (lo,hi)=>pure (lo,(1:Int),Builtin.Slice.slicePlaces lo hi 1)) _ _ s
 rw[e83 lo hi n];show wpAny _ _ (pure (((sIx n 0 lo:Nat):Int),(1:Int),Builtin.Slice.slicePlaces ((sIx n 0 lo:Nat):Int) ((sIx n n hi:Nat):Int) 1)) _ _ s;rw[e87];exact AX h
theorem g97 (xs:Array Value) (i k:Nat):((List.range k).filterMap fun(m:Nat)=>xs[((i:Int)+(m:Int) * 1).toNat]?).toArray=((xs.toList.drop i).take k).toArray:=by
 have e:(fun(m:Nat)=>xs[((i:Int)+(m:Int) * 1).toNat]?)=fun m=>xs[i+m]?:=by
  funext m
  have:((i:Int)+(m:Int) * 1).toNat=i+m:=by lia
  rw[this]
 rw[e]
 have:=pick_run xs i k
 rw[List.filterMap_map] at this;have e2:((fun x=>xs[x]?) ∘ fun x=>i+x)=fun m=>xs[i+m]?:=rfl;rw[e2] at this;rw[this]
theorem getItem_tuple_cut {t sl:Addr}{items:Array Value}{vl vu:Value}{lo hi:Option Int}{Q:VSP}(ht:IsTup s.heap t items)(hs:s.heap.IsSliceOf sl vl vu .none)(pl:IsPart vl lo)(pu:IsPart vu hi)
 (hw:¬(sIx items.size 0 lo=0/\sIx items.size items.size hi=items.size))
 (h:Q (.ref s.heap.objs.size) { s with heap:=s.heap.push { cls:=.type "tuple", data:=.seq ((items.toList.drop (sIx items.size 0 lo)).take (sIx items.size items.size hi-sIx items.size 0 lo)).toArray } })
 (hsz:items.size<=zL):wpAny (model prog w) A (getItem (.ref t) (.ref sl)) Q E s:=by
 have htake:sizeOk (.seq ((items.toList.drop (sIx items.size 0 lo)).take (sIx items.size items.size hi-sIx items.size 0 lo)).toArray):=by
  show((items.toList.drop (sIx items.size 0 lo)).take (sIx items.size items.size hi-sIx items.size 0 lo)).toArray.size<=zL;rw[lS,CQ,EJ,Cj];omega
 have hj:sIx items.size items.size hi<=items.size:=i52 _ _ (AZ _) hi;obtain⟨os,hos,hcs,hds⟩:=id hs;have hTs:s.TypeIs (.ref sl) "slice" := ⟨os,hos,hcs⟩;unfold getItem;try with_reducible refine wpAny_holding ?_
 first | refine AQ (AX ?_) | skip
 refine AQ (wpAny_sequenceKey ht.typeIs (by decide) ?_);refine AQ (wpAny_callSpecial?_slot (name:=Str.ofString "__getitem__") ht.typeIs PyProof.Rows.slot_tuple_getitem
  (wpAny_call_entry PyProof.Rows.slot_tuple_getitem ht.typeIs entry_tuple_getitem ?_ (args_tuple_getitem _ _)))
 show wpAny _ _ (Builtin.Tuple.tupleItemsOf (.ref t) >>= _) _ _ s;refine AQ (tupleItemsOf_ ht ?_);refine AQ (DZ hTs ?_);rw[if_pos (by decide)];refine AQ (sliceApplied_gen hs pl pu ?_);have hno:¬((((sIx items.size 0 lo:Nat):Int) == 0 && (1:Int) == 1 && (sIx items.size items.size hi-sIx items.size 0 lo) == items.size)=true):=by
  intro q;rw[Bool.and_eq_true,Bool.and_eq_true] at q;have q1:((sIx items.size 0 lo:Nat):Int)=0:=eq_of_beq q.1.1;have q2:sIx items.size items.size hi-sIx items.size 0 lo=items.size:=eq_of_beq q.2;exact hw ⟨by omega,by omega⟩
 show wpAny _ _ (if (((sIx items.size 0 lo:Nat):Int) == 0 && (1:Int) == 1 && (sIx items.size items.size hi-sIx items.size 0 lo) == items.size)=true then _ else _) _ _ s;rw[if_neg hno,g97];first
  | exact AQ (m:=Builtin.Tuple.tupleExact _) (EZ (AX ⟨_,rfl,AX h⟩) htake)
  | exact AQ (m:=Builtin.Tuple.tupleExact _) (EZ (AQ (AX (AX ⟨_,rfl,AX h⟩))) htake)
  | exact AQ (AQ (m:=Builtin.Tuple.tupleExact _) (EZ (AX (AX ⟨_,rfl,AX h⟩)) htake))
  | exact AQ (AQ (m:=Builtin.Tuple.tupleExact _) (EZ (AX ⟨_,rfl,AX h⟩) htake))
end
end HT
namespace L2
open PySem PySem.Spec PyProof.Rows
abbrev TO:=St->Hp->(Option Int->Hp->Prop)->Prop
structure PO (X:Cx)(e:Option Expr)(t:TO):Prop where
 run :
  ∀(pins:LAO)(s:Sd)(σ:St)(H:Hp)(Q:Option Int->Hp->Prop),Inv X pins σ H s->t σ H Q ->
   wpAny (model X.prog X.w) X.A (evalPart e X.env) (fun u s'=>∃ o H',Inv X pins σ H' s'/\IsPart u o/\Q o H') X.xe s
instance {X:Cx}{e:Option Expr}{t:TO}:CoeFun (PO X e t) (fun _ =>
 ∀(pins:LAO)(s:Sd)(σ:St)(H:Hp)(Q:Option Int->Hp->Prop),Inv X pins σ H s->t σ H Q ->
  wpAny (model X.prog X.w) X.A (evalPart e X.env) (fun u s'=>∃ o H',Inv X pins σ H' s'/\IsPart u o/\Q o H') X.xe s
 ):=⟨PO.run⟩
def h64:TO:=fun _ H Q=>Q none H
def tPart (t:TE):TO:=fun σ H Q=>t σ H fun x H1=>∃ i,x=.int i/\Q (some i) H1
theorem e85 {ns:List Int}:∀ {us:List Value},Vals (ns.map V.int) us->IntsAre us ns:=by
 induction ns with
 | nil=>intro us r;rw[List.map_nil] at r;cases r;exact .nil
 | cons n ns ih =>
  intro us r;rw[Cz] at r;cases r with
  | cons r1 r2 =>
   obtain⟨t,e⟩:=r1;subst e;exact .cons n t (ih r2)
section
variable {X:Cx}{e:Expr}{te:TE}{lo hi:Option Expr}{tl th:TO}{pos p2:Pos}
theorem a73:PO X none h64:=by
 try constructor
 intro pins s σ H Q I h;rw[evalPart_none];exact AX ⟨none,H,I,.none,h⟩
theorem a65 (h:PE X e te):PO X (some e) (tPart te):=by
 try constructor
 intro pins s σ H Q I hw;rw[evalPart_some];refine thn (h pins s σ H _ I hw) fun u s1 ⟨x,H1,I1,r1,q1⟩=>?_;obtain⟨i,rfl,q⟩:=q1;obtain⟨t,rfl⟩:=r1;exact⟨some i,H1,I1,.int i t,q⟩
def SlR (X:Cx) (r:V->Option Int->Option Int->Hp->VK->Prop):Prop :=
 ∀(pins:LAO)(s:Sd)(σ:St)(H:Hp) (x:V) (v vl vu:Value)(lo hi:Option Int)(sl:Addr)(Q:VK),Inv X pins σ H s->RelV x v->s.heap.IsSliceOf sl vl vu .none->IsPart vl lo->IsPart vu hi->r x lo hi H Q ->
  ∃ T id,typeLookup (.type T) "__getitem__" = pure (some (.builtin id))/\s.TypeIs v T/\wpAny (model X.prog X.w) X.A (getItem v (.ref sl)) (EP X pins σ Q) X.xe s
def tSl (r:V->Option Int->Option Int->Hp->VK->Prop)(te:TE)(tl th:TO):TE:=fun σ H Q=>te σ H fun x H1=>tl σ H1 fun l H2=>th σ H2 fun u H3=>r x l u H3 Q
theorem a61 {r:V->Option Int->Option Int->Hp->VK->Prop}(hr:SlR X r)(he:PE X e te)(hl:PO X lo tl)(hu:PO X hi th):PE X (.Subscript e (.Slice lo hi none p2) pos) (tSl r te tl th):=by
 try constructor
 intro pins s σ H Q I h;refine Subscript_ (thn (he pins s σ H _ I h) fun v s1 ⟨x,H1,I1,r1,q1⟩=>?_);refine wpAny_Slice (thn (hl pins s1 σ H1 _ I1 q1) fun vl s2 ⟨l,H2,I2,pl,q2⟩=>thn (hu pins s2 σ H2 _ I2 q2) fun vu s3 ⟨u,H3,I3,pu,q3⟩=>?_);rw[evalPart_none];refine AX ?_;have I4:Inv X pins σ H3 { s3 with heap:=s3.heap.push { cls:=.type "slice", data:=.fields #[vl,vu,.none] } }:=I3.kept (t':=s3.toks) fun b ob q=>Aq _ q
 obtain⟨T,id,hT,ht,hg⟩:=hr pins { s3 with heap:=s3.heap.push { cls:=.type "slice", data:=.fields #[vl,vu,.none] } } σ H3 x v vl vu l u s3.heap.objs.size Q I4 r1 (Heap.IsSliceOf.new ..) pl pu q3
 show wpAny (model X.prog X.w) X.A (subscriptTail e (.Slice lo hi none p2) v (.ref s3.heap.objs.size)) (EP X pins σ Q) X.xe { s3 with heap:=s3.heap.push { cls:=.type "slice", data:=.fields #[vl,vu,.none] } }
 exact tail_any (ops:=[.ref s3.heap.objs.size,v]) ht hT hg (by with_unfolding_all rfl)
def c24 (xs:List V)(lo hi:Option Int):List V:=(xs.drop (HT.sIx xs.length 0 lo)).take (HT.sIx xs.length xs.length hi-HT.sIx xs.length 0 lo)
theorem b23 (xs:List V)(lo hi:Option Int):(c24 xs lo hi).length<=xs.length:=by
 unfold c24;rw[CQ,EJ];lia
def rSlT (K:WFr):V->Option Int->Option Int->Hp->VK->Prop:=fun x lo hi H Q=>∃ a xs,x=.ref a/\SqT K H a xs /\
 ¬(HT.sIx xs.length 0 lo=0/\HT.sIx xs.length xs.length hi=xs.length)/\∀ p,H p=none->Q (.ref p) (upd H p (.tup (c24 xs lo hi)))
theorem i41:SlR X (rSlT X.K):=by
 try constructor
 intro pins s σ H x v vl vu lo hi sl Q I rx hs pl pu h;obtain⟨a,xs,rfl,hx,hw,q⟩:=h;cases rx;obtain⟨its,r,ht,hz⟩:=I.tuple hx;have hlen:its.toArray.size=xs.length:=by rw[lS];exact r.length.symm
 refine⟨"tuple", _,PyProof.Rows.slot_tuple_getitem.lookup,ht.typeIs,?_⟩;refine HT.getItem_tuple_cut ht hs pl pu (by rw[hlen];exact hw) ?_ (by rw[hlen];exact hz);rw[hlen];refine⟨.ref s.heap.objs.size,_,I.laid (t':=s.toks) (o:=.tup (c24 xs lo hi)) (fun b ob q=>Aq _ q) (AZ _) ?_,rfl,q _ (I.hok.fresh (AZ _))⟩;exact⟨Fz (b23 xs lo hi) hz,_,(r.drop (HT.sIx xs.length 0 lo)).take (HT.sIx xs.length xs.length hi-HT.sIx xs.length 0 lo),IsTup.new _ _⟩
def rCatT (K:WFr):R2:=fun x y H Q=>∃ a b xs ys,x=.ref a/\y=.ref b/\SqT K H a xs/\SqT K H b ys/\xs≠[]/\xs.length+ys.length<=zL /\
 (ys=[]->Q (.ref a) H)/\(ys≠[]->∀ p,H p=none->Q (.ref p) (upd H p (.tup (xs++ys))))
theorem Vals.nil_iff {xs:List V}{us:List Value}(r:Vals xs us):us=[]↔xs=[]:=by
 cases r with
 | nil=>simp
 | cons _ _=>simp
theorem h60:OpR X (binaryOp .Add) (rCatT X.K):=by
 try constructor
 intro pins s σ H x y v u Q I rx ry h;obtain⟨a,b,xs,ys,rfl,rfl,ha,hb,hx,hz,q1,q2⟩:=h;cases rx;cases ry;obtain⟨its,r1,p1,_⟩:=I.tuple ha;obtain⟨its2,r2,p2,_⟩:=I.tuple hb;refine HT.cat_tup p1 p2 (fun z=>hx (r1.nil_iff.mp z)) (fun z=>⟨.ref a,H,I,rfl,q1 (r2.nil_iff.mp z)⟩) (fun z=>?_) (by rw[← r1.length,← r2.length];exact hz);refine⟨.ref s.heap.objs.size,_,I.laid (t':=s.toks) (o:=.tup (xs++ys)) (fun b ob q=>Aq _ q) (AZ _) ?_,rfl,q2 (fun w=>z (r2.nil_iff.mpr w)) _ (I.hok.fresh (AZ _))⟩;exact⟨by rw[Bj];exact hz,_,r1.append r2,IsTup.new _ _⟩
end
end L2
namespace L2
open PySem PySem.Spec PyProof.Rows
def ixN (n:Nat) (i:Int):Option Nat:=if 0<=i then(if i < n then some i.toNat else none) else if -(n:Int)<=i then some (i+n).toNat else none
def atI {α:Type} (xs:List α) (i:Int):Option α:=(ixN xs.length i).bind fun j=>xs[j]?
theorem f49 {n:Nat}{i:Int}{j:Nat}(h:ixN n i=some j):seqIndex? i n=some j/\j < n/\-(n:Int)<=i/\i < n:=by
 unfold ixN at h;by_cases h0:0<=i
 ·rw[if_pos h0] at h;by_cases h1:i < n
  ·rw[if_pos h1] at h;have e:i.toNat=j:=Ez h;exact⟨by rw[seqIndex_of h0 h1,e],by lia,by lia,h1⟩
  ·rw[if_neg h1] at h;cases h
 ·rw[if_neg h0] at h;by_cases h1:-(n:Int)<=i
  ·rw[if_pos h1] at h;have e:(i+n).toNat=j:=Ez h;exact⟨by rw[seqIndex_neg (by lia) h1,e],by lia,h1,by lia⟩
  ·rw[if_neg h1] at h;cases h
theorem d72 {α:Type}{xs:List α}{i:Int}{v:α}(h:atI xs i=some v):∃ j,seqIndex? i xs.length=some j/\xs[j]?=some v/\j < xs.length/\-(xs.length:Int)<=i/\i < xs.length:=by
 unfold atI at h;cases e:ixN xs.length i with
 | none=>rw[e] at h;cases h
 | some j =>
  rw[e] at h;obtain⟨h1,h2,h3,h4⟩:=f49 e;exact⟨j,h1,h,h2,h3,h4⟩
theorem c06 {α:Type}{xs:List α}{j:Nat}{v:α}(h:xs[j]?=some v):atI xs (j:Int)=some v:=by
 have hj:j < xs.length:=(Ej.mp h).1;have e:ixN xs.length (j:Int)=some j:=by
  unfold ixN;rw[if_pos (by lia),if_pos (by lia)];simp
 unfold atI;rw[e];exact h
theorem g88 {α:Type} (xs:List α)(v:α):atI (xs++[v]) (-1)=some v:=by
 have hl:(xs++[v]).length=xs.length+1:=by simp
 have e:ixN (xs++[v]).length (-1)=some xs.length:=by
  unfold ixN;rw[hl,if_neg (by decide),if_pos (by lia)];congr 1;lia
 unfold atI;rw[e];show(xs++[v])[xs.length]?=some v;simp
def h69 (b:Expr):Prop:=∀ o i,subscripted b false o i=operate [o,i] (getItem o i)
def IxR (X:Cx)(r:R2):Prop :=
 ∀(value slice:Expr)(pins:LAO)(s:Sd)(σ:St)(H:Hp) (x y:V) (v u:Value)(Q:VK),Inv X pins σ H s->RelV x v->RelV y u->r x y H Q ->
  subscripted slice false v u=operate [v,u] (getItem v u)->wpAny (model X.prog X.w) X.A (subscriptTail value slice v u) (EP X pins σ Q) X.xe s
def MtR (X:Cx) (id:String) (r:V->List V->Hp->VK->Prop):Prop :=
 ∀(pins:LAO)(s:Sd)(σ:St)(H:Hp) (x:V) (xs:List V) (v:Value) (us:List Value)(Q:VK),Inv X pins σ H s->RelV x v->Vals xs us->r x xs H Q ->
  wpAny (model X.prog X.w) X.A (call (.builtin id) (v::us)) (EP X pins σ Q) X.xe s
section
variable {X:Cx}{a b:Expr}{ta tb:TE}{pos:Pos}
theorem a45 {r:R2}(hr:IxR X r)(ha:PE X a ta)(hb:PE X b tb)(hs:h69 b:=by exact fun _ _=>rfl):PE X (.Subscript a b pos) (tOp r ta tb):=by
 try constructor
 intro pins s σ H Q I h;exact Subscript_ (binT ha hb I h fun v u s2 x y H2 I2 rx ry q=>hr a b pins s2 σ H2 x y v u Q I2 rx ry q (hs _ _))
def rIxL (K:WFr):R2:=fun x y H Q=>∃ p xs i v,x=.ref p/\y=.int i/\SqL K H p xs/\atI xs i=some v/\Q v H
def h41 (K:WFr):R2:=fun x y H Q=>∃ p xs i v,x=.ref p/\y=.int i/\SqT K H p xs/\atI xs i=some v/\Q v H
def rIxS:R2:=fun x y H Q=>∃ z i c,x=.str z/\y=.int i/\z.length<=zL/\atI z.cps.toList i=some c/\Q (.str ⟨#[c]⟩) H
theorem a44:IxR X (rIxL X.K):=by
 try constructor
 intro value slice pins s σ H x y v u Q I rx ry h hs;obtain⟨p,xs,i,z,rfl,rfl,hq,he,q⟩:=h;cases rx;obtain⟨t,rfl⟩:=ry;obtain⟨its,r,pl,hz⟩:=I.list hq;obtain⟨j,h1,h2,h3,h4,h5⟩:=d72 he;obtain⟨w,ew,rw'⟩:=r.get h2;have hl:=r.length;have hn:=c62;have fin:EP X pins σ Q w s:=⟨z,H,I,rw',q⟩;by_cases h0:0<=i
 ·have hj:i.toNat=j:=by
   rw[seqIndex_of h0 h5] at h1;exact Ez h1
  exact item_listR pl.isList h0 (by lia) (by rw[hj];simpa using ew) fin hs
 ·have hj:(i+(its.toArray.size:Int)).toNat=j:=by
   rw[seqIndex_neg (by lia) h4] at h1;rw[lS,← hl];exact Ez h1
  exact subscriptTail_builtinR (x:=w) pl.isList.typeIs slot_list_getitem.lookup
   (wpAny_getItem_list_neg (Q:=fun r s'=>r=w/\EP X pins σ Q r s') pl.isList (by lia) (by rw[lS] <;> lia) (by lia) (by rw[hj];simpa using ew) ⟨rfl,fin⟩) hs
theorem a53:IxR X (h41 X.K):=by
 try constructor
 intro value slice pins s σ H x y v u Q I rx ry h hs;obtain⟨p,xs,i,z,rfl,rfl,hq,he,q⟩:=h;cases rx;obtain⟨t,rfl⟩:=ry;obtain⟨its,r,pl,hz⟩:=I.tuple hq;obtain⟨j,h1,h2,h3,h4,h5⟩:=d72 he;obtain⟨w,ew,rw'⟩:=r.get h2;have hl:=r.length;have hn:=c62;have fin:EP X pins σ Q w s:=⟨z,H,I,rw',q⟩;exact subscriptTail_builtinR (x:=w) pl.typeIs slot_tuple_getitem.lookup
  (getItem_tuple (j:=j) (Q:=fun r s'=>r=w/\EP X pins σ Q r s') pl (by lia) (by lia) (by rw[lS,← hl];exact h1) (by simpa using ew) ⟨rfl,fin⟩) hs
theorem e25:IxR X rIxS:=by
 try constructor
 intro value slice pins s σ H x y v u Q I rx ry h hs;obtain⟨z,i,c,rfl,rfl,hz,he,q⟩:=h;obtain⟨t,rfl⟩:=rx;obtain⟨t',rfl⟩:=ry;obtain⟨j,h1,h2,h3,h4,h5⟩:=d72 he;have hl:z.cps.toList.length=z.length:=by simp[Str.length]
 rw[hl] at h1 h4 h5;have hn:=c62;exact tail_any (typeIs_str s z t) slot_str_getitem.lookup (getItem_str (c:=c) (by
  have e1:decide (i < -(2 ^ 63:Int))=false:=Fq (by lia);have e2:decide (i ≥ 2 ^ 63)=false:=Fq (by lia);rw[e1,e2,Bool.or_false]) (by rw[h1];simpa using h2) ⟨.str ⟨#[c]⟩,H,I.tok _,⟨_,rfl⟩,q⟩) hs
theorem e78 (its:List Value) (n j:Nat) (u:Value):Obj.mapSeq (·.setIfInBounds j u) { cls:=.type "list", data:=.seq its.toArray n }={ cls:=.type "list", data:=.seq (its.set j u).toArray n }:=by
 simp[Obj.mapSeq]
theorem Inv.lst {pins:LAO}{σ:St}{H:Hp}{s:Sd}{p:Addr}{xs:List V}(I:Inv X pins σ H s)(h:H p=some (.lst xs)) :
 ∃(its:List Value) (n:Nat),Vals xs its/\s.heap.get? p=some { cls:=.type "list", data:=.seq its.toArray n }/\xs.length<=zL:=by
 obtain⟨z,its,n,r,e⟩:=I.hok p _ h;exact⟨its,n,r,e,z⟩
theorem Inv.lstUpd {pins:LAO}{σ:St}{H:Hp}{s:Sd}{p:Addr}{xs ys:List V}{its its':List Value}{n n':Nat}{f:Obj->Obj}(I:Inv X pins σ H s)(h:H p=some (.lst xs))
 (ho:s.heap.get? p=some { cls:=.type "list", data:=.seq its.toArray n })(hf:f { cls:=.type "list", data:=.seq its.toArray n }={ cls:=.type "list", data:=.seq its'.toArray n' })(r:Vals ys its')(hz:ys.length<=zL) (t:Nat) :
 Inv X pins σ (upd H p (.lst ys)) { s with heap:=s.heap.update p f,toks:=t }:=by
 have e:(s.heap.update p f).get? p=some { cls:=.type "list", data:=.seq its'.toArray n' }:=by
  rw[Heap.get?_update_self f ho (by rw[hf] <;> rfl),hf]
 refine I.write (x:=p) (e:=p) (by rw[h];trivial) (.inl rfl) (fun b u hb q=>(DJ _ _ (Ne.symm hb)).trans q) ⟨_,e⟩ ?_;exact⟨hz,its',n',r,e⟩
def rSetL:V->V->V->Hp->(Hp->Prop)->Prop:=fun o i v H Q=>∃ p xs k j,o=.ref p/\i=.int k/\H p=some (.lst xs)/\ixN xs.length k=some j/\Q (upd H p (.lst (xs.set j v)))
theorem b44:PSet X rSetL:=by
 try constructor
 intro pins s σ H o i v ov iv u Q I ro ri rv h;obtain⟨p,xs,k,j,rfl,rfl,hp,hj,q⟩:=h;cases ro;obtain⟨t,rfl⟩:=ri;obtain⟨its,n,r,ho,hz⟩:=I.lst hp;obtain⟨h1,h2,h3,h4⟩:=f49 hj;have hl:=r.length;have hn:=c62;have I':Inv X pins σ (upd H p (.lst (xs.set j v))) { s with heap:=s.heap.update p (Obj.mapSeq (·.setIfInBounds j u)) } :=
  I.lstUpd hp ho (e78 its n j u) (r.set rv j) (by rw[List.length_set];exact hz) s.toks
 by_cases h0:0<=k
 ·have hk:k.toNat=j:=by
   rw[seqIndex_of h0 h4] at h1;exact Ez h1
  exact PySem.W.ki_setAt ho h0 (by lia) (by rw[lS,← hl];exact h4) (by rw[hk];exact⟨_,I',q⟩)
 ·have hk:(k+(its.toArray.size:Int)).toNat=j:=by
   rw[seqIndex_neg (by lia) h3] at h1;rw[lS,← hl];exact Ez h1
  exact PySem.W.ki_setBack ho (by lia) (by rw[lS,← hl];exact h3) (by lia) (by rw[hk];exact⟨_,I',q⟩)
theorem d44 (lo hi:Option Int) (n:Nat):(sliceBounds lo hi none n).1=((HT.sIx n 0 lo:Nat):Int)/\(sliceBounds lo hi none n).2.1=((HT.sIx n n hi:Nat):Int)/\(sliceBounds lo hi none n).2.2=1:=by
 refine⟨?_,?_,rfl⟩
 ·cases lo with
  | none=>simp[sliceBounds,HT.sIx]
  | some i =>
   simp only[sliceBounds,HT.sIx,Option.getD_none,show(1:Int) > 0 by decide,if_true];by_cases h:i < 0
   ·simp only[h,if_true] <;> lia
   ·simp only[h,if_false] <;> lia
 ·cases hi with
  | none=>simp[sliceBounds,HT.sIx]
  | some i =>
   simp only[sliceBounds,HT.sIx,Option.getD_none,show(1:Int) > 0 by decide,if_true];by_cases h:i < 0
   ·simp only[h,if_true] <;> lia
   ·simp only[h,if_false] <;> lia
theorem d04 (its:List Value)(lo hi:Option Int):slicePick its.toArray lo hi none=((its.drop (HT.sIx its.length 0 lo)).take (HT.sIx its.length its.length hi-HT.sIx its.length 0 lo)).toArray:=by
 obtain⟨h1,h2,h3⟩:=d44 lo hi its.toArray.size;unfold slicePick;rw[h1,h2,h3];simp only[sliceRange_one,pick_run,lS] <;> rfl
def rSlL (K:WFr):V->Option Int->Option Int->Hp->VK->Prop:=fun x lo hi H Q=>∃ a xs,x=.ref a/\SqL K H a xs/\∀ p,H p=none->Q (.ref p) (upd H p (.lst (c24 xs lo hi)))
theorem b14:SlR X (rSlL X.K):=by
 try constructor
 intro pins s σ H x v vl vu lo hi sl Q I rx hs pl pu h;obtain⟨a,xs,rfl,hx,q⟩:=h;cases rx;obtain⟨its,r,ht,hz⟩:=I.list hx;have hlen:=r.length;refine⟨"list", _,slot_list_getitem.lookup,ht.isList.typeIs,?_⟩;refine wpAny_getItem_list_slice ht.isList hs pl pu .none (by simp) ?_ (by rw[lS] <;> lia);rw[d04,← hlen];refine⟨.ref s.heap.objs.size,_,I.laid (t':=s.toks) (o:=.lst (c24 xs lo hi)) (fun b ob q=>Aq _ q) (AZ _) ?_,rfl,q _ (I.hok.fresh (AZ _))⟩;exact⟨Fz (b23 xs lo hi) hz,_,0,(r.drop (HT.sIx xs.length 0 lo)).take (HT.sIx xs.length xs.length hi-HT.sIx xs.length 0 lo),Dx _ rfl⟩
def d14:V->Bool
 | .non=>true
 | .bl _=>true
 | .int _=>true
 | .str _=>true
 | _=>false
def eqV:V->V->Bool
 | .non,.non=>true
 | .bl a,.bl b=>a == b
 | .bl a,.int b=>(if a then 1 else 0) == b
 | .int a,.bl b=>a == (if b then 1 else 0)
 | .int a,.int b=>a == b
 | .str a,.str b=>a == b
 | _,_=>false
theorem i79 {A:Around}{s:Sd}{y x:V}{u v:Value}(ry:RelV y u)(rx:RelV x v)(fy:d14 y=true)(fx:d14 x=true):SeqAt.EqAt A s u v (eqV y x):=by
 cases y with
 | non =>
  cases ry;cases x with
  | non=>cases rx;exact SeqAt.EqAt.same _
  | bl b=>cases rx;exact SeqAt.EqAt.none_bool b
  | int b=>obtain⟨t,rfl⟩:=rx;exact SeqAt.EqAt.none_int b t
  | str b=>obtain⟨t,rfl⟩:=rx;exact SeqAt.EqAt.none_str b t
  | _=>exact absurd (show false=true from fx) Fj
 | bl a =>
  cases ry;cases x with
  | non=>cases rx;exact SeqAt.EqAt.bool_none a
  | bl b=>cases rx;exact SeqAt.EqAt.bool_bool a b
  | int b=>obtain⟨t,rfl⟩:=rx;exact SeqAt.EqAt.bool_int a b t
  | str b=>obtain⟨t,rfl⟩:=rx;exact SeqAt.EqAt.bool_str a b t
  | _=>exact absurd (show false=true from fx) Fj
 | int a =>
  obtain⟨t',rfl⟩:=ry;cases x with
  | non=>cases rx;exact SeqAt.EqAt.int_none a t'
  | bl b=>cases rx;exact SeqAt.EqAt.int_bool a t' b
  | int b=>obtain⟨t,rfl⟩:=rx;exact SeqAt.EqAt.int_int a t' b t
  | str b=>obtain⟨t,rfl⟩:=rx;exact SeqAt.EqAt.int_str a t' b t
  | _=>exact absurd (show false=true from fx) Fj
 | str a =>
  obtain⟨t',rfl⟩:=ry;cases x with
  | non=>cases rx;exact SeqAt.EqAt.str_none a t'
  | bl b=>cases rx;exact SeqAt.EqAt.str_bool a t' b
  | int b=>obtain⟨t,rfl⟩:=rx;exact SeqAt.EqAt.str_int a t' b t
  | str b=>obtain⟨t,rfl⟩:=rx;exact SeqAt.EqAt.str_str a t' b t
  | _=>exact absurd (show false=true from fx) Fj
 | _=>exact absurd (show false=true from fy) Fj
def eqU (x:V) (u:Value):Bool:=match u with
 | .none=>eqV .non x
 | .bool b=>eqV (.bl b) x
 | .int i _=>eqV (.int i) x
 | .str z _=>eqV (.str z) x
 | _=>false
theorem h27 {x y:V}{u:Value}(r:RelV y u)(f:d14 y=true):eqU x u=eqV y x:=by
 cases y with
 | non=>cases r;rfl
 | bl b=>cases r;rfl
 | int i=>obtain⟨t,rfl⟩:=r;rfl
 | str z=>obtain⟨t,rfl⟩:=r;rfl
 | _=>exact absurd (show false=true from f) Fj
theorem d60 {x:V}:∀ {xs:List V}{us:List Value},Vals xs us->xs.all d14=true->us.any (eqU x)=xs.any fun y=>eqV y x
 | _,_,.nil,_=>rfl
 | y::xs,u::us,.cons r t,f=>by
  rw[List.all_cons,Bool.and_eq_true] at f;rw[List.any_cons,List.any_cons,h27 r f.1,d60 t f.2]
theorem c99 {A:Around}{s:Sd}{x:V}{v:Value}(rx:RelV x v)(fx:d14 x=true):∀ {xs:List V}{us:List Value},Vals xs us->xs.all d14=true->∀ u∈us,SeqAt.EqAt A s u v (eqU x u)
 | _,_,.nil,_=>fun u hu=>by cases hu
 | y::xs,u::us,.cons r t,f=>fun u' hu=>by
  rw[List.all_cons,Bool.and_eq_true] at f;rcases BZ.mp hu with rfl | hu
  ·rw[h27 r f.1];exact i79 r rx f.1 fx
  ·exact c99 rx fx t f.2 u' hu
def inV (x:V) (xs:List V):Bool:=xs.any fun y=>eqV y x
def rIn (K:WFr) (neg:Bool):R2:=fun x y H Q=>∃ p xs,y=.ref p/\(SqL K H p xs∨SqT K H p xs)/\d14 x=true/\xs.all d14=true/\Q (.bl (if neg then !inV x xs else inV x xs)) H
theorem d56:OpR X (compareOp .NotIn) (rIn X.K true):=by
 try constructor
 intro pins s σ H x y v u Q I rx ry h;obtain⟨p,xs,rfl,hq,fx,fs,q⟩:=h;cases ry;rcases hq with hq | hq
 ·obtain⟨its,r,pl,hz⟩:=I.list hq;refine SeqAt.notIn_listAt (eqU x) pl.isList (fun w hw=>c99 rx fx r fs w (by simpa using hw)) ⟨.bl _,H,I,rfl,?_⟩;rw[show its.toArray.any (eqU x)=its.any (eqU x) by simp,d60 r fs];exact q
 ·obtain⟨its,r,pl,hz⟩:=I.tuple hq;refine SeqAt.notIn_tupleAt (eqU x) pl (fun w hw=>c99 rx fx r fs w (by simpa using hw)) ⟨.bl _,H,I,rfl,?_⟩;rw[show its.toArray.any (eqU x)=its.any (eqU x) by simp,d60 r fs];exact q
theorem a36:b25 X (.builtin "len") (fun xs H Q=>∃ p ys,xs=[.ref p]/\(SqL X.K H p ys∨SqT X.K H p ys)/\Q (.int ys.length) H):=by
 try constructor
 intro pins s σ H xs us Q I r h;obtain⟨p,ys,rfl,hq,q⟩:=h;obtain⟨u,rfl,rx⟩:=b86 r;cases rx;have hn:=c62;rcases hq with hq | hq
 ·obtain⟨its,r',pl,hz⟩:=I.list hq;have hlen:=r'.length;exact Calls.call_len_list pl.isList (by simp only[lS] <;> lia) ⟨.int ys.length,H,I.tok _,⟨s.toks+1,by rw[lS,hlen]⟩,q⟩
 ·obtain⟨its,r',pl,hz⟩:=I.tuple hq;have hlen:=r'.length;exact len_tuple pl (by simp only[lS] <;> lia) ⟨.int ys.length,H,I.tok _,⟨s.toks+1,by rw[lS,hlen]⟩,q⟩
theorem a51:b25 X (.builtin "len") (fun xs H Q=>∃ z,xs=[.str z]/\z.length<=zL/\Q (.int z.length) H):=by
 try constructor
 intro pins s σ H xs us Q I r h;obtain⟨z,rfl,hz,q⟩:=h;obtain⟨u,rfl,t,rfl⟩:=b86 r;have hn:=c62;exact len_str (by lia) ⟨.int z.length,H,I.tok _,⟨_,rfl⟩,q⟩
theorem d55:b25 X (.type "list") (fun xs H Q=>∃ p ys,xs=[.ref p]/\(SqL X.K H p ys∨SqT X.K H p ys)/\∀ l,H l=none->Q (.ref l) (upd H l (.lst ys))):=by
 try constructor
 intro pins s σ H xs us Q I r h;obtain⟨p,ys,rfl,hq,q⟩:=h;obtain⟨u,rfl,rx⟩:=b86 r;cases rx;have fin:∀(its:List Value),Vals ys its->ys.length<=zL->∀(h':Heap) (c':Nat),(∀ b o',s.heap.get? b=some o'->h'.get? b=some o') ->
  h'.get? s.heap.objs.size=some { cls:=.type "list", dict:=none,data:=.seq its.toArray c',slots:=#[] }->EP X pins σ Q (.ref s.heap.objs.size) { s with heap:=h' }:=fun its r' hz h' c' kp e =>
  ⟨.ref s.heap.objs.size,_,I.laid (t':=s.toks) kp (AZ _) (show ObjOk X.prog X.w _ h' _ (.lst ys) from⟨hz,its,c',r',e⟩),rfl,q _ (I.hok.fresh (AZ _))⟩
 rcases hq with hq | hq
 ·obtain⟨its,r',pl,hz⟩:=I.list hq;have hlen:=r'.length;obtain⟨o,ho,hc,n,hd⟩:=pl.isList;exact call_list_seq p (.inl rfl) ho hc hd (fun h' c' kp e=>fin its r' hz h' c' kp e) (by simp only[lS] <;> lia)
 ·obtain⟨its,r',pl,hz⟩:=I.tuple hq;have hlen:=r'.length;obtain⟨o,ho,hc,n,hd⟩:=pl;exact call_list_seq p (.inr rfl) ho hc hd (fun h' c' kp e=>fin its r' hz h' c' kp e) (by simp only[lS] <;> lia)
theorem a64:b25 X (.type "tuple") (fun xs H Q=>∃ p ys,xs=[.ref p]/\((SqL X.K H p ys/\∀ l,H l=none->Q (.ref l) (upd H l (.tup ys)))∨(SqT X.K H p ys/\Q (.ref p) H))):=by
 try constructor
 intro pins s σ H xs us Q I r h;obtain⟨p,ys,rfl,h⟩:=h;obtain⟨u,rfl,rx⟩:=b86 r;cases rx;rcases h with⟨hq,q⟩ | ⟨hq,q⟩
 ·obtain⟨its,r',pl,hz⟩:=I.list hq;have hlen:=r'.length;refine call_tuple_list pl.isList (fun h' kp=>?_) (by simp only[lS] <;> lia);have I1:Inv X pins σ H { s with heap:=h' }:=I.kept (t':=s.toks) kp
  have I2:Inv X pins σ (upd H h'.objs.size (.tup ys)) { s with heap:=h'.push { cls:=.type "tuple", data:=.seq its.toArray } } :=
   I1.laid (t':=s.toks) (fun b o e=>Aq _ e) (AZ _) (show ObjOk X.prog X.w _ _ _ (.tup ys) from⟨hz,its,r',IsTup.new _ _⟩)
  exact⟨.ref h'.objs.size,_,I2,rfl,q _ (I1.hok.fresh (AZ _))⟩
 ·obtain⟨its,r',pl,hz⟩:=I.tuple hq;exact call_tuple_same pl ⟨.ref p,H,I,rfl,q⟩
def tyV (K:WFr) (T:String) (x:V)(H:Hp):Prop:=match x with
 | .str _=>T = "str"
 | .int _=>T = "int"
 | .ref p=>(T = "list"/\∃ xs,SqL K H p xs)∨(T = "tuple"/\∃ o,K.lookup p=some o/\o.cls=.type "tuple"/\o.dict=none) ∨
  (T = "dict"/\((∃ kvs,H p=some (.dK kvs))∨∃ kvs,H p=some (.dT kvs)))∨(T = "set"/\∃ S n,H p=some (.set S n))
 | _=>False
theorem i25 {pins:LAO}{σ:St}{H:Hp}{s:Sd}{T:String}{x:V}{v:Value}(I:Inv X pins σ H s)(r:RelV x v)(ty:tyV X.K T x H) :
 s.TypeIs v T/\∀ a,v=.ref a->∃ ob,s.heap.get? a=some ob/\ob.dict=none:=by
 cases x with
 | str z =>
  obtain⟨t,rfl⟩:=r;cases (show T = "str" from ty);exact⟨typeIs_str s z t,fun _ e=>nomatch e⟩
 | int i =>
  obtain⟨t,rfl⟩:=r;cases (show T = "int" from ty);exact⟨typeIs_int s i t,fun _ e=>nomatch e⟩
 | ref p =>
  cases r;rcases ty with⟨rfl,xs,hq⟩ | ⟨rfl,o,hk,hc,hd⟩ | ⟨rfl,hk⟩ | ⟨rfl,S,n,hk⟩
  ·obtain⟨its,_,pl,_⟩:=I.list hq;refine⟨pl.isList.typeIs,fun a e=>?_⟩;cases e;obtain⟨o,n,e,c,hd,_⟩:=pl;exact⟨o,e,hd⟩
  ·refine⟨⟨o,I.kIn p o hk,hc⟩,fun a e=>?_⟩;cases e;exact⟨o,I.kIn _ o hk,hd⟩
  ·have z:∃ o,s.heap.get? p=some o/\o.ExactDict:=by
    rcases hk with⟨kvs,hk⟩ | ⟨kvs,hk⟩
    ·obtain⟨_,_,_,_,o,_,_,e,ex,_⟩:=I.hok p _ hk;exact⟨o,e,ex⟩
    ·obtain⟨_,_,_,_,o,_,_,e,ex,_⟩:=I.hok p _ hk;exact⟨o,e,ex⟩
   obtain⟨o,e,ex⟩:=z;refine⟨⟨o,e,ex.1⟩,fun a e2=>?_⟩;cases e2;exact⟨o,e,ex.2.1⟩
  ·obtain⟨o,_,_,_,e,ex,_⟩:=I.hok p _ hk;refine⟨⟨o,e,ex.1⟩,fun a e2=>?_⟩;cases e2;exact⟨o,e,ex.2.1⟩
 | _=>exact False.elim ty
def tBM (K:WFr) (T:String) (r:V->List V->Hp->VK->Prop)(to:TE)(t:TA):TE:=fun σ H Q=>to σ H fun x H1=>tyV K T x H1/\t σ H1 fun xs H2=>r x xs H2 Q
variable {o e:Expr}{es:List Expr}{to:TE}{t:TA}{name:Str}{apos cpos:Pos}{T id:String}{r:V->List V->Hp->VK->Prop}
theorem a77 (pa:PlainAttrs T)(slot:Slot T name id)(hty:typeOf (.builtin id)=pure (.type "method_descriptor"))(hm:MtR X id r)(ho:PE X o to)(ha:PA X (e::es) t)
 (hbase:attributeBase o name X.env (eval o X.env)=eval o X.env:=by rfl)
 (hfew:((backTo cpos (starEach (e::es) X.env)).all (fun x=>!x.1) && (backToKw cpos (keywordEach [] X.env)).all (fun x=>x.1.isSome)
   && decide ((e::es).length+([]:List Keyword).length+(if ([]:List Keyword).isEmpty then 0 else 1) < 30))=true:=by rfl)
 (hline:(apos.endLine == cpos.line)=true:=by rfl)(hs:starEach (e::es) X.env=(false,eval e X.env)::starEach es X.env:=by rfl)(hplain:(backTo cpos (starEach es X.env)).any (·.1)=false:=by rfl) :
 PE X (.Call (.Attribute o name apos) (e::es) [] cpos) (tBM X.K T r to t):=by
 try constructor
 intro pins s σ H Q I h;refine wpAny_Call_method_late hbase hfew hline rfl (thn (ho pins s σ H _ I h) fun v s1 ⟨x,H1,I1,r1,ty,q1⟩=>?_);obtain⟨h1,h2⟩:=i25 I1 r1 ty;refine⟨T,id,pa,slot,hty,h1,h2,?_⟩;have hA:=ha cpos pins s1 σ H1 _ I1 q1;rw[hs] at hA ⊢;refine Calls.callWith_builtin (by show(false||(backTo cpos (starEach es X.env)).any (·.1))=false;rw[hplain] <;> rfl) (Calls.evalArgs_plain ?_);exact thn hA fun us s2 ⟨vs,H2,I2,r2,q2⟩=>hm pins s2 σ H2 x vs v us Q I2 r1 r2 q2
/- xs.append(e),list.index on a module's tuple .. are MtR facts of 06m -/
end
end L2
namespace L2
open PySem PySem.Spec PyProof.Rows
def MtM (X:Cx) (id:String) (r:V->List V->Hp->VK->Prop):Prop :=
 ∀(pins:LAO)(s:Sd)(σ:St)(H:Hp) (x:V) (xs:List V) (v:Value) (us:List Value)(Q:VK),Inv X pins σ H s->RelV x v->Vals xs us->r x xs H Q ->
  wpAny (model X.prog X.w) X.A (call (.builtin id) (v::us)) (EP X pins σ Q) X.xe s
theorem Vals.one:∀ {x:V}{us:List Value},Vals [x] us->∃ u,us=[u]/\RelV x u
 | _,_,.cons r .nil=>⟨_,rfl,r⟩
theorem Vals.two:∀ {x y:V}{us:List Value},Vals [x,y] us->∃ u v,us=[u,v]/\RelV x u/\RelV y v
 | _,_,_,.cons r (.cons q .nil)=>⟨_,_,rfl,r,q⟩
theorem Vals.zero:∀ {us:List Value},Vals [] us->us=[]
 | _,.nil=>rfl
theorem Vals.dropLast {xs:List V}{us:List Value}(h:Vals xs us):Vals xs.dropLast us.dropLast:=by
 induction h with
 | nil=>exact .nil
 | cons r t ih =>
  cases t with
  | nil=>exact .nil
  | cons q t'=>exact .cons r ih
theorem Vals.eraseIdx:∀ {xs:List V}{us:List Value} (i:Nat),Vals xs us->Vals (xs.eraseIdx i) (us.eraseIdx i)
 | _,_,_,.nil=>.nil
 | _,_,0,.cons _ t=>t
 | _,_,i+1,.cons r t=>.cons r (Vals.eraseIdx i t)
theorem Vals.reverse {xs:List V}{us:List Value}(h:Vals xs us):Vals xs.reverse us.reverse:=by
 induction h with
 | nil=>exact .nil
 | cons r t ih=>rw[List.reverse_cons,List.reverse_cons];exact Vals.append ih (.cons r .nil)
theorem d42 {α:Type}:∀(l:List α) (i:Nat),(l.eraseIdx i).length<=l.length
 | [],_=>AZ _
 | _::_,0=>FJ _
 | _::r,i+1=>Nat.succ_le_succ (d42 r i)
section
variable {X:Cx}{pins:LAO}{σ:St}{H:Hp}{s:Sd}{l b:Addr}{xs ys zs:List V}
theorem Inv.lset {its its':List Value}{n:Nat}{f:Array Value->Array Value}{t':Nat}(I:Inv X pins σ H s)(hH:H l=some (.lst xs))
 (e:s.heap.get? l=some { cls:=.type "list", data:=.seq its.toArray n })(hf:f its.toArray=its'.toArray)(hv:Vals ys its')(hz:ys.length<=zL) :
 Inv X pins σ (upd H l (.lst ys)) { s with heap:=s.heap.update l (Obj.mapSeq f),toks:=t' }:=by
 have q:=PySem.IsL.update e f;rw[hf] at q;refine I.write (x:=l) (e:=l) (by rw[hH];exact trivial) (.inl rfl) (fun b' u hb hu=>(DJ s.heap (Obj.mapSeq f) (Ne.symm hb)).trans hu) ⟨_,q⟩ ?_;exact⟨hz,its',_,hv,q⟩
theorem Inv.lnew {its:List Value}{t':Nat}(I:Inv X pins σ H s)(hv:Vals ys its)(hz:ys.length<=zL) :
 Inv X pins σ (upd H s.heap.objs.size (.lst ys)) { s with heap:=s.heap.push { cls:=.type "list", data:=.seq its.toArray },toks:=t' } :=
 I.laid (fun _ _ q=>Aq _ q) (AZ _) ⟨hz,its,0,hv,Dx _ rfl⟩
theorem Inv.fresh (I:Inv X pins σ H s):H s.heap.objs.size=none:=I.hok.fresh (AZ _)
theorem Inv.lstM (I:Inv X pins σ H s)(hH:H l=some (.lst xs)):xs.length<=zL/\∃(its:List Value) (n:Nat),Vals xs its/\xs.length=its.length/\s.heap.get? l=some { cls:=.type "list", data:=.seq its.toArray n }:=by
 obtain⟨z,its,n,r,e⟩:=I.hok l _ hH;exact⟨z,its,n,r,r.length,e⟩
theorem e24 {n:Nat}(h:n<=zL):Builtin.List.listTooLong n=false:=by
 unfold Builtin.List.listTooLong;exact Fq (by lia)
end
section
variable {X:Cx}
def h86:V->List V->Hp->VK->Prop:=fun x vs H Q=>∃ l xs y,x=.ref l/\vs=[y]/\H l=some (.lst xs)/\xs.length < zL/\Q .non (upd H l (.lst (xs++[y])))
theorem a87:MtM X "list.append" h86:=by
 try constructor
 intro pins s σ H x vs v us Q I rx rv h;obtain⟨l,xs,y,rfl,rfl,hH,hz,q⟩:=h;cases rx;obtain⟨u,rfl,ru⟩:=rv.one;obtain⟨z,its,n,r,hl,e⟩:=I.lstM hH;refine call_meets F.slot_list_append ⟨_,e,rfl⟩ F.entry_list_append (F.args_list_append_2 _ _) (PySem.list_append l its.toArray n u (by rw[lS];lia)) ⟨e,?_⟩;refine⟨.non,_,I.lset (its':=its++[u]) hH e (by simp) (r.append (.cons ru .nil)) ?_,rfl,q⟩;rw[Bj,List.length_singleton];lia
def i54:V->List V->Hp->VK->Prop:=fun x vs H Q=>∃ l xs i k y,x=.ref l/\vs=[.int i]/\H l=some (.lst xs)/\-(2 ^ 63)<=i/\i < 2 ^ 63/\seqIndex? i xs.length=some k/\xs[k]?=some y/\Q y (upd H l (.lst (xs.eraseIdx k)))
theorem e20:MtM X "list.pop" i54:=by
 try constructor
 intro pins s σ H x vs v us Q I rx rv h;obtain⟨l,xs,i,k,y,rfl,rfl,hH,h1,h2,hk,hy,q⟩:=h;cases rx;obtain⟨u,rfl,ru⟩:=rv.one;obtain⟨t,rfl⟩:=ru;obtain⟨z,its,n,r,hl,e⟩:=I.lstM hH;obtain⟨w,hw,rw'⟩:=r.get hy;refine call_meets F.slot_list_pop ⟨_,e,rfl⟩ F.entry_list_pop (F.args_list_pop_2 _ _)
  (MeetsSeq.list_pop_at l its.toArray n i t k w (fitsIndex_both h1 h2) (by rw[lS,← hl];exact hk) (by rw[← Array.getElem?_toList];exact hw) (by rw[lS];lia)) ⟨e,?_⟩
 refine⟨y,_,I.lset (its':=its.eraseIdx k) hH e ?_ (r.eraseIdx k) ?_,rw',q⟩
 ·show its.toArray.eraseIdxIfInBounds k=(its.eraseIdx k).toArray;rw[List.eraseIdxIfInBounds_toArray]
 ·have:=d42 xs k
  lia
def rCat:R2:=fun x y H Q=>∃ l b xs zs,x=.ref l/\y=.ref b/\H l=some (.lst xs)/\H b=some (.lst zs)/\xs.length+zs.length<=zL/\∀ p,H p=none->Q (.ref p) (upd H p (.lst (xs++zs)))
theorem b60:OpR X (binaryOp .Add) rCat:=by
 try constructor
 intro pins s σ H x y v u Q I rx ry h;obtain⟨l,b,xs,zs,rfl,rfl,hH,hB,hz,q⟩:=h;cases rx;cases ry;obtain⟨z,its,n,r,hl,e⟩:=I.lstM hH;obtain⟨z2,its2,n2,r2,hl2,e2⟩:=I.lstM hB;refine PySem.P.add_list e e2 ?_ (by rw[lS,lS];omega);have ea:its.toArray++its2.toArray=(its++its2).toArray:=by simp
 rw[ea];exact⟨.ref _,_,I.lnew (t':=s.toks) (r.append r2) (by rw[Bj];omega),rfl,q _ I.fresh⟩
end
section
variable {prog:Pm}{w:World}{A:Around}{E:VSP}{s:Sd}
theorem f02 (its its2:List Value) (a c:Nat):its.toArray.extract 0 a++its2.toArray++its.toArray.extract c its.toArray.size=(its.take a++its2++its.drop c).toArray:=by
 apply Array.toList_inj.mp;first
  | (simp
     exact Dz (by simp))
  | simp[Dz]
  | simp
end
section
variable {X:Cx}
end
end L2
namespace L2
open PySem PySem.Spec PyProof.Rows
section
variable {κ:Type} [DecidableEq κ]
def a96 (kvs:List (κ×V))(k:κ):Option V:=(kvs.find? fun kv=>decide (kv.1=k)).map (·.2)
def b18 (kvs:List (κ×V))(k:κ) (v:V):List (κ×V) :=
 if (kvs.any fun kv=>decide (kv.1=k))=true then kvs.map (fun kv=>if kv.1=k then(kv.1,v) else kv) else kvs++[(k,v)]
theorem g80 {k:κ}:a96 ([]:List (κ×V)) k=none:=rfl
theorem a69 {p:κ×V}{r:List (κ×V)}{k:κ}(e:p.1=k):a96 (p::r) k=some p.2:=by simp[a96,List.find?_cons,e]
theorem a70 {p:κ×V}{r:List (κ×V)}{k:κ}(e:¬ p.1=k):a96 (p::r) k=a96 r k:=by simp[a96,List.find?_cons,e]
theorem b48 (k:κ):∀ kvs:List (κ×V),(kvs.any fun kv=>decide (kv.1=k))=(a96 kvs k).isSome
 | []=>rfl
 | p::r=>by
  rw[List.any_cons];by_cases e:p.1=k
  ·simp only[a69 e,Az e,Bool.true_or,Option.isSome_some]
  ·rw[a70 e,Fq e,Bool.false_or];exact b48 k r
theorem e36 (k j:κ) (y:V):∀ kvs:List (κ×V),a96 (kvs.map fun kv=>if kv.1=k then(kv.1,y) else kv) j=(a96 kvs j).map fun x=>if j=k then y else x
 | []=>rfl
 | p::r=>by
  have ih:=e36 k j y r;rw[Cz];by_cases h:p.1=k
  ·rw[if_pos h];by_cases e:p.1=j
   ·rw[a69 (p:=(p.1,y)) e,a69 e,Option.map_some,if_pos (e.symm.trans h)]
   ·rw[a70 (p:=(p.1,y)) e,a70 e,ih]
  ·rw[if_neg h];by_cases e:p.1=j
   ·rw[a69 (p:=p) e,a69 e,Option.map_some,if_neg (fun z=>h (e.trans z))]
   ·rw[a70 (p:=p) e,a70 e,ih]
theorem d36 (k j:κ) (y:V):∀ kvs:List (κ×V),a96 kvs k=none->a96 (kvs++[(k,y)]) j=if j=k then some y else a96 kvs j
 | [],_=>by
  by_cases e:k=j
  ·rw[if_pos e.symm];exact a69 (p:=(k,y)) e
  ·rw[if_neg (fun z=>e z.symm)];exact a70 (p:=(k,y)) e
 | p::r,hn=>by
  rw[List.cons_append];have hk:¬ p.1=k:=fun z=>by rw[a69 z] at hn;cases hn
  rw[a70 hk] at hn;have ih:=d36 k j y r hn;by_cases e:p.1=j
  ·rw[a69 e,a69 e,if_neg (fun z=>hk (e.trans z))]
  ·rw[a70 e,a70 e,ih]
theorem b77 (kvs:List (κ×V))(k j:κ) (y:V):a96 (b18 kvs k y) j=if j=k then some y else a96 kvs j:=by
 unfold b18;by_cases a:(kvs.any fun kv=>decide (kv.1=k))=true
 ·rw[if_pos a,e36];rw[b48] at a;by_cases e:j=k
  ·obtain⟨x,hx⟩:=Option.isSome_iff_exists.mp a;rw[if_pos e,e,hx,Option.map_some,if_pos rfl]
  ·rw[if_neg e];cases a96 kvs j with
   | none=>rfl
   | some x=>rw[Option.map_some,if_neg e]
 ·rw[if_neg a];refine d36 k j y kvs ?_;rw[b48] at a;cases q:a96 kvs k with
  | none=>rfl
  | some x=>rw[q] at a;exact(a rfl).elim
theorem a92 (kvs:List (κ×V))(k:κ) (v:V):(b18 kvs k v).length<=kvs.length+1:=by
 unfold b18;split
 ·rw[Aj];lia
 ·rw[Bj,Cq,List.length_nil];lia
theorem RelO.isSome_eq {o:Option V}{u:Option Value}(r:RelO o u):o.isSome=u.isSome:=by
 cases o with
 | none=>cases u with
  | none=>rfl
  | some _=>exact(show False from r).elim
 | some _=>cases u with
  | none=>exact(show False from r).elim
  | some _=>rfl
theorem KV.val {kvs:List (κ×V)}{vs:List (κ×Value)}(r:KV kvs vs)(k:κ):RelO (a96 kvs k) (valueAt vs k):=by
 unfold KV at r;induction r with
 | nil=>exact True.intro
 | @cons p q ps qs h t ih =>
  obtain⟨h1,h2⟩:=h;by_cases e:p.1=k
  ·have e':q.1=k:=h1.symm.trans e;have b:valueAt (q::qs) k=some q.2:=by simp[valueAt,List.find?_cons,e']
   rw[a69 e,b];exact h2
  ·have e':¬ q.1=k:=fun z=>e (h1.trans z);have b:valueAt (q::qs) k=valueAt qs k:=by simp[valueAt,List.find?_cons,e']
   rw[a70 e,b];exact ih
theorem KV.any {kvs:List (κ×V)}{vs:List (κ×Value)}(r:KV kvs vs)(k:κ):(kvs.any fun kv=>decide (kv.1=k))=vs.any fun kv=>decide (kv.1=k):=by
 unfold KV at r;induction r with
 | nil=>rfl
 | cons h t ih=>rw[List.any_cons,List.any_cons,ih,h.1]
theorem KV.repl {kvs:List (κ×V)}{vs:List (κ×Value)}(r:KV kvs vs)(k:κ){y:V}{u:Value}(ry:RelV y u) :
 KV (kvs.map fun kv=>if kv.1=k then(kv.1,y) else kv) (vs.map fun kv=>if kv.1=k then(kv.1,u) else kv):=by
 unfold KV at r ⊢;induction r with
 | nil=>exact .nil
 | @cons p q ps qs h t ih =>
  rw[Cz,Cz];refine .cons ?_ ih;obtain⟨h1,h2⟩:=h;by_cases e:p.1=k
  ·rw[if_pos e,if_pos (h1.symm.trans e)];exact⟨h1,ry⟩
  ·rw[if_neg e,if_neg (fun z=>e (h1.trans z))];exact⟨h1,h2⟩
theorem KV.put {kvs:List (κ×V)}{vs:List (κ×Value)}(r:KV kvs vs)(k:κ){y:V}{u:Value}(ry:RelV y u):KV (b18 kvs k y) (stored vs k u):=by
 unfold b18 stored;rw[r.any k];by_cases e:(vs.any fun kv=>decide (kv.1=k))=true
 ·rw[if_pos e,if_pos e];exact r.repl k ry
 ·rw[if_neg e,if_neg e];exact Paired.snoc r ⟨rfl,ry⟩
theorem KV.length {kvs:List (κ×V)}{vs:List (κ×Value)}(r:KV kvs vs):kvs.length=vs.length:=Paired.length r
end
theorem f69 {P:Pm}{w:World}{k:Key}{u:Value}(r:RelV (kV k) u):(a85 P w).is k u=true:=by
 cases k with
 | inl i=>obtain⟨t,e⟩:=(show ∃ t,u=Value.int i t from r);subst e;exact d68 P w i t
 | inr x=>obtain⟨t,e⟩:=(show ∃ t,u=Value.str x t from r);subst e;exact d75 P w x t
theorem d13 {P:Pm}{w:World}:∀ {ks:List Key}{us:List Value},Vals (ks.map kV) us->ItemsAre (a85 P w) ks us
 | [],_,r=>by rw[List.map_nil] at r;cases r;exact .nil
 | k::ks,_,r=>by
  rw[Cz] at r;cases r with
  | cons h t=>exact .cons (f69 h) (d13 t)
abbrev KT (H:Hp):List (List Key×V)->List (List Key×Addr×Value)->Prop:=Paired fun p q=>p.1=q.1/\H q.2.1=some (.tup (p.1.map kV))/\RelV p.2 q.2.2
theorem KT.val {H:Hp}{kvs:List (List Key×V)}{xs:List (List Key×Addr×Value)}(r:KT H kvs xs) (k:List Key):RelO (a96 kvs k) ((atKey xs k).map (·.2)):=by
 induction r with
 | nil=>exact True.intro
 | @cons p q ps qs h t ih =>
  obtain⟨h1,_,h2⟩:=h;by_cases e:p.1=k
  ·have e':q.1=k:=h1.symm.trans e;have b:atKey (q::qs) k=some q.2:=by simp[atKey,List.find?_cons,e']
   rw[a69 e,b];exact h2
  ·have e':¬ q.1=k:=fun z=>e (h1.trans z);have b:atKey (q::qs) k=atKey qs k:=by simp[atKey,List.find?_cons,e']
   rw[a70 e,b];exact ih
theorem KT.repl {H:Hp}{kvs:List (List Key×V)}{xs:List (List Key×Addr×Value)}(r:KT H kvs xs) (k:List Key){y:V}{u:Value}(ry:RelV y u) :
 KT H (kvs.map fun kv=>if kv.1=k then(kv.1,y) else kv) (xs.map (putAt k u)):=by
 induction r with
 | nil=>exact .nil
 | @cons p q ps qs h t ih =>
  rw[Cz,Cz];refine .cons ?_ ih;obtain⟨h1,h2,h3⟩:=h;unfold putAt;by_cases e:p.1=k
  ·rw[if_pos e,if_pos (h1.symm.trans e)];exact⟨h1,h2,ry⟩
  ·rw[if_neg e,if_neg (fun z=>e (h1.trans z))];exact⟨h1,h2,h3⟩
theorem KT.put {H:Hp}{kvs:List (List Key×V)}{xs:List (List Key×Addr×Value)}(r:KT H kvs xs) (k:List Key){b:Addr}{y:V}{u:Value}(hb:H b=some (.tup (k.map kV)))(ry:RelV y u) :
 KT H (b18 kvs k y) (storedH xs k b u):=by
 have e:(kvs.any fun kv=>decide (kv.1=k))=(atKey xs k).isSome:=by
  rw[b48,(r.val k).isSome_eq,Option.isSome_map]
 unfold b18 storedH;rw[e];by_cases q:(atKey xs k).isSome=true
 ·rw[if_pos q,if_pos q];exact r.repl k ry
 ·rw[if_neg q,if_neg q];exact Paired.snoc r ⟨rfl,hb,ry⟩
theorem KT.keeps {H H':Hp}{kvs:List (List Key×V)}{xs:List (List Key×Addr×Value)}(r:KT H kvs xs)(ht:∀ b ys,H b=some (.tup ys)->H' b=some (.tup ys)):KT H' kvs xs :=
 Paired.mapP r fun _ _ z=>⟨z.1,ht _ _ z.2.1,z.2.2⟩
section
variable {P:Pm}{w:World}{H:Hp}{h:Heap}{a:Addr}
theorem i48 {u:HO}(ok:HOk P w H h)(e:Rd H a u):ObjOk P w H h a u:=e.ok ok
theorem f96 {kvs:List (Key×V)}(ok:HOk P w H h)(e:Rd H a (.dK kvs)):kvs.length<=zL/\(a == sysModules)=false/\∃ vs,KV kvs vs/\h.DictOf (a85 P w) a vs :=
 show ObjOk P w H h a (.dK kvs) from i48 ok e
theorem i23 {kvs:List (Key×V)}(ok:HOk P w H h)(e:H a=some (.dK kvs)):kvs.length<=zL/\(a == sysModules)=false/\∃ vs,KV kvs vs/\h.DictOf (a85 P w) a vs:=f96 ok (.inl e)
theorem c43 {ks:List Key}(ok:HOk P w H h)(e:H a=some (.tup (ks.map kV))):(tupleKind (a85 P w)).is h ks a:=by
 obtain⟨_,its,r,o,h1,h2,n,h3⟩:=(show ObjOk P w H h a (.tup (ks.map kV)) from ok a _ e);exact⟨o,its.toArray,n,h1,h2,h3,by simpa using d13 r⟩
theorem f75 {kvs:List (List Key×V)}(ok:HOk P w H h)(e:Rd H a (.dT kvs)):kvs.length<=zL/\(a == sysModules)=false /\
 ∃ xs,KT H kvs xs/\h.DictOfH (tupleKind (a85 P w)) a xs:=by
 obtain⟨z,y,xs,r,o,es,ep,h1,h2,h3,h4,h5⟩:=(show ObjOk P w H h a (.dT kvs) from i48 ok e);refine⟨z,y,xs,r,o,es,ep,h1,h2,h3,h4,fun x hx=>?_,h5⟩;have all:∀ {l:List (List Key×V)}{m:List (List Key×Addr×Value)},KT H l m->∀ x∈m,(tupleKind (a85 P w)).is h x.1 x.2.1:=by
  intro l m q;induction q with
  | nil=>intro x hx;exact nomatch hx
  | @cons p q ps qs hq t ih =>
   intro x hx;rcases BZ.mp hx with e | hx
   ·subst e;exact c43 ok (by rw[← hq.1];exact hq.2.1)
   ·exact ih x hx
 exact all r x hx
theorem g44 {kvs:List (List Key×V)}(ok:HOk P w H h)(e:H a=some (.dT kvs)):kvs.length<=zL/\(a == sysModules)=false /\
 ∃ xs,KT H kvs xs/\h.DictOfH (tupleKind (a85 P w)) a xs:=f75 ok (.inl e)
end
def DGet (H:Hp)(a:Addr) (y:V)(r:Option V):Prop :=
 (∃ kvs k,Rd H a (.dK kvs)/\y=kV k/\r=a96 kvs k)∨∃ kvs k b,Rd H a (.dT kvs)/\y=.ref b/\H b=some (.tup (k.map kV))/\r=a96 kvs k
def DPut (H:Hp)(a:Addr) (y v:V)(H':Hp):Prop :=
 (∃ kvs k,H a=some (.dK kvs)/\y=kV k/\kvs.length < zL/\H'=upd H a (.dK (b18 kvs k v))) ∨
 ∃ kvs k b,H a=some (.dT kvs)/\y=.ref b/\H b=some (.tup (k.map kV))/\kvs.length < zL/\H'=upd H a (.dT (b18 kvs k v))
theorem DGet.k {H:Hp}{a:Addr}{kvs:List (Key×V)}{k:Key}(e:H a=some (.dK kvs)):DGet H a (kV k) (a96 kvs k):=.inl ⟨kvs,k,.inl e,rfl,rfl⟩
theorem DGet.t {H:Hp}{a b:Addr}{kvs:List (List Key×V)}{k:List Key}(e:H a=some (.dT kvs))(eb:H b=some (.tup (k.map kV))):DGet H a (.ref b) (a96 kvs k):=.inr ⟨kvs,k,b,.inl e,rfl,eb,rfl⟩
theorem DPut.k {H:Hp}{a:Addr}{kvs:List (Key×V)}{k:Key}{v:V}(e:H a=some (.dK kvs))(hl:kvs.length < zL):DPut H a (kV k) v (upd H a (.dK (b18 kvs k v))):=.inl ⟨kvs,k,e,rfl,hl,rfl⟩
theorem DPut.t {H:Hp}{a b:Addr}{kvs:List (List Key×V)}{k:List Key}{v:V}(e:H a=some (.dT kvs))(eb:H b=some (.tup (k.map kV)))(hl:kvs.length < zL) :
 DPut H a (.ref b) v (upd H a (.dT (b18 kvs k v))):=.inr ⟨kvs,k,b,e,rfl,eb,hl,rfl⟩
section
variable {X:Cx}{pins:LAO}{σ:St}{H:Hp}{s:Sd}{a:Addr}{y v:V}{u r:Value}{o:Option V}{A:Around}{E:VSP}
theorem Inv.big (I:Inv X pins σ H s):sysModules < s.heap.objs.size:=by
 have h:mG < s.heap.objs.size:=(I.mod.glob.keeps I.bk).lt;exact Nat.lt_trans (by decide) h
theorem f55 {Q:VSP}(hu:A.units+1 < cLine)(I:Inv X pins σ H s)(g:DGet H a y (some v))(ry:RelV y u)(h:∀ w' s',Inv X pins σ H s'->RelV v w'->Q w' s') :
 wpAny (model X.prog X.w) A (getItem (.ref a) u) Q E s:=by
 rcases g with⟨kvs,k,e,ey,l⟩ | ⟨kvs,k,b,e,ey,eb,l⟩
 ·subst ey;obtain⟨z,hd,vs,rel,dd⟩:=f96 I.hok e;obtain⟨w',hw,rw'⟩:=RelO.some_of (v:=v) (o:=valueAt vs k) (by rw[l];exact rel.val k);exact wpAny_getItem_of (f69 ry) dd.mapOf hw (h w' _ (I.tok _) rw')
 ·subst ey;cases (show u=Value.ref b from ry);obtain⟨z,hd,xs,rel,dd⟩:=f75 I.hok e;obtain⟨w',hw,rw'⟩:=RelO.some_of (v:=v) (o:=(atKey xs k).map (·.2)) (by rw[l];exact rel.val k);obtain⟨p,hp,hp2⟩:=Option.map_eq_some_iff.mp hw;refine wpAny_getItem_heap (tupleKind_room_in1 hu) (c43 I.hok eb) dd hp ?_;rw[hp2];exact h w' _ (I.tok _) rw'
theorem d_in {Q:VSP}(hu:A.units+1 < cLine)(I:Inv X pins σ H s)(g:DGet H a y o)(ry:RelV y u)(h:∀ s',Inv X pins σ H s'->Q (.bool o.isSome) s') :
 wpAny (model X.prog X.w) A (compareOp .In u (.ref a)) Q E s:=by
 rcases g with⟨kvs,k,e,ey,l⟩ | ⟨kvs,k,b,e,ey,eb,l⟩
 ·subst ey;obtain⟨z,hd,vs,rel,dd⟩:=f96 I.hok e;refine wpAny_in_of (f69 ry) hd dd.mapOf ?_;rw[← (rel.val k).isSome_eq,← l];exact h _ (I.tok _)
 ·subst ey;cases (show u=Value.ref b from ry);obtain⟨z,hd,xs,rel,dd⟩:=f75 I.hok e;refine wpAny_in_heap (tupleKind_room_in1 hu) (c43 I.hok eb) hd dd ?_;have q:=(rel.val k).isSome_eq;rw[Option.isSome_map] at q;rw[← q,← l];exact h _ (I.tok _)
theorem h80 {Q:VSP}(hu:A.units+1 < cLine)(I:Inv X pins σ H s)(g:DGet H a y o)(ry:RelV y u)(h:∀ s',Inv X pins σ H s'->Q (.bool (!o.isSome)) s') :
 wpAny (model X.prog X.w) A (compareOp .NotIn u (.ref a)) Q E s:=by
 rcases g with⟨kvs,k,e,ey,l⟩ | ⟨kvs,k,b,e,ey,eb,l⟩
 ·subst ey;obtain⟨z,hd,vs,rel,dd⟩:=f96 I.hok e;refine wpAny_notIn_of (f69 ry) hd dd.mapOf ?_;rw[← (rel.val k).isSome_eq,← l];exact h _ (I.tok _)
 ·subst ey;cases (show u=Value.ref b from ry);obtain⟨z,hd,xs,rel,dd⟩:=f75 I.hok e;refine wpAny_notIn_heap (tupleKind_room_in1 hu) (c43 I.hok eb) hd dd ?_;have q:=(rel.val k).isSome_eq;rw[Option.isSome_map] at q;rw[← q,← l];exact h _ (I.tok _)
theorem c90 {h':Heap}{t':Nat}{ob:HO}(I:Inv X pins σ H s)(mu:Mut (H a))(hs:Heap.SameBut a s.heap h')(he:∃ q,h'.get? a=some q)(new:ObjOk X.prog X.w (upd H a ob) h' a ob) :
 Inv X pins σ (upd H a ob) { s with heap:=h',toks:=t' } :=
 I.write (x:=a) (e:=a) mu (.inl rfl) (fun b q hb z=>(hs.2 b hb).trans z) he new
theorem i80 {P:Pm}{w:World}{H':Hp}{h':Heap}{kvs:List (Key×V)}{vs:List (Key×Value)}(z:kvs.length<=zL)(hd:(a == sysModules)=false)(rel:KV kvs vs)(dd:h'.DictOf (a85 P w) a vs) :
 ObjOk P w H' h' a (.dK kvs):=⟨z,hd,vs,rel,dd⟩
theorem g25 {H':Hp}{Q:Unit->Sd->Prop}(hu:A.units+1 < cLine)(I:Inv X pins σ H s)(g:DPut H a y v H')(ry:RelV y u)(rv:RelV v r)(h:∀ s',Inv X pins σ H' s'->Q () s') :
 wpAny (model X.prog X.w) A (setItem (.ref a) u r) Q E s:=by
 rcases g with⟨kvs,k,e,ey,l,eH⟩ | ⟨kvs,k,b,e,ey,eb,l,eH⟩
 ·subst ey eH;obtain⟨z,hd,vs,rel,dd⟩:=i23 I.hok e;have hz:vs.length<=zL:=by rw[← rel.length];exact z
  have hl:(b18 kvs k v).length<=zL:=by have:=a92 kvs k v;lia
  refine wpAny_setItem_pairs (hsz:=hz) (f69 ry) dd fun h' dd' hs=>h _ ?_;have he:∃ q,h'.get? a=some q:=let ⟨q,_,_,hq,_⟩:=dd';⟨q,hq⟩
  exact c90 I (by rw[e];exact True.intro) hs he (i80 hl hd (rel.put k rv) dd')
 ·subst ey eH;cases (show u=Value.ref b from ry);obtain⟨z,hd,xs,rel,dd⟩:=g44 I.hok e;have hz:xs.length<=zL:=by rw[← Paired.length rel];exact z
  have hl:(b18 kvs k v).length<=zL:=by have:=a92 kvs k v;lia
  refine wpAny_setItem_heap (hsz:=hz) (tupleKind_room_in1 hu) (c43 I.hok eb) dd fun h' dd' hs=>h _ ?_;obtain⟨q,es,ep,hq,h2,h3,h4,_,h5⟩:=dd';refine c90 I (by rw[e];exact True.intro) hs ⟨q,hq⟩ ⟨hl,hd,_,(rel.put k eb rv).keeps fun c ys ec=>?_,q,es,ep,hq,h2,h3,h4,h5⟩;rw[a07 (b06 ec e (fun z=>nomatch z))];exact ec
end
section
variable {X:Cx}{pins:LAO}{σ:St}{H:Hp}{s:Sd}{a:Addr}{kvs:List (Key×V)}{k:Key}{u:Value}{A:Around}{E:VSP}
end
def NoSl (i:Expr):Prop:=∀ ov iv,subscripted i false ov iv=operate [ov,iv] (getItem ov iv)
theorem h85 {prog:Pm}{w:World}{A:Around}{E:VSP}{s:Sd}{env:Env}{value slice:Expr}{pos:Pos}{T id:String}{Q:VSP}
 (hl:typeLookup (.type T) "__getitem__" = pure (some (.builtin id)))(hs:NoSl slice)
 (h:wpAny (model prog w) A (eval value env) (fun o s₁=>wpAny (model prog w) A (eval slice env) (fun i s₂=>s₂.TypeIs o T/\wpAny (model prog w) A (getItem o i) Q E s₂) E s₁) E s) :
 wpAny (model prog w) A (eval (.Subscript value slice pos) env) Q E s:=by
 refine Subscript_ (Dq h (fun o s₁ h₁=>Dq h₁ (fun i s₂ h₂=>?_) fun _ _ x=>x) fun _ _ x=>x);obtain⟨hT,h₂⟩:=h₂;unfold subscriptTail;refine AQ ?_;rw[getitemInPython_of_ne hT.not_modules];refine AQ (wpAny_specialOf hT hl ?_);have fin:wpAny (model prog w) A (subscripted slice false o i) (fun r s₃=>wpAny (model prog w) A (letTemporaryGo value o r >>= fun _=>pure r) Q E s₃) E s₂:=by
  rw[hs o i];exact wpAny_operating (Dq h₂ (fun r s₃ h₃=>AQ (wpAny_letTemporaryGo (AX h₃))) fun _ _ x=>x)
 first
  | exact AX (AQ fin)
  | exact AQ (AX (AQ fin))
  | exact AQ fin
theorem d65 {X:Cx}{pins:LAO}{σ:St}{H:Hp}{s:Sd}{a:Addr}{y:V}{o:Option V}(I:Inv X pins σ H s)(g:DGet H a y o):s.TypeIs (.ref a) "dict" := by
 rcases g with⟨kvs,k,e,_,_⟩ | ⟨kvs,k,b,e,_,_,_⟩
 ·obtain⟨_,_,vs,_,dd⟩:=f96 I.hok e;exact dd.typeIs
 ·obtain⟨_,_,xs,_,dd⟩:=f75 I.hok e;exact dd.typeIs
def tDGet (td ty:TE):TE:=fun σ H Q=>td σ H fun x H1=>ty σ H1 fun y H2=>∃ a v,x=.ref a/\DGet H2 a y (some v)/\Q v H2
def tDIn (ty td:TE):TE:=fun σ H Q=>ty σ H fun y H1=>td σ H1 fun x H2=>∃ a o,x=.ref a/\DGet H2 a y o/\Q (.bl o.isSome) H2
def i04 (ty td:TE):TE:=fun σ H Q=>ty σ H fun y H1=>td σ H1 fun x H2=>∃ a o,x=.ref a/\DGet H2 a y o/\Q (.bl (!o.isSome)) H2
def sDPut (td ty tv:TE):TS:=fun D σ H=>tv σ H fun v H1=>td σ H1 fun x H2=>ty σ H2 fun y H3=>∃ a H4,x=.ref a/\DPut H3 a y v H4/\D.nx σ H4
section
variable {X:Cx}{o i e value:Expr}{pos pos' tpos:Pos}{td ty tv:TE}
theorem h50 (hu:X.A.units+1 < cLine)(ho:PE X o td)(hi:PE X i ty)(hs:NoSl i:=by exact fun _ _=>rfl):PE X (.Subscript o i pos) (tDGet td ty):=by
 try constructor
 intro pins s σ H Q I h;refine h85 PySem.F.slot_dict_getitem.lookup hs (thn (ho pins s σ H _ I h) fun u s1 ⟨x,H1,I1,rx,q1⟩=>thn (hi pins s1 σ H1 _ I1 q1) fun iv s2 ⟨y,H2,I2,ry,a,v,ex,g,q2⟩=>?_);subst ex;obtain rfl:u=Value.ref a:=rx;exact⟨d65 I2 g,f55 hu I2 g ry fun w' s3 I3 rw'=>⟨v,H2,I3,rw',q2⟩⟩
theorem i22 (hu:X.A.units+1 < cLine)(hi:PE X i ty)(ho:PE X o td):PC X .In i o (tDIn ty td):=by
 try constructor
 intro pins s σ H Q I h;refine thn (hi pins s σ H _ I h) fun iv s1 ⟨y,H1,I1,ry,q1⟩=>thn (ho pins s1 σ H1 _ I1 q1) fun u s2 ⟨x,H2,I2,rx,a,ov,ex,g,q2⟩=>?_;subst ex;obtain rfl:u=Value.ref a:=rx;exact d_in hu I2 g ry fun s3 I3=>⟨.bl ov.isSome,H2,I3,rfl,q2⟩
theorem b78 (hu:X.A.units+1 < cLine)(hi:PE X i ty)(ho:PE X o td):PC X .NotIn i o (i04 ty td):=by
 try constructor
 intro pins s σ H Q I h;refine thn (hi pins s σ H _ I h) fun iv s1 ⟨y,H1,I1,ry,q1⟩=>thn (ho pins s1 σ H1 _ I1 q1) fun u s2 ⟨x,H2,I2,rx,a,ov,ex,g,q2⟩=>?_;subst ex;obtain rfl:u=Value.ref a:=rx;exact h80 hu I2 g ry fun s3 I3=>⟨.bl (!ov.isSome),H2,I3,rfl,q2⟩
theorem b13 (hu:X.A.units+1 < cLine)(ho:PE X o td)(hi:PE X i ty)(hv:PE X value tv)(hs:swapsWith value (some (.Subscript o i pos')) pos.line X.env=pure false) :
 PS X (.Assign [.Subscript o i pos'] value pos) (sDPut td ty tv):=by
 try constructor
 intro pins s σ H D I h;refine wpAny_Assign_Subscript (thn (hv pins s σ H _ I h) fun r s1 ⟨v,H1,I1,rv,q1⟩=>thn (ho pins s1 σ H1 _ I1 q1) fun u s2 ⟨x,H2,I2,rx,q2⟩=>thn (hi pins s2 σ H2 _ I2 q2) fun iv s3 ⟨y,H3,I3,ry,a,H4,ex,g,q3⟩=>?_) hs;subst ex;obtain rfl:u=Value.ref a:=rx;exact g25 hu I3 g ry rv fun s4 I4=>⟨σ,H4,I4,q3⟩
end
theorem h08 {P:Pm}{w:World}{H:Hp}(h:Heap)(hb:sysModules < h.objs.size):ObjOk P w H (h.push { cls:=.type "dict", data:=.dict #[] }) h.objs.size (.dK []) :=
 ⟨Fx _,beq_eq_false_iff_ne.mpr (Ne.symm (nLQ hb)),[],.nil,Heap.DictOf.new h⟩
theorem e53 {P:Pm}{w:World}{H:Hp}(h:Heap)(hb:sysModules < h.objs.size):ObjOk P w H (h.push { cls:=.type "dict", data:=.dict #[] }) h.objs.size (.dT []) :=
 ⟨Fx _,beq_eq_false_iff_ne.mpr (Ne.symm (nLQ hb)),[],.nil,_,#[],0,Dx _ rfl,⟨rfl,rfl,rfl⟩,rfl,rfl,List.nodup_nil⟩
def i78:TE:=fun _ H Q=>∀ p,H p=none->Q (.ref p) (upd H p (.dK []))
def i55:TE:=fun _ H Q=>∀ p,H p=none->Q (.ref p) (upd H p (.dT []))
section
variable {X:Cx}{pos:Pos}
theorem g89:PE X (.Dict [] [] pos) i78:=.mk fun pins s σ H Q I h =>
 wpAny_Dict_empty ⟨.ref s.heap.objs.size,_,I.laid (a:=s.heap.objs.size) (o:=.dK []) (t':=s.toks) (fun _ _ q=>Aq _ q) (AZ _) (h08 s.heap I.big),rfl,h _ (I.hok.fresh (AZ _))⟩
theorem e21:PE X (.Dict [] [] pos) i55:=.mk fun pins s σ H Q I h =>
 wpAny_Dict_empty ⟨.ref s.heap.objs.size,_,I.laid (a:=s.heap.objs.size) (o:=.dT []) (t':=s.toks) (fun _ _ q=>Aq _ q) (AZ _) (e53 s.heap I.big),rfl,h _ (I.hok.fresh (AZ _))⟩
end
def f90:List (TE×TE)->St->Hp->(List (V×V)->Hp->Prop)->Prop
 | [],_,H,Q=>Q [] H
 | (tk,tv)::r,σ,H,Q=>tk σ H fun x H1=>tv σ H1 fun y H2=>f90 r σ H2 fun ps H3=>Q ((x,y)::ps) H3
abbrev VV:List (V×V)->List (Value×Value)->Prop:=Paired fun p q=>RelV p.1 q.1/\RelV p.2 q.2
structure PPs (X:Cx)(pos:Pos) (keys:List (Option Expr)) (values:List Expr) (trs:List (TE×TE)):Prop where
 run :
  ∀(pins:LAO)(s:Sd)(σ:St)(H:Hp) (Q:List (V×V)->Hp->Prop),Inv X pins σ H s->f90 trs σ H Q ->
   wpAny (model X.prog X.w) X.A (evalPairs (pairTrees keys values X.env pos)) (fun vs s'=>∃ ps H',Inv X pins σ H' s'/\VV ps vs/\Q ps H') X.xe s
instance {X:Cx}{pos:Pos}{keys:List (Option Expr)}{values:List Expr}{trs:List (TE×TE)}:CoeFun (PPs X pos keys values trs) (fun _ =>
 ∀(pins:LAO)(s:Sd)(σ:St)(H:Hp) (Q:List (V×V)->Hp->Prop),Inv X pins σ H s->f90 trs σ H Q ->
  wpAny (model X.prog X.w) X.A (evalPairs (pairTrees keys values X.env pos)) (fun vs s'=>∃ ps H',Inv X pins σ H' s'/\VV ps vs/\Q ps H') X.xe s
 ):=⟨PPs.run⟩
structure M2 (X:Cx)(o:Expr) (m:Str)(apos:Pos)(e f:Expr)(cpos:Pos):Prop where
 base:attributeBase o m X.env (eval o X.env)=eval o X.env
 few:((backTo cpos (starEach [e,f] X.env)).all (fun x=>!x.1) && (backToKw cpos (keywordEach [] X.env)).all (fun x=>x.1.isSome)
  && decide (([e,f]:List Expr).length+([]:List Keyword).length+(if ([]:List Keyword).isEmpty then 0 else 1) < 30))=true
 line:(apos.endLine == cpos.line)=true
 trees:backTo cpos (starEach [e,f] X.env)=[(false,eval e X.env),(false,eval f X.env)]
section
variable {X:Cx}{pins:LAO}{σ:St}{H:Hp}{s:Sd}{a:Addr}{y d:V}{u r:Value}{o:Option V}{A:Around}{E:VSP}
end
section
variable {X:Cx}{o e f:Expr}{apos cpos:Pos}{td ty tx:TE}
end
section
variable {X:Cx}{pins:LAO}{σ:St}{H:Hp}{s:Sd}{a:Addr}{kvs:List (Key×V)}{A:Around}{E:VSP}
end
section
variable {X:Cx}{pins:LAO}{σ:St}{H:Hp}{s:Sd}{a:Addr}{y:V}{u:Value}{A:Around}{E:VSP}
end
end L2
namespace Att
open PySem PySem.W PySem.Calls PyProof.Rows
theorem c46 {P:Params}{h:Heap}:∀(ns:List Int) (vs:List Value),WellAll P h vs (ns.map WData.int)->IntsAre vs ns:=by
 intro ns;induction ns with
 | nil =>
  intro vs w;rw[List.map_nil] at w;cases w;exact .nil
 | cons n ns ih =>
  intro vs w;rw[Cz] at w;cases w with
  | cons a b =>
   cases a;exact .cons _ _ (ih _ b)
theorem f97 {l:OpenLaw}{n:Nat}(hn:l.most=some n){P:Params}{h:Heap}{args:List WData}{vals:List Value}
 (hpre:l.row.toRowW.claim.pre args=true)(hwl:WellAll P h vals args) :
 ∃ a vs ns,vals=[Value.ref a]/\args=[WData.list (ns.map WData.int)]/\h.get? a=some { cls:=.type "list", data:=.seq vs.toArray }/\IntsAre vs ns/\ns.length<=n:=by
 have hsh:WShape.hasAll [] args [.list .int]=true:=(pre_splitW hpre).1;have hc:l.pre.holds [] { args:=args }=true:=(pre_splitW hpre).2;obtain⟨d,r,rfl,h1,h2⟩:=hasAllW_cons hsh;obtain rfl:=hasAllW_nil h2;obtain⟨xs,rfl,h3⟩:=hasW_list h1;obtain⟨ns,rfl⟩:=items_int h3;have hlen:ns.length<=n:=by
  unfold OpenLaw.pre at hc;have h4:(WTm.not (.lt (.lit (.int (n:Int))) (.len (.arg 0)))).holds [] { args:=[.list (ns.map .int)] }=true:=by
   have h4:=(holds_andW hc).1;rw[hn] at h4;exact h4
  have h5:=condW_of h4 (w_not (w_lt w_lit (w_len_list (w_arg rfl))));rw[Aj] at h5;refine Nat.le_of_not_lt fun q=>?_;have q':(n:Int) < ((ns.length:Nat):Int):=by omega
  first
   | (rw[Az q'] at h5;exact absurd h5 (by decide))
   | (simp at h5;omega)
 cases hwl with
 | cons w1 w2 =>
  cases w2;cases w1 with
  | list ho hall=>exact⟨_,_,ns,rfl,rfl,ho,c46 ns _ hall,hlen⟩
theorem f08 (l:OpenLaw) (args:List WData):l.row.toRowW.claim.post args (.bool true) args=true :=
 postW_of (r:=l.row.toRowW) (X:=(true == true))
  (show WShape.has [] (.bool true) .bool=true by first | rfl | decide | simp[WShape.has,WShape.arms,WShape.armsAll])
  (show(WTm.eq .res (.lit (.bool true))).value [] { args:=args,res:=some (.bool true),after:=args }=some (.bool (true == true)) from w_eq_bool (w_res rfl) w_lit) rfl
theorem attach_call {l:OpenLaw}{n:Nat}{q:Pm}{loose:List Str}{XP:(Str->Option Value)->Heap->Prop}{YP:World->Heap->Prop}{d:DefRec}
 (hn:l.most=some n)(hdf:d.params.defaults=[])
 (call:∀(w:World)(s₀ s₁:Sd) (mg mb:Str->Option Value)(fa:Addr)(o:Obj) (pm cd doc:Value)(a:Addr) (vs:List Value) (ns:List Int),
   Ground q loose [] XP w s₀ mg mb s₁.heap->YP w s₁.heap ->
   s₁.heap.get? fa=some o->o.data=.func (docDef d.name d.params d.body d.scope pm cd doc)->s₁.heap.CodeRec cd d.name->mg d.name=some (.ref fa) ->
   s₁.heap.get? a=some { cls:=.type "list", data:=.seq vs.toArray }->IntsAre vs ns->ns.length<=n->s₁.gens=#[] ->
   codeAny (model l.prog w) callerA (.call (.ref fa) ⟨[.ref a],[]⟩) (fun r s'=>r=.ok (.ret (.bool true))/\OldK s₁.heap s'.heap/\s'.os=s₁.os/\AllBare s'.gens) s₁) :
 WalkO q loose XP YP l.row.toRowW d [] (fun f vs=>PySem.call f vs):=by
 intro w s₀ s₁ mg mb G Y fa o pm cd doc dV kV ho hd hcd hD hmg hg args vals as hpre hlay hrd hwl hlo;obtain rfl:dV=.none:=Dflts.none hD hdf;obtain rfl:kV=.none:=Dflts.noKw hD;obtain⟨a,vs,ns,rfl,rfl,hobj,hints,hlen⟩:=f97 hn hpre hwl;refine enter_call (codeAny_mono (call w s₀ s₁ mg mb fa o pm cd doc a vs ns G Y ho (fd_plain hd) hcd hmg hobj hints hlen hg) fun r s' hq=>?_);obtain⟨rfl,h2,h3,h4⟩:=hq;exact⟨.inl ⟨.bool true,.bool true,[],rfl,fun _=>rfl,.bool true,f08 l _,fun _=>⟨List.Pairwise.nil,fun _ hm=>(nomatch hm)⟩⟩,h2,h3,h4⟩
section
variable {prog:Pm}{w:World}{A:Around}{E:VSP}{s:Sd}{K:Frag}
def ledger (h:Heap)(L d:Addr):LAO:=(List.range h.objs.size).filterMap fun a=>if a=L∨a=d then none else(h.get? a).map fun o=>(a,o)
end
end Att
namespace L2
open PySem PySem.Spec PyProof.Rows
theorem d22:∀ {vs:List Value}{ns:List Int},IntsAre vs ns->Vals (ns.map V.int) vs
 | _,_,.nil=>.nil
 | _,_,.cons n t h=>.cons ⟨t,rfl⟩ (d22 h)
def Only (H:Hp):Prop:=∀ b,H b=none∨∃ o xs,H b=some (.frz o (.lst xs))
theorem g57 {P:Pm}{w:World}{K:WFr}{mg mb:Str->Option Value}{CX:CXT}{k:Nat}{fa a:Addr}{fd:FD}{x:Str}{sp:Sp}{s₁:Sd}{vs:List Value}{ns:List Int}
 (KX:K.In s₁.heap)(hns:s₁.heap.Ns mG mg)(hb:s₁.heap.Ns builtinsNs mb)(hbb:∀ x:Str,x ≠ "__name__"->mb x=bootBuiltins x)(hlim:s₁.heap.NoLimit)(hg:s₁.gens=#[])
 (ha:s₁.heap.get? a=some { cls:=.type "list", data:=.seq vs.toArray })(hi:IntsAre vs ns)(hl:ns.length<=zL)(hr:Room k callerA)
 (F:∀ base:Heap,K.In base->base.Ns mG mg->FnOk P w K mg base CX k fa fd [x] sp)(hbind:∀(s:Sd) (u:Value),BindsTo s fd ⟨[u],[]⟩ [(x,u)])
 (hsp:∀ H:Hp,Only H->SqL K H a (ns.map V.int)->sp [.ref a] H (fun v _=>v=.bl true) fun _ _ _=>False)
 (hCX:∀ H e s',CX [] H s₁ (fun _ _ _=>False) e s'->False) :
 codeAny (model P w) callerA (.call (.ref fa) ⟨[.ref a],[]⟩) (fun r s'=>r=.ok (.ret (.bool true))/\OldK s₁.heap s'.heap/\s'.os=s₁.os/\AllBare s'.gens) s₁:=by
 have rv:=d22 hi;have lenV:=hi.length;have core:∀ H:Hp,Only H->SqL K H a (ns.map V.int)->HOk P w H s₁.heap->(∀ b,H b≠none->b=a)->(H a≠none->K.lookup a=none) ->
  codeAny (model P w) callerA (.call (.ref fa) ⟨[.ref a],[]⟩) (fun r s'=>r=.ok (.ret (.bool true))/\OldK s₁.heap s'.heap/\s'.os=s₁.os/\AllBare s'.gens) s₁:=by
  intro H hO hS hok hA hK;have base_of:∀ {b:Addr}{o:Obj},s₁.heap.get? b=some o->H b=none->(g84 s₁.heap H).get? b=some o:=fun e n=>g43 e n;have noA:∀ {b:Addr}{o:Obj}{es:Array DictEntry}{ep:Nat},s₁.heap.get? b=some o->o.data=.dict es ep->H b=none:=fun {b o es ep} e d=>by
   cases q:H b with
   | none=>rfl
   | some u =>
    have e':b=a:=hA b (by rw[q];simp);subst e';rw[ha] at e;cases e;have d':Data.seq vs.toArray _=Data.dict es ep:=d;cases d'
  have nsK:∀ {b:Addr}{m:Str->Option Value},s₁.heap.Ns b m->(g84 s₁.heap H).Ns b m:=fun {b m} ⟨o,es,ep,e,d,r⟩=>⟨o,es,ep,base_of e (noA e d),d,r⟩;have hKb:K.In (g84 s₁.heap H):=fun b o e=>base_of (KX b o e) (by
   cases q:H b with
   | none=>rfl
   | some u =>
    have e':b=a:=hA b (by rw[q];simp);subst e';rw[hK (by rw[q];simp)] at e;cases e)
  have hM:Mod K mg (g84 s₁.heap H):=⟨hKb,nsK hns,⟨mb,nsK hb,hbb⟩,let ⟨mc,h1,h2⟩:=hlim;⟨mc,nsK h1,h2⟩⟩
  have e0:Env0 P w K mg (g84 s₁.heap H) callerA [] s₁ H:=⟨rfl,hM,fun b o e=>h93 e,Nat.le_of_eq (f70 _ _),trivial,fun b hb=>absurd (show b∈([]:List Addr) from hb) (by simp),hok,.of_eq hg⟩;refine codeAny_mono ((F _ hKb (nsK hns)).run callerA [] s₁ H ⟨[.ref a],[]⟩ [.ref a] [.ref a] _ _ hr e0 (hbind s₁ (.ref a)) (.cons rfl .nil) (hsp H hO hS)) fun r s' h=>?_;cases r with
  | error e=>exact(hCX H e s' h).elim
  | ok fl =>
   cases fl with
   | next=>exact False.elim h
   | brk=>exact False.elim h
   | cont=>exact False.elim h
   | ret u =>
    obtain⟨v,H',os,bare,un,hok',r',q⟩:=h;have q':v=.bl true:=q;subst q';obtain rfl:u=Value.bool true:=r';refine⟨rfl,OldK.of_keep fun b o e=>?_,os,bare⟩;cases q:H b with
    | none=>exact un.keep b o e q (by intro z;exact absurd (show b∈([]:List Addr) from z) (by simp)) (by simp)
    | some u =>
     rcases hO b with z | ⟨ob,xs,z⟩
     ·rw[q] at z;cases z
     ·have z2:=un.frzs b ob _ z;obtain⟨e1,_⟩:=hok b _ z;obtain⟨e2,_⟩:=hok' b _ z2;rw[e] at e1;cases e1;exact e2
 cases hk:K.lookup a with
 | some o =>
  have e:=KX a o hk;rw[ha] at e;cases e;refine core (fun _=>none) (fun _=>.inl rfl) (.inr ⟨_,vs.toArray,_,hk,rfl,rfl,rfl,by rw[lS,lenV];exact hl,by simpa using rv⟩) (fun b u z=>by have z':(none:Option HO)=some u:=z;cases z') (fun b z=>absurd rfl z) fun z=>absurd rfl z
 | none =>
  refine core (fun b=>if b=a then some (.frz { cls:=.type "list", data:=.seq vs.toArray } (.lst (ns.map V.int))) else none) (fun b=>?_) (.inl (.inr ⟨{ cls:=.type "list", data:=.seq vs.toArray },if_pos rfl⟩)) (fun b u z=>?_) (fun b z=>?_) fun _=>hk
  ·by_cases hb:b=a
   ·exact .inr ⟨_,_,if_pos hb⟩
   ·exact .inl (if_neg hb)
  ·by_cases hb:b=a
   ·have z':=(if_pos hb).symm.trans z;cases z';subst hb;exact⟨ha,by rw[Aj];exact hl,vs,_,rv,ha⟩
   ·have z':=(if_neg hb).symm.trans z;cases z'
  ·by_cases hb:b=a
   ·exact hb
   ·exact absurd (if_neg hb) z
end L2
namespace L2
open PySem PySem.Spec PyProof.Rows
theorem walk_of {l:PySem.W.OpenLaw}{n k:Nat}{q:Pm}{loose:List Str}{XP:(Str->Option Value)->Heap->Prop}{YP:World->Heap->Prop}{d:DefRec}{K:Params->WFr}{CX:World->CXT}{sp:World->Sp}{x:Str}
 (hn:l.most=some n)(hn2:n<=zL)(hdf:d.params.defaults=[])(hr:Room k callerA)
 (hY:∀(w:World)(h:Heap),YP w h->(K w.params).In h)
 (F:∀(w:World) (mg:Str->Option Value)(fa:Addr)(h:Heap),(K w.params).In h->h.Ns mG mg->mg d.name=some (.ref fa) ->
   ∃ fd:FD,(∀(s:Sd) (u:Value),BindsTo s fd ⟨[u],[]⟩ [(x,u)]) /\
    ∀ base:Heap,(K w.params).In base->base.Ns mG mg->FnOk l.prog w (K w.params) mg base (CX w) k fa fd [x] (sp w))
 (hsp:∀(w:World)(H:Hp)(a:Addr) (ns:List Int),ns.length<=n->Only H->SqL (K w.params) H a (ns.map V.int)->sp w [.ref a] H (fun v _=>v=.bl true) fun _ _ _=>False)
 (hCX:∀(w:World)(H:Hp)(s:Sd) (e:Value)(s':Sd),CX w [] H s (fun _ _ _=>False) e s'->False) :
 PySem.W.WalkO q loose XP YP l.row.toRowW d [] (fun f vs=>PySem.call f vs):=by
 refine Att.attach_call hn hdf fun w s₀ s₁ mg mb fa o pm cd doc a vs ns G Y ho hd hcd hmg hobj hints hlen hg=>?_;have KX:=hY w _ Y;obtain⟨fd,hb,hF⟩:=F w mg fa _ KX G.T.g hmg;exact g57 KX G.T.g G.T.b G.T.builtins G.T.nolimit hg hobj hints (Fz hlen hn2) hr hF hb (fun H hO hS=>hsp w H a ns hlen hO hS) fun H e s'=>hCX w H s₁ e s'
end L2
namespace L2
open PySem PySem.Spec PyProof.Rows
def b70 (s:Stmt) (j:Nat):Stmt:=match s with
 | .ClassDef _ _ _ body _ _ _ _ _ _ _=>body.getD j (.Pass ⟨0,0,0,0⟩)
 | _=>.Pass ⟨0,0,0,0⟩
def b28 (s:Stmt):Arguments:=match s with
 | .FunctionDef _ a _ _ _ _ _ _ _ _=>a
 | _=>{ posonlyargs:=[],args:=[],vararg:=none,kwonlyargs:=[],kw_defaults:=[],kwarg:=none,defaults:=[] }
def b16 (s:Stmt):List Stmt:=match s with
 | .FunctionDef _ _ b _ _ _ _ _ _ _=>b
 | _=>[]
def a41 (s:Stmt):Scope:=match s with
 | .FunctionDef _ _ _ _ _ _ sc _ _ _=>sc
 | _=>{ kind:=.function,names:=[],isGenerator:=false,isCoroutine:=false }
abbrev CX0:CXT:=fun _ _ _ _ _ _=>False
abbrev E0:XK:=fun _ _ _=>False
theorem f99 {X:Cx}:c48 CX0 X E0:=fun _ _ _ _ _ _ _ h=>h.elim
structure Fun (K:WFr) (x qual:Str)(st:Stmt)(f:Addr)(fd:FD):Prop where
 ex:∃(oc:Value)(od:Option Addr) (kV doc pm:Value)(an:Option Addr) (cdv ct:Value)(osl:Array (Option Value)),
  fd=PySem.W.fnOf x qual (b28 st) (b16 st) (a41 st) .none kV doc pm an cdv ct/\K.lookup f=some ⟨oc,od,.func fd,osl⟩/\PySem.W.codeIn K cdv qual=true
 kp:PySem.W.keepIn K (.ref f)=true
section
variable {P:Pm}{w:World}{K:WFr}{mg:Str->Option Value}{base:Heap}
theorem Fun.ok {x qual:Str}{st:Stmt}{f:Addr}{fd:FD}{N ps:List Str}{k:Nat}{sp:Sp}(F:Fun K x qual st f fd)(S:FnScope N ps (a41 st))(len:∀ vs H Q E,sp vs H Q E->vs.length=ps.length)
 (hbody:∀(cdv:Value)(A:Around) (outer:List Env)(s:Sd)(H:Hp) (vs:List V)(Q:VK)(E:XK),Room k (A.deeper (envOfC qual (a41 st) s.heap.objs.size f cdv))->sp vs H Q E ->
   ∃ t,PSs (e16 CX0 P w K mg base N qual (a41 st) f cdv A outer s H E).nox (b16 st) t/\t { nx:=fun _ H'=>Q .non H',rt:=Q } (start N vs) H):FnOk P w K mg base CX0 (k+1) f fd ps sp:=by
 obtain⟨oc,od,kV,doc,pm,an,cdv,ct,osl,rfl,lk,hcd⟩:=F.ex;refine i53 lk hcd S len fun A outer s H vs Q E hr hsp=>?_;obtain⟨t,h,q⟩:=hbody cdv A outer s H vs Q E hr hsp;exact⟨t,h.nox,q⟩
theorem Fun.binds {x qual:Str}{st:Stmt}{f:Addr}{fd:FD}{ps:List Str}(F:Fun K x qual st f fd)
 (h:∀(kV doc pm:Value)(an:Option Addr) (cdv ct:Value) (us:List Value),us.length=ps.length->bindArgs (PySem.W.fnOf x qual (b28 st) (b16 st) (a41 st) .none kV doc pm an cdv ct) ⟨us,[]⟩=pure (ps.zip us)):Binds K fd ps []:=by
 obtain⟨oc,od,kV,doc,pm,an,cdv,ct,osl,rfl,lk,hcd⟩:=F.ex;exact .all (h kV doc pm an cdv ct)
theorem h46 {x qual:Str}{st:Stmt}{f:Addr}{oc:Value}{od an:Option Addr}{osl:Array (Option Value)}{kV doc pm cdv ct:Value}(l:K.lookup f=some ⟨oc,od,.func (PySem.W.fnOf x qual (b28 st) (b16 st) (a41 st) .none kV doc pm an cdv ct),osl⟩)
 (c:PySem.W.codeIn K cdv qual=true)(k:PySem.W.keepIn K (.ref f)=true):Fun K x qual st f (PySem.W.fnOf x qual (b28 st) (b16 st) (a41 st) .none kV doc pm an cdv ct):=⟨⟨oc,od,kV,doc,pm,an,cdv,ct,osl,rfl,l,c⟩,k⟩
end
theorem c23 {A:Around}{k:Nat}(hr:Room k A):A.units+1 < cLine:=Nat.lt_of_le_of_lt (Nat.add_le_add_left (by decide:1<=64) _) hr.units
section
variable {X:Cx}
theorem pv (i:Nat){x:Str}{pos:Pos}(hN:X.N[i]?=some x:=by rfl)(hv:Vis X.env.scope x:=by first | exact Or.inl rfl | exact Or.inr (Or.inl rfl) | exact Or.inr (Or.inr rfl))(hd:(x == ("__debug__" : Str))=false:=by decide)
 (hcd:(x == ("__classdict__" : Str))=false:=by decide):PE X (.Name x pos) (tVar i):=i71 hN hv hd hcd
end
theorem a76 {A B:Prop}(h:B):if false=true then A else B:=by
 rw[if_neg Fj];exact h
theorem a78 {A B:Prop}(h:A):if true=true then A else B:=by
 rw[if_pos rfl];exact h
theorem a50 {c A B:Prop} [Decidable c] (h1:c->A)(h2:¬ c->B):if c then A else B:=by
 by_cases h:c
 ·rw[if_pos h];exact h1 h
 ·rw[if_neg h];exact h2 h
theorem e97 {c A B:Prop} [Decidable c] (hc:c)(h:B):if (!decide c)=true then A else B:=by
 rw[Az hc];exact a76 h
def Same (H H':Hp):Prop:=∀ b o,H b=some o->H' b=some o
theorem Same.refl (H:Hp):Same H H:=fun _ _ h=>h
theorem Same.trans {H H1 H2:Hp}(a:Same H H1)(b:Same H1 H2):Same H H2:=fun c o h=>b c o (a c o h)
theorem Same.free {H H':Hp}(e:Same H H'){l:Addr}(h:H' l=Option.none):H l=Option.none:=by
 cases q:H l with
 | none=>rfl
 | some o =>
  rw[e l o q] at h;cases h
theorem Same.seq {K:WFr}{H H':Hp}{a:Addr}{xs:List V}(e:Same H H')(h:SqL K H a xs):SqL K H' a xs:=by
 rcases h with(h | ⟨o,h⟩) | h
 ·exact .inl (.inl (e _ _ h))
 ·exact .inl (.inr ⟨o,e _ _ h⟩)
 ·exact .inr h
end L2
namespace L2
open PySem PySem.Spec PyProof.Rows
section
variable {X:Cx}
end
section
variable {κ:Type} [DecidableEq κ]
end
end L2
namespace L2
open PySem PySem.Spec PyProof.Rows
theorem b03 {env:Env}:∀ {names:List (Str×NameKind)}{x:Str}{k:NameKind},(∀ q∈names,q.2≠.cell) ->
 (names.map fun(n,k)=>if (k == NameKind.free && env.scope.kind == .function && env.kindOf n == some .cell) then(n,NameKind.cell) else(n,k)).lookup x=some k->(k=.cell∨k=.free) ->
 names.lookup x=some .free
 | [],_,_,_,h,_=>by simp at h
 | (n,k0)::r,x,k,hc,h,hk=>by
  have ih:=@b03 env r x k (fun q hq=>hc q (BQ _ hq));have hn0:k0≠.cell:=hc (n,k0) BX;rw[Cz] at h;cases hx:x == n with
  | true =>
   rw[List.lookup_cons,hx];by_cases hcnd:(k0 == NameKind.free && env.scope.kind == .function && env.kindOf n == some .cell)=true
   ·have hf:k0=.free:=by
     have:=(Bool.and_eq_true _ _ ▸ (Bool.and_eq_true _ _ ▸ hcnd).1).1
     simpa using this
    simp[hf]
   ·simp only[if_neg hcnd,List.lookup_cons,hx] at h;have e:k0=k:=by simpa using h
    subst e;rcases hk with z | z
    ·exact absurd z hn0
    ·simp[z]
  | false =>
   rw[List.lookup_cons,hx];by_cases hcnd:(k0 == NameKind.free && env.scope.kind == .function && env.kindOf n == some .cell)=true
   ·simp only[if_pos hcnd,List.lookup_cons,hx] at h;exact ih h hk
   ·simp only[if_neg hcnd,List.lookup_cons,hx] at h;exact ih h hk
def d46 (env:Env):List (Str×NameKind)->List (Str×Addr)->List (Str×Addr)
 | [],acc=>acc
 | (n,k)::r,acc=>if k == .free then d46 env r ((n,(env.cells.lookup n).getD 0)::acc) else d46 env r acc
theorem b99 {env:Env}{f:Str×NameKind->List (Str×Addr)->Sem (ForInStep (List (Str×Addr)))}
 (hf:∀ n k acc,f (n,k) acc=if (k == NameKind.free)=true then(cellOf env n >>= fun c=>pure (.yield ((n,c)::acc))) else pure (.yield acc)) :
 ∀(names:List (Str×NameKind)) (acc:List (Str×Addr)),(∀ q∈names,q.2=.free->∃ c,env.cells.lookup q.1=some c)->forIn names acc f=pure (d46 env names acc)
 | [],acc,_=>rfl
 | (n,k)::r,acc,h=>by
  rw[List.forIn_cons,hf];have hr:∀ q∈r,q.2=.free->∃ c,env.cells.lookup q.1=some c:=fun q hq=>h q (BQ _ hq);by_cases hk:(k == NameKind.free)=true
  ·obtain⟨c,hc⟩:=h (n,k) BX (by simpa using hk);rw[if_pos hk];have e:cellOf env n=pure c:=by unfold cellOf;rw[hc]
   rw[e,pure_bind,pure_bind];show forIn r ((n,c)::acc) f=_;rw[b99 hf r _ hr];show _=pure (if (k == NameKind.free)=true then d46 env r ((n,(env.cells.lookup n).getD 0)::acc) else d46 env r acc);rw[if_pos hk,hc];rfl
  ·rw[if_neg hk,pure_bind];show forIn r acc f=_;rw[b99 hf r _ hr];show _=pure (if (k == NameKind.free)=true then _ else d46 env r acc);rw[if_neg hk]
theorem c05 {scope:Scope}{env:Env}(h:∀ q∈scope.names,q.2=.free->∃ c,env.cells.lookup q.1=some c):closureFor scope env=pure (d46 env scope.names []):=by
 unfold closureFor;dsimp only;rw[b99 (env:=env) (fun n k acc=>rfl) scope.names [] h];first | rfl | simp
theorem d01 {env:Env}:∀(names:List (Str×NameKind)) (acc:List (Str×Addr)),(∀ p∈acc,env.cells.lookup p.1=some p.2)->(∀ q∈names,q.2=.free->∃ c,env.cells.lookup q.1=some c) ->
 ∀ p∈d46 env names acc,env.cells.lookup p.1=some p.2
 | [],acc,ha,_,p,hp=>ha p hp
 | (n,k)::r,acc,ha,hn,p,hp=>by
  have hr:∀ q∈r,q.2=.free->∃ c,env.cells.lookup q.1=some c:=fun q hq=>hn q (BQ _ hq);unfold d46 at hp;by_cases hk:(k == NameKind.free)=true
  ·rw[if_pos hk] at hp;obtain⟨c,hc⟩:=hn (n,k) BX (by simpa using hk);refine d01 r _ (fun q hq=>?_) hr p hp;rcases BZ.mp hq with e | hq
   ·subst e;show env.cells.lookup n=some ((env.cells.lookup n).getD 0);rw[hc];rfl
   ·exact ha q hq
  ·rw[if_neg hk] at hp;exact d01 r _ ha hr p hp
theorem c91 {env:Env}{y:Str}:∀(names:List (Str×NameKind)) (acc:List (Str×Addr)),((y,NameKind.free)∈names∨∃ c,(y,c)∈acc)->∃ c,(y,c)∈d46 env names acc
 | [],acc,h=>by
  rcases h with h | h
  ·exact nomatch h
  ·exact h
 | (n,k)::r,acc,h=>by
  unfold d46;by_cases hk:(k == NameKind.free)=true
  ·rw[if_pos hk];refine c91 r _ ?_;rcases h with h | ⟨c,h⟩
   ·rcases BZ.mp h with e | h
    ·cases e;exact .inr ⟨_,BX⟩
    ·exact .inl h
   ·exact .inr ⟨c,BQ _ h⟩
  ·rw[if_neg hk];refine c91 r _ ?_;rcases h with h | h
   ·rcases BZ.mp h with e | h
    ·cases e;exact absurd rfl hk
    ·exact .inl h
   ·exact .inr h
theorem b84 {α:Type}{y:Str}{c:α}:∀ {l:List (Str×α)},(y,c)∈l->∃ c',l.lookup y=some c'
 | [],h=>nomatch h
 | (n,d)::r,h=>by
  rw[List.lookup_cons];cases hx:y == n with
  | true=>exact⟨d,rfl⟩
  | false =>
   rcases BZ.mp h with e | h
   ·cases e;simp at hx
   ·exact b84 h
structure CompScopeG (osc:Scope) (oN:List Str)(scope:Scope) (x:Str) (ok:Str->Prop):Prop where
 kind:scope.kind=.function
 nocell:∀ q∈scope.names,q.2≠.cell
 names:∀ q∈scope.names,q.2=.local->scope.names.lookup q.1=some .local
 loc:scope.names.lookup x=some .local
 cap:∀ q∈scope.names,q.2=.free->osc.names.lookup q.1=some .cell∨osc.names.lookup q.1=some .free
 own:∀ q∈scope.names,q.2=.local->ok q.1∨q.1∉oN
abbrev b04 (osc:Scope) (oN:List Str)(scope:Scope) (x:Str):Prop:=CompScopeG osc oN scope x (fun y=>y=x)
def a48 (X:Cx)(scope:Scope) (N:List Str)(C:Addr) (fp:List Addr)(s:Sd)(H:Hp):Cx where
 prog:=X.prog
 w:=X.w
 K:=X.K
 mg:=X.mg
 base:=X.base
 A:=X.A
 N:=N
 s₀:=s
 H₀:=H
 env:=compEnvC scope (d46 X.env scope.names []) C X.env
 outer:=X.stack
 stack:=X.stack
 ex:=fp
 fn:=fun _=>false
 calm:=X.calm
 pn:=[]
 xe:=fun _ _=>False
section
variable {X:Cx}{pins:LAO}{σ:St}{H:Hp}{s:Sd}{scope:Scope}{x:Str}{ok:Str->Prop}{N:List Str}{C:Addr}{fp:List Addr}
theorem b47 (I:Inv X pins σ H s)(S:CompScopeG X.env.scope X.N scope x ok):∀ q∈scope.names,q.2=.free->∃ c,X.env.cells.lookup q.1=some c :=
 fun q hq hf=>I.ok.has q.1 (S.cap q hq hf)
theorem a95 (I:Inv X pins σ H s)(S:CompScopeG X.env.scope X.N scope x ok){y:Str}{c:Addr}(h:(d46 X.env scope.names []).lookup y=some c):X.env.cells.lookup y=some c :=
 d01 scope.names [] (fun _ z=>nomatch z) (b47 I S) (y,c) (PySem.mem_of_lookup h)
theorem e50 (I:Inv X pins σ H s)(S:CompScopeG X.env.scope X.N scope x ok){y:Str}(h:scope.names.lookup y=some .free):∃ c,(d46 X.env scope.names []).lookup y=some c/\X.env.cells.lookup y=some c:=by
 obtain⟨c,hc⟩:=c91 (env:=X.env) scope.names [] (.inl (PySem.mem_of_lookup h));obtain⟨c',hc'⟩:=b84 hc;exact⟨c',hc',a95 I S hc'⟩
theorem b74 (I:Inv X pins σ H s)(S:CompScopeG X.env.scope X.N scope x ok)(hf:∀ b∈fp,f72 X pins H b)(ho:∀ b∈fp,∃ o,s.heap.get? b=some o)(hC:s.heap.objs.size<=C):(a48 X scope N C fp s H).Ok where
 mod:=I.ok.mod
 kind:=S.kind
 glob:=I.ok.glob
 blt:=I.ok.blt
 above:=hC
 inj:=fun y z c h1 h2=>I.ok.inj y z c (a95 I S h1) (a95 I S h2)
 has:=fun y hy=>by
  have hy':(relabel scope X.env).names.lookup y=some .cell∨(relabel scope X.env).names.lookup y=some .free:=hy;have hfree:scope.names.lookup y=some .free:=by
   rcases hy' with z | z
   ·exact b03 S.nocell z (.inl rfl)
   ·exact b03 S.nocell z (.inr rfl)
  obtain⟨c,hc,_⟩:=e50 I S hfree;exact⟨c,hc⟩
 cab:=fun y c h=>by
  have h':false=true:=h;cases h'
 hd:=I.ok.hd
 frames:=I.ok.frames
 stk:=.inl rfl
 exf:=fun b hb=>by
  obtain⟨o,e⟩:=ho b hb;obtain⟨_,_,_,_,h4,_⟩:=hf b hb;exact⟨nLQ (nTQ (DQ e) hC),fun y c h=>h4 y c (a95 I S h)⟩
 bs:=I.bs
 bsz:=Fz I.ok.bsz I.sz
 noex:=fun b o e hb=>by
  obtain⟨_,_,_,h3,_,_⟩:=hf b hb;rcases h3 with z | z
  ·exact I.ok.noex b o e z
  ·exact absurd (nTQ (DQ e) (Fz I.ok.bsz z)) (Nat.lt_irrefl _)
 exfs:=fun b hb hz=>by
  obtain⟨_,h1,h2,_,_,_⟩:=hf b hb;rcases BZ.mp (I.stkSub b hz) with e | e
  ·exact h1 e
  ·exact h2 e
 funs:=I.stack
 frf:=I.stkFree
theorem b97 {h1:Heap}{t:Nat}{m0:Str->Option Value}{σ0:St}(I:Inv X pins σ H s)(S:CompScopeG X.env.scope X.N scope x ok)(hf:∀ b∈fp,f72 X pins H b)(ho:∀ b∈fp,∃ o,s.heap.get? b=some o)
 (hC:s.heap.objs.size<=C)(kp:∀ b o,s.heap.get? b=some o->h1.get? b=some o)(hns:h1.Ns C m0)(hl:σ0.length=N.length)
 (sub:∀(i:Nat) (y:Str) (v:V),N[i]?=some y->σ0[i]?=some (some v)->¬ ok y/\∃ j:Nat,X.N[j]?=some y/\σ[j]?=some (some v)) :
 Inv (a48 X scope N C fp s H) [] σ0 H { s with heap:=h1,toks:=t } where
 ok:=b74 I S hf ho hC
 os:=rfl
 bare:=I.bare
 base:=Un.kept kp
 loc:=by
  refine⟨m0,hns,fun i y v e1 e2 e3=>?_⟩;obtain⟨hyx,j,ej,es⟩:=sub i y v e1 e2;have e3':(relabel scope X.env).names.lookup y=some .local∨(relabel scope X.env).names.lookup y=some .cell∨(relabel scope X.env).names.lookup y=some .free:=e3;have hfree:((relabel scope X.env).names.lookup y=some .cell∨(relabel scope X.env).names.lookup y=some .free)/\scope.names.lookup y=some .free:=by
   rcases e3' with z | z | z
   ·exfalso;have hm:=PySem.mem_of_lookup z;obtain⟨q,hq,eq⟩:=Ex.mp hm;obtain⟨n,k⟩:=q;dsimp only at eq;split at eq
    ·cases eq
    ·cases eq;rcases S.own _ hq rfl with w | w
     ·exact hyx w
     ·exact w (BJ ej)
   ·exact⟨.inl z,b03 S.nocell z (.inl rfl)⟩
   ·exact⟨.inr z,b03 S.nocell z (.inr rfl)⟩
  obtain⟨hkind,hfr⟩:=hfree;obtain⟨c,hc,hxc⟩:=e50 I S hfr;have hcap:=S.cap _ (PySem.mem_of_lookup hfr) rfl;obtain⟨m,hn,hl'⟩:=I.loc;obtain⟨u,r,l⟩:=hl' j y v ej es (.inr hcap);refine⟨u,r,.inr ⟨hkind,c,hc,?_⟩⟩;rcases l with⟨lk,_⟩ | ⟨_,c',ec',z⟩
  ·have lk':X.env.scope.names.lookup y=some .local:=lk;rcases hcap with w | w
   ·have w':X.env.scope.names.lookup y=some .cell:=w;rw[lk'] at w';cases w'
   ·have w':X.env.scope.names.lookup y=some .free:=w;rw[lk'] at w';cases w'
  ·rw[hxc] at ec';cases ec';obtain⟨o,e,d⟩:=z;exact⟨o,kp _ _ e,d⟩
 cell:=fun y c e=>by
  obtain⟨v,o,e',d⟩:=I.cell y c (a95 I S e);exact⟨v,o,kp _ _ e',d⟩
 free:=I.hok.fresh hC
 freeC:=fun y c e=>I.freeC y c (a95 I S e)
 pin:=fun p hp=>nomatch (show p∈([]:LAO) from hp)
 hok:=I.hok.kept kp
 len:=hl
end
section
variable {prog:Pm}{w:World}{A:Around}{R:Result->Sd->Prop}{s:Sd}
theorem d73 {elt target iter:Expr}{scope:Scope}{pos:Pos}{it acc:Value}{env:Env} (Iv:Nat->Sd->Prop)
 (turn:∀ n s,Iv n s->wpAny (model prog w) A (pyNext it) (fun r s₁=>match r with
   | none=>R (.ok .next) s₁
   | some v=>wpAny (model prog w) A (letOwnedTupleGo target it v) (fun _ s₁'=>wpAny (model prog w) A (assign target env v) (fun _ s₂=>wpAny (model prog w) A (eval elt env) (fun x s₃ =>
    wpAny (model prog w) A (call (.builtin "list.append") [acc,x]) (fun _ s₄=>∃ m,m < n/\Iv m s₄) (notedBy (model prog w) A env fun e s'=>R (.error e) s') s₃)
    (notedBy (model prog w) A env fun e s'=>R (.error e) s') s₂) (notedBy (model prog w) A env fun e s'=>R (.error e) s') s₁') (notedBy (model prog w) A env fun e s'=>R (.error e) s') s₁)
   (notedBy (model prog w) A env fun e s'=>R (.error e) s') s)
 (n:Nat)(h:Iv n s):codeAny (model prog w) A (.compLoop (.ListComp elt [⟨target,iter,[],0⟩] scope pos) 0 it acc env) R s:=by
 refine codeAny_loop rfl Iv (fun n s hI=>?_) n h;show wpAny _ _ ((compTurn (.ListComp elt [⟨target,iter,[],0⟩] scope pos) 0 it acc env).onRaise (fun x=>do noteFrame x env;theTreesLotGoes x)) _ _ s;refine wpAny_noted ?_;rw[compTurn_list1];refine AQ (wpAny_standAt (AQ (Dq (turn n s hI) (fun r s₁ h₁=>?_) fun _ _ h'=>h')));cases r with
 | none=>exact AX h₁
 | some v =>
  refine AQ (Dq h₁ (fun _ s₁' h₁'=>?_) fun _ _ h'=>h');exact AQ (Dq h₁' (fun _ s₂ h₂=>AQ (AQ (Dq h₂ (fun x s₃ h₃=>AQ (Dq h₃
   (fun _ s₄ h₄=>AX (AX ⟨rfl,h₄⟩)) fun _ _ h'=>h')) fun _ _ h'=>h'))) fun _ _ h'=>h')
end
def i38 (wi:TI)(up:St->V->St)(te:TE):TE:=fun σ H Q=>wi σ H fun J H1=>∃ W:Nat->Nat->List V->Hp->Prop,(∃ m,W 0 m [] H1)/\∀ i m ys H,W i m ys H ->
 (J.stop i H/\∀ D,H D=none->Q (.ref D) (upd H D (.lst ys))) ∨
 (J.go i H/\ys.length < zL/\∃ Nx:V->Hp->Prop,(∀ y H3,Nx y H3->∃ m',m' < m/\W (i+1) m' (ys++[y]) H3)/\∀ x H',J.yld i H x H'->te (up σ x) H' Nx)
section
variable {X:Cx}{elt iter:Expr}{x:Str}{px pos:Pos}{scope:Scope}{wi:TI}{te:TE}{N:List Str}{k:Nat}{up:St->St}
theorem g47 (S:b04 X.env.scope X.N scope x)(hc:X.calm=true)(hN:N.Nodup)(hk:N[k]?=some x)
 (hup:∀ σ:St,σ.length=X.N.length->(up σ).length=N.length/\∀(i:Nat) (y:Str) (v:V),N[i]?=some y->(up σ)[i]?=some (some v)->y≠x/\∃ j:Nat,X.N[j]?=some y/\σ[j]?=some (some v))
 (hi:PI X (.Name x px) iter wi)(he:∀ C fp s H,PE (a48 X scope N C fp s H) elt te)(hs:∀ v,foldedSetIterable iter X.env v=pure v) :
 PE X (.ListComp elt [⟨.Name x px,iter,[],0⟩] scope pos) (i38 wi (fun σ v=>(up σ).set k (some v)) te):=by
 try constructor
 intro pins s σ H Q I h;rw[eval_ListComp];refine wpAny_comprehension_free (use:=none) rfl hs (c05 (b47 I S)) S.kind S.names (thn (hi pins s σ H _ I h) fun v s1 h1=>thn h1 fun itv s2 h2=>?_);obtain⟨it,fp,tn,J,H2,e,I2,T,st2,f2,W,⟨m0,w0⟩,turn⟩:=h2;subst e;refine EZ (wpAny_newFunctionEnv S.nocell (by intro y hy;simp at hy) (fun h₁ hns₁ hsb₁=>?_) S.kind);dsimp only at hns₁ hsb₁ ⊢;generalize hH2:s2.heap.push { cls:=.type "list", dict:=none,data:=.seq ([]:List Value).toArray }=HH at hns₁ hsb₁ ⊢;have hC:HH.objs.size=s2.heap.objs.size+1:=by rw[← hH2,Heap.size_push]
 have hDC:s2.heap.objs.size≠HH.objs.size:=by rw[hC];exact nLQ (Nat.lt_succ_self _)
 have hCle:s2.heap.objs.size<=HH.objs.size:=by rw[hC];exact FJ _
 have below:∀ b,b < s2.heap.objs.size->b≠HH.objs.size/\b≠s2.heap.objs.size:=fun b hb=>⟨by rw[hC];exact nLQ (Nat.lt_succ_of_lt hb),nLQ hb⟩;have old:∀ b o,s2.heap.get? b=some o->h₁.get? b=some o:=fun b o e=>hsb₁.extBut b o (below b (DQ e)).1 (Aq _ (hH2 ▸ Aq _ e));have hacc:h₁.get? s2.heap.objs.size=some { cls:=.type "list", data:=.seq ([]:List Value).toArray 0 }:=hsb₁.extBut _ _ hDC (Aq _ (hH2 ▸ Dx _ rfl));have ho2:∀ b∈fp,∃ o,s2.heap.get? b=some o:=fun b hb=>let ⟨o,e,_⟩:=T.obj _ _ st2 b hb;⟨o,e⟩
 have fpD:∀ b∈fp,b≠s2.heap.objs.size:=fun b hb=>let ⟨o,e⟩:=ho2 b hb;(below b (DQ e)).2
 obtain⟨hul,husub⟩:=hup σ I2.len;have st1:tn 0 h₁:=T.keep _ _ _ st2 fun b _ o e=>old b o e;have I3:Inv (a48 X scope N HH.objs.size fp s2 H2) [] (up σ) H2 { s2 with heap:=h₁,toks:=s2.toks+([]:List (Str×Value)).length }:=b97 I2 S f2 ho2 hCle old hns₁ hul husub
 have hD2:H2 s2.heap.objs.size=none:=I2.hok.fresh (AZ _);have loop:codeAny (model X.prog X.w) X.A (.compLoop (.ListComp elt [⟨.Name x px,iter,[],0⟩] scope pos) 0 (.ref it) (.ref s2.heap.objs.size) (compEnvC scope (d46 X.env scope.names []) HH.objs.size X.env))
  (compPost (model X.prog X.w) X.A X.xe none (EP X pins σ Q) (.ref s2.heap.objs.size) HH.objs.size) { s2 with heap:=h₁,toks:=s2.toks+([]:List (Str×Value)).length }:=by
  refine d73 (fun n s'=>∃(i:Nat) (ys:List V) (its:List Value) (cn:Nat)(H':Hp),Inv (a48 X scope N HH.objs.size fp s2 H2) [] (up σ) H' s'/\tn i s'.heap/\(∀ b∈fp,H' b=none)/\H' s2.heap.objs.size=none /\
   s'.heap.get? s2.heap.objs.size=some { cls:=.type "list", data:=.seq its.toArray cn }/\Vals ys its/\ys.length<=zL/\W i n ys H') ?_ m0
   ⟨0,[],[],0,H2,I3,st1,fun b hb=>(f2 b hb).1,hD2,hacc,.nil,Fx _,w0⟩
  rintro n s3 ⟨i,ys,its,cn,H3,J3,st3,fr3,hD3,hob3,rv3,hz3,w3⟩;have pinD:∀ {H':Hp}{s':Sd}{σ':St}{its':List Value}{cn':Nat},Inv (a48 X scope N HH.objs.size fp s2 H2) [] σ' H' s'->H' s2.heap.objs.size=none->s'.heap.get? s2.heap.objs.size=some { cls:=.type "list", data:=.seq its'.toArray cn' } ->
   Inv (a48 X scope N HH.objs.size fp s2 H2) [(s2.heap.objs.size,{ cls:=.type "list", data:=.seq its'.toArray cn' })] σ' H' s':=fun J hD hob=>J.pins_of fun p hp=>by
   have e:p=(s2.heap.objs.size,{ cls:=.type "list", data:=.seq _ _ }):=Ax.mp hp;subst e;refine⟨hob,hD,hDC,fun z=>?_,fun v z=>by cases (show Data.seq _ _=Data.cell v from z)⟩;exact absurd rfl ((below _ (by
    obtain⟨_,o,ho,_⟩:=(show s2.heap.FunFrames X.base X.stack from I2.stack).mem z;exact DQ ho)).2)
  have J3':=pinD J3 hD3 hob3;have fpk:∀ {H':Hp},(∀ b∈fp,H' b=none)->∀ b∈fp,f72 (a48 X scope N HH.objs.size fp s2 H2) [(s2.heap.objs.size,{ cls:=.type "list", data:=.seq its.toArray cn })] H' b:=fun hn b hb=>by
   obtain⟨o,e⟩:=ho2 b hb;refine⟨hn b hb,(below b (DQ e)).1,(b74 (N:=N) I2 S f2 ho2 hCle).exfs b hb,.inl hb,fun y c ec=>((b74 (N:=N) I2 S f2 ho2 hCle).exf b hb).2 y c ec,fun p hp=>?_⟩;have e':p=(s2.heap.objs.size,{ cls:=.type "list", data:=.seq its.toArray cn }):=Ax.mp hp;subst e';exact(fpD b hb).symm
  rcases turn i n ys H3 w3 with⟨stop,fin⟩ | ⟨go,hlt,Nx,hNx,step⟩
  ·refine Dq (T.done (a48 X scope N HH.objs.size fp s2 H2) rfl rfl rfl hc i _ s3 (up σ) H3 _ J3' (fpk fr3) st3 stop) (fun r s4 ⟨hr,J4⟩=>?_) fun _ _ z=>z;subst hr;obtain⟨m4,hn4,_⟩:=J4.loc;have hob4:=(J4.pin (s2.heap.objs.size,{ cls:=.type "list", data:=.seq its.toArray cn }) (by simp)).1;refine⟨m4,hn4,fun h' sb=>?_⟩;have kp:∀ b o,b≠HH.objs.size->s4.heap.get? b=some o->h'.get? b=some o:=fun b o hb e=>(sb.2 b hb).trans e;have hne:∀ b u,H3 b=some u->b≠s2.heap.objs.size:=fun b u q=>a04 q hD3;have hneC:∀ b u,H3 b=some u->b≠HH.objs.size:=fun b u q=>a04 q J4.free;have un:Un (frs X.stack) fp H2 (upd H3 s2.heap.objs.size (.lst ys)) s2.heap h':=by
    have u0:Un (frs X.stack) fp H2 H3 s2.heap s4.heap:=J4.base;refine⟨fun b o e n hb hx=>kp b o (below b (DQ e)).1 (u0.keep b o e n hb hx),fun b o e n hb hx=>?_,fun b o e n hx=>?_,fun b o e hx=>?_,fun b xs q=>?_,fun b o u q=>?_,fun b ps q=>?_⟩
    ·obtain⟨sl,e1⟩:=u0.slot b o e n hb hx;exact⟨sl,kp b _ (below b (DQ e)).1 e1⟩
    ·rw[a07 (below b (DQ e)).2];exact u0.free b o e n hx
    ·obtain⟨o',e1⟩:=u0.there b o e hx;exact⟨o',kp b _ (below b (DQ e)).1 e1⟩
    ·have q':=u0.tups b xs q;rw[a07 (hne b _ q')];exact q'
    ·have q':=u0.frzs b o u q;rw[a07 (hne b _ q')];exact q'
    ·obtain⟨more,q'⟩:=u0.tbls b ps q;exact⟨more,by rw[a07 (hne b _ q')];exact q'⟩
   have hok:HOk X.prog X.w (upd H3 s2.heap.objs.size (.lst ys)) h':=fun b u q=>by
    by_cases hb:b=s2.heap.objs.size
    ·subst hb;rw[a01] at q;cases q;exact⟨hz3,its,cn,rv3,kp _ _ hDC hob4⟩
    ·rw[a07 hb] at q;refine(J4.hok b u q).stay (fun c v hc' r=>kp c v ?_ r) (fun c r=>by rw[a07 (hne c _ r)];exact r) fun c xs r=>by rw[a07 (hne c _ r)];exact r
     rcases hc' with z | z
     ·rw[z];exact hneC b u q
     ·exact hneC c _ z
   refine⟨.ref s2.heap.objs.size,upd H3 s2.heap.objs.size (.lst ys),I2.call' (s':={ s4 with heap:=h' }) (ch:=fp) J4.os un hok J4.bare fun b hb=>?_,rfl,fin _ hD3⟩
   obtain⟨_,g1,_,g3,g4,g5⟩:=f2 b hb;exact⟨g3,g1,g4,g5⟩
  ·refine Dq (T.item (a48 X scope N HH.objs.size fp s2 H2) rfl rfl rfl hc i _ s3 (up σ) H3 _ J3' (fpk fr3) st3 go) (fun r s4 ⟨u,hr,h4⟩=>?_) fun _ _ z=>z;subst hr;refine Dq h4 (fun _ s5 ⟨y,H5,J5,r5,y5,st5,fr5⟩=>?_) fun _ _ z=>z;have J5':=J5.pinned (fpk fr5) (T.obj _ _ st5);refine wpAny_assign_Name (b54 J5' hN hk (.inl (lookup_relabel_local S.loc)) r5 (fun s6 J6=>?_) (.inr (lookup_relabel_local S.loc)));refine Dq (he HH.objs.size fp s2 H2 _ s6 _ H5 Nx J6 (step y H5 y5)) (fun yu s7 ⟨z,H7,J7,r7,q7⟩=>?_) fun _ _ z=>z.elim;obtain⟨m',hm',w7⟩:=hNx z H7 q7;have pD:=J7.pin (s2.heap.objs.size,{ cls:=.type "list", data:=.seq its.toArray cn }) (by simp);have hlen:=rv3.length;refine append_at (hsz:=by rw[lS,← hlen];exact hz3) pD.1 fun h8 sb8 hob8=>?_;have kp8:∀ b o,b≠s2.heap.objs.size->s7.heap.get? b=some o->h8.get? b=some o:=fun b o hb e=>(sb8.2 b hb).trans e;have J7':Inv (a48 X scope N HH.objs.size fp s2 H2) [] (up σ) H7 s7:=(J7.weak (σ':=up σ) (by rw[List.length_set]) fun j v ej=>by
    by_cases hj:j=k
    ·subst hj;exact absurd rfl (husub j x v hk ej).1
    ·rw[lE (Ne.symm hj)];exact ej).pins_of fun p hp=>nomatch hp
   have J8:Inv (a48 X scope N HH.objs.size fp s2 H2) [] (up σ) H7 { s7 with heap:=h8 }:=J7'.turned (t':=s7.toks) kp8 pD.2.1 hDC (.inr (AZ _))
    (fun y' c ec z=>by
      obtain⟨v',q⟩:=I2.cell y' c (a95 I2 S ec);exact(below c q.lt).2 z) fun p hp=>nomatch hp
   have fr7:∀ b∈fp,s5.heap.get? b≠none->True:=fun _ _ _=>trivial;refine⟨m',hm',i+1,ys++[z],its++[yu],cn+1,H7,J8,?_,fun b hb=>?_,pD.2.1,?_,rv3.append (.cons r7 .nil),?_,w7⟩
   ·refine T.keep _ _ _ st5 fun b hb o e=>kp8 b o (fpD b hb) ?_;exact(J7.pin (b,o) (lR _ (lR _ (a68 hb e)))).1
   ·obtain⟨o,e,d⟩:=T.obj _ _ st5 b hb;exact(J7.pin (b,o) (lR _ (lR _ (a68 hb e)))).2.1
   ·rw[hob8];simp
   ·rw[Bj,List.length_singleton];exact hlt
 exact codeAny_compStart_list loop (T.self _ 0 _ _ _ st1 loop)
theorem d62 (hx:x∉X.N)(σ:St)(hl:σ.length=X.N.length):(σ++[none]).length=(X.N++[x]).length /\
 ∀(i:Nat) (y:Str) (v:V),(X.N++[x])[i]?=some y->(σ++[none])[i]?=some (some v)->y≠x/\∃ j:Nat,X.N[j]?=some y/\σ[j]?=some (some v):=by
 refine⟨by rw[Bj,Bj,hl];rfl,fun i y v h1 h2=>?_⟩;by_cases hi:i < σ.length
 ·rw[List.getElem?_append_left hi] at h2;rw[List.getElem?_append_left (by lia)] at h1;refine⟨fun z=>hx (z ▸ BJ h1),i,h1,h2⟩
 ·rw[lA (by lia)] at h2;rcases Nat.eq_zero_or_pos (i-σ.length) with z | z
  ·rw[z] at h2;simp at h2
  ·rw[List.getElem?_eq_none (by show 1<=i-σ.length;lia)] at h2;cases h2
theorem a82 {osc:Scope}{oN ops:List Str}(SC:FnScope oN ops osc)(S:b04 osc oN scope x)(hx:x∉oN)(hi:PI X (.Name x px) iter wi)
 (he:∀ C fp s H,PE (a48 X scope (X.N++[x]) C fp s H) elt te)(hc:X.calm=true:=by rfl)(e1:X.env.scope=osc:=by rfl)(e2:X.N=oN:=by rfl)(hs:∀ v,foldedSetIterable iter X.env v=pure v:=by intro _;rfl) :
 PE X (.ListComp elt [⟨.Name x px,iter,[],0⟩] scope pos) (i38 wi (fun σ v=>(σ++[none]).set X.N.length (some v)) te):=by
 have hx':x∉X.N:=by rw[e2];exact hx
 have hnd:X.N.Nodup:=by rw[e2];exact SC.nd
 refine g47 (up:=fun σ=>σ++[none]) (by rw[e1,e2];exact S) hc (by rw[List.nodup_append];exact⟨hnd,by simp,by intro a ha b hb;simp at hb;subst hb;exact fun e=>hx' (e ▸ ha)⟩) (by simp) (d62 hx') hi he hs
end
theorem c09 {lo:Int}{n:Nat}{et:V->Hp->VK->Prop}{H:Hp}{fin:Addr->List V->Hp->Prop} (Pv:Nat->List V->Hp->Prop)(hn:n<=zL)(h0:Pv 0 [] H)(hl:∀ i ys H,Pv i ys H->ys.length=i)
 (hs:∀ i ys H,i < n->Pv i ys H->et (.int (lo+i)) H fun y H3=>Pv (i+1) (ys++[y]) H3)(hd:∀ ys H,Pv n ys H->∀ D,H D=none->fin D ys H) :
 ∃ W:Nat->Nat->List V->Hp->Prop,(∃ m,W 0 m [] H)/\∀ i m ys H,W i m ys H ->
  ((Itr lo n).stop i H/\∀ D,H D=none->fin D ys H) ∨
  ((Itr lo n).go i H/\ys.length < zL/\∃ Nx:V->Hp->Prop,(∀ y H3,Nx y H3->∃ m',m' < m/\W (i+1) m' (ys++[y]) H3)/\∀ x H',(Itr lo n).yld i H x H'->et x H' Nx):=by
 refine⟨fun i m ys H=>m=n-i/\i<=n/\Pv i ys H,⟨n,by simp,Fx _,h0⟩,?_⟩;rintro i m ys H ⟨rfl,hi,p⟩;by_cases hlt:i < n
 ·refine .inr ⟨hlt,by rw[hl i ys H p];lia,_,fun y H3 q=>⟨n-(i+1),by lia,rfl,hlt,q⟩,fun x H' q=>?_⟩;obtain⟨e,q⟩:=q;subst e q;exact hs i ys _ hlt p
 ·have e:i=n:=by lia
  subst e;exact .inl ⟨AZ _,hd ys H p⟩
theorem b81 {K:WFr}{a:Addr}{xs:List V}{et:V->Hp->VK->Prop}{H:Hp}{fin:Addr->List V->Hp->Prop} (Pv:Nat->List V->Hp->Prop)(hn:xs.length<=zL)(h0:Pv 0 [] H)(hl:∀ i ys H,Pv i ys H->ys.length=i)
 (hq:∀ i ys H,i<=xs.length->Pv i ys H->SqL K H a xs)
 (hs:∀ i ys H v,xs[i]?=some v->Pv i ys H->et v H fun y H3=>Pv (i+1) (ys++[y]) H3)(hd:∀ ys H,Pv xs.length ys H->∀ D,H D=none->fin D ys H) :
 ∃ W:Nat->Nat->List V->Hp->Prop,(∃ m,W 0 m [] H)/\∀ i m ys H,W i m ys H ->
  ((Itl K a).stop i H/\∀ D,H D=none->fin D ys H) ∨
  ((Itl K a).go i H/\ys.length < zL/\∃ Nx:V->Hp->Prop,(∀ y H3,Nx y H3->∃ m',m' < m/\W (i+1) m' (ys++[y]) H3)/\∀ x H',(Itl K a).yld i H x H'->et x H' Nx):=by
 refine⟨fun i m ys H=>m=xs.length-i/\i<=xs.length/\Pv i ys H,⟨xs.length,by simp,Fx _,h0⟩,?_⟩;rintro i m ys H ⟨rfl,hi,p⟩;have q:=hq i ys H hi p;by_cases hlt:i < xs.length
 ·refine .inr ⟨⟨xs,xs[i],q,by simp[hlt]⟩,by rw[hl i ys H p];lia,_,fun y H3 q=>⟨xs.length-(i+1),by lia,rfl,hlt,q⟩,fun x H' yl=>?_⟩;obtain⟨e,yl⟩:=yl;subst e;exact hs i ys _ x (yl xs q) p
 ·have e:i=xs.length:=by lia
  subst e;exact .inl ⟨⟨xs,q,AZ _⟩,hd ys H p⟩
theorem c93 {K:WFr}{a:Addr}{xs:List V}{et:V->Hp->VK->Prop}{H:Hp}{fin:Addr->List V->Hp->Prop} (Pv:Nat->List V->Hp->Prop)(hn:xs.length<=zL)(h0:Pv 0 [] H)(hl:∀ i ys H,Pv i ys H->ys.length=i)
 (hq:∀ i ys H,i<=xs.length->Pv i ys H->SqT K H a xs)
 (hs:∀ i ys H v,xs[i]?=some v->Pv i ys H->et v H fun y H3=>Pv (i+1) (ys++[y]) H3)(hd:∀ ys H,Pv xs.length ys H->∀ D,H D=none->fin D ys H) :
 ∃ W:Nat->Nat->List V->Hp->Prop,(∃ m,W 0 m [] H)/\∀ i m ys H,W i m ys H ->
  ((Itt K a).stop i H/\∀ D,H D=none->fin D ys H) ∨
  ((Itt K a).go i H/\ys.length < zL/\∃ Nx:V->Hp->Prop,(∀ y H3,Nx y H3->∃ m',m' < m/\W (i+1) m' (ys++[y]) H3)/\∀ x H',(Itt K a).yld i H x H'->et x H' Nx):=by
 refine⟨fun i m ys H=>m=xs.length-i/\i<=xs.length/\Pv i ys H,⟨xs.length,by simp,Fx _,h0⟩,?_⟩;rintro i m ys H ⟨rfl,hi,p⟩;have q:=hq i ys H hi p;by_cases hlt:i < xs.length
 ·refine .inr ⟨⟨xs,xs[i],q,by simp[hlt]⟩,by rw[hl i ys H p];lia,_,fun y H3 q=>⟨xs.length-(i+1),by lia,rfl,hlt,q⟩,fun x H' yl=>?_⟩;obtain⟨e,yl⟩:=yl;subst e;exact hs i ys _ x (yl xs q) p
 ·have e:i=xs.length:=by lia
  subst e;exact .inl ⟨⟨xs,q,AZ _⟩,hd ys H p⟩
end L2
namespace L2
open PySem PySem.Spec PyProof.Rows
theorem d31 {prog:Pm}{w:World}{A:Around}(hh:A.handled=none)(I:Addr) (x:Str)(t:Tok) :
 Walks prog w A I [I] [I] x.cps.size (SignAt x) (fun i h=>h.IsStrIter I (strIterType x) x t i):=by
 unfold strIterType;cases ha:x.cps.all (· < 128)
 ·exact Walks.strWide hh I x t
 ·exact Walks.strAscii hh I x t
def Its (x:Str):It:=⟨fun i _=>i < x.cps.size,fun i H v H'=>H'=H/\∃ c,x.cps[i]?=some c/\v=.str ⟨#[c]⟩,fun i _=>x.cps.size<=i⟩
theorem d67 (x:Str):["enumerate", "zip", "dict_itemiterator", "dict_reverseitemiterator", "odict_iterator", "itertools.zip_longest", "itertools.pairwise"].contains (strIterType x)=false:=by
 unfold strIterType;cases x.cps.all (· < 128) <;> decide
theorem g94 {P:Pm}{w:World}{K:WFr}{tg:Expr}(it:Addr) (x:Str)(t:Tok):Turn P w K tg (Its x) [it] it (fun i h=>i<=x.cps.size/\h.IsStrIter it (strIterType x) x t i) where
 mem:=by simp
 obj:=fun i h st b hb=>by
  have e:b=it:=by simpa using hb
  subst e;obtain⟨_,o,e,c,d⟩:=st;exact⟨o,e,fun v z=>by rw[d] at z;cases z⟩
 keep:=fun i h h' st k=>by
  obtain⟨hi,o,e,r⟩:=st;exact⟨hi,o,k it (by simp) o e,r⟩
 item:=by
  intro X hP hw hK hc i pins s σ H E I hf st hg;subst hP hw hK;obtain⟨f0,f1,f2,f3,f4,f5⟩:=hf it (by simp);have hg':i < x.cps.size:=hg;have W:=d31 (prog:=X.prog) (w:=X.w) (A:=X.A) (I.ok.hd hc) it x t;refine W.item i s _ _ hg' st.2 fun v h' tk hv st' kk=>?_;obtain⟨c,u,hcu,rfl⟩:=hv;have I1:Inv X pins σ H { s with heap:=h',toks:=tk }:=I.turned (fun b o hb e=>kk b o (by simpa using hb) e) f0 f1 f3 f4 f5
  obtain⟨o,e,cc,d⟩:=id st';exact⟨_,rfl,f48 (s:={ s with heap:=h',toks:=tk }) (n:=strIterType x) e cc d (d67 x) ⟨.str ⟨#[c]⟩,H,I1,⟨u,rfl⟩,⟨rfl,c,hcu,rfl⟩,⟨hg',st'⟩,fun b hb=>(hf b hb).1⟩⟩
 done:=by
  intro X hP hw hK hc i pins s σ H E I hf st hg;subst hP hw hK;obtain⟨f0,f1,f2,f3,f4,f5⟩:=hf it (by simp);have hg':x.cps.size<=i:=hg;have e:i=x.cps.size:=Nat.le_antisymm st.1 hg';subst e;have W:=d31 (prog:=X.prog) (w:=X.w) (A:=X.A) (I.ok.hd hc) it x t;exact W.done s _ _ st.2 fun h' tk kk=>⟨rfl,I.turned (fun b o hb e=>kk b o (by simpa using hb) e) f0 f1 f3 f4 f5⟩
 self:=fun A i s Q E st h=>by
  have st2:=st.2;unfold strIterType at st2;cases ha:x.cps.all (· < 128)
  ·rw[ha] at st2;exact wpAny_pyIter_striter_wide st2 h
  ·rw[ha] at st2;exact wpAny_pyIter_striter_ascii st2 h
section
variable {X:Cx}{tg:Expr}
def iStr (tl:TE):TI:=fun σ H R=>tl σ H fun x H1=>∃ z,x=.str z/\R (Its z) H1
theorem c73 {l:Expr}{tl:TE}(hl:PE X l tl):PI X tg l (iStr tl):=by
 try constructor
 intro pins s σ H R I h;refine thn (hl pins s σ H _ I h) fun v s1 ⟨x,H1,I1,r1,q1⟩=>?_;obtain⟨z,e,q⟩:=q1;subst e;obtain⟨t,rfl⟩:=r1;refine wpAny_pyIter_strU ?_;refine⟨s1.heap.objs.size,[s1.heap.objs.size],_,_,H1,rfl,I1.kept (t':=s1.toks) fun b o e=>Aq _ e,g94 _ z t,⟨Fx _,⟨_,Dx _ rfl,rfl,rfl⟩⟩,fun b hb=>?_,q⟩;have e:b=s1.heap.objs.size:=by simpa using hb
 subst e;exact I1.fpOk (AZ _) (I1.hok.fresh (AZ _))
end
theorem b55 {z:Str}{et:V->Hp->VK->Prop}{H:Hp}{fin:Addr->List V->Hp->Prop} (Pv:Nat->List V->Hp->Prop)(hn:z.length<=zL)(h0:Pv 0 [] H)(hl:∀ i ys H,Pv i ys H->ys.length=i)
 (hs:∀ i ys H c,z.cps[i]?=some c->Pv i ys H->et (.str ⟨#[c]⟩) H fun y H3=>Pv (i+1) (ys++[y]) H3)(hd:∀ ys H,Pv z.cps.size ys H->∀ D,H D=none->fin D ys H) :
 ∃ W:Nat->Nat->List V->Hp->Prop,(∃ m,W 0 m [] H)/\∀ i m ys H,W i m ys H ->
  ((Its z).stop i H/\∀ D,H D=none->fin D ys H) ∨
  ((Its z).go i H/\ys.length < zL/\∃ Nx:V->Hp->Prop,(∀ y H3,Nx y H3->∃ m',m' < m/\W (i+1) m' (ys++[y]) H3)/\∀ x H',(Its z).yld i H x H'->et x H' Nx):=by
 have hn':z.cps.size<=zL:=hn;refine⟨fun i m ys H=>m=z.cps.size-i/\i<=z.cps.size/\Pv i ys H,⟨z.cps.size,by simp,Fx _,h0⟩,?_⟩;rintro i m ys H ⟨rfl,hi,p⟩;by_cases hlt:i < z.cps.size
 ·refine .inr ⟨hlt,by rw[hl i ys H p];lia,_,fun y H3 q=>⟨z.cps.size-(i+1),by lia,rfl,hlt,q⟩,fun x H' yl=>?_⟩;obtain⟨e,c,hc,e2⟩:=yl;subst e e2;exact hs i ys _ c hc p
 ·have e:i=z.cps.size:=by lia
  subst e;exact .inl ⟨AZ _,hd ys H p⟩
theorem c80:∀ {bs:List Bool}{us:List Value},Vals (bs.map V.bl) us->us=bs.map Value.bool
 | [],_,r=>by rw[List.map_nil] at r;cases r;rfl
 | b::bs,_,r=>by
  rw[Cz] at r;cases r with
  | cons h t =>
   cases (show _=Value.bool b from h);rw[c80 t];rfl
theorem f09 (bs:List Bool):(List.range bs.length).all (fun i=>bs.getD i false)=bs.all id:=by
 rw[Bool.eq_iff_iff,List.all_eq_true,List.all_eq_true];constructor
 ·intro h b hb;obtain⟨i,hi,e⟩:=List.getElem_of_mem hb
  have:=h i (List.mem_range.mpr hi)
  rw[lG,Bx hi] at this;rw[← e];simpa using this
 ·intro h i hi;have hi':=List.mem_range.mp hi
  have:=h bs[i] (List.getElem_mem hi')
  rw[lG,Bx hi'];simpa using this
section
variable {X:Cx}
theorem b45 (hc:X.calm=true):b25 X (.builtin "all") (fun xs H Q=>∃(p:Addr) (bs:List Bool),xs=[.ref p]/\SqL X.K H p (bs.map V.bl)/\Q (.bl (bs.all id)) H):=by
 try constructor
 intro pins s σ H xs us Q I r h;obtain⟨p,bs,rfl,hq,q⟩:=h;obtain⟨u,rfl,rx⟩:=b86 r;cases rx;obtain⟨its,rv,pl,hz⟩:=I.list hq;have hits:=c80 rv;have hlt:p < s.heap.objs.size:=by
  obtain⟨o,n,e,_⟩:=pl;exact DQ e
 refine call_all_walk (wpAny_pyIter_list pl.isList ?_);refine⟨_,_,_,_,_,_,fun i=>bs.getD i false,rfl,Walks.list (show X.A.in1.handled=none from I.ok.hd hc) s.heap.objs.size p (nLQ hlt) its.toArray,⟨⟨_,Dx _ rfl,rfl,rfl⟩,pl.isList.push _⟩,?_,fun h' tk kk=>?_⟩
 ·intro i v s' Q' E' hv hQ';have hv':its[i]?=some v:=by simpa using hv
  rw[hits,CJ] at hv';cases hb:bs[i]? with
  | none=>rw[hb] at hv';cases hv'
  | some b =>
   rw[hb] at hv';cases hv';refine wpAny_truthy_bool ?_;have hQ2:Q' (bs.getD i false) s':=hQ';rw[lG,hb] at hQ2;exact hQ2
 ·have e:its.toArray.size=bs.length:=by rw[lS,hits,Aj]
  refine⟨.bl (bs.all id),H,I.kept fun b o e=>kk b o (fun hb=>?_) (Aq _ e),?_,q⟩
  ·have hb':b=s.heap.objs.size:=by simpa using hb
   exact absurd (hb' ▸ DQ e) (Nat.lt_irrefl _)
  ·show Value.bool _=Value.bool _;rw[e,f09]
theorem c65 {ys:List Str}:∀ {us:List Value},Vals (ys.map V.str) us->StrsAre us ys:=by
 induction ys with
 | nil=>intro us r;rw[List.map_nil] at r;cases r;exact .nil
 | cons y ys ih =>
  intro us r;rw[Cz] at r;cases r with
  | cons r1 r2 =>
   obtain⟨t,e⟩:=r1;subst e;exact .cons y t (ih r2)
theorem c53:MtM X "str.join" (fun x xs H Q=>∃(z:Str)(p:Addr) (ys:List Str),x=.str z/\xs=[.ref p]/\SqL X.K H p (ys.map V.str)/\(ys.map (·.length)).sum+ys.length * z.length<=16777216/\Q (.str (Txt.join z ys)) H):=by
 try constructor
 intro pins s σ H x xs v us Q I rx rs h;obtain⟨z,p,ys,rfl,rfl,hq,hz,q⟩:=h;obtain⟨t,rfl⟩:=rx;obtain⟨u,rfl,ru⟩:=rs.one;cases ru;obtain⟨its,rv,pl,_⟩:=I.list hq;exact join_list pl.isList (by simpa using c65 rv) hz fun t' k=>⟨.str _,H,I.tok _,⟨_,rfl⟩,q⟩
theorem b10:MtM X "str.startswith" (fun x xs H Q=>∃ z y,x=.str z/\xs=[.str y]/\Q (.bl (Txt.startswith z y)) H):=by
 try constructor
 intro pins s σ H x xs v us Q I rx rs h;obtain⟨z,y,rfl,rfl,q⟩:=h;obtain⟨t,rfl⟩:=rx;obtain⟨u,rfl,ru⟩:=rs.one;obtain⟨t',rfl⟩:=ru;exact SC.startswith ⟨.bl _,H,I,rfl,q⟩
theorem d28:∀(l:List (Str×Tok)),Vals ((l.map (·.1)).map V.str) (strValues l)
 | []=>.nil
 | (y,t)::l=>.cons ⟨t,rfl⟩ (d28 l)
theorem c11:SlR X (fun x lo hi H Q=>∃ z,x=.str z/\z.length<=zL/\Q (.str (Txt.slice z lo hi)) H):=by
 try constructor
 intro pins s σ H x v vl vu lo hi sl Q I rx hs pl pu h;obtain⟨z,rfl,hz,q⟩:=h;obtain⟨t,rfl⟩:=rx;refine⟨"str", _,F.slot_str_getitem.lookup,typeIs_str _ _ _,?_⟩;obtain⟨o,ho,hc,hd⟩:=hs;cases pl with
 | none =>
  cases pu with
  | none=>exact wpAny_getItem_str_slice (l:=none) (u:=none) (st:=none) ⟨o,ho,hc,hd⟩ rfl (post_val_or_str ⟨Fz (Txt.slice_le z none none) hz,fun t' k=>⟨.str _,H,I.tok _,⟨_,rfl⟩,q⟩⟩)
  | int j uj=>exact wpAny_getItem_str_slice (l:=none) (u:=some (j,uj)) (st:=none) ⟨o,ho,hc,hd⟩ rfl (post_val_or_str ⟨Fz (Txt.slice_le z none (some j)) hz,fun t' k=>⟨.str _,H,I.tok _,⟨_,rfl⟩,q⟩⟩)
 | int i ui =>
  cases pu with
  | none=>exact wpAny_getItem_str_slice (l:=some (i,ui)) (u:=none) (st:=none) ⟨o,ho,hc,hd⟩ rfl (post_val_or_str ⟨Fz (Txt.slice_le z (some i) none) hz,fun t' k=>⟨.str _,H,I.tok _,⟨_,rfl⟩,q⟩⟩)
  | int j uj=>exact wpAny_getItem_str_slice (l:=some (i,ui)) (u:=some (j,uj)) (st:=none) ⟨o,ho,hc,hd⟩ rfl (post_val_or_str ⟨Fz (Txt.slice_le z (some i) (some j)) hz,fun t' k=>⟨.str _,H,I.tok _,⟨_,rfl⟩,q⟩⟩)
def clsV:V->Option Value
 | .ty n=>some (.type n)
 | .ref a=>some (.ref a)
 | _=>none
theorem a91:b25 X (.builtin "isinstance") (fun xs H Q=>∃ x c ty tc b,xs=[x,c]/\TyOf X.K H x ty/\clsV c=some tc/\PySem.W.kitOne X.K ty tc=some b/\Q (.bl b) H):=by
 try constructor
 intro pins s σ H xs us Q I r h;obtain⟨x,c,ty,tc,b,rfl,hty,hc,hk,q⟩:=h;obtain⟨u,w',rfl,ru,rw'⟩:=g28 r;have e:w'=tc:=by
  cases c with
  | ty n=>cases (show w'=Value.type n from rw');exact Ez hc
  | ref a=>cases (show w'=Value.ref a from rw');exact Ez hc
  | _=>exact nomatch hc
 subst e;exact f98 I ru hty hk fun tk=>⟨.bl b,H,I.tok _,rfl,q⟩
end
end L2
namespace L2
open PySem PySem.Spec PyProof.Rows
structure Def (P:Pm)(w:World)(K:WFr) (mg:Str->Option Value)(base:Heap) (k:Nat) (x:Str) (ps:List Str)(sp:Sp):Prop where
 ex:∃ f fd,FnOk P w K mg base CX0 k f fd ps sp/\mg x=some (.ref f)/\PySem.W.keepIn K (.ref f)=true/\Binds K fd ps []
section
variable {X:Cx}{k:Nat}{ps:List Str}{sp:Sp}{x:Str}{p pos:Pos}{e:Expr}{es:List Expr}{t:TA}
theorem a42 (D:Def X.prog X.w X.K X.mg X.base k x ps sp)(hr:Room k X.A)(ha:PA X (e::es) t)(hg:Gl X x:=by rfl)(hdb:(x == ("__debug__" : Str))=false:=by decide)
 (he:starEach (e::es) X.env=(false,eval e X.env)::starEach es X.env:=by rfl)(hpl:(backTo pos (starEach es X.env)).any (·.1)=false:=by rfl) :
 PE X (.Call (.Name x p) (e::es) [] pos) (i65 sp [] E0 t):=by
 obtain⟨f,fd,F,hm,hk,hb⟩:=D.ex;exact h88 F hr hg hm hk hb .nil f99 ha hdb he hpl
end
theorem Same.upd {H H':Hp}{a:Addr}{o:HO}(s:Same H H')(h:H' a=none):Same H (upd H' a o):=fun b u e=>by
 have q:=s b u e;rw[a07 (a04 q h)];exact q
def kA:Key:=Sum.inr "at"
theorem d57 (x:Int){m:Int}(h:0 < m)(h2:m<=2 ^ 63):-(2 ^ 64) < x % m/\x % m < 2 ^ 64:=by
 have h3:=Int.emod_nonneg x (show m≠0 by omega);have h4:=EX x h;exact⟨by omega,by omega⟩
def spLaw (K:WFr):Sp:=fun vs H Q _=>∃(a:Addr) (ns:List Int),vs=[.ref a]/\SqL K H a (ns.map V.int)/\ns.length<=63/\∀ H',Q (.bl true) H'
end L2
namespace L2
open PySem PySem.Spec PyProof.Rows
section
variable {prog:Pm}{w:World}{A:Around}{E:VSP}{s:Sd}
theorem b71 {it t:Addr}{i:Nat}{items:Array Value}{x:Value}{Q:VSP}(hit:s.heap.IsTupleIter it t i)(ht:s.heap.IsTuple t items)(hx:items[i]?=some x)
 (hQ:∀ h',h'.IsTupleIter it t (i+1)->Heap.SameBut it s.heap h'->Q x { s with heap:=h' }):wpAny (model prog w) A (Builtin.SmallTypes.nextOf (.ref it)) Q E s:=by
 obtain⟨o,ho,hc,hd⟩:=id hit;obtain⟨ot,hot,_,nt,hdt⟩:=ht;unfold Builtin.SmallTypes.nextOf;refine AQ (wpAny_callSpecial?_slot (name:=Str.ofString "__next__") hit.typeIs F.slot_tuple_iterator_next (wpAny_call_entry F.slot_tuple_iterator_next hit.typeIs F.entry_tuple_iterator_next ?_ (F.args_tuple_iterator_next_1 _)));show wpAny _ _ (field (.ref it) 0 >>= _) _ _ s;refine AQ (wpAny_field ho hd (x:=.ref t) rfl ?_);show wpAny _ _ (if (Value.ref t == Value.none)=true then _ else _) _ _ s;rw[if_neg (show ¬((Value.ref t == Value.none)=true) from Fj)];show wpAny _ _ (field (.ref it) 1 >>= _) _ _ s;refine AQ (wpAny_field ho hd (x:=.int i 0) rfl ?_);show wpAny _ _ (seqItems? (.ref t) >>= _) _ _ s;refine AQ (wpAny_seqItems hot hdt ?_);simp only[Dj,hx];refine AQ (wpAny_setField ho hd (by simp) (AX ⟨x,rfl,AX (hQ _ ?_ (Heap.SameBut.update ..))⟩));exact⟨_,Heap.get?_update_self _ ho (Obj.isFreed_of_fields (Obj.data_mapFields hd _)),(Obj.cls_mapFields ..).trans hc,by rw[Obj.data_mapFields hd];simp[rawInt]⟩
theorem c56 {it t:Addr}{i:Nat}{items:Array Value}{Q:VSP}(hh:A.handled=none)(hit:s.heap.IsTupleIter it t i)(ht:s.heap.IsTuple t items)(hx:items[i]?=none)
 (hE:∀ h' e,Heap.ExtBut it s.heap h'->(∃ o,h'.get? e=some o/\o.cls=.type "StopIteration")->E (.ref e) { s with heap:=h' }):wpAny (model prog w) A (Builtin.SmallTypes.nextOf (.ref it)) Q E s:=by
 obtain⟨o,ho,hc,hd⟩:=id hit;obtain⟨ot,hot,_,nt,hdt⟩:=ht;unfold Builtin.SmallTypes.nextOf;refine AQ (wpAny_callSpecial?_slot (name:=Str.ofString "__next__") hit.typeIs F.slot_tuple_iterator_next (wpAny_call_entry F.slot_tuple_iterator_next hit.typeIs F.entry_tuple_iterator_next ?_ (F.args_tuple_iterator_next_1 _)));show wpAny _ _ (field (.ref it) 0 >>= _) _ _ s;refine AQ (wpAny_field ho hd (x:=.ref t) rfl ?_);show wpAny _ _ (if (Value.ref t == Value.none)=true then _ else _) _ _ s;rw[if_neg (show ¬((Value.ref t == Value.none)=true) from Fj)];show wpAny _ _ (field (.ref it) 1 >>= _) _ _ s;refine AQ (wpAny_field ho hd (x:=.int i 0) rfl ?_);show wpAny _ _ (seqItems? (.ref t) >>= _) _ _ s;refine AQ (wpAny_seqItems hot hdt ?_);simp only[Dj,hx];refine AQ (wpAny_rule (AQ (wpAny_setField ho hd (by simp) ?_)));show wpAny _ _ (newExc (.type "StopIteration") [] >>= _) _ _ _;refine AQ ?_;simp only[newExc,newTuple];refine AQ (EZ ?_ (by size_fits));refine AQ (m:=firstArgMember _ _) (wpAny_of_eq (a:=Value.none) (by first | rfl | (simp only[firstArgMember];rfl)) ?_)
 refine EZ ?_ (by size_fits);simp only[raiseNew];refine AQ (wpAny_handled ?_);first | rw[show A.in1.handled=none from hh] | rw[hh]
 refine AQ (AX (wpAny_throw ?_));exact hE _ _ (((Heap.SameBut.update ..).extBut.push _).push _) ⟨_,Dx _ rfl,rfl⟩
structure ZApart (z TI TO i1 i2:Addr):Prop where
 a1:TI≠z
 a2:TO≠z
 a3:i1≠z
 a4:i2≠z
 a5:TI≠TO
 a6:TI≠i1
 a7:TI≠i2
 a8:TO≠i1
 a9:TO≠i2
 b1:i1≠i2
def i59 (z TI TO i1 i2 t1 t2:Addr) (k:Nat)(h:Heap):Prop:=IsZip h z TI TO .none/\IsPair h TI (.ref i1) (.ref i2)/\(∃ a b,IsPair h TO a b)/\h.IsTupleIter i1 t1 k/\h.IsTupleIter i2 t2 k
def ZipM (z TI TO i1 i2 t1 t2 T:Addr) (k:Nat)(h:Heap):Prop:=IsZip h z TI TO (rawInt T)/\IsPair h TI (.ref i1) (.ref i2)/\(∃ a b,IsPair h TO a b)/\h.IsTupleIter i1 t1 (k+1)/\h.IsTupleIter i2 t2 (k+1)
theorem a54 {h h':Heap}{it t b:Addr}{i:Nat}(x:h.IsTupleIter it t i)(sb:Heap.ExtBut b h h')(ne:it≠b):h'.IsTupleIter it t i :=
 let ⟨o,e,r⟩:=x;⟨o,sb it o ne e,r⟩
theorem g35 {z TI TO i1 i2 t1 t2:Addr}{k:Nat}{xs ys:Array Value}{x y:Value}{Q:Option Value->Sd->Prop}(D:ZApart z TI TO i1 i2)(n1:t1≠z/\t1≠TO/\t1≠i1/\t1≠i2)(n2:t2≠z/\t2≠TO/\t2≠i1/\t2≠i2)
 (Z:i59 z TI TO i1 i2 t1 t2 k s.heap)(h1:s.heap.IsTuple t1 xs)(h2:s.heap.IsTuple t2 ys)(hx:xs[k]?=some x)(hy:ys[k]?=some y)
 (hQ:∀ h',ZipM z TI TO i1 i2 t1 t2 s.heap.objs.size k h'->h'.get? s.heap.objs.size=some { cls:=.type "tuple", data:=.seq #[x,y] } ->
   (∀ c o,c≠z->c≠TO->c≠i1->c≠i2->s.heap.get? c=some o->h'.get? c=some o)->Q (some (.ref s.heap.objs.size)) { s with heap:=h' }) :
 wpAny (model prog w) A (pyNext (.ref z)) Q E s:=by
 obtain⟨hz,hTI,⟨a,b,hTO⟩,g1,g2⟩:=Z;have hT:s.TypeIs (.ref z) "zip" := ⟨_,hz,rfl⟩;unfold pyNext;refine AQ (wpAny_attempt (wpAny_callSpecial?_slot (name:=Str.ofString "__next__") hT F.slot_zip_next (wpAny_call_entry F.slot_zip_next hT F.entry_zip_next ?_ (F.args_zip_next_1 _))));show wpAny _ _ (field (.ref z) 2 >>= _) _ _ _;refine AQ (wpAny_field hz rfl (x:=.bool false) rfl ?_);show wpAny _ _ (field (.ref z) 3 >>= _) _ _ _;refine AQ (wpAny_field hz rfl (x:=.ref TI) rfl ?_);refine AQ (wpAny_seqItems hTI rfl ?_);show wpAny _ _ (Builtin.SmallTypes.ownedTupleIsFree (.ref z) >>= _) _ _ _;refine AQ ?_;unfold Builtin.SmallTypes.ownedTupleIsFree;refine AQ (wpAny_field hz rfl (x:=.none) rfl (AX ?_));simp only[if_true];refine AQ (wpAny_rule ?_);refine AQ (wpAny_field hz rfl (x:=.ref TO) rfl ?_);refine AQ (wpAny_setField_rec hz (by simp) fun e₁ hz₁ sb₁=>?_);replace hz₁:IsZip e₁ z TI TO .ellipsis:=hz₁;refine AQ ?_;simp only[List.zipIdx_cons,List.zipIdx_nil,List.forIn_cons,List.forIn_nil];refine AQ (AQ (wpAny_onRaise ?_));show wpAny _ _ (Builtin.SmallTypes.nextOf (.ref i1) >>= _) _ _ _;refine AQ (b71 (a54 g1 sb₁.extBut D.a3) (h1.extBut sb₁.extBut n1.1) hx fun e₂ g1₂ sb₂=>AX ?_);have hTO₂:IsPair e₂ TO a b:=sb₂.extBut _ _ D.a8 (sb₁.extBut _ _ D.a2 hTO);refine AQ (wpAny_seqItems hTO₂ rfl ?_);refine AQ (wpAny_updateSeq_pair hTO₂ fun e₃ hTO₃ sb₃=>?_);replace hTO₃:IsPair e₃ TO x b:=hTO₃;refine AQ (wpAny_letGo (AX ?_));refine AQ (AQ (wpAny_onRaise ?_));show wpAny _ _ (Builtin.SmallTypes.nextOf (.ref i2) >>= _) _ _ _;refine AQ (b71 (a54 (a54 (a54 g2 sb₁.extBut D.a4) sb₂.extBut D.b1.symm) sb₃.extBut D.a9.symm)
  (((h2.extBut sb₁.extBut n2.1).extBut sb₂.extBut n2.2.2.1).extBut sb₃.extBut n2.2.1) hy fun e₄ g2₄ sb₄=>AX ?_)
 have hTO₄:IsPair e₄ TO x b:=sb₄.extBut _ _ D.a9 hTO₃;refine AQ (wpAny_seqItems hTO₄ rfl ?_);refine AQ (wpAny_updateSeq_pair hTO₄ fun e₅ hTO₅ sb₅=>?_);replace hTO₅:IsPair e₅ TO x y:=hTO₅;refine AQ (wpAny_letGo (AX (AX ?_)));refine AQ (wpAny_seqItems hTO₅ rfl ?_);refine AQ (wpAny_newTuple ?_);have hsz:e₅.objs.size=s.heap.objs.size:=by rw[sb₅.1,sb₄.1,sb₃.1,sb₂.1,sb₁.1]
 have hz₅:IsZip e₅ z TI TO .ellipsis:=sb₅.extBut _ _ D.a2.symm (sb₄.extBut _ _ D.a4.symm (sb₃.extBut _ _ D.a2.symm (sb₂.extBut _ _ D.a3.symm hz₁)));have kp₅:∀ c o,c≠z->c≠TO->c≠i1->c≠i2->s.heap.get? c=some o->e₅.get? c=some o:=fun c o c1 c2 c3 c4 e =>
  sb₅.extBut _ _ c2 (sb₄.extBut _ _ c4 (sb₃.extBut _ _ c2 (sb₂.extBut _ _ c3 (sb₁.extBut _ _ c1 e))))
 have g1₅:e₅.IsTupleIter i1 t1 (k+1):=a54 (a54 (a54 g1₂ sb₃.extBut D.a8.symm) sb₄.extBut D.b1) sb₅.extBut D.a8.symm;have g2₅:e₅.IsTupleIter i2 t2 (k+1):=a54 g2₄ sb₅.extBut D.a9.symm;have zlt:z < e₅.objs.size:=DQ hz₅;show wpAny _ _ (Builtin.SmallTypes.ownedTupleHandOut (.ref z) (.ref e₅.objs.size) >>= _) _ _ _;refine AQ ?_;unfold Builtin.SmallTypes.ownedTupleHandOut;have hz₆:IsZip (e₅.push { cls:=.type "tuple", data:=.seq #[x,y] }) z TI TO .ellipsis:=Aq _ hz₅;refine AQ (wpAny_setField_rec hz₆ (by simp) fun e₇ hz₇ sb₇=>?_);replace hz₇:IsZip e₇ z TI TO (rawInt e₅.objs.size):=hz₇;refine wpAny_setField_rec hz₇ (by simp) fun e₈ hz₈ sb₈=>?_;replace hz₈:IsZip e₈ z TI TO (rawInt e₅.objs.size):=hz₈;have up:∀ c o,c≠z->e₅.get? c=some o->e₈.get? c=some o:=fun c o c1 e=>sb₈.extBut _ _ c1 (sb₇.extBut _ _ c1 (Aq _ e));have hT₈:e₈.get? e₅.objs.size=some { cls:=.type "tuple", data:=.seq #[x,y] }:=sb₈.extBut _ _ (Nat.ne_of_gt zlt) (sb₇.extBut _ _ (Nat.ne_of_gt zlt) (Dx _ rfl));rw[hsz] at hz₈ hT₈;refine AX ⟨_,rfl,?_⟩;show wpAny _ _ (pure (some (Value.ref e₅.objs.size))) _ _ _;rw[hsz];refine AX (hQ e₈ ⟨hz₈,up _ _ D.a1 (kp₅ _ _ D.a1 D.a5 D.a6 D.a7 hTI),⟨_,_,up _ _ D.a2 hTO₅⟩,?_,?_⟩ hT₈ fun c o c1 c2 c3 c4 e=>up c o c1 (kp₅ c o c1 c2 c3 c4 e))
 ·obtain⟨o,e,r⟩:=g1₅;exact⟨o,up _ _ D.a3 e,r⟩
 ·obtain⟨o,e,r⟩:=g2₅;exact⟨o,up _ _ D.a4 e,r⟩
theorem h21 {z TI TO i1 i2 t1 t2:Addr}{k:Nat}{xs ys:Array Value}{Q:Option Value->Sd->Prop}(hh:A.handled=none)(D:ZApart z TI TO i1 i2)(n1:t1≠z/\t1≠TO/\t1≠i1/\t1≠i2)(n2:t2≠z/\t2≠TO/\t2≠i1/\t2≠i2)
 (Z:i59 z TI TO i1 i2 t1 t2 k s.heap)(h1:s.heap.IsTuple t1 xs)(h2:s.heap.IsTuple t2 ys)(hend:xs[k]?=none∨ys[k]?=none)
 (hQ:∀ h',(∀ c o,c≠z->c≠TO->c≠i1->c≠i2->s.heap.get? c=some o->h'.get? c=some o)->Q none { s with heap:=h' }) :
 wpAny (model prog w) A (pyNext (.ref z)) Q E s:=by
 obtain⟨hz,hTI,⟨a,b,hTO⟩,g1,g2⟩:=Z;have hT:s.TypeIs (.ref z) "zip" := ⟨_,hz,rfl⟩;unfold pyNext;have fin:∀(h':Heap)(e:Addr),(∀ c o,c≠z->c≠TO->c≠i1->c≠i2->s.heap.get? c=some o->h'.get? c=some o)->(∃ o,h'.get? e=some o/\o.cls=.type "StopIteration") ->
  wpAny (model prog w) A (do let b ← isInstance (.ref e) (.type "StopIteration");if b then pure none else throw (.ref e)) Q E { s with heap:=h' }:=fun h' e kp ⟨o,ho,hc⟩=>by
  refine AQ (wpAny_isInstance (T := "StopIteration") (b:=true) ⟨o,ho,hc⟩ isSubtype_stop ?_);exact AX (hQ _ kp)
 refine AQ (wpAny_attempt (wpAny_callSpecial?_slot (name:=Str.ofString "__next__") hT F.slot_zip_next (wpAny_call_entry F.slot_zip_next hT F.entry_zip_next ?_ (F.args_zip_next_1 _))));show wpAny _ _ (field (.ref z) 2 >>= _) _ _ _;refine AQ (wpAny_field hz rfl (x:=.bool false) rfl ?_);show wpAny _ _ (field (.ref z) 3 >>= _) _ _ _;refine AQ (wpAny_field hz rfl (x:=.ref TI) rfl ?_);refine AQ (wpAny_seqItems hTI rfl ?_);show wpAny _ _ (Builtin.SmallTypes.ownedTupleIsFree (.ref z) >>= _) _ _ _;refine AQ ?_;unfold Builtin.SmallTypes.ownedTupleIsFree;refine AQ (wpAny_field hz rfl (x:=.none) rfl (AX ?_));simp only[if_true];refine AQ (wpAny_rule ?_);refine AQ (wpAny_field hz rfl (x:=.ref TO) rfl ?_);refine AQ (wpAny_setField_rec hz (by simp) fun e₁ hz₁ sb₁=>?_);replace hz₁:IsZip e₁ z TI TO .ellipsis:=hz₁;refine AQ ?_;simp only[List.zipIdx_cons,List.zipIdx_nil,List.forIn_cons,List.forIn_nil];refine AQ (AQ (wpAny_onRaise ?_));show wpAny _ _ (Builtin.SmallTypes.nextOf (.ref i1) >>= _) _ _ _;cases hx:xs[k]? with
 | none =>
  refine AQ (c56 hh (a54 g1 sb₁.extBut D.a3) (h1.extBut sb₁.extBut n1.1) hx fun e₂ e sb₂ he=>?_);obtain⟨oe,hoe,hce⟩:=he;have hz₂:IsZip e₂ z TI TO .ellipsis:=sb₂ _ _ D.a3.symm hz₁;have hez:e≠z:=fun x=>by subst x;rw[hz₂] at hoe;cases hoe;simp at hce
  refine wpAny_setField_rec hz₂ (by simp) fun e₃ _ sb₃=>?_;exact fin e₃ e (fun c o c1 _ c3 _ x=>sb₃.extBut _ _ c1 (sb₂ _ _ c3 (sb₁.extBut _ _ c1 x))) ⟨oe,sb₃.extBut _ _ hez hoe,hce⟩
 | some x =>
  have hy:ys[k]?=none:=by
   rcases hend with h | h
   ·rw[hx] at h;cases h
   ·exact h
  refine AQ (b71 (a54 g1 sb₁.extBut D.a3) (h1.extBut sb₁.extBut n1.1) hx fun e₂ g1₂ sb₂=>AX ?_);have hTO₂:IsPair e₂ TO a b:=sb₂.extBut _ _ D.a8 (sb₁.extBut _ _ D.a2 hTO);refine AQ (wpAny_seqItems hTO₂ rfl ?_);refine AQ (wpAny_updateSeq_pair hTO₂ fun e₃ hTO₃ sb₃=>?_);refine AQ (wpAny_letGo (AX ?_));refine AQ (AQ (wpAny_onRaise ?_));show wpAny _ _ (Builtin.SmallTypes.nextOf (.ref i2) >>= _) _ _ _;refine AQ (c56 hh (a54 (a54 (a54 g2 sb₁.extBut D.a4) sb₂.extBut D.b1.symm) sb₃.extBut D.a9.symm)
   (((h2.extBut sb₁.extBut n2.1).extBut sb₂.extBut n2.2.2.1).extBut sb₃.extBut n2.2.1) hy fun e₄ e sb₄ he=>?_)
  obtain⟨oe,hoe,hce⟩:=he;have hz₄:IsZip e₄ z TI TO .ellipsis:=sb₄ _ _ D.a4.symm (sb₃.extBut _ _ D.a2.symm (sb₂.extBut _ _ D.a3.symm hz₁));have hez:e≠z:=fun x=>by subst x;rw[hz₄] at hoe;cases hoe;simp at hce
  refine wpAny_setField_rec hz₄ (by simp) fun e₅ _ sb₅=>?_;exact fin e₅ e (fun c o c1 c2 c3 c4 x=>sb₅.extBut _ _ c1 (sb₄ _ _ c4 (sb₃.extBut _ _ c2 (sb₂.extBut _ _ c3 (sb₁.extBut _ _ c1 x))))) ⟨oe,sb₅.extBut _ _ hez hoe,hce⟩
end
theorem g95 (t1 t2:Addr)(xs ys:Array Value) :
 Meets (Builtin.«zip.__new__» ⟨[.type "zip", .ref t1,.ref t2],[]⟩) (fun _ R s=>s.heap.IsTuple t1 xs/\s.heap.IsTuple t2 ys /\
  ∀ h',i59 (s.heap.objs.size+4) (s.heap.objs.size+2) (s.heap.objs.size+3) s.heap.objs.size (s.heap.objs.size+1) t1 t2 0 h'->(∀ c o,s.heap.get? c=some o->h'.get? c=some o) ->
   R (.ok (.ret (.ref (s.heap.objs.size+4)))) { s with heap:=h' }) :=
 .of_wp fun prog w A R s h=>by
  obtain⟨hp,g,d,tk,os⟩:=s;obtain⟨hl1,hl2,h⟩:=h;have hsub:=sub_zip;have hL1:Heap.IsTuple (Shared.heap ⟨hp,g,d,tk,os⟩) t1 xs:=hl1;have hL2:Heap.IsTuple (Shared.heap ⟨hp.push { cls:=.type "tuple_iterator", data:=.fields #[.ref t1,.int 0 0] },g,d,tk,os⟩) t2 ys:=by
   obtain⟨o,e,r⟩:=hl2;exact⟨o,Aq _ e,r⟩
  wp_walk using wpAny_pyIter_tuple hL1,wpAny_pyIter_tuple hL2
  refine⟨_,rfl,?_⟩
  let q1:=hp.push { cls:=.type "tuple_iterator", data:=.fields #[.ref t1,.int 0 0] }
  let q2:=q1.push { cls:=.type "tuple_iterator", data:=.fields #[.ref t2,.int 0 0] }
  let q3:=q2.push { cls:=.type "tuple", data:=.seq #[.ref hp.objs.size,.ref q1.objs.size] }
  let q4:=q3.push { cls:=.type "tuple", data:=.seq #[.none,.none] }
  let q5:=q4.push { cls:=.type "zip", data:=.fields #[.none,.bool false,.bool false,.ref q2.objs.size,.ref q3.objs.size] }
  have z1:q1.objs.size=hp.objs.size+1:=Heap.size_push ..;have z2:q2.objs.size=hp.objs.size+2:=by show(q1.push _).objs.size=_;rw[Heap.size_push,z1]
  have z3:q3.objs.size=hp.objs.size+3:=by show(q2.push _).objs.size=_;rw[Heap.size_push,z2]
  have z4:q4.objs.size=hp.objs.size+4:=by show(q3.push _).objs.size=_;rw[Heap.size_push,z3]
  have p5:q5.get? q4.objs.size=some { cls:=.type "zip", data:=.fields #[.none,.bool false,.bool false,.ref q2.objs.size,.ref q3.objs.size] }:=Dx _ rfl;have p4:q5.get? q3.objs.size=some { cls:=.type "tuple", data:=.seq #[.none,.none] }:=Aq _ (Dx _ rfl);have p3:q5.get? q2.objs.size=some { cls:=.type "tuple", data:=.seq #[.ref hp.objs.size,.ref q1.objs.size] }:=Aq _ (Aq _ (Dx _ rfl));have p2:q5.get? q1.objs.size=some { cls:=.type "tuple_iterator", data:=.fields #[.ref t2,.int 0 0] }:=Aq _ (Aq _ (Aq _ (Dx _ rfl)));have p1:q5.get? hp.objs.size=some { cls:=.type "tuple_iterator", data:=.fields #[.ref t1,.int 0 0] }:=Aq _ (Aq _ (Aq _ (Aq _ (Dx _ rfl))));rw[z4,z2,z3] at p5;rw[z3] at p4;rw[z2,z1] at p3;rw[z1] at p2;have fin:=h q5 ⟨p5,p3,⟨_,_,p4⟩,⟨_,p1,rfl,rfl⟩,⟨_,p2,rfl,rfl⟩⟩ fun c o x =>
   Aq _ (Aq _ (Aq _ (Aq _ (Aq _ x))))
  rw[← z4] at fin;exact fin
section
variable {prog:Pm}{w:World}{A:Around}{E:VSP}{s:Sd}
theorem f43 {t1 t2:Addr}{xs ys:Array Value}{Q:VSP}(h1:s.heap.IsTuple t1 xs)(h2:s.heap.IsTuple t2 ys)
 (h:∀ h',i59 (s.heap.objs.size+4) (s.heap.objs.size+2) (s.heap.objs.size+3) s.heap.objs.size (s.heap.objs.size+1) t1 t2 0 h'->(∀ c o,s.heap.get? c=some o->h'.get? c=some o)->Q (.ref (s.heap.objs.size+4)) { s with heap:=h' }) :
 wpAny (model prog w) A (call (.type "zip") [.ref t1,.ref t2]) Q E s:=by
 refine callType_new F.called_zip (by decide) (F.typeCall_zip_2 _ _) (F.newCall_zip_2 _ _) (fun obj=>F.args_object_init_3 obj _ _) F.entry_zip_new (g95 t1 t2 xs ys) ⟨h1,h2,fun h' Z kp=>?_⟩;exact⟨⟨_,Z.1,rfl⟩,h h' Z kp⟩
end
def Itz (K:WFr)(t1 t2:Addr):It :=
 ⟨fun i H=>∃ xs ys x y,SqT K H t1 xs/\SqT K H t2 ys/\xs[i]?=some x/\ys[i]?=some y,
  fun i H v H'=>∃ T x y,H T=none/\v=.ref T/\(∀ xs,SqT K H t1 xs->xs[i]?=some x)/\(∀ ys,SqT K H t2 ys->ys[i]?=some y)/\H'=upd H T (.tup [x,y]),
  fun i H=>∃ xs ys,SqT K H t1 xs/\SqT K H t2 ys/\(xs.length<=i∨ys.length<=i)⟩
theorem g70 {P:Pm}{w:World}{K:WFr}{elts:List Expr}{ek:Nat}{ep:Pos}(z TI TO i1 i2 t1 t2:Addr)(D:ZApart z TI TO i1 i2)(n1:t1≠z/\t1≠TO/\t1≠i1/\t1≠i2)(n2:t2≠z/\t2≠TO/\t2≠i1/\t2≠i2) :
 Turn P w K (.Tuple elts ek ep) (Itz K t1 t2) [z,TI,TO,i1,i2] z (fun k h=>i59 z TI TO i1 i2 t1 t2 k h) where
 mem:=by simp
 obj:=fun k h st b hb=>by
  obtain⟨hz,hTI,⟨a,c,hTO⟩,⟨o1,e1,_,d1⟩,⟨o2,e2,_,d2⟩⟩:=st;simp only[BZ,lN,or_false] at hb;rcases hb with rfl | rfl | rfl | rfl | rfl
  ·exact⟨_,hz,fun v q=>by cases (show Data.fields _=Data.cell v from q)⟩
  ·exact⟨_,hTI,fun v q=>by cases (show Data.seq _ _=Data.cell v from q)⟩
  ·exact⟨_,hTO,fun v q=>by cases (show Data.seq _ _=Data.cell v from q)⟩
  ·exact⟨o1,e1,fun v q=>by rw[d1] at q;cases q⟩
  ·exact⟨o2,e2,fun v q=>by rw[d2] at q;cases q⟩
 keep:=fun k h h' st kp=>by
  obtain⟨hz,hTI,⟨a,c,hTO⟩,⟨o1,e1,r1⟩,⟨o2,e2,r2⟩⟩:=st;exact⟨kp z (by simp) _ hz,kp TI (by simp) _ hTI,⟨a,c,kp TO (by simp) _ hTO⟩,⟨o1,kp i1 (by simp) _ e1,r1⟩,⟨o2,kp i2 (by simp) _ e2,r2⟩⟩
 item:=by
  intro X hP hw hK hc i pins s σ H E I hf st hg;subst hP hw hK;obtain⟨xs,ys,x,y,q1,q2,ex,ey⟩:=hg;obtain⟨its1,r1,p1,_⟩:=I.tuple q1;obtain⟨its2,r2,p2,_⟩:=I.tuple q2;obtain⟨u,hu,ru⟩:=r1.get ex;obtain⟨v,hv,rv⟩:=r2.get ey;refine g35 D n1 n2 st (show s.heap.IsTuple t1 its1.toArray from p1) (show s.heap.IsTuple t2 its2.toArray from p2) (x:=u) (y:=v) (by simpa using hu) (by simpa using hv) fun h' Z hT kp=>?_;obtain⟨hz,hTI,⟨a,c,hTO⟩,g1,g2⟩:=Z;refine⟨_,rfl,wpAny_letOwnedTupleGo_zip hz fun h'' hz' sb=>?_⟩;have hlt:∀ b∈[z,TI,TO,i1,i2],b < s.heap.objs.size:=fun b hb=>by
   obtain⟨hz0,hTI0,⟨a0,c0,hTO0⟩,⟨o1,e1,_⟩,⟨o2,e2,_⟩⟩:=st;simp only[BZ,lN,or_false] at hb;rcases hb with rfl | rfl | rfl | rfl | rfl
   ·exact DQ hz0
   ·exact DQ hTI0
   ·exact DQ hTO0
   ·exact DQ e1
   ·exact DQ e2
  have hTz:s.heap.objs.size≠z:=(nLQ (hlt z (by simp))).symm;have kp2:∀ b o,b∉[z,TI,TO,i1,i2]->s.heap.get? b=some o->h''.get? b=some o:=fun b o hb e=>by
   simp only[BZ,lN,or_false,not_or] at hb;exact sb.extBut _ _ hb.1 (kp b o hb.1 hb.2.2.1 hb.2.2.2.1 hb.2.2.2.2 e)
  have kpTI:∀ o,s.heap.get? TI=some o->h''.get? TI=some o:=fun o e=>sb.extBut _ _ D.a1 (kp TI o D.a1 D.a5 D.a6 D.a7 e);have hTn:h''.get? s.heap.objs.size=some { cls:=.type "tuple", data:=.seq #[u,v] }:=sb.extBut _ _ hTz hT;have fpN:∀ b∈[z,TI,TO,i1,i2],H b=none:=fun b hb=>(hf b hb).1;have hTf:H s.heap.objs.size=none:=I.hok.fresh (AZ _);have neT:∀ b q,H b=some q->b≠s.heap.objs.size:=fun b q e=>a04 e hTf;have nef:∀ b q,H b=some q->b∉[z,TI,TO,i1,i2]:=fun b q e hb=>by rw[fpN b hb] at e;cases e
  have hok:HOk X.prog X.w (upd H s.heap.objs.size (.tup [x,y])) h'':=fun b q e=>by
   by_cases hb:b=s.heap.objs.size
   ·subst hb;rw[a01] at e;cases e;exact⟨by show 2<=zL;decide,[u,v],.cons ru (.cons rv .nil),⟨_,hTn,rfl,0,rfl⟩⟩
   ·rw[a07 hb] at e;refine(I.hok b q e).stay (fun c w' hc' r=>kp2 c w' ?_ r) (fun c r=>by rw[a07 (neT c _ r)];exact r) fun c xs' r=>by rw[a07 (neT c _ r)];exact r
    rcases hc' with z' | z'
    ·rw[z'];exact nef b q e
    ·exact nef c _ z'
  have IS:Inv X pins σ (upd H s.heap.objs.size (.tup [x,y])) { s with heap:=h'' }:=by
   refine I.step (g':=s.gens) (t':=s.toks) (d':=s.drawn) (ch:=[z,TI,TO,i1,i2]) (fun b hb=>?_) (fun b o _ _ hc' e _=>kp2 b o hc' e) (fun b o _ _ hc' e _=>⟨o.slots,kp2 b o hc' e⟩) (fun b o _ e n=>?_)
    (fun b o hc' e=>⟨o,kp2 b o hc' e⟩) (fun b xs' e=>by rw[a07 (neT b _ e)];exact e) (fun b o q e=>by rw[a07 (neT b _ e)];exact e) (fun b ps e=>⟨#[],by rw[a07 (neT b _ e),e];simp⟩) (fun m hm=>?_) hok I.bare
   ·obtain⟨_,f1,f2,f3,f4,f5⟩:=hf b hb;exact⟨f3,f1,f4,f5⟩
   ·rw[a07 (nLQ (DQ e))];exact n
   ·obtain⟨o,es,ep',ho,r⟩:=hm;exact⟨o,es,ep',kp2 _ o (fun hb=>(hf _ hb).2.1 rfl) ho,r⟩
  refine⟨.ref s.heap.objs.size,_,IS,rfl,⟨_,x,y,hTf,rfl,fun xs' q=>by rw[I.tuple_inj q q1];exact ex,fun ys' q=>by rw[I.tuple_inj q q2];exact ey,rfl⟩,
   ⟨hz',sb.extBut _ _ D.a1 hTI,⟨a,c,sb.extBut _ _ D.a2 hTO⟩,a54 g1 sb.extBut D.a3,a54 g2 sb.extBut D.a4⟩,fun b hb=>?_⟩
  rw[a07 (nLQ (hlt b hb))];exact fpN b hb
 done:=by
  intro X hP hw hK hc i pins s σ H E I hf st hg;subst hP hw hK;obtain⟨xs,ys,q1,q2,hend⟩:=hg;obtain⟨its1,r1,p1,_⟩:=I.tuple q1;obtain⟨its2,r2,p2,_⟩:=I.tuple q2;have l1:=r1.length;have l2:=r2.length;refine h21 (I.ok.hd hc) D n1 n2 st (show s.heap.IsTuple t1 its1.toArray from p1) (show s.heap.IsTuple t2 its2.toArray from p2) (by
   rcases hend with q | q
   ·exact .inl (Array.getElem?_eq_none (by rw[lS];lia))
   ·exact .inr (Array.getElem?_eq_none (by rw[lS];lia))) fun h' kp=>⟨rfl,?_⟩
  have kp2:∀ b o,b∉[z,TO,i1,i2]->s.heap.get? b=some o->h'.get? b=some o:=fun b o hb e=>by
   simp only[BZ,lN,or_false,not_or] at hb;exact kp b o hb.1 hb.2.1 hb.2.2.1 hb.2.2.2 e
  have sub:∀ b∈[z,TO,i1,i2],b∈[z,TI,TO,i1,i2]:=fun b hb=>by
   simp only[BZ,lN,or_false] at hb ⊢;rcases hb with q | q | q | q
   ·exact .inl q
   ·exact .inr (.inr (.inl q))
   ·exact .inr (.inr (.inr (.inl q)))
   ·exact .inr (.inr (.inr (.inr q)))
  have nef:∀ b q,H b=some q->b∉[z,TO,i1,i2]:=fun b q e hb=>by rw[(hf b (sub b hb)).1] at e;cases e
  refine I.step (g':=s.gens) (t':=s.toks) (d':=s.drawn) (ch:=[z,TO,i1,i2]) (fun b hb=>?_) (fun b o _ _ hc' e _=>kp2 b o hc' e) (fun b o _ _ hc' e _=>⟨o.slots,kp2 b o hc' e⟩) (fun _ _ _ _ n=>n)
   (fun b o hc' e=>⟨o,kp2 b o hc' e⟩) (fun _ _ e=>e) (fun _ _ _ e=>e) (fun b ps e=>⟨#[],by rw[e];simp⟩) (fun m hm=>?_) (fun b q e=>?_) I.bare
  ·obtain⟨_,f1,f2,f3,f4,f5⟩:=hf b (sub b hb);exact⟨f3,f1,f4,f5⟩
  ·obtain⟨o,es,ep',ho,r⟩:=hm;exact⟨o,es,ep',kp2 _ o (fun hb=>(hf _ (sub _ hb)).2.1 rfl) ho,r⟩
  ·refine(I.hok b q e).stay (fun c w' hc' r=>kp2 c w' ?_ r) (fun _ r=>r) fun _ _ r=>r;rcases hc' with z' | z'
   ·rw[z'];exact nef b q e
   ·exact nef c _ z'
 self:=fun A i s Q E st h=>wpAny_pyIter_zip st.1 h
section
variable {X:Cx}
def iZip (K:WFr)(ta:TA):TI:=fun σ H R=>ta σ H fun vs H1=>∃ t1 t2,vs=[.ref t1,.ref t2]/\(∃ xs,SqT K H1 t1 xs)/\(∃ ys,SqT K H1 t2 ys)/\R (Itz K t1 t2) H1
theorem i20 {a b:Expr}{ta:TA}{p pos:Pos}{elts:List Expr}{ek:Nat}{ep:Pos}(hg:Gl X "zip")(hm:X.mg "zip" = none)(ha:PA X [a,b] ta)
 (hs:starEach [a,b] X.env=[(false,eval a X.env),(false,eval b X.env)]:=by rfl)(hs2:starEach [b] X.env=[(false,eval b X.env)]:=by rfl) :
 PI X (.Tuple elts ek ep) (.Call (.Name "zip" p) [a,b] [] pos) (iZip X.K ta):=by
 try constructor
 intro pins s σ H R I h;refine Call_ (c17 I hg hm PyProof.Rows.Boot.zip (PyProof.Rows.callWith_type1 (thn (ha pos pins s σ H _ I h) fun us s1 ⟨vs,H1,I1,r1,q1⟩=>?_) (by rw[hs,hs2]) (by rw[hs2];rfl)));obtain⟨t1,t2,e,⟨xs,q1⟩,⟨ys,q2⟩,q⟩:=q1;subst e;obtain⟨u,v,rfl,ru,rv⟩:=g28 r1;cases ru;cases rv;obtain⟨its1,_,p1,_⟩:=I1.tuple q1;obtain⟨its2,_,p2,_⟩:=I1.tuple q2;refine f43 (show s1.heap.IsTuple t1 its1.toArray from p1) (show s1.heap.IsTuple t2 its2.toArray from p2) fun h' Z kp=>?_;refine wpAny_pyIter_zip Z.1 ?_;have l1:@LT.lt Nat _ t1 s1.heap.objs.size:=p1.lt;have l2:@LT.lt Nat _ t2 s1.heap.objs.size:=p2.lt;have I2:Inv X pins σ H1 { s1 with heap:=h' }:=I1.kept (t':=s1.toks) kp
 refine⟨s1.heap.objs.size+4,[s1.heap.objs.size+4,s1.heap.objs.size+2,s1.heap.objs.size+3,s1.heap.objs.size,s1.heap.objs.size+1],_,_,H1,rfl,I2,
  g70 _ _ _ _ _ t1 t2 ⟨by show @Ne Nat _ _;lia,by show @Ne Nat _ _;lia,by show @Ne Nat _ _;lia,by show @Ne Nat _ _;lia,by show @Ne Nat _ _;lia,by show @Ne Nat _ _;lia,by show @Ne Nat _ _;lia,by show @Ne Nat _ _;lia,by show @Ne Nat _ _;lia,by show @Ne Nat _ _;lia⟩ ⟨by show @Ne Nat _ _;lia,by show @Ne Nat _ _;lia,by show @Ne Nat _ _;lia,by show @Ne Nat _ _;lia⟩ ⟨by show @Ne Nat _ _;lia,by show @Ne Nat _ _;lia,by show @Ne Nat _ _;lia,by show @Ne Nat _ _;lia⟩,Z,fun b hb=>?_,q⟩
 have hb':s1.heap.objs.size<=b:=by
  simp only[BZ,lN,or_false] at hb;rcases hb with rfl | rfl | rfl | rfl | rfl
  ·exact Nat.le_add_right _ _
  ·exact Nat.le_add_right _ _
  ·exact Nat.le_add_right _ _
  ·exact AZ _
  ·exact Nat.le_add_right _ _
 exact I1.fpOk hb' (I1.hok.fresh hb')
end
end L2
namespace L2
open PySem PySem.Spec PyProof.Rows
section
variable {X:Cx}
theorem a90:MtM X "str.split" (fun x xs H Q=>∃ z y,x=.str z/\xs=[.str y]/\(y.length == 0)=false/\z.length<=1000000/\∀ D,H D=none->Q (.ref D) (upd H D (.lst ((Txt.split z y).map V.str)))):=by
 try constructor
 intro pins s σ H x xs v us Q I rx rs h;obtain⟨z,y,rfl,rfl,hy,hz,q⟩:=h;obtain⟨t,rfl⟩:=rx;obtain⟨u,rfl,ru⟩:=rs.one;obtain⟨t',rfl⟩:=ru;have hsz:z.length<=zL:=by rw[sizeLine_eq];lia
 have hsl:=split_le z y;have put:∀(l:List (Str×Tok)) (tk:Nat),l.map (·.1)=Txt.split z y->EP X pins σ Q (.ref s.heap.objs.size) { s with heap:=s.heap.push { cls:=.type "list", data:=.seq (strValues l).toArray },toks:=tk }:=fun l tk e=>by
  have rv:=d28 l;rw[e] at rv;exact⟨.ref _,_,I.lnew rv (by rw[Aj,sizeLine_eq];lia),rfl,q _ I.fresh⟩
 cases h1:(decide (z.length < y.length)||decide (Builtin.Str.strKind z < Builtin.Str.strKind y))
 ·cases hf:(Builtin.Str.occurrences z y 0 z.length (z.length+1)).isEmpty
  ·have e0:Txt.split z y=Builtin.Str.partsBetween z (Builtin.Str.occurrences z y 0 z.length (z.length+1)) y.length:=by
    unfold Txt.split;rw[if_neg (ne_true_of_eq_false h1),if_neg (ne_true_of_eq_false hf)]
   refine call_meets F.slot_str_split (typeIs_str _ _ _) F.entry_str_split (F.args_str_split_2 _ _) (meets_str_split_sep z y t t' h1 hy hf hsz (by rw[← e0,sizeLine_eq];lia)) ?_;show wants _ _ _ { s with toks:=_,heap:=s.heap.push { cls:=.type "list", data:=.seq (strsFrom s.toks (Builtin.Str.partsBetween z (Builtin.Str.occurrences z y 0 z.length (z.length+1)) y.length)).toArray } }
   rw[strsFrom_eq];exact put (numbered s.toks _) _ ((numbered_texts _ _).trans e0.symm)
  ·have e0:Txt.split z y=[z]:=by
    unfold Txt.split;rw[if_neg (ne_true_of_eq_false h1),if_pos hf]
   exact call_meets F.slot_str_split (typeIs_str _ _ _) F.entry_str_split (F.args_str_split_2 _ _) (meets_str_split_not_found z y t t' h1 hy hf) (put [(z,t)] s.toks e0.symm)
 ·have e0:Txt.split z y=[z]:=by
   unfold Txt.split;rw[if_pos h1]
  exact call_meets F.slot_str_split (typeIs_str _ _ _) F.entry_str_split (F.args_str_split_2 _ _) (meets_str_split_cannot_occur z y t t' h1) (put [(z,t)] s.toks e0.symm)
theorem b52 {zs:List Str}{its:List Value}(r:Vals (zs.map V.str) its){j:Nat}(hj:j < its.length):∃(h:j < zs.length)(t:Tok),its[j]=.str zs[j] t:=by
 have hl:=r.length;rw[Aj] at hl;have h:j < zs.length:=by lia
 obtain⟨u,hu,t,e⟩:=r.get (i:=j) (x:=.str zs[j]) (by rw[CJ,Bx h];rfl);rw[Bx hj] at hu;cases hu;exact⟨h,t,e⟩
theorem b72 (xs ys:List Str):((List.range (min xs.length ys.length)).all (fun j=>xs.getD j "" == ys.getD j "") && xs.length == ys.length)=decide (xs=ys):=by
 rw[Bool.eq_iff_iff,Bool.and_eq_true,decide_eq_true_iff,List.all_eq_true,beq_iff_eq];constructor
 ·rintro⟨h1,h2⟩;apply List.ext_getElem h2;intro j ha hb
  have:=h1 j (List.mem_range.mpr (by lia))
  rw[lG,lG,Bx ha,Bx hb] at this;exact eq_of_beq this
 ·rintro rfl;exact⟨fun j _=>beq_self_eq_true _,rfl⟩
theorem f41 (hu:X.A.units < cLine):OpR X (compareOp .Eq) (fun x y H Q=>∃(a b:Addr) (xs ys:List Str),x=.ref a/\y=.ref b/\SqT X.K H a (xs.map V.str)/\SqT X.K H b (ys.map V.str)/\Q (.bl (decide (xs=ys))) H):=by
 try constructor
 intro pins s σ H x y v u Q I rx ry h;obtain⟨a,b,xs,ys,rfl,rfl,ha,hb,q⟩:=h;cases rx;cases ry;obtain⟨its,r1,p1,_⟩:=I.tuple ha;obtain⟨its2,r2,p2,_⟩:=I.tuple hb;have l1:=r1.length;have l2:=r2.length;rw[Aj] at l1 l2;refine SeqAt.eq_tupleAt (e:=fun j=>xs.getD j "" == ys.getD j "") (show s.heap.IsTuple a its.toArray from p1) (show s.heap.IsTuple b its2.toArray from p2) hu (fun j h1 h2=>?_) ⟨.bl _,H,I,?_,q⟩
 ·obtain⟨g1,t1,e1⟩:=b52 r1 (j:=j) (by simpa using h1);obtain⟨g2,t2,e2⟩:=b52 r2 (j:=j) (by simpa using h2);have z1:its.toArray[j]=.str xs[j] t1:=by simpa using e1
  have z2:its2.toArray[j]=.str ys[j] t2:=by simpa using e2
  rw[z1,z2,lG,lG,Bx g1,Bx g2];exact SeqAt.EqAt.str_str _ _ _ _
 ·show Value.bool _=Value.bool _;rw[lS,lS,← l1,← l2,b72]
end
end L2
namespace L2
open PySem PySem.Spec PyProof.Rows
def c50 (c:Nat):List Nat->List (List Nat)
 | []=>[[]]
 | a::r=>if a=c then []::c50 c r else match c50 c r with
  | []=>[[a]]
  | h::t=>(a::h)::t
theorem b38 (c a:Nat) (r:List Nat):c50 c (a::r)=if a=c then []::c50 c r else match c50 c r with
 | []=>[[a]]
 | h::t=>(a::h)::t:=rfl
theorem c02 (c:Nat):∀ l,∃ h t,c50 c l=h::t
 | []=>⟨[],[],rfl⟩
 | a::r=>by
  unfold c50;by_cases e:a=c
  ·rw[if_pos e];exact⟨_,_,rfl⟩
  ·rw[if_neg e];obtain⟨h,t,q⟩:=c02 c r;rw[q];exact⟨_,_,rfl⟩
theorem d11 {c:Nat}:∀(p r:List Nat),c∉p->c50 c (p++c::r)=p::c50 c r
 | [],r,_=>by
  show c50 c (c::r)=_;rw[b38,if_pos rfl]
 | a::p,r,h=>by
  have ha:a≠c:=fun e=>h (e ▸ BX);have hp:c∉p:=fun m=>h (BQ _ m);show c50 c (a::(p++c::r))=_;rw[b38,if_neg ha,d11 p r hp]
theorem e47 {c:Nat}:∀(p:List Nat),c∉p->c50 c p=[p]
 | [],_=>rfl
 | a::p,h=>by
  have ha:a≠c:=fun e=>h (e ▸ BX);have hp:c∉p:=fun m=>h (BQ _ m);unfold c50;rw[if_neg ha,e47 p hp]
def g11 (c:Nat):List (List Nat)->List Nat
 | []=>[]
 | [p]=>p
 | p::q::r=>p++c::g11 c (q::r)
theorem e59 {c:Nat}:∀(ps:List (List Nat)),ps≠[]->(∀ p∈ps,c∉p)->c50 c (g11 c ps)=ps
 | [],h,_=>absurd rfl h
 | [p],_,h=>e47 p (h p BX)
 | p::q::r,_,h=>by
  show c50 c (p++c::g11 c (q::r))=_;rw[d11 p _ (h p BX),e59 (q::r) (by simp) fun x hx=>h x (BQ _ hx)]
theorem c69 (c:Nat):∀ ts:List Str,(Str.join ⟨#[c]⟩ ts).cps.toList=g11 c (ts.map fun t=>t.cps.toList)
 | []=>rfl
 | [t]=>rfl
 | t::u::r=>by
  show(t++(⟨#[c]⟩:Str)++Str.join ⟨#[c]⟩ (u::r)).cps.toList=t.cps.toList++c::g11 c ((u::r).map fun t=>t.cps.toList);rw[Str.cps_append,Str.cps_append,Array.toList_append,Array.toList_append,c69 c (u::r),List.append_assoc];rfl
theorem d70 (x:Str) (c:Nat):(Txt.split x ⟨#[c]⟩).map (fun t=>t.cps.toList)=c50 c x.cps.toList:=by
 have h1:=StrLaws.join_split x ⟨#[c]⟩;have h2:=c69 c (Txt.split x ⟨#[c]⟩);rw[h1] at h2;rw[h2,e59]
 ·intro e;have hp:=split_pos x ⟨#[c]⟩
  have:((Txt.split x ⟨#[c]⟩).map fun t=>t.cps.toList).length=0:=by rw[e];rfl
  rw[Aj] at this;omega
 ·intro p hp;obtain⟨t,ht,rfl⟩:=Ex.mp hp;exact StrLaws.split_free x c t ht
def b00 (l:List Nat):Str:=⟨l.toArray⟩
theorem c75 (x:Str):b00 x.cps.toList=x:=by
 unfold b00;cases x;simp
theorem c27 (x:Str) (c:Nat):Txt.split x ⟨#[c]⟩=(c50 c x.cps.toList).map b00:=by
 rw[← d70,List.map_map]
 have:(b00 ∘ fun(t:Str)=>t.cps.toList)=id:=by
  funext t;exact c75 t
 rw[this,List.map_id]
theorem e05 (x:Str):(Txt.slice x (some 1) none).cps.toList=x.cps.toList.drop 1:=by
 have hL:x.cps.toList.length=x.length:=by simp[Str.length]
 have e0:Builtin.Str.strSliceIndices (some 1) none 1 x.length=Builtin.Str.strSliceIndices (some 1) (some (x.length:Int)) 1 x.length:=by
  have h1:¬(x.length:Int) < 0:=by omega
  have h2:max (0:Int) (min (x.length:Int) (x.length:Int))=(x.length:Int):=by omega
  unfold Builtin.Str.strSliceIndices;simp only[if_neg h1,h2];first | rfl | simp
 unfold Txt.slice;rw[e0];by_cases h0:x.length=0
 ·have e1:x.cps.toList=[]:=List.length_eq_zero_iff.mp (by omega);have h2:=sliceIndices_le (some 1) (some (x.length:Int)) x.length;rw[if_pos (by rw[Bool.and_eq_true];exact⟨rfl,beq_iff_eq.mpr (by omega)⟩),e1];rfl
 ·have e2:=StrLaws.strSliceIndices_plain (a:=1) (b:=x.length) (len:=x.length) (by omega) (AZ _);have e3:=StrLaws.sliced_plain x (a:=1) (b:=x.length) (by omega) (AZ _);have e2':(Builtin.Str.strSliceIndices (some 1) (some (x.length:Int)) 1 x.length).length=x.length-1:=by
   have:Builtin.Str.strSliceIndices (some 1) (some (x.length:Int)) 1 x.length=(List.range (x.length-1)).map (fun k=>1+k):=e2
   rw[this,Aj,List.length_range]
  rw[if_neg (by
   intro q;rw[Bool.and_eq_true] at q
   have:=eq_of_beq q.2
   omega)]
  show((Builtin.Str.strSliceIndices (some 1) (some (x.length:Int)) 1 x.length).filterMap (x.cps[·]?))=_;have e4:(Builtin.Str.strSliceIndices (some 1) (some (x.length:Int)) 1 x.length).filterMap (x.cps[·]?)=(x.cps.toList.drop 1).take (x.length-1):=e3;rw[e4,Dz (by rw[EJ,hL];exact AZ _)]
end L2
namespace L2
open PySem PySem.Spec PyProof.Rows
theorem FnOk.or {P:Pm}{w:World}{K:WFr}{mg:Str->Option Value}{base:Heap}{CX:CXT}{k:Nat}{f:Addr}{fd:FD}{ps:List Str}{sp sp':Sp}(F:FnOk P w K mg base CX k f fd ps sp)(G:FnOk P w K mg base CX k f fd ps sp') :
 FnOk P w K mg base CX k f fd ps (fun vs H Q E=>sp vs H Q E∨sp' vs H Q E) :=
 ⟨fun vs H Q E q=>q.elim (F.len vs H Q E) (G.len vs H Q E),fun A outer s H args us vs Q E hr he hb hv hs=>hs.elim (F.run A outer s H args us vs Q E hr he hb hv) (G.run A outer s H args us vs Q E hr he hb hv)⟩
section
variable {X:Cx}
theorem d20 (xs ys:List Str)(h:xs.length=ys.length):(List.range xs.length).all (fun j=>xs.getD j "" == ys.getD j "")=decide (xs=ys):=by
 have:=b72 xs ys
 rw[h,Nat.min_self] at this;rw[← this,h];simp
theorem g13 (hu:X.A.units < cLine):OpR X (compareOp .Eq) (fun x y H Q=>∃(a b:Addr) (xs ys:List Str),x=.ref a/\y=.ref b/\SqL X.K H a (xs.map V.str)/\SqL X.K H b (ys.map V.str)/\Q (.bl (decide (xs=ys))) H):=by
 try constructor
 intro pins s σ H x y v u Q I rx ry h;obtain⟨a,b,xs,ys,rfl,rfl,ha,hb,q⟩:=h;cases rx;cases ry;obtain⟨its,r1,p1,_⟩:=I.list ha;obtain⟨its2,r2,p2,_⟩:=I.list hb;have l1:=r1.length;have l2:=r2.length;rw[Aj] at l1 l2;by_cases hl:xs.length=ys.length
 ·refine SeqAt.eq_listAt (e:=fun j=>xs.getD j "" == ys.getD j "") p1.isList p2.isList (by rw[lS,lS];lia) hu (fun j h1 h2=>?_) ⟨.bl _,H,I,?_,q⟩
  ·obtain⟨g1,t1,e1⟩:=b52 r1 (j:=j) (by simpa using h1);obtain⟨g2,t2,e2⟩:=b52 r2 (j:=j) (by simpa using h2);have z1:its.toArray[j]=.str xs[j] t1:=by simpa using e1
   have z2:its2.toArray[j]=.str ys[j] t2:=by simpa using e2
   rw[z1,z2,lG,lG,Bx g1,Bx g2];exact SeqAt.EqAt.str_str _ _ _ _
  ·show Value.bool _=Value.bool _;rw[lS,← l1,d20 xs ys hl]
 ·refine SeqAt.eq_list_lengthsAt p1.isList p2.isList (by rw[lS,lS,bne_iff_ne];lia) hu ⟨.bl _,H,I,?_,q⟩;show Value.bool _=Value.bool _;rw[Fq fun e=>hl (by rw[e])]
end
section
variable {X:Cx}{elt iter:Expr}{x:Str}{px pos:Pos}{scope:Scope}{wi:TI}{te:TE}
theorem h28 {oN:List Str}(hnd:oN.Nodup){k:Nat}(hk:oN[k]?=some x)(σ:St)(hl:σ.length=oN.length):(σ.set k none).length=oN.length /\
 ∀(i:Nat) (y:Str) (v:V),oN[i]?=some y->(σ.set k none)[i]?=some (some v)->y≠x/\∃ j:Nat,oN[j]?=some y/\σ[j]?=some (some v):=by
 refine⟨by rw[List.length_set,hl],fun i y v h1 h2=>?_⟩;have hkl:k < σ.length:=by rw[hl];exact(Ej.mp hk).1
 by_cases hi:i=k
 ·subst hi;rw[List.getElem?_set_self hkl] at h2;cases h2
 ·rw[lE (Ne.symm hi)] at h2;exact⟨fun e=>hi (b76 hnd (e ▸ h1) hk),i,h1,h2⟩
end
end L2
namespace L2
open PySem PySem.Spec PyProof.Rows
section
variable {prog:Pm}{w:World}{A:Around}{E:VSP}{s:Sd}
theorem e71 {t sl:Addr}{items:Array Value}{vl vu:Value}{lo hi:Option Int}{Q:VSP}(ht:IsTup s.heap t items)(hs:s.heap.IsSliceOf sl vl vu .none)(pl:IsPart vl lo)(pu:IsPart vu hi)
 (hw:HT.sIx items.size 0 lo=0/\HT.sIx items.size items.size hi=items.size)(h:Q (.ref t) s):wpAny (model prog w) A (getItem (.ref t) (.ref sl)) Q E s:=by
 obtain⟨os,hos,hcs,hds⟩:=id hs;have hTs:s.TypeIs (.ref sl) "slice" := ⟨os,hos,hcs⟩;unfold getItem;try with_reducible refine wpAny_holding ?_
 first | refine AQ (AX ?_) | skip
 refine AQ (wpAny_sequenceKey ht.typeIs (by decide) ?_);refine AQ (wpAny_callSpecial?_slot (name:=Str.ofString "__getitem__") ht.typeIs PyProof.Rows.slot_tuple_getitem (wpAny_call_entry PyProof.Rows.slot_tuple_getitem ht.typeIs entry_tuple_getitem ?_ (args_tuple_getitem _ _)));show wpAny _ _ (Builtin.Tuple.tupleItemsOf (.ref t) >>= _) _ _ s;refine AQ (tupleItemsOf_ ht ?_);refine AQ (DZ hTs ?_);rw[if_pos (by decide)];refine AQ (HT.sliceApplied_gen hs pl pu ?_);have hyes:(((HT.sIx items.size 0 lo:Nat):Int) == 0 && (1:Int) == 1 && (HT.sIx items.size items.size hi-HT.sIx items.size 0 lo) == items.size)=true:=by
  rw[hw.1,hw.2];simp
 show wpAny _ _ (if (((HT.sIx items.size 0 lo:Nat):Int) == 0 && (1:Int) == 1 && (HT.sIx items.size items.size hi-HT.sIx items.size 0 lo) == items.size)=true then _ else _) _ _ s;rw[if_pos hyes];refine AQ (m:=Builtin.Tuple.tupleIsExact _) ?_;unfold Builtin.Tuple.tupleIsExact;refine AQ (DZ ht.typeIs (AX ?_));rw[if_pos (by decide)];refine AQ (wpAny_rule ?_);first
  | exact AX ⟨_,rfl,AX h⟩
  | exact AQ (AX (AX ⟨_,rfl,AX h⟩))
  | exact AQ (AX ⟨_,rfl,AX h⟩)
theorem h09 {t b:Addr}{ws:List Value}{Q:VSP}(ht:IsTup s.heap t ([]:List Value).toArray)(hb:IsTup s.heap b ws.toArray)(h:Q (.ref b) s):wpAny (model prog w) A (binaryOp .Add (.ref t) (.ref b)) Q E s:=by
 obtain⟨⟨cls,dd,data,sl⟩,ho,hc,n,hd⟩:=id ht;obtain⟨⟨cls2,dd2,data2,sl2⟩,ho2,hc2,n2,hd2⟩:=id hb;simp only at hc hd hc2 hd2;subst hc hd hc2 hd2;exact concat_meets ⟨_,ho,rfl⟩ ⟨_,ho2,rfl⟩ noFill_tuple_add seq_tuple_add PySem.F.slot_tuple_add PySem.F.entry_tuple_add (PySem.F.args_tuple_add_2 _ _) (tuple_addW0 t b [].toArray ws.toArray n n2 dd dd2 sl sl2 (by simp)) ⟨ho,ho2,h⟩
end
section
variable {X:Cx}
theorem e66 {xs:List V}{lo hi:Option Int}(h:HT.sIx xs.length 0 lo=0/\HT.sIx xs.length xs.length hi=xs.length):c24 xs lo hi=xs:=by
 unfold c24;rw[h.1,h.2,List.drop_zero,Nat.sub_zero,Dz (AZ _)]
theorem g30:SlR X (fun x lo hi H Q=>∃(a:Addr) (xs:List V),x=.ref a/\H a=some (.tup xs)/\∀(t:Addr)(H':Hp),H' t=some (.tup (c24 xs lo hi))->Same H H'->Q (.ref t) H'):=by
 try constructor
 intro pins s σ H x v vl vu lo hi sl Q I rx hs pl pu h;obtain⟨a,xs,rfl,ha,q⟩:=h;by_cases hw:HT.sIx xs.length 0 lo=0/\HT.sIx xs.length xs.length hi=xs.length
 ·cases rx;obtain⟨its,r,ht,hz⟩:=I.tuple (SqT.of ha);have hlen:its.toArray.size=xs.length:=by rw[lS];exact r.length.symm
  refine⟨"tuple", _,PyProof.Rows.slot_tuple_getitem.lookup,ht.typeIs,?_⟩;exact e71 ht hs pl pu (by rw[hlen];exact hw) ⟨.ref a,H,I,rfl,q a H (by rw[e66 hw];exact ha) (Same.refl H)⟩
 ·exact i41 pins s σ H (.ref a) v vl vu lo hi sl Q I rx hs pl pu ⟨a,xs,rfl,SqT.of ha,hw,fun p hp=>q p _ a01 ((Same.refl H).upd hp)⟩
theorem c88:OpR X (binaryOp .Add) (fun x y H Q=>∃(a b:Addr) (xs ys:List V),x=.ref a/\y=.ref b/\H a=some (.tup xs)/\H b=some (.tup ys)/\xs.length+ys.length<=zL /\
 ∀(t:Addr)(H':Hp),H' t=some (.tup (xs++ys))->Same H H'->Q (.ref t) H'):=by
 try constructor
 intro pins s σ H x y v u Q I rx ry h;obtain⟨a,b,xs,ys,rfl,rfl,ha,hb,hz,q⟩:=h;cases xs with
 | nil =>
  cases rx;cases ry;obtain⟨its,r1,p1,_⟩:=I.tuple (SqT.of ha);obtain⟨its2,r2,p2,_⟩:=I.tuple (SqT.of hb);cases r1;exact h09 p1 p2 ⟨.ref b,H,I,rfl,q b H hb (Same.refl H)⟩
 | cons x0 xr =>
  exact h60 pins s σ H (.ref a) (.ref b) v u Q I rx ry ⟨a,b,x0::xr,ys,rfl,rfl,SqT.of ha,SqT.of hb,by simp,hz,fun e=>q a H (by rw[e,List.append_nil];exact ha) (Same.refl H),fun _ p hp=>q p _ a01 ((Same.refl H).upd hp)⟩
end
end L2
namespace L2
open PySem PySem.Spec PyProof.Rows
section
open PySem.W Builtin Builtin.ObjectAttr
theorem slot_bga:Slot "BaseException" "__getattribute__" "BaseException.__getattribute__" :=
 .of (owner := "BaseException") (n := "__getattribute__") (by rw[typeLookup_type,builtinLookup_eq_fast];kernel_rfl) (by decide +kernel) (by decide +kernel) (by decide +kernel)
  (by first | exact .inl (by decide +kernel) | exact .inr (by decide +kernel)) (by rw[isSubtype_type];kernel_rfl)
def h95:List Value:=[.type "ValueError", .type "Exception", .type "BaseException", .type "object"]
def e62:List Value->Bool
 | .ref _::r=>r == h95||e62 r
 | _=>false
theorem d18 (self:Value):∀ {l:List Value},e62 l=true->refuseLoop self "__setattr__" l=pure ()
 | .ref c::r,e=>by
  rw[refuseLoop_ref];rcases Bool.or_eq_true_iff.mp e with q | q
  ·rw[beq_iff_eq.mp q];exact PySem.F.store_ValueError.passes self
  ·exact d18 self q
def xcIn (K:Frag)(C:Addr):Bool:=hasDictIn K C && mroIn K C (.type "BaseException") == some true && mroIn K C (.type "object") == some true &&
 findIn K (.ref C) "__getattribute__" == some (some (.builtin "BaseException.__getattribute__")) && findIn K (.ref C) "__getattr__" == some none &&
 findIn K (.ref C) "__class__" == some (some (.builtin "object.__class__")) && findIn K (.ref C) "__setattr__" == some (some (.builtin "object.__setattr__")) &&
 ((clsIn K C).any fun cd=>e62 cd.mro)
structure XC (K:Frag)(C:Addr):Prop where
 hd:hasDictIn K C=true
 hb:mroIn K C (.type "BaseException")=some true
 hm:mroIn K C (.type "object")=some true
 ga:findIn K (.ref C) "__getattribute__" = some (some (.builtin "BaseException.__getattribute__"))
 gk:findIn K (.ref C) "__getattr__" = some none
 ca:findIn K (.ref C) "__class__" = some (some (.builtin "object.__class__"))
 sa:findIn K (.ref C) "__setattr__" = some (some (.builtin "object.__setattr__"))
 ov:((clsIn K C).any fun cd=>e62 cd.mro)=true
theorem XC.of {K:Frag}{C:Addr}(e:xcIn K C=true):XC K C:=by
 simp only[xcIn,Bool.and_eq_true,beq_iff_eq] at e;obtain⟨⟨⟨⟨⟨⟨⟨a,b⟩,c⟩,d⟩,f⟩,g⟩,h⟩,i⟩:=e;exact⟨a,b,c,d,f,g,h,i⟩
variable {prog:Pm}{w:World}{A:Around}{E:VSP}{s:Sd}{K:Frag}{x C:Addr}{ox:Obj}{od:Option Obj}{name:Str}
theorem g73 {tk:Tok}{Q:VSP}(X:K.In s.heap)(I:InstAt s.heap x ox C od)(Y:XC K C)
 (h:wpAny (model prog w) A.in1 (Builtin.«object.__getattribute__» ⟨[.ref x,.str name tk],[]⟩) (fun fin s'=>match fin with | .done (.ret v)=>Q v s' | _=>False) (fun _ _=>False) s) :
 wpAny (model prog w) A (call (.builtin "BaseException.__getattribute__") [.ref x,.str name tk]) Q E s:=by
 refine wpAny_call ?_;refine codeAny_call_builtin slot_bga.plain PySem.F.entry_bexc_ga ?_;refine @check_slot (model prog w) _ _ s "BaseException.__getattribute__" "BaseException" "__getattribute__" (.ref x) [.str name tk] [] _ (by decide +kernel) (by decide +kernel) (I.type.andThen (looks_mroIn X Y.hb)) (PySem.F.args_bexc_ga (.ref x) (.str name tk)) ?_;refine Dq h (fun fin s' z=>?_) fun _ _ z=>z.elim;rcases fin with(_ | _ | _ | _) | _ <;> first | exact z | exact z.elim
theorem h29 {tk:Tok}{fill expr:Bool}{Q:VSP}(X:K.In s.heap)(I:InstAt s.heap x ox C od)(Y:XC K C)
 (h:wpAny (model prog w) A.in1 (Builtin.«object.__getattribute__» ⟨[.ref x,.str name tk],[]⟩) (fun fin s'=>match fin with | .done (.ret v)=>wpAny (model prog w) A (handedOut v) Q E s' | _=>False) (fun _ _=>False) s) :
 wpAny (model prog w) A (getAttrBy (.ref x) (.str name tk) fill expr) Q E s:=by
 unfold getAttrBy;refine wpAny_holding (AQ (I.type.here (AQ ((looks_findIn X Y.ga).here ?_))));dsimp only;rw[show(onTheHeap (Value.ref C) && Value.builtin "BaseException.__getattribute__" == Value.builtin "object.__getattribute__")=false from by rw[show(Value.builtin "BaseException.__getattribute__" == Value.builtin "object.__getattribute__")=false from by decide +kernel,Bool.and_false],if_neg (by decide)];unfold getAttrByItsOwn;refine AQ ((looks_hook X (r:=none) (by show findIn K (.ref C) "__getattr__" = some none;exact Y.gk)).here (AQ (wpAny_attempt (wpAny_holding ?_))));unfold callGetattribute;rw[show(expr && onTheHeap (Value.builtin "BaseException.__getattribute__"))=false from Bool.and_false _,if_neg (by decide)];unfold boundAndCalled;rw[slot_bga.bind];refine AQ (AX ?_);show wpAny _ _ (call (.builtin "BaseException.__getattribute__") [.ref x,.str name tk]) _ _ _;exact g73 X I Y h
theorem g02 {tk:Tok}{v:Value}{Q:Fin->Sd->Prop}(X:K.In s.heap)(I:InstAt s.heap x ox C od)(hf:findObj K C od name=some (.value v))(h:Q (.done (.ret v)) s) :
 wpAny (model prog w) A (Builtin.«object.__getattribute__» ⟨[.ref x,.str name tk],[]⟩) Q E s:=by
 obtain⟨hh,g,d,t,os⟩:=s;have L0:=I.type (M:=model prog w);have L1:=looks_find (M:=model prog w) X I hf;exact AQ (AX (AQ (AX (AQ (L0.at (AQ (L1.at (AX h))))))))
theorem g76 {tk:Tok}{g a:Value}{Q:VSP}(X:K.In s.heap)(I:InstAt s.heap x ox C od)(hf:findObj K C od name=some (.bind g a))
 (h:wpAny (model prog w) A (call g [a,.ref x,.ref C]) Q E s) :
 wpAny (model prog w) A (Builtin.«object.__getattribute__» ⟨[.ref x,.str name tk],[]⟩) (fun fin s'=>match fin with | .done (.ret v)=>Q v s' | _=>False) E s:=by
 obtain⟨hh,gg,d,t,os⟩:=s;have L0:=I.type (M:=model prog w);have L1:=looks_find (M:=model prog w) X I hf;refine AQ (AX (AQ (AX (AQ (L0.at (AQ (L1.at ?_)))))));show wpAny _ _ (holding [a] (call g [a,.ref x,.ref C]) >>= ret) _ _ _;exact AQ (wpAny_holding (Dq h (fun v s' z=>AX z) fun _ _ z=>z))
theorem h79 {v:Value}{expr:Bool}{Q:VSP}(X:K.In s.heap)(I:InstAt s.heap x ox C od)(Y:XC K C)(hf:findObj K C od name=some (.value v))(hh:handedIn v=true)(h:Q v { s with toks:=s.toks+1 }) :
 wpAny (model prog w) A (getAttr (.ref x) name expr) Q E s:=by
 unfold getAttr;refine AQ (wpAny_mkText ?_);refine h29 (s:={ s with toks:=s.toks+1 }) X I Y (g02 (s:={ s with toks:=s.toks+1 }) X I hf ?_)
 show wpAny _ _ (handedOut v) _ _ _;rw[handedOut_of hh];exact AX h
theorem f06 {Q:Option Value->Sd->Prop}(X:K.In s.heap)(I:InstAt s.heap x ox C od)(Y:XC K C)(hn:specialIn K (.builtin "object.__class__") "__get__" = some (some (.builtin "getset_descriptor.__get__")))(htk:takesIn K (.builtin "object.__class__")=some true)
 (h:Q (some (.ref C)) { s with toks:=s.toks+1 }):wpAny (model prog w) A (getAttr? (.ref x) "__class__") Q E s:=by
 obtain⟨cd,hc,_⟩:=any_some Y.hd;have hf:findObj K C od "__class__" = some (.bind (.builtin "getset_descriptor.__get__") (.builtin "object.__class__")):=by
  simp only[findObj,hc,Y.ca,hn,htk,oB]
 unfold getAttr? getAttrBy?;refine AQ (wpAny_mkText (AQ (wpAny_attempt ?_)));refine h29 (s:={ s with toks:=s.toks+1 }) X I Y (g76 (s:={ s with toks:=s.toks+1 }) X I hf ?_)
 refine wpAny_call (class_get (s:={ s with toks:=s.toks+1 }) X I Y.hm ?_)
 exact handed_on rfl (AX h)
theorem e52 (Y:XC K C)(hn:specialIn K (.builtin "object.__class__") "__get__" = some (some (.builtin "getset_descriptor.__get__")))(htk:takesIn K (.builtin "object.__class__")=some true) :
 KitX K (.ref x) (.ref C) (fun h=>∃ ox od,InstAt h x ox C od) where
 ty:=fun _ _ _ ⟨_,_,I⟩=>I.type
 it:=fun _ _ X _=>by
  obtain⟨cdD,hcD,_⟩:=any_some Y.hd;unfold clsIn at hcD;split at hcD
  ·rename_i ho;intro A' Q' E' s' k q;unfold isType loadHead;exact AQ (wpAny_loadPart (k _ _ (X _ _ ho)) (AX q))
  ·cases hcD
 ne:=fun h tp dd its n sl X htp=>by
  obtain⟨cdD,hcD,_⟩:=any_some Y.hd;refine Bool.eq_false_iff.mpr fun q=>?_;have e:C=tp:=Value.ref.inj (beq_iff_eq.mp q);subst e;unfold clsIn at hcD;split at hcD
  ·rename_i ho;have z:=(X _ _ ho).symm.trans htp;cases z
  ·cases hcD
 ca:=fun X ⟨_,_,I⟩ k=>f06 X I Y hn htk k
theorem h04 {tk:Tok}{v:Value}{R:Result->Sd->Prop}(X:K.In s.heap)(I:InstAt s.heap x ox C od)(Y:XC K C)(ht:takerIn K C name=some none)
 (h:∀ b,wpAny (model prog w) A.in1 (storeInOwnDict (.ref x) (.ref C) (.str name tk) name v b)
   (fun fin s'=>match fin with | .done f=>R (.ok f) s' | .again c'=>c'.quiet=true/\codeAny (model prog w) A c' R s') (fun e s'=>R (.error e) s') s) :
 codeAny (model prog w) A (.call (.builtin "object.__setattr__") ⟨[.ref x,.str name tk,v],[]⟩) R s:=by
 have SF:=PySem.F.store_object;obtain⟨cd,hc,ho⟩:=any_some Y.ov;have sub:Looks (model prog w) s.heap (isInstance (.ref x) (.type "object")) true:=I.type.andThen (looks_mroIn X Y.hm);refine codeAny_call_builtin SF.slot.plain SF.entry (@check_slot (model prog w) _ _ s "object.__setattr__" "object" "__setattr__" (.ref x) [.str name tk,v] [] _ SF.kind SF.split sub (SF.args (.ref x) (.str name tk) v) ?_);obtain⟨attr,ha,hr⟩:=Option.bind_eq_some_iff.mp ht;have hm:Looks (model prog w) s.heap (mroOf (.ref C)) cd.mro:=(looks_clsIn X hc).andThen .now;have L3:Looks (model prog w) s.heap (storeTaker? attr) none:=by
  cases attr with
  | none=>exact .now
  | some a =>
   obtain⟨b,hb,e⟩:=Option.map_eq_some_iff.mp hr;refine(looks_takesIn X hb).andThen ?_;cases b with
   | true=>cases e
   | false=>exact .now
 rw[osa_eq,refuse_eq];refine AQ (AQ (I.type.here (AQ (hm.here ?_))));rw[d18 _ ho];refine AX (AQ (I.type.here (AQ ((looks_findIn X ha).here (AQ (L3.here ?_))))));exact h _
theorem g69 {v:Value}{ws:Array Value}{Q:Unit->Sd->Prop}(X:K.In s.heap)(hx:s.heap.get? x=some { cls:=.ref C,data:=.fields ws })(Y:XC K C)(ht:takerIn K C name=some none)
 (hq:∀ h' dx tk',s.heap.objs.size<=dx->dx≠x->h'.get? x=some { cls:=.ref C,dict:=some dx,data:=.fields ws }->h'.Ns1 dx (fun y=>if y=name then some v else none)->(∀ b o,b≠x->s.heap.get? b=some o->h'.get? b=some o) ->
   Q () { s with heap:=h',toks:=tk' }) :
 wpAny (model prog w) A (setAttr (.ref x) name v) Q E s:=by
 obtain⟨cd,hc,hdct⟩:=any_some Y.hd;have I:InstAt s.heap x { cls:=.ref C,data:=.fields ws } C none:=⟨hx,rfl,rfl,True.intro⟩;refine set_plain X I Y.sa (h04 (s:={ s with toks:=s.toks+1 }) X I Y ht fun b=>?_)
 obtain⟨h,g,d,t,os⟩:=s;dsimp only at X hx I hq;have LC:=looks_clsIn (M:=model prog w) X hc;refine AQ (AX (AQ (AQ (wpAny_loadPart hx (AQ (LC.here ?_))))));rw[hdct];have hxs:x≠h.objs.size:=nLQ (DQ hx);have hx₁:(h.push { cls:=.type "dict", data:=.dict #[] }).get? x=some { cls:=.ref C,data:=.fields ws }:=Aq _ hx;have step:∀(P:Option Addr->Sd->Prop)(E':VSP),P (some h.objs.size) ⟨(h.push { cls:=.type "dict", data:=.dict #[] }).update x fun o=>{ o with dict:=some h.objs.size },g,d,t+1,os⟩ ->
  wpAny (model prog w) A.in1 (do
   let d ← alloc { cls:=.type "dict", data:=.dict #[] }
   update x fun o=>{ o with dict:=some d }
   dictMade (.ref C) x d) P E' ⟨h,g,d,t+1,os⟩:=fun P E' p=>AQ (wpAny_alloc' (AQ (wpAny_update' hx₁ (AX p))))
 refine step _ _ ?_;have hgd:((h.push { cls:=.type "dict", data:=.dict #[] }).update x fun o=>{ o with dict:=some h.objs.size }).get? h.objs.size=some { cls:=.type "dict", data:=.dict #[] } :=
  (Heap.get?_update_ne _ _ _ _ hxs.symm).trans (Heap.get?_push_at rfl rfl)
 have hnd:((h.push { cls:=.type "dict", data:=.dict #[] }).update x fun o=>{ o with dict:=some h.objs.size }).Ns h.objs.size (fun _=>none) :=
  ⟨_,#[],_,hgd,rfl,fun e he=>absurd he (by simp),fun _=>rfl⟩
 show wpAny _ _ (storeInDict h.objs.size (.str name t) name v) _ _ _;unfold storeInDict newKeyGuard;refine AQ (AX (AQ (wpAny_nsSet1 (Heap.Ns1.of_empty hnd) fun h' hn' hs=>?_)));obtain⟨oD,esD,epD,hoD,hdD,hcD⟩:=hn'.count (Within.cons name v Within.nil);refine AQ (wpAny_lookBehind hoD (by rw[hdD];exact pastItsLine_dict (Fz hcD (by rw[Cq,List.length_nil,sizeLine_eq];lia))) ?_);refine AX ?_;refine hq h' h.objs.size _ (AZ _) hxs.symm ?_ hn' fun b ob hb e=>?_
 ·refine(hs.2 x hxs).trans (Heap.get?_update_self _ hx₁ ?_);rfl
 ·exact(hs.2 b (nLQ (DQ e))).trans ((Heap.get?_update_ne _ _ _ _ hb).trans (Aq _ e))
theorem e68 {h:Heap}{N:Addr}{mg:Str->Option Value}{n:Str}{v:Value}(X:K.In h)(G:h.Ns N mg)(e:nsIn K N n=some (some v)):mg n=some v:=by
 obtain⟨o,es,ep,ho,hd,_,hf⟩:=G;unfold nsIn at e;split at e
 ·rename_i q;have z:=X _ _ q;rw[ho] at z;cases z;cases hd;split at e
  ·rename_i he;cases e;rw[← hf];unfold nsFind findBy;rw[← Array.find?_toList,he];rfl
  ·split at e <;> cases e
 ·cases e
def b69 (K:Frag)(C:Addr)(fI:Option Addr):Bool:=match K.lookup C with
 | some ⟨.type "type", _,.cls cd,sl⟩=>(match cd.mro,sl.toList with
  | .ref C'::bm,[_,_,_,_,some (.builtin n),_]=>C' == C && n == "ValueError.__new__" && !cd.hasDel && tailIn K h95 bm && nsOkIn K cd.ns && nsIn K cd.ns "__init__" == some (fI.map Value.ref)
  | _,_=>false)
 | _=>false
def XO (h:Heap)(C:Addr)(fI:Option Addr):Prop:=∃ bm N nm qn bs hd sn sub ab col dd k0 k1 k2 k3 k5 mN,h.get? C=some (excClassObj nm qn C N bs bm hd sn sub ab col dd k0 k1 k2 k3 k5 "ValueError.__new__")/\h.Ns N mN/\mN "__init__" = fI.map Value.ref/\OwnTail h h95 bm
theorem f91 {h:Heap}{fI:Option Addr}(X:K.In h)(q:b69 K C fI=true):XO h C fI:=by
 unfold b69 at q;split at q
 ·rename_i dd cd sl ho;split at q
  ·rename_i C' bm k0 k1 k2 k3 n k5 hm hs;simp only[Bool.and_eq_true,beq_iff_eq,Bool.not_eq_true'] at q;obtain⟨⟨⟨⟨⟨rfl,rfl⟩,hdel⟩,ht⟩,hok⟩,hni⟩:=q;obtain⟨nm,bs,mro,ns,qn,hd,sn,sub,ab,col,del⟩:=cd;dsimp only at hm hdel hok hni;subst hm hdel;have hsl:sl=#[k0,k1,k2,k3,some (.builtin "ValueError.__new__"),k5]:=by
    obtain⟨l⟩:=sl;simp only at hs;rw[hs]
   subst hsl;have G:=Heap.Ns.of_isNs (isNs_of_in X hok);refine⟨bm,ns,nm,qn,bs,hd,sn,sub,ab,col,dd,k0,k1,k2,k3,k5,_,X _ _ ho,G,?_,tail_of_in X ht⟩;cases fI with
   | none=>exact ns_none_of X G hni
   | some f=>exact e68 X G hni
  ·cases q
 ·cases q
theorem g68 {a:Value}{t0:Addr}{dd:Option Addr}{fI:Option Addr}{Q:VSP}(hx:s.heap.get? x=some { cls:=.ref C,dict:=dd,data:=.fields #[.ref t0,.none,.none,.none,.bool false,.none] })(hv:XO s.heap C fI)
 (hq:∀ h' t,h'.get? x=some { cls:=.ref C,dict:=dd,data:=.fields #[.ref t,.none,.none,.none,.bool false,.none] }->(∀ b o,b≠x->s.heap.get? b=some o->h'.get? b=some o)->Q .none { s with heap:=h' }) :
 wpAny (model prog w) A (call (.builtin "ValueError.__init__") [.ref x,a]) Q E s:=by
 have F:=PySem.F.excBase_ValueError;obtain⟨bm,N,nm,qn,bs,hdct,sn,sub,ab,col,dd',k0,k1,k2,k3,k5,mN,hC,hN,_,T⟩:=hv;obtain⟨h,g,d,t,os⟩:=s;dsimp only at hx hC hN T hq;refine wpAny_call (codeAny_call_builtin F.init.plain F.initEntry (wpAny_check_init_subT F T hC hx rfl ?_));unfold Builtin.«BaseException.__init__»
 wp_walk
 refine hq _ h.objs.size ?_ fun b o hb e=>?_
 ·rw[Heap.get?_update_self _ (Aq _ hx) rfl];rfl
 ·rw[DJ _ _ (Ne.symm hb)];exact Aq _ e
theorem g31 {rest:List Value}{fI:Addr}{oI:Obj}{Q:Fin->Sd->Prop}(hv:XO s.heap C (some fI))(hf:s.heap.get? fI=some oI)(hfc:oI.cls=.type "function")(hz:rest.length<=zL)
 (hq:∀ h' e,Heap.MadeExcOf s.heap h' e (.ref C) rest->wpAny (model prog w) A (call (.ref fI) (.ref e::rest)) (fun r s'=>r=.none/\Q (.done (.ret (.ref e))) s') E { s with heap:=h' }) :
 wpAny (model prog w) A (Builtin.«type.__call__» ⟨.ref C::rest,[]⟩) Q E s:=by
 obtain⟨bm,N,nm,qn,bs,hdct,sn,sub,ab,col,dd',k0,k1,k2,k3,k5,mN,hC,hN,hi,T⟩:=hv;obtain⟨h,g,d,t,os⟩:=s;dsimp only at hf hC hN T hq;have F:=PySem.F.excBase_ValueError
 repeat (first | with_reducible refine wpAny_loadPart_at hC ?_ | with_reducible refine wpAny_madeBy_exc hC ?_ | wp_step)
 refine codeAny_call_builtin_code (Code.quiet_builtin _ F.quiet) (wpAny_check_new_subT F T hC ?_);refine codeAny_exc_new_subT F T hC ?_ hz;show wpAny _ _ _ _ _ _;have kp:∀ b o,h.get? b=some o->((h.push { cls:=.type "tuple", data:=.seq rest.toArray }).push { cls:=.ref C,data:=.fields #[.ref h.objs.size,.none,.none,.none,.bool false,.none] }).get? b=some o:=fun b o e=>Aq _ (Aq _ e);have hC1:=kp _ _ hC;have hf1:=kp _ _ hf;have hn1:=hN.keeps kp;have T1:=T.keeps kp;have hget:((h.push { cls:=.type "tuple", data:=.seq rest.toArray }).push { cls:=.ref C,data:=.fields #[.ref h.objs.size,.none,.none,.none,.bool false,.none] }).get? (h.objs.size+1)=some
  { cls:=.ref C,data:=.fields #[.ref h.objs.size,.none,.none,.none,.bool false,.none] }:=by heap_get
 have hcC:(Value.ref C::bm).contains (.ref C)=true:=by simp
 unfold isInstance
 repeat (first | with_reducible refine wpAny_loadPart_at hget ?_ | (with_reducible refine wpAny_isSubtype_exc hC1 ?_;rw[hcC]) | wp_step)
 show wpAny _ _ (typeLookup (.ref C) _) _ _ _;refine wpAny_typeLookup_tail hC1 hn1 T1 F.mroIs F.init.lookup ?_;rw[hi];refine wpAny_holding (AQ ?_);unfold bindSpecial;refine AQ (DZ (T := "function") ⟨_,hf1,hfc⟩ ?_);rw[if_pos (by decide)];refine AX (AQ (Dq (hq _ (h.objs.size+1) ⟨kp,Heap.get?_none_of_le (FJ _),h.objs.size,hget,Heap.get?_none_of_le (AZ _),Aq _ (Heap.get?_push_at rfl rfl)⟩) (fun r s' hr=>?_) fun _ _ x=>x));obtain⟨rfl,hQ⟩:=hr
 wp_walk
 exact hQ
theorem g04 {rest:List Value}{fI:Addr}{oI:Obj}{Q:VSP}(hv:XO s.heap C (some fI))(hf:s.heap.get? fI=some oI)(hfc:oI.cls=.type "function")(hz:rest.length<=zL)
 (hq:∀ h' e,Heap.MadeExcOf s.heap h' e (.ref C) rest->wpAny (model prog w) (A.under (.builtin "type.__call__" ⟨.ref C::rest,[]⟩)) (call (.ref fI) (.ref e::rest)) (fun r s'=>r=.none/\Q (.ref e) s') E { s with heap:=h' }) :
 wpAny (model prog w) A (call (.ref C) rest) Q E s:=by
 have hv':=hv;obtain⟨bm,N,nm,qn,bs,hdct,sn,sub,ab,col,dd',k0,k1,k2,k3,k5,mN,hC,hN,hi,T⟩:=hv;obtain⟨h,g,d,t,os⟩:=s;dsimp only at hf hC hN T hq;have F:=PySem.F.excBase_ValueError;have f1:=tc_lookup;have f2:=tc_bind (.ref C);have hT:(⟨h,g,d,t,os⟩:Sd).TypeIs (.ref C) "type" := ⟨_,hC,rfl⟩;refine wpAny_call (codeAny_of_tree ?_);show wpAny _ _ (callAny (.ref C) _) _ _ _
 repeat (any_goals (first | assumption | with_reducible refine wpAny_loadPart_at hC ?_ | wp_step))
 refine⟨rfl,?_⟩;refine codeAny_call_builtin_at (Code.quiet_builtin _ (by decide +kernel)) entry_typeCall (wpAny_check_type_call_sub hC (g31 (s:=⟨h,g,d,t,os⟩) hv' hf hfc hz fun h' e hm=>?_));exact hq h' e hm
end
end L2
namespace L2
open PySem PySem.Spec PyProof.Rows
def excD (e C:Addr)(dd:Option Addr)(h:Heap):Prop:=∃ t:Addr,h.get? e=some { cls:=.ref C,dict:=dd,data:=.fields #[.ref t,.none,.none,.none,.bool false,.none] }
def d58 (e C:Addr)(dd:Option Addr):HO:=.ext (excD e C dd)
theorem f61 {P:Pm}{w:World}{H:Hp}{h:Heap}{e C:Addr}{dd:Option Addr}(x:excD e C dd h):ObjOk P w H h e (d58 e C dd) :=
 ⟨x,let ⟨_,q⟩:=x;⟨_,q⟩,fun _ _ ⟨t,q⟩ k=>⟨t,k _ q⟩⟩
theorem e37 {P:Pm}{w:World}{H:Hp}{h:Heap}{e C:Addr}{dd:Option Addr}(ok:HOk P w H h)(x:H e=some (d58 e C dd)):excD e C dd h:=(ok e _ x).1
theorem ObjOk.has {P:Pm}{w:World}{H:Hp}{h:Heap}{a:Addr}{o:HO}(x:ObjOk P w H h a o):∃ ob,h.get? a=some ob:=by
 cases o with
 | lst xs=>obtain⟨_,_,_,_,e⟩:=x;exact⟨_,e⟩
 | tup xs=>obtain⟨_,_,_,ob,e,_⟩:=x;exact⟨_,e⟩
 | dK kvs=>obtain⟨_,_,_,_,o,_,_,e,_⟩:=x;exact⟨_,e⟩
 | dT kvs=>obtain⟨_,_,_,_,o,_,_,e,_⟩:=x;exact⟨_,e⟩
 | set S n=>obtain⟨o,_,_,_,e,_⟩:=x;exact⟨_,e⟩
 | ins C dx fs=>obtain⟨_,_,_,e,_⟩:=x;exact⟨_,e⟩
 | own y=>exact x
 | xd fs=>obtain⟨_,⟨_,_,_,e,_⟩,_⟩:=x;exact⟨_,e⟩
 | rng lo hi=>obtain⟨_,_,_,e⟩:=x;exact⟨_,e⟩
 | frz ob u=>obtain⟨e,_⟩:=x;exact⟨_,e⟩
 | tbl ps=>exact⟨_,show h.get? a=some _ from x⟩
 | met f y=>exact⟨_,show h.get? a=some _ from x⟩
 | ext φ=>exact x.2.1
theorem HOk.free {P:Pm}{w:World}{H:Hp}{h:Heap}{a:Addr}(x:HOk P w H h)(e:h.get? a=none):H a=none:=by
 cases q:H a with
 | none=>rfl
 | some u =>
  obtain⟨ob,z⟩:=(x a u q).has;rw[e] at z;cases z
section
variable {X:Cx}{pins:LAO}{σ:St}{H:Hp}{s:Sd}{h':Heap}
theorem Inv.newAt {a:Addr}{o:HO}{t':Nat}(I:Inv X pins σ H s)(k:∀ b u,s.heap.get? b=some u->h'.get? b=some u)(hp:s.heap.get? a=none)(new:ObjOk X.prog X.w (upd H a o) h' a o) :
 Inv X pins σ (upd H a o) { s with heap:=h',toks:=t' }:=by
 have hn:=I.hok.free hp;have ne:∀ b u,s.heap.get? b=some u->b≠a:=fun b u q z=>by rw[z,hp] at q;cases q
 refine I.un ⟨fun b u q _ _ _=>k b u q,fun b u q _ _ _=>⟨u.slots,k b u q⟩,fun b u q n _=>by rw[a07 (ne b u q)];exact n,fun b u q _=>⟨u,k b u q⟩,fun b xs q=>by rw[a07 (a04 q hn)];exact q,
  fun b u xs q=>by rw[a07 (a04 q hn)];exact q,fun b ps q=>⟨#[],by rw[a07 (a04 q hn),q];simp⟩⟩ fun b u e=>?_
 by_cases hb:b=a
 ·subst hb;rw[a01] at e;cases e;exact new
 ·rw[a07 hb] at e;exact(I.hok b u e).stay (fun c v _ q=>k c v q) (fun c q=>by rw[a07 (a04 q hn)];exact q) fun c xs q=>by rw[a07 (a04 q hn)];exact q
theorem Inv.writeNew {x d:Addr}{o o2:HO}{t':Nat}(I:Inv X pins σ H s)(mu:Mut (H x))(k:∀ b u,b≠x->s.heap.get? b=some u->h'.get? b=some u)(hp:s.heap.objs.size<=d)
 (new:ObjOk X.prog X.w (upd (upd H x o) d o2) h' x o)(new2:ObjOk X.prog X.w (upd (upd H x o) d o2) h' d o2):Inv X pins σ (upd (upd H x o) d o2) { s with heap:=h',toks:=t' }:=by
 have hn:=I.hok.fresh hp;have hxn:H x≠none:=fun z=>by rw[z] at mu;exact mu
 have hdx:d≠x:=fun z=>hxn (z ▸ hn);have ne:∀ b u,s.heap.get? b=some u->b≠d:=fun b u q=>nLQ (nTQ (DQ q) hp);have nx:∀ b,H b=none->b≠x:=fun b n z=>hxn (z ▸ n);have hx':∃ u,h'.get? x=some u:=new.has;have hm:∀ b u,H b=some u->¬ Mut (some u)->b≠x:=fun b u q nm z=>by subst z;rw[q] at mu;exact nm mu
 have far:∀ b u,H b=some u->b≠x->upd (upd H x o) d o2 b=some u:=fun b u q n=>by rw[a07 (a04 q hn),a07 n];exact q
 refine I.un ⟨fun b u q n _ _=>k b u (nx b n) q,fun b u q n _ _=>⟨u.slots,k b u (nx b n) q⟩,fun b u q n _=>by rw[a07 (ne b u q),a07 (nx b n)];exact n,fun b u q _=>?_,fun b xs q=>far b _ q (hm b _ q fun z=>z),
  fun b u xs q=>far b _ q (hm b _ q fun z=>z),fun b ps q=>⟨#[],by rw[far b _ q (hm b _ q fun z=>z)];simp⟩⟩ fun b u e=>?_
 ·by_cases hb:b=x
  ·subst hb;exact hx'
  ·exact⟨u,k b u hb q⟩
 ·by_cases hb:b=d
  ·subst hb;rw[a01] at e;cases e;exact new2
  ·rw[a07 hb] at e;by_cases hbx:b=x
   ·subst hbx;rw[a01] at e;cases e;exact new
   ·rw[a07 hbx] at e;refine(I.hok b u e).stay (fun c v hc q=>k c v ?_ q) (fun c q=>far c _ q (hm c _ q fun z=>z)) fun c xs q=>far c _ q (hm c _ q fun z=>z);rcases hc with rfl | hc
    ·exact hbx
    ·exact hm c _ hc fun z=>z
end
section
variable {X:Cx}{k:Nat}{f C:Addr}{fd:FD}{ps:List Str}{sp:Sp}{x:Str}{p pos pos' apos:Pos}{e o value:Expr}{es:List Expr}{t:TA}{ta tv:TE}
def tExcI (C:Addr)(sp:Sp)(t:TA):TE:=fun σ H Q=>t σ H fun vs H1=>vs.length<=zL/\∀ a,H1 a=none->sp (.ref a::vs) (upd H1 a (d58 a C none)) (fun v H2=>v=.non/\Q (.ref a) H2) E0
theorem g18 (F:FnOk X.prog X.w X.K X.mg X.base CX0 k f fd ps sp)(hb:Binds X.K fd ps [])(hr:Room (k+1) X.A)(hv:b69 X.K C (some f)=true)(hfn:PySem.W.typeIn X.K (.ref f)=some (.type "function"))(hk:PySem.W.keepIn X.K (.ref C)=true)(hm:X.mg x=some (.ref C))
 (ha:PA X (e::es) t)(hg:Gl X x:=by rfl)(hdb:(x == ("__debug__" : Str))=false:=by decide)(he:starEach (e::es) X.env=(false,eval e X.env)::starEach es X.env:=by rfl)
 (hpl:(backTo pos (starEach es X.env)).any (·.1)=false:=by rfl):PE X (.Call (.Name x p) (e::es) [] pos) (tExcI C sp t):=by
 try constructor
 intro pins s σ H Q I h;refine wpAny_Call_Name_kw (b62 I hg hm ?_ hdb);refine PySem.W.callWith_K (h₀:=X.base) I.ok.mod.kin hk (thn (ha pos pins s σ H _ I h) fun us s1 ⟨vs,H1,I1,r,z,q⟩=>⟨I1.kIn,?_⟩) he hpl;obtain⟨oI,hoI,hcI⟩:=Option.map_eq_some_iff.mp hfn;refine g04 (f91 I1.kIn hv) (I1.kIn _ _ hoI) hcI (by show us.length<=zL;rw[← r.length];exact z) fun h' a M=>?_;obtain⟨t,ht,_,_⟩:=M.there;have I2:Inv X pins σ (upd H1 a (d58 a C none)) { s1 with heap:=h' }:=I1.newAt (t':=s1.toks) M.keeps M.new (f61 ⟨t,ht⟩)
 have hq:=q a (I1.hok.free M.new);have r2:Vals (V.ref a::vs) (Value.ref a::us):=.cons rfl r;have hl:((Value.ref a::us)++[]).length=ps.length:=by
  rw[List.append_nil,← r2.length];exact F.len _ _ _ _ hq
 have hbi:=hb { s1 with heap:=h' } (Value.ref a::us) I2.kIn hl
 rw[List.append_nil] at hbi;refine wpAny_call (codeAny_mono (F.run _ X.stack _ _ ⟨Value.ref a::us,[]⟩ (Value.ref a::us) _ _ E0 (hr.make C us []) (I2.env0.make C us []) hbi r2 hq) fun r s' hq'=>?_);cases r with
 | error e=>exact f99 pins σ _ _ e s' I2 hq'
 | ok fl =>
  cases fl with
  | ret u =>
   obtain⟨v,H',I3,rv,ev,q3⟩:=I2.after hq';subst ev;exact⟨rv,⟨V.ref a,H',I3,rfl,q3⟩⟩
  | next=>exact False.elim hq'
  | brk=>exact False.elim hq'
  | cont=>exact False.elim hq'
def i46 (K:WFr)(t:TA):TE:=fun σ H Q=>t σ H fun vs H1=>∃ a C dd fI y,vs=[.ref a,y]/\H1 a=some (d58 a C dd)/\b69 K C fI=true/\Q .non (upd H1 a (d58 a C dd))
theorem g49 {pl:Sem Bool}(hm:X.mg x=some (.ref C))(hsp:PySem.W.specialIn X.K (.ref C) "__getattribute__" = some (some (.builtin "type.__getattribute__")))(hrd:PySem.W.readsIn X.K C (.type "type")=true)
 (hf:PySem.W.findCls X.K (.ref C) (.type "type") "__init__" = some (.val (.builtin "ValueError.__init__")))(ha:PA X (e::es) t)(hg:Gl X x:=by rfl)(hdb:(x == ("__debug__" : Str))=false:=by decide)
 (hst:starEach (e::es) X.env=(false,eval e X.env)::starEach es X.env:=by rfl)(hpl:(backTo pos (starEach es X.env)).any (·.1)=false:=by rfl)
 (ht:eval (.Call (.Attribute (.Name x p) "__init__" apos) (e::es) [] pos) X.env=(do
   let ov ← eval (.Name x p) X.env
   standAt apos.atName
   let (f,first) ← holding [ov] (getMethod ov "__init__" pl)
   callWith pos f first (backTo pos (starEach (e::es) X.env)) (backToKw pos (keywordEach [] X.env))):=by rfl) :
 PE X (.Call (.Attribute (.Name x p) "__init__" apos) (e::es) [] pos) (i46 X.K t):=by
 try constructor
 intro pins s σ H Q I h;refine PySem.W.methodCall_KW (pl:=pl) (b62 I hg hm ?_ hdb) ht;refine PySem.W.method_cls I.kIn hsp (PySem.W.cls_value I.kIn hrd hf (by decide +kernel) ?_);have I1:Inv X pins σ H { s with toks:=s.toks+1 }:=I.tok _
 have hA:=ha pos pins { s with toks:=s.toks+1 } σ H _ I1 h
 rw[hst] at hA ⊢;refine Calls.callWith_builtin (by show(false||(backTo pos (starEach es X.env)).any (·.1))=false;rw[hpl] <;> rfl) (Calls.evalArgs_plain ?_);refine thn hA fun us s2 ⟨vs,H2,I2,r2,a,C',dd,fI,y,ev,hH,hx,q⟩=>?_;subst ev;obtain⟨u1,u2,rfl,ru1,ru2⟩:=g28 r2;cases (show u1=Value.ref a from ru1);obtain⟨t0,h0⟩:=e37 I2.hok hH;show wpAny _ _ (call (.builtin "ValueError.__init__") [.ref a,u2]) _ _ _;refine g68 h0 (f91 I2.kIn hx) fun h' t1 h1 kp=>?_;exact⟨.non,_,I2.write (x:=a) (e:=a) (t':=s2.toks) (by rw[hH];exact True.intro) (.inl rfl) (fun b u hb q=>kp b u hb q) ⟨_,h1⟩ (f61 ⟨t1,h1⟩),rfl,q⟩
def sXset (K:WFr)(ta tv:TE) (f:Str):TS:=fun D σ H=>tv σ H fun y H1=>ta σ H1 fun x H2=>∃ a C,x=.ref a/\H2 a=some (d58 a C none)/\XC K C/\PySem.W.takerIn K C f=some none /\
 ∀ dx,H2 dx=none->D.nx σ (upd (upd H2 a (d58 a C (some dx))) dx (.xd [(f,y)]))
theorem h52 {f:Str}(ha:PE X o ta)(hv:PE X value tv)(hs:swapsWith value (some (.Attribute o f pos')) pos.line X.env=pure false):PS X (.Assign [.Attribute o f pos'] value pos) (sXset X.K ta tv f):=by
 try constructor
 intro pins s σ H D I h;refine plainObj_wpAny_Assign_Attribute (thn (hv pins s σ H _ I h) fun u s1 ⟨y,H1,I1,ry,q⟩=>thn (ha pins s1 σ H1 _ I1 q) fun ov s2 ⟨x,H2,I2,rx,a,C,ex,ea,c,n,q2⟩=>?_) hs;subst ex;obtain rfl:ov=Value.ref a:=rx;obtain⟨t0,h0⟩:=e37 I2.hok ea;refine g69 I2.kIn h0 c n fun h' dx tk' hd hne hx hns kp=>?_;refine⟨σ,_,I2.writeNew (x:=a) (d:=dx) (by rw[ea];exact True.intro) kp hd (f61 ⟨t0,hx⟩) ?_,q2 dx (I2.hok.fresh hd)⟩;refine⟨_,hns,fun g=>?_⟩;show RelO (([(f,y)]:List (Str×V)).lookup g) (if g=f then some u else none);by_cases hg:g=f
 ·rw[if_pos hg,List.lookup_cons,beq_iff_eq.mpr hg];exact ry
 ·rw[if_neg hg,List.lookup_cons,beq_eq_false_iff_ne.mpr hg];exact True.intro
theorem i07 {h:Heap}{a:Addr}{m:Str->Option Value}(n:h.Ns1 a m){f:Str}{u:Value}(e:m f=some u):∃ od,h.get? a=some od/\PySem.W.lookIn f od=some (some u):=by
 obtain⟨o,es,ep,h1,h2,h3,h4,h5⟩:=n;refine⟨o,h1,?_⟩;unfold PySem.W.lookIn;rw[h2];have z:=h5 f;rw[e] at z;unfold nsFind findBy at z;rw[← Array.find?_toList] at z;dsimp only;cases q:es.toList.find? (·.key.isStr f) with
 | none=>rw[q] at z;cases z
 | some en=>rw[q] at z;cases z;rfl
structure XGet (K:WFr):Prop where
 hn:PySem.W.specialIn K (.builtin "object.__class__") "__get__" = some (some (.builtin "getset_descriptor.__get__"))
 htk:PySem.W.takesIn K (.builtin "object.__class__")=some true
end
end L2
namespace L2
open PySem PySem.Spec PyProof.Rows
abbrev TF:=St->Hp->Str->(Str->Hp->Prop)->Prop
structure PF (X:Cx) (vs:List Expr)(t:TF):Prop where
 run:∀(pins:LAO)(s:Sd)(σ:St)(H:Hp) (acc:Str) (Q:Str->Hp->Prop),Inv X pins σ H s->t σ H acc Q ->
  PySem.Joins (model X.prog X.w) X.A X.xe (evalEach vs X.env) acc (fun out s'=>∃ H',Inv X pins σ H' s'/\Q out H') s
section
variable {X:Cx}
theorem i44:PF X [] (fun _ H acc Q=>Q acc H):=⟨fun pins s σ H acc Q I h=>⟨H,I,h⟩⟩
theorem h31 {x:Str}{j pos}{vs:List Expr}{t:TF}(h:PF X vs t):PF X (.Constant (.str x) j pos::vs) (fun σ H acc Q=>(acc++x).length<=zL/\t σ H (acc++x) Q):=⟨by
 try constructor
 intro pins s σ H acc Q I q;exact Calls.Constant_str ⟨x,s.toks,rfl,q.1,h.run pins _ σ H _ Q (I.tok _) q.2⟩⟩
def i74 (v:V) (y:Str):Prop:=v=.str y∨∃ i:Int,v=.int i/\i.natAbs.log2 < 1920/\y=toString i
theorem i43 {e:Expr}{pos}{te:TE}{vs:List Expr}{t:TF}(he:PE X e te)(h:PF X vs t):PF X (.FormattedValue e (-1) none pos::vs) (fun σ H acc Q=>te σ H fun v H1=>∃ y,i74 v y/\y.length<=zL/\(acc++y).length<=zL/\t σ H1 (acc++y) Q):=⟨by
 try constructor
 intro pins s σ H acc Q I q;refine PyProof.Rows.FormattedValue_plain (thn (he.run pins s σ H _ I q) fun u s1 ⟨v,H1,I1,r1,y,py,hy,hz,q1⟩=>?_);rcases py with rfl | ⟨i,rfl,hi,rfl⟩
 ·obtain⟨t,rfl⟩:=r1;exact PyProof.Rows.formatField_str (fun t' tk=>⟨y,t',rfl,hz,h.run pins _ σ H1 _ Q (I1.tok _) q1⟩) hy
 ·obtain⟨t,rfl⟩:=r1;exact PyProof.Rows.formatField_int_small hi ⟨_,_,rfl,hz,h.run pins _ σ H1 _ Q (I1.tok _) q1⟩⟩
theorem i06 {v₁ v₂:Expr}{rest:List Expr}{pos:Pos}{t:TF}(h:PF X (v₁::v₂::rest) t):PE X (.JoinedStr (v₁::v₂::rest) pos) (fun σ H Q=>t σ H Str.empty fun out H'=>out.length<=zL/\Q (.str out) H'):=by
 try constructor
 try constructor
 intro pins s σ H Q I q;refine wpAny_JoinedStr ?_
 have:=h.run pins s σ H Str.empty _ I q
 have mono:∀(l:List (Sem Value)) (acc:Str)(s:Sd){Q1 Q2:Str->Sd->Prop},(∀ o s,Q1 o s->Q2 o s)->PySem.Joins (model X.prog X.w) X.A X.xe l acc Q1 s->PySem.Joins (model X.prog X.w) X.A X.xe l acc Q2 s:=by
  intro l;induction l with
  | nil=>exact fun acc s Q1 Q2 hq q=>hq _ _ q
  | cons x l ih =>
   intro acc s Q1 Q2 hq q;exact thn q fun v s1 ⟨y,t,e,hz,q1⟩=>⟨y,t,e,hz,ih _ _ hq q1⟩
 refine mono _ _ _ (fun out s' ⟨H',I',hz,q'⟩=>⟨hz,?_⟩) this;exact⟨.str out,H',I'.tok _,⟨_,rfl⟩,q'⟩
end
def OptP (H:Hp) (v:V)(o:Option (List Str)):Prop:=match o with
 | none=>v=.non
 | some zs=>∃ a,v=.ref a/\H a=some (.tup (zs.map V.str))
abbrev c35 (H:Hp):List V->List (Option (List Str))->Prop:=Paired (OptP H)
theorem OptP.mono {H H':Hp}(k:∀ b xs,H b=some (.tup xs)->H' b=some (.tup xs)){v:V}{o:Option (List Str)}(h:OptP H v o):OptP H' v o:=by
 cases o with
 | none=>exact h
 | some zs=>obtain⟨a,e,q⟩:=h;exact⟨a,e,k _ _ q⟩
theorem c33:∀ {a b:List Str},a.map V.str=b.map V.str->a=b
 | [],[],_=>rfl
 | [],_::_,e=>by cases e
 | _::_,[],e=>by cases e
 | x::a,y::b,e=>by
  rw[Cz,Cz] at e;obtain⟨e1,e2⟩:=List.cons.inj e;injection e1 with e1
  rw[e1,c33 e2]
def eqP (H:Hp) (zs:List Str) (u:Value):Bool:=match u with
 | .ref a=>match H a with
  | some (.tup xs)=>decide (xs=zs.map V.str)
  | _=>false
 | _=>false
theorem f51 {A:Around}{pins:LAO}{X:Cx}{σ:St}{H:Hp}{s:Sd}{a b:Addr}{xs ys:List Str}(hu:A.units < cLine)(I:Inv X pins σ H s)(ha:H a=some (.tup (xs.map V.str)))(hb:H b=some (.tup (ys.map V.str))):SeqAt.EqAt A s (.ref a) (.ref b) (decide (xs=ys)):=by
 by_cases e:a=b
 ·subst e;rw[ha] at hb
  have:=c33 (HO.tup.inj (Ez hb))
  rw[Az this];exact SeqAt.EqAt.same _
 ·obtain⟨its,r1,p1,_⟩:=I.tuple (SqT.of (K:=X.K) ha);obtain⟨its2,r2,p2,_⟩:=I.tuple (SqT.of (K:=X.K) hb);have l1:=r1.length;have l2:=r2.length;rw[Aj] at l1 l2;have q:=SeqAt.RcAt.tuples (A:=A) (s:=s) (e:=fun j=>xs.getD j "" == ys.getD j "") (show s.heap.IsTuple a its.toArray from p1) (show s.heap.IsTuple b its2.toArray from p2) hu (fun j h1 h2=>by
   obtain⟨g1,t1,e1⟩:=b52 r1 (j:=j) (by simpa using h1);obtain⟨g2,t2,e2⟩:=b52 r2 (j:=j) (by simpa using h2);have z1:its.toArray[j]=.str xs[j] t1:=by simpa using e1
   have z2:its2.toArray[j]=.str ys[j] t2:=by simpa using e2
   rw[z1,z2,lG,lG,Bx g1,Bx g2];exact SeqAt.EqAt.str_str _ _ _ _)
  rw[lS,lS,← l1,← l2,b72] at q;exact SeqAt.EqAt.of_refs e q
theorem h33 {H:Hp}{v:V}{u:Value}{o:Option (List Str)}{zs:List Str}(h:OptP H v o)(r:RelV v u):eqP H zs u=decide (o=some zs):=by
 cases o with
 | none =>
  cases (show v=.non from h);cases (show u=Value.none from r);exact(Fq fun q=>nomatch q).symm
 | some ws =>
  obtain⟨a,rfl,e⟩:=h;cases (show u=Value.ref a from r);unfold eqP;simp only[e];by_cases q:ws=zs
  ·subst q;rw[Az rfl,Az rfl]
  ·rw[Fq fun w=>q (c33 w),Fq fun w=>q (Ez w)]
theorem d74 {H:Hp}{zs:List Str}:∀ {xs:List V}{os:List (Option (List Str))}{us:List Value},c35 H xs os->Vals xs us->us.any (eqP H zs)=decide (some zs∈os)
 | _,_,_,.nil,.nil=>(Fq (fun q=>nomatch q)).symm
 | _,o::os,_,.cons h t,.cons r t'=>by
  rw[List.any_cons,h33 h r,d74 t t',← Bool.decide_or];congr 1;rw[BZ];exact propext ⟨fun q=>q.imp Eq.symm id,fun q=>q.imp Eq.symm id⟩
theorem d90 {A:Around}{pins:LAO}{X:Cx}{σ:St}{H:Hp}{s:Sd}{b:Addr}{zs:List Str}(hu:A.units < cLine)(I:Inv X pins σ H s)(hb:H b=some (.tup (zs.map V.str))):∀ {xs:List V}{os:List (Option (List Str))}{us:List Value},c35 H xs os->Vals xs us->∀ u∈us,SeqAt.EqAt A s u (.ref b) (eqP H zs u)
 | _,_,_,.nil,.nil=>fun u hu=>nomatch hu
 | _,o::os,_,.cons h t,.cons r t'=>fun u q=>by
  rcases BZ.mp q with rfl | q
  ·rw[h33 h r];cases o with
   | none =>
    cases (show _=V.non from h);cases (show u=Value.none from r);rw[Fq fun q=>nomatch q];obtain⟨its,r1,p1,_⟩:=I.tuple (SqT.of (K:=X.K) hb);exact SeqAt.EqAt.none_tuple p1 hu
   | some ws =>
    obtain⟨a,rfl,e⟩:=h;cases (show u=Value.ref a from r);rw[show decide (some ws=some zs)=decide (ws=zs) by congr 1;exact propext ⟨Ez,congrArg some⟩];exact f51 hu I e hb
  ·exact d90 hu I hb t t' u q
section
variable {X:Cx}
theorem f76 (hu:X.A.units+1 < cLine):OpR X (compareOp .In) (fun x y H Q=>∃ b p zs xs os,x=.ref b/\H b=some (.tup (zs.map V.str))/\y=.ref p/\SqL X.K H p xs/\c35 H xs os/\Q (.bl (decide (some zs∈os))) H):=by
 try constructor
 intro pins s σ H x y v u Q I rx ry h;obtain⟨b,p,zs,xs,os,rfl,hb,rfl,hq,ho,q⟩:=h;cases rx;cases ry;obtain⟨its,r,pl,hz⟩:=I.list hq;refine SeqAt.in_listAt (eqP H zs) pl.isList (fun w hw=>d90 hu I hb ho r w (by simpa using hw)) ⟨.bl _,H,I,rfl,?_⟩;rw[show its.toArray.any (eqP H zs)=its.any (eqP H zs) by simp,d74 ho r];exact q
theorem f05 (hu:X.A.units+1 < cLine):OpR X (compareOp .NotIn) (fun x y H Q=>∃ b p zs xs os,x=.ref b/\H b=some (.tup (zs.map V.str))/\y=.ref p/\SqL X.K H p xs/\c35 H xs os/\Q (.bl (!decide (some zs∈os))) H):=by
 try constructor
 intro pins s σ H x y v u Q I rx ry h;obtain⟨b,p,zs,xs,os,rfl,hb,rfl,hq,ho,q⟩:=h;cases rx;cases ry;obtain⟨its,r,pl,hz⟩:=I.list hq;refine SeqAt.notIn_listAt (eqP H zs) pl.isList (fun w hw=>d90 hu I hb ho r w (by simpa using hw)) ⟨.bl _,H,I,rfl,?_⟩;rw[show its.toArray.any (eqP H zs)=its.any (eqP H zs) by simp,d74 ho r];exact q
end
abbrev b64:=List (List Str×V)
def gP (p:List Str×V):List Key×V:=(p.1.map Sum.inr,p.2)
def dP (m:b64):HO:=.dT (m.map gP)
theorem b42 (zs:List Str):((zs.map Sum.inr:List Key)).map kV=zs.map V.str:=by
 rw[List.map_map];rfl
theorem d92 {a b:List Str}(h:(a.map Sum.inr:List Key)=b.map Sum.inr):a=b:=c33 (by rw[← b42,← b42,h])
theorem d61 (m:b64) (zs:List Str):a96 (m.map gP) (zs.map Sum.inr)=a96 m zs:=by
 induction m with
 | nil=>rfl
 | cons p m ih =>
  rw[Cz];by_cases e:p.1=zs
  ·rw[a69 (by show p.1.map Sum.inr=_;rw[e]),a69 e];rfl
  ·rw[a70 (fun q=>e (d92 q)),a70 e,ih]
theorem f77 (m:b64) (zs:List Str) (v:V):b18 (m.map gP) (zs.map Sum.inr) v=(b18 m zs v).map gP:=by
 have e:∀ p:List Str×V,decide ((gP p).1=zs.map Sum.inr)=decide (p.1=zs):=fun p=>by
  congr 1;exact propext ⟨fun q=>d92 q,fun q=>by show p.1.map Sum.inr=_;rw[q]⟩
 have e1:((m.map gP).any fun kv=>decide (kv.1=zs.map Sum.inr))=m.any fun kv=>decide (kv.1=zs):=by
  rw[List.any_map];congr 1;funext p;exact e p
 unfold b18;rw[e1];split
 ·rw[List.map_map,List.map_map];apply List.map_congr_left;intro p _;by_cases q:p.1=zs
  ·show(if (gP p).1=zs.map Sum.inr then((gP p).1,v) else gP p)=gP (if p.1=zs then(p.1,v) else p);rw[if_pos (by show p.1.map Sum.inr=_;rw[q]),if_pos q];rfl
  ·show(if (gP p).1=zs.map Sum.inr then((gP p).1,v) else gP p)=gP (if p.1=zs then(p.1,v) else p);rw[if_neg (show ¬(gP p).1=zs.map Sum.inr from fun w=>q (d92 w)),if_neg q]
 ·rw[Bz];rfl
theorem i17 {H:Hp}{d b:Addr}{m:b64}{zs:List Str}(e:H d=some (dP m))(eb:H b=some (.tup (zs.map V.str))):DGet H d (.ref b) (a96 m zs):=by
 rw[← d61];exact DGet.t e (by rw[b42];exact eb)
theorem h92 {H:Hp}{d b:Addr}{m:b64}{zs:List Str}{v:V}(e:H d=some (dP m))(eb:H b=some (.tup (zs.map V.str)))(hl:m.length < zL):DPut H d (.ref b) v (upd H d (dP (b18 m zs v))):=by
 have:=DPut.t (v:=v) e (show H b=some (.tup (((zs.map Sum.inr:List Key)).map kV)) by rw[b42];exact eb) (by rw[Aj];exact hl)
 rw[f77] at this;exact this
section
variable {prog:Pm}{w:World}{K:Type} [DecidableEq K] {knd:HeapKind prog w K}{A:Around}{E:VSP}{s:Sd}{d a:Addr}{k:K}{xs:List (K×Addr×Value)}
theorem d94 {v:Value}{Q:VSP}(hu:knd.room A)(hkey:knd.is s.heap k a)(hm:s.heap.DictOfH knd d xs)
 (h1:∀ p,atKey xs k=some p->Q p.2 { s with toks:=s.toks+knd.draws k })(h2:atKey xs k=none->∀ h',h'.DictOfH knd d (storedH xs k a v)->Heap.SameBut d s.heap h'->Q v { s with heap:=h',toks:=s.toks+knd.draws k })
 (hsz:xs.length<=zL):wpAny (model prog w) A (dictSetDefault d (.ref a) v) Q E s:=by
 obtain⟨o,es,ep,ho,hc,hd,he,his,hn⟩:=hm;unfold dictSetDefault;refine wpAny_holding (AQ (knd.pyHash hu hkey (AQ (wpAny_dictFind_heap (s:={ s with toks:=s.toks+knd.draws k }) hu hkey ho hd he his hn (fun hno=>?_) fun j p hj=>?_))))
 ·have hat:=atKey_none_of_get hno;refine AQ (wpAny_rule (AQ (wpAny_updateDictKeys (hz:=by have e:=size_of_entries he;lia) (s:={ s with toks:=s.toks+knd.draws k }) ho hd (AX (h2 hat _ ⟨_,_,ep+1,Heap.get?_update_self _ ho (Obj.isFreed_of_dict (Obj.data_mapDictKeys hd _)),hc.mapDictKeys _,Obj.data_mapDictKeys hd _,?_,?_,?_⟩ (Heap.SameBut.update ..))))))
  ·rw[storedH_new hat];simp[he,entryOfKey]
  ·rw[storedH_new hat];intro x hx;rcases Bq.mp hx with hx | hx
   ·exact knd.keeps (his x hx) ho hd (Heap.SameBut.update ..)
   ·rw[Ax.mp hx];exact knd.keeps hkey ho hd (Heap.SameBut.update ..)
  ·rw[storedH_new hat,Bz,List.nodup_append];refine⟨hn,by simp,fun x hx y hy=>?_⟩;rw[List.map_singleton,Ax] at hy;subst hy;exact fun e=>not_mem_keys_of_get hno (e ▸ hx)
 ·refine AQ (wpAny_dictEntries (s:={ s with toks:=s.toks+knd.draws k }) ho hd ?_)
  rw[entry_at he j,hj];exact AQ (wpAny_rule (AX (h1 p (atKey_of_get hn hj))))
end
section
variable {X:Cx}
theorem e98 (hu:X.A.units+1 < cLine):MtM X "dict.setdefault" (fun x vs H Q=>∃ d b m zs v,x=.ref d/\vs=[.ref b,v]/\H d=some (dP m)/\H b=some (.tup (zs.map V.str))/\m.length < zL /\
 (∀ w,a96 m zs=some w->Q w H)/\(a96 m zs=none->Q v (upd H d (dP (b18 m zs v))))):=by
 try constructor
 intro pins s σ H x xs u us Q I rx rs h;obtain⟨d,b,m,zs,v,rfl,rfl,e,eb,hl,q1,q2⟩:=h;cases (show u=Value.ref d from rx);obtain⟨u1,u2,rfl,r1,r2⟩:∃ u1 u2,us=[u1,u2]/\RelV (.ref b) u1/\RelV v u2:=by
  cases rs with
  | cons r1 t=>cases t with
   | cons r2 t=>cases t with
    | nil=>exact⟨_,_,rfl,r1,r2⟩
 cases (show u1=Value.ref b from r1);obtain⟨z,hd,ys,rel,dd⟩:=g44 I.hok e;have eb':H b=some (.tup (((zs.map Sum.inr:List Key)).map kV)):=by rw[b42];exact eb
 have hz:ys.length<=zL:=by rw[← Paired.length rel];exact z
 have hl2:((m.map gP)).length < zL:=by rw[Aj];exact hl
 refine wpAny_call_entry PySem.F.slot_dict_setdefault dd.typeIs PySem.F.entry_dict_setdefault ?_ (PySem.F.args_dict_setdefault_3 _ _ _);unfold Builtin.«dict.setdefault»;refine AQ ?_;unfold Builtin.Dict.keyAndDefault;refine AQ (wpAny_notOrdered_dict dd.typeIs ?_);show wpAny _ _ (pure (d,Value.ref b,some u2)) _ _ s;refine AX ?_;show wpAny _ _ (if (d == sysModules)=true then _ else(dictSetDefault d (.ref b) u2 >>= _)) _ _ s;rw[if_neg (by rw[hd];simp)];refine AQ (d94 (tupleKind_room_in1 hu) (c43 I.hok eb') dd (fun p hp=>?_) (fun hp h' dd' hs=>?_) hz)
 ·obtain⟨w',hw,rw'⟩:∃ w',a96 (m.map gP) (zs.map Sum.inr)=some w'/\RelV w' p.2:=by
   have:=rel.val (zs.map Sum.inr)
   rw[hp] at this;cases q:a96 (m.map gP) (zs.map Sum.inr) with
   | none=>rw[q] at this;exact this.elim
   | some w'=>rw[q] at this;exact⟨w',rfl,this⟩
  rw[d61] at hw;exact AX ⟨_,rfl,w',H,I.tok _,rw',q1 w' hw⟩
 ·have hn:a96 m zs=none:=by
   have:=rel.val (zs.map Sum.inr)
   rw[hp] at this;rw[← d61];cases q:a96 (m.map gP) (zs.map Sum.inr) with
   | none=>rfl
   | some w'=>rw[q] at this;exact this.elim
  refine AX ⟨_,rfl,v,_,?_,r2,q2 hn⟩;obtain⟨q,es,ep,hq,h2,h3,h4,_,h5⟩:=dd';have hl3:(b18 (m.map gP) (zs.map Sum.inr) v).length<=zL:=by have:=a92 (m.map gP) (zs.map Sum.inr) v;lia
  rw[show dP (b18 m zs v)=.dT (b18 (m.map gP) (zs.map Sum.inr) v) by unfold dP;rw[f77]];refine c90 I (by rw[e];exact True.intro) hs ⟨q,hq⟩ ⟨hl3,hd,_,(rel.put (zs.map Sum.inr) eb' r2).keeps fun c ys ec=>?_,q,es,ep,hq,h2,h3,h4,h5⟩;rw[a07 (b06 ec e (fun z=>nomatch z))];exact ec
theorem g58 {H:Hp}{pins:LAO}{σ:St}{s:Sd}(I:Inv X pins σ H s){h':Heap}(kp:∀ b o,s.heap.get? b=some o->h'.get? b=some o){a:Addr}{zs:List Str}(e:H a=some (.tup (zs.map V.str))):Srt.PathV h' (.ref a) zs:=by
 obtain⟨its,r,p,_⟩:=I.tuple (SqT.of (K:=X.K) e);obtain⟨o,ho,hc,n,hd⟩:=p;exact⟨a,o,its.toArray,n,rfl,kp _ _ ho,hc,hd,by simpa using c65 r⟩
theorem d40:∀ as:List Addr,Vals (as.map V.ref) (as.map Value.ref)
 | []=>.nil
 | _::r=>.cons rfl (d40 r)
end
end L2
namespace Ws
open PySem PyProof.Rows
set_option autoImplicit false
def e94:Bool->Keyed->Array Keyed->Nat->Nat->Nat->StateT SortSt Sem (Option Nat):=sortPriv% PySem.Builtin.gallop
def e57:Array Keyed->Array Keyed->StateT SortSt Sem (Array Keyed):=sortPriv% PySem.Builtin.mergeLo
def e55:Array Keyed->Array Keyed->StateT SortSt Sem (Array Keyed):=sortPriv% PySem.Builtin.mergeHi
def h71:Nat->StateT SortSt Sem Unit:=sortPriv% PySem.Builtin.setMinGallop
def AD (D:Keyed->Prop)(xs:Array Keyed):Prop:=∀ x∈xs.toList,D x
section
variable {D:Keyed->Prop}{xs ys:Array Keyed}{x:Keyed}
theorem AD.at (h:AD D xs){i:Nat}(e:xs[i]?=some x):D x:=h x (BJ (by rw[Array.getElem?_toList];exact e))
theorem AD.push (h:AD D xs)(q:D x):AD D (xs.push x):=fun y hy=>by
 rw[Array.toList_push] at hy;rcases Bq.mp hy with p | p
 ·exact h y p
 ·rw[Ax.mp p];exact q
theorem AD.app (h:AD D xs)(q:AD D ys):AD D (xs++ys):=fun y hy=>by
 rw[Array.toList_append] at hy;exact(Bq.mp hy).elim (h y) (q y)
theorem AD.ext (h:AD D xs) (i j:Nat):AD D (xs.extract i j):=fun y hy=>by
 rw[Array.toList_extract,List.extract_eq_take_drop] at hy;exact h y (List.mem_of_mem_drop (List.mem_of_mem_take hy))
theorem AD.rev (h:AD D xs):AD D xs.reverse:=fun y hy=>by
 rw[Array.toList_reverse] at hy;exact h y (List.mem_reverse.mp hy)
theorem AD.perm (h:AD D xs)(p:ys.Perm xs):AD D ys:=fun y hy=>h y ((Array.perm_iff_toList_perm.mp p).mem_iff.mp hy)
theorem AD.one (q:D x):AD D #[x]:=fun y hy=>by rw[Ax.mp hy];exact q
theorem AD.set (h:AD D xs){i:Nat}(q:D x):AD D (xs.setIfInBounds i x):=fun y hy=>by
 rw[Array.toList_setIfInBounds] at hy;rcases List.mem_or_eq_of_mem_set hy with p | p
 ·exact h y p
 ·rw[p];exact q
end
theorem i73 {D:Keyed->Prop} (o:Nat):∀(l:List (Keyed×Nat))(xs:Array Keyed),(∀ p∈l,D p.1)->AD D xs->AD D (l.foldl (fun a p=>a.setIfInBounds (o+p.2) p.1) xs)/\(l.foldl (fun a p=>a.setIfInBounds (o+p.2) p.1) xs).size=xs.size
 | [],_,_,h=>⟨h,rfl⟩
 | p::l,xs,hl,h=>by
  obtain⟨a,b⟩:=i73 o l (xs.setIfInBounds (o+p.2) p.1) (fun q hq=>hl q (BQ _ hq)) (h.set (hl p BX))
  exact⟨a,b.trans (Array.size_setIfInBounds ..)⟩
structure W (D:Keyed->Prop)(kd:SortKind) (n:Nat)(pe:Array (Nat×Nat×Nat))(st:SortSt):Prop where
 kind:kindOf st=kd
 fail:failedOf st=none
 arr:AD D (arrOf st)
 size:(arrOf st).size=n
 pend:pendingOf st=pe
section
variable {prog:Pm}{w:World}{A:Around}{E:VSP}{s:Sd}{D:Keyed->Prop}{kd:SortKind}{n:Nat}{pe:Array (Nat×Nat×Nat)}{st:SortSt}
def Cmp (prog:Pm)(w:World)(A:Around)(E:VSP)(s:Sd)(D:Keyed->Prop)(kd:SortKind):Prop :=
 ∀(x y:Keyed)(st:SortSt)(Q:Option Bool->SortSt->Prop),D x->D y->kindOf st=kd->(∀ b,Q (some b) st)->wpS (model prog w) A E s (lt' x y) Q st
theorem a57 {arr:Array Keyed}{i:Nat}{Q:Keyed->SortSt->Prop}(hD:AD D arr)(hi:i < arr.size)(h:∀ x,D x->Q x st):wpS (model prog w) A E s (elem' arr i) Q st:=by
 rw[elem'_eq,getElem?_pos arr i hi];exact wpS_pure (h _ (hD.at (getElem?_pos arr i hi)))
theorem b24 {α:Type}{m:StateT SortSt Sem α}{Q:α->SortSt->Prop}{st:SortSt}(P:(α->SortSt->Prop)->Prop)(h1:P Q)(h2:P Q->wpS (model prog w) A E s m Q st):wpS (model prog w) A E s m Q st:=h2 h1
theorem b49 {g:Nat}{Q:Unit->SortSt->Prop}(h0:W D kd n pe st)(h:∀ st',W D kd n pe st'->Q () st'):wpS (model prog w) A E s (h71 g) Q st :=
 wpS_modify (h _ ⟨h0.kind,h0.fail,h0.arr,h0.size,h0.pend⟩)
theorem i09 {σ:Type}{x:σ}{Q:PUnit->σ->Prop}{st:σ}{M:Model}(h:Q ⟨⟩ x):wpS M A E s (set x:StateT σ Sem PUnit) Q st:=by
 unfold wpS;rw[StateT.run_set];exact AX ⟨rfl,h⟩
theorem b12 (C:Cmp prog w A E s D kd){left:Bool}{x:Keyed}{arr:Array Keyed}{base n hint:Nat}{Q:Option Nat->SortSt->Prop}(hk:kindOf st=kd)(hx:D x)(hD:AD D arr)(hn:base+n<=arr.size)(hh:hint < n)
 (h:∀ k,k<=n->Q (some k) st):wpS (model prog w) A E s (e94 left x arr base n hint) Q st:=by
 have hb:∀ i,i < n->∀ Q:Option Bool->SortSt->Prop,(∀ b,Q (some b) st)->wpS (model prog w) A E s (do
  let y ← elem' arr (base+i)
  if left=true then lt' y x else do
   let r ← lt' x y
   pure (Option.map (fun z=>!z) r)) Q st:=fun i hi Q q=>wpS_bind (a57 hD (nTQ (Nat.add_lt_add_left hi base) hn) fun y hy=>by
  cases left with
  | true=>rw[if_pos rfl];exact C _ _ _ _ hy hx hk q
  | false=>rw[if_neg Fj];exact wpS_bind (C _ _ _ _ hx hy hk fun b=>wpS_pure (q _)))
 unfold e94
 k_delta "gallop"
 refine wpS_bind (hb hint hh _ fun r=>?_);dsimp only;have last:∀ lo hi:Nat,hi<=n->∀(f:Option (Option Nat)×Nat×Nat->StateT SortSt Sem (Option Nat)),(∀ l k,Q (some k) st->wpS (model prog w) A E s (f (none,l,k)) Q st) ->
  ∀ g:Nat->Option (Option Nat)×Nat×Nat->StateT SortSt Sem (ForInStep (Option (Option Nat)×Nat×Nat)),
  (∀(i lo hi:Nat)(R:ForInStep (Option (Option Nat)×Nat×Nat)->SortSt->Prop),hi<=n->R (.done (none,lo,hi)) st->(∀ l k,k<=n->R (.yield (none,l,k)) st)->wpS (model prog w) A E s (g i (none,lo,hi)) R st) ->
  wpS (model prog w) A E s (forIn [:n] ((none,lo,hi):Option (Option Nat)×Nat×Nat) g >>= f) Q st:=by
  intro lo hi h2 f hf g hg;refine wpS_bind (wpS_forRange (a:=0) (b:=n) (I:=fun _ c st'=>st'=st/\∃ lo hi,c=(none,lo,hi)/\hi<=n) ?_ ?_ ⟨rfl,lo,hi,rfl,h2⟩)
  ·rintro x c st' _ _ ⟨rfl,lo,hi,rfl,h2⟩;exact hg x lo hi _ h2 (hf _ _ (h hi h2)) fun l k hk=>⟨rfl,_,_,rfl,hk⟩
  ·rintro c st' ⟨rfl,lo,hi,rfl,h2⟩;exact hf _ _ (h hi h2)
 have lstep:∀(i lo hi:Nat)(R:ForInStep (Option (Option Nat)×Nat×Nat)->SortSt->Prop),hi<=n->R (.done (none,lo,hi)) st->(∀ l k,k<=n->R (.yield (none,l,k)) st) ->
  wpS (model prog w) A E s (if lo ≥ hi then pure (.done (none,lo,hi)) else do
   let z ← (do
    let y ← elem' arr (base+(lo+(hi-lo) / 2))
    if left=true then lt' y x else do
     let r ← lt' x y
     pure (Option.map (fun z=>!z) r))
   match z with
   | some more=>if more=true then pure (.yield (none,lo+(hi-lo) / 2+1,hi)) else pure (.yield (none,lo,lo+(hi-lo) / 2))
   | x=>pure (.done (some none,lo,hi))) R st:=by
  intro i lo hi R h2 h3 h4;by_cases q:lo ≥ hi
  ·rw[if_pos q];exact wpS_pure h3
  ·rw[if_neg q];refine wpS_bind (hb _ (by omega) _ fun b=>?_);cases b with
   | true=>exact wpS_pure (h4 _ _ h2)
   | false=>exact wpS_pure (h4 _ _ (by omega))
 cases r with
 | true =>
  rw[if_pos rfl];refine wpS_bind (wpS_forRange (a:=0) (b:=n) (I:=fun _ c st'=>st'=st/\∃ l o,c=(none,l,o)) ?_ ?_ ⟨rfl,0,1,rfl⟩)
  ·rintro x c st' _ _ ⟨rfl,l,o,rfl⟩;dsimp only;by_cases q:o ≥ n-hint
   ·rw[if_pos q];exact wpS_pure (last _ _ (by omega) _ (fun _ k q=>wpS_pure q) _ lstep)
   ·rw[if_neg q];refine wpS_bind (hb _ (by omega) _ fun b=>?_);cases b with
    | true=>exact wpS_pure ⟨rfl,_,_,rfl⟩
    | false=>exact wpS_pure (last _ _ (by omega) _ (fun _ k q=>wpS_pure q) _ lstep)
  ·rintro c st' ⟨rfl,l,o,rfl⟩;exact last _ _ (by omega) _ (fun _ k q=>wpS_pure q) _ lstep
 | false =>
  rw[if_neg Fj];refine wpS_bind (wpS_forRange (a:=0) (b:=n) (I:=fun _ c st'=>st'=st/\∃ l o,c=(none,l,o)) ?_ ?_ ⟨rfl,0,1,rfl⟩)
  ·rintro x c st' _ _ ⟨rfl,l,o,rfl⟩;dsimp only;by_cases q:o ≥ hint+1
   ·rw[if_pos q];exact wpS_pure (last _ _ (by omega) _ (fun _ k q=>wpS_pure q) _ lstep)
   ·rw[if_neg q];refine wpS_bind (hb _ (by omega) _ fun b=>?_);cases b with
    | false=>exact wpS_pure ⟨rfl,_,_,rfl⟩
    | true=>exact wpS_pure (last _ _ (by omega) _ (fun _ k q=>wpS_pure q) _ lstep)
  ·rintro c st' ⟨rfl,l,o,rfl⟩;exact last _ _ (by omega) _ (fun _ k q=>wpS_pure q) _ lstep
end
end Ws
namespace Ws
open PySem PyProof.Rows
set_option autoImplicit false
section
variable {prog:Pm}{w:World}{A:Around}{E:VSP}{s:Sd}{D:Keyed->Prop}{kd:SortKind}{n:Nat}{pe:Array (Nat×Nat×Nat)}{st:SortSt}{a b:Array Keyed}
theorem d52 {i m:Nat}(h:i < m)(e:¬(i+1 == m)=true):i+1 < m:=Nat.lt_of_le_of_ne h fun q=>e (by rw[q];exact beq_self_eq_true _)
theorem b67 {i m:Nat}(e:¬(i == m)=true):i≠m:=fun q=>e (by rw[q];exact beq_self_eq_true _)
theorem d76 (C:Cmp prog w A E s D kd){Q:Array Keyed->SortSt->Prop}(h0:W D kd n pe st)(Da:AD D a)(Db:AD D b)(ha:0 < a.size)(hb:0 < b.size)(h:∀ out st',AD D out->W D kd n pe st'->Q out st'):wpS (model prog w) A E s (e57 a b) Q st:=by
 unfold e57
 k_delta "mergeLo"
 refine wpS_bind (wpS_lift (wpAny_rule ⟨rfl,?_⟩));try extract_lets
 refine wpS_bind (a57 Db hb fun b0 d0=>?_);try extract_lets
 have fD:∀ {out:Array Keyed}{i j:Nat}{st':SortSt},W D kd n pe st'->AD D out->Q (out++a.extract i a.size++b.extract j b.size) st':=fun sm m=>h _ _ ((m.app (Da.ext _ _)).app (Db.ext _ _)) sm;have fL:∀ {out:Array Keyed}{i j:Nat}{st':SortSt},W D kd n pe st'->AD D out->Q (out++b.extract j b.size++a.extract i a.size) st':=fun sm m=>h _ _ ((m.app (Db.ext _ _)).app (Da.ext _ _)) sm;by_cases e1:(1 == b.size)=true
 ·rw[if_pos e1];exact wpS_pure (fD h0 (.one d0))
 rw[if_neg e1];by_cases e2:(0+1 == a.size)=true
 ·rw[if_pos e2];exact wpS_pure (fL h0 (.one d0))
 rw[if_neg e2];refine wpS_bind (wpS_get ?_);try extract_lets
 refine wpS_bind (wpS_mono (wpS_forRange (a:=0) (b:=a.size+b.size)
  (I:=fun x c st'=>W D kd n pe st'/\∃ out i j mg,c=(none,out,i,j,mg)/\AD D out/\i+1 < a.size/\j < b.size/\x<=i+j)
  (Q:=fun c st'=>∃ r rest,c=(some r,rest)/\Q r st') ?step ?fin ⟨h0,_,_,_,_,rfl,.one d0,d52 ha e2,d52 hb e1,Fx _⟩) ?post)
 case post =>
  rintro c st' ⟨r,rest,rfl,hq⟩;exact wpS_pure hq
 case fin =>
  rintro c st' ⟨_,out,i,j,mg,_,_,h1,h2,h3⟩;omega
 case step =>
  rintro x c st1 _ hx ⟨sm1,out,i,j,mg,rfl,m1,hi,hj,hp⟩;try extract_lets
  refine wpS_bind (wpS_mono (wpS_forRange (a:=0) (b:=a.size+b.size)
   (I:=fun _ c st'=>W D kd n pe st'/\∃ out i j ac bc,c=(none,out,i,j,ac,bc)/\AD D out/\i+1 < a.size/\j < b.size/\x<=i+j)
   (Q:=fun c st'=>(∃ r rest,c=(some r,rest)/\Q r st')∨(W D kd n pe st'/\∃ out i j ac bc,c=(none,out,i,j,ac,bc)/\AD D out/\i+1 < a.size/\j < b.size/\x<=i+j)) ?step1 ?fin1 ⟨sm1,_,_,_,_,_,rfl,m1,hi,hj,hp⟩) ?post1)
  case fin1=>exact fun c st' q=>.inr q
  case step1 =>
   rintro _ c st2 _ _ ⟨sm2,out,i,j,ac,bc,rfl,m2,hi,hj,hp⟩;dsimp only;refine wpS_bind (a57 Db hj fun y hy=>wpS_bind (a57 Da (Nat.lt_of_succ_lt hi) fun z hz=>wpS_bind (C _ _ _ _ hy hz sm2.kind fun r=>?_)));dsimp only;cases r with
   | true =>
    rw[if_pos rfl];refine wpS_bind (a57 Db hj fun v hv=>?_);by_cases e:(j+1 == b.size)=true
    ·rw[if_pos e];exact wpS_pure (.inl ⟨_,_,rfl,fD sm2 (m2.push hv)⟩)
    ·rw[if_neg e];by_cases g:bc+1 ≥ mg
     ·rw[if_pos g];exact wpS_pure (.inr ⟨sm2,_,_,_,_,_,rfl,m2.push hv,hi,d52 hj e,Nat.le_succ_of_le hp⟩)
     ·rw[if_neg g];exact wpS_pure ⟨sm2,_,_,_,_,_,rfl,m2.push hv,hi,d52 hj e,Nat.le_succ_of_le hp⟩
   | false =>
    rw[if_neg Fj];refine wpS_bind (a57 Da (Nat.lt_of_succ_lt hi) fun v hv=>?_);by_cases e:(i+1+1 == a.size)=true
    ·rw[if_pos e];exact wpS_pure (.inl ⟨_,_,rfl,fL sm2 (m2.push hv)⟩)
    ·rw[if_neg e];have hp':x<=i+1+j:=by omega
     by_cases g:ac+1 ≥ mg
     ·rw[if_pos g];exact wpS_pure (.inr ⟨sm2,_,_,_,_,_,rfl,m2.push hv,d52 hi e,hj,hp'⟩)
     ·rw[if_neg g];exact wpS_pure ⟨sm2,_,_,_,_,_,rfl,m2.push hv,d52 hi e,hj,hp'⟩
  case post1 =>
   rintro c st2 (⟨r,rest,rfl,hq⟩ | ⟨sm2,out,i,j,ac,bc,rfl,m2,hi,hj,hp⟩)
   ·exact wpS_pure ⟨_,_,rfl,hq⟩
   try extract_lets
   refine wpS_bind (wpS_lift (wpAny_rule ⟨rfl,?_⟩));try extract_lets
   refine wpS_bind (wpS_mono (wpS_forRange (a:=0) (b:=a.size+b.size)
    (I:=fun y c st'=>W D kd n pe st'/\∃ out i j mg ac bc,c=(none,out,i,j,mg,ac,bc)/\AD D out/\i+1 < a.size/\j < b.size/\x+y<=i+j)
    (Q:=fun c st'=>(∃ r rest,c=(some r,rest)/\Q r st')∨(W D kd n pe st'/\∃ out i j mg ac bc,c=(none,out,i,j,mg,ac,bc)/\AD D out/\i+1 < a.size/\j < b.size/\x+1<=i+j)) ?step2 ?fin2 ⟨sm2,_,_,_,_,_,_,rfl,m2,hi,hj,hp⟩) ?post2)
   case fin2 =>
    rintro c st3 ⟨sm3,out,i,j,mg,ac,bc,rfl,m3,hi,hj,hp⟩;exact .inr ⟨sm3,_,_,_,_,_,_,rfl,m3,hi,hj,by omega⟩
   case post2 =>
    rintro c st3 (⟨r,rest,rfl,hq⟩ | ⟨sm3,out,i,j,mg,ac,bc,rfl,m3,hi,hj,hp⟩)
    ·exact wpS_pure ⟨_,_,rfl,hq⟩
    try extract_lets
    exact wpS_bind (b49 sm3 fun st4 sm4=>wpS_pure ⟨sm4,_,_,_,_,rfl,m3,hi,hj,hp⟩)
   case step2 =>
    rintro y c st3 _ hy ⟨sm3,out,i,j,mg,ac,bc,rfl,m3,hi,hj,hp⟩
    extract_lets -merge +onlyGivenNames s1 o1 s2 i1 s3 j1 s4 g1 s5 c1 d1 ib2 jp
    refine b24 (fun Q=>∀ mg,wpS (model prog w) A E s (jp () mg) Q st3) ?_ (fun hjp=>?_)
    case refine_2 =>
     by_cases g:mg > 1
     ·rw[if_pos g];exact hjp _
     ·rw[if_neg g];exact hjp _
    intro mg;refine wpS_bind (b49 sm3 fun st4 sm5=>wpS_bind (a57 Db hj fun v hv=>?_));refine wpS_bind (b12 (arr:=a) (base:=i) (n:=a.size-i) (hint:=0) C sm5.kind hv Da (by omega) (by omega) fun k hk1=>?_);dsimp -zeta -zetaHave only
    extract_lets -merge +onlyGivenNames c2 jp2
    refine b24 (fun Q=>∀(out:Array Keyed) (i:Nat),AD D out->i+1 < a.size->x+y<=i+j->wpS (model prog w) A E s (jp2 () out i) Q st4) ?_ (fun hjp=>?_)
    case refine_2 =>
     by_cases g:k > 0
     ·rw[if_pos g];have m4:=m3.app (Da.ext i (i+k));by_cases e:(i+k+1 == a.size)=true
      ·try extract_lets
       rw[if_pos e];exact wpS_pure (.inl ⟨_,_,rfl,fL (i:=i+k) (j:=j) sm5 m4⟩)
      ·try extract_lets
       rw[if_neg e];by_cases e2:(i+k == a.size)=true
       ·rw[if_pos e2];exact wpS_pure (.inl ⟨_,_,rfl,fD (i:=i+k) (j:=j) sm5 m4⟩)
       ·rw[if_neg e2];have n1:=b67 e;have n2:=b67 e2;exact hjp _ (i+k) m4 (by omega) (by omega)
     ·rw[if_neg g];exact hjp _ i m3 hi hp
    intro out i m4 hi hp;refine wpS_bind (a57 Db hj fun v hv=>?_);have m5:=m4.push hv;try extract_lets
    by_cases e:(j+1 == b.size)=true
    ·rw[if_pos e];exact wpS_pure (.inl ⟨_,_,rfl,fD (i:=i) (j:=j+1) sm5 m5⟩)
    rw[if_neg e];have n1:=d52 hj e;refine wpS_bind (a57 Da (Nat.lt_of_succ_lt hi) fun v hv=>?_);refine wpS_bind (b12 (arr:=b) (base:=j+1) (n:=b.size-(j+1)) (hint:=0) C sm5.kind hv Db (by omega) (by omega) fun k2 hk21=>?_);dsimp -zeta -zetaHave only
    extract_lets -merge +onlyGivenNames c3 jp3
    refine b24 (fun Q=>∀(out:Array Keyed) (j':Nat),AD D out->j' < b.size->x+(y+1)<=i+j'->wpS (model prog w) A E s (jp3 () out j') Q st4) ?_ (fun hjp=>?_)
    case refine_2 =>
     by_cases g:k2 > 0
     ·rw[if_pos g];have m6:=m5.app (Db.ext (j+1) (j+1+k2));try extract_lets
      by_cases e:(j+1+k2 == b.size)=true
      ·rw[if_pos e];exact wpS_pure (.inl ⟨_,_,rfl,fD (i:=i) (j:=j+1+k2) sm5 m6⟩)
      ·rw[if_neg e];have n2:=b67 e;exact hjp _ (j+1+k2) m6 (by omega) (by omega)
     ·rw[if_neg g];exact hjp _ (j+1) m5 n1 (Nat.add_le_add_right hp 1)
    intro out j' m6 hj' hp';refine wpS_bind (a57 Da (Nat.lt_of_succ_lt hi) fun v hv=>?_);have m7:=m6.push hv;try extract_lets
    by_cases e3:(i+1+1 == a.size)=true
    ·rw[if_pos e3];exact wpS_pure (.inl ⟨_,_,rfl,fL (i:=i+1) (j:=j') sm5 m7⟩)
    rw[if_neg e3];have n3:=d52 hi e3;by_cases g:(decide (k < 7) && decide (k2 < 7))=true
    ·rw[if_pos g];exact wpS_pure (.inr ⟨sm5,_,_,_,_,_,_,rfl,m7,n3,hj',by omega⟩)
    ·rw[if_neg g];exact wpS_pure ⟨sm5,_,_,_,_,_,_,rfl,m7,n3,hj',by omega⟩
theorem e07 (C:Cmp prog w A E s D kd){Q:Array Keyed->SortSt->Prop}(h0:W D kd n pe st)(Da:AD D a)(Db:AD D b)(ha:0 < a.size)(hb:0 < b.size)(h:∀ out st',AD D out->W D kd n pe st'->Q out st'):wpS (model prog w) A E s (e55 a b) Q st:=by
 unfold e55
 k_delta "mergeHi"
 refine wpS_bind (wpS_lift (wpAny_rule ⟨rfl,?_⟩));try extract_lets
 refine wpS_bind (a57 (i:=a.size-1) Da (by omega) fun a0 d0=>?_);try extract_lets
 have fD:∀ {out:Array Keyed}{i j:Nat}{st':SortSt},W D kd n pe st'->AD D out->Q (a.extract 0 i++b.extract 0 j++out.reverse) st':=fun sm m=>h _ _ (((Da.ext _ _).app (Db.ext _ _)).app m.rev) sm;have fF:∀ {out:Array Keyed}{i j:Nat}{st':SortSt},W D kd n pe st'->AD D out->Q (b.extract 0 j++a.extract 0 i++out.reverse) st':=fun sm m=>h _ _ (((Db.ext _ _).app (Da.ext _ _)).app m.rev) sm;by_cases e1:(a.size-1 == 0)=true
 ·rw[if_pos e1];exact wpS_pure (fD (i:=a.size-1) (j:=b.size) h0 (.one d0))
 rw[if_neg e1];have e1':=b67 e1;by_cases e2:(b.size == 1)=true
 ·rw[if_pos e2];exact wpS_pure (fF (i:=a.size-1) (j:=b.size) h0 (.one d0))
 rw[if_neg e2];have e2':=b67 e2;refine wpS_bind (wpS_get ?_);try extract_lets
 refine wpS_bind (wpS_mono (wpS_forRange (a:=0) (b:=a.size+b.size)
  (I:=fun x c st'=>W D kd n pe st'/\∃ i j out mg,c=(none,i,j,out,mg)/\AD D out/\0 < i/\i<=a.size/\1 < j/\j<=b.size/\x+i+j<=a.size+b.size)
  (Q:=fun c st'=>∃ r rest,c=(some r,rest)/\Q r st') ?step ?fin ⟨h0,_,_,_,_,rfl,.one d0,by omega,by omega,by omega,by omega,by omega⟩) ?post)
 case post =>
  rintro c st' ⟨r,rest,rfl,hq⟩;exact wpS_pure hq
 case fin =>
  rintro c st' ⟨_,i,j,out,mg,_,_,h1,h2,h3,h4,h5⟩;omega
 case step =>
  rintro x c st1 _ hx ⟨sm1,i,j,out,mg,rfl,m1,hi0,hi,hj0,hj,hp⟩;try extract_lets
  refine wpS_bind (wpS_mono (wpS_forRange (a:=0) (b:=a.size+b.size)
   (I:=fun _ c st'=>W D kd n pe st'/\∃ i j out ac bc,c=(none,i,j,out,ac,bc)/\AD D out/\0 < i/\i<=a.size/\1 < j/\j<=b.size/\x+i+j<=a.size+b.size)
   (Q:=fun c st'=>(∃ r rest,c=(some r,rest)/\Q r st')∨(W D kd n pe st'/\∃ i j out ac bc,c=(none,i,j,out,ac,bc)/\AD D out/\0 < i/\i<=a.size/\1 < j/\j<=b.size/\x+i+j<=a.size+b.size)) ?step1 ?fin1 ⟨sm1,_,_,_,_,_,rfl,m1,hi0,hi,hj0,hj,hp⟩) ?post1)
  case fin1=>exact fun c st' q=>.inr q
  case step1 =>
   rintro _ c st2 _ _ ⟨sm2,i,j,out,ac,bc,rfl,m2,hi0,hi,hj0,hj,hp⟩;dsimp only;have hj1:j-1 < b.size:=by omega
   have hi1:i-1 < a.size:=by omega
   refine wpS_bind (a57 Db hj1 fun y hy=>wpS_bind (a57 Da hi1 fun z hz=>wpS_bind (C _ _ _ _ hy hz sm2.kind fun r=>?_)));dsimp only;cases r with
   | true =>
    rw[if_pos rfl];refine wpS_bind (a57 Da hi1 fun v hv=>?_);by_cases e:(i-1 == 0)=true
    ·rw[if_pos e];exact wpS_pure (.inl ⟨_,_,rfl,fD sm2 (m2.push hv)⟩)
    ·rw[if_neg e];have e':0 < i-1:=Nat.pos_of_ne_zero (b67 e);have hp':x+(i-1)+j<=a.size+b.size:=by omega
     by_cases g:ac+1 ≥ mg
     ·rw[if_pos g];exact wpS_pure (.inr ⟨sm2,_,_,_,_,_,rfl,m2.push hv,e',Nat.le_of_lt hi1,hj0,hj,hp'⟩)
     ·rw[if_neg g];exact wpS_pure ⟨sm2,_,_,_,_,_,rfl,m2.push hv,e',Nat.le_of_lt hi1,hj0,hj,hp'⟩
   | false =>
    rw[if_neg Fj];refine wpS_bind (a57 Db hj1 fun v hv=>?_);by_cases e:(j-1 == 1)=true
    ·rw[if_pos e];exact wpS_pure (.inl ⟨_,_,rfl,fF sm2 (m2.push hv)⟩)
    ·rw[if_neg e];have e':=b67 e;have e2:1 < j-1:=by omega
     have hp':x+i+(j-1)<=a.size+b.size:=by omega
     by_cases g:bc+1 ≥ mg
     ·rw[if_pos g];exact wpS_pure (.inr ⟨sm2,_,_,_,_,_,rfl,m2.push hv,hi0,hi,e2,Nat.le_of_lt hj1,hp'⟩)
     ·rw[if_neg g];exact wpS_pure ⟨sm2,_,_,_,_,_,rfl,m2.push hv,hi0,hi,e2,Nat.le_of_lt hj1,hp'⟩
  case post1 =>
   rintro c st2 (⟨r,rest,rfl,hq⟩ | ⟨sm2,i,j,out,ac,bc,rfl,m2,hi0,hi,hj0,hj,hp⟩)
   ·exact wpS_pure ⟨_,_,rfl,hq⟩
   try extract_lets
   refine wpS_bind (wpS_lift (wpAny_rule ⟨rfl,?_⟩));try extract_lets
   refine wpS_bind (wpS_mono (wpS_forRange (a:=0) (b:=a.size+b.size)
    (I:=fun y c st'=>W D kd n pe st'/\∃ i j out mg ac bc,c=(none,i,j,out,mg,ac,bc)/\AD D out/\0 < i/\i<=a.size/\1 < j/\j<=b.size/\x+y+i+j<=a.size+b.size)
    (Q:=fun c st'=>(∃ r rest,c=(some r,rest)/\Q r st')∨(W D kd n pe st'/\∃ i j out mg ac bc,c=(none,i,j,out,mg,ac,bc)/\AD D out/\0 < i/\i<=a.size/\1 < j/\j<=b.size/\x+1+i+j<=a.size+b.size)) ?step2 ?fin2 ⟨sm2,_,_,_,_,_,_,rfl,m2,hi0,hi,hj0,hj,hp⟩) ?post2)
   case fin2 =>
    rintro c st3 ⟨sm3,i,j,out,mg,ac,bc,rfl,m3,hi0,hi,hj0,hj,hp⟩;exact .inr ⟨sm3,_,_,_,_,_,_,rfl,m3,hi0,hi,hj0,hj,by omega⟩
   case post2 =>
    rintro c st3 (⟨r,rest,rfl,hq⟩ | ⟨sm3,i,j,out,mg,ac,bc,rfl,m3,hi0,hi,hj0,hj,hp⟩)
    ·exact wpS_pure ⟨_,_,rfl,hq⟩
    try extract_lets
    exact wpS_bind (b49 sm3 fun st4 sm4=>wpS_pure ⟨sm4,_,_,_,_,rfl,m3,hi0,hi,hj0,hj,hp⟩)
   case step2 =>
    rintro y c st3 _ hy ⟨sm3,i,j,out,mg,ac,bc,rfl,m3,hi0,hi,hj0,hj,hp⟩
    extract_lets -merge +onlyGivenNames s1 i1 s2 j1 s3 o1 s4 g1 s5 c1 d1 j2 jp
    refine b24 (fun Q=>∀ mg,wpS (model prog w) A E s (jp () mg) Q st3) ?_ (fun hjp=>?_)
    case refine_2 =>
     by_cases g:mg > 1
     ·rw[if_pos g];exact hjp _
     ·rw[if_neg g];exact hjp _
    intro mg;have hj1:j-1 < b.size:=by omega
    refine wpS_bind (b49 sm3 fun st4 sm5=>wpS_bind (a57 (i:=j-1) Db hj1 fun v hv=>?_));refine wpS_bind (b12 (arr:=a) (base:=0) (n:=i) (hint:=i-1) C sm5.kind hv Da (by omega) (by omega) fun k hk1=>?_);dsimp -zeta -zetaHave only
    extract_lets -merge +onlyGivenNames k1 c2 jp2
    refine b24 (fun Q=>∀(i:Nat)(out:Array Keyed),AD D out->0 < i->i<=a.size->x+y+i+j<=a.size+b.size->wpS (model prog w) A E s (jp2 () i out) Q st4) ?_ (fun hjp=>?_)
    case refine_2 =>
     by_cases g:i-k > 0
     ·rw[if_pos g];have m4:=m3.app (Da.ext k i).rev;by_cases e:(k == 0)=true
      ·try extract_lets
       rw[if_pos e];exact wpS_pure (.inl ⟨_,_,rfl,fD (i:=k) (j:=j) sm5 m4⟩)
      ·try extract_lets
       rw[if_neg e];exact hjp k _ m4 (Nat.pos_of_ne_zero (b67 e)) (Fz hk1 hi) (by omega)
     ·rw[if_neg g];exact hjp i _ m3 hi0 hi hp
    intro i out m4 hi0 hi hp;have hi1:i-1 < a.size:=by omega
    refine wpS_bind (a57 (i:=j-1) Db hj1 fun v hv=>?_);have m5:=m4.push hv;try extract_lets
    by_cases e:(j-1 == 1)=true
    ·rw[if_pos e];exact wpS_pure (.inl ⟨_,_,rfl,fF (i:=i) (j:=j-1) sm5 m5⟩)
    rw[if_neg e];have n1:=b67 e;refine wpS_bind (a57 (i:=i-1) Da hi1 fun v hv=>?_);refine wpS_bind (b12 (arr:=b) (base:=0) (n:=j-1) (hint:=j-1-1) C sm5.kind hv Db (by omega) (by omega) fun k2 hk21=>?_);dsimp -zeta -zetaHave only
    extract_lets -merge +onlyGivenNames k3 c3 jp3
    refine b24 (fun Q=>∀(j':Nat)(out:Array Keyed),AD D out->1 < j'->j'<=b.size->x+(y+1)+i+j'<=a.size+b.size->wpS (model prog w) A E s (jp3 () j' out) Q st4) ?_ (fun hjp=>?_)
    case refine_2 =>
     by_cases g:j-1-k2 > 0
     ·rw[if_pos g];have m6:=m5.app (Db.ext k2 (j-1)).rev;by_cases e:(k2 == 1)=true
      ·try extract_lets
       rw[if_pos e];exact wpS_pure (.inl ⟨_,_,rfl,fF (i:=i) (j:=k2) sm5 m6⟩)
      ·try extract_lets
       rw[if_neg e];by_cases e2:(k2 == 0)=true
       ·rw[if_pos e2];exact wpS_pure (.inl ⟨_,_,rfl,fD (i:=i) (j:=k2) sm5 m6⟩)
       ·rw[if_neg e2];have n2:=b67 e;have n3:=b67 e2;exact hjp k2 _ m6 (by omega) (by omega) (by omega)
     ·rw[if_neg g];exact hjp (j-1) _ m5 (by omega) (Nat.le_of_lt hj1) (by omega)
    intro j' out m6 hj0' hj' hp';refine wpS_bind (a57 (arr:=a) (i:=i-1) Da hi1 fun v hv=>?_);have m7:=m6.push hv;try extract_lets
    by_cases e3:(i-1 == 0)=true
    ·rw[if_pos e3];exact wpS_pure (.inl ⟨_,_,rfl,fD (i:=i-1) (j:=j') sm5 m7⟩)
    rw[if_neg e3];have n3:0 < i-1:=Nat.pos_of_ne_zero (b67 e3);by_cases g:(decide (k1 < 7) && decide (k3 < 7))=true
    ·rw[if_pos g];exact wpS_pure (.inr ⟨sm5,i-1,j',_,_,_,_,rfl,m7,n3,Nat.le_of_lt hi1,hj0',hj',by omega⟩)
    ·rw[if_neg g];exact wpS_pure ⟨sm5,i-1,j',_,_,_,_,rfl,m7,n3,Nat.le_of_lt hi1,hj0',hj',by omega⟩
end
end Ws
namespace Ws
open PySem PyProof.Rows
set_option autoImplicit false
section
variable {prog:Pm}{w:World}{A:Around}{E:VSP}{s:Sd}{D:Keyed->Prop}{kd:SortKind}{n:Nat}{pe:Array (Nat×Nat×Nat)}{st:SortSt}
theorem d79 (C:Cmp prog w A E s D kd){Q:Bool->SortSt->Prop}{i sa na pw nb pw2:Nat}(h0:W D kd n pe st)(p1:pe[i]?=some (sa,na,pw))(p2:pe[i+1]?=some (sa+na,nb,pw2))
 (ha:0 < na)(hb:0 < nb)(hz:sa+na+nb<=n)(h:∀ st',W D kd n ((pe.setIfInBounds i (sa,na+nb,pw)).eraseIdxIfInBounds (i+1)) st'->Q true st'):wpS (model prog w) A E s (mergeAt' i) Q st:=by
 unfold mergeAt'
 k_delta "mergeAt"
 refine wpS_bind (wpS_get ?_);dsimp only;have q1:(pendingOf st)[i]?=some (sa,na,pw):=by rw[h0.pend];exact p1
 have q2:(pendingOf st)[i+1]?=some (sa+na,nb,pw2):=by rw[h0.pend];exact p2
 rw[q1,q2];dsimp only;have hs:=h0.size;have hD:=h0.arr;refine wpS_bind (i09 ?_);refine wpS_bind (a57 (arr:=arrOf st) (i:=sa+na) hD (by lia) fun x hx=>?_);have W1:W D kd n ((pe.setIfInBounds i (sa,na+nb,pw)).eraseIdxIfInBounds (i+1)) (SortSt.mk' (kindOf st) (arrOf st) (((pendingOf st).setIfInBounds i (sa,na+nb,pw)).eraseIdxIfInBounds (i+1)) (gallopOf st) (failedOf st)):=⟨h0.kind,h0.fail,hD,hs,by rw[← h0.pend]⟩;refine wpS_bind (b12 (arr:=arrOf st) (base:=sa) (n:=na) (hint:=0) C h0.kind hx hD (by lia) ha fun k hk1=>?_);dsimp only;by_cases e1:(na-k == 0)=true
 ·rw[if_pos e1];exact wpS_pure (h _ W1)
 rw[if_neg e1];have e1':=b67 e1;refine wpS_bind (a57 (arr:=arrOf st) (i:=sa+k+(na-k)-1) hD (by lia) fun y hy=>?_);refine wpS_bind (b12 (arr:=arrOf st) (base:=sa+na) (n:=nb) (hint:=nb-1) C h0.kind hy hD (by lia) (by lia) fun m hn1=>?_);dsimp only;by_cases e2:(m == 0)=true
 ·rw[if_pos e2];exact wpS_pure (h _ W1)
 rw[if_neg e2];have e2':=b67 e2;have zx:0 < ((arrOf st).extract (sa+k) (sa+na)).size:=by rw[Array.size_extract];lia
 have zy:0 < ((arrOf st).extract (sa+na) (sa+na+m)).size:=by rw[Array.size_extract];lia
 have fin:∀(m:Array Keyed)(st':SortSt),AD D m->W D kd n ((pe.setIfInBounds i (sa,na+nb,pw)).eraseIdxIfInBounds (i+1)) st' ->
  wpS (model prog w) A E s (do
   modify fun s=>SortSt.mk' (kindOf s) (m.toList.zipIdx.foldl (fun a (p,j)=>a.setIfInBounds (sa+k+j) p) (arrOf s)) (pendingOf s) (gallopOf s) (failedOf s)
   let z ← get
   pure (failedOf z).isNone) Q st':=fun m st' hm w'=>by
  refine wpS_bind (wpS_modify (wpS_bind (wpS_get (wpS_pure ?_))));have q:=i73 (sa+k) m.toList.zipIdx (arrOf st') (fun p hp=>hm _ (List.fst_mem_of_mem_zipIdx hp)) w'.arr;show Q (failedOf st').isNone _;have ef:(failedOf st').isNone=true:=by rw[w'.fail];rfl
  rw[ef];exact h _ ⟨w'.kind,w'.fail,q.1,q.2.trans w'.size,w'.pend⟩
 by_cases hle:na-k<=m
 ·rw[if_pos hle];exact wpS_bind (d76 C W1 (hD.ext _ _) (hD.ext _ _) zx zy fun o st' ho w'=>fin o st' ho w')
 ·rw[if_neg hle];exact wpS_bind (e07 C W1 (hD.ext _ _) (hD.ext _ _) zx zy fun o st' ho w'=>fin o st' ho w')
theorem W.ch (h0:W D kd n pe st){xs:Array Keyed}(p:xs.Perm (arrOf st)):W D kd n pe (setArr st xs):=⟨h0.kind,h0.fail,h0.arr.perm p,p.size_eq.trans h0.size,h0.pend⟩
theorem c49 (C:Cmp prog w A E s D kd){i j:Nat}{Q:Option Bool->SortSt->Prop}(h0:W D kd n pe st)(hi:i < n)(hj:j < n)(h:∀ b,Q (some b) st):wpS (model prog w) A E s (ltAt' i j) Q st:=by
 rw[ltAt'_eq];exact wpS_bind (wpS_get (wpS_bind (a57 h0.arr (by rw[h0.size];exact hi) fun x hx=>wpS_bind (a57 h0.arr (by rw[h0.size];exact hj) fun y hy=>C _ _ _ _ hx hy h0.kind h))))
theorem d10 {i j:Nat}{Q:Unit->SortSt->Prop}(h0:W D kd n pe st)(h:∀ st',W D kd n pe st'->Q () st'):wpS (model prog w) A E s (reverseSlice' i j) Q st:=by
 rw[reverseSlice'_eq];exact wpS_modify (h _ (h0.ch (mirror_perm _ _ _ _)))
theorem e90 (C:Cmp prog w A E s D kd){lo n0 nrem:Nat}{Q:Option (Option Nat)×Nat->SortSt->Prop}(h0:W D kd n pe st)(hz:lo+nrem<=n)(h1:1<=n0)(h2:n0<=nrem)(h:∀ m,n0<=m->m<=nrem->Q (none,m) st) :
 wpS (model prog w) A E s (forIn [n0:nrem] ((none,n0):Option (Option Nat)×Nat) fun _ c=>do
  let z ← ltAt' (lo+c.2) (lo+c.2-1)
  match z with
  | some sm=>if sm=true then pure (.done (none,c.2)) else pure (.yield (none,c.2+1))
  | x=>pure (.done (some none,c.2))) Q st:=by
 refine wpS_forRange (I:=fun x c st'=>st'=st/\c=(none,x)) ?step ?fin ⟨rfl,rfl⟩
 case fin =>
  rintro c st' ⟨rfl,rfl⟩;exact h _ (by lia) (by lia)
 case step =>
  rintro x c st' hx1 hx2 ⟨rfl,rfl⟩;refine wpS_bind (c49 C h0 (by lia) (by lia) fun b=>?_);cases b with
  | true=>exact wpS_pure (h x hx1 (Nat.le_of_lt hx2))
  | false=>exact wpS_pure ⟨rfl,rfl⟩
theorem d53 (C:Cmp prog w A E s D kd){lo nrem:Nat}{Q:Option Nat->SortSt->Prop}(h0:W D kd n pe st)(hz:lo+nrem<=n)(h1:1<=nrem)(h:∀ m st',W D kd n pe st'->1<=m->m<=nrem->Q (some m) st'):wpS (model prog w) A E s (countRun' lo nrem) Q st:=by
 unfold countRun'
 k_delta "countRun"
 refine wpS_bind (e90 C h0 hz (AZ 1) h1 fun m hn1 hn2=>?_)
 extract_lets -merge +onlyGivenNames r0 n0
 dsimp -zeta -zetaHave only[r0,n0];by_cases e:(m == nrem)=true
 ·rw[if_pos e];exact wpS_pure (h m st h0 hn1 hn2)
 rw[if_neg e];have e':=b67 e
 extract_lets -merge +onlyGivenNames n2 q2 q3 jp
 refine b24 (fun Q=>∀ st1,W D kd n pe st1->wpS (model prog w) A E s (jp ()) Q st1) ?_ (fun hjp=>?_)
 case refine_2 =>
  by_cases g:m > 1
  ·rw[if_pos g];refine wpS_bind (c49 C h0 (by lia) (by lia) fun b=>?_);cases b with
   | true=>exact wpS_pure (h m st h0 hn1 hn2)
   | false=>exact wpS_bind (d10 h0 hjp)
  ·rw[if_neg g];exact hjp st h0
 intro st1 w1;refine wpS_bind (wpS_lift (wpAny_rule ⟨rfl,?_⟩));refine wpS_bind (wpS_mono (wpS_forRange (a:=m+1) (b:=nrem) (I:=fun x c st'=>∃ neq,c=(none,x,neq)/\W D kd n pe st')
  (Q:=fun c st'=>∃ x neq,c=(none,x,neq)/\1<=x/\x<=nrem/\W D kd n pe st') ?step ?fin ⟨0,rfl,w1⟩) ?post)
 case fin =>
  rintro c st' ⟨neq,rfl,w2⟩;exact⟨_,neq,rfl,by lia,by lia,w2⟩
 case step =>
  rintro x c st2 hx1 hx2 ⟨neq,rfl,w2⟩;refine wpS_bind (c49 (i:=lo+x) (j:=lo+x-1) C w2 (by lia) (by lia) fun b=>?_);cases b with
  | true =>
   dsimp only;rw[if_pos rfl];by_cases g:neq > 0
   ·rw[if_pos g];exact wpS_bind (d10 w2 fun st3 w3=>wpS_pure ⟨0,rfl,w3⟩)
   ·rw[if_neg g];exact wpS_pure ⟨0,rfl,w2⟩
  | false =>
   dsimp only;rw[if_neg Fj];refine wpS_bind (c49 (i:=lo+x-1) (j:=lo+x) C w2 (by lia) (by lia) fun b=>?_);cases b with
   | true=>exact wpS_pure ⟨x,neq,rfl,by lia,Nat.le_of_lt hx2,w2⟩
   | false=>exact wpS_pure ⟨neq+1,rfl,w2⟩
 case post =>
  rintro c st2 ⟨x,neq,rfl,hx1,hx2,w2⟩;dsimp only;have last:∀ st3,W D kd n pe st3->∀(f:Option (Option Nat)×Nat->StateT SortSt Sem (Option Nat)),(∀ m st4,Q (some m) st4->wpS (model prog w) A E s (f (none,m)) Q st4)->wpS (model prog w) A E s (do
   reverseSlice' lo (lo+x)
   let c ← forIn [x:nrem] ((none,x):Option (Option Nat)×Nat) fun _ c=>do
    let z ← ltAt' (lo+c.2) (lo+c.2-1)
    match z with
    | some sm=>if sm=true then pure (.done (none,c.2)) else pure (.yield (none,c.2+1))
    | x=>pure (.done (some none,c.2))
   f c) Q st3:=fun st3 w3 f hf =>
   wpS_bind (d10 w3 fun st4 w4=>wpS_bind (e90 C w4 hz hx1 hx2 fun m m1 m2=>hf m _ (h m _ w4 (Fz hx1 m1) m2)))
  by_cases g:neq > 0
  ·rw[if_pos g];exact wpS_bind (d10 w2 fun st3 w3=>last st3 w3 _ fun m st4 q=>wpS_pure q)
  ·rw[if_neg g];exact last st2 w2 _ fun m st4 q=>wpS_pure q
theorem d86 (C:Cmp prog w A E s D kd){lo m ok:Nat}{Q:Bool->SortSt->Prop}(h0:W D kd n pe st)(hz:lo+m<=n)(h:∀ st',W D kd n pe st'->Q true st'):wpS (model prog w) A E s (binarySort' lo m ok) Q st:=by
 unfold binarySort'
 k_delta "binarySort"
 refine wpS_bind (wpS_mono (wpS_forRange (a:=max ok 1) (b:=m) (I:=fun _ c st'=>c=(none,())/\W D kd n pe st') (Q:=fun c st'=>c=(none,())/\W D kd n pe st') ?step (fun _ _ q=>q) ⟨rfl,h0⟩) ?post)
 case post =>
  rintro c st' ⟨rfl,w1⟩;exact wpS_pure (h st' w1)
 case step =>
  rintro k c st1 hk1 hk2 ⟨rfl,w1⟩;refine wpS_bind (wpS_mono (wpS_forRange (a:=0) (b:=k) (I:=fun _ c st'=>st'=st1/\∃ l r,c=(none,l,r)/\r<=k) (Q:=fun c st'=>st'=st1/\∃ l r,c=(none,l,r)) ?istep (fun c st' ⟨a,l,r,b,_⟩=>⟨a,l,r,b⟩) ⟨rfl,0,k,rfl,AZ _⟩) ?ipost)
  case istep =>
   rintro x c st' _ hx ⟨rfl,l,r,rfl,a2⟩;dsimp only;by_cases g:l ≥ r
   ·rw[if_pos g];exact wpS_pure ⟨rfl,l,r,rfl⟩
   ·rw[if_neg g];refine wpS_bind (c49 C w1 (by lia) (by lia) fun b=>?_);cases b with
    | true=>exact wpS_pure ⟨rfl,l,(l+r) / 2,rfl,by lia⟩
    | false=>exact wpS_pure ⟨rfl,(l+r) / 2+1,r,rfl,a2⟩
  case ipost =>
   rintro c st' ⟨rfl,l,r,rfl⟩;show wpS _ _ _ _ (do moveDown' (lo+k) (lo+l);pure (ForInStep.yield (none,()))) _ _;rw[moveDown'_eq];exact wpS_bind (wpS_modify (wpS_pure ⟨rfl,w1.ch (bubble_perm _ _ _)⟩))
abbrev Run:Type:=Nat×Nat×Nat
def Cov:Nat->List Run->Nat->Prop
 | b,[],e=>b=e
 | b,(a,n,_)::t,e=>a=b/\0 < n/\Cov (b+n) t e
theorem Cov.append:∀ {l₁ l₂:List Run}{b e:Nat},Cov b (l₁++l₂) e↔∃ m,Cov b l₁ m/\Cov m l₂ e
 | [],l₂,b,e=>⟨fun h=>⟨b,rfl,h⟩,fun⟨m,h1,h2⟩=>by cases h1;exact h2⟩
 | (a,n,p)::t,l₂,b,e=>by
  show(a=b/\0 < n/\Cov (b+n) (t++l₂) e)↔_;rw[Cov.append];exact⟨fun⟨h1,h2,m,h3,h4⟩=>⟨m,⟨h1,h2,h3⟩,h4⟩,fun⟨m,⟨h1,h2,h3⟩,h4⟩=>⟨h1,h2,m,h3,h4⟩⟩
theorem Cov.le:∀ {l:List Run}{b e:Nat},Cov b l e->b+l.length<=e
 | [],b,e,h=>Nat.le_of_eq h
 | (a,n,p)::t,b,e,⟨h1,h2,h3⟩=>by
  have:=Cov.le h3
  rw[Cq];lia
theorem cut_two {l₁ l₂:List Run}{a b x:Run}:((l₁++a::b::l₂).set l₁.length x).eraseIdx (l₁.length+1)=l₁++x::l₂:=by
 induction l₁ with
 | nil=>rfl
 | cons y l₁ ih =>
  show(y::((l₁++a::b::l₂).set l₁.length x).eraseIdx (l₁.length+1))=_
  rw[ih];rfl
theorem Cov.pw (g:Run->Run)(hg:∀ r,(g r).1=r.1/\(g r).2.1=r.2.1):∀ {l:List Run}{b e:Nat} (i:Nat),Cov b l e->Cov b (l.modify i g) e
 | [],_,_,_,h=>by rw[List.modify_nil];exact h
 | (a,n,p)::t,b,e,0,⟨h1,h2,h3⟩=>by
  rw[List.modify_zero_cons];obtain⟨q1,q2⟩:=hg (a,n,p);generalize g (a,n,p)=r at q1 q2 ⊢;obtain⟨a',n',p'⟩:=r;cases q1;cases q2;exact⟨h1,h2,h3⟩
 | (a,n,p)::t,b,e,i+1,⟨h1,h2,h3⟩=>by
  rw[List.modify_succ_cons];exact⟨h1,h2,Cov.pw g hg i h3⟩
def Inv (D:Keyed->Prop)(kd:SortKind) (n:Nat)(st:SortSt) (lo:Nat):Prop:=W D kd n (pendingOf st) st/\Cov 0 (pendingOf st).toList lo
theorem Inv.of {st':SortSt}{lo:Nat}(c:Cov 0 pe.toList lo)(w':W D kd n pe st'):Inv D kd n st' lo:=by
 have e:=w'.pend;subst e;exact⟨w',c⟩
theorem c14 (C:Cmp prog w A E s D kd){lo i:Nat}{Q:Bool->SortSt->Prop}(I:Inv D kd n st lo)(hlo:lo<=n)(hi:i+1 < (pendingOf st).size)
 (h:∀ st',Inv D kd n st' lo->(pendingOf st').size+1=(pendingOf st).size->Q true st'):wpS (model prog w) A E s (mergeAt' i) Q st:=by
 obtain⟨l₁,ra,rb,l₂,e,hl⟩:∃ l₁ ra rb l₂,(pendingOf st).toList=l₁++ra::rb::l₂/\l₁.length=i:=by
  have h1:i < (pendingOf st).toList.length:=by rw[Cj];lia
  have h2:i+1 < (pendingOf st).toList.length:=by rw[Cj];lia
  refine⟨(pendingOf st).toList.take i,(pendingOf st).toList[i],(pendingOf st).toList[i+1],(pendingOf st).toList.drop (i+2),?_,by rw[CQ];lia⟩;rw[← List.drop_eq_getElem_cons h2,← List.drop_eq_getElem_cons h1,List.take_append_drop]
 obtain⟨sa,na,pw⟩:=ra;obtain⟨sb,nb,pw2⟩:=rb;have hc:=I.2;rw[e] at hc;obtain⟨m,c1,rfl,ha,rfl,hb,c3⟩:=Cov.append.mp hc;have hbd:=c3.le;refine d79 C I.1 (i:=i) (sa:=sa) (na:=na) (pw:=pw) (nb:=nb) (pw2:=pw2) ?_ ?_ ha hb (by lia) fun st' w'=>?_
 ·rw[← Array.getElem?_toList,e,lA (by lia),hl,Nat.sub_self];rfl
 ·rw[← Array.getElem?_toList,e,lA (by lia),hl,show i+1-i=1 by lia];rfl
 ·have ep:(pendingOf st').toList=l₁++(sa,na+nb,pw)::l₂:=by
   rw[w'.pend,Array.toList_eraseIdxIfInBounds,Array.toList_setIfInBounds,e,← hl,cut_two]
  refine h st' (Inv.of ?_ w') ?_
  ·rw[← w'.pend,ep];refine Cov.append.mpr ⟨sa,c1,rfl,by lia,?_⟩;rw[← Nat.add_assoc];exact c3
  ·rw[← Cj,← Cj,ep,e,Bj,Bj,Cq,Cq,Cq];rfl
theorem i57 {c:Prop} [Decidable c] {a b n:Nat}(ha:a+1 < n)(hb:b+1 < n):(if c then a else b)+1 < n:=by
 split <;> assumption
theorem d99 (C:Cmp prog w A E s D kd){Q:Unit->SortSt->Prop}(h0:W D kd n #[] st)(h:∀ st',AD D (arrOf st')->(arrOf st').size=n->failedOf st'=none->Q () st'):wpS (model prog w) A E s sortRuns' Q st:=by
 unfold sortRuns'
 k_delta "sortRuns"
 refine wpS_bind (wpS_get ?_);have hz:=h0.size
 extract_lets -merge +onlyGivenNames size minrun lo0
 have esz:size=n:=hz;refine wpS_bind (wpS_mono (wpS_forRange (a:=0) (b:=size) (I:=fun x c st'=>∃ lo,c=(none,lo)/\Inv D kd n st' lo/\x<=lo/\lo<=n) (Q:=fun c st'=>c=(none,n)/\Inv D kd n st' n) ?step ?fin ⟨0,rfl,Inv.of (pe:=#[]) rfl h0,Fx _,Fx _⟩) ?post)
 case fin =>
  rintro c st' ⟨lo,rfl,I,h3,h4⟩
  have:lo=n:=by lia
  subst this;exact⟨rfl,I⟩
 case step =>
  rintro x c st1 _ hx ⟨lo,rfl,I1,h3,h4⟩
  extract_lets -merge +onlyGivenNames l1
  by_cases g:lo ≥ size
  ·rw[if_pos g]
   have:lo=n:=by lia
   subst this;exact wpS_pure ⟨rfl,I1⟩
  rw[if_neg g];refine wpS_bind (d53 (lo:=lo) (nrem:=size-lo) C I1.1 (by lia) (by lia) fun m st2 w2 hn1 hn2=>?_);dsimp -zeta -zetaHave only
  extract_lets -merge +onlyGivenNames n1 jp
  refine b24 (fun Q=>∀ m st3,Inv D kd n st3 lo->1<=m->lo+m<=n->wpS (model prog w) A E s (jp () m) Q st3) ?_ (fun hjp=>?_)
  case refine_2 =>
   by_cases g2:m < minrun
   ·rw[if_pos g2];refine wpS_bind (wpS_lift (wpAny_rule ⟨rfl,?_⟩));refine wpS_bind (d86 (lo:=lo) (m:=min (size-lo) minrun) (ok:=m) C w2 (by lia) fun st3 w3=>?_);rw[if_neg (by simp)];exact hjp _ st3 (Inv.of I1.2 w3) (by lia) (by lia)
   ·rw[if_neg g2];exact hjp _ st2 (Inv.of I1.2 w2) hn1 (by lia)
  intro m st3 I3 hn hb;refine wpS_bind (wpS_get ?_)
  extract_lets -merge +onlyGivenNames z1 jp2
  refine b24 (fun Q=>∀ st4,Inv D kd n st4 lo->wpS (model prog w) A E s (jp2 ()) Q st4) ?_ (fun hjp=>?_)
  case refine_2 =>
   cases hbk:(pendingOf st3).back? with
   | none=>exact hjp st3 I3
   | some r =>
    obtain⟨s1,n1,p1⟩:=r;dsimp -zeta -zetaHave only
    extract_lets -merge +onlyGivenNames pw
    refine wpS_bind (wpS_mono (wpS_forRange (a:=0) (b:=size) (I:=fun _ c st'=>c=(none,())/\Inv D kd n st' lo) (Q:=fun c st'=>c=(none,())/\Inv D kd n st' lo) ?_ (fun _ _ q=>q) ⟨rfl,I3⟩) ?_)
    ·rintro _ c st4 _ _ ⟨rfl,I4⟩;refine wpS_bind (wpS_get ?_);dsimp only;by_cases g3:(pendingOf st4).size > 1
     ·rw[if_pos g3];have hlt:(pendingOf st4).size-2 < (pendingOf st4).size:=by lia
      rw[getElem?_pos (pendingOf st4) ((pendingOf st4).size-2) hlt];obtain⟨u1,u2,u3⟩:=(pendingOf st4)[(pendingOf st4).size-2];dsimp only;by_cases g4:u3<=pw
      ·rw[if_pos g4];exact wpS_pure ⟨rfl,I4⟩
      ·rw[if_neg g4];refine wpS_bind (c14 C I4 h4 (i:=(pendingOf st4).size-2) (by lia) fun st5 I5 _=>?_);rw[if_neg (by simp)];exact wpS_pure ⟨rfl,I5⟩
     ·rw[if_neg g3];exact wpS_pure ⟨rfl,I4⟩
    ·rintro c st4 ⟨rfl,I4⟩;refine wpS_bind (wpS_modify (hjp _ ⟨⟨I4.1.kind,I4.1.fail,I4.1.arr,I4.1.size,rfl⟩,?_⟩));show Cov 0 ((pendingOf st4).modify ((pendingOf st4).size-1) fun r=>(r.1,r.2.1,pw)).toList lo;rw[Array.toList_modify];exact Cov.pw (fun r=>(r.1,r.2.1,pw)) (fun r=>⟨rfl,rfl⟩) _ I4.2
  intro st4 I4;refine wpS_bind (wpS_modify (wpS_pure ⟨lo+m,rfl,⟨⟨I4.1.kind,I4.1.fail,I4.1.arr,I4.1.size,rfl⟩,?_⟩,by lia,hb⟩));show Cov 0 ((pendingOf st4).push (lo,m,0)).toList (lo+m);rw[Array.toList_push];exact Cov.append.mpr ⟨lo,I4.2,rfl,hn,rfl⟩
 case post =>
  rintro c st1 ⟨rfl,I1⟩;dsimp -zeta -zetaHave only;refine wpS_bind (wpS_mono (wpS_forRange (a:=0) (b:=size) (I:=fun _ c st'=>c=(none,())/\Inv D kd n st' n) (Q:=fun c st'=>c=(none,())/\Inv D kd n st' n) ?_ (fun _ _ q=>q) ⟨rfl,I1⟩) ?_)
  ·rintro x c st2 _ hx ⟨rfl,I2⟩;refine wpS_bind (wpS_get ?_);dsimp only;by_cases g:(pendingOf st2).size<=1
   ·rw[if_pos g];exact wpS_pure ⟨rfl,I2⟩
   ·rw[if_neg g];refine wpS_bind (c14 C I2 (AZ _) ?_ fun st3 I3 e3=>?_)
    ·have g':¬(pendingOf st2).size<=1:=g;exact i57 (a:=(pendingOf st2).size-2-1) (b:=(pendingOf st2).size-2) (n:=(pendingOf st2).size) (by lia) (by lia)
    ·rw[if_neg (by simp)];exact wpS_pure ⟨rfl,I3⟩
  ·rintro c st2 ⟨rfl,I2⟩;exact wpS_pure (h st2 I2.1.arr I2.1.size I2.1.fail)
end
end Ws
namespace Ws
open PySem PyProof.Rows
set_option autoImplicit false
section
variable {prog:Pm}{w:World}{A:Around}{E:VSP}{s:Sd}{D:Keyed->Prop}{kd:SortKind}
theorem g60 {a:Addr}{vs:List Value}{n:Nat}{P:PySem.Fin->Sd->Prop}(ho:s.heap.get? a=some (seqObj "list" vs.toArray n))(hz:vs.length<=zL)(hD:AD D (pairsOf vs))
 (hk:2<=vs.length->∀ s':Sd,(∀ b o,b≠a->s.heap.get? b=some o->s'.heap.get? b=some o)->Cmp prog w A E s' D kd/\∀ Q:SortKind->Sd->Prop,Q kd s'->wpAny (model prog w) A (keyKind' vs.toArray) Q E s')
 (h:∀ out:Array Keyed,AD D out->out.size=vs.length->P (.done (.ret .none)) { s with heap:=sortedHeap s.heap a vs (out.map (·.2)) }):wpAny (model prog w) A (Builtin.«list.sort» ⟨[.ref a],[]⟩) P E s:=by
 rw[list_sort_plain];refine AQ (listItems_at ho rfl (AQ (listUpdate_at ho rfl ?_)));obtain⟨e1,ho1⟩:∃ e1,(s.heap.update a (Obj.mapSeq fun _=>#[])).get? a=some (seqObj "list" #[] e1):=⟨_,get?_update_seq ho (fun _=>#[])⟩;refine AQ (seqEpoch_at ho1 rfl (AQ (wpAny_newTuple (AQ (wpAny_newList (wpAny_holding ?_))))));have ho6:(((s.heap.update a (Obj.mapSeq fun _=>#[])).push (seqObj "tuple" vs.toArray 0)).push (seqObj "list" #[] 0)).get? a=some (seqObj "list" #[] e1):=Aq _ (Aq _ ho1);show wpAny (model prog w) A _ P E { s with heap:=((s.heap.update a (Obj.mapSeq fun _=>#[])).push (seqObj "tuple" vs.toArray 0)).push (seqObj "list" #[] 0) }
 dsimp only;have hsz:vs.toArray.size=vs.length:=by simp
 by_cases h2:vs.toArray.size < 2
 ·rw[if_pos h2,if_pos h2];refine AQ (AX ?_);rw[StateT.run_pure];refine AQ (AX ?_);dsimp only;refine AQ (seqEpoch_at ho6 rfl (AQ (listUpdate_at ho6 rfl ?_ (hsz2:=by rw[Array.size_map];show(pairsOf vs).size<=_;rw[pairsOf_size];exact Nat.le_succ_of_le hz))));simp only[bne_self_eq_false,Bool.false_eq_true,if_false];exact AX (h (pairsOf vs) hD (pairsOf_size _))
 ·rw[if_neg h2,if_neg h2];obtain⟨C,hkk⟩:=hk (by lia) { s with heap:=((s.heap.update a (Obj.mapSeq fun _=>#[])).push (seqObj "tuple" vs.toArray 0)).push (seqObj "list" #[] 0) } fun b o hb e =>
   Aq _ (Aq _ ((DJ _ _ (Ne.symm hb)).trans e))
  refine AQ (hkk _ ?_);refine AQ (Dq (d99 C (n:=vs.length) (st:=SortSt.mk' kd (vs.toArray.zip vs.toArray) #[] 7 none)
   (Q:=fun _ st'=>AD D (arrOf st')/\(arrOf st').size=vs.length/\failedOf st'=none) ⟨rfl,rfl,hD,pairsOf_size _,rfl⟩ fun st' a1 a2 a3=>⟨a1,a2,a3⟩) ?_ fun _ _ e=>e)
  rintro⟨⟨⟩,st'⟩ s' ⟨rfl,hp,hq,hf⟩;dsimp only;refine AQ (seqEpoch_at ho6 rfl (AQ (listUpdate_at ho6 rfl ?_ (hsz2:=Fz (Nat.le_of_eq ((Array.size_map ..).trans hq)) (Nat.le_succ_of_le hz)))));rw[hf];simp only[bne_self_eq_false,Bool.false_eq_true,if_false];exact AX (h _ hp hq)
theorem sorted_any {src:Value}{vs:List Value}{Q:VSP}(hz:vs.length<=zL)(hD:AD D (pairsOf vs))
 (hc:∀ Q':List Value->Sd->Prop,(∀ s',(∀ b o,s.heap.get? b=some o->s'.heap.get? b=some o)->s'.gens=s.gens->s'.drawn=s.drawn->s'.os=s.os->Q' vs s')->wpAny (model prog w) A.in1 (collect src) Q' E s)
 (hk:2<=vs.length->∀(A:Around)(E:VSP)(s':Sd),(∀ b o,s.heap.get? b=some o->s'.heap.get? b=some o)->Cmp prog w A E s' D kd/\∀ Q:SortKind->Sd->Prop,Q kd s'->wpAny (model prog w) A (keyKind' vs.toArray) Q E s')
 (h:∀(out:Array Keyed) (n:Nat)(s1:Sd)(h':Heap),AD D out->out.size=vs.length->(∀ b o,s.heap.get? b=some o->s1.heap.get? b=some o)->s1.gens=s.gens->s1.drawn=s.drawn->s1.os=s.os ->
   (∀ b o,s1.heap.get? b=some o->h'.get? b=some o)->h'.get? s1.heap.objs.size=some (seqObj "list" (out.map (·.2)) n)->Q (.ref s1.heap.objs.size) { s1 with heap:=h' }):wpAny (model prog w) A (call (.builtin "sorted") [src]) Q E s:=by
 refine Calls.call_function_entry kind_sorted plain_sorted entry_sorted (args_sorted1 _) ?_;unfold Builtin.«sorted»;refine AQ (m:=checkCount "sorted" 1 1 _) (AX ?_);refine AQ (hc _ fun s1 k1 g1 d1 o1=>?_);refine AQ (wpAny_newList ?_);have hoL:(s1.heap.push (seqObj "list" vs.toArray 0)).get? s1.heap.objs.size=some (seqObj "list" vs.toArray 0):=Dx _ rfl;have kL:∀ b o,s1.heap.get? b=some o->(s1.heap.push (seqObj "list" vs.toArray 0)).get? b=some o:=fun b o e=>Aq _ e;show wpAny _ _ _ _ _ { s1 with heap:=s1.heap.push (seqObj "list" vs.toArray 0) }
 refine AQ (wpAny_holding (wpAny_call_entry slot_list_sort ⟨_,hoL,rfl⟩ entry_list_sort (g60 (D:=D) (kd:=kd) hoL hz hD (fun h2 s' ks=>hk h2 _ _ s' fun b o e=>ks b o (nLQ (DQ (k1 b o e))) (kL b o (k1 b o e))) fun out a1 a2=>⟨_,rfl,?_⟩) (args_list_sort _)));obtain⟨n,en⟩:=sortedHeap_at (out:=out.map (·.2)) hoL;refine AX ⟨_,rfl,h out n s1 _ a1 a2 k1 g1 d1 o1 (fun b o e=>?_) en⟩;have hb:=DQ e;rw[sortedHeap_old (nLQ hb) (by rw[size_push'];exact Nat.lt_succ_of_lt hb)];exact kL b o e
end
end Ws
namespace L2
open PySem PyProof.Rows
variable {X:Cx}
theorem d24 (hc:X.calm=true):b25 X (.builtin "sorted") (fun xs H Q=>∃ d m,xs=[.ref d]/\H d=some (dP m)/\(∀ p∈m,p.1≠[]) /\
 ∀(l:Addr) (as:List Addr),as.length=m.length->(∀ a∈as,∃ k∈m.map (·.1),H a=some (.tup (k.map V.str)))->H l=none->Q (.ref l) (upd H l (.lst (as.map V.ref)))):=by
 intro pins s σ H xs us Q I rs h;obtain⟨d,m,rfl,e,hne,q⟩:=h;have hh:=I.ok.hd hc;obtain⟨u,rfl,rx⟩:=b86 rs;cases (show u=Value.ref d from rx);obtain⟨z,hd,ys,rel,o,es,ep,ho,ex,hdat,hes,hnd⟩:=I.hok d _ e;have z':m.length<=zL:=by rw[Aj] at z;exact z
 have keys:∀ {m:b64}{ys:List (List Key×Addr×Value)},Paired (fun(p:List Key×V) (q:List Key×Addr×Value)=>p.1=q.1/\H q.2.1=some (.tup (p.1.map kV))/\RelV p.2 q.2.2) (m.map gP) ys ->
  ys.length=m.length/\∀ a∈ys.map (·.2.1),∃ k∈m.map (·.1),H a=some (.tup (k.map V.str)):=by
  intro m;induction m with
  | nil=>intro ys r;cases r;exact⟨rfl,fun _ h=>nomatch h⟩
  | cons p m ih =>
   intro ys r;cases r with
   | cons h t =>
    obtain⟨i1,i2⟩:=ih t;refine⟨congrArg (·+1) i1,fun a ha=>?_⟩;rcases BZ.mp ha with rfl | ha
    ·have:=h.2.1
     rw[show(gP p).1=p.1.map Sum.inr from rfl,b42] at this;exact⟨_,BX,this⟩
    ·obtain⟨k,hk,e⟩:=i2 a ha;exact⟨k,BQ _ hk,e⟩
 obtain⟨k1,k2⟩:=keys rel;have evs:es.toList.map (·.key)=(ys.map (·.2.1)).map Value.ref:=by
  rw[hes,List.map_map,List.map_map];rfl
 have vlen:(es.toList.map (·.key)).length=m.length:=by rw[evs,Aj,Aj,k1]
 have esz:es.size=m.length:=by rw[← vlen,Aj,Cj]
 have pathsV:∀(h':Heap),(∀ b o,s.heap.get? b=some o->h'.get? b=some o)->∀ v∈es.toList.map (·.key),∃ zs,Srt.PathV h' v zs/\zs≠[]:=by
  intro h' kp v hv;rw[evs,Ex] at hv;obtain⟨a,ha,rfl⟩:=hv;obtain⟨zs,hk,e1⟩:=k2 a ha;obtain⟨p,hp,rfl⟩:=Ex.mp hk;exact⟨_,g58 I kp e1,hne p hp⟩
 refine Ws.sorted_any (D:=fun x=>x.1∈es.toList.map (·.key)/\x.2∈es.toList.map (·.key)) (kd:=tuples' true) (vs:=es.toList.map (·.key)) (by rw[vlen];exact z') ?_
  (fun Q' hq=>Srt.collect_raw hh hd ⟨o,ho,ex,hdat⟩ (by rw[esz];exact z') hq) (fun h2 A' E' s' kp=>⟨fun x y st Q' hx hy hk hq=>?_,fun Q' hq=>?_⟩) (fun out n s1 h' hp hs k1 g1 d1 o1 k2' e2=>?_)
 ·intro x hx;rw[pairsOf_toList] at hx;obtain⟨m1,m2⟩:=mem_zip_self hx;exact⟨m2,m1 ▸ m2⟩
 ·obtain⟨zs,px,_⟩:=pathsV s'.heap kp _ hx.1;obtain⟨ys',py,_⟩:=pathsV s'.heap kp _ hy.1;rw[lt'_eq];refine wpS_bind (wpS_get ?_);rw[hk];exact wpS_bind (wpS_lift (wpAny_attempt (Srt.path_lt px py ⟨rfl,wpS_pure (hq _)⟩)))
 ·exact Srt.kind_paths (by intro q';rw[q'] at h2;exact absurd h2 (by decide)) (pathsV s'.heap kp) hq
 ·have hout:∀ v∈(out.map (·.2)).toList,∃ a∈ys.map (·.2.1),v=.ref a:=by
   intro v hv;rw[Array.toList_map] at hv;obtain⟨p,hp',rfl⟩:=Ex.mp hv
   have:=(hp p hp').2
   rw[evs,Ex] at this;obtain⟨a,ha,e⟩:=this;exact⟨a,ha,e.symm⟩
  have es1:s1={ s with heap:=s1.heap,toks:=s1.toks }:=by
   obtain⟨h1,g,d',t,o'⟩:=s1;cases g1;cases d1;cases o1;rfl
  have I1:Inv X pins σ H s1:=by
   rw[es1];exact I.kept k1
  obtain⟨as,eas,ha⟩:∃ as:List Addr,(out.map (·.2)).toList=as.map Value.ref/\∀ a∈as,a∈ys.map (·.2.1):=by
   generalize (out.map (·.2)).toList=l at hout;induction l with
   | nil=>exact⟨[],rfl,fun _ h=>nomatch h⟩
   | cons v l ih =>
    obtain⟨as,i1,i2⟩:=ih fun v hv=>hout v (BQ _ hv);obtain⟨a,ha,rfl⟩:=hout v BX;exact⟨a::as,by rw[i1];rfl,fun b hb=>(BZ.mp hb).elim (fun q=>q ▸ ha) (i2 b)⟩
  have alen:as.length=m.length:=by
   have:=congrArg List.length eas
   rw[Cj,Array.size_map,Aj,hs,vlen] at this;exact this.symm
  refine⟨.ref s1.heap.objs.size,_,I1.laid (t':=s1.toks) (o:=.lst (as.map V.ref)) k2' (AZ _) ⟨by rw[Aj,alen];exact z',(out.map (·.2)).toList,n,?_,by rw[Array.toArray_toList];exact e2⟩,rfl,q _ as alen (fun a h=>k2 a (ha a h)) (I1.hok.fresh (AZ _))⟩;rw[eas];exact d40 _
end L2
namespace L2
open PySem PySem.Spec PyProof.Rows
def Wk (σ σ2:St):Prop:=σ.length=σ2.length/\∀(j:Nat) (v:V),σ[j]?=some (some v)->σ2[j]?=some (some v)
structure PTs (X:Cx) (ifs:List Expr)(t:TT):Prop where
 run:∀(pins:LAO)(s:Sd)(σ:St)(H:Hp) (Q:Bool->Hp->Prop),Inv X pins σ H s->t σ H Q ->
  wpAny (model X.prog X.w) X.A (forIn ifs true fun c r=>if r=true then do let ok ← isTrue c X.env (eval c X.env);pure (ForInStep.yield ok) else pure (ForInStep.yield r)) (TP X pins σ Q) X.xe s
instance {X:Cx}{ifs:List Expr}{t:TT}:CoeFun (PTs X ifs t) (fun _=>∀(pins:LAO)(s:Sd)(σ:St)(H:Hp) (Q:Bool->Hp->Prop),Inv X pins σ H s->t σ H Q ->
 wpAny (model X.prog X.w) X.A (forIn ifs true fun c r=>if r=true then do let ok ← isTrue c X.env (eval c X.env);pure (ForInStep.yield ok) else pure (ForInStep.yield r)) (TP X pins σ Q) X.xe s):=⟨PTs.run⟩
theorem f82 {X:Cx}:PTs X [] (fun _ H Q=>Q true H):=⟨fun pins s σ H Q I h=>wpAny_tests_nil ⟨H,I,h⟩⟩
theorem b96 {X:Cx}{c:Expr}{t:TT}(h:PT X c t):PTs X [c] t:=⟨fun pins s σ H Q I q=>wpAny_tests_one (h pins s σ H Q I q)⟩
section
variable {prog:Pm}{w:World}{A:Around}{R:Result->Sd->Prop}{s:Sd}
theorem c13 {elt target iter:Expr}{ifs:List Expr}{scope:Scope}{pos:Pos}{it acc:Value}{env:Env} (Iv:Nat->Sd->Prop)
 (turn:∀ n s,Iv n s->wpAny (model prog w) A (pyNext it) (fun r s₁=>match r with
   | none=>R (.ok .next) s₁
   | some v=>wpAny (model prog w) A (letOwnedTupleGo target it v) (fun _ s₁'=>wpAny (model prog w) A (assign target env v) (fun _ s₂ =>
    wpAny (model prog w) A (forIn ifs true fun c r=>if r=true then do let ok ← isTrue c env (eval c env);pure (ForInStep.yield ok) else pure (ForInStep.yield r)) (fun ok s₃ =>
     if ok=true then wpAny (model prog w) A (eval elt env) (fun x s₄ =>
      wpAny (model prog w) A (call (.builtin "list.append") [acc,x]) (fun _ s₅=>∃ m,m < n/\Iv m s₅) (notedBy (model prog w) A env fun e s'=>R (.error e) s') s₄) (notedBy (model prog w) A env fun e s'=>R (.error e) s') s₃
     else ∃ m,m < n/\Iv m s₃) (notedBy (model prog w) A env fun e s'=>R (.error e) s') s₂) (notedBy (model prog w) A env fun e s'=>R (.error e) s') s₁') (notedBy (model prog w) A env fun e s'=>R (.error e) s') s₁)
   (notedBy (model prog w) A env fun e s'=>R (.error e) s') s)
 (n:Nat)(h:Iv n s):codeAny (model prog w) A (.compLoop (.ListComp elt [⟨target,iter,ifs,0⟩] scope pos) 0 it acc env) R s:=by
 refine codeAny_loop rfl Iv (fun n s hI=>?_) n h;show wpAny _ _ ((compTurn (.ListComp elt [⟨target,iter,ifs,0⟩] scope pos) 0 it acc env).onRaise (fun x=>do noteFrame x env;theTreesLotGoes x)) _ _ s;refine wpAny_noted ?_;rw[compTurn_list];refine AQ (wpAny_standAt (AQ (Dq (turn n s hI) (fun r s₁ h₁=>?_) fun _ _ h'=>h')));cases r with
 | none=>exact AX h₁
 | some v =>
  refine AQ (Dq h₁ (fun _ s₁' h₁'=>?_) fun _ _ h'=>h');refine AQ (Dq h₁' (fun _ s₂ h₂=>AQ (Dq h₂ (fun ok s₃ h₃=>?_) fun _ _ h'=>h')) fun _ _ h'=>h');cases ok with
  | false=>exact AX ⟨rfl,h₃⟩
  | true =>
   exact AQ (AQ (Dq h₃ (fun x s₄ h₄=>AQ (Dq h₄ (fun _ s₅ h₅=>AX (AX ⟨rfl,h₅⟩)) fun _ _ h'=>h')) fun _ _ h'=>h'))
end
def c12 (wi:TI)(up:St->St)(gg:TG)(tt:TT)(te:TE):TE:=fun σ H Q=>wi σ H fun J H1=>∃ W:Nat->Nat->List V->Hp->Prop,(∃ m,W 0 m [] H1)/\∀ i m ys H,W i m ys H ->
 (J.stop i H/\∀ D,H D=none->Q (.ref D) (upd H D (.lst ys))) ∨
 (J.go i H/\ys.length < zL/\∃ Nx:List V->Hp->Prop,(∀ zs H3,Nx zs H3->∃ m',m' < m/\W (i+1) m' zs H3)/\∀ x H',J.yld i H x H'->gg x (up σ) H' fun σ2 H2=>tt σ2 H2 fun b H3=>if b=true then te σ2 H3 (fun y H4=>Nx (ys++[y]) H4) else Nx ys H3)
section
variable {X:Cx}{elt iter:Expr}{x y:Str}{px py pos:Pos}{scope:Scope}{wi:TI}{te:TE}{N:List Str}{k:Nat}{up:St->St}
theorem c31 {tg:Expr}{ifs:List Expr}{gg:TG}{tt:TT}{ok:Str->Prop}(S:CompScopeG X.env.scope X.N scope x ok)(hc:X.calm=true)
 (hup:∀ σ:St,σ.length=X.N.length->(up σ).length=N.length/\∀(i:Nat) (y:Str) (v:V),N[i]?=some y->(up σ)[i]?=some (some v)->¬ ok y/\∃ j:Nat,X.N[j]?=some y/\σ[j]?=some (some v))
 (hi:PI X tg iter wi)(hg:∀ C fp s H,PG (a48 X scope N C fp s H) tg gg)(hgs:∀ v (σ:St) H (Q:St->Hp->Prop),σ.length=X.N.length->gg v (up σ) H Q->gg v (up σ) H fun σ2 H2=>Wk (up σ) σ2/\Q σ2 H2)
 (ht:∀ C fp s H,PTs (a48 X scope N C fp s H) ifs tt)
 (he:∀ C fp s H,PE (a48 X scope N C fp s H) elt te)(hs:∀ v,foldedSetIterable iter X.env v=pure v) :
 PE X (.ListComp elt [⟨tg,iter,ifs,0⟩] scope pos) (c12 wi up gg tt te):=by
 try constructor
 intro pins s σ H Q I h;rw[eval_ListComp];refine wpAny_comprehension_free (use:=none) rfl hs (c05 (b47 I S)) S.kind S.names (thn (hi pins s σ H _ I h) fun v s1 h1=>thn h1 fun itv s2 h2=>?_);obtain⟨it,fp,tn,J,H2,e,I2,T,st2,f2,W,⟨m0,w0⟩,turn⟩:=h2;subst e;refine EZ (wpAny_newFunctionEnv S.nocell (by intro y hy;simp at hy) (fun h₁ hns₁ hsb₁=>?_) S.kind);dsimp only at hns₁ hsb₁ ⊢;generalize hH2:s2.heap.push { cls:=.type "list", dict:=none,data:=.seq ([]:List Value).toArray }=HH at hns₁ hsb₁ ⊢;have hC:HH.objs.size=s2.heap.objs.size+1:=by rw[← hH2,Heap.size_push]
 have hDC:s2.heap.objs.size≠HH.objs.size:=by rw[hC];exact nLQ (Nat.lt_succ_self _)
 have hCle:s2.heap.objs.size<=HH.objs.size:=by rw[hC];exact FJ _
 have below:∀ b,b < s2.heap.objs.size->b≠HH.objs.size/\b≠s2.heap.objs.size:=fun b hb=>⟨by rw[hC];exact nLQ (Nat.lt_succ_of_lt hb),nLQ hb⟩;have old:∀ b o,s2.heap.get? b=some o->h₁.get? b=some o:=fun b o e=>hsb₁.extBut b o (below b (DQ e)).1 (Aq _ (hH2 ▸ Aq _ e));have hacc:h₁.get? s2.heap.objs.size=some { cls:=.type "list", data:=.seq ([]:List Value).toArray 0 }:=hsb₁.extBut _ _ hDC (Aq _ (hH2 ▸ Dx _ rfl));have ho2:∀ b∈fp,∃ o,s2.heap.get? b=some o:=fun b hb=>let ⟨o,e,_⟩:=T.obj _ _ st2 b hb;⟨o,e⟩
 have fpD:∀ b∈fp,b≠s2.heap.objs.size:=fun b hb=>let ⟨o,e⟩:=ho2 b hb;(below b (DQ e)).2
 obtain⟨hul,husub⟩:=hup σ I2.len;have st1:tn 0 h₁:=T.keep _ _ _ st2 fun b _ o e=>old b o e;have I3:Inv (a48 X scope N HH.objs.size fp s2 H2) [] (up σ) H2 { s2 with heap:=h₁,toks:=s2.toks+([]:List (Str×Value)).length }:=b97 I2 S f2 ho2 hCle old hns₁ hul husub
 have hD2:H2 s2.heap.objs.size=none:=I2.hok.fresh (AZ _);have loop:codeAny (model X.prog X.w) X.A (.compLoop (.ListComp elt [⟨tg,iter,ifs,0⟩] scope pos) 0 (.ref it) (.ref s2.heap.objs.size) (compEnvC scope (d46 X.env scope.names []) HH.objs.size X.env))
  (compPost (model X.prog X.w) X.A X.xe none (EP X pins σ Q) (.ref s2.heap.objs.size) HH.objs.size) { s2 with heap:=h₁,toks:=s2.toks+([]:List (Str×Value)).length }:=by
  refine c13 (fun n s'=>∃(i:Nat) (ys:List V) (its:List Value) (cn:Nat)(H':Hp),Inv (a48 X scope N HH.objs.size fp s2 H2) [] (up σ) H' s'/\tn i s'.heap/\(∀ b∈fp,H' b=none)/\H' s2.heap.objs.size=none /\
   s'.heap.get? s2.heap.objs.size=some { cls:=.type "list", data:=.seq its.toArray cn }/\Vals ys its/\ys.length<=zL/\W i n ys H') ?_ m0
   ⟨0,[],[],0,H2,I3,st1,fun b hb=>(f2 b hb).1,hD2,hacc,.nil,Fx _,w0⟩
  rintro n s3 ⟨i,ys,its,cn,H3,J3,st3,fr3,hD3,hob3,rv3,hz3,w3⟩;have pinD:∀ {H':Hp}{s':Sd}{σ':St}{its':List Value}{cn':Nat},Inv (a48 X scope N HH.objs.size fp s2 H2) [] σ' H' s'->H' s2.heap.objs.size=none->s'.heap.get? s2.heap.objs.size=some { cls:=.type "list", data:=.seq its'.toArray cn' } ->
   Inv (a48 X scope N HH.objs.size fp s2 H2) [(s2.heap.objs.size,{ cls:=.type "list", data:=.seq its'.toArray cn' })] σ' H' s':=fun J hD hob=>J.pins_of fun p hp=>by
   have e:p=(s2.heap.objs.size,{ cls:=.type "list", data:=.seq _ _ }):=Ax.mp hp;subst e;refine⟨hob,hD,hDC,fun z=>?_,fun v z=>by cases (show Data.seq _ _=Data.cell v from z)⟩;exact absurd rfl ((below _ (by
    obtain⟨_,o,ho,_⟩:=(show s2.heap.FunFrames X.base X.stack from I2.stack).mem z;exact DQ ho)).2)
  have J3':=pinD J3 hD3 hob3;have fpk:∀ {H':Hp},(∀ b∈fp,H' b=none)->∀ b∈fp,f72 (a48 X scope N HH.objs.size fp s2 H2) [(s2.heap.objs.size,{ cls:=.type "list", data:=.seq its.toArray cn })] H' b:=fun hn b hb=>by
   obtain⟨o,e⟩:=ho2 b hb;refine⟨hn b hb,(below b (DQ e)).1,(b74 (N:=N) I2 S f2 ho2 hCle).exfs b hb,.inl hb,fun y c ec=>((b74 (N:=N) I2 S f2 ho2 hCle).exf b hb).2 y c ec,fun p hp=>?_⟩;have e':p=(s2.heap.objs.size,{ cls:=.type "list", data:=.seq its.toArray cn }):=Ax.mp hp;subst e';exact(fpD b hb).symm
  rcases turn i n ys H3 w3 with⟨stop,fin⟩ | ⟨go,hlt,Nx,hNx,step⟩
  ·refine Dq (T.done (a48 X scope N HH.objs.size fp s2 H2) rfl rfl rfl hc i _ s3 (up σ) H3 _ J3' (fpk fr3) st3 stop) (fun r s4 ⟨hr,J4⟩=>?_) fun _ _ z=>z;subst hr;obtain⟨m4,hn4,_⟩:=J4.loc;have hob4:=(J4.pin (s2.heap.objs.size,{ cls:=.type "list", data:=.seq its.toArray cn }) (by simp)).1;refine⟨m4,hn4,fun h' sb=>?_⟩;have kp:∀ b o,b≠HH.objs.size->s4.heap.get? b=some o->h'.get? b=some o:=fun b o hb e=>(sb.2 b hb).trans e;have hne:∀ b u,H3 b=some u->b≠s2.heap.objs.size:=fun b u q=>a04 q hD3;have hneC:∀ b u,H3 b=some u->b≠HH.objs.size:=fun b u q=>a04 q J4.free;have un:Un (frs X.stack) fp H2 (upd H3 s2.heap.objs.size (.lst ys)) s2.heap h':=by
    have u0:Un (frs X.stack) fp H2 H3 s2.heap s4.heap:=J4.base;refine⟨fun b o e n hb hx=>kp b o (below b (DQ e)).1 (u0.keep b o e n hb hx),fun b o e n hb hx=>?_,fun b o e n hx=>?_,fun b o e hx=>?_,fun b xs q=>?_,fun b o u q=>?_,fun b ps q=>?_⟩
    ·obtain⟨sl,e1⟩:=u0.slot b o e n hb hx;exact⟨sl,kp b _ (below b (DQ e)).1 e1⟩
    ·rw[a07 (below b (DQ e)).2];exact u0.free b o e n hx
    ·obtain⟨o',e1⟩:=u0.there b o e hx;exact⟨o',kp b _ (below b (DQ e)).1 e1⟩
    ·have q':=u0.tups b xs q;rw[a07 (hne b _ q')];exact q'
    ·have q':=u0.frzs b o u q;rw[a07 (hne b _ q')];exact q'
    ·obtain⟨more,q'⟩:=u0.tbls b ps q;exact⟨more,by rw[a07 (hne b _ q')];exact q'⟩
   have hok:HOk X.prog X.w (upd H3 s2.heap.objs.size (.lst ys)) h':=fun b u q=>by
    by_cases hb:b=s2.heap.objs.size
    ·subst hb;rw[a01] at q;cases q;exact⟨hz3,its,cn,rv3,kp _ _ hDC hob4⟩
    ·rw[a07 hb] at q;refine(J4.hok b u q).stay (fun c v hc' r=>kp c v ?_ r) (fun c r=>by rw[a07 (hne c _ r)];exact r) fun c xs r=>by rw[a07 (hne c _ r)];exact r
     rcases hc' with z | z
     ·rw[z];exact hneC b u q
     ·exact hneC c _ z
   refine⟨.ref s2.heap.objs.size,upd H3 s2.heap.objs.size (.lst ys),I2.call' (s':={ s4 with heap:=h' }) (ch:=fp) J4.os un hok J4.bare fun b hb=>?_,rfl,fin _ hD3⟩
   obtain⟨_,g1,_,g3,g4,g5⟩:=f2 b hb;exact⟨g3,g1,g4,g5⟩
  ·refine Dq (T.item (a48 X scope N HH.objs.size fp s2 H2) rfl rfl rfl hc i _ s3 (up σ) H3 _ J3' (fpk fr3) st3 go) (fun r s4 ⟨u,hr,h4⟩=>?_) fun _ _ z=>z;subst hr;refine Dq h4 (fun _ s5 ⟨y,H5,J5,r5,y5,st5,fr5⟩=>?_) fun _ _ z=>z;have J5':=J5.pinned (fpk fr5) (T.obj _ _ st5);refine Dq (hg HH.objs.size fp s2 H2 _ s5 _ H5 y u _ J5' r5 (hgs y σ H5 _ I2.len (step y H5 y5))) (fun _ s6 ⟨σ6,H6,J6,⟨wl,wk⟩,q6⟩=>?_) fun _ _ z=>z.elim;refine Dq (ht HH.objs.size fp s2 H2 _ s6 σ6 H6 _ J6 q6) (fun bt s7 ⟨H7,J7,q7⟩=>?_) fun _ _ z=>z.elim;cases bt with
   | false =>
    rw[if_neg Fj] at q7 ⊢;obtain⟨m',hm',w7⟩:=hNx ys H7 q7;have pD:=J7.pin (s2.heap.objs.size,{ cls:=.type "list", data:=.seq its.toArray cn }) (by simp);have J7':Inv (a48 X scope N HH.objs.size fp s2 H2) [] (up σ) H7 s7:=(J7.weak (σ':=up σ) wl fun j v ej=>wk j v ej).pins_of fun p hp=>nomatch hp;refine⟨m',hm',i+1,ys,its,cn,H7,J7',?_,fun b hb=>?_,pD.2.1,pD.1,rv3,hz3,w7⟩
    ·refine T.keep _ _ _ st5 fun b hb o e=>?_;exact(J7.pin (b,o) (lR _ (lR _ (a68 hb e)))).1
    ·obtain⟨o,e,d⟩:=T.obj _ _ st5 b hb;exact(J7.pin (b,o) (lR _ (lR _ (a68 hb e)))).2.1
   | true =>
   rw[if_pos rfl] at q7 ⊢;refine Dq (he HH.objs.size fp s2 H2 _ s7 σ6 H7 _ J7 q7) (fun yu s7 ⟨z,H7,J7,r7,q7⟩=>?_) fun _ _ z=>z.elim;obtain⟨m',hm',w7⟩:=hNx (ys++[z]) H7 q7;have pD:=J7.pin (s2.heap.objs.size,{ cls:=.type "list", data:=.seq its.toArray cn }) (by simp);have hlen:=rv3.length;refine append_at (hsz:=by rw[lS,← hlen];exact hz3) pD.1 fun h8 sb8 hob8=>?_;have kp8:∀ b o,b≠s2.heap.objs.size->s7.heap.get? b=some o->h8.get? b=some o:=fun b o hb e=>(sb8.2 b hb).trans e;have J7':Inv (a48 X scope N HH.objs.size fp s2 H2) [] (up σ) H7 s7:=(J7.weak (σ':=up σ) wl fun j v ej=>wk j v ej).pins_of fun p hp=>nomatch hp;have J8:Inv (a48 X scope N HH.objs.size fp s2 H2) [] (up σ) H7 { s7 with heap:=h8 }:=J7'.turned (t':=s7.toks) kp8 pD.2.1 hDC (.inr (AZ _))
    (fun y' c ec z=>by
      obtain⟨v',q⟩:=I2.cell y' c (a95 I2 S ec);exact(below c q.lt).2 z) fun p hp=>nomatch hp
   refine⟨m',hm',i+1,ys++[z],its++[yu],cn+1,H7,J8,?_,fun b hb=>?_,pD.2.1,?_,rv3.append (.cons r7 .nil),?_,w7⟩
   ·refine T.keep _ _ _ st5 fun b hb o e=>kp8 b o (fpD b hb) ?_;exact(J7.pin (b,o) (lR _ (lR _ (a68 hb e)))).1
   ·obtain⟨o,e,d⟩:=T.obj _ _ st5 b hb;exact(J7.pin (b,o) (lR _ (lR _ (a68 hb e)))).2.1
   ·rw[hob8];simp
   ·rw[Bj,List.length_singleton];exact hlt
 exact codeAny_compStart_list loop (T.self _ 0 _ _ _ st1 loop)
theorem e46 (hx:x∉X.N)(hy:y∉X.N)(σ:St)(hl:σ.length=X.N.length):(σ++[none,none]).length=(X.N++[x,y]).length /\
 ∀(i:Nat) (z:Str) (v:V),(X.N++[x,y])[i]?=some z->(σ++[none,none])[i]?=some (some v)->z≠x/\∃ j:Nat,X.N[j]?=some z/\σ[j]?=some (some v):=by
 refine⟨by rw[Bj,Bj,hl];rfl,fun i z v h1 h2=>?_⟩;by_cases hi:i < σ.length
 ·rw[List.getElem?_append_left hi] at h2;rw[List.getElem?_append_left (by lia)] at h1;refine⟨fun q=>hx (q ▸ BJ h1),i,h1,h2⟩
 ·rw[lA (by lia)] at h2;generalize i-σ.length=j at h2
  match j,h2 with
  | 0,h2=>cases h2
  | 1,h2=>cases h2
  | j+2,h2=>cases h2
theorem g42 {osc:Scope}{oN ops:List Str}{ifs:List Expr}{tt:TT}{ek:Nat}{ep:Pos}(SC:FnScope oN ops osc)(S:b04 osc oN scope x)(hx:x∉oN)(hy:y∉oN)(hxy:x≠y)(hly:scope.names.lookup y=some .local)
 (hi:PI X (.Tuple [.Name x px,.Name y py] ek ep) iter wi)(ht:∀ C fp s H,PTs (a48 X scope (X.N++[x,y]) C fp s H) ifs tt)
 (he:∀ C fp s H,PE (a48 X scope (X.N++[x,y]) C fp s H) elt te)(hc:X.calm=true:=by rfl)(e1:X.env.scope=osc:=by rfl)(e2:X.N=oN:=by rfl)(hs:∀ v,foldedSetIterable iter X.env v=pure v:=by intro _;rfl) :
 PE X (.ListComp elt [⟨.Tuple [.Name x px,.Name y py] ek ep,iter,ifs,0⟩] scope pos) (c12 wi (fun σ=>σ++[none,none]) (gTup X.K 2 (d63 (b65 X.N.length) (d63 (b65 (X.N.length+1)) gNil))) tt te):=by
 have hx':x∉X.N:=by rw[e2];exact hx
 have hy':y∉X.N:=by rw[e2];exact hy
 have hnd:X.N.Nodup:=by rw[e2];exact SC.nd
 have hN:(X.N++[x,y]).Nodup:=by
  rw[List.nodup_append];refine⟨hnd,by simp[hxy],fun a ha b hb=>?_⟩;simp at hb;rcases hb with rfl | rfl
  ·exact fun e=>hx' (e ▸ ha)
  ·exact fun e=>hy' (e ▸ ha)
 refine c31 (up:=fun σ=>σ++[none,none]) (by rw[e1,e2];exact S) hc (e46 hx' hy') hi (fun C fp s H=>?_) ?_ ht he hs
 ·refine c67 hc (a89 (a75 hN (by show(X.N++[x,y])[X.N.length]?=_;simp) (.inl (lookup_relabel_local S.loc)) (.inr (lookup_relabel_local S.loc))) (a89 (a75 hN (by show(X.N++[x,y])[X.N.length+1]?=_;simp) (.inl (lookup_relabel_local hly)) (.inr (lookup_relabel_local hly))) c01))
 ·rintro v σ H Q hl ⟨a,xs,e,hq,hn,v1,r1,e3,v2,r2,e4,e5,q⟩;refine⟨a,xs,e,hq,hn,v1,r1,e3,v2,r2,e4,e5,⟨by rw[List.length_set,List.length_set],fun j u hj=>?_⟩,q⟩;have hlt:j < X.N.length:=by
   rw[← hl];by_cases hi:j < σ.length
   ·exact hi
   ·rw[lA (by lia)] at hj;generalize j-σ.length=i at hj
    match i,hj with
    | 0,h2=>cases h2
    | 1,h2=>cases h2
    | i+2,h2=>cases h2
  show(((σ++[none,none]).set X.N.length (some v1)).set (X.N.length+1) (some v2))[j]?=_
  rw[lE (by lia),lE (by lia)];exact hj
end
def Ite (K:WFr)(l:Addr):It :=
 ⟨fun i H=>∃ xs x,SqL K H l xs/\xs[i]?=some x,
  fun i H v H'=>∃ T x,H T=none/\v=.ref T/\(∀ xs,SqL K H l xs->xs[i]?=some x)/\H'=upd H T (.tup [.int i,x]),
  fun i H=>∃ xs,SqL K H l xs/\xs.length<=i⟩
theorem g38 {P:Pm}{w:World}{K:WFr}{elts:List Expr}{ek:Nat}{ep:Pos}(e it l:Addr)(hei:e≠it):Turn P w K (.Tuple elts ek ep) (Ite K l) [e,it] e (fun i h=>(∃ old,IsEnum h e it i old)/\h.IsListIter it l i) where
 mem:=by simp
 obj:=fun k h st b hb=>by
  obtain⟨⟨old,he⟩,⟨o1,e1,_,d1⟩⟩:=st;simp only[BZ,lN,or_false] at hb;rcases hb with rfl | rfl
  ·exact⟨_,he,fun v q=>by cases (show Data.fields _=Data.cell v from q)⟩
  ·exact⟨o1,e1,fun v q=>by rw[d1] at q;cases q⟩
 keep:=fun k h h' st kp=>by
  obtain⟨⟨old,he⟩,⟨o1,e1,r1⟩⟩:=st;exact⟨⟨old,kp e (by simp) _ he⟩,⟨o1,kp it (by simp) _ e1,r1⟩⟩
 item:=by
  intro X hP hw hK hc i pins s σ H E I hf st hg;subst hP hw hK;obtain⟨xs,x,hq,hx⟩:=hg;obtain⟨its,rv,p,hz⟩:=I.list hq;obtain⟨u,hu,ru⟩:=rv.get hx;obtain⟨⟨old,he⟩,hit⟩:=st;refine wpAny_pyNext_enum_item he hit p.isList (x:=u) (by simpa using hu) hei fun h' ho hit' hT hsz kp=>?_;refine⟨_,rfl,wpAny_letOwnedTupleGo_enum ho fun h'' he'' sb=>?_⟩;have hlt:∀ b∈[e,it],b < s.heap.objs.size:=fun b hb=>by
   obtain⟨o1,e1,_⟩:=hit;simp only[BZ,lN,or_false] at hb;rcases hb with rfl | rfl
   ·exact DQ he
   ·exact DQ e1
  have hTe:s.heap.objs.size≠e:=(nLQ (hlt e (by simp))).symm;have kp2:∀ b o,b∉[e,it]->s.heap.get? b=some o->h''.get? b=some o:=fun b o hb q=>by
   simp only[BZ,lN,or_false,not_or] at hb;exact sb.extBut _ _ hb.1 (kp b o hb.1 hb.2 q)
  have hTn:h''.get? s.heap.objs.size=some { cls:=.type "tuple", data:=.seq #[.int i s.toks,u] }:=sb.extBut _ _ hTe hT;have fpN:∀ b∈[e,it],H b=none:=fun b hb=>(hf b hb).1;have hTf:H s.heap.objs.size=none:=I.hok.fresh (AZ _);have neT:∀ b q,H b=some q->b≠s.heap.objs.size:=fun b q e=>a04 e hTf;have nef:∀ b q,H b=some q->b∉[e,it]:=fun b q z hb=>by rw[fpN b hb] at z;cases z
  have hok:HOk X.prog X.w (upd H s.heap.objs.size (.tup [.int i,x])) h'':=fun b q z=>by
   by_cases hb:b=s.heap.objs.size
   ·subst hb;rw[a01] at z;cases z;exact⟨by show 2<=zL;decide,[.int i s.toks,u],.cons ⟨_,rfl⟩ (.cons ru .nil),⟨_,hTn,rfl,0,rfl⟩⟩
   ·rw[a07 hb] at z;refine(I.hok b q z).stay (fun c w' hc' r=>kp2 c w' ?_ r) (fun c r=>by rw[a07 (neT c _ r)];exact r) fun c xs' r=>by rw[a07 (neT c _ r)];exact r
    rcases hc' with z' | z'
    ·rw[z'];exact nef b q z
    ·exact nef c _ z'
  have IS:Inv X pins σ (upd H s.heap.objs.size (.tup [.int i,x])) { s with heap:=h'',toks:=s.toks+1 }:=by
   refine I.step (g':=s.gens) (t':=s.toks+1) (d':=s.drawn) (ch:=[e,it]) (fun b hb=>?_) (fun b o _ _ hc' e _=>kp2 b o hc' e) (fun b o _ _ hc' e _=>⟨o.slots,kp2 b o hc' e⟩) (fun b o _ e n=>?_)
    (fun b o hc' e=>⟨o,kp2 b o hc' e⟩) (fun b xs' e=>by rw[a07 (neT b _ e)];exact e) (fun b o q e=>by rw[a07 (neT b _ e)];exact e) (fun b ps e=>⟨#[],by rw[a07 (neT b _ e),e];simp⟩) (fun m hm=>?_) hok I.bare
   ·obtain⟨_,f1,f2,f3,f4,f5⟩:=hf b hb;exact⟨f3,f1,f4,f5⟩
   ·rw[a07 (nLQ (DQ e))];exact n
   ·obtain⟨o,es,ep',ho,r⟩:=hm;exact⟨o,es,ep',kp2 _ o (fun hb=>(hf _ hb).2.1 rfl) ho,r⟩
  refine⟨.ref s.heap.objs.size,_,IS,rfl,⟨_,x,hTf,rfl,fun xs' q=>by rw[I.list_inj q hq];exact hx,rfl⟩,⟨⟨_,by simpa using he''⟩,hit'.at fun o z=>sb.extBut _ _ hei.symm z⟩,fun b hb=>?_⟩;rw[a07 (nLQ (hlt b hb))];exact fpN b hb
 done:=by
  intro X hP hw hK hc i pins s σ H E I hf st hg;subst hP hw hK;obtain⟨xs,hq,hx⟩:=hg;obtain⟨its,rv,p,hz⟩:=I.list hq;obtain⟨⟨old,he⟩,hit⟩:=st;obtain⟨f0,f1,f2,f3,f4,f5⟩:=hf it (by simp);have hl:=rv.length;exact wpAny_pyNext_enum_end (I.ok.hd hc) he hit p.isList (by simp;lia) fun h' eb=>⟨rfl,I.turned (t':=s.toks) (fun b o hb e=>eb b o hb e) f0 f1 f3 f4 f5⟩
 self:=fun A i s Q E st h=>by
  obtain⟨⟨old,he⟩,_⟩:=st;exact wpAny_pyIter_enum he h
section
variable {X:Cx}
def iEnum (K:WFr)(ta:TA):TI:=fun σ H R=>ta σ H fun vs H1=>∃ l,vs=[.ref l]/\(∃ xs,SqL K H1 l xs)/\R (Ite K l) H1
theorem c85 {a:Expr}{ta:TA}{p pos:Pos}{elts:List Expr}{ek:Nat}{ep:Pos}(hg:Gl X "enumerate")(hm:X.mg "enumerate" = none)(ha:PA X [a] ta)(hs:starEach [a] X.env=[(false,eval a X.env)]:=by rfl) :
 PI X (.Tuple elts ek ep) (.Call (.Name "enumerate" p) [a] [] pos) (iEnum X.K ta):=by
 try constructor
 intro pins s σ H R I h;refine Call_ (c17 I hg hm PyProof.Rows.Boot.enumerate (PyProof.Rows.callWith_type1 (thn (ha pos pins s σ H _ I h) fun us s1 ⟨vs,H1,I1,r1,q1⟩=>?_) hs rfl));obtain⟨l,e,⟨xs,q1⟩,q⟩:=q1;subst e;cases r1 with
 | cons r rr =>
  cases rr;cases r;obtain⟨its,_,p1,_⟩:=I1.list q1;refine call_enumerate_list p1.isList fun h' he hit hsz kp=>?_;refine wpAny_pyIter_enum he ?_;have I2:Inv X pins σ H1 { s1 with heap:=h' }:=I1.kept (t':=s1.toks) kp
  refine⟨s1.heap.objs.size+1,[s1.heap.objs.size+1,s1.heap.objs.size],_,_,H1,rfl,I2,g38 _ _ l (by show @Ne Nat _ _;lia),⟨⟨_,he⟩,hit⟩,fun b hb=>?_,q⟩;have hb':s1.heap.objs.size<=b:=by
   simp only[BZ,lN,or_false] at hb;rcases hb with rfl | rfl
   ·exact FJ _
   ·exact AZ _
  obtain⟨z0,z1,z2,z3,z4,z5⟩:=I1.fpOk hb' (I1.hok.fresh hb');exact⟨z0,z1,z2,z3,z4,z5⟩
end
theorem e19 {K:WFr}{l:Addr}{xs:List V}{g:TG}{tb:TS}{D:Ends}{σ:St}{H:Hp} (Pv:Nat->St->Hp->Prop)(h0:Pv 0 σ H)(hl:∀ i σ H,i<=xs.length->Pv i σ H->SqL K H l xs)
 (hs:∀(i:Nat) x σ H T,xs[i]?=some x->Pv i σ H->H T=none->g (.ref T) σ (upd H T (.tup [.int i,x])) fun σ2 H2=>tb { D with nx:=Pv (i+1),ct:=Pv (i+1),bk:=D.nx } σ2 H2)(hd:∀ σ H,Pv xs.length σ H->D.nx σ H) :
 ∃ W:Nat->Nat->St->Hp->Prop,(∃ m,W 0 m σ H)/\∀ i m σ H,W i m σ H ->
  ((Ite K l).stop i H/\D.nx σ H)∨((Ite K l).go i H/\∃ N:St->Hp->Prop,(∀ σ' H',N σ' H'->∃ m',m' < m/\W (i+1) m' σ' H')/\∀ x H',(Ite K l).yld i H x H'->g x σ H' fun σ2 H2=>tb { D with nx:=N,ct:=N,bk:=D.nx } σ2 H2):=by
 refine⟨fun i m σ H=>m=xs.length-i/\i<=xs.length/\Pv i σ H,⟨xs.length,by simp,Fx _,h0⟩,?_⟩;rintro i m σ H ⟨rfl,hi,p⟩;have q1:=hl i σ H hi p;by_cases hlt:i < xs.length
 ·refine .inr ⟨⟨xs,xs[i],q1,by simp[hlt]⟩,Pv (i+1),fun σ' H' p'=>⟨xs.length-(i+1),by lia,rfl,hlt,p'⟩,fun v H' yl=>?_⟩;obtain⟨T,x,hT,rfl,yx,rfl⟩:=yl;exact hs i x σ H T (yx xs q1) p hT
 ·have e:i=xs.length:=by lia
  subst e;exact .inl ⟨⟨xs,q1,AZ _⟩,hd σ H p⟩
theorem d15 {K:WFr}{l:Addr}{xs:List V}{et:V->Hp->(List V->Hp->Prop)->List V->Prop}{H:Hp}{fin:Addr->List V->Hp->Prop} (Pv:Nat->List V->Hp->Prop)(hn:xs.length<=zL)(h0:Pv 0 [] H)(hl:∀ i ys H,Pv i ys H->ys.length<=i)
 (hq:∀ i ys H,i<=xs.length->Pv i ys H->SqL K H l xs)
 (hs:∀(i:Nat) ys H v T,xs[i]?=some v->Pv i ys H->H T=none->et (.ref T) (upd H T (.tup [.int i,v])) (fun zs H3=>Pv (i+1) zs H3) ys)(hd:∀ ys H,Pv xs.length ys H->∀ D,H D=none->fin D ys H) :
 ∃ W:Nat->Nat->List V->Hp->Prop,(∃ m,W 0 m [] H)/\∀ i m ys H,W i m ys H ->
  ((Ite K l).stop i H/\∀ D,H D=none->fin D ys H) ∨
  ((Ite K l).go i H/\ys.length < zL/\∃ Nx:List V->Hp->Prop,(∀ zs H3,Nx zs H3->∃ m',m' < m/\W (i+1) m' zs H3)/\∀ x H',(Ite K l).yld i H x H'->et x H' Nx ys):=by
 refine⟨fun i m ys H=>m=xs.length-i/\i<=xs.length/\Pv i ys H,⟨xs.length,by simp,Fx _,h0⟩,?_⟩;rintro i m ys H ⟨rfl,hi,p⟩;have q:=hq i ys H hi p;by_cases hlt:i < xs.length
 ·refine .inr ⟨⟨xs,xs[i],q,by simp[hlt]⟩,by have:=hl i ys H p;lia,_,fun y H3 q=>⟨xs.length-(i+1),by lia,rfl,hlt,q⟩,fun x H' yl=>?_⟩;obtain⟨T,x',hT,rfl,yx,rfl⟩:=yl;exact hs i ys H x' T (yx xs q) p hT
 ·have e:i=xs.length:=by lia
  subst e;exact .inl ⟨⟨xs,q,AZ _⟩,hd ys H p⟩
theorem g74 {K:WFr}{t1 t2:Addr}{xs zs:List V}{et:V->Hp->(List V->Hp->Prop)->List V->Prop}{H:Hp}{fin:Addr->List V->Hp->Prop} (Pv:Nat->List V->Hp->Prop)(hlen:xs.length=zs.length)(hn:xs.length<=zL)(h0:Pv 0 [] H)(hl:∀ i ys H,Pv i ys H->ys.length<=i)
 (hq:∀ i ys H,i<=xs.length->Pv i ys H->SqT K H t1 xs/\SqT K H t2 zs)
 (hs:∀(i:Nat) ys H v u T,xs[i]?=some v->zs[i]?=some u->Pv i ys H->H T=none->et (.ref T) (upd H T (.tup [v,u])) (fun zs H3=>Pv (i+1) zs H3) ys)(hd:∀ ys H,Pv xs.length ys H->∀ D,H D=none->fin D ys H) :
 ∃ W:Nat->Nat->List V->Hp->Prop,(∃ m,W 0 m [] H)/\∀ i m ys H,W i m ys H ->
  ((Itz K t1 t2).stop i H/\∀ D,H D=none->fin D ys H) ∨
  ((Itz K t1 t2).go i H/\ys.length < zL/\∃ Nx:List V->Hp->Prop,(∀ zs H3,Nx zs H3->∃ m',m' < m/\W (i+1) m' zs H3)/\∀ x H',(Itz K t1 t2).yld i H x H'->et x H' Nx ys):=by
 refine⟨fun i m ys H=>m=xs.length-i/\i<=xs.length/\Pv i ys H,⟨xs.length,by simp,Fx _,h0⟩,?_⟩;rintro i m ys H ⟨rfl,hi,p⟩;obtain⟨q1,q2⟩:=hq i ys H hi p;by_cases hlt:i < xs.length
 ·have hlt2:i < zs.length:=by lia
  refine .inr ⟨⟨xs,zs,xs[i],zs[i],q1,q2,by simp[hlt],by simp[hlt2]⟩,by have:=hl i ys H p;lia,_,fun y H3 q=>⟨xs.length-(i+1),by lia,rfl,hlt,q⟩,fun x H' yl=>?_⟩;obtain⟨T,x',y',hT,rfl,yx,yy,rfl⟩:=yl;exact hs i ys H x' y' T (yx xs q1) (yy zs q2) p hT
 ·have e:i=xs.length:=by lia
  subst e;exact .inl ⟨⟨xs,zs,q1,q2,.inl (AZ _)⟩,hd ys H p⟩
end L2
namespace L2
open PySem PySem.Spec PyProof.Rows
section
variable {X:Cx}
theorem b19:OpR X (compareOp .LtE) (fun x y H Q=>∃ i j,x=.str i/\y=.str j/\Q (.bl (!decide (j.cps.toList < i.cps.toList))) H):=by
 try constructor
 intro pins s σ H x y v u Q I rx ry h;obtain⟨i,j,rfl,rfl,q⟩:=h;obtain⟨t,rfl⟩:=rx;obtain⟨t',rfl⟩:=ry;exact PySem.P.le_str (a62 I q rfl)
theorem b83:b25 X (.type "int") (fun xs H Q=>∃ x n,xs=[.str x]/\x.length<=640/\intText? x=some n/\Q (.int n) H):=by
 try constructor
 intro pins s σ H xs us Q I r h;obtain⟨x,n,rfl,hl,hn,q⟩:=h;obtain⟨u,rfl,t,rfl⟩:=b86 r;exact PySem.W.KIN.call_text hn hl ⟨.int n,H,I.tok _,⟨_,rfl⟩,q⟩
theorem d16:MtM X "str.partition" (fun x xs H Q=>∃ z y,x=.str z/\xs=[.str y]/\(y.length == 0)=false/\z.length<=zL/\∀ D,H D=none->Q (.ref D) (upd H D (.tup [.str (Txt.partition z y).1,.str (Txt.partition z y).2.1,.str (Txt.partition z y).2.2]))):=by
 try constructor
 intro pins s σ H x xs v us Q I rx rs h;obtain⟨z,y,rfl,rfl,hy,hz,q⟩:=h;obtain⟨t,rfl⟩:=rx;obtain⟨u,rfl,ru⟩:=rs.one;obtain⟨t',rfl⟩:=ru;refine call_meets F.slot_str_partition (typeIs_str _ _ _) F.entry_str_partition (F.args_str_partition_2 _ _) (meets_str_partition z y t t' hy hz) ?_;have put:∀(ta tb tc:Tok) (tk:Nat),EP X pins σ Q (.ref s.heap.objs.size) { s with heap:=s.heap.push { cls:=.type "tuple", data:=.seq [.str (Txt.partition z y).1 ta,.str (Txt.partition z y).2.1 tb,.str (Txt.partition z y).2.2 tc].toArray },toks:=tk }:=fun ta tb tc tk=>by
  refine⟨.ref s.heap.objs.size,_,I.laid (t':=tk) (fun b u e=>Aq _ e) (AZ _) ?_,rfl,q _ (I.hok.fresh (AZ _))⟩;exact⟨by show 3<=zL;decide,_,.cons ⟨_,rfl⟩ (.cons ⟨_,rfl⟩ (.cons ⟨_,rfl⟩ .nil)),IsTup.new _ _⟩
 unfold Txt.partition at put;revert put;cases Builtin.Str.occurrences z y 0 z.length 1 with
 | nil=>intro put;exact put _ _ _ _
 | cons i r=>intro put;exact put _ _ _ _
end
def leS:List Str->List Str->Bool
 | [],_=>true
 | _::_,[]=>false
 | a::x,b::y=>if a=b then leS x y else !decide (b.cps.toList < a.cps.toList)
theorem c92:∀ x y:List Str,leS x y=!Srt.lexB y x
 | [],[]=>rfl
 | [],_::_=>rfl
 | _::_,[]=>rfl
 | a::x,b::y=>by
  show(if a=b then leS x y else !decide (b.cps.toList < a.cps.toList))=!(if b=a then Srt.lexB y x else Srt.ltS b a);by_cases e:a=b
  ·rw[if_pos e,if_pos e.symm];exact c92 x y
  ·rw[if_neg e,if_neg fun q=>e q.symm];rfl
theorem e29 (A:Around)(s:Sd) (a:Str)(t:Tok) (c:Str)(u:Tok):∃ e,SeqAt.EqAt A s (.str a t) (.str c u) e/\(e=true↔a=c) :=
 ⟨(a == c),SeqAt.EqAt.str_str a t c u,by simp⟩
theorem h20 (A:Around)(s:Sd) (a:Str)(t:Tok) (c:Str)(u:Tok)(prog:Pm)(w:World)(E:VSP)(Q:VSP)(h:Q (.bool (!decide (c.cps.toList < a.cps.toList))) s) :
 wpAny (model prog w) A (richCompare .LtE (.str a t) (.str c u)) Q E s :=
 (PySem.P.le_str h:wpAny (model prog w) A (compareOp .LtE (.str a t) (.str c u)) Q E s)
section
open PySem.SeqAt
open PySem.AutoSeq1 (wpAny_loadPart')
open PySem.MeetsSeq PySem.MeetsSeq2 PySem.MeetsSeq3
inductive Strs:List Value->List Str->Prop
 | nil:Strs [] []
 | cons (a:Str)(t:Tok){vs:List Value}{ns:List Str}:Strs vs ns->Strs (.str a t::vs) (a::ns)
theorem Strs.length:∀ {vs:List Value}{ns:List Str},Strs vs ns->vs.length=ns.length
 | _,_,.nil=>rfl
 | _,_,.cons _ _ h=>by rw[Cq,Cq,h.length]
theorem Strs.of:∀ {ns:List Str}{us:List Value},Vals (ns.map V.str) us->Strs us ns
 | [],_,r=>by cases r;exact .nil
 | a::ns,_,r=>by
  rw[Cz] at r;cases r with
  | cons r1 r2 =>
   obtain⟨t,rfl⟩:=r1;exact .cons a t (Strs.of r2)
theorem c95 (l b:Addr)(items items2:Array Value) (n n2:Nat)(dd dd2:Option Addr)(sl sl2:Array (Option Value)) (ns ms:List Str)(hi:Strs items.toList ns)(hj:Strs items2.toList ms) :
 Meets (Builtin.«tuple.__le__» ⟨[.ref l,.ref b],[]⟩)
  (fun _ R s=>s.heap.get? l=some { cls:=.type "tuple", dict:=dd,data:=.seq items n,slots:=sl }/\s.heap.get? b=some { cls:=.type "tuple", dict:=dd2,data:=.seq items2 n2,slots:=sl2 } /\
    R (.ok (.ret (.bool (leS ns ms)))) s) :=
 .of_wp fun prog w A R s h=>by
  obtain⟨hp,g,d,tk,os⟩:=s;obtain⟨hl,hb,h⟩:=h;have f2:=AutoSeq1.sub_tuple_tuple;have z1:items.size=ns.length:=by rw[← hi.length];simp
  have z2:items2.size=ms.length:=by rw[← hj.length];simp
  wp_walk using wpAny_loadPart' hl,wpAny_loadPart' hb,wpAny_forIn_list _ (fun rest b s'=>b.1=none/\s'=⟨hp,g,d,tk,os⟩/\∃(vs ws:List Value) (ns' ms':List Str),rest=vs.zip ws /\
   Strs vs ns'/\Strs ws ms'/\ns'.length+items2.size=ms'.length+items.size/\R (.ok (.ret (.bool (leS ns' ms')))) ⟨hp,g,d,tk,os⟩) _
  case turn =>
   rintro⟨y,x⟩ rest b s' ⟨hb',rfl,vs,ws,ns',ms',hz,hvi,hwi,hlen,hR⟩;cases hvi with
   | nil=>rw[List.zip_nil_left] at hz;cases hz
   | cons a t hvi' =>
    cases hwi with
    | nil=>rw[List.zip_nil_right] at hz;cases hz
    | cons c u hwi' =>
     rw[List.zip_cons_cons] at hz;injection hz with hyx hrest
     injection hyx with hy hx
     subst hy hx;rw[leS] at hR;simp only[Cq] at hlen;obtain⟨e,he,hiff⟩:=e29 A.in1 ⟨hp,g,d,tk,os⟩ a t c u;refine AQ (he prog w _ _ ?_);cases e with
     | true =>
      rw[if_pos (hiff.mp rfl)] at hR
      wp_walk
      exact⟨rfl,rfl,_,_,_,_,hrest,hvi',hwi',by lia,hR⟩
     | false =>
      rw[if_neg (fun q=>absurd (hiff.mpr q) Fj)] at hR;have hri:=h20 A.in1 ⟨hp,g,d,tk,os⟩ a t c u prog w
      wp_walk using hri
      exact⟨_,rfl,by simpa using hR⟩
  case fin =>
   rintro⟨b1,b2⟩ s' ⟨hb',rfl,vs,ws,ns',ms',hz,hvi,hwi,hlen,hR⟩;simp only at hb';subst hb';have hv:leS ns' ms'=decide (items.size<=items2.size):=by
    cases hvi with
    | nil =>
     simp only[List.length_nil] at hlen;exact(Az (by lia)).symm
    | cons a t hv =>
     cases hwi with
     | nil =>
      simp only[List.length_nil,Cq] at hlen;exact(Fq (by lia)).symm
     | cons c u hw =>
      rw[List.zip_cons_cons] at hz;cases hz
   rw[hv] at hR
   wp_walk
   exact⟨_,rfl,by simpa [Builtin.Tuple.tupleCompareSizes] using hR⟩
  case h =>
   exact⟨rfl,rfl,items.toList,items2.toList,ns,ms,rfl,hi,hj,by lia,h⟩
end
section
variable {prog:Pm}{w:World}{A:Around}{E:VSP}{s:Sd}
theorem e82 {l b:Addr}{items items2:Array Value}{ns ms:List Str}{Q:VSP}(hl:IsTup s.heap l items)(hb:IsTup s.heap b items2)(hi:Strs items.toList ns)(hj:Strs items2.toList ms)
 (hu:A.units < cLine)(h:Q (.bool (leS ns ms)) s):wpAny (model prog w) A (compareOp .LtE (.ref l) (.ref b)) Q E s:=by
 obtain⟨⟨cls,dd,data,sl⟩,ho,hc,n,hd⟩:=id hl;obtain⟨⟨cls2,dd2,data2,sl2⟩,ho2,hc2,n2,hd2⟩:=id hb;simp only at hc hd hc2 hd2;subst hc hd hc2 hd2;exact richCompare_meets_room (op:=.LtE) ⟨_,ho,rfl⟩ ⟨_,ho2,rfl⟩ PySem.F.slot_tuple_le PySem.F.entry_tuple_le (PySem.F.args_tuple_le_2 _ _) (c95 l b items items2 n n2 dd dd2 sl sl2 ns ms hi hj)
  ⟨ho,ho2,show Value.bool (leS ns ms)≠Value.notImplemented/\Q (.bool (leS ns ms)) s from⟨(fun x=>nomatch x),h⟩⟩ hu
end
section
variable {X:Cx}
theorem h36 (hu:X.A.units < cLine):OpR X (compareOp .LtE) (fun x y H Q=>∃ a b xs ys,x=.ref a/\y=.ref b/\SqT X.K H a (xs.map V.str)/\SqT X.K H b (ys.map V.str)/\Q (.bl (leS xs ys)) H):=by
 try constructor
 intro pins s σ H x y v u Q I rx ry h;obtain⟨a,b,ns,ms,rfl,rfl,ha,hb,q⟩:=h;cases rx;cases ry;obtain⟨its,r1,p1,_⟩:=I.tuple ha;obtain⟨its2,r2,p2,_⟩:=I.tuple hb;have i1:Strs its.toArray.toList ns:=Strs.of r1;have i2:Strs its2.toArray.toList ms:=Strs.of r2;exact e82 p1 p2 i1 i2 hu ⟨.bl (leS ns ms),H,I,rfl,q⟩
end
end L2
namespace L2
open PySem PySem.Spec PyProof.Rows
section
variable {prog:Pm}{w:World}{K:Type} [DecidableEq K] {knd:KeyKind prog w K}{A:Around}{E:VSP}{s:Sd}
theorem g19 {Q:Int->Sd->Prop}(h:∀ k,Q 4238894112 { s with toks:=s.toks+k }):wpAny (model prog w) A (pyHash .none) Q E s:=by
 unfold pyHash;have hv:[Value.none].any Value.onHeap=false:=rfl;unfold pyHashByItsType;refine AQ ?_;rw[cRoomFor,if_neg (by rw[hv];exact Fj)];refine AX ?_;refine AQ (wpAny_specialOf (typeIs_none s) F.slot_NoneType_hash.lookup ?_);show wpAny _ _ (if (some (Value.builtin "NoneType.__hash__") == some Value.none)=true then _ else _) Q E s;rw[if_neg (by rw[beq_builtin_none];exact Fj)];refine AQ (wpAny_specialOf (typeIs_none s) F.slot_NoneType_hash.lookup ?_);show wpAny _ _ (callSpecialIfBoundUnlessNone? .none "__hash__" _ >>= _) Q E s;refine AQ (wpAny_callSpecialIfBoundUnlessNone?_slot (typeIs_none s) F.slot_NoneType_hash
  (wpAny_call_entry F.slot_NoneType_hash (typeIs_none s) F.entry_NoneType_hash
    (show wpAny _ _ (do ret (← mkInt 0xFCA86420)) _ _ s from wpAny_ret_mkInt ?_) (F.args_NoneType_hash_1 _)))
 show wpAny _ _ (if (decide (-(2:Int) ^ 63<=0xFCA86420) && decide ((0xFCA86420:Int) < 2 ^ 63))=true then _ else _) Q E _;rw[if_pos (by decide)];exact AX (h 1)
theorem g05 {d:Addr}{o:Obj}{es ep}{xs:List (List K×Addr×Value)}{hh:Int}{Q:Option Nat->Sd->Prop}(hu:A.units < cLine)
 (ho:s.heap.get? d=some o)(hd:o.data=.dict es ep)(he:es.toList=xs.map (entryOfKey (tupleKind knd)))(his:∀ x∈xs,(tupleKind knd).is s.heap x.1 x.2.1)(hQ:Q none s) :
 wpAny (model prog w) A (dictFind d .none hh) Q E s:=by
 have hmem:∀ e∈es,∃ x∈xs,e=entryOfKey (tupleKind knd) x:=by
  intro e hin
  have:e∈xs.map (entryOfKey (tupleKind knd)):=he ▸ Array.mem_toList_iff.mpr hin
  obtain⟨x,hx,rfl⟩:=Ex.mp this;exact⟨x,hx,rfl⟩
 have hst:∀ v∈(placesWithHash es.size (fun i=>es[i]?.map (·.hash)) hh).filterMap (fun i=>es[i]?.map (·.key)),∃ k' b,v=.ref b/\(tupleKind knd).is s.heap k' b:=by
  intro v hv;obtain⟨i,_,hi⟩:=List.mem_filterMap.mp hv;cases hei:es[i]? with
  | none=>rw[hei] at hi;cases hi
  | some e =>
   rw[hei] at hi;obtain rfl:e.key=v:=by simpa using hi
   obtain⟨x,hx,rfl⟩:=hmem e (Array.mem_of_getElem? hei);exact⟨x.1,x.2.1,rfl,his x hx⟩
 have step:∀(i:Nat)(e:DictEntry),es[i]?=some e->∃ k' b,e.key=.ref b/\(tupleKind knd).is s.heap k' b:=fun i e hei=>by
  obtain⟨x,hx,rfl⟩:=hmem e (Array.mem_of_getElem? hei);exact⟨x.1,x.2.1,rfl,his x hx⟩
 unfold dictFind;try with_reducible refine wpAny_holding ?_
 refine AQ (wpAny_dictEntries ho hd ?_);dsimp only;by_cases hall:((Value.none::(placesWithHash es.size (fun i=>es[i]?.map (·.hash)) hh).filterMap (fun i=>es[i]?.map (·.key))).all carriedByValue)=true
 ·rw[if_pos hall];unfold dictWalkPlain;refine AQ ?_;refine wpAny_forIn_list _ (fun rest b s'=>b.1=none/\s'=s/\∀ i∈rest,i∈placesWithHash es.size (fun i=>es[i]?.map (·.hash)) hh) _ ?_ ?_ _ _ ⟨rfl,rfl,fun _ h=>h⟩
  ·rintro i rest b s' ⟨hb,rfl,hr⟩;have hi:=hr i BX;have hmi:i∈List.range es.size:=(List.mem_filter.mp hi).1;have hlt:i < es.size:=List.mem_range.mp hmi;have hei:es[i]?=some es[i]:=Array.getElem?_eq_getElem hlt;exfalso;obtain⟨k',c,hk,_⟩:=step i _ hei;have hin:es[i].key∈(placesWithHash es.size (fun i=>es[i]?.map (·.hash)) hh).filterMap (fun i=>es[i]?.map (·.key)):=List.mem_filterMap.mpr ⟨i,hi,by rw[hei];rfl⟩
   have:=List.all_eq_true.mp hall es[i].key (BQ _ hin)
   rw[hk] at this;cases this
  ·rintro⟨b1,b2⟩ s' ⟨hb,rfl,_⟩;simp only at hb;subst hb;exact AX hQ
 ·rw[if_neg hall];have hne:¬(((placesWithHash es.size (fun i=>es[i]?.map (·.hash)) hh).filterMap (fun i=>es[i]?.map (·.key))) == [Value.none])=true:=fun q=>by
   have q':=eq_of_beq q;obtain⟨_,_,e,_⟩:=hst Value.none (by rw[q'];exact Ax.mpr rfl);cases e
  rw[if_neg hne];have tell:∀ {R:Bool->Sd->Prop},R false s->wpAny (model prog w) A (tableMayTell .none ((placesWithHash es.size (fun i=>es[i]?.map (·.hash)) hh).filterMap (fun i=>es[i]?.map (·.key)))) R E s:=fun {R} hR=>by
   unfold tableMayTell;split
   ·exact AX hR
   ·rw[eqIsQuiet_byValue _ (show carriedByValue Value.none=true from rfl)];refine AQ (AX ?_);simp only[Bool.not_true,Bool.false_eq_true,if_false];refine AQ ?_;refine wpAny_forIn_list _ (fun rest r s'=>s'=s/\r=(none,())/\∀ v∈rest,∃ k' b,v=.ref b/\(tupleKind knd).is s.heap k' b) _ ?_ ?_ _ _ ⟨rfl,rfl,hst⟩
    ·rintro x rest r s' ⟨rfl,rfl,hr⟩;obtain⟨k',b,rfl,hb⟩:=hr x BX;refine AQ ((tupleKind knd).quiet hb ?_);simp only[Bool.not_true,Bool.false_eq_true,if_false];exact AX ⟨rfl,rfl,fun v hv=>hr v (BQ _ hv)⟩
    ·rintro r s' ⟨rfl,rfl,_⟩;exact AX hR
  refine AQ (tell ?_);rw[if_neg (by simp)];refine AQ ?_;refine wpAny_forIn_list _ (fun rest b s'=>b=(none,none)/\s'=s) _ ?_ ?_ _ _ ⟨rfl,rfl⟩
  ·rintro i rest b s' ⟨rfl,rfl⟩;cases hei:es[i]? with
   | none=>exact AX ⟨rfl,rfl⟩
   | some e =>
    dsimp only;by_cases hq:(e.hash == hh)=true
    ·rw[if_pos hq];obtain⟨k',c,hk,hc⟩:=step i e hei;obtain⟨oc,items,n,hoc,hcc,hdc,_⟩:=hc;rw[hk];refine AQ (wpAny_dictEpoch ho hd (AQ (SeqAt.EqAt.tuple_none (s:=s') (l:=c) (items:=items) ⟨oc,hoc,hcc,n,hdc⟩ hu prog w _ _ (AQ (wpAny_dictEpoch ho hd ?_)))));show wpAny _ _ (if (ep != ep)=true then _ else _) _ E _;rw[if_neg (by simp)];simp only[Bool.false_eq_true,if_false];refine AQ (wpAny_rule ?_);first | rw[if_neg (by simp)] | skip
     first
      | exact AX ⟨rfl,rfl⟩
      | exact AQ (AX (AX ⟨rfl,rfl⟩))
    ·rw[if_neg hq];exact AX ⟨rfl,rfl⟩
  ·rintro b s' ⟨rfl,rfl⟩;exact AX hQ
theorem i03 {d:Addr}{xs:List (List K×Addr×Value)}{Q:VSP}(hu:A.units+1 < cLine)(hd:(d == sysModules)=false)(hm:s.heap.DictOfH (tupleKind knd) d xs)
 (h:∀ k,Q (.bool false) { s with toks:=s.toks+k }):wpAny (model prog w) A (compareOp .In .none (.ref d)) Q E s:=by
 show wpAny _ _ (do return .bool (← contains (.ref d) .none)) Q E s;refine AQ ?_;unfold contains;try with_reducible refine wpAny_holding ?_
 refine AQ (wpAny_specialOf hm.typeIs slot_dict_contains.lookup ?_);show wpAny _ _ (if (some (Value.builtin "dict.__contains__") == some Value.none)=true then _ else _) _ E s;rw[if_neg (by rw[beq_builtin_none];exact Fj)];refine AQ (wpAny_callSpecialUnlessNone?_slot (name:=Str.ofString "__contains__") hm.typeIs slot_dict_contains
  (wpAny_call_entry slot_dict_contains hm.typeIs entry_dict_contains ?_ (args_dict_contains _ _)))
 show wpAny _ _ (dictGet d .none >>= _) _ _ s;obtain⟨o,es,ep,ho,_,hdd,he,his,hn⟩:=id hm;refine AQ ?_;unfold dictGet;try with_reducible refine wpAny_holding ?_
 refine AQ (g19 fun k=>AQ (g05 (knd:=knd) (s:={ s with toks:=s.toks+k }) (show A.in1.units < cLine from hu) ho hdd he his ?_))
 refine AX ?_;show wpAny _ _ (Builtin.Dict.pendingKey? d .none >>= _) _ _ _;exact AQ (wpAny_pendingKey_other hd (AX ⟨_,rfl,wpAny_truthy_bool (AX (h k))⟩))
end
section
variable {X:Cx}{o i:Expr}{td ty:TE}
def inO (m:b64):Option (List Str)->Bool
 | none=>false
 | some zs=>(a96 m zs).isSome
def tDInO (ty td:TE):TE:=fun σ H Q=>ty σ H fun y H1=>td σ H1 fun x H2=>∃ a m q,x=.ref a/\H2 a=some (dP m)/\OptP H2 y q/\Q (.bl (inO m q)) H2
theorem f37 (hu:X.A.units+1 < cLine)(hi:PE X i ty)(ho:PE X o td):PC X .In i o (tDInO ty td):=by
 try constructor
 intro pins s σ H Q I h;refine thn (hi pins s σ H _ I h) fun iv s1 ⟨y,H1,I1,ry,q1⟩=>thn (ho pins s1 σ H1 _ I1 q1) fun u s2 ⟨x,H2,I2,rx,a,m,z,ex,e,oz,q2⟩=>?_;subst ex;obtain rfl:u=Value.ref a:=rx;cases z with
 | none =>
  cases (show y=.non from oz);cases (show iv=Value.none from ry);obtain⟨_,hd,xs,rel,dd⟩:=g44 I2.hok e;exact i03 hu hd dd fun k=>⟨.bl false,H2,I2.tok _,rfl,q2⟩
 | some zs =>
  obtain⟨b,rfl,hb⟩:=oz;exact d_in hu I2 (i17 e hb) ry fun s3 I3=>⟨.bl (a96 m zs).isSome,H2,I3,rfl,q2⟩
end
section
variable {X:Cx}{k v:Expr}{tk tv:TE}{pos:Pos}
def i36 (tk tv:TE):TE:=fun σ H Q=>∀ p,H p=none->tk σ (upd H p (dP [])) fun x H1=>tv σ H1 fun y H2=>∃ b zs,x=.ref b/\H2 b=some (.tup (zs.map V.str))/\H2 p=some (dP [])/\Q (.ref p) (upd H2 p (dP [(zs,y)]))
theorem e61 (hu:X.A.units+1 < cLine)(hk:PE X k tk)(hv:PE X v tv):PE X (.Dict [some k] [v] pos) (i36 tk tv):=by
 try constructor
 intro pins s σ H Q I q;have hn:=I.hok.fresh (AZ s.heap.objs.size);have I1:=I.laid (a:=s.heap.objs.size) (o:=.dT []) (h':=s.heap.push { cls:=.type "dict", data:=.dict #[] }) (t':=s.toks) (fun _ _ q=>Aq _ q) (AZ _) (e53 s.heap I.big);refine wpAny_Dict_any rfl rfl (by simp) (by show 1<=15;decide) (pairTrees_cons_walk (thn (hk pins _ σ _ _ I1 (q _ hn)) fun kv s2 ⟨x,H2,I2,rx,q2⟩=>thn (hv pins s2 σ H2 _ I2 q2) fun vv s3 ⟨y,H3,I3,ry,b,zs,ex,hb,hp,q3⟩=>pairTrees_nil_walk ?_));subst ex;cases (show kv=Value.ref b from rx);unfold storeAll;rw[List.forIn_cons];refine AQ (AQ ?_);obtain⟨z,hd,xs,rel,dd⟩:=g44 I3.hok hp;have hz:xs.length<=zL:=by rw[← Paired.length rel];exact z
 refine wpAny_dictSet_heap (hsz:=hz) (show X.A.units < cLine by lia) (c43 I3.hok (ks:=zs.map Sum.inr) (by rw[b42];exact hb)) dd fun h' dd' hs=>?_;refine AX (AX ?_);obtain⟨qo,es,ep,hq,h2,h3,h4,_,h5⟩:=dd';have rel':=rel.put (zs.map Sum.inr) (show H3 b=some (.tup ((zs.map Sum.inr).map kV)) by rw[b42];exact hb) ry;refine⟨.ref s.heap.objs.size,_,c90 I3 (ob:=dP [(zs,y)]) (by rw[hp];exact True.intro) hs ⟨qo,hq⟩ ⟨by show 1<=zL;decide,hd,_,rel'.keeps fun c ys ec=>?_,qo,es,ep,hq,h2,h3,h4,h5⟩,rfl,q3⟩;rw[a07 (b06 ec hp (fun z=>nomatch z))];exact ec
end
def Itd (d:Addr)(o:Obj) (kvs:List (Key×V)):It :=
 ⟨fun i H=>H d=some (.frz o (.dK kvs))/\i < kvs.length,fun i H x H'=>H'=H/\∃ p,kvs[i]?=some p/\x=kV p.1,fun i H=>H d=some (.frz o (.dK kvs))/\kvs.length<=i⟩
theorem i77 {P:Pm}{w:World}{H:Hp}{h:Heap}{d:Addr}{o:Obj}{kvs:List (Key×V)}(hok:HOk P w H h)(e:H d=some (.frz o (.dK kvs))){es:Array DictEntry}{ep:Nat}(ed:o.data=.dict es ep):∃ vs,KV kvs vs/\h.DictAt (a85 P w) d vs ep:=by
 obtain⟨ho,_,_,vs,rel,o',es',ep',h1,h2,h3,h4⟩:=(show ObjOk P w H h d (.frz o (.dK kvs)) from hok d _ e);rw[ho] at h1;cases h1;rw[ed] at h3;cases h3;exact⟨vs,rel,o,es,ho,h2,ed,h4⟩
theorem i68 {kvs:List (Key×V)}{vs:List (Key×Value)}(r:KV kvs vs):∀ {i:Nat}{p:Key×V},kvs[i]?=some p->∃ u,vs[i]?=some (p.1,u):=by
 unfold KV at r;induction r with
 | nil=>intro i p h;cases h
 | @cons a b l1 l2 h1 t ih =>
  intro i p h;cases i with
  | zero =>
   rw[List.getElem?_cons_zero] at h;cases h;exact⟨b.2,by rw[List.getElem?_cons_zero,h1.1]⟩
  | succ i=>exact ih h
theorem h51 {P:Pm}{w:World}{k:Key}{u:Value}(h:(a85 P w).is k u=true):RelV (kV k) u:=by
 rw[e80] at h;rcases a72 h with⟨i,t,rfl,rfl⟩ | ⟨x,t,rfl,rfl⟩
 ·exact⟨t,rfl⟩
 ·exact⟨t,rfl⟩
theorem g33 {P:Pm}{w:World}{K:WFr}{tg:Expr}(it d:Addr)(o:Obj) (kvs:List (Key×V))(es:Array DictEntry) (ep:Nat)(ed:o.data=.dict es ep):Turn P w K tg (Itd d o kvs) [it] it (fun i h=>h.IsKeyIter it d i kvs.length ep) where
 mem:=by simp
 obj:=fun i h st b hb=>by
  have e:b=it:=by simpa using hb
  subst e;obtain⟨o,e,c,d⟩:=st;exact⟨o,e,fun v z=>by rw[d] at z;cases z⟩
 keep:=fun i h h' st k=>st.at fun o e=>k it (by simp) o e
 item:=by
  intro X hP hw hK hc i pins s σ H E I hf st hg;subst hP hw hK;obtain⟨hq,hi⟩:=hg;obtain⟨vs,rel,hm⟩:=i77 I.hok hq ed;obtain⟨p,hp⟩:∃ p,kvs[i]?=some p:=⟨kvs[i],by simp[hi]⟩;obtain⟨u,hu⟩:=i68 rel hp;obtain⟨f0,f1,f2,f3,f4,f5⟩:=hf it (by simp);have hl:kvs.length=vs.length:=rel.length;refine wpAny_pyNext_dict_item (hl ▸ st) hm hu fun key h' hk st' sb=>?_;have I1:Inv X pins σ H { s with heap:=h' }:=I.turned (t':=s.toks) (fun b o hb e=>(sb.2 b hb).trans e) f0 f1 f3 f4 f5
  obtain⟨o',e,c,dd⟩:=id st';exact⟨key,rfl,f48 (s:={ s with heap:=h' }) e c dd (by decide) ⟨kV p.1,H,I1,h51 hk,⟨rfl,p,hp,rfl⟩,by rw[hl];exact st',fun b hb=>(hf b hb).1⟩⟩
 done:=by
  intro X hP hw hK hc i pins s σ H E I hf st hg;subst hP hw hK;obtain⟨hq,hi⟩:=hg;obtain⟨vs,rel,hm⟩:=i77 I.hok hq ed;obtain⟨f0,f1,f2,f3,f4,f5⟩:=hf it (by simp);have hl:kvs.length=vs.length:=rel.length;exact wpAny_pyNext_dict_end (I.ok.hd hc) (hl ▸ st) hm (by rw[List.getElem?_eq_none];lia) fun h' eb=>⟨rfl,I.turned (t':=s.toks) (fun b o hb e=>eb b o hb e) f0 f1 f3 f4 f5⟩
 self:=fun _ _ _ _ _ st h=>wpAny_pyIter_keyiter st h
section
variable {X:Cx}{tg:Expr}
def iDict (tl:TE):TI:=fun σ H R=>tl σ H fun x H1=>∃ d kvs,x=.ref d/\H1 d=some (.dK kvs)/\∀ o,R (Itd d o kvs) (upd H1 d (.frz o (.dK kvs)))
theorem h54 {l:Expr}{tl:TE}(hl:PE X l tl):PI X tg l (iDict tl):=by
 try constructor
 intro pins s σ H R I h;refine thn (hl pins s σ H _ I h) fun v s1 ⟨x,H1,I1,r1,q1⟩=>?_;obtain⟨d,kvs,e,hq,q⟩:=q1;subst e;cases r1;obtain⟨z,hd,vs,rel,dd⟩:=i23 I1.hok hq;obtain⟨o,es,ep,ho,hc,hdat,hr⟩:=id dd;have hm:s1.heap.DictAt (a85 X.prog X.w) d vs ep:=⟨o,es,ho,hc,hdat,hr⟩;have hlen:kvs.length=vs.length:=rel.length;have rel0:=rel;refine wpAny_pyIter_dict hd hm ?_;have I2:Inv X pins σ (upd H1 d (.frz o (.dK kvs))) { s1 with heap:=s1.heap }:=I1.write (t':=s1.toks) (x:=d) (e:=d) (by rw[hq];exact True.intro) (.inl rfl) (fun b u _ e=>e) ⟨o,ho⟩ ⟨ho,z,hd,vs,rel,dd⟩
 have I3:=I2.kept (t':=s1.toks) (h':=s1.heap.push { cls:=.type "dict_keyiterator", data:=.fields #[.ref d,.int 0 0,.int vs.length 0,.int ep 0] }) fun b o e=>Aq _ e;refine⟨s1.heap.objs.size,[s1.heap.objs.size],_,_,_,rfl,I3,g33 _ d o kvs es ep hdat,?_,fun b hb=>?_,q o⟩
 ·rw[hlen];exact⟨_,Dx _ rfl,rfl,rfl⟩
 ·have e:b=s1.heap.objs.size:=by simpa using hb
  subst e;exact I2.fpOk (AZ _) (I2.hok.fresh (AZ _))
end
theorem f39 {d:Addr}{o:Obj}{kvs:List (Key×V)}{et:V->Hp->VK->Prop}{H:Hp}{fin:Addr->List V->Hp->Prop} (Pv:Nat->List V->Hp->Prop)(hn:kvs.length<=zL)(h0:Pv 0 [] H)(hl:∀ i ys H,Pv i ys H->ys.length=i)
 (hq:∀ i ys H,i<=kvs.length->Pv i ys H->H d=some (.frz o (.dK kvs)))
 (hs:∀ i ys H p,kvs[i]?=some p->Pv i ys H->et (kV p.1) H fun y H3=>Pv (i+1) (ys++[y]) H3)(hd:∀ ys H,Pv kvs.length ys H->∀ D,H D=none->fin D ys H) :
 ∃ W:Nat->Nat->List V->Hp->Prop,(∃ m,W 0 m [] H)/\∀ i m ys H,W i m ys H ->
  ((Itd d o kvs).stop i H/\∀ D,H D=none->fin D ys H) ∨
  ((Itd d o kvs).go i H/\ys.length < zL/\∃ Nx:V->Hp->Prop,(∀ y H3,Nx y H3->∃ m',m' < m/\W (i+1) m' (ys++[y]) H3)/\∀ x H',(Itd d o kvs).yld i H x H'->et x H' Nx):=by
 refine⟨fun i m ys H=>m=kvs.length-i/\i<=kvs.length/\Pv i ys H,⟨kvs.length,by simp,Fx _,h0⟩,?_⟩;rintro i m ys H ⟨rfl,hi,p⟩;have q:=hq i ys H hi p;by_cases hlt:i < kvs.length
 ·refine .inr ⟨⟨q,hlt⟩,by rw[hl i ys H p];lia,_,fun y H3 q=>⟨kvs.length-(i+1),by lia,rfl,hlt,q⟩,fun x H' yl=>?_⟩;obtain⟨e,p',hp',rfl⟩:=yl;subst e;exact hs i ys _ p' hp' p
 ·have e:i=kvs.length:=by lia
  subst e;exact .inl ⟨⟨q,AZ _⟩,hd ys H p⟩
end L2
namespace L2
open PySem PySem.Spec PyProof.Rows
section
variable {X:Cx}{elt iter:Expr}{x y:Str}{px py pos:Pos}{scope:Scope}{wi:TI}{te:TE}{N:List Str}{k:Nat}{up:St->St}
theorem e17 {tg:Expr}{ifs:List Expr}{gg:TG}{tt:TT}{ix:Nat}{yn:Str}{py spos:Pos}{ok:Str->Prop}(S:CompScopeG X.env.scope X.N scope x ok)(hc:X.calm=true)
 (hup:∀ σ:St,σ.length=X.N.length->(up σ).length=N.length/\∀(i:Nat) (y:Str) (v:V),N[i]?=some y->(up σ)[i]?=some (some v)->¬ ok y/\∃ j:Nat,X.N[j]?=some y/\σ[j]?=some (some v))
 (hi:PI X tg iter wi)(hg:∀ C fp s H,PG (a48 X scope N C fp s H) tg gg)(hgs:∀ v (σ:St) H (Q:St->Hp->Prop),σ.length=X.N.length->gg v (up σ) H Q->gg v (up σ) H fun σ2 H2=>Wk (up σ) σ2/\Q σ2 H2)
 (ht:∀ C fp s H,PTs (a48 X scope N C fp s H) ifs tt)
 (he:∀ C fp s H,PE (a48 X scope N C fp s H) elt te)(hs:∀ v,foldedSetIterable iter X.env v=pure v)
 (hNX:X.N.Nodup)(hni:X.N[ix]?=some yn)(hlx:Loc X.env.scope yn)(hsw:swapsWith (.ListComp elt [⟨tg,iter,ifs,0⟩] scope pos) (some (.Name yn py)) spos.line X.env=pure true)(hf:X.fn yn=true∨X.env.scope.names.lookup yn=some .local) :
 PS X (.Assign [.Name yn py] (.ListComp elt [⟨tg,iter,ifs,0⟩] scope pos) spos) (i18 (c12 wi up gg tt te) (b65 ix)):=by
 try constructor
 intro pins s σ H DE I h;rw[exec_Assign_Name_used _ _ _ _ hsw];refine AQ (wpAny_standAt (AQ ?_));show wpAny _ _ (do let _ ← comprehension (.ListComp elt [⟨tg,iter,ifs,0⟩] scope pos) scope X.env _ (newList []) false (eval iter X.env) (some (assign (.Name yn py) X.env))) _ _ s
 refine AQ (Dq (wpAny_comprehension_free (use:=some (assign (.Name yn py) X.env)) (Q:=fun _ s'=>SP X pins DE .next s') rfl hs (c05 (b47 I S)) S.kind S.names (thn (hi pins s σ H _ I h) fun v s1 h1=>thn h1 fun itv s2 h2=>?_)) (fun _ s' hq=>AX (AX hq)) fun _ _ e=>e);obtain⟨it,fp,tn,J,H2,e,I2,T,st2,f2,W,⟨m0,w0⟩,turn⟩:=h2;subst e;refine EZ (wpAny_newFunctionEnv S.nocell (by intro y hy;simp at hy) (fun h₁ hns₁ hsb₁=>?_) S.kind);dsimp only at hns₁ hsb₁ ⊢;generalize hH2:s2.heap.push { cls:=.type "list", dict:=none,data:=.seq ([]:List Value).toArray }=HH at hns₁ hsb₁ ⊢;have hC:HH.objs.size=s2.heap.objs.size+1:=by rw[← hH2,Heap.size_push]
 have hDC:s2.heap.objs.size≠HH.objs.size:=by rw[hC];exact nLQ (Nat.lt_succ_self _)
 have hCle:s2.heap.objs.size<=HH.objs.size:=by rw[hC];exact FJ _
 have below:∀ b,b < s2.heap.objs.size->b≠HH.objs.size/\b≠s2.heap.objs.size:=fun b hb=>⟨by rw[hC];exact nLQ (Nat.lt_succ_of_lt hb),nLQ hb⟩;have old:∀ b o,s2.heap.get? b=some o->h₁.get? b=some o:=fun b o e=>hsb₁.extBut b o (below b (DQ e)).1 (Aq _ (hH2 ▸ Aq _ e));have hacc:h₁.get? s2.heap.objs.size=some { cls:=.type "list", data:=.seq ([]:List Value).toArray 0 }:=hsb₁.extBut _ _ hDC (Aq _ (hH2 ▸ Dx _ rfl));have ho2:∀ b∈fp,∃ o,s2.heap.get? b=some o:=fun b hb=>let ⟨o,e,_⟩:=T.obj _ _ st2 b hb;⟨o,e⟩
 have fpD:∀ b∈fp,b≠s2.heap.objs.size:=fun b hb=>let ⟨o,e⟩:=ho2 b hb;(below b (DQ e)).2
 obtain⟨hul,husub⟩:=hup σ I2.len;have st1:tn 0 h₁:=T.keep _ _ _ st2 fun b _ o e=>old b o e;have I3:Inv (a48 X scope N HH.objs.size fp s2 H2) [] (up σ) H2 { s2 with heap:=h₁,toks:=s2.toks+([]:List (Str×Value)).length }:=b97 I2 S f2 ho2 hCle old hns₁ hul husub
 have hD2:H2 s2.heap.objs.size=none:=I2.hok.fresh (AZ _);have loop:codeAny (model X.prog X.w) X.A (.compLoop (.ListComp elt [⟨tg,iter,ifs,0⟩] scope pos) 0 (.ref it) (.ref s2.heap.objs.size) (compEnvC scope (d46 X.env scope.names []) HH.objs.size X.env))
  (compPost (model X.prog X.w) X.A X.xe (some (assign (.Name yn py) X.env)) (fun _ s'=>SP X pins DE .next s') (.ref s2.heap.objs.size) HH.objs.size) { s2 with heap:=h₁,toks:=s2.toks+([]:List (Str×Value)).length }:=by
  refine c13 (fun n s'=>∃(i:Nat) (ys:List V) (its:List Value) (cn:Nat)(H':Hp),Inv (a48 X scope N HH.objs.size fp s2 H2) [] (up σ) H' s'/\tn i s'.heap/\(∀ b∈fp,H' b=none)/\H' s2.heap.objs.size=none /\
   s'.heap.get? s2.heap.objs.size=some { cls:=.type "list", data:=.seq its.toArray cn }/\Vals ys its/\ys.length<=zL/\W i n ys H') ?_ m0
   ⟨0,[],[],0,H2,I3,st1,fun b hb=>(f2 b hb).1,hD2,hacc,.nil,Fx _,w0⟩
  rintro n s3 ⟨i,ys,its,cn,H3,J3,st3,fr3,hD3,hob3,rv3,hz3,w3⟩;have pinD:∀ {H':Hp}{s':Sd}{σ':St}{its':List Value}{cn':Nat},Inv (a48 X scope N HH.objs.size fp s2 H2) [] σ' H' s'->H' s2.heap.objs.size=none->s'.heap.get? s2.heap.objs.size=some { cls:=.type "list", data:=.seq its'.toArray cn' } ->
   Inv (a48 X scope N HH.objs.size fp s2 H2) [(s2.heap.objs.size,{ cls:=.type "list", data:=.seq its'.toArray cn' })] σ' H' s':=fun J hD hob=>J.pins_of fun p hp=>by
   have e:p=(s2.heap.objs.size,{ cls:=.type "list", data:=.seq _ _ }):=Ax.mp hp;subst e;refine⟨hob,hD,hDC,fun z=>?_,fun v z=>by cases (show Data.seq _ _=Data.cell v from z)⟩;exact absurd rfl ((below _ (by
    obtain⟨_,o,ho,_⟩:=(show s2.heap.FunFrames X.base X.stack from I2.stack).mem z;exact DQ ho)).2)
  have J3':=pinD J3 hD3 hob3;have fpk:∀ {H':Hp},(∀ b∈fp,H' b=none)->∀ b∈fp,f72 (a48 X scope N HH.objs.size fp s2 H2) [(s2.heap.objs.size,{ cls:=.type "list", data:=.seq its.toArray cn })] H' b:=fun hn b hb=>by
   obtain⟨o,e⟩:=ho2 b hb;refine⟨hn b hb,(below b (DQ e)).1,(b74 (N:=N) I2 S f2 ho2 hCle).exfs b hb,.inl hb,fun y c ec=>((b74 (N:=N) I2 S f2 ho2 hCle).exf b hb).2 y c ec,fun p hp=>?_⟩;have e':p=(s2.heap.objs.size,{ cls:=.type "list", data:=.seq its.toArray cn }):=Ax.mp hp;subst e';exact(fpD b hb).symm
  rcases turn i n ys H3 w3 with⟨stop,fin⟩ | ⟨go,hlt,Nx,hNx,step⟩
  ·refine Dq (T.done (a48 X scope N HH.objs.size fp s2 H2) rfl rfl rfl hc i _ s3 (up σ) H3 _ J3' (fpk fr3) st3 stop) (fun r s4 ⟨hr,J4⟩=>?_) fun _ _ z=>z;subst hr;obtain⟨m4,hn4,_⟩:=J4.loc;have hob4:=(J4.pin (s2.heap.objs.size,{ cls:=.type "list", data:=.seq its.toArray cn }) (by simp)).1;have kp:∀ b o,b≠HH.objs.size->s4.heap.get? b=some o->s4.heap.get? b=some o:=fun b o _ e=>e;have hne:∀ b u,H3 b=some u->b≠s2.heap.objs.size:=fun b u q=>a04 q hD3;have hneC:∀ b u,H3 b=some u->b≠HH.objs.size:=fun b u q=>a04 q J4.free;have un:Un (frs X.stack) fp H2 (upd H3 s2.heap.objs.size (.lst ys)) s2.heap s4.heap:=by
    have u0:Un (frs X.stack) fp H2 H3 s2.heap s4.heap:=J4.base;refine⟨fun b o e n hb hx=>kp b o (below b (DQ e)).1 (u0.keep b o e n hb hx),fun b o e n hb hx=>?_,fun b o e n hx=>?_,fun b o e hx=>?_,fun b xs q=>?_,fun b o u q=>?_,fun b ps q=>?_⟩
    ·obtain⟨sl,e1⟩:=u0.slot b o e n hb hx;exact⟨sl,kp b _ (below b (DQ e)).1 e1⟩
    ·rw[a07 (below b (DQ e)).2];exact u0.free b o e n hx
    ·obtain⟨o',e1⟩:=u0.there b o e hx;exact⟨o',kp b _ (below b (DQ e)).1 e1⟩
    ·have q':=u0.tups b xs q;rw[a07 (hne b _ q')];exact q'
    ·have q':=u0.frzs b o u q;rw[a07 (hne b _ q')];exact q'
    ·obtain⟨more,q'⟩:=u0.tbls b ps q;exact⟨more,by rw[a07 (hne b _ q')];exact q'⟩
   have hok:HOk X.prog X.w (upd H3 s2.heap.objs.size (.lst ys)) s4.heap:=fun b u q=>by
    by_cases hb:b=s2.heap.objs.size
    ·subst hb;rw[a01] at q;cases q;exact⟨hz3,its,cn,rv3,kp _ _ hDC hob4⟩
    ·rw[a07 hb] at q;refine(J4.hok b u q).stay (fun c v hc' r=>kp c v ?_ r) (fun c r=>by rw[a07 (hne c _ r)];exact r) fun c xs r=>by rw[a07 (hne c _ r)];exact r
     rcases hc' with z | z
     ·rw[z];exact hneC b u q
     ·exact hneC c _ z
   have IX:Inv X pins σ (upd H3 s2.heap.objs.size (.lst ys)) s4:=by
    refine I2.call' (s':=s4) (ch:=fp) J4.os un hok J4.bare fun b hb=>?_;obtain⟨_,g1,_,g3,g4,g5⟩:=f2 b hb;exact⟨g3,g1,g4,g5⟩
   obtain⟨oC,esC,epC,hoC,hrC⟩:=id hn4;have hCn:(upd H3 s2.heap.objs.size (.lst ys)) HH.objs.size=none:=by rw[a07 (Ne.symm hDC)];exact J4.free
   have cL:HH.objs.size≠X.env.locals:=fun z=>absurd rfl ((below _ I2.lt).1 |> fun q=>by rw[← z] at q;exact q);have cF:HH.objs.size∉X.fs:=I2.nofs hCle;have cC:∀ y c,X.env.cells.lookup y=some c->c≠HH.objs.size:=fun y c ec=>by
    obtain⟨v',q⟩:=I2.cell y c ec;exact(below c q.lt).1
   have cP:∀ p∈X.pn++pins,p.1≠HH.objs.size:=fun p hp=>(below p.1 (DQ (I2.pin p hp).1)).1;have cS:HH.objs.size∈X.ex∨X.s₀.heap.objs.size<=HH.objs.size:=.inr (Fz I2.sz hCle);have IP:Inv X (pins++[(HH.objs.size,oC)]) σ (upd H3 s2.heap.objs.size (.lst ys)) s4:=IX.pins_of fun p hp=>by
    rcases Bq.mp hp with z | z
    ·exact IX.pin p (lR _ z)
    ·rw[Ax.mp z];refine⟨hoC,hCn,cL,cF,fun v z=>?_⟩;first
      | (have q:=hrC.2.1;rw[z] at q;cases q)
      | (have q:=hrC.1;rw[z] at q;cases q)
      | (have q:=hrC.2;rw[z] at q;cases q)
   refine wpAny_assign_Name (b54 IP hNX hni hlx (v:=.ref s2.heap.objs.size) rfl (fun s5 I5=>?_) hf);have hC5:s5.heap.get? HH.objs.size=some oC:=(I5.pin (HH.objs.size,oC) (lR _ (lR _ (Ax.mpr rfl)))).1;refine⟨m4,⟨oC,esC,epC,hC5,hrC⟩,fun h' sb=>?_⟩;exact⟨_,_,I5.unpinned.turned (t':=s5.toks) (fun b o hb e=>(sb.2 b hb).trans e) hCn cL cS cC cP,fin _ hD3⟩
  ·refine Dq (T.item (a48 X scope N HH.objs.size fp s2 H2) rfl rfl rfl hc i _ s3 (up σ) H3 _ J3' (fpk fr3) st3 go) (fun r s4 ⟨u,hr,h4⟩=>?_) fun _ _ z=>z;subst hr;refine Dq h4 (fun _ s5 ⟨y,H5,J5,r5,y5,st5,fr5⟩=>?_) fun _ _ z=>z;have J5':=J5.pinned (fpk fr5) (T.obj _ _ st5);refine Dq (hg HH.objs.size fp s2 H2 _ s5 _ H5 y u _ J5' r5 (hgs y σ H5 _ I2.len (step y H5 y5))) (fun _ s6 ⟨σ6,H6,J6,⟨wl,wk⟩,q6⟩=>?_) fun _ _ z=>z.elim;refine Dq (ht HH.objs.size fp s2 H2 _ s6 σ6 H6 _ J6 q6) (fun bt s7 ⟨H7,J7,q7⟩=>?_) fun _ _ z=>z.elim;cases bt with
   | false =>
    rw[if_neg Fj] at q7 ⊢;obtain⟨m',hm',w7⟩:=hNx ys H7 q7;have pD:=J7.pin (s2.heap.objs.size,{ cls:=.type "list", data:=.seq its.toArray cn }) (by simp);have J7':Inv (a48 X scope N HH.objs.size fp s2 H2) [] (up σ) H7 s7:=(J7.weak (σ':=up σ) wl fun j v ej=>wk j v ej).pins_of fun p hp=>nomatch hp;refine⟨m',hm',i+1,ys,its,cn,H7,J7',?_,fun b hb=>?_,pD.2.1,pD.1,rv3,hz3,w7⟩
    ·refine T.keep _ _ _ st5 fun b hb o e=>?_;exact(J7.pin (b,o) (lR _ (lR _ (a68 hb e)))).1
    ·obtain⟨o,e,d⟩:=T.obj _ _ st5 b hb;exact(J7.pin (b,o) (lR _ (lR _ (a68 hb e)))).2.1
   | true =>
   rw[if_pos rfl] at q7 ⊢;refine Dq (he HH.objs.size fp s2 H2 _ s7 σ6 H7 _ J7 q7) (fun yu s7 ⟨z,H7,J7,r7,q7⟩=>?_) fun _ _ z=>z.elim;obtain⟨m',hm',w7⟩:=hNx (ys++[z]) H7 q7;have pD:=J7.pin (s2.heap.objs.size,{ cls:=.type "list", data:=.seq its.toArray cn }) (by simp);have hlen:=rv3.length;refine append_at (hsz:=by rw[lS,← hlen];exact hz3) pD.1 fun h8 sb8 hob8=>?_;have kp8:∀ b o,b≠s2.heap.objs.size->s7.heap.get? b=some o->h8.get? b=some o:=fun b o hb e=>(sb8.2 b hb).trans e;have J7':Inv (a48 X scope N HH.objs.size fp s2 H2) [] (up σ) H7 s7:=(J7.weak (σ':=up σ) wl fun j v ej=>wk j v ej).pins_of fun p hp=>nomatch hp;have J8:Inv (a48 X scope N HH.objs.size fp s2 H2) [] (up σ) H7 { s7 with heap:=h8 }:=J7'.turned (t':=s7.toks) kp8 pD.2.1 hDC (.inr (AZ _))
    (fun y' c ec z=>by
      obtain⟨v',q⟩:=I2.cell y' c (a95 I2 S ec);exact(below c q.lt).2 z) fun p hp=>nomatch hp
   refine⟨m',hm',i+1,ys++[z],its++[yu],cn+1,H7,J8,?_,fun b hb=>?_,pD.2.1,?_,rv3.append (.cons r7 .nil),?_,w7⟩
   ·refine T.keep _ _ _ st5 fun b hb o e=>kp8 b o (fpD b hb) ?_;exact(J7.pin (b,o) (lR _ (lR _ (a68 hb e)))).1
   ·obtain⟨o,e,d⟩:=T.obj _ _ st5 b hb;exact(J7.pin (b,o) (lR _ (lR _ (a68 hb e)))).2.1
   ·rw[hob8];simp
   ·rw[Bj,List.length_singleton];exact hlt
 exact codeAny_compStart_list loop (T.self _ 0 _ _ _ st1 loop)
theorem g91 {osc:Scope}{oN ops:List Str}{ifs:List Expr}{tt:TT}{ek:Nat}{ep:Pos}{ix:Nat}{yn:Str}{pyn spos:Pos}(SC:FnScope oN ops osc)(S:b04 osc oN scope x)(hx:x∉oN)(hy:y∉oN)(hxy:x≠y)(hly:scope.names.lookup y=some .local)
 (hni:X.N[ix]?=some yn)(hlx:Loc X.env.scope yn)
 (hi:PI X (.Tuple [.Name x px,.Name y py] ek ep) iter wi)(ht:∀ C fp s H,PTs (a48 X scope (X.N++[x,y]) C fp s H) ifs tt)
 (he:∀ C fp s H,PE (a48 X scope (X.N++[x,y]) C fp s H) elt te)
 (hsw:swapsWith (.ListComp elt [⟨.Tuple [.Name x px,.Name y py] ek ep,iter,ifs,0⟩] scope pos) (some (.Name yn pyn)) spos.line X.env=pure true:=by rfl)(hf:X.fn yn=true∨X.env.scope.names.lookup yn=some .local:=by first | exact .inl rfl | exact .inr rfl)
 (hc:X.calm=true:=by rfl)(e1:X.env.scope=osc:=by rfl)(e2:X.N=oN:=by rfl)(hs:∀ v,foldedSetIterable iter X.env v=pure v:=by intro _;rfl) :
 PS X (.Assign [.Name yn pyn] (.ListComp elt [⟨.Tuple [.Name x px,.Name y py] ek ep,iter,ifs,0⟩] scope pos) spos) (i18 (c12 wi (fun σ=>σ++[none,none]) (gTup X.K 2 (d63 (b65 X.N.length) (d63 (b65 (X.N.length+1)) gNil))) tt te) (b65 ix)):=by
 have hx':x∉X.N:=by rw[e2];exact hx
 have hy':y∉X.N:=by rw[e2];exact hy
 have hnd:X.N.Nodup:=by rw[e2];exact SC.nd
 have hN:(X.N++[x,y]).Nodup:=by
  rw[List.nodup_append];refine⟨hnd,by simp[hxy],fun a ha b hb=>?_⟩;simp at hb;rcases hb with rfl | rfl
  ·exact fun e=>hx' (e ▸ ha)
  ·exact fun e=>hy' (e ▸ ha)
 refine e17 (up:=fun σ=>σ++[none,none]) (by rw[e1,e2];exact S) hc (e46 hx' hy') hi (fun C fp s H=>?_) ?_ ht he hs hnd hni hlx hsw hf
 ·refine c67 hc (a89 (a75 hN (by show(X.N++[x,y])[X.N.length]?=_;simp) (.inl (lookup_relabel_local S.loc)) (.inr (lookup_relabel_local S.loc))) (a89 (a75 hN (by show(X.N++[x,y])[X.N.length+1]?=_;simp) (.inl (lookup_relabel_local hly)) (.inr (lookup_relabel_local hly))) c01))
 ·rintro v σ H Q hl ⟨a,xs,e,hq,hn,v1,r1,e3,v2,r2,e4,e5,q⟩;refine⟨a,xs,e,hq,hn,v1,r1,e3,v2,r2,e4,e5,⟨by rw[List.length_set,List.length_set],fun j u hj=>?_⟩,q⟩;have hlt:j < X.N.length:=by
   rw[← hl];by_cases hi:j < σ.length
   ·exact hi
   ·rw[lA (by lia)] at hj;generalize j-σ.length=i at hj
    match i,hj with
    | 0,h2=>cases h2
    | 1,h2=>cases h2
    | i+2,h2=>cases h2
  show(((σ++[none,none]).set X.N.length (some v1)).set (X.N.length+1) (some v2))[j]?=_
  rw[lE (by lia),lE (by lia)];exact hj
end
end L2
namespace L2
open PySem PySem.Spec PyProof.Rows
theorem g17:typeLookup (.type "list_reverseiterator") "__len__" = pure none:=by rw[typeLookup_type,builtinLookup_eq_fast];kernel_rfl
theorem g96:typeLookup (.type "list_reverseiterator") "__length_hint__" = pure (some (.builtin "list_reverseiterator.__length_hint__")):=by rw[typeLookup_type,builtinLookup_eq_fast];kernel_rfl
section
variable {prog:Pm}{w:World}{A:Around}{E:VSP}{s:Sd}{r l S:Addr}{items:Array Value}
theorem e67 {R:Result->Sd->Prop}(hh:A.handled=none)(hit:s.heap.IsRevIter r l ((items.size:Int)-1))(hl:s.heap.IsList l items)(hlr:l≠r)(hSr:S≠r)(hSl:S≠l) (res:Value) (c₀:Nat)(hS:s.heap.get? S=some { cls:=.type "list", data:=.seq #[] c₀ })
 (hR:∀ h' tk acc' c',(∀ b o,b≠S->b≠r->s.heap.get? b=some o->h'.get? b=some o)->h'.get? S=some { cls:=.type "list", dict:=none,data:=.seq acc' c',slots:=#[] }->ItemsOf (fun i v=>items[items.size-1-i]?=some v) acc' items.size->R (.ok (.ret res)) { s with heap:=h',toks:=tk })(hn:items.size<=zL) :
 wpAny (model prog w) A.in1 (Builtin.List.listExtendWith (.ref S) (.ref r) res)
  (fun fin s'=>match fin with | .done f=>R (.ok f) s' | .again c'=>c'.quiet=true/\codeAny (model prog w) A c' R s') (fun e s'=>R (.error e) s') s:=by
 have hSf:S∉[r,l]:=by simp only[BZ,lN,or_false,not_or];exact⟨hSr,hSl⟩
 have W:=Walks.listRev (prog:=prog) (w:=w) (A:=A.in1) hh r l hlr items;have key:∀(h:Heap) (c₁ tk:Nat),(0<=items.size/\h.IsRevIter r l ((items.size:Int)-1-((0:Nat):Int))/\h.IsList l items)->(∀ b o,b≠S->s.heap.get? b=some o->h.get? b=some o) ->
  h.get? S=some { cls:=.type "list", data:=.seq #[] c₁ }->codeAny (model prog w) A (.builtin "list.extend.loop" ⟨[.ref S,.ref r,res],[]⟩) R { s with heap:=h,toks:=tk }:=by
  intro h c₁ tk hst hk hS₁;refine codeAny_extend_loopS W.toS hn S hSf res items.size 0 _ #[] c₁ rfl (Fx _) hst hS₁ (ItemsOf.nil _) fun s' acc' c' hm hS' hacc=>?_;rw[Moved.eq_with hm];refine hR s'.heap s'.toks acc' c' (fun b o hb hbr e=>hm.heap b o (fun hmem=>?_) (hk b o hb e)) hS' hacc;rcases BZ.mp hmem with e' | hmem
  ·exact hb e'
  ·exact hbr (Ax.mp hmem)
 have e0:(items.size:Int)-1-((0:Nat):Int)=(items.size:Int)-1:=by lia
 have st0:∀ h:Heap,h.IsRevIter r l ((items.size:Int)-1)->h.IsList l items->(0<=items.size/\h.IsRevIter r l ((items.size:Int)-1-((0:Nat):Int))/\h.IsList l items):=fun h a b=>⟨Fx _,by rw[e0];exact a,b⟩;unfold Builtin.List.listExtendWith;refine AQ (DZ (T := "list_reverseiterator") hit.typeIs ?_);have h1:Builtin.List.listSameRef (.ref S) (.ref r)=false:=by simp[Builtin.List.listSameRef,hSr]
 rw[if_neg (by rw[h1];decide)];refine AQ (wpAny_pyIter_revIter hit ?_);refine AQ (wpAny_holding ?_);unfold Builtin.List.listLengthHint;refine AQ (wpAny_specialOf hit.typeIs g17 ?_);show wpAny _ A.in1 (specialOf (Value.ref r) (Str.ofString "__length_hint__") >>= _) _ _ _;refine AQ (wpAny_specialOf hit.typeIs g96 ?_);generalize hid:("list_reverseiterator.__length_hint__" : String)=id0
 (fail_if_success (clear hid id0))
 wp_delta
 rw[show splitId id0=some ("list_reverseiterator", "__length_hint__") from by subst hid;decide +kernel];subst hid;refine AQ (wpAny_isInstance (b:=true) hit.typeIs (by rw[isSubtype_type];kernel_rfl) ?_);refine AX ?_;rw[if_neg (by decide)];exact AX ⟨plainId_quiet PySem.F.plain_extend_loop _,key _ c₀ _ (st0 _ hit hl) (fun b o _ e=>e) hS⟩
theorem g79 {R:Result->Sd->Prop}(hh:A.handled=none)(hit:s.heap.IsRevIter r l ((items.size:Int)-1))(hl:s.heap.IsList l items)(hlr:l≠r)(hSr:S≠r)(hSl:S≠l)(hS:s.heap.get? S=some { cls:=.type "list", data:=.seq #[] })
 (hR:∀ h' tk acc' c',(∀ b o,b≠S->b≠r->s.heap.get? b=some o->h'.get? b=some o)->h'.get? S=some { cls:=.type "list", dict:=none,data:=.seq acc' c',slots:=#[] }->ItemsOf (fun i v=>items[items.size-1-i]?=some v) acc' items.size->R (.ok (.ret .none)) { s with heap:=h',toks:=tk })(hn:items.size<=zL) :
 wpAny (model prog w) A.in1 (Builtin.«list.__init__» ⟨[.ref S,.ref r],[]⟩)
  (fun fin s'=>match fin with | .done f=>R (.ok f) s' | .again c'=>c'.quiet=true/\codeAny (model prog w) A c' R s') (fun e s'=>R (.error e) s') s:=by
 show wpAny _ _ (do let old ← Builtin.List.listItems (.ref S);Builtin.List.listUpdate (.ref S) (fun _=>#[]);letGo old.toList.reverse;Builtin.List.listExtendWith (.ref S) (.ref r) .none) _ _ s
 refine AQ ?_;unfold Builtin.List.listItems;refine AQ (wpAny_seqItems hS rfl (AX ?_));show wpAny _ _ (updateSeq S (fun _=>#[]) >>= fun _=>letGo (#[]:Array Value).toList.reverse >>= fun _=>Builtin.List.listExtendWith (.ref S) (.ref r) .none) _ _ s;refine AQ (wpAny_updateSeq hS rfl ?_);have hS₂:=Heap.get?_update_self (Obj.mapSeq (fun _=>(#[]:Array Value))) hS rfl;have oth:∀ b o,b≠S->s.heap.get? b=some o->(s.heap.update S (Obj.mapSeq (fun _=>(#[]:Array Value)))).get? b=some o :=
  fun b o hb e=>(DJ _ _ (Ne.symm hb)).trans e
 refine AQ (wpAny_letGo ?_);refine e67 hh (hit.at fun o e=>oth _ _ hSr.symm e) (hl.at fun o e=>oth _ _ hSl.symm e) hlr hSr hSl .none _ hS₂ (fun h' tk acc' c' hk hS' hacc=>?_) hn;exact hR h' tk acc' c' (fun b o hb hbr e=>hk b o hb hbr (oth b o hb e)) hS' hacc
theorem g85 {Q:VSP}(hh:A.handled=none)(hit:s.heap.IsRevIter r l ((items.size:Int)-1))(hl:s.heap.IsList l items)(hlr:l≠r)(hn:items.size<=zL)
 (hQ:∀ h' tk acc' c',(∀ b o,b≠r->s.heap.get? b=some o->h'.get? b=some o)->h'.get? s.heap.objs.size=some { cls:=.type "list", dict:=none,data:=.seq acc' c',slots:=#[] }->acc'=items.reverse->Q (.ref s.heap.objs.size) { s with heap:=h',toks:=tk }) :
 wpAny (model prog w) A (call (.type "list") [.ref r]) Q E s:=by
 refine callType_codes (Q₁:=fun obj s₁=>obj=.ref s.heap.objs.size/\s₁={ s with heap:=s.heap.push { cls:=.type "list", data:=.seq #[] } }) PySem.F.called_list (PySem.F.typeCall_list_1 _) PySem.F.entry_list_init
  (code_list_new _ ⟨rfl,rfl⟩) fun obj s₁ h₁=>?_
 obtain⟨rfl,rfl⟩:=h₁;have hS:(s.heap.push { cls:=.type "list", data:=.seq #[] }).get? s.heap.objs.size=some { cls:=.type "list", data:=.seq #[] }:=Dx _ rfl;have lr:r < s.heap.objs.size:=by obtain⟨o,ho,_⟩:=hit;exact DQ ho
 have ll:l < s.heap.objs.size:=by obtain⟨o,ho,_⟩:=hl;exact DQ ho
 refine⟨⟨_,hS,rfl⟩,PySem.F.args_list_init_2 _ _,g79 (A:=A.in1) hh (hit.at fun o e=>Aq _ e) (hl.at fun o e=>Aq _ e) hlr (Nat.ne_of_gt lr) (Nat.ne_of_gt ll) hS (fun h' tk acc' c' hk hS' hacc=>?_) hn⟩;refine⟨rfl,hQ h' tk acc' c' (fun b o hb e=>hk b o (nLQ (DQ e)) hb (Aq _ e)) hS' ?_⟩;refine Array.ext (by rw[hacc.1,Array.size_reverse]) fun j h1 h2=>?_;have this:items[items.size-1-j]?=some acc'[j]:=hacc.2 j acc'[j] (Array.getElem?_eq_getElem h1);have hj:j < items.size:=by rw[← hacc.1];exact h1
 rw[Array.getElem?_eq_getElem (by omega)] at this;rw[Array.getElem_reverse];exact(Ez this).symm
end
section
variable {X:Cx}
theorem e84 {e:Expr}{te:TE}{p p2 p3 pos:Pos}(hc:X.calm=true)(hg1:Gl X "list")(hm1:X.mg "list" = none)(hg2:Gl X "reversed")(hm2:X.mg "reversed" = none)(hv1:bootBuiltins "list" = some (.type "list"))(hv2:bootBuiltins "reversed" = some (.type "reversed"))(he:PE X e te)
 (hs1:starEach [.Call (.Name "reversed" p2) [e] [] p3] X.env=(false,eval (.Call (.Name "reversed" p2) [e] [] p3) X.env)::starEach [] X.env:=by rfl)
 (hs2:starEach [e] X.env=(false,eval e X.env)::starEach [] X.env:=by rfl)(hp1:(backTo pos (starEach [] X.env)).any (·.1)=false:=by rfl)(hp2:(backTo p3 (starEach [] X.env)).any (·.1)=false:=by rfl) :
 PE X (.Call (.Name "list" p) [.Call (.Name "reversed" p2) [e] [] p3] [] pos) (fun σ H Q=>te σ H fun v H1=>∃ l xs,v=.ref l/\SqL X.K H1 l xs/\∀ n,H1 n=none->Q (.ref n) (upd H1 n (.lst xs.reverse))):=by
 try constructor
 intro pins s σ H Q I h;refine wpAny_Call_Name_kw (c17 I hg1 hm1 hv1 ?_ (by decide) (by decide));refine PyProof.Rows.callWith_type1 ?_ hs1 hp1;rw[hs1];show wpAny _ _ (spliced ((false,eval (.Call (.Name "reversed" p2) [e] [] p3) X.env)::backTo pos (starEach [] X.env))) _ _ s;refine Calls.spliced_cons ?_;refine wpAny_Call_Name_kw (c17 I hg2 hm2 hv2 ?_ (by decide) (by decide));refine PyProof.Rows.callWith_type1 ?_ hs2 hp2;rw[hs2];show wpAny _ _ (spliced ((false,eval e X.env)::backTo p3 (starEach [] X.env))) _ _ s;refine Calls.spliced_cons (thn (he.run pins s σ H _ I h) fun u s1 ⟨v,H1,I1,r1,l,xs,ev,hl,q⟩=>Calls.spliced_nil ?_);subst ev;cases (show u=Value.ref l from r1);obtain⟨its,r',pl,hz⟩:=I1.list hl;have hlen:=r'.length;refine call_reversed_list pl.isList ?_;refine Calls.spliced_nil ?_;have hli:s1.heap.IsList l its.toArray:=pl.isList;have hlt:l < s1.heap.objs.size:=by obtain⟨o,ho,_⟩:=hli;exact DQ ho
 refine g85 (items:=its.toArray) (l:=l) (I1.ok.hd hc) ⟨_,Dx _ rfl,rfl,rfl⟩ (hli.at fun o e=>Aq _ e) (nLQ hlt) (by simp only[lS];lia) fun h' tk acc' c' kp hS ea=>?_;have kp1:∀ b o,s1.heap.get? b=some o->h'.get? b=some o:=fun b o e=>kp b o (nLQ (DQ e)) (Aq _ e);have hge:s1.heap.objs.size<=(s1.heap.push (revObj l ((its.toArray.size:Int)-1))).objs.size:=by rw[Heap.size_push];lia
 have rv:Vals xs.reverse its.reverse:=Vals.reverse r';have I2:Inv X pins σ (upd H1 (s1.heap.push (revObj l ((its.toArray.size:Int)-1))).objs.size (.lst xs.reverse)) { s1 with heap:=h',toks:=tk } :=
  I1.laid (t':=tk) kp1 hge (show ObjOk X.prog X.w _ _ _ (.lst xs.reverse) from⟨by rw[List.length_reverse];lia,its.reverse,c',rv,by rw[hS,ea];simp⟩)
 exact⟨.ref _,_,I2,rfl,q _ (I1.hok.fresh hge)⟩
end
section
variable {X:Cx}
open Classical in
end
section
variable {X:Cx}{elt iter:Expr}{x:Str}{px pos:Pos}{scope:Scope}{wi:TI}{te:TE}
theorem c76 {osc:Scope}{oN ops:List Str}{ifs:List Expr}{tt:TT}(SC:FnScope oN ops osc)(S:b04 osc oN scope x)(hx:x∉oN)
 (hi:PI X (.Name x px) iter wi)(ht:∀ C fp s H,PTs (a48 X scope (X.N++[x]) C fp s H) ifs tt)
 (he:∀ C fp s H,PE (a48 X scope (X.N++[x]) C fp s H) elt te)(hc:X.calm=true:=by rfl)(e1:X.env.scope=osc:=by rfl)(e2:X.N=oN:=by rfl)(hs:∀ v,foldedSetIterable iter X.env v=pure v:=by intro _;rfl) :
 PE X (.ListComp elt [⟨.Name x px,iter,ifs,0⟩] scope pos) (c12 wi (fun σ=>σ++[none]) (b65 X.N.length) tt te):=by
 have hx':x∉X.N:=by rw[e2];exact hx
 have hnd:X.N.Nodup:=by rw[e2];exact SC.nd
 have hN:(X.N++[x]).Nodup:=by
  rw[List.nodup_append];refine⟨hnd,by simp,fun a ha b hb=>?_⟩;simp at hb;subst hb;exact fun e=>hx' (e ▸ ha)
 refine c31 (up:=fun σ=>σ++[none]) (by rw[e1,e2];exact S) hc (d62 hx') hi (fun C fp s H=>?_) ?_ ht he hs
 ·exact a75 hN (by show(X.N++[x])[X.N.length]?=_;simp) (.inl (lookup_relabel_local S.loc)) (.inr (lookup_relabel_local S.loc))
 ·rintro v σ H Q hl q;refine⟨⟨by rw[List.length_set],fun j u hj=>?_⟩,q⟩;have hlt:j < X.N.length:=by
   rw[← hl];by_cases hi:j < σ.length
   ·exact hi
   ·rw[lA (by lia)] at hj;generalize j-σ.length=i at hj
    match i,hj with
    | 0,h2=>cases h2
    | i+1,h2=>cases h2
  show((σ++[none]).set X.N.length (some v))[j]?=_
  rw[lE (by lia)];exact hj
end
theorem c04 {K:WFr}{a:Addr}{xs:List V}{et:V->Hp->(List V->Hp->Prop)->List V->Prop}{H:Hp}{fin:Addr->List V->Hp->Prop} (Pv:Nat->List V->Hp->Prop)(hn:xs.length<=zL)(h0:Pv 0 [] H)(hl:∀ i ys H,Pv i ys H->ys.length<=i)
 (hq:∀ i ys H,i<=xs.length->Pv i ys H->SqL K H a xs)
 (hs:∀(i:Nat) ys H v,xs[i]?=some v->Pv i ys H->et v H (fun zs H3=>Pv (i+1) zs H3) ys)(hd:∀ ys H,Pv xs.length ys H->∀ D,H D=none->fin D ys H) :
 ∃ W:Nat->Nat->List V->Hp->Prop,(∃ m,W 0 m [] H)/\∀ i m ys H,W i m ys H ->
  ((Itl K a).stop i H/\∀ D,H D=none->fin D ys H) ∨
  ((Itl K a).go i H/\ys.length < zL/\∃ Nx:List V->Hp->Prop,(∀ zs H3,Nx zs H3->∃ m',m' < m/\W (i+1) m' zs H3)/\∀ x H',(Itl K a).yld i H x H'->et x H' Nx ys):=by
 refine⟨fun i m ys H=>m=xs.length-i/\i<=xs.length/\Pv i ys H,⟨xs.length,by simp,Fx _,h0⟩,?_⟩;rintro i m ys H ⟨rfl,hi,p⟩;have q:=hq i ys H hi p;by_cases hlt:i < xs.length
 ·refine .inr ⟨⟨xs,xs[i],q,by simp[hlt]⟩,by have:=hl i ys H p;lia,_,fun y H3 q=>⟨xs.length-(i+1),by lia,rfl,hlt,q⟩,fun x H' yl=>?_⟩;obtain⟨e,yl⟩:=yl;subst e;exact hs i ys _ x (yl xs q) p
 ·have e:i=xs.length:=by lia
  subst e;exact .inl ⟨⟨xs,q,AZ _⟩,hd ys H p⟩
end L2
namespace L2
open PySem PySem.Spec PyProof.Rows
def FlyA (h:Heap)(e C:Addr)(dd:Option Addr)(T:Addr) (fl:Value):Prop :=
 ∃ oe vs oT ts,h.get? e=some oe/\oe.cls=.ref C/\oe.dict=dd/\oe.data=.fields vs/\vs[1]?=some (.ref T)/\T≠e/\h.get? T=some oT/\oT.data=.fields ts/\ts[3]?=some fl
def Fly0 (h:Heap)(e C:Addr)(dd:Option Addr):Prop:=∃ oe vs,h.get? e=some oe/\oe.cls=.ref C/\oe.dict=dd/\oe.data=.fields vs/\vs[1]?=some .none
structure Kpt (fs S:List Addr)(h h':Heap):Prop where
 keep:∀ b o,b∉fs->b∉S->h.get? b=some o->h'.get? b=some o
 slot:∀ b o,b∉S->h.get? b=some o->∃ sl,h'.get? b=some { o with slots:=sl }
theorem Kpt.trans {fs S:List Addr}{h h1 h2:Heap}(a:Kpt fs S h h1)(b:Kpt fs S h1 h2):Kpt fs S h h2 :=
 ⟨fun c o n m e=>b.keep c o n m (a.keep c o n m e),fun c o m e=>by
  obtain⟨sl,e1⟩:=a.slot c o m e;obtain⟨sl2,e2⟩:=b.slot c _ m e1;exact⟨sl2,e2⟩⟩
theorem Kpt.mono {fs fs' S S':List Addr}{h h1:Heap}(a:Kpt fs S h h1)(hf:∀ b∈fs,b∈fs')(hS:∀ b∈S,b∈S'):Kpt fs' S' h h1 :=
 ⟨fun c o n m e=>a.keep c o (fun q=>n (hf c q)) (fun q=>m (hS c q)) e,fun c o m e=>a.slot c o (fun q=>m (hS c q)) e⟩
section
variable {M:Model}{A:Around}{E:VSP}{s:Sd}{base:Heap}{env:Env}{outer:List Env}{L e C T:Addr}{dd:Option Addr}
theorem d32 {oe:Obj}{vs:Array Value}{head:Value}{hadNext:Bool}{Q:Unit->Sd->Prop}(hfr:A.frames=some (env::outer))(hl:s.heap.FunFrames base (env::outer))(hf:env.frame=some L)
 (he:s.heap.get? e=some oe)(hd:oe.data=.fields vs)(hsz:1 < vs.size)
 (h:∀ h' T',s.heap.objs.size<=T'->Kpt (frs (env::outer)) [e] s.heap h'->FlyA h' e C dd T' (rawInt L)->Q () { s with heap:=h' })(hc:oe.cls=.ref C)(hdd:oe.dict=dd) :
 wpAny M A (do
  let a ← frameOf env
  let pl ← entryPlaceOf L hadNext
  let b ← EntryCells.newEntry head a .none (rawInt L) .none pl
  setField (.ref e) 1 b) Q E s:=by
 have nf:e∉frs (env::outer):=fun z=>by
  obtain⟨_,o,ho,hn⟩:=hl.mem z;rw[he] at ho;cases ho;exact hn vs hd
 refine AQ (wpAny_frameOf_fun hfr hl hf fun h1 S1=>AQ (wpAny_entryPlaceOf fun pl hpl=>?_));unfold EntryCells.newEntry newFields;refine AQ (EZ ?_ (hpl.sizeOk5 _ _ _ _ _));have e1:h1.get? e=some oe:=(S1.2.1 e nf).trans he;generalize hO:({ cls:=.type "traceback", dict:=none,data:=.fields ([head,.ref L,.none,rawInt L,.none]++(if pl.isEmpty then List.replicate 6 Value.none else pl)).toArray }:Obj)=oT;have e2:(h1.push oT).get? e=some oe:=Aq _ e1;refine wpAny_setField e2 hd hsz (h _ h1.objs.size ?_ ⟨?_,?_⟩ ?_)
 ·rw[S1.1];exact AZ _
 ·intro b o n m q;rw[DJ _ _ (Ne.symm (by simpa using m))];exact Aq _ ((S1.2.1 b n).trans q)
 ·intro b o m q;obtain⟨sl,q1⟩:=S1.2.2 b o q;refine⟨sl,?_⟩;rw[DJ _ _ (Ne.symm (by simpa using m))];exact Aq _ q1
 ·have hTe:h1.objs.size≠e:=Nat.ne_of_gt (DQ e1);have d3:=Obj.data_mapFields hd (·.setIfInBounds 1 (Value.ref h1.objs.size));have e3:=Heap.get?_update_self (Obj.mapFields (·.setIfInBounds 1 (Value.ref h1.objs.size))) e2 (Obj.isFreed_of_fields d3);have hT:oT.data=.fields ([head,.ref L,.none,rawInt L,.none]++(if pl.isEmpty then List.replicate 6 Value.none else pl)).toArray:=by rw[← hO]
  refine⟨_,_,oT,_,e3,(Obj.cls_mapFields _ _).trans hc,?_,d3,by simp[hsz],hTe,?_,hT,by simp⟩
  ·rw[← hdd];unfold Obj.mapFields;split <;> rfl
  ·rw[DJ _ _ (Ne.symm hTe),Dx _ (by rw[← hO];rfl)]
theorem e79 {Q:Unit->Sd->Prop}(hfr:A.frames=some (env::outer))(hl:s.heap.FunFrames base (env::outer))(hf:env.frame=some L)(x:Fly0 s.heap e C dd)
 (h:∀ h' T',s.heap.objs.size<=T'->Kpt (frs (env::outer)) [e] s.heap h'->FlyA h' e C dd T' (rawInt L)->Q () { s with heap:=h' }):wpAny M A (noteFrame (.ref e) env) Q E s:=by
 obtain⟨oe,vs,he,hc,hdd,hd,h1⟩:=x;unfold noteFrame;simp only[hf];refine AQ (wpAny_field he hd h1 ?_);rw[if_neg (by decide)];exact d32 hfr hl hf he hd (Array.getElem?_eq_some_iff.mp h1).1 h hc hdd
theorem f95 {Q:Unit->Sd->Prop}(hfr:A.frames=some (env::outer))(hl:s.heap.FunFrames base (env::outer))(hf:env.frame=some L)(x:FlyA s.heap e C dd T .none)
 (h:∀ h' T',s.heap.objs.size<=T'->Kpt (frs (env::outer)) [e,T] s.heap h'->FlyA h' e C dd T' (rawInt L)->Q () { s with heap:=h' }):wpAny M A (noteFrame (.ref e) env) Q E s:=by
 obtain⟨oe,vs,oT,ts,he,hc,hdd,hd,h1,hTe,hT,hdT,h3⟩:=x;unfold noteFrame;simp only[hf];refine AQ (wpAny_field he hd h1 ?_);rw[if_pos (show(Value.ref T != Value.none)=true by simp)];refine AQ (wpAny_field hT hdT h3 ?_);rw[if_neg (show ¬((Value.none == rawInt L)=true) by simp[rawInt])];refine AQ (wpAny_setField hT hdT (Array.getElem?_eq_some_iff.mp h3).1 ?_);have oth:∀ b,b≠T->(s.heap.update T (Obj.mapFields (·.setIfInBounds 3 Value.none))).get? b=s.heap.get? b:=fun b hb=>DJ _ _ (Ne.symm hb);have hl':(s.heap.update T (Obj.mapFields (·.setIfInBounds 3 Value.none))).FunFrames base (env::outer):=hl.of_keeps fun b o hb hn=>⟨o,(oth b fun q=>by rw[q,hT] at hb;cases hb;exact hn ts hdT).trans hb,rfl⟩;refine d32 (s:={ s with heap:=s.heap.update T (Obj.mapFields (·.setIfInBounds 3 Value.none)) }) hfr hl' hf ((oth e (Ne.symm hTe)).trans he) hd (Array.getElem?_eq_some_iff.mp h1).1 (fun h' T' hT' k f=>h h' T' ?_ ⟨fun b o n m q=>?_,fun b o m q=>?_⟩ f) hc hdd
 ·have:(s.heap.update T (Obj.mapFields (·.setIfInBounds 3 Value.none))).objs.size=s.heap.objs.size:=Heap.size_update ..
  rw[← this];exact hT'
 ·simp only[BZ,lN,or_false,not_or] at m;exact k.keep b o n (by simpa using m.1) ((oth b m.2).trans q)
 ·simp only[BZ,lN,or_false,not_or] at m;exact k.slot b o (by simpa using m.1) ((oth b m.2).trans q)
theorem b63 {fl:Value}{Q:Unit->Sd->Prop}(x:FlyA s.heap e C dd T fl)(h:∀ h',Kpt [] [T] s.heap h'->FlyA h' e C dd T .none->Q () { s with heap:=h' }):wpAny M A (setFlight (.ref e) none) Q E s:=by
 obtain⟨oe,vs,oT,ts,he,hc,hdd,hd,h1,hTe,hT,hdT,h3⟩:=x;have hsz:3 < ts.size:=(Array.getElem?_eq_some_iff.mp h3).1;unfold setFlight;refine AQ (wpAny_field he hd h1 ?_);rw[if_pos (show(Value.ref T != Value.none)=true by simp)];have oth:∀ b,b≠T->(s.heap.update T (Obj.mapFields (·.setIfInBounds 3 ((none:Option Addr).elim Value.none fun f=>rawInt f)))).get? b=s.heap.get? b:=fun b hb=>DJ _ _ (Ne.symm hb);refine wpAny_setField hT hdT hsz (h _ ⟨fun b o _ m q=>(oth b (by simpa using m)).trans q,fun b o m q=>⟨o.slots,(oth b (by simpa using m)).trans q⟩⟩ ?_);exact⟨oe,vs,_,_,(oth e (Ne.symm hTe)).trans he,hc,hdd,hd,h1,hTe,Heap.get?_update_self _ hT (Obj.isFreed_of_fields (Obj.data_mapFields hdT _)),Obj.data_mapFields hdT _,by simp[hsz]⟩
theorem d66 {Q:Unit->Sd->Prop}(hfr:A.frames=some (env::outer))(hl:s.heap.FunFrames base (env::outer))(hf:env.frame=some L)(x:Fly0 s.heap e C dd)
 (h:∀ h' T',s.heap.objs.size<=T'->Kpt (frs (env::outer)) [e] s.heap h'->FlyA h' e C dd T' .none->Q () { s with heap:=h' }):wpAny M A (leaving env (.ref e)) Q E s:=by
 unfold leaving;refine AQ (e79 hfr hl hf x fun h1 T1 n1 k1 f1=>b63 f1 fun h2 k2 f2=>h h2 T1 n1 ⟨fun b o n m q=>?_,fun b o m q=>?_⟩ f2)
 ·exact k2.keep b o (by simp) (by simpa using nLQ (nTQ (DQ q) n1)) (k1.keep b o n m q)
 ·obtain⟨sl,q1⟩:=k1.slot b o m q;exact⟨sl,k2.keep b _ (by simp) (by simpa using nLQ (nTQ (DQ q) n1)) q1⟩
end
def i19 (e C:Addr)(dd:Option Addr)(h:Heap):Prop:=∃ oe vs,h.get? e=some oe/\oe.cls=.ref C/\oe.dict=dd/\oe.data=.fields vs
def f67 (e C:Addr)(dd:Option Addr):HO:=.ext (i19 e C dd)
theorem f44 {P:Pm}{w:World}{H:Hp}{h:Heap}{e C:Addr}{dd:Option Addr}(x:i19 e C dd h):ObjOk P w H h e (f67 e C dd) :=
 ⟨x,let ⟨_,_,q,_⟩:=x;⟨_,q⟩,fun _ _ ⟨oe,vs,q,r⟩ k=>⟨oe,vs,k _ q,r⟩⟩
theorem g21 {P:Pm}{w:World}{H:Hp}{h:Heap}{e C:Addr}{dd:Option Addr}(ok:HOk P w H h)(x:H e=some (f67 e C dd)):i19 e C dd h:=(ok e _ x).1
theorem FlyA.g {h:Heap}{e C T:Addr}{dd:Option Addr}{fl:Value}(x:FlyA h e C dd T fl):i19 e C dd h:=by
 obtain⟨oe,vs,_,_,he,hc,hdd,hd,_⟩:=x;exact⟨oe,vs,he,hc,hdd,hd⟩
def CXE (P:Pm)(w:World):CXT:=fun outer H s E v s'=>∃(a C T:Addr)(dd:Option Addr)(H':Hp),v=.ref a/\s'.os=s.os/\AllBare s'.gens/\Un (frs outer) [] H H' s.heap s'.heap/\HOk P w H' s'.heap /\
 FlyA s'.heap a C dd T .none/\H' a=some (f67 a C dd)/\H' T=none/\s.heap.get? a=none/\s.heap.objs.size<=T/\E (.ref C) (some a) H'
section
variable {M:Model}{A:Around}{E:VSP}{s:Sd}{env:Env}
def MadeX (E:VSP) (v:Value)(s1:Sd):Prop:=∃ e t dx C fI,v=.ref e/\XO s1.heap C fI/\s1.heap.get? e=some { cls:=.ref C,dict:=dx,data:=.fields #[.ref t,.none,.none,.none,.bool false,.none] }/\E (.ref e) s1
theorem e65 {x:Sem Value}{Q:Flow->Sd->Prop}(hh:A.handled=none)(h:wpAny M A x (MadeX E) E s):wpAny M A (raiseStmt env (some x) none) Q E s:=by
 unfold raiseStmt;refine AQ (thn h fun v s1 z=>?_);obtain⟨e,t,dx,C,fI,rfl,⟨bm,N,nm,qn,bs,hd,sn,sub,ab,col,dd,k0,k1,k2,k3,k5,mN,hC,hN,hi,ot⟩,he,hE⟩:=z;have hb:bm.contains (.type "BaseException")=true:=ot.hasType (X := "BaseException") (b:=true) (by decide +kernel);have hB:(Value.ref C::bm).contains (.type "BaseException")=true:=by rw[List.contains_cons,hb,Bool.or_true]
 obtain⟨hp,g,d,tk,os⟩:=s1
 repeat (first
  | wp_step
  | with_reducible refine wpAny_loadPart_at hC ?_
  | with_reducible refine wpAny_loadPart_at he ?_
  | (with_reducible refine wpAny_isSubtype_exc hC ?_
     rw[hB]))
 exact wpAny_raiseNew_none hh hE
end
section
variable {X:Cx}
def h91 (X:Cx)(a:Addr)(H:Hp):Prop:=∀(pins:LAO)(σ:St)(s:Sd),Inv X pins σ H s->X.xe (.ref a) s
theorem e23 {e:Expr}{te:TE}{pos:Pos}(hc:X.calm=true)(he:PE X e te):PS X (.Raise (some e) none pos) (fun D σ H=>te σ H fun v H1=>∃ a C dd fI,v=.ref a/\H1 a=some (d58 a C dd)/\b69 X.K C fI=true/\h91 X a H1):=by
 try constructor
 intro pins s σ H D I h;show wpAny _ _ (do
  standAt pos
  raiseStmt X.env (some (do
   let v ← eval e X.env
   standAt pos
   pure v)) none) _ _ s
 refine AQ (wpAny_standAt (e65 (I.ok.hd hc) (AQ (thn (he.run pins s σ H _ I h) fun u s1 ⟨v,H1,I1,r1,a,C,dd,fI,ev,ha,hx,hw⟩=>AQ (wpAny_standAt (AX ?_))))));subst ev;cases (show u=Value.ref a from r1);obtain⟨t,ht⟩:=e37 I1.hok ha;exact⟨a,t,dd,C,fI,rfl,f91 I1.kIn hx,ht,hw pins σ s1 I1⟩
end
section
variable {P:Pm}{w:World}{K:WFr}{mg:Str->Option Value}{base:Heap}{N:List Str}{qual:Str}{scope:Scope}{f:Addr}{cdv:Value}{A:Around}{outer:List Env}{s:Sd}{H:Hp}{E:XK}
theorem h24 {l:List Env}{n:Nat}{c:Value}:frs (envOfC qual scope n f c::l)=n::frs l:=rfl
theorem g46 {a C:Addr}{dd:Option Addr}{H1:Hp}(h0:H a=none)(h1:H1 a=some (d58 a C dd))(hE:E (.ref C) (some a) (upd H1 a (f67 a C dd))):h91 (e16 (CXE P w) P w K mg base N qual scope f cdv A outer s H E) a H1:=by
 intro pins σ s1 I;have hb:=I.base;have a0:s.heap.get? a=none:=by
  cases q:s.heap.get? a with
  | none=>rfl
  | some o=>exact absurd (hb.free a o q h0 (by simp[e16])) (by rw[h1];exact fun z=>nomatch z)
 obtain⟨t,ht⟩:=e37 I.hok h1;have st:=I.stack;refine d66 (base:=base) I.ok.frames st rfl ⟨_,_,ht,rfl,rfl,rfl,rfl⟩ fun h' T nT k fl=>?_;have T0:s.heap.objs.size<=T:=Fz I.sz nT;have hTa:T≠a:=fun z=>absurd (DQ ht) (by rw[← z];exact Nat.not_lt.mpr nT);have fs0:∀ b o,s.heap.get? b=some o->b≠s.heap.objs.size:=fun b o q=>nLQ (DQ q);have nea:∀ b o,s.heap.get? b=some o->b∉[a]:=fun b o q z=>by rw[Ax.mp z,a0] at q;cases q
 have nH:∀ {b:Addr}{u:HO},H1 b=some u->b∉frs (envOfC qual scope s.heap.objs.size f cdv::outer):=fun {b u} q z=>by rw[I.stkFree b z] at q;cases q
 refine⟨a,C,T,dd,upd H1 a (f67 a C dd),rfl,I.os,I.bare,⟨fun b o q n hf hx=>?_,fun b o q n hf hx=>?_,fun b o q n hx=>?_,fun b o q hx=>?_,fun b xs q=>?_,fun b o u q=>?_,fun b ps q=>?_⟩,fun b u q=>?_,fl,a01,?_,a0,T0,hE⟩
 ·refine k.keep b o ?_ (nea b o q) (hb.keep b o q n hf (by simp[e16]));rw[h24,BZ,not_or];exact⟨fs0 b o q,hf⟩
 ·obtain⟨sl,q1⟩:=hb.slot b o q n hf (by simp[e16]);obtain⟨sl2,q2⟩:=k.slot b _ (nea b o q) q1;exact⟨sl2,q2⟩
 ·rw[a07 (by simpa using nea b o q)];exact hb.free b o q n (by simp[e16])
 ·obtain⟨o',q1⟩:=hb.there b o q (by simp[e16]);obtain⟨sl,q2⟩:=k.slot b o' (nea b o q) q1;exact⟨_,q2⟩
 ·have q1:=hb.tups b xs q;rw[a07 (fun z=>by rw[z,h1] at q1;cases q1)];exact q1
 ·have q1:=hb.frzs b o u q;rw[a07 (fun z=>by rw[z,h1] at q1;cases q1)];exact q1
 ·obtain⟨more,q1⟩:=hb.tbls b ps q;exact⟨more,by rw[a07 (fun z=>by rw[z,h1] at q1;cases q1)];exact q1⟩
 ·by_cases z:b=a
  ·subst z;rw[a01] at q;cases q;exact f44 fl.g
  ·rw[a07 z] at q;refine(I.hok b u q).stay (fun c v hc r=>k.keep c v ?_ ?_ r) (fun c r=>?_) fun c xs r=>?_
   ·rcases hc with rfl | hc
    ·exact nH q
    ·exact nH hc
   ·rcases hc with rfl | hc
    ·simpa using z
    ·exact fun y=>by rw[Ax.mp y,h1] at hc;cases hc
   ·rw[a07 (fun y=>by rw[y,h1] at r;cases r)];exact r
   ·rw[a07 (fun y=>by rw[y,h1] at r;cases r)];exact r
 ·rw[a07 hTa];exact I.hok.fresh nT
end
end L2
namespace L2
open PySem PySem.Spec PyProof.Rows
def subIn (K:WFr)(C B:Addr):Bool:=match K.lookup C with
 | some ⟨_,_,.cls cd,_⟩=>cd.mro.contains (.ref B)
 | _=>false
theorem i37 {K:WFr}{h:Heap}{C B N:Addr}{nm qn:Str}{bs bm:List Value}{hd:Bool}{sn:List Str}{sub:List Value}{ab:Bool}{col:Option Bool}{dd:Option Addr}{k0 k1 k2 k3 k5:Option Value}{nid:String}(X:K.In h)
 (hC:h.get? C=some (excClassObj nm qn C N bs bm hd sn sub ab col dd k0 k1 k2 k3 k5 nid))(q:subIn K C B=true):(Value.ref C::bm).contains (.ref B)=true:=by
 unfold subIn at q;split at q
 ·rename_i ho;have e:=X _ _ ho;rw[hC] at e;have e2:=congrArg Obj.data (Ez e);simp only[excClassObj] at e2;injection e2 with e2
  rw[← e2] at q;exact q
 ·cases q
section
variable {M:Model}{A:Around}{E:VSP}{s:Sd}
theorem f94 {K:WFr}{e C B:Addr}{oe:Obj}{fI fB:Option Addr}{Q:Bool->Sd->Prop}(X:K.In s.heap)(hC:b69 K C fI=true)(hB:b69 K B fB=true)(hs:subIn K C B=true)(he:s.heap.get? e=some oe)(hc:oe.cls=.ref C)(hq:Q true s):wpAny M A (excMatches (.ref e) (.ref B)) Q E s:=by
 obtain⟨bm,N,nm,qn,bs,hd,sn,sub,ab,col,dd,k0,k1,k2,k3,k5,mN,hCo,hN,hi,ot⟩:=f91 X hC;obtain⟨bm',N',nm',qn',bs',hd',sn',sub',ab',col',dd',l0,l1,l2,l3,l5,mN',hBo,hN',hi',ot'⟩:=f91 X hB;have hb:bm'.contains (.type "BaseException")=true:=ot'.hasType (X := "BaseException") (b:=true) (by decide +kernel);have hcB:(Value.ref B::bm').contains (.type "BaseException")=true:=by rw[List.contains_cons,hb,Bool.or_true]
 have hsub:=i37 X hCo hs;have f:=tc_notTuple;obtain⟨cls,dct,dat,sl⟩:=oe;simp only at hc;subst hc;obtain⟨hp,g,d,tk,os⟩:=s;unfold excMatches
 repeat (first
  | wp_step
  | with_reducible refine wpAny_loadPart_at hBo ?_
  | with_reducible refine wpAny_loadPart_at he ?_
  | (with_reducible refine wpAny_isSubtype_exc hBo ?_
     rw[hcB])
  | (with_reducible refine wpAny_isSubtype_exc hCo ?_
     rw[hsub]))
 exact hq
end
theorem i35 {fs S:List Addr}{H H':Hp}{h h1 h2:Heap}(u:Un fs [] H H' h h1)(k:Kpt fs S h1 h2)(hS:∀ b∈S,h.get? b=none):Un fs [] H H' h h2:=by
 have no:∀ b o,h.get? b=some o->b∉S:=fun b o q z=>by rw[hS b z] at q;cases q
 refine⟨fun b o q n hf hx=>k.keep b o hf (no b o q) (u.keep b o q n hf hx),fun b o q n hf hx=>?_,u.free,fun b o q hx=>?_,u.tups,u.frzs,u.tbls⟩
 ·obtain⟨sl,e⟩:=u.slot b o q n hf hx;obtain⟨sl2,e2⟩:=k.slot b _ (no b o q) e;exact⟨sl2,e2⟩
 ·obtain⟨o',e⟩:=u.there b o q hx;obtain⟨sl,e2⟩:=k.slot b o' (no b o q) e;exact⟨_,e2⟩
theorem i10 {P:Pm}{w:World}{fs S:List Addr}{H':Hp}{h1 h2:Heap}{a C:Addr}{dd:Option Addr}(ok:HOk P w H' h1)(k:Kpt fs S h1 h2)(hf:∀ b∈fs,H' b=none)(hS:∀ b∈S,b=a∨H' b=none)(ha:H' a=some (f67 a C dd))(g:i19 a C dd h2):HOk P w H' h2:=fun b u q=>by
 by_cases z:b=a
 ·subst z;rw[ha] at q;cases q;exact f44 g
 ·refine(ok b u q).stay (fun c v hc r=>k.keep c v ?_ ?_ r) (fun _ r=>r) fun _ _ r=>r
  ·intro y;have e:=hf c y;rcases hc with rfl | hc
   ·rw[e] at q;cases q
   ·rw[e] at hc;cases hc
  ·intro y;rcases hS c y with e | e
   ·subst e;rcases hc with hc | hc
    ·exact z hc.symm
    ·rw[ha] at hc;cases hc
   ·rcases hc with rfl | hc
    ·rw[e] at q;cases q
    ·rw[e] at hc;cases hc
abbrev Cx.within (X:Cx)(a:Addr):Cx:={ X with A:=X.A.mark (some (.ref a)),calm:=false,xe:=fun _ _=>False }
section
variable {X:Cx}{pins:LAO}{σ:St}{H:Hp}{s:Sd}{a:Addr}
theorem Inv.within (I:Inv X pins σ H s)(a:Addr):Inv (X.within a) pins σ H s :=
 ⟨⟨I.ok.mod,I.ok.kind,I.ok.glob,I.ok.blt,I.ok.above,I.ok.inj,I.ok.has,I.ok.cab,(fun q=>nomatch q),I.ok.frames,I.ok.stk,I.ok.exf,I.ok.bs,I.ok.bsz,I.ok.noex,I.ok.exfs,I.ok.funs,I.ok.frf⟩,I.os,I.bare,I.base,I.loc,I.cell,I.free,I.freeC,I.pin,I.hok,I.len⟩
theorem Inv.back (ok:X.Ok)(I:Inv (X.within a) pins σ H s):Inv X pins σ H s:=⟨ok,I.os,I.bare,I.base,I.loc,I.cell,I.free,I.freeC,I.pin,I.hok,I.len⟩
theorem b79 {M:Model}{A:Around}{E:VSP}{n:Str}{j:Nat}{pos:Pos}{Q:Unit->Sd->Prop}(I:Inv X pins σ H s)(hN:X.N.Nodup)(hj:X.N[j]?=some n)(hl:X.env.scope.names.lookup n=some .local)
 (h:∀ s',Inv X pins (σ.set j none) H s'->Q () s'):wpAny M A (do bindName X.env n .none;unbindBehindTheSuite X.env n pos) Q E s:=by
 obtain⟨m,hn,hv⟩:=id I.loc;have hcl:(X.env.scope.kind == .class||(X.env.scope.kind == .module && X.env.locals != X.env.globals))=false:=by rw[I.ok.kind];rfl
 refine wpAny_nameGoes_keeps hl hn hcl fun h' v hn' hs=>h _ ?_;have lo:∀ b o,X.s₀.heap.get? b=some o->b≠X.env.locals:=fun b o e=>nLQ (nTQ (DQ e) I.ok.above);refine⟨I.ok,I.os,I.bare,⟨fun b o e n hb hx=>(hs.2 b (lo b o e)).trans (I.base.keep b o e n hb hx),fun b o e n hb hx=>?_,I.base.free,fun b o e hx=>?_,I.base.tups,I.base.frzs,I.base.tbls⟩,⟨_,hn',fun i y v' e1 e2 e3=>?_⟩,fun y c e=>?_,I.free,I.freeC,fun p hp=>?_,fun b u e=>?_,by rw[List.length_set];exact I.len⟩
 ·obtain⟨sl,e1⟩:=I.base.slot b o e n hb hx;exact⟨sl,(hs.2 b (lo b o e)).trans e1⟩
 ·obtain⟨o',e1⟩:=I.base.there b o e hx;exact⟨o',(hs.2 b (lo b o e)).trans e1⟩
 ·have hij:i≠j:=fun z=>by
   subst z;have hlt:i < σ.length:=by rw[I.len];exact(Ej.mp e1).1
   rw[List.getElem?_set_self hlt] at e2;cases e2
  rw[lE (Ne.symm hij)] at e2;obtain⟨u,r,l⟩:=hv i y v' e1 e2 e3;refine⟨u,r,?_⟩;rcases l with⟨k,e⟩ | ⟨k,c,e,z⟩
  ·refine .inl ⟨k,?_⟩
   have:y≠n:=fun z=>hij (b76 hN e1 (z ▸ hj))
   simp[this,e]
  ·exact .inr ⟨k,c,e,z.sameBut hs (I.cne y c e)⟩
 ·obtain⟨v',z⟩:=I.cell y c e;exact⟨v',z.sameBut hs (I.cne y c e)⟩
 ·obtain⟨e,n,ne,nf,d⟩:=I.pin p hp;exact⟨(hs.2 p.1 ne).trans e,n,ne,nf,d⟩
 ·refine(I.hok b u e).stay (fun c w' hc q=>(hs.2 c ?_).trans q) (fun _ q=>q) fun _ _ q=>q;rintro rfl;have f:=I.free;rcases hc with rfl | hc
  ·rw[f] at e;cases e
  ·rw[f] at hc;cases hc
end
structure DefE (P:Pm)(w:World)(K:WFr) (mg:Str->Option Value)(base:Heap) (k:Nat) (x:Str) (ps:List Str)(sp:Sp):Prop where
 ex:∃ f fd,FnOk P w K mg base (CXE P w) k f fd ps sp/\mg x=some (.ref f)/\PySem.W.keepIn K (.ref f)=true/\Binds K fd ps []
def h30 (D:Ends) (j:Nat):Ends:={ nx:=fun σ H=>D.nx (σ.set j none) H,rt:=D.rt,bk:=fun σ H=>D.bk (σ.set j none) H,ct:=fun σ H=>D.ct (σ.set j none) H }
section
variable {X:Cx}{k i j:Nat}{y n cl fn:Str}{ps:List Str}{sp:Sp}{B:Addr}{fB:Option Addr}{e:Expr}{es:List Expr}{t:TA}{b₀:Stmt}{suite:List Stmt}{tb:Addr->TS}{py pa pc pf ph pl pos:Pos}
theorem h96 (D:DefE X.prog X.w X.K X.mg X.base k fn ps sp)(hr:Room k X.A)(hN:X.N.Nodup)(hi:X.N[i]?=some y)(hy:Loc X.env.scope y)(hj:X.N[j]?=some n)(hn:X.env.scope.names.lookup n=some .local)
 (ha:PA X.nox (e::es) t)(hB:b69 X.K B fB=true)(hmB:X.mg cl=some (.ref B))(hs:∀ a,PSs (X.within a) (b₀::suite) (tb a))(hg:Gl X fn:=by rfl)(hgB:Gl X cl:=by rfl)(hst:X.stack=X.env::X.outer:=by rfl)(hfr:X.env.frame=some X.env.locals:=by rfl)
 (hsw:swapsWith (.Call (.Name fn pf) (e::es) [] pc) (some (.Name y py)) pa.line X.env=pure false:=by rfl)(hfn:X.fn y=true∨X.env.scope.names.lookup y=some .local:=by first | exact .inl rfl | exact .inr rfl)
 (hdb:(fn == ("__debug__" : Str))=false:=by decide)(hdb2:(cl == ("__debug__" : Str))=false:=by decide)(he:starEach (e::es) X.env=(false,eval e X.env)::starEach es X.env:=by rfl)(hpl:(backTo pc (starEach es X.env)).any (·.1)=false:=by rfl) :
 PS X (.Try [.Assign [.Name y py] (.Call (.Name fn pf) (e::es) [] pc) pa] [.ExceptHandler (some (.Name cl pl)) (some n) (b₀::suite) ph] [] [] pos)
  (fun D σ H=>t σ H fun vs H1=>sp vs H1 (fun v H2=>D.nx (σ.set i (some v)) H2) (fun cv oa H2=>∃ a C fI,cv=.ref C/\oa=some a/\b69 X.K C fI=true/\subIn X.K C B=true/\tb a (h30 D j) (σ.set j (some (.ref a))) H2)):=by
 obtain⟨f,fd,F,hm,hk,hb⟩:=D.ex;try constructor
 intro pins s σ H D I h;refine wpAny_Try_except (wpAny_execs_cons (wpAny_Assign_Name ?_ hsw));refine wpAny_Call_Name_kw (b62 I hg hm ?_ hdb);refine PySem.W.callWith_K (h₀:=X.base) I.ok.mod.kin hk (Dq (ha.run pc pins s σ H _ (I.wish _) h) (fun us s1 ⟨vs,H1,I1',r,q⟩=>?_) fun _ _ z=>z.elim) he hpl;have I1:Inv X pins σ H1 s1:=I1'.unwish;refine⟨I1.kIn,?_⟩;have hl:(us++[]).length=ps.length:=by rw[List.append_nil,← r.length];exact F.len _ _ _ _ q
 have hbi:=hb s1 us I1.kIn hl;rw[List.append_nil] at hbi;refine wpAny_call (codeAny_mono (F.run X.A X.stack s1 H1 ⟨us,[]⟩ us vs _ _ hr I1.env0 hbi r q) fun r' s' hq=>?_);cases r' with
 | ok fl =>
  cases fl with
  | ret u =>
   obtain⟨v,H2,I2,rv,q2⟩:=I1.after hq;exact b54 I2 hN hi hy rv (fun s3 I3=>wpAny_execs_nil (wpAny_execs_nil ⟨_,H2,I3,q2⟩)) hfn
  | next=>exact False.elim hq
  | brk=>exact False.elim hq
  | cont=>exact False.elim hq
 | error ev =>
  obtain⟨a,C,T,dd,H',rfl,os,bare,un,hok,fl,hA,hT,a0,T0,a',C',fI,ec,eo,hC,hsub,q2⟩:=hq;injection ec with ec
  injection eo with eo
  subst ec eo;have I2:Inv X pins σ H' s':=I1.call' (ch:=[]) os un hok bare (fun b z=>nomatch z);refine f95 (base:=X.base) (by rw[I.ok.frames,hst]) (by rw[← hst];exact I2.stack) hfr fl fun h1 T1 n1 k1 f1=>?_;refine b63 f1 fun h2 k2 f2=>?_;have hT1:H' T1=none:=I2.hok.fresh n1;have z1:s1.heap.get? T1=none:=by
   cases z:s1.heap.get? T1 with
   | none=>rfl
   | some o =>
    obtain⟨o',z'⟩:=un.there T1 o z (by simp);exact absurd (DQ z') (Nat.not_lt.mpr n1)
  have zT:s1.heap.get? T=none:=Heap.get?_none_of_le T0;rw[← hst] at k1;have kA:Kpt (frs X.stack) [a,T,T1] s'.heap h2:=(k1.mono (fun _ z=>z) (by intro b z;simp only[BZ,lN,or_false] at z ⊢;rcases z with z | z <;> simp[z])).trans (k2.mono (by intro b z;cases z) (by intro b z;rw[Ax.mp z];simp))
  have hS:∀ b∈[a,T,T1],s1.heap.get? b=none:=fun b z=>by
   simp only[BZ,lN,or_false] at z;rcases z with rfl | rfl | rfl
   ·exact a0
   ·exact zT
   ·exact z1
  have hS2:∀ b∈[a,T,T1],b=a∨H' b=none:=fun b z=>by
   simp only[BZ,lN,or_false] at z;rcases z with rfl | rfl | rfl
   ·exact .inl rfl
   ·exact .inr hT
   ·exact .inr hT1
  have go:∀ h3:Heap,Kpt (frs X.stack) [a,T,T1] s'.heap h3->i19 a C dd h3->Inv X pins σ H' { s' with heap:=h3 }:=fun h3 k3 g3 =>
   I1.call' (s':={ s' with heap:=h3 }) (ch:=[]) os (i35 un k3 hS) (i10 hok k3 (fun b z=>I2.stkFree b z) hS2 hA g3) bare (fun b z=>nomatch z)
  have I3:=go h2 kA f2.g;refine wpAny_handleBy_cons (codeAny_handlers_test ?_) (by intro z;cases z);have I4:=I3.within a;obtain⟨oe,vs',ge,gc,_,_⟩:=f2.g;refine b62 (X:=X.within a) I4 hgB hmB (f94 I4.kIn hC hB hsub ge gc ?_) hdb2;refine codeAny_handlers_suite_as (b63 f2 fun h3 k3 f3=>?_);have kB:Kpt (frs X.stack) [a,T,T1] s'.heap h3:=kA.trans (k3.mono (by intro b z;cases z) (by intro b z;rw[Ax.mp z];simp));have I5:=(go h3 kB f3.g).within a;refine b54 (X:=X.within a) I5 hN hj (Or.inl hn) (v:=V.ref a) rfl (fun s5 I6=>?_) (Or.inr hn);refine Dq ((hs a).run pins s5 (σ.set j (some (.ref a))) H' (h30 D j) I6 q2) (fun fl s6 q6=>?_) fun _ _ z=>z.elim
  cases fl with
  | next =>
   obtain⟨σ7,H7,I7,q7⟩:=q6;exact b79 (I7.back I.ok) hN hj hn fun s8 I8=>⟨_,H7,I8,q7⟩
  | brk =>
   obtain⟨σ7,H7,I7,q7⟩:=q6;exact b79 (I7.back I.ok) hN hj hn fun s8 I8=>⟨_,H7,I8,q7⟩
  | cont =>
   obtain⟨σ7,H7,I7,q7⟩:=q6;exact b79 (I7.back I.ok) hN hj hn fun s8 I8=>⟨_,H7,I8,q7⟩
  | ret u =>
   obtain⟨v,σ7,H7,I7,rv,q7⟩:=q6;exact b79 (I7.back I.ok) hN hj hn fun s8 I8=>⟨v,_,H7,I8,rv,q7⟩
end
end L2
namespace L2
open PySem PySem.Spec PyProof.Rows
theorem f87 (bs:List Bool):(List.range bs.length).any (fun i=>bs.getD i false)=bs.any id:=by
 rw[Bool.eq_iff_iff,List.any_eq_true,List.any_eq_true];constructor
 ·rintro⟨i,hi,e⟩;have hi':=List.mem_range.mp hi;rw[lG,Bx hi'] at e;exact⟨bs[i],List.getElem_mem hi',by simpa using e⟩
 ·rintro⟨b,hb,e⟩;obtain⟨i,hi,rfl⟩:=List.getElem_of_mem hb;exact⟨i,List.mem_range.mpr hi,by rw[lG,Bx hi];simpa using e⟩
section
variable {X:Cx}
theorem c29 (hc:X.calm=true):b25 X (.builtin "any") (fun xs H Q=>∃(p:Addr) (bs:List Bool),xs=[.ref p]/\SqL X.K H p (bs.map V.bl)/\Q (.bl (bs.any id)) H):=by
 intro pins s σ H xs us Q I r h;obtain⟨p,bs,rfl,hq,q⟩:=h;obtain⟨u,rfl,rx⟩:=b86 r;cases rx;obtain⟨its,rv,pl,hz⟩:=I.list hq;have hits:=c80 rv;have hlt:p < s.heap.objs.size:=by
  obtain⟨o,n,e,_⟩:=pl;exact DQ e
 refine call_any_walk (wpAny_pyIter_list pl.isList ?_);refine⟨_,_,_,_,_,_,fun i=>bs.getD i false,rfl,Walks.list (show X.A.in1.handled=none from I.ok.hd hc) s.heap.objs.size p (nLQ hlt) its.toArray,⟨⟨_,Dx _ rfl,rfl,rfl⟩,pl.isList.push _⟩,?_,fun h' tk kk=>?_⟩
 ·intro i v s' Q' E' hv hQ';have hv':its[i]?=some v:=by simpa using hv
  rw[hits,CJ] at hv';cases hb:bs[i]? with
  | none=>rw[hb] at hv';cases hv'
  | some b =>
   rw[hb] at hv';cases hv';refine wpAny_truthy_bool ?_;have hQ2:Q' (bs.getD i false) s':=hQ';rw[lG,hb] at hQ2;exact hQ2
 ·have e:its.toArray.size=bs.length:=by rw[lS,hits,Aj]
  refine⟨.bl (bs.any id),H,I.kept fun b o e=>kk b o (fun hb=>?_) (Aq _ e),?_,q⟩
  ·have hb':b=s.heap.objs.size:=by simpa using hb
   exact absurd (hb' ▸ DQ e) (Nat.lt_irrefl _)
  ·show Value.bool _=Value.bool _;rw[e,f87]
theorem g37 (hc:X.calm=true):b25 X (.builtin "max") (fun xs H Q=>∃(p:Addr) (ns:List Int),xs=[.ref p]/\SqL X.K H p (ns.map V.int)/\0 < ns.length/\∀ M,M∈ns->(∀ a∈ns,a<=M)->Q (.int M) H):=by
 intro pins s σ H xs us Q I r h;obtain⟨p,ns,rfl,hq,hne,q⟩:=h;obtain⟨u,rfl,rx⟩:=b86 r;cases rx;obtain⟨its,rv,pl,hz⟩:=I.list hq;have hi:=e85 rv;obtain⟨ks,e⟩:=hi.allInts.items;have hns:ns=ks.toList.map (·.1):=by rw[← hi.numsOf,← nums_intItems,← e]
 have hsz:0 < ks.size:=by
  have h3:=hne;rw[hns,Aj,Cj] at h3;exact h3
 have hl:=pl.isList;rw[e] at hl;refine max_intList (I.ok.hd hc) hl hsz fun v h' tk hv hk=>?_;obtain⟨t,rfl⟩:=intItems_at hv;obtain⟨h1,h2⟩:=argBest_gt (numAt ks) (ks.size-1);refine⟨.int _,H,I.kept hk,⟨t,rfl⟩,q _ ?_ fun a ha=>?_⟩
 ·rw[hns,numAt_eq];exact getD_mem (by rw[Aj,Cj];omega)
 ·rw[hns] at ha;obtain⟨j,hj,rfl⟩:=mem_getD ha;rw[Aj,Cj] at hj;rw[← numAt_eq];exact h2 j (by omega)
theorem h43 {pins:LAO}{s:Sd}{σ:St}{H:Hp}{a C dx:Addr}{fs:List (Str×V)}(I:Inv X pins σ H s)(hx:H a=some (f67 a C (some dx)))(hd:H dx=some (.xd fs)):∃ ox od,PySem.W.InstAt s.heap a ox C (some od)/\s.heap.get? dx=some od/\ox.dict=some dx:=by
 obtain⟨oe,vs,h0,h1,h2,h3⟩:=g21 I.hok hx;obtain⟨od,hod⟩:=(I.hok dx _ hd).has;exact⟨oe,od,⟨h0,h1,by unfold PySem.W.notCls;rw[h3],by rw[h2];exact hod⟩,hod,h2⟩
theorem c18 (g:XGet X.K):b25 X (.builtin "isinstance") (fun xs H Q=>∃ a C dx fs c tc b,xs=[.ref a,c]/\H a=some (f67 a C (some dx))/\H dx=some (.xd fs)/\XC X.K C/\clsV c=some tc/\PySem.W.kitOne X.K (.ref C) tc=some b/\Q (.bl b) H):=by
 intro pins s σ H xs us Q I r h;obtain⟨a,C,dx,fs,c,tc,b,rfl,hx,hd,Y,hc,hk,q⟩:=h;obtain⟨u,w',rfl,ru,rw'⟩:=g28 r;have e:w'=tc:=by
  cases c with
  | ty n=>cases (show w'=Value.type n from rw');exact Ez hc
  | ref a=>cases (show w'=Value.ref a from rw');exact Ez hc
  | _=>exact nomatch hc
 subst e;cases (show u=Value.ref a from ru);obtain⟨ox,od,J,_⟩:=h43 I hx hd;exact PySem.W.kia_one (e52 Y g.hn g.htk) I.kIn ⟨ox,some od,J⟩ hk (fun z=>nomatch z) fun tk=>⟨.bl b,H,I.tok _,rfl,q⟩
theorem b80 (g:XGet X.K):b25 X (.builtin "isinstance") (fun xs H Q=>∃(a C dx:Addr) (fs:List (Str×V))(tp:Addr) (cs:List Addr) (b:Bool),xs=[.ref a,.ref tp]/\H a=some (f67 a C (some dx))/\H dx=some (.xd fs)/\XC X.K C/\H tp=some (.tup (cs.map V.ref))/\PySem.W.kitAny X.K (.ref C) (cs.map Value.ref)=some b/\Q (.bl b) H):=by
 intro pins s σ H xs us Q I r h;obtain⟨a,C,dx,fs,tp,cs,b,rfl,hx,hd,Y,ht,hk,q⟩:=h;obtain⟨u,w',rfl,ru,rw'⟩:=g28 r;cases (show u=Value.ref a from ru);cases (show w'=Value.ref tp from rw');obtain⟨ox,od,J,_⟩:=h43 I hx hd;obtain⟨its,rv,pl,hz⟩:=I.tuple (SqT.of ht);obtain⟨⟨cls,dd,data,sl⟩,ho,hc2,n,hd2⟩:=id pl;simp only at hc2 hd2;subst hc2 hd2;have e:∀ {cs:List Addr}{its:List Value},Vals (cs.map V.ref) its->its=cs.map Value.ref:=fun {cs}=>by
  induction cs with
  | nil=>intro its r;rw[List.map_nil] at r;cases r;rfl
  | cons c cs ih =>
   intro its r;rw[Cz] at r;cases r with
   | cons r1 r2 =>
    cases (show _=Value.ref c from r1);rw[ih r2];rfl
 have e2:=e rv;subst e2;exact PySem.W.kia_tup (e52 Y g.hn g.htk) I.kIn ⟨ox,some od,J⟩ ho hk (fun z=>nomatch z) fun tk=>⟨.bl b,H,I.tok _,rfl,q⟩
theorem h37 {H:Hp}{v:V}{u:Value}{o:Option (List Str)}(h:OptP H v o)(r:RelV v u):decide (u=Value.none)=decide (o=none):=by
 cases o with
 | none =>
  cases (show v=.non from h);cases (show u=Value.none from r);rw[Az rfl,Az rfl]
 | some ws =>
  obtain⟨a,rfl,e⟩:=h;cases (show u=Value.ref a from r);rw[Fq (fun z=>nomatch z),Fq (fun z=>nomatch z)]
theorem f71 {H:Hp}:∀ {xs:List V}{os:List (Option (List Str))}{us:List Value},c35 H xs os->Vals xs us->(us.any fun u=>decide (u=Value.none))=decide (none∈os)
 | _,_,_,.nil,.nil=>(Fq (fun q=>nomatch q)).symm
 | _,o::os,_,.cons h t,.cons r t'=>by
  rw[List.any_cons,h37 h r,f71 t t',← Bool.decide_or];congr 1;rw[BZ];exact propext ⟨fun q=>q.imp Eq.symm id,fun q=>q.imp Eq.symm id⟩
theorem f63 {A:Around}{pins:LAO}{X:Cx}{σ:St}{H:Hp}{s:Sd}(hu:A.units < cLine)(I:Inv X pins σ H s):∀ {xs:List V}{os:List (Option (List Str))}{us:List Value},c35 H xs os->Vals xs us->∀ u∈us,SeqAt.EqAt A s u .none (decide (u=Value.none))
 | _,_,_,.nil,.nil=>fun u hu=>nomatch hu
 | _,o::os,_,.cons h t,.cons r t'=>fun u q=>by
  rcases BZ.mp q with rfl | q
  ·rw[h37 h r];cases o with
   | none =>
    cases (show _=V.non from h);cases (show u=Value.none from r);rw[Az rfl];exact SeqAt.EqAt.same _
   | some ws =>
    obtain⟨a,rfl,e⟩:=h;cases (show u=Value.ref a from r);rw[Fq (fun z=>nomatch z)];obtain⟨its,r1,p1,_⟩:=I.tuple (SqT.of (K:=X.K) e);exact SeqAt.EqAt.tuple_none p1 hu
  ·exact f63 hu I t t' u q
theorem i58 (hu:X.A.units+1 < cLine):OpR X (compareOp .In) (fun x y H Q=>∃ p xs os,x=.non/\y=.ref p/\SqL X.K H p xs/\c35 H xs os/\Q (.bl (decide (none∈os))) H):=by
 intro pins s σ H x y v u Q I rx ry h;obtain⟨p,xs,os,rfl,rfl,hq,ho,q⟩:=h;cases (show v=Value.none from rx);cases ry;obtain⟨its,r,pl,hz⟩:=I.list hq;refine SeqAt.in_listAt (fun u=>decide (u=Value.none)) pl.isList (fun w hw=>f63 hu I ho r w (by simpa using hw)) ⟨.bl _,H,I,rfl,?_⟩;rw[show its.toArray.any (fun u=>decide (u=Value.none))=its.any (fun u=>decide (u=Value.none)) by simp,f71 ho r];exact q
variable {e:Expr}{ta:TE}{pos:Pos}
theorem g62 {f:Str}(he:PE X e ta)(hb:attributeBase e f X.env (eval e X.env)=eval e X.env):PE X (.Attribute e f pos) (fun σ H Q=>ta σ H fun x H1=>∃ a C dx fs v,x=.ref a/\H1 a=some (f67 a C (some dx))/\H1 dx=some (.xd fs)/\XC X.K C/\wF X.K (.ref C) f=some none/\fs.lookup f=some v/\Q v H1):=by
 try constructor
 intro pins s σ H Q I h;refine g23 hb (thn (he pins s σ H _ I h) fun u s1 ⟨x,H1,I1,rx,a,C,dx,fs,v,ex,ea,ed,c,n,l,q⟩=>?_);subst ex;obtain rfl:u=Value.ref a:=rx;obtain⟨oe,vs,h0,hcl,hdd,hda⟩:=g21 I1.hok ea;obtain⟨mA,hns,r⟩:=(show ObjOk X.prog X.w H1 s1.heap dx (.xd fs) from I1.hok dx _ ed);obtain⟨w',hw,rw'⟩:=RelO.some_of (v:=v) (o:=mA f) (by rw[← l];exact r f);obtain⟨od,hod,hl⟩:=i07 hns hw;exact h79 I1.kIn ⟨h0,hcl,by unfold PySem.W.notCls;rw[hda],by rw[hdd];exact hod⟩ c (PySem.W.findObj_own c.hd n rfl hl) (d37 rw') ⟨v,H1,I1.tok _,rw',q⟩
end
def geS:List Str->List Str->Bool
 | _,[]=>true
 | [],_::_=>false
 | a::x,b::y=>if a=b then geS x y else !decide (a.cps.toList < b.cps.toList)
theorem h32:∀ x y:List Str,geS x y=leS y x
 | [],[]=>rfl
 | [],_::_=>rfl
 | _::_,[]=>rfl
 | a::x,b::y=>by
  show(if a=b then geS x y else !decide (a.cps.toList < b.cps.toList))=(if b=a then leS y x else !decide (a.cps.toList < b.cps.toList));by_cases e:a=b
  ·rw[if_pos e,if_pos e.symm];exact h32 x y
  ·rw[if_neg e,if_neg fun q=>e q.symm]
theorem h17 (A:Around)(s:Sd) (a:Str)(t:Tok) (c:Str)(u:Tok)(prog:Pm)(w:World)(E:VSP)(Q:VSP)(h:Q (.bool (!decide (a.cps.toList < c.cps.toList))) s) :
 wpAny (model prog w) A (richCompare .GtE (.str a t) (.str c u)) Q E s :=
 (PySem.P.ge_str h:wpAny (model prog w) A (compareOp .GtE (.str a t) (.str c u)) Q E s)
section
open PySem.SeqAt
open PySem.AutoSeq1 (wpAny_loadPart')
open PySem.MeetsSeq PySem.MeetsSeq2 PySem.MeetsSeq3
theorem d09 (l b:Addr)(items items2:Array Value) (n n2:Nat)(dd dd2:Option Addr)(sl sl2:Array (Option Value)) (ns ms:List Str)(hi:Strs items.toList ns)(hj:Strs items2.toList ms) :
 Meets (Builtin.«tuple.__ge__» ⟨[.ref l,.ref b],[]⟩)
  (fun _ R s=>s.heap.get? l=some { cls:=.type "tuple", dict:=dd,data:=.seq items n,slots:=sl }/\s.heap.get? b=some { cls:=.type "tuple", dict:=dd2,data:=.seq items2 n2,slots:=sl2 } /\
    R (.ok (.ret (.bool (geS ns ms)))) s) :=
 .of_wp fun prog w A R s h=>by
  obtain⟨hp,g,d,tk,os⟩:=s;obtain⟨hl,hb,h⟩:=h;have f2:=AutoSeq1.sub_tuple_tuple;have z1:items.size=ns.length:=by rw[← hi.length];simp
  have z2:items2.size=ms.length:=by rw[← hj.length];simp
  wp_walk using wpAny_loadPart' hl,wpAny_loadPart' hb,wpAny_forIn_list _ (fun rest b s'=>b.1=none/\s'=⟨hp,g,d,tk,os⟩/\∃(vs ws:List Value) (ns' ms':List Str),rest=vs.zip ws /\
   Strs vs ns'/\Strs ws ms'/\ns'.length+items2.size=ms'.length+items.size/\R (.ok (.ret (.bool (geS ns' ms')))) ⟨hp,g,d,tk,os⟩) _
  case turn =>
   rintro⟨y,x⟩ rest b s' ⟨hb',rfl,vs,ws,ns',ms',hz,hvi,hwi,hlen,hR⟩;cases hvi with
   | nil=>rw[List.zip_nil_left] at hz;cases hz
   | cons a t hvi' =>
    cases hwi with
    | nil=>rw[List.zip_nil_right] at hz;cases hz
    | cons c u hwi' =>
     rw[List.zip_cons_cons] at hz;injection hz with hyx hrest
     injection hyx with hy hx
     subst hy hx;rw[geS] at hR;simp only[Cq] at hlen;obtain⟨e,he,hiff⟩:=e29 A.in1 ⟨hp,g,d,tk,os⟩ a t c u;refine AQ (he prog w _ _ ?_);cases e with
     | true =>
      rw[if_pos (hiff.mp rfl)] at hR
      wp_walk
      exact⟨rfl,rfl,_,_,_,_,hrest,hvi',hwi',by lia,hR⟩
     | false =>
      rw[if_neg (fun q=>absurd (hiff.mpr q) Fj)] at hR;have hri:=h17 A.in1 ⟨hp,g,d,tk,os⟩ a t c u prog w
      wp_walk using hri
      exact⟨_,rfl,by simpa using hR⟩
  case fin =>
   rintro⟨b1,b2⟩ s' ⟨hb',rfl,vs,ws,ns',ms',hz,hvi,hwi,hlen,hR⟩;simp only at hb';subst hb';have hv:geS ns' ms'=decide (items2.size<=items.size):=by
    cases hwi with
    | nil =>
     simp only[List.length_nil] at hlen;cases hvi <;> exact(Az (by lia)).symm
    | cons c u hw =>
     cases hvi with
     | nil =>
      simp only[List.length_nil,Cq] at hlen;exact(Fq (by lia)).symm
     | cons a t hv =>
      rw[List.zip_cons_cons] at hz;cases hz
   rw[hv] at hR
   wp_walk
   exact⟨_,rfl,by simpa [Builtin.Tuple.tupleCompareSizes] using hR⟩
  case h =>
   exact⟨rfl,rfl,items.toList,items2.toList,ns,ms,rfl,hi,hj,by lia,h⟩
end
section
variable {prog:Pm}{w:World}{A:Around}{E:VSP}{s:Sd}
theorem e70 {l b:Addr}{items items2:Array Value}{ns ms:List Str}{Q:VSP}(hl:IsTup s.heap l items)(hb:IsTup s.heap b items2)(hi:Strs items.toList ns)(hj:Strs items2.toList ms)
 (hu:A.units < cLine)(h:Q (.bool (geS ns ms)) s):wpAny (model prog w) A (compareOp .GtE (.ref l) (.ref b)) Q E s:=by
 obtain⟨⟨cls,dd,data,sl⟩,ho,hc,n,hd⟩:=id hl;obtain⟨⟨cls2,dd2,data2,sl2⟩,ho2,hc2,n2,hd2⟩:=id hb;simp only at hc hd hc2 hd2;subst hc hd hc2 hd2;exact richCompare_meets_room (op:=.GtE) ⟨_,ho,rfl⟩ ⟨_,ho2,rfl⟩ PySem.F.slot_tuple_ge PySem.F.entry_tuple_ge (PySem.F.args_tuple_ge_2 _ _) (d09 l b items items2 n n2 dd dd2 sl sl2 ns ms hi hj)
  ⟨ho,ho2,show Value.bool (geS ns ms)≠Value.notImplemented/\Q (.bool (geS ns ms)) s from⟨(fun x=>nomatch x),h⟩⟩ hu
end
section
variable {X:Cx}
theorem i61 (hu:X.A.units < cLine):OpR X (compareOp .GtE) (fun x y H Q=>∃ a b xs ys,x=.ref a/\y=.ref b/\SqT X.K H a (xs.map V.str)/\SqT X.K H b (ys.map V.str)/\Q (.bl (geS xs ys)) H):=by
 try constructor
 intro pins s σ H x y v u Q I rx ry h;obtain⟨a,b,ns,ms,rfl,rfl,ha,hb,q⟩:=h;cases rx;cases ry;obtain⟨its,r1,p1,_⟩:=I.tuple ha;obtain⟨its2,r2,p2,_⟩:=I.tuple hb;have i1:Strs its.toArray.toList ns:=Strs.of r1;have i2:Strs its2.toArray.toList ms:=Strs.of r2;exact e70 p1 p2 i1 i2 hu ⟨.bl (geS ns ms),H,I,rfl,q⟩
end
section
variable {X:Cx}
theorem d00 (hu:X.A.units < cLine):OpR X (compareOp .NotEq) (fun x y H Q=>∃(a b:Addr) (xs:List V),x=.ref a/\y=.ref b/\SqL X.K H a xs/\SqL X.K H b []/\Q (.bl (!decide (xs=[]))) H):=by
 intro pins s σ H x y v u Q I rx ry h;obtain⟨a,b,xs,rfl,rfl,ha,hb,q⟩:=h;cases rx;cases ry;obtain⟨its,r1,p1,_⟩:=I.list ha;obtain⟨its2,r2,p2,_⟩:=I.list hb;have l1:=r1.length;cases r2;by_cases hl:xs=[]
 ·subst hl;cases r1;refine SeqAt.RcNeAt.lists (e:=fun j=>true) p1.isList p2.isList rfl hu (fun j h1 h2=>absurd h1 (by simp)) X.prog X.w _ _ ⟨.bl _,H,I,?_,q⟩;show Value.bool _=Value.bool _;rw[Az rfl];rfl
 ·refine SeqAt.RcNeAt.lists_lengths p1.isList p2.isList (by rw[lS,lS,bne_iff_ne,← l1];exact fun e=>hl (List.eq_nil_of_length_eq_zero e)) hu X.prog X.w _ _ ⟨.bl _,H,I,?_,q⟩;show Value.bool _=Value.bool _;rw[Fq hl];rfl
end
section
variable {X:Cx}{elt iter:Expr}{x y:Str}{px py pos:Pos}{scope:Scope}{wi:TI}{te:TE}
theorem f50 {osc:Scope}{oN ops:List Str}{ifs:List Expr}{tt:TT} (k:Nat)(SC:FnScope oN ops osc)(S:b04 osc oN scope x)(hk:oN[k]?=some x)
 (hi:PI X (.Name x px) iter wi)(ht:∀ C fp s H,PTs (a48 X scope oN C fp s H) ifs tt)
 (he:∀ C fp s H,PE (a48 X scope oN C fp s H) elt te)(hc:X.calm=true:=by rfl)(e1:X.env.scope=osc:=by rfl)(e2:X.N=oN:=by rfl)(hs:∀ v,foldedSetIterable iter X.env v=pure v:=by intro _;rfl) :
 PE X (.ListComp elt [⟨.Name x px,iter,ifs,0⟩] scope pos) (c12 wi (fun σ=>σ.set k none) (b65 k) tt te):=by
 refine c31 (up:=fun σ=>σ.set k none) (by rw[e1,e2];exact S) hc (fun σ hl=>by rw[e2] at hl ⊢;exact h28 SC.nd hk σ hl) hi (fun C fp s H=>?_) ?_ ht he hs
 ·exact a75 SC.nd hk (.inl (lookup_relabel_local S.loc)) (.inr (lookup_relabel_local S.loc))
 ·rintro v σ H Q hl q;refine⟨⟨by simp only[List.length_set],fun j u hj=>?_⟩,q⟩;have hjk:j≠k:=fun e=>by
   subst e;rw[List.getElem?_set_self (by rw[hl,e2];exact(Ej.mp hk).1)] at hj;cases hj
  show((σ.set k none).set k (some v))[j]?=_
  rw[lE (Ne.symm hjk)];exact hj
theorem f89 {osc:Scope}{oN ops:List Str}{ifs:List Expr}{tt:TT}{ek:Nat}{ep:Pos} (k l:Nat)(SC:FnScope oN ops osc)(S:CompScopeG osc oN scope x (fun z=>z=x∨z=y))(hk:oN[k]?=some x)(hl':oN[l]?=some y)(hly:scope.names.lookup y=some .local)
 (hi:PI X (.Tuple [.Name x px,.Name y py] ek ep) iter wi)(ht:∀ C fp s H,PTs (a48 X scope oN C fp s H) ifs tt)
 (he:∀ C fp s H,PE (a48 X scope oN C fp s H) elt te)(hc:X.calm=true:=by rfl)(e1:X.env.scope=osc:=by rfl)(e2:X.N=oN:=by rfl)(hs:∀ v,foldedSetIterable iter X.env v=pure v:=by intro _;rfl) :
 PE X (.ListComp elt [⟨.Tuple [.Name x px,.Name y py] ek ep,iter,ifs,0⟩] scope pos) (c12 wi (fun σ=>(σ.set k none).set l none) (gTup X.K 2 (d63 (b65 k) (d63 (b65 l) gNil))) tt te):=by
 have none_at:∀(σ:St) (i j:Nat) (v:V),(σ.set i none)[j]?=some (some v)->σ[j]?=some (some v):=fun σ i j v h=>by
  by_cases e:i=j
  ·subst e;by_cases q:i < σ.length
   ·rw[List.getElem?_set_self q] at h;cases h
   ·rw[List.getElem?_eq_none (by rw[List.length_set];lia)] at h;cases h
  ·rw[lE e] at h;exact h
 refine c31 (up:=fun σ=>(σ.set k none).set l none) (by rw[e1,e2];exact S) hc (fun σ hl=>?_) hi (fun C fp s H=>?_) ?_ ht he hs
 ·rw[e2] at hl ⊢;refine⟨by rw[List.length_set,List.length_set,hl],fun i z v h1 h2=>?_⟩;have h3:=none_at _ _ _ _ h2;have hil:i≠l:=fun e=>by
   subst e;rw[List.getElem?_set_self (by rw[List.length_set,hl];exact(Ej.mp hl').1)] at h2;cases h2
  obtain⟨_,b⟩:=h28 SC.nd hk σ hl;obtain⟨hz,j,hj1,hj2⟩:=b i z v h1 h3;exact⟨fun q=>q.elim hz fun q=>hil (b76 SC.nd (q ▸ h1) hl'),j,hj1,hj2⟩
 ·exact c67 hc (a89 (a75 SC.nd hk (.inl (lookup_relabel_local S.loc)) (.inr (lookup_relabel_local S.loc))) (a89 (a75 SC.nd hl' (.inl (lookup_relabel_local hly)) (.inr (lookup_relabel_local hly))) c01))
 ·rintro v σ H Q hl ⟨a,xs,e,hq,hn,v1,r1,e3,v2,r2,e4,e5,q⟩;refine⟨a,xs,e,hq,hn,v1,r1,e3,v2,r2,e4,e5,⟨by simp only[List.length_set],fun j u hj=>?_⟩,q⟩;have hjl:j≠l:=fun e=>by
   subst e;rw[List.getElem?_set_self (by rw[List.length_set,hl,e2];exact(Ej.mp hl').1)] at hj;cases hj
  have hjk:j≠k:=fun e=>by
   subst e;rw[lE (Ne.symm hjl),List.getElem?_set_self (by rw[hl,e2];exact(Ej.mp hk).1)] at hj;cases hj
  show((((σ.set k none).set l none).set k (some v1)).set l (some v2))[j]?=_
  rw[lE (Ne.symm hjl),lE (Ne.symm hjk)];exact hj
end
section
variable {X:Cx}{elt iter:Expr}{x:Str}{px pos:Pos}{scope:Scope}{wi:TI}{te:TE}
theorem g83 {osc:Scope}{oN ops:List Str}{ifs:List Expr}{tt:TT}{ix:Nat}{yn:Str}{pyn spos:Pos}(SC:FnScope oN ops osc)(S:b04 osc oN scope x)(hx:x∉oN)(hni:X.N[ix]?=some yn)(hlx:Loc X.env.scope yn)
 (hi:PI X (.Name x px) iter wi)(ht:∀ C fp s H,PTs (a48 X scope (X.N++[x]) C fp s H) ifs tt)
 (he:∀ C fp s H,PE (a48 X scope (X.N++[x]) C fp s H) elt te)
 (hsw:swapsWith (.ListComp elt [⟨.Name x px,iter,ifs,0⟩] scope pos) (some (.Name yn pyn)) spos.line X.env=pure true:=by rfl)(hf:X.fn yn=true∨X.env.scope.names.lookup yn=some .local:=by first | exact .inl rfl | exact .inr rfl)
 (hc:X.calm=true:=by rfl)(e1:X.env.scope=osc:=by rfl)(e2:X.N=oN:=by rfl)(hs:∀ v,foldedSetIterable iter X.env v=pure v:=by intro _;rfl) :
 PS X (.Assign [.Name yn pyn] (.ListComp elt [⟨.Name x px,iter,ifs,0⟩] scope pos) spos) (i18 (c12 wi (fun σ=>σ++[none]) (b65 X.N.length) tt te) (b65 ix)):=by
 have hx':x∉X.N:=by rw[e2];exact hx
 have hnd:X.N.Nodup:=by rw[e2];exact SC.nd
 have hN:(X.N++[x]).Nodup:=by
  rw[List.nodup_append];refine⟨hnd,by simp,fun a ha b hb=>?_⟩;simp at hb;subst hb;exact fun e=>hx' (e ▸ ha)
 refine e17 (up:=fun σ=>σ++[none]) (by rw[e1,e2];exact S) hc (d62 hx') hi (fun C fp s H=>?_) ?_ ht he hs hnd hni hlx hsw hf
 ·exact a75 hN (by show(X.N++[x])[X.N.length]?=_;simp) (.inl (lookup_relabel_local S.loc)) (.inr (lookup_relabel_local S.loc))
 ·rintro v σ H Q hl q;refine⟨⟨by rw[List.length_set],fun j u hj=>?_⟩,q⟩;have hlt:j < X.N.length:=by
   rw[← hl];by_cases hi:j < σ.length
   ·exact hi
   ·rw[lA (by lia)] at hj;generalize j-σ.length=i at hj
    match i,hj with
    | 0,h2=>cases h2
    | i+1,h2=>cases h2
  show((σ++[none]).set X.N.length (some v))[j]?=_
  rw[lE (by lia)];exact hj
end
end L2
namespace L2
open PySem PySem.Spec PyProof.Rows
theorem PI.weak {X:Cx}{tg iter:Expr}{wi:TI}(hi:PI X tg iter wi):PI X tg iter (fun σ H R=>∃ A,wi σ H A/\∀ J H1,A J H1->R J H1) :=
 ⟨fun pins s σ H R I ⟨A,h,q⟩=>thn (hi pins s σ H A I h) fun v s1 h1=>thn h1 fun u s2 ⟨it,fp,tn,J,H2,e,I2,T,st2,f2,r⟩=>⟨it,fp,tn,J,H2,e,I2,T,st2,f2,q J H2 r⟩⟩
theorem PE.weak {X:Cx}{e:Expr}{te:TE}(he:PE X e te):PE X e (fun σ H R=>∃ A,te σ H A/\∀ y H1,A y H1->R y H1) :=
 ⟨fun pins s σ H R I ⟨A,h,q⟩=>thn (he pins s σ H A I h) fun v s1 ⟨u,H1,I1,r,z⟩=>⟨u,H1,I1,r,q u H1 z⟩⟩
section
variable {X:Cx}{elt iter:Expr}{x:Str}{px pos:Pos}{scope:Scope}{wi:TI}{te:TE}
end
end L2
namespace L2
open PySem PySem.Spec PyProof.Rows
open PySem PySem.Spec PyProof.Rows
section
variable {prog:Pm}{w:World}{A:Around}{E:VSP}{s:Sd}
theorem d87 {a c c0 n:Nat}(hac:a<=c)(hc:c<=n)(h0:c=min c0 n):sliceBounds (some (a:Int)) (some (c0:Int)) none n=((a:Int),(c:Int),1):=by
 simp only[sliceBounds,Option.getD_none];have h1:¬((a:Int) < 0):=by omega
 have h2:¬((c0:Int) < 0):=by omega
 simp only[h1,h2,if_false,show(1:Int) > 0 by decide,if_true];congr 1
 ·omega
 ·congr 1;omega
set_option maxRecDepth 100000 in
theorem c57 {l b sl:Addr}{items new:Array Value}{n n2:Nat}{vl vu:Value}{a c c0:Nat}{Q:Unit->Sd->Prop}
 (e:s.heap.get? l=some { cls:=.type "list", data:=.seq items n })(e2:s.heap.get? b=some { cls:=.type "list", data:=.seq new n2 })(hne:l≠b)
 (hs:s.heap.IsSliceOf sl vl vu .none)(pl:IsPart vl (some (a:Int)))(pu:IsPart vu (some (c0:Int)))(h0:c=min c0 items.size)(hac:a<=c)(hc:c<=items.size)
 (hsz:items.size+new.size<=zL)(h:Q () { s with heap:=s.heap.update l (Obj.mapSeq fun xs=>xs.extract 0 a++new++xs.extract c xs.size) }) :
 wpAny (model prog w) A (setItem (.ref l) (.ref sl) (.ref b)) Q E s:=by
 have hl:s.heap.IsList l items:=PySem.IsL.isList e;have hb:s.heap.IsList b new:=PySem.IsL.isList e2;obtain⟨os,hos,hcs,hds⟩:=id hs;have hTs:s.TypeIs (.ref sl) "slice" := ⟨os,hos,hcs⟩;have hstep:¬((rawPart none == rawInt 0)=true):=Fj;have hsame:Builtin.List.listSameRef (.ref l) (.ref b)=false:=by
  unfold Builtin.List.listSameRef;exact beq_eq_false_iff_ne.mpr hne
 have hmax:(max (a:Int) (c:Int)).toNat=c:=by lia
 have hz':((fun xs:Array Value=>xs.extract 0 a++new++xs.extract c xs.size) items).size<=zL+1:=by
  simp only[Array.size_append,Array.size_extract];lia
 unfold setItem;try with_reducible refine wpAny_holding ?_
 first | refine AQ (AX ?_) | skip
 refine AQ (wpAny_sequenceKey hl.typeIs (by decide) ?_);refine AQ (wpAny_callSpecial?_slot (name:=Str.ofString "__setitem__") hl.typeIs slot_list_setitem
  (wpAny_call_entry slot_list_setitem hl.typeIs entry_list_setitem ?_ (args_list_setitem _ _ _)))
 show wpAny _ _ (Builtin.List.listSubscript? (.ref sl) >>= _) _ _ s;refine AQ ?_;unfold Builtin.List.listSubscript?;refine AQ (wpAny_specialOf hTs slice_no_index ?_);simp only[Option.isNone_none,if_true];refine AX ?_;show wpAny _ _ (typeOf (.ref sl) >>= _) _ _ s;refine AQ (DZ hTs ?_);first
  | rw[if_neg (by decide)]
  | refine PySem.W.KFB.if_not (by decide) ?_
 rw[listSliceParts_eq];refine AQ (AQ (wpAny_field hos hds (x:=.none) rfl (AQ (wpAny_listPart .none ?_))));rw[if_neg hstep];refine AQ (wpAny_field hos hds (x:=vl) rfl (AQ (wpAny_listPart pl ?_)));refine AQ (wpAny_field hos hds (x:=vu) rfl (AQ (wpAny_listPart pu (AX ?_))));first
  | simp only[hsame,Bool.false_eq_true,if_false]
  | refine PySem.W.KFB.if_not hsame ?_
  | (dsimp only
     rw[if_neg (by rw[hsame];exact Fj)])
 refine AQ (m:=Builtin.List.listAllItems (.ref b) "must assign iterable to extended slice") ?_;unfold Builtin.List.listAllItems;refine AQ (DZ hb.typeIs ?_);first
  | refine PySem.W.KFB.if_so (by decide) ?_
  | rw[if_pos (by decide)]
  | simp only[beq_self_eq_true,Bool.true_or,if_true]
 unfold Builtin.List.listItems;refine AQ (wpAny_seqItems e2 rfl (AX ?_));refine AQ (AQ (wpAny_seqItems e rfl (AX ?_)));refine AQ (wpAny_of_eq ((sliceIndices_raw (some (a:Int)) (some (c0:Int)) none items.size (by simp)).trans (congrArg (pure:Int×Int×Int->Sem (Int×Int×Int)) (d87 hac hc h0))) ?_);show wpAny _ _ (if ((1:Int) == 1)=true then _ else _) _ _ s;rw[if_pos (by decide)];refine AQ (wpAny_rule ?_);first
  | simp only[e24 hsz,Bool.false_eq_true,if_false]
  | refine PySem.W.KFB.if_not (e24 hsz) ?_
 first | refine AQ (AX ?_) | skip
 show wpAny _ _ (updateSeq l (fun xs=>xs.extract 0 ((a:Int)).toNat++new++xs.extract (max (a:Int) (c:Int)).toNat xs.size) >>= _) _ _ s;rw[hmax,Dj];refine AQ (wpAny_updateSeq (hz:=Fz (Nat.le_add_right _ _) hsz) (_hz':=hz') e rfl ?_);refine AQ (wpAny_letGo ?_);first
  | exact AQ (AX (AX ⟨.none,rfl,AX h⟩))
  | exact AX ⟨.none,rfl,AX h⟩
end
section
variable {X:Cx}
def h57:V->List V->Hp->VK->Prop:=fun x vs H Q=>∃ l xs i y,x=.ref l/\vs=[.int i,y]/\H l=some (.lst xs)/\0<=i/\i < 2 ^ 63/\xs.length < zL/\Q .non (upd H l (.lst (xs.take i.toNat++y::xs.drop i.toNat)))
theorem e63 {α:Type} (xs:List α) (k:Nat):xs.take (min k xs.length)=xs.take k:=by
 rcases Nat.le_total k xs.length with q | q
 ·rw[Nat.min_eq_left q]
 ·rw[Nat.min_eq_right q,Dz (AZ _),Dz q]
theorem e26 {α:Type} (xs:List α) (k:Nat):xs.drop (min k xs.length)=xs.drop k:=by
 rcases Nat.le_total k xs.length with q | q
 ·rw[Nat.min_eq_left q]
 ·rw[Nat.min_eq_right q,List.drop_eq_nil_of_le (AZ _),List.drop_eq_nil_of_le q]
theorem c37:MtM X "list.insert" h57:=by
 intro pins s σ H x vs v us Q I rx rv h;obtain⟨l,xs,i,y,rfl,rfl,hH,h0,h1,hz,q⟩:=h;cases rx;obtain⟨u1,u,rfl,ri,ru⟩:=rv.two;obtain⟨t,rfl⟩:=ri;obtain⟨z,its,n,r,hl,e⟩:=I.lstM hH;have hf:Builtin.List.listFitsIndex i=true:=fitsIndex_of h0 h1;refine call_meets F.slot_list_insert ⟨_,e,rfl⟩ F.entry_list_insert (F.args_list_insert_3 _ _ _) (PySem.AutoSeq1.list_insert_list_int_val_1 l its.toArray n i t u (by rw[hf];decide) (by rw[lS];lia)) ⟨e,?_⟩;refine⟨.non,_,I.lset (its':=its.take i.toNat++u::its.drop i.toNat) hH e ?_ (Vals.append (r.take _) (.cons ru (r.drop _))) ?_,rfl,q⟩
 ·show(its.toArray.extract 0 (if i < 0 then(i+(its.toArray.size:Int)).toNat else min i.toNat its.toArray.size)).push u++its.toArray.extract (if i < 0 then(i+(its.toArray.size:Int)).toNat else min i.toNat its.toArray.size)=_;rw[if_neg (by lia),lS];exact(PySem.W.kl_ins_eq its _ u).trans (by rw[e63,e26])
 ·rw[Bj,Cq,CQ,EJ];lia
def Cx.cut (X:Cx) (n:Nat):Cx:={ X with N:=X.N.take n }
theorem Inv.cut {n:Nat}{pins:LAO}{σ:St}{H:Hp}{s:Sd}(I:Inv X pins σ H s):Inv (X.cut n) pins (σ.take n) H s:=by
 obtain⟨m,hm,hl⟩:=I.loc;refine⟨⟨I.ok.mod,I.ok.kind,I.ok.glob,I.ok.blt,I.ok.above,I.ok.inj,I.ok.has,I.ok.cab,I.ok.hd,I.ok.frames,I.ok.stk,I.ok.exf,I.ok.bs,I.ok.bsz,I.ok.noex,I.ok.exfs,I.ok.funs,I.ok.frf⟩,I.os,I.bare,I.base,⟨m,hm,fun i x v h1 h2=>?_⟩,I.cell,I.free,I.freeC,I.pin,I.hok,?_⟩
 ·have h1':(X.N.take n)[i]?=some x:=h1;rw[List.getElem?_take] at h1' h2;split at h1'
  ·rename_i q;rw[if_pos q] at h2;exact hl i x v h1' h2
  ·cases h1'
 ·show(σ.take n).length=(X.N.take n).length;rw[CQ,CQ,I.len]
theorem Inv.uncut {n:Nat}{pins:LAO}{σ τ:St}{H:Hp}{s:Sd}(I:Inv (X.cut n) pins σ H s)(hτ:(X.N.take n).length+τ.length=X.N.length)(h:∀ v,some v∉τ):Inv X pins (σ++τ) H s:=by
 obtain⟨m,hm,hl⟩:=I.loc;refine⟨⟨I.ok.mod,I.ok.kind,I.ok.glob,I.ok.blt,I.ok.above,I.ok.inj,I.ok.has,I.ok.cab,I.ok.hd,I.ok.frames,I.ok.stk,I.ok.exf,I.ok.bs,I.ok.bsz,I.ok.noex,I.ok.exfs,I.ok.funs,I.ok.frf⟩,I.os,I.bare,I.base,⟨m,hm,fun i x v h1 h2=>?_⟩,I.cell,I.free,I.freeC,I.pin,I.hok,?_⟩
 ·by_cases q:i < σ.length
  ·rw[List.getElem?_append_left q] at h2;refine hl i x v ?_ h2;show(X.N.take n)[i]?=some x;have hlen:σ.length=(X.N.take n).length:=I.len;rw[CQ] at hlen;rw[List.getElem?_take,if_pos (by lia)];exact h1
  ·rw[lA (by lia)] at h2;exact absurd (BJ h2) (h v)
 ·rw[Bj,I.len];exact hτ
theorem Inv.cutLen {n:Nat}{pins:LAO}{σ:St}{H:Hp}{s:Sd}(I:Inv X pins σ H s):(X.N.take n).length+(σ.drop n).length=X.N.length:=by
 rw[CQ,EJ,I.len];omega
theorem i69 {n:Nat}{e:Expr}{te:TE}(he:PE (X.cut n) e te):PE X e (fun σ H Q=>(∀ v,some v∉σ.drop n)/\te (σ.take n) H Q):=by
 constructor;intro pins s σ H Q I ⟨h1,h⟩;refine thn (he pins s (σ.take n) H Q I.cut h) fun v s1 ⟨x,H1,I1,r1,q1⟩=>⟨x,H1,?_,r1,q1⟩
 have:=I1.uncut (τ:=σ.drop n) I.cutLen h1
 rwa[List.take_append_drop] at this
theorem i81 {n:Nat}{st:Stmt}{t:TS}(he:PS (X.cut n) st t):PS X st (fun D σ H=>(∀ v,some v∉σ.drop n)/\t { nx:=fun σ' H'=>D.nx (σ'++σ.drop n) H',rt:=D.rt } (σ.take n) H):=by
 constructor;intro pins s σ H D I ⟨h1,h⟩;refine thn (he pins s (σ.take n) H _ I.cut h) fun f s1 q=>?_
 match f,q with
 | .next,⟨σ',H',I',q⟩=>exact⟨_,H',I'.uncut I.cutLen h1,q⟩
 | .brk,⟨_,_,_,q⟩=>exact q.elim
 | .cont,⟨_,_,_,q⟩=>exact q.elim
 | .ret _,⟨v,σ',H',I',r,q⟩=>exact⟨v,_,H',I'.uncut I.cutLen h1,r,q⟩
def sSl (tv to:TE)(tl th:TO):TS:=fun D σ H=>tv σ H fun v H1=>to σ H1 fun x H2=>tl σ H2 fun l H3=>th σ H3 fun u H4=>∃ a b xs ys i j,x=.ref a/\v=.ref b/\a≠b/\H4 a=some (.lst xs)/\H4 b=some (.lst ys)/\l=some i/\u=some j/\0<=i/\i<=j/\i<=xs.length/\xs.length+ys.length<=zL/\D.nx σ (upd H4 a (.lst (xs.take i.toNat++ys++xs.drop j.toNat)))
theorem h01 {o value:Expr}{lo hi:Option Expr}{to tv:TE}{tl th:TO}{p2 pos' pos:Pos}(hv:PE X value tv)(ho:PE X o to)(hl:PO X lo tl)(hu:PO X hi th)(hs:swapsWithSole [.Subscript o (.Slice lo hi none p2) pos'] value pos.line X.env=pure false:=by rfl)(hw:swappedStores [.Subscript o (.Slice lo hi none p2) pos'] value X.env=pure none:=by rfl)
 (h1:(assignEach [.Subscript o (.Slice lo hi none p2) pos'] X.env).map (·.2)=[assign (.Subscript o (.Slice lo hi none p2) pos') X.env]:=by rfl)
 (ha:∀ v,assign (.Subscript o (.Slice lo hi none p2) pos') X.env v=(do
   let ov ← holding [v] (eval o X.env)
   let iv ← holding [v,ov] (eval (.Slice lo hi none p2) X.env)
   standAt pos'
   holding [v,ov,iv] (setItem ov iv v)
   release [iv,v,ov] []):=by intro _;rfl):PS X (.Assign [.Subscript o (.Slice lo hi none p2) pos'] value pos) (sSl tv to tl th):=by
 constructor;intro pins s σ H D I h;refine wpAny_Assign_stores (thn (hv pins s σ H _ I h) fun v s1 ⟨y,H1,I1,r1,q1⟩=>?_) hs hw;rw[h1];show wpAny _ _ (assign (.Subscript o (.Slice lo hi none p2) pos') X.env v) _ _ s1;rw[ha];refine AQ (wpAny_holding (thn (ho pins s1 σ H1 _ I1 q1) fun ov s2 ⟨x,H2,I2,r2,q2⟩=>?_));refine AQ (wpAny_holding (wpAny_Slice (thn (hl pins s2 σ H2 _ I2 q2) fun vl s3 ⟨l,H3,I3,pl,q3⟩=>thn (hu pins s3 σ H3 _ I3 q3) fun vu s4 ⟨u,H4,I4,pu,q4⟩=>?_)));rw[evalPart_none];refine AX ?_;have I5:Inv X pins σ H4 { s4 with heap:=s4.heap.push { cls:=.type "slice", data:=.fields #[vl,vu,.none] } }:=I4.kept (t':=s4.toks) fun b ob q=>Aq _ q
 obtain⟨a,b,xs,ys,i,j,rfl,rfl,hne,hA,hB,rfl,rfl,h0,hij,hin,hz,q⟩:=q4;cases r2;cases r1;obtain⟨z,its,n,r,hln,e⟩:=I5.lstM hA;obtain⟨z2,its2,n2,r',hln2,e2⟩:=I5.lstM hB;obtain⟨i',rfl⟩:=Int.eq_ofNat_of_zero_le h0;obtain⟨j',rfl⟩:=Int.eq_ofNat_of_zero_le (Int.le_trans h0 hij);refine AQ (wpAny_standAt (AQ (wpAny_holding ?_)));refine c57 (a:=i') (c:=min j' its.toArray.size) (c0:=j') e e2 hne (Heap.IsSliceOf.new ..) pl pu rfl (by rw[lS];lia) (by lia) (by rw[lS,lS];lia) ?_;refine wpAny_release ⟨σ,_,I5.lset (its':=its.take i'++its2++its.drop j') (t':=s4.toks) hA e ?_ (Vals.append (Vals.append (r.take _) r') (r.drop _)) ?_,q⟩
 ·have h:=f02 its its2 i' (min j' its.length);rw[show its.drop (min j' its.length)=its.drop j' from by
   rcases Nat.le_total j' its.length with q | q
   ·rw[Nat.min_eq_left q]
   ·rw[Nat.min_eq_right q,List.drop_eq_nil_of_le (AZ _),List.drop_eq_nil_of_le q]] at h
  exact h
 ·rw[Bj,Bj,CQ,EJ];lia
end
section
variable {X:Cx}
end
end L2
namespace L2
open PySem PySem.Spec PyProof.Rows
theorem FnScope.of {N P:List Str}{sc:Scope}(h1:sc.kind=.function:=by rfl)(h2:sc.isCoroutine=false:=by rfl)(h3:sc.isGenerator=false:=by rfl)(h:N.Nodup/\N.take P.length=P/\(∀ x∈P,sc.names.lookup x=some .local∨sc.names.lookup x=some .cell)/\∀ y∈sc.names,y.2≠.free:=by decide +kernel):FnScope N P sc:=⟨h1,h2,h3,h.1,h.2.1,h.2.2.1,h.2.2.2⟩
theorem CompScopeG.of {osc:Scope}{oN:List Str}{scope:Scope}{x:Str}(h1:scope.kind=.function:=by rfl)(h:(∀ q∈scope.names,q.2≠.cell)/\(∀ q∈scope.names,q.2=.local->scope.names.lookup q.1=some .local)/\scope.names.lookup x=some .local/\(∀ q∈scope.names,q.2=.free->osc.names.lookup q.1=some .cell∨osc.names.lookup q.1=some .free)/\∀ q∈scope.names,q.2=.local->q.1=x∨q.1∉oN:=by decide +kernel):b04 osc oN scope x:=⟨h1,h.1,h.2.1,h.2.2.1,h.2.2.2.1,h.2.2.2.2⟩
section
variable {X:Cx}{pos:Pos}
theorem a43 (i:Nat){x:Str}{e:Expr}{te:TE}{pos':Pos}(hN:X.N.Nodup)(he:PE X e te)(hi:X.N[i]?=some x:=by rfl)(hx:X.env.scope.names.lookup x=some .local:=by rfl)(hs:swapsWith e (some (.Name x pos')) pos.line X.env=pure false:=by rfl)(hf:X.fn x=true∨X.env.scope.names.lookup x=some .local:=by first | exact .inl rfl | exact .inr rfl):PS X (.Assign [.Name x pos'] e pos) (i18 te (b65 i)):=c21 hN hi (.inl hx) he hs hf
end
end L2
namespace K22
open PySem L2
variable {P:Pm}{w:World}{K:WFr}{mg:Str->Option Value}{base:Heap}
def top (i:Nat):Stmt:=PySem.Challenge.pw_overfold_k23_rows_in_their_places.main.body.getD i (.Pass ⟨0,0,0,0⟩)
abbrev e02:Stmt:=top 18
abbrev d97:Stmt:=top 19
abbrev c41:Stmt:=top 20
abbrev c45:Stmt:=top 21
abbrev d64:Stmt:=top 26
abbrev d71:Stmt:=top 27
abbrev c40:Stmt:=top 28
abbrev b46:Stmt:=top 32
abbrev d05:Stmt:=top 34
abbrev c36:Stmt:=top 35
abbrev d93:Stmt:=top 36
abbrev d77:Stmt:=top 37
abbrev e00:Stmt:=top 38
abbrev sBox:Stmt:=top 40
abbrev h77:Stmt:=top 41
abbrev h73:Stmt:=top 42
abbrev i11:Stmt:=top 43
abbrev c83:Stmt:=top 44
abbrev d02:Stmt:=top 45
abbrev h84:Stmt:=top 46
abbrev h48:Stmt:=top 47
abbrev f52:Stmt:=top 48
abbrev b95:Stmt:=top 49
abbrev c38:Stmt:=top 50
abbrev c98:Stmt:=top 51
abbrev h97:Stmt:=top 52
abbrev d33:Stmt:=top 53
abbrev d78:Stmt:=top 54
abbrev e01:Stmt:=top 55
abbrev c87:Stmt:=top 56
abbrev d89:Stmt:=top 57
abbrev sDue:Stmt:=top 58
abbrev h98:Stmt:=top 59
abbrev c07:Stmt:=top 60
abbrev c74:Stmt:=top 61
abbrev h22:Stmt:=top 62
abbrev g14:Stmt:=b70 (top 11) 0
abbrev g20:Stmt:=b70 (top 33) 0
abbrev c89:Stmt:=b70 (top 33) 1
abbrev b43:Stmt:=b70 (top 33) 2
abbrev b88:Stmt:=b70 (top 33) 3
abbrev c97:Stmt:=b70 (top 33) 4
abbrev c08:Stmt:=b70 (top 33) 5
theorem e08 {α β:Type}{G A:α->β->Prop}{goal:Prop}(use:(∀ a b,A a b->G a b)->goal)(rest:∀ a b,A a b->G a b):goal:=use rest
def Kp (S:List Addr)(H H':Hp):Prop:=∀ a o,H a=some o->a∉S->H' a=some o
section
variable {S T:List Addr}{H H1 H2:Hp}
theorem Kp.refl (S:List Addr)(H:Hp):Kp S H H:=fun _ _ h _=>h
theorem Kp.trans (h:Kp S H H1)(h':Kp S H1 H2):Kp S H H2:=fun a o e n=>h' a o (h a o e n) n
theorem Kp.mono (h:Kp S H H1)(hs:∀ a∈S,a∈T):Kp T H H1:=fun a o e n=>h a o e fun q=>n (hs a q)
theorem Kp.of (h:Same H H1):Kp S H H1:=fun a o e _=>h a o e
theorem Kp.new {a:Addr}{o:HO}(h:Kp S H H1)(e:H1 a=none):Kp S H (upd H1 a o):=fun b u q n=>by
 rw[a07 (a04 (h b u q n) e)];exact h b u q n
theorem Kp.set {a:Addr}{o:HO}(h:Kp S H H1)(e:a∈S):Kp S H (upd H1 a o):=fun b u q n=>by
 rw[a07 (fun z=>n (by rw[z];exact e))];exact h b u q n
theorem Kp.free (h:Kp S H H1){l:Addr}(n:l∉S)(e:H1 l=none):H l=none:=by
 cases q:H l with
 | none=>rfl
 | some o=>rw[h l o q n] at e;cases e
def Tk (H H':Hp):Prop:=∀ a xs,H a=some (.tup xs)->H' a=some (.tup xs)
theorem Tk.trans (h:Tk H H1)(h':Tk H1 H2):Tk H H2:=fun a xs e=>h' a xs (h a xs e)
theorem Tk.of (h:Same H H1):Tk H H1:=fun a xs e=>h a _ e
theorem Kp.tk (h:Kp S H H1)(hs:∀ a∈S,∀ xs,H a≠some (.tup xs)):Tk H H1:=fun a xs e=>h a _ e fun q=>hs a q xs e
end
theorem d47 (sep:Str)(hs:sep.cps=#[]):∀(rest:List Str)(acc:Array Nat),(rest.foldl (fun acc p=>acc++sep.cps++p.cps) acc).toList=acc.toList++(rest.map fun t=>t.cps.toList).flatten
 | [],acc=>by simp
 | p::r,acc=>by
  rw[List.foldl_cons,d47 sep hs r,hs];simp
theorem f01 (ts:List Str):(Txt.join ("" : Str) ts).cps.toList=(ts.map fun t=>t.cps.toList).flatten:=by
 have e0:("" : Str).cps=#[]:=by decide +kernel
 cases ts with
 | nil=>first | rfl | decide +kernel
 | cons p r =>
  show(Builtin.Str.glued ("" : Str) (p::r)).cps.toList=_
  have:=d47 ("" : Str) e0 r p.cps
  rw[Cz,List.flatten_cons,← this];first | rfl | simp[Builtin.Str.glued]
def someW:List Str:=["a", "aa", "ab", "b", "ba", "box", "c", "folder", "m", "mm", "quartzes", "z", "zebra", "n"]
def LTS:Str := "abcdefghijklmnopqrstuvwxyz"
def SGN:Str := " !\"#$&'()*+,-./0123456789:;<=>?@ABCDEFGHIJKLMNOPQRSTUVWXYZ[\\]^_`abcdefghijklmnopqrstuvwxyz{|}~"
theorem g81:LTS.cps.size=26:=by decide +kernel
theorem g64:SGN.cps.size=94:=by decide +kernel
theorem g99:("" : Str).cps.size=0:=by decide +kernel
theorem d95 {α:Type}(f:α->V){xs:List α}{i:Int}(d:α)(h0:0<=i)(h1:i < (xs.length:Int)):atI (xs.map f) i=some (f (xs.getD i.toNat d)):=by
 have hl:i.toNat < xs.length:=by omega
 unfold atI ixN;rw[if_pos h0,if_pos (by rw[Aj];exact h1)];show(xs.map f)[i.toNat]?=_;rw[CJ,lG,Bx hl];rfl
theorem g90 (l:List Str):(Txt.join "" l).length=(l.map (·.length)).sum:=by
 have h:=f01 l;have e:(Txt.join "" l).length=(Txt.join "" l).cps.toList.length:=by rw[Cj];rfl
 rw[e,h,List.length_flatten,List.map_map];rfl
theorem h38 {l:List Str}{n:Nat}(h:∀ z∈l,z.length<=n):(l.map (·.length)).sum<=n * l.length:=by
 induction l with
 | nil=>exact Fx _
 | cons z l ih =>
  rw[Cz,List.sum_cons,Cq,Nat.mul_succ];have h1:=h z BX;have h2:=ih fun y hy=>h y (BQ _ hy);lia
theorem b09 {xs:List V}{i:Int}{v:V}(h0:0<=i)(h:xs[i.toNat]?=some v):atI xs i=some v:=by
 have hl:=(Ej.mp h).1;unfold atI ixN;rw[if_pos h0,if_pos (by lia)];exact h
theorem i02 {α:Type}{G A:α->Prop}{goal:Prop}(use:(∀ a,A a->G a)->goal)(rest:∀ a,A a->G a):goal:=use rest
theorem join3 {α β γ:Type}{G A:α->β->γ->Prop}{goal:Prop}(use:(∀ a b c,A a b c->G a b c)->goal)(rest:∀ a b c,A a b c->G a b c):goal:=use rest
theorem h47 {z:Str}{i:Int}(h0:0<=i)(h1:i < (z.cps.size:Int)):∃ c,atI z.cps.toList i=some c:=by
 have hl:i.toNat < z.cps.toList.length:=by rw[Cj];lia
 exact⟨z.cps.toList[i.toNat],by
  unfold atI ixN;rw[if_pos h0,if_pos (by rw[Cj];exact h1)];show z.cps.toList[i.toNat]?=_;rw[Bx hl]⟩
def Strs (n:Nat) (ys:List V) (i:Nat):Prop:=∃ zs:List Str,ys=zs.map V.str/\zs.length=i/\∀ z∈zs,z.length<=n
theorem Strs.nil (n:Nat):Strs n [] 0:=⟨[],rfl,rfl,fun _ q=>nomatch q⟩
theorem Strs.snoc {n i:Nat}{ys:List V}{z:Str}(h:Strs n ys i)(q:z.length<=n):Strs n (ys++[V.str z]) (i+1):=by
 obtain⟨zs,rfl,rfl,h⟩:=h;exact⟨zs++[z],by rw[Bz];rfl,Bj,fun y hy=>(Bq.mp hy).elim (h y) fun e=>Ax.mp e ▸ q⟩
theorem Strs.len {n i:Nat}{ys:List V}(h:Strs n ys i):ys.length=i:=by
 obtain⟨zs,rfl,rfl,_⟩:=h;exact Aj _
def BxAt (H:Hp)(b:Addr) (n:Nat):Prop:=∃ d x c:Int,H b=some (.lst [.int d,.int x,.int c])/\0<=d/\0<=c/\c+n<=1000000
section
variable {H H':Hp}{b a:Addr}{n m:Nat}
theorem BxAt.mono (h:BxAt H b n)(q:m<=n):BxAt H b m:=let ⟨d,x,c,e,h1,h2,h3⟩:=h;⟨d,x,c,e,h1,h2,by lia⟩
theorem BxAt.ne (h:BxAt H b n)(q:H a=none):b≠a:=let ⟨_,_,_,e,_⟩:=h;a04 e q
theorem BxAt.up {o:HO}(h:BxAt H b n)(q:H a=none):BxAt (upd H a o) b n:=let ⟨d,x,c,e,r⟩:=h;⟨d,x,c,by rw[a07 (a04 e q)];exact e,r⟩
theorem BxAt.same (h:BxAt H b n)(k:Same H H'):BxAt H' b n:=let ⟨d,x,c,e,r⟩:=h;⟨d,x,c,k _ _ e,r⟩
theorem BxAt.kp {S:List Addr}(h:BxAt H b n)(k:Kp S H H')(q:b∉S):BxAt H' b n:=let ⟨d,x,c,e,r⟩:=h;⟨d,x,c,k _ _ e q,r⟩
theorem BxAt.nt (h:BxAt H b n):∀ ys,H b≠some (.tup ys):=fun ys q=>by obtain⟨_,_,_,e,_⟩:=h;rw[e] at q;cases q
theorem BxAt.tk (h:BxAt H b n)(k:Kp [b] H H'):Tk H H':=k.tk fun a ha=>by rw[Ax.mp ha];exact h.nt
theorem BxAt.keep {c:Addr}{o:HO}(h:BxAt H b n)(k:Kp [b] H H')(q:b≠c)(e:H c=some o):H' c=some o:=k _ _ e fun z=>q (Ax.mp z).symm
end
def g61 (K:WFr):Sp:=fun vs H Q _=>∃(a:Addr) (ns:List Int) (k:Nat),vs=[.ref a,.int k]/\SqL K H a (ns.map V.int)/\k<=100/\ns.length<=63/\∀(t:Addr)(H':Hp),H t=none->BxAt H' t 1000000->Same H H'->Q (.ref t) H'
def c72:Sp:=fun vs H Q _=>∃(b:Addr) (n:Nat) (m:Int),vs=[.ref b,.int m]/\0 < m/\m < 1073741824/\BxAt H b (n+1)/\∀(x:Int)(H':Hp),0<=x->x < m->BxAt H' b n->Kp [b] H H'->Q (.int x) H'
section
theorem scBox:FnScope ["_law_script", "_law_k", "_law_cell", "_law_digits"] ["_law_script", "_law_k"] (a41 sBox):=.of
theorem i40 {f:Addr}{fd:FD}(F:Fun K "_law_box" "_law_box" sBox f fd)(mLen:mg "len" = none)(mAbs:mg "abs" = none):FnOk P w K mg base CX0 1 f fd ["_law_script", "_law_k"] (g61 K):=by
 refine F.ok scBox (fun vs H Q E h=>?_) (fun cdv A outer s H vs Q E hr h=>?_)
 ·obtain⟨a,ns,k,rfl,_⟩:=h;rfl
 ·obtain⟨a,ns,k,rfl,hS,hk,hlen,kk⟩:=h;have nd:=scBox.nd;refine⟨_,a03 (a43 2 nd a05)
   (a03 (a46 (a08 c58 (pv 1) (a09 a36 (by rfl) mLen bLn (a00 (pv 0) a02)) (a38 _)) (a06 (a43 2 nd (a45 a44 (pv 0) (pv 1)))) a39)
   (a03 (a43 3 nd a05)
   (a03 (a46 (a08 g71 (a09 e13 (by rfl) mAbs PyProof.Rows.boot_abs (a00 (pv 2) a02)) (a47 i75 a05 a05) (a38 _)) (a06 (a43 3 nd (a09 e13 (by rfl) mAbs PyProof.Rows.boot_abs (a00 (pv 2) a02)))) a39)
   (a06 (a40 (a56 (a00 (pv 3) (a00 (a47 b31 (a47 c15 (a47 a80 (a47 a80 (a47 b31 (pv 2) a05) (a47 c15 a05 (pv 1))) a05) a05) a05) (a00 a05 a02)))))))))  , ?_⟩
  refine⟨_,rfl,_,rfl,a,_,rfl,.inl hS,_,_,rfl,rfl,_,rfl,?_⟩;refine' i02 (A:=fun(c:Int)=>True) (fun rest=>a50 (fun h1=>?b1) (fun h1=>?b2)) ?b3
  case b1 =>
   have h1':(k:Int) < ((ns.map V.int).length:Nat):=AJ h1;rw[Aj] at h1';refine⟨_,rfl,_,rfl,a,_,_,_,rfl,rfl,hS,d95 V.int 0 (by omega) h1',?_⟩;generalize ns.getD _ 0=c;exact rest c trivial
  case b2=>exact rest 0 trivial
  case b3 =>
   rintro c _;refine⟨_,rfl,c,rfl,_,_,rfl,rfl,⟨by decide,by decide,by decide⟩,_,_,rfl,rfl,_,rfl,?_⟩;refine' i02 (A:=fun(d:Int)=>0<=d) (fun rest=>a50 (fun h2=>?c1) (fun h2=>?c2)) ?c3
   case c1 =>
    refine⟨_,rfl,c,rfl,?_⟩;have q:0<=(if c < 0 then -c else c):=by split <;> omega
    generalize (if c < 0 then -c else c)=d at q ⊢;exact rest d q
   case c2=>exact rest 0 (Int.le_refl _)
   case c3 =>
    rintro d hd;exact⟨_,rfl,_,rfl,_,_,rfl,rfl,(show(0:Int) < 2147483647 by decide),_,rfl,_,_,rfl,rfl,.inl ⟨by decide,by decide⟩,_,_,rfl,rfl,_,_,rfl,rfl,_,_,rfl,rfl,.inr ⟨by decide,by decide⟩,_,_,rfl,rfl,(show(0:Int) < 2147483629 by decide),by show 3<=zL;decide,fun t ht=>kk t _ ht ⟨_,_,_,a01,hd,by decide,by decide⟩ ((Same.refl H).upd ht)⟩
theorem scTake:FnScope ["_law_box_here", "_law_many", "_law_found", "_law_once"] ["_law_box_here", "_law_many"] (a41 h77):=.of
theorem h61 {f:Addr}{fd:FD}(F:Fun K "_law_take" "_law_take" h77 f fd):FnOk P w K mg base CX0 1 f fd ["_law_box_here", "_law_many"] c72:=by
 refine F.ok scTake (fun vs H Q E h=>?_) (fun cdv A outer s H vs Q E hr h=>?_)
 ·obtain⟨b,n,m,rfl,_⟩:=h;rfl
 ·obtain⟨b,n,m,rfl,hm0,hm1,⟨d,x,c,hb,hd,hc0,hc1⟩,kk⟩:=h;have nd:=scTake.nd;refine⟨_,a03 (a46 (a08 b92 (a45 a44 (pv 0) a05) a05 (a38 _))
   (a03 (a43 2 nd (a47 b31 (a45 a44 (pv 0) a05) (pv 1)))
   (a03 (d29 (a47 d85 (a45 a44 (pv 0) a05) (pv 1)) (c68 (pv 0) a05 b44))
   (a06 (a40 (pv 2))))) a39)
   (a03 (d29 (a47 a80 (a45 a44 (pv 0) a05) a05) (c68 (pv 0) a05 b44))
   (a03 (a43 3 nd (a47 b31 (a47 c15 (a47 a80 (a45 a44 (pv 0) a05) (a47 c15 a05 (a45 a44 (pv 0) a05))) (a47 a80 a05 (a45 a44 (pv 0) a05))) a05))
   (a03 (d29 (a47 b31 (a47 a80 (a47 c15 (pv 3) (a47 a80 (a47 b31 (pv 3) a05) a05)) (a45 a44 (pv 0) a05)) a05) (c68 (pv 0) a05 b44))
   (a06 (a40 (a47 b31 (a47 d85 (a47 b31 (a47 c15 (a45 a44 (pv 0) a05) (a47 a80 (a47 b31 (a45 a44 (pv 0) a05) a05) a05)) a05) a05) (pv 1))))))),?_⟩
  refine⟨_,rfl,b,_,_,_,rfl,rfl,SqL.of hb,rfl,_,_,rfl,rfl,_,rfl,?_⟩;refine a50 (fun h1=>?_) (fun h1=>?_)
  ·refine⟨_,rfl,b,_,_,_,rfl,rfl,SqL.of hb,rfl,_,rfl,_,_,rfl,rfl,hm0,?_⟩;refine⟨_,rfl,b,_,_,_,rfl,rfl,SqL.of hb,rfl,_,rfl,_,_,rfl,rfl,⟨hm0,hm1⟩,_,rfl,b,_,_,_,rfl,rfl,hb,rfl,?_⟩;exact⟨_,rfl,kk _ _ (Int.emod_nonneg _ (by lia)) (EX _ hm0) ⟨_,_,_,a01,Int.ediv_nonneg hd (by lia),hc0,by lia⟩ ((Kp.refl _ H).set (Ax.mpr rfl))⟩
  ·refine⟨_,rfl,b,_,_,_,rfl,rfl,SqL.of hb,rfl,_,_,rfl,rfl,_,rfl,b,_,_,_,rfl,rfl,hb,rfl,?_⟩;have hb1:(upd H b (.lst [.int d,.int x,.int (c+1)])) b=some (.lst [.int d,.int x,.int (c+1)]):=a01;refine⟨_,rfl,b,_,_,_,rfl,rfl,SqL.of hb1,rfl,_,rfl,b,_,_,_,rfl,rfl,SqL.of hb1,rfl,_,_,rfl,rfl,.inl ⟨by decide,by decide⟩,_,_,rfl,rfl,_,rfl,b,_,_,_,rfl,rfl,SqL.of hb1,rfl,_,_,rfl,rfl,_,_,rfl,rfl,.inr ⟨by show -(2 ^ 64) < 48271+(c+1);lia,by show 48271+(c+1) < 2 ^ 64;lia⟩,_,_,rfl,rfl,(show(0:Int) < 2147483647 by decide),?_⟩;generalize (x+39373 * (c+1)) * (48271+(c+1))=u;refine⟨_,rfl,_,rfl,_,_,rfl,rfl,(show(0:Int) < 40009 by decide),_,_,rfl,rfl,_,_,rfl,rfl,.inl (d57 u (by decide) (by decide)),_,rfl,b,_,_,_,rfl,rfl,SqL.of hb1,rfl,_,_,rfl,rfl,_,_,rfl,rfl,(show(0:Int) < 2147483629 by decide),_,rfl,b,_,_,_,rfl,rfl,hb1,rfl,?_⟩;rw[h83];generalize u % 2147483647 * (u % 2147483647 % 40009+7)+(c+1)=v;have hb2:(upd H b (.lst [.int d,.int (v % 2147483629),.int (c+1)])) b=some (.lst [.int d,.int (v % 2147483629),.int (c+1)]):=a01;refine⟨_,rfl,b,_,_,_,rfl,rfl,SqL.of hb2,rfl,_,rfl,b,_,_,_,rfl,rfl,SqL.of hb2,rfl,_,_,rfl,rfl,(show(0:Int) < 1009 by decide),_,_,rfl,rfl,_,_,rfl,rfl,.inl (d57 v (by decide) (by decide)),_,_,rfl,rfl,(show(0:Int) < 998244353 by decide),_,_,rfl,rfl,⟨by decide,by decide⟩,_,rfl,_,_,rfl,rfl,hm0,?_⟩;exact kk _ _ (Int.emod_nonneg _ (by lia)) (EX _ hm0) ⟨_,_,_,hb2,hd,by lia,by lia⟩ ((Kp.refl _ H).set (Ax.mpr rfl))
end
theorem f86 (i:Nat):(someW.getD i "").length<=8:=by
 rw[lG];cases q:someW[i]? with
 | none=>decide
 | some z=>exact(show ∀ z∈someW,z.length<=8 by decide +kernel) z (BJ q)
theorem f65 {n i:Nat}{zs:List Str}(hl:zs.length=i)(h:∀ z∈zs,z.length<=n):(Txt.join "" zs).length<=n * i/\(zs.map (·.length)).sum+zs.length * ("" : Str).length<=n * i:=by
 have:=h38 h
 rw[g90,show("" : Str).length=0 from g99,← hl];exact⟨this,this⟩
def d50:Sp:=fun vs H Q _=>∃(b:Addr) (n:Nat),vs=[.ref b]/\BxAt H b (n+10)/\∀(z:Str)(H':Hp),z.length<=8->BxAt H' b n->Kp [b] H H'->Q (.str z) H'
def e58:Sp:=fun vs H Q _=>∃(b:Addr) (n:Nat),vs=[.ref b]/\BxAt H b (n+6)/\∀(z:Str)(H':Hp),z.length<=200->BxAt H' b n->Kp [b] H H'->Q (.str z) H'
structure Pth (zs:List Str):Prop where
 len:zs.length<=9
 nam:∀ z∈zs,z.length<=8
def h15:Sp:=fun vs H Q _=>∃(b:Addr) (n:Nat),vs=[.ref b]/\BxAt H b (n+82)/\∀(t:Addr) (zs:List Str)(H':Hp),H t=none->Pth zs->H' t=some (.tup (zs.map V.str))->BxAt H' b n->Kp [b] H H'->Q (.ref t) H'
section
abbrev b58 (P:Pm)(w:World)(K:WFr) (mg:Str->Option Value)(base:Heap):Prop:=Def P w K mg base 1 "_law_take" ["_law_box_here", "_law_many"] c72
theorem scWord:FnScope ["_law_box_here", "_law_some", "_law_letters"] ["_law_box_here"] (a41 h73):=.of
theorem h87 {f:Addr}{fd:FD}(F:Fun K "_law_word" "_law_word" h73 f fd)(mRange:mg "range" = none)(DT:b58 P w K mg base):FnOk P w K mg base CX0 2 f fd ["_law_box_here"] d50:=by
 refine F.ok scWord (fun vs H Q E h=>?_) (fun cdv A outer s H vs Q E hr h=>?_)
 ·obtain⟨b,n,rfl,_⟩:=h;rfl
 ·obtain⟨b,n,rfl,hb,kk⟩:=h;have nd:=scWord.nd;refine⟨_,a03 (a43 1 nd (a56 (a00 a37 (a00 a37 (a00 a37 (a00 a37 (a00 a37 (a00 a37 (a00 a37 (a00 a37 (a00 a37 (a00 a37 (a00 a37 (a00 a37 (a00 a37 (a00 a37 a02))))))))))))))))
   (a03 (a46 (a08 a58 (a42 DT hr (a00 (pv 0) (a00 a05 a02))) a05 (a38 _))
     (a03 (c21 (i:=2) nd rfl (Or.inr rfl) a37)
     (a06 (a40 (a77 pS PySem.F.slot_str_join PySem.F.type_str_join c53 a37 (a00 (a82 (x := "_law_k") scWord .of (by decide +kernel)
       (b05 rfl mRange (a00 (a47 a80 a05 (a42 DT hr (a00 (pv 0) (a00 a05 a02)))) a02))
       (fun C fp s H=>a45 e25 (pv 2) (a42 DT hr (a00 (pv 0) (a00 a05 a02))))) a02))))) a39)
   (a06 (a40 (a45 a44 (pv 1) (a42 DT hr (a00 (pv 0) (a00 a05 a02))))))),?_⟩
  refine⟨by show 14<=zL;decide,fun l hl=>?_⟩;have nlb:=hb.ne hl;refine⟨_,rfl,b,n+9,4,rfl,by decide,by decide,hb.up hl,fun x H2 _ _ hb2 k2=>⟨rfl,_,rfl,?_⟩⟩;have k1:Kp [b] H H2:=((Kp.refl _ H).new hl).trans k2;have hl2:H2 l=some (.lst (someW.map V.str)):=(hb.up hl).keep k2 nlb a01;refine a50 (fun h1=>?_) (fun h1=>?_)
  ·refine⟨rfl,_,rfl,b,n+8,8,rfl,by decide,by decide,hb2,fun y H3 l8 u8 hb3 k3=>⟨_,_,rfl,rfl,_,rfl,by lia,by lia,?_⟩⟩;refine c09 (n:=(1+y).toNat) (fun i ys H'=>Strs 1 ys i/\BxAt H' b (n+8-i)/\Kp [b] H H') (by rw[sizeLine_eq];lia) ⟨.nil _,hb3,k1.trans k3⟩ (fun i ys H' h=>h.1.len) ?_ ?_
   ·rintro i ys H' hi ⟨e1,hb',k'⟩;refine⟨_,rfl,_,rfl,b,n+8-(i+1),26,rfl,by decide,by decide,hb'.mono (by lia),fun z H4 l4 u4 hb4 k4=>?_⟩;obtain⟨c,hc⟩:=h47 (z:=LTS) l4 (by rw[g81];exact u4);exact⟨LTS,_,c,rfl,rfl,by show LTS.cps.size<=zL;decide +kernel,hc,e1.snoc (AZ 1),hb4,k'.trans k4⟩
   ·rintro ys H' ⟨⟨zs,rfl,hz,hz'⟩,hb',k'⟩ L hL;obtain⟨j1,j2⟩:=f65 hz hz';exact⟨_,L,zs,rfl,rfl,SqL.of a01,by lia,kk _ _ (by lia) ((hb'.mono (by lia)).up hL) (k'.new hL)⟩
  ·refine⟨_,rfl,_,rfl,b,n+8,14,rfl,by decide,by decide,hb2,fun y H3 l3 u3 hb3 k3=>?_⟩;exact⟨l,_,_,_,rfl,rfl,SqL.of (hb2.keep k3 nlb hl2),d95 V.str "" l3 u3,kk _ H3 (f86 _) (hb3.mono (by lia)) (k1.trans k3)⟩
theorem pick3 {α:Type}(P:α->Prop){x y z d:α}{i:Int}(h0:0<=i)(h1:i < 3)(hx:P x)(hy:P y)(hz:P z):P ([x,y,z].getD i.toNat d):=by
 have:i.toNat=0∨i.toNat=1∨i.toNat=2:=by lia
 rcases this with e | e | e <;> rw[e] <;> assumption
theorem scText:FnScope ["_law_box_here", "_law_signs", "_law_many", "_law_first", "_law_step"] ["_law_box_here"] (a41 i11):=.of
theorem i08 {f:Addr}{fd:FD}(F:Fun K "_law_text" "_law_text" i11 f fd)(mRange:mg "range" = none)(DT:b58 P w K mg base):FnOk P w K mg base CX0 2 f fd ["_law_box_here"] e58:=by
 refine F.ok scText (fun vs H Q E h=>?_) (fun cdv A outer s H vs Q E hr h=>?_)
 ·obtain⟨b,n,rfl,_⟩:=h;rfl
 ·obtain⟨b,n,rfl,hb,kk⟩:=h;have nd:=scText.nd;refine⟨_,a03 (c21 (i:=1) nd rfl (Or.inr rfl) a37)
   (a03 (a43 2 nd (a42 DT hr (a00 (pv 0) (a00 a05 a02))))
   (a03 (a46 (a08 a58 (a42 DT hr (a00 (pv 0) (a00 a05 a02))) a05 (a38 _))
     (a06 (a43 2 nd (a45 a44 (a56 (a00 (a42 DT hr (a00 (pv 0) (a00 a05 a02))) (a00 a05 (a00 a05 a02)))) (a42 DT hr (a00 (pv 0) (a00 a05 a02)))))) a39)
   (a03 (c21 (i:=3) nd rfl (Or.inr rfl) (a42 DT hr (a00 (pv 0) (a00 a05 a02))))
   (a03 (c21 (i:=4) nd rfl (Or.inr rfl) (a42 DT hr (a00 (pv 0) (a00 a05 a02))))
   (a06 (a40 (a77 pS PySem.F.slot_str_join PySem.F.type_str_join c53 a37 (a00 (a82 (x := "_law_k") scText .of (by decide +kernel)
     (b05 rfl mRange (a00 (pv 2) a02))
     (fun C fp s H=>a45 e25 (pv 1) (a47 b31 (a47 a80 (pv 3) (a47 c15 (pv 5) (pv 4))) a05))) a02)))))))),?_⟩
  refine⟨_,rfl,b,n+5,8,rfl,by decide,by decide,hb,fun x1 H1 l1 u1 hb1 k1=>?_⟩;refine⟨_,rfl,b,n+4,8,rfl,by decide,by decide,hb1,fun x2 H2 _ _ hb2 k2=>⟨rfl,_,rfl,?_⟩⟩;refine' e08 (A:=fun(c:Int)(H':Hp)=>0<=c/\c<=200/\BxAt H' b (n+2)/\Kp [b] H H') (fun rest=>a50 (fun h1=>?b1) (fun h1=>?b2)) ?b3
  case b1 =>
   refine⟨_,rfl,b,n+3,201,rfl,by decide,by decide,hb2,fun x3 H3 l3 u3 hb3 k3=>⟨by show 3<=zL;decide,fun l hl=>?_⟩⟩;refine⟨_,rfl,b,n+2,3,rfl,by decide,by decide,hb3.up hl,fun x4 H4 l4 u4 hb4 k4=>?_⟩;have hl4:H4 l=some (.lst ([x3,200,199].map V.int)):=(hb3.up hl).keep k4 (hb3.ne hl) a01;refine⟨l,_,_,_,rfl,rfl,SqL.of hl4,d95 V.int 0 l4 u4,?_⟩;have q:=pick3 (fun z:Int=>0<=z/\z<=200) (x:=x3) (y:=200) (z:=199) (d:=0) l4 u4 ⟨l3,by lia⟩ (by decide) (by decide);generalize [x3,200,199].getD x4.toNat 0=c at q ⊢;exact rest c H4 ⟨q.1,q.2,hb4,k1.trans (k2.trans ((k3.new hl).trans k4))⟩
  case b2=>exact rest x1 H2 ⟨l1,by lia,hb2.mono (by lia),k1.trans k2⟩
  case b3 =>
   rintro c H5 ⟨c0,c2,hb5,k5⟩;refine⟨_,rfl,b,n+1,94,rfl,by decide,by decide,hb5,fun y1 H6 _ _ hb6 k6=>?_⟩;refine⟨_,rfl,b,n,94,rfl,by decide,by decide,hb6,fun y2 H7 l7 u7 hb7 k7=>?_⟩;refine⟨rfl,_,rfl,_,rfl,by lia,by lia,?_⟩;refine c09 (n:=c.toNat) (fun i ys H'=>H'=H7/\Strs 1 ys i) (by rw[sizeLine_eq];lia) ⟨rfl,.nil _⟩ (fun i ys H' h=>h.2.len) ?_ ?_
   ·rintro i ys H' hi ⟨rfl,e1⟩;obtain⟨c,hc⟩:=h47 (z:=SGN) (i:=(y1+(0+(i:Int)) * y2) % 94) (Int.emod_nonneg _ (by decide)) (by rw[g64];exact EX _ (by decide));refine⟨_,rfl,_,rfl,_,rfl,_,rfl,_,_,rfl,rfl,.inr ⟨by lia,by lia⟩,_,_,rfl,rfl,_,_,rfl,rfl,(show(0:Int) < 94 by decide),?_⟩;exact⟨SGN,_,c,rfl,rfl,by show SGN.cps.size<=zL;decide +kernel,hc,rfl,e1.snoc (AZ 1)⟩
   ·rintro ys H' ⟨rfl,zs,rfl,hz,hz'⟩ L hL;obtain⟨j1,j2⟩:=f65 hz hz';exact⟨_,L,zs,rfl,rfl,SqL.of a01,by lia,kk _ _ (by lia) (hb7.up hL) ((k5.trans (k6.trans k7)).new hL)⟩
theorem scAny:FnScope ["_law_box_here", "_law_many"] ["_law_box_here"] (a41 c83):=.of
theorem i64 {f:Addr}{fd:FD}(F:Fun K "_law_any_path" "_law_any_path" c83 f fd)(mRange:mg "range" = none)(mInt:mg "int" = none)(mTuple:mg "tuple" = none)(DT:b58 P w K mg base)
 (DW:Def P w K mg base 2 "_law_word" ["_law_box_here"] d50):FnOk P w K mg base CX0 3 f fd ["_law_box_here"] h15:=by
 refine F.ok scAny (fun vs H Q E h=>?_) (fun cdv A outer s H vs Q E hr h=>?_)
 ·obtain⟨b,n,rfl,_⟩:=h;rfl
 ·obtain⟨b,n,rfl,hb,kk⟩:=h;have hr1:Room 1 _:=hr.mono (by decide);have nd:=scAny.nd;refine⟨_,a03 (a43 1 nd (a47 a80 (a47 a80 a05 (a42 DT hr1 (a00 (pv 0) (a00 a05 a02))))
   (a47 c15 a05 (a63 d21 (by rfl) mInt PyProof.Rows.Boot.int (a00 (a98 a58 (a42 DT hr1 (a00 (pv 0) (a00 a05 a02))) a05 (a38 _)) a02)))))
   (a06 (a40 (a63 a64 (by rfl) mTuple PyProof.Rows.Boot.tuple (a00 (a82 (x := "_law_k") scAny .of (by decide +kernel)
     (b05 rfl mRange (a00 (pv 1) a02))
     (fun C fp s H=>a42 DW hr (a00 (pv 0) a02))) a02)))),?_⟩
  refine⟨_,rfl,b,n+81,3,rfl,by decide,by decide,hb,fun x H1 l1 u1 hb1 k1=>⟨_,_,rfl,rfl,?_⟩⟩;refine⟨_,rfl,b,n+80,16,rfl,by decide,by decide,hb1,fun y H2 _ _ hb2 k2=>⟨rfl,.inr ⟨_,rfl,_,_,rfl,rfl,.inl ⟨by decide,by decide⟩,_,_,rfl,rfl,?_⟩⟩⟩;have hm:0<=(1+x+5 * (if decide (V.int y=V.int 0)=true then(1:Int) else 0))/\(1+x+5 * (if decide (V.int y=V.int 0)=true then(1:Int) else 0))<=8:=by split <;> omega
  generalize hc:(1+x+5 * (if decide (V.int y=V.int 0)=true then(1:Int) else 0))=c at hm;refine⟨_,rfl,c,by rw[← hc],by omega,by omega,?_⟩;refine c09 (n:=c.toNat) (fun i ys H'=>Strs 8 ys i/\BxAt H' b (n+80-10 * i)/\Kp [b] H H') (by rw[sizeLine_eq];omega) ⟨.nil _,hb2,k1.trans k2⟩ (fun i ys H' h=>h.1.len) ?_ ?_
  ·rintro i ys H' hi ⟨e1,hb',k'⟩;exact⟨_,rfl,b,n+80-10 * (i+1),rfl,hb'.mono (by omega),fun z H4 hz hb4 k4=>⟨e1.snoc hz,hb4,k'.trans k4⟩⟩
  ·rintro ys H' ⟨⟨zs,rfl,hz,hz'⟩,hb',k'⟩ L hL;refine⟨L,_,rfl,.inl ⟨SqL.of a01,fun t ht=>?_⟩⟩;have bL:=hb'.up (o:=.lst (zs.map V.str)) hL;have ntL:L≠t:=a04 a01 ht;refine kk t zs _ ?_ ⟨by omega,hz'⟩ a01 ((bL.mono (by omega)).up ht) ((k'.new hL).new ht);have nb:=bL.ne ht;rw[a07 (Ne.symm ntL)] at ht;exact k'.free (by simpa using Ne.symm nb) ht
end
inductive Ent where
 | dir (o:Option (List Str))
 | fil (i:Int)
 | gone
abbrev Pr:=Option (List Str)×Option Str
def i45 (y:V)(x:Option Str):Prop:=match x with
 | none=>y=.non
 | some z=>y=.str z
def PairV (H:Hp) (v:V)(p:Pr):Prop:=∃ t w y,v=.ref t/\OptP H w p.1/\i45 y p.2/\H t=some (.tup [w,y])
def FoldV (H:Hp) (v:V) (zs:List Str):Prop:=∃ t,v=.ref t/\H t=some (.tup (zs.map V.str))
def EntV (H:Hp) (v:V) (p:List Str)(e:Ent):Prop:=∃ t pa,v=.ref t/\H pa=some (.tup (p.map V.str))/\match e with
 | .dir o=>∃ w,OptP H w o/\H t=some (.tup [.ref pa,.str "folder", w])
 | .fil i=>H t=some (.tup [.ref pa,.str "file", .int i])
 | .gone=>H t=some (.tup [.ref pa,.str "gone"])
theorem OptP.tk {H H':Hp}(k:Tk H H'){v:V}{o:Option (List Str)}(h:OptP H v o):OptP H' v o:=L2.OptP.mono (fun b xs=>k b xs) h
theorem PairV.tk {H H':Hp}(k:Tk H H'){v:V}{p:Pr}(h:PairV H v p):PairV H' v p:=by
 obtain⟨t,w,y,e,h1,h2,h3⟩:=h;exact⟨t,w,y,e,OptP.tk k h1,h2,k _ _ h3⟩
theorem FoldV.tk {H H':Hp}(k:Tk H H'){v:V}{zs:List Str}(h:FoldV H v zs):FoldV H' v zs:=by
 obtain⟨t,e,h1⟩:=h;exact⟨t,e,k _ _ h1⟩
theorem EntV.tk {H H':Hp}(k:Tk H H'){v:V}{p:List Str}{x:Ent}(h:EntV H v p x):EntV H' v p x:=by
 obtain⟨t,pa,e,h1,h2⟩:=h;refine⟨t,pa,e,k _ _ h1,?_⟩;cases x with
 | dir o =>
  obtain⟨w,h3,h4⟩:=h2;exact⟨w,OptP.tk k h3,k _ _ h4⟩
 | fil i=>exact k _ _ h2
 | gone=>exact k _ _ h2
abbrev PairsV (H:Hp):List V->List Pr->Prop:=Paired (PairV H)
theorem PairsV.tk {H H':Hp}(k:Tk H H'){vs:List V}{ps:List Pr}(h:PairsV H vs ps):PairsV H' vs ps:=Paired.mono (fun _ _ q=>PairV.tk k q) h
theorem a99 {α β:Type}{R:α->β->Prop}:∀ {xs:List α}{ys:List β}{i:Nat}{x:α},Paired R xs ys->xs[i]?=some x->∃ y,ys[i]?=some y/\R x y
 | _,_,_,_,.nil,e=>by simp at e
 | _,_,0,_,.cons r _,e=>by simp at e;subst e;exact⟨_,rfl,r⟩
 | _,_,i+1,x,.cons _ t,e=>by
  obtain⟨y,h1,h2⟩:=a99 (i:=i) (x:=x) t (by simpa using e);exact⟨y,by simpa using h1,h2⟩
theorem a71 {H:Hp}{a:Addr}{xs:List V}(h:H a=some (.lst xs)):∀ ys,H a≠some (.tup ys):=fun ys e=>by rw[h] at e;cases e
theorem b01 {H:Hp}{a:Addr}{m:b64}(h:H a=some (dP m)):∀ ys,H a≠some (.tup ys):=fun ys e=>by rw[h] at e;cases e
def EntOk (e:Ent) (m:Nat):Prop:=match e with
 | .dir o=>∀ zs,o=some zs->Pth zs
 | .fil i=>0<=i/\i < m
 | .gone=>True
theorem EntOk.mono {e:Ent}{m m':Nat}(h:EntOk e m)(q:m<=m'):EntOk e m':=by
 cases e with
 | dir o=>exact h
 | fil i=>exact⟨h.1,Int.lt_of_lt_of_le h.2 (Int.ofNat_le.mpr q)⟩
 | gone=>trivial
structure PrOk (p:Pr):Prop where
 org:∀ zs,p.1=some zs->Pth zs
 txt:∀ z,p.2=some z->z.length<=200
def PV (H:Hp) (v:V):Prop:=∃ x:Pr,PairV H v x/\PrOk x
def FV (H:Hp) (v:V):Prop:=∃ zs,FoldV H v zs/\Pth zs/\zs.length<=8
def EV (H:Hp) (N:Nat) (v:V):Prop:=∃ zs e,EntV H v zs e/\Pth zs/\EntOk e N
def RowV (H:Hp) (N:Nat) (q:List Str×V):Prop:=q.1≠[]/\Pth q.1/\EV H N q.2
theorem PV.tk {H H':Hp}{v:V}(h:PV H v)(k:Tk H H'):PV H' v:=let ⟨x,h,r⟩:=h;⟨x,PairV.tk k h,r⟩
theorem FV.tk {H H':Hp}{v:V}(h:FV H v)(k:Tk H H'):FV H' v:=let ⟨x,h,r⟩:=h;⟨x,FoldV.tk k h,r⟩
theorem EV.tk {H H':Hp}{v:V}{N:Nat}(h:EV H N v)(k:Tk H H'):EV H' N v:=let ⟨x,e,h,r⟩:=h;⟨x,e,EntV.tk k h,r⟩
theorem EV.mono {H:Hp}{v:V}{N M:Nat}(h:EV H N v)(q:N<=M):EV H M v:=let ⟨x,e,h,r,z⟩:=h;⟨x,e,h,r,z.mono q⟩
theorem RowV.tk {H H':Hp}{v:List Str×V}{N:Nat}(h:RowV H N v)(k:Tk H H'):RowV H' N v:=⟨h.1,h.2.1,h.2.2.tk k⟩
theorem RowV.mono {H:Hp}{v:List Str×V}{N M:Nat}(h:RowV H N v)(q:N<=M):RowV H M v:=⟨h.1,h.2.1,h.2.2.mono q⟩
theorem a60 {H:Hp}{a c:Addr}{xs:List V}{m:b64}(h:H a=some (.lst xs))(h':H c=some (dP m)):a≠c:=b06 h h' (fun z=>nomatch z)
theorem BxAt.nd {H:Hp}{b c:Addr}{n:Nat}{m:b64}(h:BxAt H b n)(h':H c=some (dP m)):b≠c:=let ⟨_,_,_,e,_⟩:=h;a60 e h'
theorem BxAt.set {H:Hp}{b c:Addr}{n:Nat}{o:HO}(h:BxAt H b n)(q:b≠c):BxAt (upd H c o) b n:=let ⟨d,x,e,h,r⟩:=h;⟨d,x,e,by rw[a07 q];exact h,r⟩
theorem b36 {H:Hp}{a:Addr}{o:HO}(h:∀ ys,H a≠some (.tup ys)):Tk H (upd H a o):=fun c zs q=>by
 rw[a07 (fun z=>h zs (by rw[← z];exact q))];exact q
theorem b34 {H:Hp}{a:Addr}{o:HO}(h:H a=none):Tk H (upd H a o):=Tk.of ((Same.refl H).upd h)
theorem b75 {α:Type}{P:α->Prop}{xs:List α}{x:α}(h:∀ v∈xs,P v)(q:P x):∀ v∈xs++[x],P v:=fun v hv=>(Bq.mp hv).elim (h v) fun e=>Ax.mp e ▸ q
theorem putK_mem {m:b64}{p:List Str}{v:V}:(∀ q∈b18 m p v,q∈m∨q.1=p/\q.2=v)/\(b18 m p v).length<=m.length+1:=by
 unfold b18;split
 ·refine⟨fun q hq=>?_,by rw[Aj];exact FJ _⟩;obtain⟨r,hr,rfl⟩:=Ex.mp hq;split
  ·exact .inr ⟨‹_›,rfl⟩
  ·exact .inl hr
 ·exact⟨fun q hq=>(Bq.mp hq).imp id fun e=>by rw[Ax.mp e];exact⟨rfl,rfl⟩,Nat.le_of_eq Bj⟩
theorem c81 {H:Hp}{N:Nat}{m:b64}{p:List Str}{v:V}(h:∀ q∈m,RowV H N q)(q:RowV H N (p,v)):∀ q∈b18 m p v,RowV H N q:=fun r hr=>(putK_mem.1 r hr).elim (h r) fun e=>by
 obtain⟨a,b⟩:=r;obtain⟨rfl,rfl⟩:=e;exact q
structure S3 (H:Hp)(r p f:Addr) (k l:Nat)(m:b64) (xs fs:List V):Prop where
 hr:H r=some (dP m)
 hp:H p=some (.lst xs)
 hf:H f=some (.lst fs)
 npf:p≠f
 R:∀ q∈m,RowV H xs.length q
 P:∀ v∈xs,PV H v
 F:∀ v∈fs,FV H v
 ml:m.length<=k
 xl:xs.length<=l
 fl:fs.length<=k+1
 f0:0 < fs.length
section
variable {H H':Hp}{r p f c:Addr}{k l k' l':Nat}{m:b64}{xs fs:List V}
theorem S3.tk (s:S3 H r p f k l m xs fs)(t:Tk H H')(h1:H' r=some (dP m))(h2:H' p=some (.lst xs))(h3:H' f=some (.lst fs)):S3 H' r p f k l m xs fs :=
 ⟨h1,h2,h3,s.npf,fun q hq=>(s.R q hq).tk t,fun v hv=>(s.P v hv).tk t,fun v hv=>(s.F v hv).tk t,s.ml,s.xl,s.fl,s.f0⟩
theorem S3.kp (s:S3 H r p f k l m xs fs)(q:Kp [c] H H')(hc:∀ ys,H c≠some (.tup ys))(n1:c≠r)(n2:c≠p)(n3:c≠f):S3 H' r p f k l m xs fs :=
 s.tk (q.tk fun a ha=>by rw[Ax.mp ha];exact hc) (q _ _ s.hr fun e=>n1 (Ax.mp e).symm) (q _ _ s.hp fun e=>n2 (Ax.mp e).symm) (q _ _ s.hf fun e=>n3 (Ax.mp e).symm)
theorem S3.same (s:S3 H r p f k l m xs fs)(q:Same H H'):S3 H' r p f k l m xs fs:=s.tk (Tk.of q) (q _ _ s.hr) (q _ _ s.hp) (q _ _ s.hf)
theorem S3.new {o:HO}(s:S3 H r p f k l m xs fs)(h:H c=none):S3 (upd H c o) r p f k l m xs fs:=s.same ((Same.refl H).upd h)
theorem S3.mono (s:S3 H r p f k l m xs fs)(h:k<=k')(h':l<=l'):S3 H r p f k' l' m xs fs:=⟨s.hr,s.hp,s.hf,s.npf,s.R,s.P,s.F,Fz s.ml h,Fz s.xl h',Fz s.fl (Nat.succ_le_succ h),s.f0⟩
theorem S3.pair (s:S3 H r p f k l m xs fs){v:V}(h:PV H v):S3 (upd H p (.lst (xs++[v]))) r p f k (l+1) m (xs++[v]) fs:=by
 have t:Tk H (upd H p (.lst (xs++[v]))):=b36 (a71 s.hp);have e:(xs++[v]).length=xs.length+1:=Bj;exact⟨by rw[a07 (a60 s.hp s.hr).symm];exact s.hr,a01,by rw[a07 s.npf.symm];exact s.hf,s.npf,fun q hq=>((s.R q hq).tk t).mono (by rw[e];exact FJ _),b75 (fun v hv=>(s.P v hv).tk t) (h.tk t),fun v hv=>(s.F v hv).tk t,s.ml,by rw[e];exact Nat.succ_le_succ s.xl,s.fl,s.f0⟩
theorem S3.fold (s:S3 H r p f k l m xs fs){v:V}(h:FV H v)(hk:fs.length<=k):S3 (upd H f (.lst (fs++[v]))) r p f k l m xs (fs++[v]):=by
 have t:Tk H (upd H f (.lst (fs++[v]))):=b36 (a71 s.hf);have e:(fs++[v]).length=fs.length+1:=Bj;exact⟨by rw[a07 (a60 s.hf s.hr).symm];exact s.hr,by rw[a07 s.npf];exact s.hp,a01,s.npf,fun q hq=>(s.R q hq).tk t,fun v hv=>(s.P v hv).tk t,b75 (fun v hv=>(s.F v hv).tk t) (h.tk t),s.ml,s.xl,by rw[e];exact Nat.succ_le_succ hk,by rw[e];exact Nat.succ_pos _⟩
theorem S3.row (s:S3 H r p f k l m xs fs){v:V}{zs:List Str}(h:RowV H xs.length (zs,v)):S3 (upd H r (dP (b18 m zs v))) r p f (k+1) l (b18 m zs v) xs fs:=by
 have t:Tk H (upd H r (dP (b18 m zs v))):=b36 (b01 s.hr);exact⟨a01,by rw[a07 (a60 s.hp s.hr)];exact s.hp,by rw[a07 (a60 s.hf s.hr)];exact s.hf,s.npf,c81 (fun q hq=>(s.R q hq).tk t) (h.tk t),fun v hv=>(s.P v hv).tk t,fun v hv=>(s.F v hv).tk t,Fz putK_mem.2 (Nat.succ_le_succ s.ml),s.xl,Nat.le_succ_of_le s.fl,s.f0⟩
end
def h62:Sp:=fun vs H Q _=>∃(b p:Addr) (n:Nat) (xs:List V),vs=[.ref b,.ref p]/\BxAt H b (n+90)/\H p=some (.lst xs)/\b≠p/\(∀ v∈xs,PV H v)/\xs.length<=300 /\
 ∀(i:Int) (xs':List V)(H':Hp),i < xs'.length->xs.length<=xs'.length->xs'.length<=xs.length+1->BxAt H' b n->H' p=some (.lst xs')->(∀ v∈xs',PV H' v)->Kp [b,p] H H'->Q (.int i) H'
section
theorem scNew:FnScope ["_law_box_here", "_law_pairs", "_law_origin", "_law_text_here"] ["_law_box_here", "_law_pairs"] (a41 d02):=.of
theorem i51 {f:Addr}{fd:FD}(F:Fun K "_law_new_file" "_law_new_file" d02 f fd)(mLen:mg "len" = none)(DT:b58 P w K mg base)(DA:Def P w K mg base 3 "_law_any_path" ["_law_box_here"] h15)
 (DX:Def P w K mg base 2 "_law_text" ["_law_box_here"] e58):FnOk P w K mg base CX0 4 f fd ["_law_box_here", "_law_pairs"] h62:=by
 refine F.ok scNew (fun vs H Q E h=>?_) (fun cdv A outer s H vs Q E hr h=>?_)
 ·obtain⟨b,p,n,xs,rfl,_⟩:=h;rfl
 ·obtain⟨b,p,n,xs,rfl,hb,hp,nbp,hP,hl,kk⟩:=h;have hu:=c23 hr;have hr1:Room 1 _:=hr.mono (by decide);have hr2:Room 2 _:=hr.mono (by decide);have nd:=scNew.nd;refine⟨_,a03 (a43 2 nd a55)
   (a03 (a46 (a08 b92 (a42 DT hr1 (a00 (pv 0) (a00 a05 a02))) a05 (a38 _)) (a06 (a43 2 nd (a42 DA hr (a00 (pv 0) a02)))) a39)
   (a03 (a46 (PW.pt (a97 (a08 c79 (pv 2) a55 (a38 _)) (a93 (a08 (f76 hu) (pv 2) (a82 (x := "_law_pair") scNew .of (by decide +kernel) (b15 (pv 1))
     (fun C fp s H=>a45 (show IxR _ (h41 K) from a53) (pv 4) a05)) rfl))))
     (a06 (a40 (d48 c19 a05))) a39)
   (a03 (a43 3 nd (a42 DX hr2 (a00 (pv 0) a02)))
   (a03 (a46 (PW.pt (a97 (a08 c79 (pv 2) a55 (a38 _)) (a93 (a08 a58 (a42 DT hr1 (a00 (pv 0) (a00 a05 a02))) a05 (a38 _))))) (a06 (a43 3 nd a55)) a39)
   (a03 (a81 (a77 pLQ PySem.F.slot_list_append PySem.F.type_list_append a87 (pv 1) (a00 (a52 (a00 (pv 2) (a00 (pv 3) a02))) a02)))
   (a06 (a40 (a47 e48 (a09 a36 (by rfl) mLen bLn (a00 (pv 1) a02)) a05)))))))),?_⟩
  have hs:∀ a∈[b],a∈[b,p]:=fun a ha=>by rw[Ax.mp ha];simp
  refine⟨_,rfl,b,n+89,3,rfl,by decide,by decide,hb,fun x H1 _ _ hb1 k1=>⟨_,_,rfl,rfl,_,rfl,?_⟩⟩;have hp1:=hb.keep k1 nbp hp;have hP1:∀ v∈xs,PV H1 v:=fun v hv=>(hP v hv).tk (hb.tk k1);refine' join3 (A:=fun(w y:V)(HX:Hp)=>(∃ x:Pr,OptP HX w x.1/\i45 y x.2/\PrOk x)/\BxAt HX b n/\HX p=some (.lst xs)/\(∀ v∈xs,PV HX v)/\Kp [b,p] H HX) (fun rest=>a50 (fun h1=>?b1) (fun h1=>?b2)) ?b3
  case b1 =>
   refine⟨_,rfl,b,n+7,rfl,hb1,fun t zs H2 ht hpt ht2 hb2 k2=>?_⟩;have hp2:=hb1.keep k2 nbp hp1;have hP2:∀ v∈xs,PV H2 v:=fun v hv=>(hP1 v hv).tk (hb1.tk k2);refine⟨_,rfl,rfl,_,rfl,a78 ?_⟩;refine⟨_,rfl,_,rfl,p,rfl,⟨_,SqL.of hp2⟩,b81 (xs:=xs) (fun i ys H'=>H'=H2/\ys.length=i/\∃ os,c35 H2 ys os) (by rw[sizeLine_eq];lia) ⟨rfl,rfl,[],.nil⟩ (fun i ys H' h=>h.2.1) (fun i ys H' _ h=>by rw[h.1];exact SqL.of hp2) ?_ ?_⟩
   ·rintro i ys H' v hv ⟨rfl,hl,os,e⟩;obtain⟨x,⟨t',w',y',rfl,o1,o2,o3⟩,_⟩:=hP2 v (BJ hv);exact⟨_,rfl,t',_,_,_,rfl,rfl,SqT.of o3,rfl,rfl,by rw[Bj,hl];rfl,_,Paired.snoc e o1⟩
   ·rintro ys H' ⟨rfl,_,os,e⟩ L hL;have tX:Tk H' (upd H' L (.lst ys)):=b34 hL;have bL:=hb2.up (o:=.lst ys) hL;have hpX:(upd H' L (.lst ys)) p=some (.lst xs):=by rw[a07 (a04 hp2 hL)];exact hp2
    have kL:Kp [b,p] H (upd H' L (.lst ys)):=((k1.trans k2).mono hs).new hL;have hPX:∀ v∈xs,PV (upd H' L (.lst ys)) v:=fun v hv=>(hP2 v hv).tk tX;have htX:=tX _ _ ht2;refine⟨t,L,_,ys,os,rfl,htX,rfl,SqL.of a01,Paired.mono (fun _ _ q=>OptP.tk tX q) e,_,rfl,?_⟩;generalize (upd H' L (.lst ys))=HL at bL hpX kL hPX htX ⊢;refine a50 (fun h2=>⟨_,rfl,kk _ xs _ (by show(-1:Int) < _;lia) (AZ _) (FJ _) (bL.mono (by lia)) hpX hPX kL⟩) (fun h2=>?_);refine⟨_,rfl,b,n+1,rfl,bL,fun z H3 hz hb3 k3=>⟨_,rfl,rfl,_,rfl,a78 ?_⟩⟩;refine⟨_,rfl,b,n,3,rfl,by decide,by decide,hb3,fun x4 H4 _ _ hb4 k4=>⟨rfl,_,rfl,?_⟩⟩;have t34:Tk HL H4:=(bL.tk k3).trans (hb3.tk k4);have fin:∀ y o,i45 y o->(∀ z,o=some z->z.length<=200)->(∃ x:Pr,OptP H4 (.ref t) x.1/\i45 y x.2/\PrOk x)/\BxAt H4 b n/\H4 p=some (.lst xs)/\(∀ v∈xs,PV H4 v)/\Kp [b,p] H H4:=fun y o h1 h2 =>
     ⟨⟨(some zs,o),⟨t,rfl,t34 _ _ htX⟩,h1,⟨fun _ q=>by cases q;exact hpt,h2⟩⟩,hb4,hb3.keep k4 nbp (bL.keep k3 nbp hpX),fun v hv=>(hPX v hv).tk t34,kL.trans ((k3.trans k4).mono hs)⟩
    refine' a50 (fun h3=>?q1) (fun h3=>?q2)
    case q2 =>
     have fi:=fin (.str z) (some z) rfl (fun _ q=>by cases q;exact hz);generalize V.ref t=vt at fi ⊢;generalize V.str z=vz at fi ⊢;exact rest vt vz H4 fi
    case q1=>exact rest _ .non H4 (fin .non none rfl fun _ q=>nomatch q)
  case b2 =>
   refine⟨_,rfl,rfl,_,rfl,a76 (a76 ?_)⟩;refine⟨_,rfl,b,n+83,rfl,hb1,fun z H3 hz hb3 k3=>⟨_,rfl,rfl,_,rfl,a76 (a76 ?_)⟩⟩;exact rest .non (.str z) H3 ⟨⟨(none,some z),rfl,rfl,⟨(fun _ q=>nomatch q),fun _ q=>by cases q;exact hz⟩⟩,hb3.mono (by lia),hb1.keep k3 nbp hp1,fun v hv=>(hP1 v hv).tk (hb1.tk k3),(k1.trans k3).mono hs⟩
  case b3 =>
   rintro w y HX ⟨⟨x,hw,hy,hx⟩,hbX,hpX,hPX,kX⟩;refine⟨_,rfl,.inl ⟨rfl,_,SqL.of hpX⟩,_,rfl,_,rfl,by show 2<=zL;decide,fun t' ht'=>?_⟩;have n1:p≠t':=a04 hpX ht';have hp':(upd HX t' (.tup [w,y])) p=some (.lst xs):=by rw[a07 n1];exact hpX
   refine⟨p,xs,_,rfl,rfl,hp',by rw[sizeLine_eq];lia,?_⟩;refine⟨_,rfl,p,_,rfl,.inl (SqL.of a01),_,_,rfl,rfl,?_⟩;have tk:Tk HX (upd (upd HX t' (.tup [w,y])) p (.lst (xs++[V.ref t']))):=(b34 ht').trans (b36 (a71 hp'));have e:(xs++[V.ref t']).length=xs.length+1:=Bj;refine kk _ (xs++[V.ref t']) _ (by show((xs++[V.ref t']).length:Int)-1 < _;lia) (by lia) (by lia) ((hbX.up ht').set nbp) a01 (b75 (fun v hv=>(hPX v hv).tk tk) ⟨x,⟨t',w,y,rfl,OptP.tk tk hw,hy,?_⟩,hx⟩) ((kX.new ht').set (by simp))
   rw[a07 n1.symm,a01]
def e93:Sp:=fun vs H Q _=>∃(b r p f:Addr) (n k:Nat)(m:b64) (xs fs:List V),vs=[.ref b,.ref r,.ref p,.ref f]/\BxAt H b (n+200)/\b≠p/\b≠f/\S3 H r p f k 192 m xs fs/\k<=1000 /\
 ∀(m':b64) (xs' fs':List V)(H':Hp),BxAt H' b n->S3 H' r p f (k+1) 192 m' xs' fs'->Kp [b,r,p,f] H H'->Q .non H'
theorem scGrow:FnScope ["_law_box_here", "_law_rows_here", "_law_pairs", "_law_folders", "_law_path", "_law_way", "_law_number_here", "_law_origin"] ["_law_box_here", "_law_rows_here", "_law_pairs", "_law_folders"] (a41 h84):=.of
theorem h76 {f:Addr}{fd:FD}(F:Fun K "_law_grow" "_law_grow" h84 f fd)(mLen:mg "len" = none)(DT:b58 P w K mg base)(DW:Def P w K mg base 2 "_law_word" ["_law_box_here"] d50)(DA:Def P w K mg base 3 "_law_any_path" ["_law_box_here"] h15)
 (DX:Def P w K mg base 2 "_law_text" ["_law_box_here"] e58)(DN:Def P w K mg base 4 "_law_new_file" ["_law_box_here", "_law_pairs"] h62):FnOk P w K mg base CX0 5 f fd ["_law_box_here", "_law_rows_here", "_law_pairs", "_law_folders"] e93:=by
 refine F.ok scGrow (fun vs H Q E h=>?_) (fun cdv A outer s H vs Q E hr h=>?_)
 ·obtain⟨b,r,p,f,n,k,m,xs,fs,rfl,_⟩:=h;rfl
 ·obtain⟨b,r,p,ff,n,k,m,xs,fs,rfl,hb,nbp,nbf,S0,hk,kk⟩:=h;have hu:=c23 hr;have hr1:Room 1 _:=hr.mono (by decide);have hr2:Room 2 _:=hr.mono (by decide);have hr3:Room 3 _:=hr.mono (by decide);have nd:=scGrow.nd;refine⟨_,a03 (a43 4 nd (a47 c88 (a45 a44 (pv 3) (a42 DT hr1 (a00 (pv 0) (a00 (a09 a36 (by rfl) mLen bLn (a00 (pv 3) a02)) a02)))) (a52 (a00 (a42 DW hr2 (a00 (pv 0) a02)) a02))))
   (a03 (a43 5 nd (a42 DT hr1 (a00 (pv 0) (a00 a05 a02))))
   (a03 (a46 (PW.pt (a94 (a86 (i22 hu (pv 4) (pv 1))) (a94 (a08 b92 (a09 a36 (by rfl) mLen bLn (a00 (pv 4) a02)) a05 (a38 _)) (a79 (a08 b92 (a09 a36 (by rfl) mLen bLn (a00 (pv 2) a02)) a05 (a38 _)))))) (a06 e92) a39)
   (a03 (a46 (a08 c58 (pv 5) a05 (a38 _))
     (a03 (b13 hu (pv 1) (pv 4) (a52 (a00 (pv 4) (a00 a37 (a00 (a45 a44 (a56 (a00 a55 (a00 (pv 4) (a00 (a52 a02) (a00 (a42 DA hr3 (a00 (pv 0) a02)) a02))))) (a42 DT hr1 (a00 (pv 0) (a00 a05 a02)))) a02)))) rfl)
     (a06 (a81 (a77 pLQ PySem.F.slot_list_append PySem.F.type_list_append a87 (pv 3) (a00 (pv 4) a02)))))
     (a06 (a46 (a08 c58 (pv 5) a05 (a38 _))
       (a03 (a43 6 nd (d48 c19 a05))
       (a03 (a46 (PW.pt (a97 (a08 b92 (a09 a36 (by rfl) mLen bLn (a00 (pv 2) a02)) a05 (a38 _)) (a93 (a08 a58 (a42 DT hr1 (a00 (pv 0) (a00 a05 a02))) a05 (a38 _)))))
         (a06 (a43 6 nd (a42 DT hr1 (a00 (pv 0) (a00 (a09 a36 (by rfl) mLen bLn (a00 (pv 2) a02)) a02))))) a39)
       (a03 (a46 (a08 c58 (pv 6) a05 (a38 _)) (a06 (a43 6 nd (a42 DN hr (a00 (pv 0) (a00 (pv 2) a02))))) a39)
       (a06 (a46 (a08 g71 (pv 6) a05 (a38 _)) (a06 (b13 hu (pv 1) (pv 4) (a52 (a00 (pv 4) (a00 a37 (a00 (pv 6) a02)))) rfl)) a39)))))
       (a06 (b13 hu (pv 1) (pv 4) (a52 (a00 (pv 4) (a00 a37 a02))) rfl)))))
   (a06 (a46 (a08 a58 (pv 5) a05 (a38 _))
     (a03 (a43 7 nd (a42 DA hr3 (a00 (pv 0) a02)))
     (a06 (a46 (a08 (f05 hu) (pv 7) (a82 (x := "_law_pair") scGrow .of (by decide +kernel) (b15 (pv 2)) (fun C fp s H=>a45 (show IxR _ (h41 K) from a53) (pv 8) a05)) rfl)
       (a06 (a81 (a77 pLQ PySem.F.slot_list_append PySem.F.type_list_append a87 (pv 2) (a00 (a52 (a00 (pv 7) (a00 (a45 a44 (a56 (a00 a55 (a00 (a42 DX hr2 (a00 (pv 0) a02)) a02))) (a42 DT hr1 (a00 (pv 0) (a00 a05 a02)))) a02))) a02)))) a39))) a39))))),?_⟩
  have nbr:=hb.nd S0.hr;have f0:=S0.f0;have fl:=S0.fl;have step:∀ {H H':Hp}{n k l:Nat}{m:b64}{xs fs:List V},BxAt H b n->Kp [b] H H'->S3 H r p ff k l m xs fs->S3 H' r p ff k l m xs fs:=fun B k S=>S.kp k B.nt nbr nbp nbf;have sub1:∀ a∈[b],a∈[b,r,p,ff]:=fun a ha=>by rw[Ax.mp ha];simp
  refine⟨_,rfl,_,rfl,_,rfl,ff,_,rfl,.inl (SqL.of S0.hf),b,n+199,(fs.length:Int),rfl,by lia,by lia,hb,fun x H1 l1 u1 hb1 k1=>?_⟩;have S1:=step hb k1 S0;have hv0:=Bx (show x.toNat < fs.length by lia);obtain⟨zf,⟨tf,hvf,htf⟩,pf,lf⟩:=S1.F _ (BJ hv0);rw[hvf] at hv0;refine⟨ff,_,_,_,rfl,rfl,SqL.of S1.hf,b09 l1 hv0,_,rfl,b,n+189,rfl,hb1,fun z H2 hz hb2 k2=>⟨by show 1<=zL;decide,fun tw htw=>?_⟩⟩;have htf2:=hb1.tk k2 _ _ htf;refine⟨tf,tw,zf.map V.str,_,rfl,rfl,by rw[a07 (a04 htf2 htw)];exact htf2,a01,by rw[Aj,sizeLine_eq];show _+1<=_;lia,fun t H4 ht s4=>?_⟩;have S4:=((step hb1 k2 S1).new (o:=.tup [V.str z]) htw).same s4;have hb4:=(hb2.up (o:=.tup [V.str z]) htw).same s4;have hpath:H4 t=some (.tup ((zf++[z]).map V.str)):=by rw[ht,Bz];rfl
  have pp:Pth (zf++[z]):=⟨by rw[Bj];show _+1<=9;lia,b75 pf.nam hz⟩;have np:zf++[z]≠[]:=by simp
  generalize zf++[z]=pa at hpath pp np;have K4:Kp [b,r,p,ff] H H4:=(((k1.trans k2).mono sub1).new htw).trans (Kp.of s4);refine⟨_,rfl,b,n+188,8,rfl,by decide,by decide,hb4,fun way H5 _ _ hb5 k5=>?_⟩;have S5:=step hb4 k5 S4;have hp5:=hb4.tk k5 _ _ hpath;have K5:=K4.trans (k5.mono sub1);have ml:=S5.ml;have stop:Q .non H5:=kk m xs fs H5 (hb5.mono (by lia)) (S5.mono (FJ _) (AZ _)) K5;refine⟨_,rfl,_,rfl,r,_,rfl,i17 S5.hr hp5,_,rfl,?_⟩;refine a50 (fun h1=>a78 stop) (fun h1=>?_);refine⟨_,rfl,t,_,rfl,.inr (SqT.of hp5),_,_,rfl,rfl,_,rfl,?_⟩;refine a50 (fun h2=>a78 stop) (fun h2=>?_);have h2':pa.length<=8:=Nat.not_lt.mp fun q=>h2 (Az (by rw[Aj];lia));refine⟨_,rfl,p,_,rfl,.inl (SqL.of S5.hp),_,_,rfl,rfl,_,rfl,?_⟩;refine a50 (fun h3=>stop) (fun h3=>?_);have h3':xs.length<=190:=Nat.not_lt.mp fun q=>h3 (Az (by lia));have S5':S3 H5 r p ff k 190 m xs fs:=⟨S5.hr,S5.hp,S5.hf,S5.npf,S5.R,S5.P,S5.F,S5.ml,h3',S5.fl,S5.f0⟩;have rowok:∀ {H':Hp}{N:Nat}{tt:Addr}{e:Ent},EntV H' (.ref tt) pa e->EntOk e N->RowV H' N (pa,.ref tt):=fun h1 h2=>⟨np,pp,pa,_,h1,pp,h2⟩;refine' e08 (A:=fun(v6:Option V)(H':Hp)=>(∃ m' xs' fs',S3 H' r p ff (k+1) 191 m' xs' fs')/\BxAt H' b (n+89)/\Kp [b,r,p,ff] H H') (fun rest=>⟨_,rfl,_,_,rfl,rfl,_,rfl,a50 (fun h4=>?d1) (fun h4=>?d2)⟩) ?d3
  case d2 =>
   refine⟨_,rfl,_,_,rfl,rfl,_,rfl,?_⟩;refine' a50 (fun h5=>?e1) (fun h5=>?e2)
   case e1 =>
    refine⟨_,rfl,?_⟩;refine' e08 (A:=fun(i:Int)(H':Hp)=>i < xs.length/\BxAt H' b (n+186)/\S3 H' r p ff k 190 m xs fs/\H' t=some (.tup (pa.map V.str))/\Kp [b,r,p,ff] H H') (fun rest1=>⟨_,rfl,p,_,rfl,.inl (SqL.of S5.hp),_,_,rfl,rfl,_,rfl,a50 (fun h6=>?f1) (fun h6=>a76 ?f2)⟩) ?f3
    case f1 =>
     have h6':(0:Int) < xs.length:=AJ h6;refine⟨_,rfl,b,n+187,3,rfl,by decide,by decide,hb5,fun x6 H6 _ _ hb6 k6=>⟨rfl,_,rfl,?_⟩⟩;have S6:=step hb5 k6 S5';have t6:=hb5.tk k6 _ _ hp5;have K6:=K5.trans (k6.mono sub1);refine a50 (fun h7=>?_) (fun h7=>?_)
     ·refine⟨_,rfl,_,rfl,p,_,rfl,.inl (SqL.of S6.hp),b,n+186,(xs.length:Int),rfl,h6',by lia,hb6,fun i H7 _ hi hb7 k7=>?_⟩;exact rest1 i H7 ⟨hi,hb7,step hb6 k7 S6,hb6.tk k7 _ _ t6,K6.trans (k7.mono sub1)⟩
     ·exact rest1 (-1) H6 ⟨by lia,hb6.mono (by lia),S6,t6,K6⟩
    case f2=>exact rest1 (-1) H5 ⟨by lia,hb5.mono (by lia),S5',hp5,K5⟩
    case f3 =>
     rintro i H6 ⟨hi,hb6,S6,t6,K6⟩;refine' e08 (A:=fun(i:Int)(H':Hp)=>∃ xs':List V,i < xs'.length/\BxAt H' b (n+96)/\S3 H' r p ff k 191 m xs' fs/\H' t=some (.tup (pa.map V.str))/\Kp [b,r,p,ff] H H') (fun rest2=>⟨_,rfl,_,_,rfl,rfl,_,rfl,a50 (fun h7=>?g1) (fun h7=>?g2)⟩) ?g3
     case g1 =>
      refine⟨_,rfl,_,rfl,b,p,n+96,xs,rfl,hb6,S6.hp,nbp,S6.P,by lia,fun i' xs2 H8 hi' h1 h2 hb8 hp8 hP8 k8=>?_⟩;have t8:Tk H6 H8:=k8.tk fun a ha=>by
       rcases BZ.mp ha with q | q
       ·rw[q];exact hb6.nt
       ·rw[Ax.mp q];exact a71 S6.hp
      have npr:=a60 S6.hp S6.hr;exact rest2 i' H8 ⟨xs2,hi',hb8,⟨k8 _ _ S6.hr (by simp[nbr.symm,npr.symm]),hp8,k8 _ _ S6.hf (by simp[nbf.symm,S6.npf.symm]),S6.npf,fun q hq=>((S6.R q hq).tk t8).mono h1,hP8,fun v hv=>(S6.F v hv).tk t8,S6.ml,by lia,S6.fl,S6.f0⟩,t8 _ _ t6,K6.trans (k8.mono fun a ha=>by rcases BZ.mp ha with q | q;exact q ▸ (by simp);rw[Ax.mp q];simp)⟩
     case g2=>exact rest2 i H6 ⟨xs,hi,hb6.mono (by lia),S6.mono (AZ _) (by decide),t6,K6⟩
     case g3 =>
      rintro i H8 ⟨xs2,hi,hb8,S8,t8,K8⟩;refine⟨_,rfl,_,_,rfl,rfl,_,rfl,?_⟩;refine a50 (fun h9=>?_) (fun h9=>?_)
      ·refine⟨_,rfl,_,rfl,by show 3<=zL;decide,fun tt htt=>?_⟩;have S9:=S8.new (o:=.tup [V.ref t,V.str "file", V.int i]) htt;have t9:=b34 (o:=.tup [V.ref t,V.str "file", V.int i]) htt _ _ t8;refine⟨_,rfl,_,rfl,r,_,rfl,h92 S9.hr t9 (by rw[sizeLine_eq];lia),?_⟩;have SA:=S9.row (rowok (N:=xs2.length) (e:=.fil i) ⟨tt,t,rfl,t9,a01⟩ ⟨AJ h9,hi⟩);have BA:=(hb8.up (o:=.tup [V.ref t,V.str "file", V.int i]) htt).set (o:=dP (b18 m pa (.ref tt))) nbr
       have KA:=(K8.new (o:=.tup [V.ref t,V.str "file", V.int i]) htt).set (a:=r) (o:=dP (b18 m pa (.ref tt))) (by simp)
       generalize (upd (upd H8 tt (.tup [V.ref t,V.str "file", V.int i])) r (dP (b18 m pa (.ref tt))))=HA at SA BA KA ⊢;generalize some (V.int i)=v6;rw[List.set_set,List.set_set];exact rest v6 HA ⟨⟨_,_,_,SA⟩,BA.mono (by lia),KA⟩
      ·exact rest (some (.int i)) H8 ⟨⟨_,_,_,S8.mono (FJ _) (AZ _)⟩,hb8.mono (by lia),K8⟩
   case e2 =>
    refine⟨_,rfl,by show 2<=zL;decide,fun tt htt=>?_⟩;have S6:=S5'.new (o:=.tup [V.ref t,V.str "gone"]) htt;have t6:=b34 (o:=.tup [V.ref t,V.str "gone"]) htt _ _ hp5;refine⟨_,rfl,_,rfl,r,_,rfl,h92 S6.hr t6 (by rw[sizeLine_eq];lia),?_⟩;exact rest none _ ⟨⟨_,_,_,(S6.row (rowok (e:=.gone) ⟨tt,t,rfl,t6,a01⟩ trivial)).mono (AZ _) (by decide)⟩,((hb5.up htt).set nbr).mono (by lia),(K5.new htt).set (by simp)⟩
  case d1 =>
   refine⟨_,rfl,_,rfl,by show 0<=zL;decide,fun te hte=>?_⟩;have S6:=S5'.new (o:=.tup []) hte;have t6:=b34 (o:=.tup []) hte _ _ hp5;have b6:=hb5.up (o:=.tup []) hte;refine⟨_,rfl,b,n+106,rfl,b6,fun ta zs H6 hta pz hta6 hb6 k6=>?_⟩;have S7:=step b6 k6 S6;have T7:=b6.tk k6;refine⟨by show 4<=zL;decide,fun tl htl=>?_⟩;have S8:=S7.new (o:=.lst [V.non,V.ref t,V.ref te,V.ref ta]) htl;have b8:=hb6.up (o:=.lst [V.non,V.ref t,V.ref te,V.ref ta]) htl;have T8:=b34 (o:=.lst [V.non,V.ref t,V.ref te,V.ref ta]) htl;refine⟨_,rfl,b,n+105,4,rfl,by decide,by decide,b8,fun i H9 l9 u9 hb9 k9=>?_⟩;have S9:=step b8 k9 S8;have T9:=b8.tk k9;have hl9:H9 tl=some (.lst [V.non,V.ref t,V.ref te,V.ref ta]):=b8.keep k9 (hb6.ne htl) a01;have t9:=T9 _ _ (T8 _ _ (T7 _ _ t6));obtain⟨ww,hww,o,oww,po⟩:∃ ww,atI [V.non,V.ref t,V.ref te,V.ref ta] i=some ww/\∃ o,OptP H9 ww o/\∀ zs,o=some zs->Pth zs:=by
    have:i=0∨i=1∨i=2∨i=3:=by lia
    rcases this with rfl | rfl | rfl | rfl
    ·exact⟨_,rfl,none,rfl,fun _ q=>nomatch q⟩
    ·exact⟨_,rfl,some pa,⟨t,rfl,t9⟩,fun _ q=>by cases q;exact pp⟩
    ·exact⟨_,rfl,some [],⟨te,rfl,T9 _ _ (T8 _ _ (T7 _ _ a01))⟩,fun _ q=>by cases q;exact⟨Fx _,(fun _ q=>nomatch q)⟩⟩
    ·exact⟨_,rfl,some zs,⟨ta,rfl,T9 _ _ (T8 _ _ hta6)⟩,fun _ q=>by cases q;exact pz⟩
   refine⟨tl,_,_,ww,rfl,rfl,SqL.of hl9,hww,by show 3<=zL;decide,fun tt htt=>?_⟩;have SA:=S9.new (o:=.tup [V.ref t,V.str "folder", ww]) htt;have TA:=b34 (o:=.tup [V.ref t,V.str "folder", ww]) htt;have tA:=TA _ _ t9;refine⟨_,rfl,_,rfl,r,_,rfl,h92 SA.hr tA (by rw[sizeLine_eq];lia),?_⟩;have SB:=SA.row (rowok (e:=.dir o) ⟨tt,t,rfl,tA,ww,OptP.tk TA oww,a01⟩ po);refine⟨_,rfl,.inl ⟨rfl,_,SqL.of SB.hf⟩,_,rfl,ff,fs,_,rfl,rfl,SB.hf,by rw[sizeLine_eq];lia,?_⟩;have SC:=SB.fold (v:=.ref t) ⟨pa,⟨t,rfl,b36 (b01 SA.hr) _ _ tA⟩,pp,h2'⟩ S5.fl;exact rest none _ ⟨⟨_,_,_,SC.mono (AZ _) (by decide)⟩,(((hb9.up htt).set nbr).set nbf).mono (by lia),(((((((K5.new hte).trans (k6.mono sub1)).new htl).trans (k9.mono sub1)).new htt).set (by simp)).set (by simp))⟩
  case d3 =>
   rintro v6 H7 ⟨⟨m7,xs7,fs7,S7⟩,hb7,K7⟩;refine⟨_,rfl,rfl,_,rfl,?_⟩;refine a50 (fun h7=>?_) (fun h7=>kk m7 xs7 fs7 H7 (hb7.mono (by lia)) (S7.mono (AZ _) (by decide)) K7);have x7:=S7.xl;refine⟨_,rfl,b,n+7,rfl,hb7,fun ta zs H8 hta pz hta8 hb8 k8=>?_⟩;have S8:=step hb7 k8 S7;have K8:=K7.trans (k8.mono sub1);refine⟨_,rfl,_,rfl,p,rfl,⟨_,SqL.of S8.hp⟩,b81 (xs:=xs7) (fun i ys H'=>H'=H8/\ys.length=i/\∃ os,c35 H8 ys os) (by rw[sizeLine_eq];lia) ⟨rfl,rfl,[],.nil⟩ (fun i ys H' h=>h.2.1) (fun i ys H' _ h=>by rw[h.1];exact SqL.of S8.hp) ?_ ?_⟩
   ·rintro i ys H' v hv ⟨rfl,hl,os,e⟩;obtain⟨x,⟨t',w',y',rfl,o1,o2,o3⟩,_⟩:=S8.P v (BJ hv);exact⟨_,rfl,t',_,_,_,rfl,rfl,SqT.of o3,rfl,rfl,by rw[Bj,hl];rfl,_,Paired.snoc e o1⟩
   ·rintro ys H' ⟨rfl,_,os,e⟩ L hL;have S9:=S8.new (o:=.lst ys) hL;have K9:=K8.new (o:=.lst ys) hL;have T9:=b34 (o:=.lst ys) hL;have b9:=hb8.up (o:=.lst ys) hL;have hta9:=T9 _ _ hta8;refine⟨ta,L,_,ys,os,rfl,hta9,rfl,SqL.of a01,Paired.mono (fun _ _ q=>OptP.tk T9 q) e,_,rfl,?_⟩;generalize (upd H' L (.lst ys))=HL at S9 K9 b9 hta9 ⊢;refine a50 (fun h8=>?_) (fun h8=>kk m7 xs7 fs7 HL (b9.mono (by lia)) (S9.mono (AZ _) (by decide)) K9);refine⟨_,rfl,.inl ⟨rfl,_,SqL.of S9.hp⟩,_,rfl,_,rfl,b,n+1,rfl,b9,fun z H10 hz hb10 k10=>?_⟩;have S10:=step b9 k10 S9;refine⟨by show 2<=zL;decide,fun tl htl=>?_⟩;have S11:=S10.new (o:=.lst [V.non,V.str z]) htl;have b11:=hb10.up (o:=.lst [V.non,V.str z]) htl;refine⟨_,rfl,b,n,2,rfl,by decide,by decide,b11,fun i H12 l12 u12 hb12 k12=>?_⟩;have S12:=step b11 k12 S11;have hl12:H12 tl=some (.lst [V.non,V.str z]):=b11.keep k12 (hb10.ne htl) a01;obtain⟨ww,hww,o,oww,po⟩:∃ ww,atI [V.non,V.str z] i=some ww/\∃ o,i45 ww o/\∀ z,o=some z->z.length<=200:=by
     have:i=0∨i=1:=by lia
     rcases this with rfl | rfl
     ·exact⟨_,rfl,none,rfl,fun _ q=>nomatch q⟩
     ·exact⟨_,rfl,some z,rfl,fun _ q=>by cases q;exact hz⟩
    have hta12:=b11.tk k12 _ _ (b34 (o:=.lst [V.non,V.str z]) htl _ _ (b9.tk k10 _ _ hta9));refine⟨tl,_,_,ww,rfl,rfl,SqL.of hl12,hww,by show 2<=zL;decide,fun tu htu=>?_⟩;have S13:=S12.new (o:=.tup [V.ref ta,ww]) htu;refine⟨p,xs7,_,rfl,rfl,S13.hp,by rw[sizeLine_eq];lia,?_⟩;exact kk _ _ _ _ ((hb12.up htu).set nbp) (S13.pair ⟨(some zs,o),⟨tu,.ref ta,ww,rfl,⟨ta,rfl,b34 htu _ _ hta12⟩,oww,a01⟩,⟨fun _ q=>by cases q;exact pz,po⟩⟩) (((((K9.trans (k10.mono sub1)).new htl).trans (k12.mono sub1)).new htu).set (by simp))
end
def rep (name:Str) (k:Nat):List Str:=List.replicate k name
theorem e18 (name:Str) (k:Nat):rep name (k+1)=rep name k++[name]:=List.replicate_succ'
theorem f00 {name:Str}(h:name.length<=8){k:Nat}(hk:k<=9):Pth (rep name k):=⟨by unfold rep;rw[List.length_replicate];exact hk,fun z hz=>by rw[List.eq_of_mem_replicate hz];exact h⟩
theorem h26 (name:Str) (k:Nat):rep name (k+1)≠[]:=by
 unfold rep;rw[List.replicate_succ];exact fun q=>nomatch q
theorem c94:∀ {m:b64}{p:List Str}{w:V},a96 m p=some w->(p,w)∈m
 | [],_,_,e=>by cases e
 | q::m,p,w,e=>by
  by_cases h:q.1=p
  ·rw[a69 h] at e;cases e;subst h;exact BX
  ·rw[a70 h] at e;exact BQ _ (c94 e)
theorem f36:∀ {m:b64}{p:List Str},p∈m.map (·.1)->∃ w,a96 m p=some w
 | [],_,h=>nomatch h
 | q::m,p,h=>by
  by_cases e:q.1=p
  ·exact⟨_,a69 e⟩
  ·obtain⟨w,hw⟩:=f36 ((BZ.mp h).resolve_left fun z=>e z.symm);exact⟨w,by rw[a70 e];exact hw⟩
theorem _root_.L2.Same.kp {S:List Addr}{H H1 H2:Hp}(s:Same H H1)(k:Kp S H1 H2)(hs:∀ a∈S,H a=none):Same H H2:=fun a o e=>k a o (s a o e) fun q=>by rw[hs a q] at e;cases e
def f53:Sp:=fun vs H Q _=>∃(r:Addr) (name:Str)(m:b64) (N:Nat),vs=[.ref r,.str name]/\H r=some (dP m)/\(∀ q∈m,RowV H N q)/\m.length<=1000/\name.length<=8 /\
 ∀(m':b64)(H':Hp),H' r=some (dP m')->(∀ q∈m',RowV H' N q)->m'.length<=m.length+9->Kp [r] H H'->Q .non H'
section
theorem scDeep:FnScope ["_law_rows_here", "_law_name", "_law_path", "_law_k"] ["_law_rows_here", "_law_name"] (a41 h48):=.of
theorem i12 {f:Addr}{fd:FD}(F:Fun K "_law_deep" "_law_deep" h48 f fd)(mRange:mg "range" = none):FnOk P w K mg base CX0 1 f fd ["_law_rows_here", "_law_name"] f53:=by
 refine F.ok scDeep (fun vs H Q E h=>?_) (fun cdv A outer s H vs Q E hr h=>?_)
 ·obtain⟨r,name,m,N,rfl,_⟩:=h;rfl
 ·obtain⟨r,name,m,N,rfl,hrr,hR,hl,hn,kk⟩:=h;have hu:=c23 hr;have nd:=scDeep.nd;refine⟨_,a03 (a43 2 nd (a52 a02))
   (a03 (b82 PassesOwn.never rfl (b05 rfl mRange (a00 a05 a02)) (a75 (i:=3) nd rfl (Or.inl rfl))
     (a03 (a43 2 nd (a47 c88 (pv 2) (a52 (a00 (pv 1) a02))))
     (a06 (a46 (a08 b98 (a45 a53 (a77 PySem.F.plainAttrs_dict PySem.F.slot_dict_setdefault PySem.F.type_dict_setdefault (e98 hu) (pv 0) (a00 (pv 2) (a00 (a52 (a00 (pv 2) (a00 a37 (a00 a55 a02)))) a02))) a05) a37 (a38 _)) (a06 e92) a39))))
   (a06 (b13 hu (pv 0) (a47 c88 (pv 2) (a52 (a00 (pv 1) a02))) (a52 (a00 (a47 c88 (pv 2) (a52 (a00 (pv 1) a02))) (a00 a37 a02))) rfl))),?_⟩
  refine⟨by show 0<=zL;decide,fun t0 ht0=>⟨_,rfl,by decide,by decide,?_⟩⟩;refine b41 (n:=8) (fun i σ H2=>(∃ t v3 m2,σ=[some (.ref r),some (.str name),some (.ref t),v3]/\H2 t=some (.tup ((rep name i).map V.str))/\H2 r=some (dP m2)/\(∀ q∈m2,RowV H2 N q)/\m2.length<=m.length+i)/\Kp [r] H H2)
   ⟨⟨t0,_,m,rfl,a01,by rw[a07 (a04 hrr ht0)];exact hrr,fun q hq=>(hR q hq).tk (b34 ht0),AZ _⟩,(Kp.refl _ H).new ht0⟩ ?_ ?_
  ·rintro i σ H2 hi ⟨⟨t,v3,m2,rfl,ht,hr2,hR2,hl2⟩,k2⟩;refine⟨_,rfl,_,rfl,by show 1<=zL;decide,fun tn htn=>⟨t,tn,(rep name i).map V.str,_,rfl,rfl,by rw[a07 (a04 ht htn)];exact ht,a01,by rw[Aj];unfold rep;rw[List.length_replicate,sizeLine_eq];show i+1<=_;lia,fun t' H4 ht4 s4=>?_⟩⟩;have hp4:H4 t'=some (.tup ((rep name (i+1)).map V.str)):=by
    rw[ht4,e18,Bz];rfl
   have sm:Same H2 H4:=((Same.refl H2).upd (o:=.tup [V.str name]) htn).trans s4;refine⟨_,rfl,.inr (.inr (.inl ⟨rfl,.inr ⟨_,sm _ _ hr2⟩⟩)),_,rfl,_,rfl,by show 3<=zL;decide,fun tv htv=>?_⟩;have sv:Same H4 (upd H4 tv (.tup [V.ref t',V.str "folder", V.non])):=(Same.refl H4).upd htv;have hv5:(upd H4 tv (.tup [V.ref t',V.str "folder", V.non])) tv=some (.tup [V.ref t',V.str "folder", V.non]):=a01;generalize (upd H4 tv (.tup [V.ref t',V.str "folder", V.non]))=H5 at sv hv5 ⊢;have s5:=sm.trans sv;have hr5:=s5 _ _ hr2;have hp5:=sv _ _ hp4;have k5:Kp [r] H H5:=k2.trans (Kp.of s5);have R5:∀ q∈m2,RowV H5 N q:=fun q hq=>(hR2 q hq).tk (Tk.of s5);refine⟨r,t',m2,_,.ref tv,rfl,rfl,hr5,hp5,by rw[sizeLine_eq];lia,fun w hw=>?_,fun hnone=>?_⟩
   ·have hev:=(R5 _ (c94 hw)).2.2;have two:∀ {c:Bool},if c=true then Q .non H5 else(∃ t v3 m2,[some (V.ref r),some (.str name),some (.ref t'),some (.int (0+i))]=[some (.ref r),some (.str name),some (.ref t),v3]/\H5 t=some (.tup ((rep name (i+1)).map V.str))/\H5 r=some (dP m2)/\(∀ q∈m2,RowV H5 N q)/\m2.length<=m.length+(i+1))/\Kp [r] H H5:=a50 (fun _=>kk m2 _ hr5 R5 (by lia) k5) (fun _=>⟨⟨t',_,m2,rfl,hp5,hr5,R5,by lia⟩,k5⟩);obtain⟨zs,e,⟨tt,pa,rfl,h1,h2⟩,_⟩:=hev;cases e with
    | dir o =>
     obtain⟨w',_,h4⟩:=h2;exact⟨tt,_,_,_,rfl,rfl,SqT.of h4,rfl,rfl,_,rfl,two⟩
    | fil j=>exact⟨tt,_,_,_,rfl,rfl,SqT.of h2,rfl,rfl,_,rfl,two⟩
    | gone=>exact⟨tt,_,_,_,rfl,rfl,SqT.of h2,rfl,rfl,_,rfl,two⟩
   ·have tkr:Tk H5 (upd H5 r (dP (b18 m2 (rep name (i+1)) (.ref tv)))):=b36 (b01 hr5);have pth:=f00 hn (k:=i+1) (by lia);have RR:=c81 (fun q hq=>(R5 q hq).tk tkr) (p:=rep name (i+1)) (v:=.ref tv) ⟨h26 _ _,pth,rep name (i+1),.dir none,⟨tv,t',rfl,tkr _ _ hp5,.non,rfl,tkr _ _ hv5⟩,pth,fun _ q=>nomatch q⟩;have ll:=(putK_mem (m:=m2) (p:=rep name (i+1)) (v:=.ref tv)).2;exact⟨tv,_,_,_,rfl,rfl,SqT.of (tkr _ _ hv5),rfl,rfl,_,rfl,a50 (fun _=>kk _ _ a01 RR (by lia) (k5.set (by simp))) (fun _=>⟨⟨t',_,_,rfl,tkr _ _ hp5,a01,RR,by lia⟩,k5.set (by simp)⟩)⟩
  ·rintro σ H2 ⟨⟨t,v3,m2,rfl,ht,hr2,hR2,hl2⟩,k2⟩;have l8:((rep name 8).map V.str).length+[V.str name].length<=zL:=by
    rw[Aj];unfold rep;rw[List.length_replicate,sizeLine_eq];show 8+1<=16777216;decide
   refine⟨_,rfl,_,rfl,by show 1<=zL;decide,fun tn htn=>⟨t,tn,(rep name 8).map V.str,_,rfl,rfl,by rw[a07 (a04 ht htn)];exact ht,a01,l8,fun t1 H3 ht1 s3=>?_⟩⟩;have sm:Same H2 H3:=((Same.refl H2).upd (o:=.tup [V.str name]) htn).trans s3;refine⟨by show 2<=zL;decide,fun tv htv=>?_⟩;have sv:Same H3 (upd H3 tv (.tup [V.ref t1,V.str "gone"])):=(Same.refl H3).upd htv;have htX:=sv _ _ (sm _ _ ht);refine⟨_,rfl,_,rfl,_,rfl,by show 1<=zL;decide,fun tn2 htn2=>⟨t,tn2,(rep name 8).map V.str,_,rfl,rfl,by rw[a07 (a04 htX htn2)];exact htX,a01,l8,fun t2 H5 ht2 s5=>?_⟩⟩;have s25:Same (upd H3 tv (.tup [V.ref t1,V.str "gone"])) H5:=((Same.refl _).upd (o:=.tup [V.str name]) htn2).trans s5;have sAll:Same H2 H5:=sm.trans (sv.trans s25);have e9:(rep name 8).map V.str++[V.str name]=(rep name 9).map V.str:=by
    rw[show(9:Nat)=8+1 from rfl,e18,Bz];rfl
   rw[e9] at ht1 ht2;refine⟨r,_,rfl,h92 (sAll _ _ hr2) ht2 (by rw[sizeLine_eq];lia),?_⟩;have tkr:Tk H5 (upd H5 r (dP (b18 m2 (rep name 9) (.ref tv)))):=b36 (b01 (sAll _ _ hr2));have p9:=f00 hn (k:=9) (by decide);have ll:=(putK_mem (m:=m2) (p:=rep name 9) (v:=.ref tv)).2;exact kk _ _ a01 (c81 (fun q hq=>(hR2 q hq).tk ((Tk.of sAll).trans tkr)) ⟨h26 _ _,p9,rep name 9,.gone,⟨tv,t1,rfl,tkr _ _ (s25 _ _ (sv _ _ ht1)),tkr _ _ (s25 _ _ a01)⟩,p9,trivial⟩) (by lia) ((k2.trans (Kp.of sAll)).set (by simp))
end
structure Lay where
 ents:List (List Str×Ent)
 pairs:List Pr
def c55 {α:Type} (xs:List α)(lo hi:Option Int):List α:=(xs.drop (HT.sIx xs.length 0 lo)).take (HT.sIx xs.length xs.length hi-HT.sIx xs.length 0 lo)
abbrev EntsV (H:Hp):List V->List (List Str×Ent)->Prop:=Paired fun v e=>EntV H v e.1 e.2
theorem EntsV.tk {H H':Hp}(k:Tk H H'){vs:List V}{es:List (List Str×Ent)}(h:EntsV H vs es):EntsV H' vs es:=Paired.mono (fun _ _ q=>EntV.tk k q) h
def LayV (H:Hp) (v:V)(L:Lay):Prop:=∃ t e p es ps,v=.ref t/\H t=some (.tup [.ref e,.ref p])/\H e=some (.tup es)/\H p=some (.tup ps)/\EntsV H es L.ents/\PairsV H ps L.pairs
theorem LayV.tk {H H':Hp}(k:Tk H H'){v:V}{L:Lay}(h:LayV H v L):LayV H' v L:=by
 obtain⟨t,e,p,es,ps,h0,h1,h2,h3,h4,h5⟩:=h;exact⟨t,e,p,es,ps,h0,k _ _ h1,k _ _ h2,k _ _ h3,EntsV.tk k h4,PairsV.tk k h5⟩
theorem b53 {α β:Type}{R:α->β->Prop}:∀ {xs xs':List α}{ys ys':List β},Paired R xs ys->Paired R xs' ys'->Paired R (xs++xs') (ys++ys')
 | _,_,_,_,.nil,h=>h
 | _,_,_,_,.cons r t,h=>.cons r (b53 t h)
theorem g12 {α:Type} (xs:List α)(lo hi:Option Int):(c55 xs lo hi).length<=xs.length:=by
 unfold c55;rw[CQ,EJ];lia
theorem e44 {xs:List V}{lo hi:Option Int}{v:V}(h:v∈c24 xs lo hi):v∈xs:=List.mem_of_mem_drop (List.mem_of_mem_take h)
theorem b50 {H:Hp}{a:Addr}(h:H a=none):∀ x∈[a],H x=none:=fun x hx=>by rw[Ax.mp hx];exact h
def LV (H:Hp) (v:V):Prop:=∃ t e p es ps,v=.ref t/\H t=some (.tup [.ref e,.ref p])/\H e=some (.tup es)/\H p=some (.tup ps)/\(∀ v∈es,EV H 1000 v)/\(∀ v∈ps,PV H v)/\es.length<=198/\ps.length<=400
def d82 (K:WFr):Sp:=fun vs H Q _=>∃(a:Addr) (ns:List Int),vs=[.ref a]/\SqL K H a (ns.map V.int)/\ns.length<=63/\∀(v:V)(H':Hp),LV H' v->Same H H'->Q v H'
section
theorem scLayer:FnScope ["_law_script", "_law_rows_here", "_law_pairs", "_law_folders", "_law_k", "_law_box_here", "_law_turn", "_law_last", "_law_entries", "_law_path", "_law_row"] ["_law_script"] (a41 f52):=.of
theorem h18 {f:Addr}{fd:FD}(F:Fun K "_law_layer" "_law_layer" f52 f fd)(mLen:mg "len" = none)(mRange:mg "range" = none)(mTuple:mg "tuple" = none)(mSorted:mg "sorted" = none)(DT:b58 P w K mg base)(DB:Def P w K mg base 1 "_law_box" ["_law_script", "_law_k"] (g61 K))
 (DW:Def P w K mg base 2 "_law_word" ["_law_box_here"] d50)(DG:Def P w K mg base 5 "_law_grow" ["_law_box_here", "_law_rows_here", "_law_pairs", "_law_folders"] e93)(DD:Def P w K mg base 1 "_law_deep" ["_law_rows_here", "_law_name"] f53):FnOk P w K mg base CX0 6 f fd ["_law_script"] (d82 K):=by
 refine F.ok scLayer (fun vs H Q E h=>?_) (fun cdv A outer s H vs Q E hr h=>?_)
 ·obtain⟨a,ns,rfl,_⟩:=h;rfl
 ·obtain⟨a,ns,rfl,hS,hlen,kk⟩:=h;have hu:=c23 hr;have hr1:Room 1 _:=hr.mono (by decide);have hr2:Room 2 _:=hr.mono (by decide);have nd:=scLayer.nd;refine⟨_,a03 (a43 1 nd e21)
   (a03 (a43 2 nd (a56 a02))
   (a03 (a43 3 nd (a56 (a00 (a52 a02) a02)))
   (a03 (b82 PassesOwn.never rfl (b05 rfl mRange (a00 (a09 a36 (by rfl) mLen bLn (a00 (pv 0) a02)) a02)) (a75 (i:=4) nd rfl (Or.inl rfl))
     (a03 (a43 5 nd (a42 DB hr1 (a00 (pv 0) (a00 (pv 4) a02))))
     (a06 (b82 PassesOwn.never rfl (b05 rfl mRange (a00 (a47 a80 a05 (a42 DT hr1 (a00 (pv 5) (a00 a05 a02)))) a02)) (a75 (i:=6) nd rfl (Or.inl rfl))
       (a06 (a81 (a42 DG hr (a00 (pv 5) (a00 (pv 1) (a00 (pv 2) (a00 (pv 3) a02)))))))))))
   (a03 (a43 7 nd (a42 DB hr1 (a00 (pv 0) (a00 (a47 d85 (a09 a36 (by rfl) mLen bLn (a00 (pv 0) a02)) a05) a02))))
   (a03 (a46 (a08 a58 (a42 DT hr1 (a00 (pv 7) (a00 a05 a02))) a05 (a38 _)) (a06 (a81 (a42 DD hr1 (a00 (pv 1) (a00 (a42 DW hr2 (a00 (pv 7) a02)) a02))))) a39)
   (a03 (a43 6 nd (a42 DT hr1 (a00 (pv 7) (a00 (a47 a80 a05 (a09 a36 (by rfl) mLen bLn (a00 (pv 2) a02))) a02))))
   (a03 (a43 8 nd (a56 a02))
   (a03 (b82 PassesOwn.never rfl (b15 (a09 (d24 rfl) (by rfl) mSorted PyProof.Rows.boot_sorted (a00 (pv 1) a02))) (a75 (i:=9) nd rfl (Or.inl rfl))
     (a03 (a43 10 nd (h50 hu (pv 1) (pv 9)))
     (a03 (a46 (a08 a58 (a45 a53 (pv 10) a05) a37 (a38 _))
       (a06 (a43 10 nd (a52 (a00 (pv 9) (a00 a37 (a00 (a47 b31 (a47 a80 (a45 a53 (pv 10) a05) (pv 6)) (a09 a36 (by rfl) mLen bLn (a00 (pv 2) a02))) a02)))))) a39)
     (a06 (a81 (a77 pLQ PySem.F.slot_list_append PySem.F.type_list_append a87 (pv 8) (a00 (pv 10) a02)))))))
   (a06 (a40 (a52 (a00 (a63 a64 (by rfl) mTuple PyProof.Rows.Boot.tuple (a00 (pv 8) a02))
     (a00 (a63 a64 (by rfl) mTuple PyProof.Rows.Boot.tuple (a00 (a47 b60 (a61 b14 (pv 2) (a65 (a47 e48 (a09 a36 (by rfl) mLen bLn (a00 (pv 2) a02)) (pv 6))) a73)
       (a61 b14 (pv 2) a73 (a65 (a47 e48 (a09 a36 (by rfl) mLen bLn (a00 (pv 2) a02)) (pv 6))))) a02)) a02))))))))))))),?_⟩
  intro r hrn;refine⟨by show 0<=zL;decide,fun p hpn=>⟨by show 0<=zL;decide,fun t0 ht0=>⟨by show 1<=zL;decide,fun ff hfn=>?_⟩⟩⟩;have s1:Same H (upd H r (.dT [])):=(Same.refl H).upd hrn;have s3:=(s1.upd (o:=.lst []) hpn).upd (o:=.tup []) ht0;have s0:=s3.upd (o:=.lst [V.ref t0]) hfn;have hp0:=s1.free hpn;have hf0:=s3.free hfn;have a1:Same (upd H r (.dT [])) _:=(Same.refl _).upd (o:=.lst []) hpn;have a2:Same (upd (upd H r (.dT [])) p (.lst [])) _:=(Same.refl _).upd (o:=.tup []) ht0;have a3:Same (upd (upd (upd H r (.dT [])) p (.lst [])) t0 (.tup [])) _:=(Same.refl _).upd (o:=.lst [V.ref t0]) hfn;have S0:S3 (upd (upd (upd (upd H r (.dT [])) p (.lst [])) t0 (.tup [])) ff (.lst [V.ref t0])) r p ff (3 * 0) 192 [] [] [V.ref t0] :=
   ⟨a3 _ _ (a2 _ _ (a1 _ _ a01)),a3 _ _ (a2 _ _ a01),a01,a04 (a2 _ _ a01) hfn,(fun _ q=>nomatch q),(fun _ q=>nomatch q),fun v hv=>by rw[Ax.mp hv];exact⟨[],⟨t0,rfl,a3 _ _ a01⟩,⟨Fx _,(fun _ q=>nomatch q)⟩,Fx _⟩,AZ _,Fx _,AZ _,Nat.zero_lt_one⟩
  generalize (upd (upd (upd (upd H r (.dT [])) p (.lst [])) t0 (.tup [])) ff (.lst [V.ref t0]))=H0 at S0 s0 ⊢;have fr:∀ {b:Addr},H b=none->∀ x∈[b,r,p,ff],H x=none:=fun hb x hx=>by
   simp only[BZ,lN,or_false] at hx;rcases hx with rfl | rfl | rfl | rfl <;> assumption
  refine⟨_,rfl,a,_,rfl,.inl (s0.seq hS),_,rfl,by rw[Aj];lia,by rw[Aj];lia,?_⟩;rw[Dj,Aj];refine b41 (n:=ns.length) (fun i σ H2=>(∃ v4 v5 v6 v7 v8 v9 v10 m xs fs,σ=[some (.ref a),some (.ref r),some (.ref p),some (.ref ff),v4,v5,v6,v7,v8,v9,v10]/\S3 H2 r p ff (3 * i) 192 m xs fs)/\Same H H2)
   ⟨⟨_,_,_,_,_,_,_,_,_,_,rfl,S0⟩,s0⟩ ?_ ?_
  ·rintro i σ H2 hi ⟨⟨v4,v5,v6,v7,v8,v9,v10,m,xs,fs,rfl,S2⟩,s2⟩;refine⟨_,rfl,_,rfl,a,ns,i,congrArg (fun z=>[V.ref a,V.int z]) (Int.zero_add _),s2.seq hS,by lia,hlen,fun b H3 hbn hb3 s3=>?_⟩;have hb0:=s2.free hbn;have nbp:=(a04 S2.hp hbn).symm;have nbf:=(a04 S2.hf hbn).symm;have S3':=S2.same s3;refine⟨_,rfl,b,999999,3,rfl,by decide,by decide,hb3,fun x H4 l4 u4 hb4 k4=>⟨_,_,rfl,rfl,_,rfl,by lia,by lia,?_⟩⟩;have hj3:(1+x).toNat<=3:=by lia
   generalize (1+x).toNat=jj at hj3 ⊢;refine b41 (n:=jj) (fun j σ H5=>(∃ v4 v6 v7 v8 v9 v10 m xs fs,σ=[some (.ref a),some (.ref r),some (.ref p),some (.ref ff),v4,some (.ref b),v6,v7,v8,v9,v10]/\S3 H5 r p ff (3 * i+j) 192 m xs fs)/\BxAt H5 b (999999-200 * j)/\Same H H5)
    ⟨⟨_,_,_,_,_,_,_,_,_,rfl,S3'.kp k4 hb3.nt (hb3.nd S3'.hr) nbp nbf⟩,hb4,(s2.trans s3).kp k4 (b50 hb0)⟩ ?_ ?_
   ·rintro j σ H5 hj ⟨⟨v4,v6,v7,v8,v9,v10,m,xs,fs,rfl,S5⟩,hb5,s5⟩;exact⟨_,rfl,_,rfl,_,rfl,_,rfl,b,r,p,ff,999999-200 * (j+1),3 * i+j,m,xs,fs,rfl,hb5.mono (by lia),nbp,nbf,S5,by lia,fun m' xs' fs' H6 hb6 S6 k6=>⟨⟨_,_,_,_,_,_,_,_,_,rfl,S6⟩,hb6,s5.kp k6 (fr hb0)⟩⟩
   ·rintro σ H5 ⟨⟨v4,v6,v7,v8,v9,v10,m,xs,fs,rfl,S5⟩,_,s5⟩;exact⟨⟨_,_,_,_,_,_,_,_,_,_,rfl,S5.mono (by lia) (AZ _)⟩,s5⟩
  ·rintro σ H2 ⟨⟨v4,v5,v6,v7,v8,v9,v10,m,xs,fs,rfl,S2⟩,s2⟩;have e2:(((ns.map V.int).length:Nat):Int) / 2=((ns.length / 2:Nat):Int):=by rw[Aj];lia
   refine⟨_,rfl,_,rfl,a,_,rfl,.inl (s2.seq hS),_,_,rfl,rfl,⟨by decide,by decide⟩,a,ns,ns.length / 2,congrArg (fun z=>[V.ref a,V.int z]) e2,s2.seq hS,by lia,hlen,fun tl H3 htn htl3 s3=>?_⟩;have htl0:=s2.free htn;have nlp:=(a04 S2.hp htn).symm;have nlf:=(a04 S2.hf htn).symm;have S3':=S2.same s3;have nlr:=htl3.nd S3'.hr;have ml:=S2.ml;have fl:=S2.fl;refine⟨_,rfl,tl,999999,4,rfl,by decide,by decide,htl3,fun x H4 _ _ hb4 k4=>⟨rfl,_,rfl,?_⟩⟩;have S4:=S3'.kp k4 htl3.nt nlr nlp nlf;have s4:Same H H4:=(s2.trans s3).kp k4 (b50 htl0);refine' i02 (A:=fun(HX:Hp)=>(∃ mX,S3 HX r p ff 198 192 mX xs fs)/\BxAt HX tl 1000/\Same H HX) (fun rest=>a50 (fun h1=>?b1) (fun h1=>?b2)) ?b3
   case b1 =>
    refine⟨_,rfl,_,rfl,tl,999989,rfl,hb4,fun z H5 hz hb5 k5=>?_⟩;have S5:=S4.kp k5 hb4.nt nlr nlp nlf;refine⟨r,z,m,xs.length,rfl,S5.hr,S5.R,by lia,hz,fun mX HX hrX hRX lX kX=>?_⟩;have tX:Tk H5 HX:=kX.tk fun a ha=>by rw[Ax.mp ha];exact b01 S5.hr
    have npr:=a60 S5.hp S5.hr;have nfr:=a60 S5.hf S5.hr;exact rest HX ⟨⟨mX,hrX,kX _ _ S5.hp (by simpa using npr),kX _ _ S5.hf (by simpa using nfr),S5.npf,hRX,fun v hv=>(S5.P v hv).tk tX,fun v hv=>(S5.F v hv).tk tX,by lia,S5.xl,by lia,S5.f0⟩,(hb5.kp kX (by simpa using nlr)).mono (by decide),(s4.kp k5 (b50 htl0)).kp kX (b50 hrn)⟩
   case b2=>exact rest H4 ⟨⟨m,S4.mono (by lia) (AZ _)⟩,hb4.mono (by decide),s4⟩
   case b3 =>
    rintro HX ⟨⟨mX,SX⟩,hbX,sX⟩;have xl:=SX.xl;have mlX:=SX.ml;refine⟨_,rfl,_,rfl,p,_,rfl,.inl (SqL.of SX.hp),_,_,rfl,rfl,tl,999,1+(xs.length:Int),rfl,by lia,by lia,hbX,fun turn H6 _ _ hb6 k6=>?_⟩;have S6:=SX.kp k6 hbX.nt nlr nlp nlf;have s6:Same H H6:=sX.kp k6 (b50 htl0);refine⟨by show 0<=zL;decide,fun te hte=>?_⟩;have S7:=S6.new (o:=.lst []) hte;have hte0:=s6.free hte;refine⟨_,rfl,r,mX,rfl,S7.hr,fun q hq=>(S7.R q hq).1,fun l as al ha hl=>⟨l,rfl,⟨_,SqL.of a01⟩,?_⟩⟩;have S8:=S7.new (o:=.lst (as.map V.ref)) hl;have s8:=(s6.upd (o:=.lst []) hte).upd (o:=.lst (as.map V.ref)) hl;have hl8:(upd (upd H6 te (.lst [])) l (.lst (as.map V.ref))) l=some (.lst (as.map V.ref)):=a01;have nel:te≠l:=a04 a01 hl;have hte8:(upd (upd H6 te (.lst [])) l (.lst (as.map V.ref))) te=some (.lst []):=by rw[a07 nel,a01]
    have ha8:∀ b∈as,∃ k∈mX.map (·.1),(upd (upd H6 te (.lst [])) l (.lst (as.map V.ref))) b=some (.tup (k.map V.str)):=fun b hb=>let ⟨k,hk,e⟩:=ha b hb;⟨k,hk,b34 hl _ _ e⟩
    have npe:=(a04 S6.hp hte).symm;have nfe:=(a04 S6.hf hte).symm;have nre:=(a04 S6.hr hte).symm;generalize (upd (upd H6 te (.lst [])) l (.lst (as.map V.ref)))=H8 at S8 s8 hl8 hte8 ha8 ⊢;refine e51 (xs:=as.map V.ref) (fun i σ H2=>(∃ v4 v5 v7 v9 v10 es,σ=[some (.ref a),some (.ref r),some (.ref p),some (.ref ff),v4,v5,some (.int turn),v7,some (.ref te),v9,v10]/\H2 te=some (.lst es)/\(∀ v∈es,EV H2 1000 v)/\es.length<=i)/\Kp [te] H8 H2)
     ⟨⟨_,_,_,_,_,[],rfl,hte8,(fun _ q=>nomatch q),AZ _⟩,Kp.refl _ _⟩ (fun i σ H2 _ h=>SqL.of (h.2 _ _ hl8 (by simpa using nel.symm))) ?_ ?_
    ·rintro i x σ H2 hx ⟨⟨v4,v5,v7,v9,v10,es,rfl,hte2,hes,hle⟩,k2⟩;have S9:=S8.kp k2 (a71 hte8) nre npe nfe;have t2:Tk H8 H2:=k2.tk fun a ha=>by rw[Ax.mp ha];exact a71 hte8
     rw[CJ] at hx;obtain⟨ai,hai,rfl⟩:=Option.map_eq_some_iff.mp hx;have hi:=(Ej.mp hai).1;obtain⟨zs,hzs,hz⟩:=ha8 ai (BJ hai);have hz2:=t2 _ _ hz;obtain⟨ww,hww⟩:=f36 hzs;obtain⟨_,pz,hev⟩:=S9.R _ (c94 hww);have hget:DGet H2 r (.ref ai) (some ww):=by rw[← hww];exact i17 S9.hr hz2
     have les:es.length < zL:=by rw[sizeLine_eq];lia
     have app:∀(v:V)(HY:Hp),Kp [te] H8 HY->HY te=some (.lst es)->(∀ v∈es,EV HY 1000 v)->EV HY 1000 v->(∀ u∈es++[v],EV (upd HY te (.lst (es++[v]))) 1000 u)/\(es++[v]).length<=i+1/\Kp [te] H8 (upd HY te (.lst (es++[v]))):=fun v HY kY hY hE hv =>
      have tY:Tk HY (upd HY te (.lst (es++[v]))):=b36 (a71 hY)
      ⟨b75 (fun v hv=>(hE v hv).tk tY) (hv.tk tY),by rw[Bj];exact Nat.succ_le_succ hle,kY.set (by simp)⟩
     refine⟨_,rfl,_,rfl,r,ww,rfl,hget,?_⟩;have hevm:=hev.mono (M:=1000) (by lia);obtain⟨zz,e,⟨tt,pa,rfl,h1,h2⟩,pzz,eok⟩:=hev;obtain⟨b1,b2,b3⟩:=app _ H2 k2 hte2 hes hevm;cases e with
     | dir o =>
      obtain⟨w',ow,h4⟩:=h2;refine⟨_,rfl,tt,_,_,_,rfl,rfl,SqT.of h4,rfl,rfl,_,rfl,?_⟩;refine a50 (fun q=>absurd q (by decide +kernel)) (fun _=>?_);exact⟨_,rfl,.inl ⟨rfl,_,SqL.of hte2⟩,_,rfl,te,es,_,rfl,rfl,hte2,les,⟨_,_,_,_,_,_,rfl,a01,b1,b2⟩,b3⟩
     | gone =>
      refine⟨_,rfl,tt,_,_,_,rfl,rfl,SqT.of h2,rfl,rfl,_,rfl,?_⟩;refine a50 (fun q=>absurd q (by decide +kernel)) (fun _=>?_);exact⟨_,rfl,.inl ⟨rfl,_,SqL.of hte2⟩,_,rfl,te,es,_,rfl,rfl,hte2,les,⟨_,_,_,_,_,_,rfl,a01,b1,b2⟩,b3⟩
     | fil j =>
      have h0:(0:Int) < (xs.length:Int):=Int.lt_of_le_of_lt eok.1 eok.2;refine⟨_,rfl,tt,_,_,_,rfl,rfl,SqT.of h2,rfl,rfl,_,rfl,?_⟩;refine a50 (fun _=>?_) (fun q=>absurd (by decide +kernel) q);refine⟨_,rfl,_,rfl,tt,_,_,_,rfl,rfl,SqT.of h2,rfl,_,rfl,_,_,rfl,rfl,_,rfl,p,_,rfl,.inl (SqL.of S9.hp),_,_,rfl,rfl,h0,by show 3<=zL;decide,fun tu htu=>?_⟩;have su:Same H2 (upd H2 tu (.tup [V.ref ai,V.str "file", V.int ((j+turn) % (xs.length:Int))])):=(Same.refl _).upd htu;obtain⟨a1,a2,a3⟩:=app (.ref tu) _ (k2.trans (Kp.of su)) (su _ _ hte2) (fun v hv=>(hes v hv).tk (Tk.of su)) ⟨zs,.fil ((j+turn) % (xs.length:Int)),⟨tu,ai,rfl,su _ _ hz2,a01⟩,pz,⟨Int.emod_nonneg _ (by lia),by have:=EX (j+turn) h0;lia⟩⟩;exact⟨_,rfl,.inl ⟨rfl,_,SqL.of (su _ _ hte2)⟩,_,rfl,te,es,_,rfl,rfl,su _ _ hte2,les,⟨_,_,_,_,_,_,rfl,a01,a1,a2⟩,a3⟩
    ·rintro σ H2 ⟨⟨v4,v5,v7,v9,v10,es,rfl,hte2,hes,hle⟩,k2⟩;have S9:=S8.kp k2 (a71 hte8) nre npe nfe;have s9:=s8.kp k2 (b50 hte0);rw[Aj,al] at hle;refine⟨_,rfl,te,_,rfl,.inl ⟨SqL.of hte2,fun t1 ht1=>?_⟩⟩;have c1:Same H2 (upd H2 t1 (.tup es)):=(Same.refl _).upd ht1;have hA:(upd H2 t1 (.tup es)) t1=some (.tup es):=a01;generalize (upd H2 t1 (.tup es))=HA at c1 hA ⊢;have SA:=S9.same c1;refine⟨_,rfl,_,rfl,p,_,rfl,.inl (SqL.of SA.hp),_,rfl,_,_,rfl,rfl,_,rfl,p,_,rfl,SqL.of SA.hp,fun d1 hd1=>?_⟩;have m1:∀ v∈c24 xs (some ((xs.length:Int)-turn)) none,v∈xs:=fun v=>e44;have b1:=b23 xs (some ((xs.length:Int)-turn)) none;have m2:∀ v∈c24 xs none (some ((xs.length:Int)-turn)),v∈xs:=fun v=>e44;have b2:=b23 xs none (some ((xs.length:Int)-turn));generalize c24 xs (some ((xs.length:Int)-turn)) none=y1 at m1 b1 ⊢;have c2:Same HA (upd HA d1 (.lst y1)):=(Same.refl _).upd hd1;have hB:(upd HA d1 (.lst y1)) d1=some (.lst y1):=a01;generalize (upd HA d1 (.lst y1))=HB at c2 hB ⊢;have SB:=SA.same c2;refine⟨_,rfl,_,rfl,p,_,rfl,.inl (SqL.of SB.hp),_,rfl,_,_,rfl,rfl,_,rfl,p,_,rfl,SqL.of SB.hp,fun d2 hd2=>?_⟩;generalize c24 xs none (some ((xs.length:Int)-turn))=y2 at m2 b2 ⊢;have c3:Same HB (upd HB d2 (.lst y2)):=(Same.refl _).upd hd2;have hC:(upd HB d2 (.lst y2)) d2=some (.lst y2):=a01;generalize (upd HB d2 (.lst y2))=HC at c3 hC ⊢;refine⟨d1,d2,_,_,rfl,rfl,c3 _ _ hB,hC,by rw[sizeLine_eq];lia,fun d3 hd3=>?_⟩;have c4:Same HC (upd HC d3 (.lst (y1++y2))):=(Same.refl _).upd hd3;have hD:(upd HC d3 (.lst (y1++y2))) d3=some (.lst (y1++y2)):=a01;generalize (upd HC d3 (.lst (y1++y2)))=HD at c4 hD ⊢;refine⟨d3,_,rfl,.inl ⟨SqL.of hD,fun t2 ht2=>⟨by show 2<=zL;decide,fun t3 ht3=>?_⟩⟩⟩;have c5:Same HD (upd HD t2 (.tup (y1++y2))):=(Same.refl _).upd ht2;have hE:(upd HD t2 (.tup (y1++y2))) t2=some (.tup (y1++y2)):=a01;generalize (upd HD t2 (.tup (y1++y2)))=HE at c5 hE ht3 ⊢;have c6:Same HE (upd HE t3 (.tup [V.ref t1,V.ref t2])):=(Same.refl _).upd ht3;have c26:=c2.trans (c3.trans (c4.trans (c5.trans c6)));have c16:=c1.trans c26;exact kk (.ref t3) _ ⟨t3,t1,t2,es,_,rfl,a01,c26 _ _ hA,c6 _ _ hE,fun v hv=>(hes v hv).tk (Tk.of c16),fun v hv=>(S9.P v ((Bq.mp hv).elim (m1 v) (m2 v))).tk (Tk.of c16),by lia,by rw[Bj];lia⟩ (s9.trans c16)
end
def SL:Str := "/"
theorem e32 {α β:Type}{f:α->β}{xs:List α}{i:Nat}{x:α}(h:xs[i]?=some x):(xs.take i).map f++[f x]=(xs.take (i+1)).map f:=by
 rw[EQ,h,Bz];rfl
theorem d96 (i:Int)(h0:0<=i)(h1:i < 1000):((toString i:String):Str).length<=1002:=by
 have:=PyProof.Rows.len_str_of_int i
 lia
theorem d83 {i:Int}(h0:0<=i)(h1:i < 1000):i.natAbs.log2 < 1920:=by
 have:=Nat.log2_le_self i.natAbs
 lia
def RB' (rows:List Str) (N:Nat):Prop:=(rows.map (·.length)).sum+rows.length<=N
theorem f56 {l l':List Str}(h:l.Sublist l'):(l.map (·.length)).sum+l.length<=(l'.map (·.length)).sum+l'.length:=by
 induction h with
 | slnil=>exact AZ _
 | cons a _ ih=>rw[Cz,List.sum_cons,Cq];lia
 | cons_cons a _ ih=>rw[Cz,List.sum_cons,Cq,Cz,List.sum_cons,Cq];lia
theorem RB'.sub {l l':List Str}{N:Nat}(h:RB' l' N)(s:l.Sublist l'):RB' l N:=Fz (f56 s) h
theorem RB'.app {l l':List Str}{N M:Nat}(h:RB' l N)(h':RB' l' M):RB' (l++l') (N+M):=by
 unfold RB' at *;rw[Bz,List.sum_append,Bj];lia
theorem RB'.one {z:Str}{N:Nat}(h:z.length+1<=N):RB' [z] N:=by
 unfold RB';simp only[Cz,List.map_nil,List.sum_cons,List.sum_nil,Cq,List.length_nil];omega
theorem RB'.mono {l:List Str}{N M:Nat}(h:RB' l N)(q:N<=M):RB' l M:=Fz h q
theorem RB'.len {l:List Str}{N:Nat}(h:RB' l N):l.length<=N:=by unfold RB' at h;lia
theorem RB'.mem {l:List Str}{N:Nat}(h:RB' l N):∀ z∈l,z.length<=N:=fun z hz=>by
 have:=f56 (List.singleton_sublist.mpr hz)
 unfold RB' at h;simp only[Cz,List.map_nil,List.sum_cons,List.sum_nil,Cq,List.length_nil] at this;lia
theorem e43 (ns:List Int)(lo hi:Option Int):c24 (ns.map V.int) lo hi=(c55 ns lo hi).map V.int:=by
 unfold c24 c55;rw[Aj,List.map_take,List.map_drop]
theorem c84 (ns:List Str)(lo hi:Option Int):c24 (ns.map V.str) lo hi=(c55 ns lo hi).map V.str:=by
 unfold c24 c55;rw[Aj,List.map_take,List.map_drop]
theorem g65 {α:Type} (xs:List α)(lo hi:Option Int):(c55 xs lo hi).Sublist xs:=(List.take_sublist _ _).trans (List.drop_sublist _ _)
theorem Strs.rb {n i:Nat}{ys:List V}(h:Strs n ys i):∃ zs:List Str,ys=zs.map V.str/\zs.length=i/\RB' zs ((n+1) * i):=by
 obtain⟨zs,rfl,rfl,h⟩:=h;refine⟨zs,rfl,rfl,?_⟩
 have:=h38 h
 unfold RB';rw[Nat.add_mul];lia
theorem e22 (sep:Str):∀(rest:List Str)(acc:Array Nat),(rest.foldl (fun acc p=>acc++sep.cps++p.cps) acc).size=acc.size+((rest.map (·.length)).sum+rest.length * sep.length)
 | [],acc=>by simp
 | p::r,acc=>by
  rw[List.foldl_cons,e22 sep r,Array.size_append,Array.size_append,Cz,List.sum_cons,Cq,Nat.succ_mul];show _+sep.length+p.length+_=_;lia
theorem f80 (sep:Str) (ts:List Str):(Txt.join sep ts).length<=(ts.map (·.length)).sum+ts.length * sep.length:=by
 cases ts with
 | nil=>exact Fx _
 | cons p r =>
  have h:=e22 sep r p.cps;rw[Cz,List.sum_cons,Cq,Nat.succ_mul];show(r.foldl (fun acc p=>acc++sep.cps++p.cps) p.cps).size<=_;rw[h];show p.length+_<=_;lia
def Fw (z:Str):Prop:=32∈z.cps.toList∨z = "data"∨z = ""
def Gd (c:Nat) (z:Str):Prop:=z.length<=c/\Fw z
def RX (c:Nat) (rows:List Str):Prop:=∀ z∈rows,Gd c z
theorem Gd.mono {c c':Nat}{z:Str}(h:Gd c z)(q:c<=c'):Gd c' z:=⟨Fz h.1 q,h.2⟩
theorem fw_l {a b:Str}(h:32∈a.cps.toList):32∈(a++b).cps.toList:=by
 show 32∈(a.cps++b.cps).toList;rw[Array.toList_append];exact List.mem_append_left _ h
theorem i47 {a b:Str}(h:32∈b.cps.toList):32∈(a++b).cps.toList:=by
 show 32∈(a.cps++b.cps).toList;rw[Array.toList_append];exact lR _ h
theorem g24 (sep:Str):∀(r:List Str)(acc:Array Nat),32∈acc.toList->32∈(r.foldl (fun acc p=>acc++sep.cps++p.cps) acc).toList
 | [],_,h=>h
 | p::r,acc,h=>by
  rw[List.foldl_cons];refine g24 sep r _ ?_;rw[Array.toList_append,Array.toList_append];exact List.mem_append_left _ (List.mem_append_left _ h)
theorem h66:∀ {zs:List Str},2<=zs.length->32∈(Txt.join " " zs).cps.toList
 | [],h=>by cases h
 | [_],h=>absurd (show 2<=1 from h) (by decide)
 | p::q::r,_=>by
  show 32∈((q::r).foldl (fun acc p=>acc++(" " : Str).cps++p.cps) p.cps).toList;rw[List.foldl_cons];refine g24 " " r _ ?_;rw[Array.toList_append,Array.toList_append];exact List.mem_append_left _ (lR _ (by decide +kernel))
def StrG (n:Nat) (ys:List V) (i:Nat):Prop:=∃ zs:List Str,ys=zs.map V.str/\zs.length=i/\RX n zs
theorem StrG.nil (n:Nat):StrG n [] 0:=⟨[],rfl,rfl,fun _ q=>nomatch q⟩
theorem StrG.snoc {n i:Nat}{ys:List V}{z:Str}(h:StrG n ys i)(q:Gd n z):StrG n (ys++[V.str z]) (i+1):=by
 obtain⟨zs,rfl,rfl,h⟩:=h;refine⟨zs++[z],by rw[Bz];rfl,by rw[Bj];rfl,fun y hy=>?_⟩;rcases Bq.mp hy with e | e
 ·exact h y e
 ·rw[Ax.mp e];exact q
theorem StrG.len {n i:Nat}{ys:List V}(h:StrG n ys i):ys.length=i:=by
 obtain⟨zs,rfl,rfl,_⟩:=h;rw[Aj]
theorem StrG.rb {n i:Nat}{ys:List V}(h:StrG n ys i):∃ zs:List Str,ys=zs.map V.str/\zs.length=i/\RB' zs ((n+1) * i)/\RX n zs:=by
 obtain⟨zs,rfl,rfl,h⟩:=h;obtain⟨us,e,hl,hb⟩:=Strs.rb (n:=n) (ys:=zs.map V.str) ⟨zs,rfl,rfl,fun z hz=>(h z hz).1⟩;cases (List.map_inj_right (fun _ _ q=>V.str.inj q)).mp e;exact⟨zs,rfl,rfl,hb,h⟩
def spPT:Sp:=fun vs H Q _=>∃(t:Addr) (zs:List Str),vs=[.ref t]/\H t=some (.tup (zs.map V.str))/\Pth zs/\∀(z:Str)(H':Hp),z.length<=81->Same H H'->Q (.str z) H'
def f83:Sp:=fun vs H Q _=>∃ v:V,vs=[v]/\EV H 1000 v/\∀(z:Str)(H':Hp),Gd 1200 z->Same H H'->Q (.str z) H'
def i01:Sp:=fun vs H Q _=>∃ v:V,vs=[v]/\PV H v/\∀(z:Str)(H':Hp),Gd 400 z->Same H H'->Q (.str z) H'
def e95:Sp:=fun vs H Q _=>∃ v:V,vs=[v]/\LV H v/\∀(l:Addr) (rows:List Str)(H':Hp),H' l=some (.lst (rows.map V.str))->RB' rows 450000->rows.length<=900->RX 1200 rows->Same H H'->Q (.ref l) H'
section
theorem scLPathText:FnScope ["_law_path"] ["_law_path"] (a41 b95):=.of
theorem d34 {f:Addr}{fd:FD}(F:Fun K "_law_path_text" "_law_path_text" b95 f fd):FnOk P w K mg base CX0 1 f fd ["_law_path"] spPT:=by
 refine F.ok scLPathText (fun vs H Q E h=>?_) (fun cdv A outer s H vs Q E hr h=>?_)
 ·obtain⟨t,zs,rfl,_⟩:=h;rfl
 ·obtain⟨t,zs,rfl,ht,hp,k⟩:=h;have h8:=hp.len;have nd:=scLPathText.nd;refine⟨_,a03 (a46 (a08 (f41 hr.units0) (pv 0) (a52 a02) (a38 _)) (a06 (a40 a37)) a39)
   (a06 (a40 (a77 pS PySem.F.slot_str_join PySem.F.type_str_join c53 a37 (a00 (a82 (x := "_law_name") scLPathText .of (by decide +kernel) (f54 (pv 0))
     (fun C fp s H=>a47 a67 a37 (pv 1))) a02)))),?_⟩
  refine⟨_,rfl,by show 0<=zL;decide,fun u hu=>?_⟩;have s1:Same H (upd H u (.tup [])):=(Same.refl H).upd hu;refine⟨t,u,zs,[],rfl,rfl,SqT.of (s1 _ _ ht),SqT.of a01,_,rfl,?_⟩;refine a50 (fun h1=>k _ _ (by decide +kernel) s1) (fun h1=>?_);refine⟨rfl,_,rfl,t,rfl,⟨_,SqT.of (s1 _ _ ht)⟩,c93 (xs:=zs.map V.str) (fun i ys H'=>H'=upd H u (.tup [])/\Strs 9 ys i) (by rw[Aj,sizeLine_eq];lia)
   ⟨rfl,.nil _⟩ (fun i ys H' h=>h.2.len) (fun i ys H' _ h=>by rw[h.1];exact SqT.of (s1 _ _ ht)) ?_ ?_⟩
  ·rintro i ys H' v hv ⟨e1,e2⟩;rw[CJ] at hv;obtain⟨p,hp',rfl⟩:=Option.map_eq_some_iff.mp hv;have hpl:=hp.nam p (BJ hp');have e3:("/" : Str).length=1:=by decide +kernel
   exact⟨_,rfl,_,_,rfl,rfl,by rw[e3,sizeLine_eq];lia,e1,e2.snoc (by rw[CZ,e3];lia)⟩
  ·rintro ys H' ⟨rfl,us,rfl,hl,hu'⟩ D hD;obtain⟨j1,j2⟩:=f65 hl hu';rw[Aj] at j1 j2;exact⟨"", D,us,rfl,rfl,SqL.of a01,by lia,k _ _ (by lia) (s1.upd hD)⟩
theorem scPrR:FnScope ["_law_pair", "_law_row"] ["_law_pair"] (a41 c98):=.of
theorem i60 {f:Addr}{fd:FD}(F:Fun K "_law_pair_row" "_law_pair_row" c98 f fd)(DP:Def P w K mg base 1 "_law_path_text" ["_law_path"] spPT):FnOk P w K mg base CX0 2 f fd ["_law_pair"] i01:=by
 refine F.ok scPrR (fun vs H Q E h=>?_) (fun cdv A outer s H vs Q E hr h=>?_)
 ·obtain⟨v,rfl,_⟩:=h;rfl
 ·obtain⟨v,rfl,⟨⟨o,z⟩,⟨t,ww,y,rfl,ho,hy,ht⟩,hok⟩,kk⟩:=h;have nd:=scPrR.nd;refine⟨_,a03 (a43 1 nd a37)
   (a03 (a46 (a08 c79 (a45 a53 (pv 0) a05) a55 (a38 _)) (a06 (a43 1 nd (a47 a67 a37 (a42 DP hr (a00 (a45 a53 (pv 0) a05) a02))))) a39)
   (a03 (a46 (a08 c79 (a45 a53 (pv 0) a05) a55 (a38 _)) (a06 (a43 1 nd (a47 a67 (a47 a67 (pv 1) a37) (a45 a53 (pv 0) a05)))) a39)
   (a06 (a40 (pv 1))))),?_⟩
  have e1:("data" : Str).length=4:=by decide +kernel
  have e2:("data of " : Str).length=8:=by decide +kernel
  have e3:(" =" : Str).length=2:=by decide +kernel
  refine⟨_,rfl,t,_,_,_,rfl,rfl,SqT.of ht,rfl,rfl,_,rfl,?_⟩;have fin:∀ {d z:Str},d.length<=100->z.length<=200->d.length+(" =" : Str).length<=zL/\(d ++ " =").length+z.length<=zL/\Gd 400 (d ++ " =" ++ z):=fun h1 h2=>by
   unfold Gd;simp only[CZ,e3,sizeLine_eq];exact⟨by lia,by lia,by lia,.inl (fw_l (i47 (by decide +kernel)))⟩
  cases o with
  | none =>
   cases (show ww=.non from ho);refine a50 (fun q=>absurd q (by decide)) (fun _=>⟨_,rfl,t,_,_,_,rfl,rfl,SqT.of ht,rfl,rfl,_,rfl,?_⟩);cases z with
   | none =>
    cases (show y=.non from hy);exact a50 (fun q=>absurd q (by decide)) (fun _=>⟨_,rfl,kk _ H ⟨by rw[e1];decide,.inr (.inl rfl)⟩ (Same.refl H)⟩)
   | some z =>
    cases (show y=.str z from hy);obtain⟨f1,f2,f3⟩:=fin (d := "data") (by rw[e1];decide) (hok.txt z rfl);exact a50 (fun _=>⟨_,rfl,_,_,rfl,rfl,f1,_,rfl,t,_,_,_,rfl,rfl,SqT.of ht,rfl,_,_,rfl,rfl,f2,_,rfl,kk _ H f3 (Same.refl H)⟩) (fun q=>absurd rfl q)
  | some zs =>
   obtain⟨a,rfl,ha⟩:=ho;refine a50 (fun _=>?_) (fun q=>absurd rfl q);refine⟨_,rfl,t,_,_,_,rfl,rfl,SqT.of ht,rfl,a,zs,rfl,ha,hok.org zs rfl,fun x H1 hx s1=>⟨_,_,rfl,rfl,by rw[e2,sizeLine_eq];lia,?_⟩⟩;have hd:(("data of " : Str)++x).length<=100:=by rw[CZ,e2];lia
   have ht1:=s1 _ _ ht;refine⟨_,rfl,t,_,_,_,rfl,rfl,SqT.of ht1,rfl,rfl,_,rfl,?_⟩;cases z with
   | none =>
    cases (show y=.non from hy);exact a50 (fun q=>absurd q (by decide)) (fun _=>⟨_,rfl,kk _ H1 ⟨Fz hd (by decide),.inl (fw_l (by decide +kernel))⟩ s1⟩)
   | some z =>
    cases (show y=.str z from hy);obtain⟨f1,f2,f3⟩:=fin hd (hok.txt z rfl);exact a50 (fun _=>⟨_,rfl,_,_,rfl,rfl,f1,_,rfl,t,_,_,_,rfl,rfl,SqT.of ht1,rfl,_,_,rfl,rfl,f2,_,rfl,kk _ H1 f3 s1⟩) (fun q=>absurd rfl q)
theorem scEntR:FnScope ["_law_entry", "_law_row"] ["_law_entry"] (a41 c38):=.of
theorem i14 {f:Addr}{fd:FD}(F:Fun K "_law_entry_row" "_law_entry_row" c38 f fd)(mStr:mg "str" = none)(DP:Def P w K mg base 1 "_law_path_text" ["_law_path"] spPT):FnOk P w K mg base CX0 2 f fd ["_law_entry"] f83:=by
 refine F.ok scEntR (fun vs H Q E h=>?_) (fun cdv A outer s H vs Q E hr h=>?_)
 ·obtain⟨v,rfl,_⟩:=h;rfl
 ·obtain⟨v,rfl,⟨p,e,⟨t,pa,rfl,hpa,h2⟩,hp,he⟩,kk⟩:=h;have nd:=scEntR.nd;refine⟨_,a03 (a43 1 nd (a56 (a00 (a45 a53 (pv 0) a05) (a00 (a42 DP hr (a00 (a45 a53 (pv 0) a05) a02)) a02))))
   (a03 (a46 (a08 a58 (a45 a53 (pv 0) a05) a37 (a38 _)) (a06 (a81 (a77 pLQ PySem.F.slot_list_append PySem.F.type_list_append a87 (pv 1) (a00 (a63 b40 (by rfl) mStr PyProof.Rows.Boot.str (a00 (a45 a53 (pv 0) a05) a02)) a02)))) a39)
   (a03 (a46 (PW.pt (a97 (a08 a58 (a45 a53 (pv 0) a05) a37 (a38 _)) (a93 (a08 i49 (a45 a53 (pv 0) a05) a55 (a38 _)))))
     (a06 (a81 (a77 pLQ PySem.F.slot_list_append PySem.F.type_list_append a87 (pv 1) (a00 a37 a02))))
     (a06 (a46 (a08 a58 (a45 a53 (pv 0) a05) a37 (a38 _)) (a06 (a43 1 nd (a47 b60 (pv 1) (a56 (a00 a37 (a00 (a42 DP hr (a00 (a45 a53 (pv 0) a05) a02)) a02)))))) a39)))
   (a06 (a40 (a77 pS PySem.F.slot_str_join PySem.F.type_str_join c53 a37 (a00 (pv 1) a02)))))),?_⟩
  have e1:("gone" : Str).length=4:=by decide +kernel
  have e2:("file" : Str).length=4:=by decide +kernel
  have e3:("folder" : Str).length=6:=by decide +kernel
  have e5:("alone" : Str).length=5:=by decide +kernel
  have e6:("over" : Str).length=4:=by decide +kernel
  have e4:(" " : Str).length=1:=by decide +kernel
  have fin:∀(zs:List Str),2<=zs.length/\zs.length<=4->(zs.map (·.length)).sum<=1190->(zs.map (·.length)).sum+zs.length * (" " : Str).length<=16777216/\Gd 1200 (Txt.join " " zs):=fun zs l4 hs=>by
   have jl:=f80 " " zs;rw[e4,Nat.mul_one] at jl;rw[e4];exact⟨by lia,by lia,.inl (h66 l4.1)⟩
  cases e with
  | gone =>
   refine⟨_,rfl,t,_,_,_,rfl,rfl,SqT.of h2,rfl,_,rfl,t,_,_,_,rfl,rfl,SqT.of h2,rfl,pa,p,rfl,hpa,hp,fun z H1 hz s1=>⟨by show 2<=zL;decide,fun L hL=>?_⟩⟩;have sL:Same H (upd H1 L (.lst [V.str "gone", V.str z])):=s1.upd hL;have hL':(upd H1 L (.lst [V.str "gone", V.str z])) L=some (.lst ((["gone", z]:List Str).map V.str)):=a01;generalize (upd H1 L (.lst [V.str "gone", V.str z]))=HX at sL hL' ⊢;have h2':=sL _ _ h2;refine⟨_,rfl,t,_,_,_,rfl,rfl,SqT.of h2',rfl,rfl,_,rfl,a50 (fun q=>absurd q (by decide +kernel)) (fun _=>?_)⟩;refine⟨_,rfl,t,_,_,_,rfl,rfl,SqT.of h2',rfl,rfl,_,rfl,a50 (fun q=>absurd q (by decide +kernel)) (fun _=>a76 ?_)⟩;refine⟨_,rfl,t,_,_,_,rfl,rfl,SqT.of h2',rfl,rfl,_,rfl,a50 (fun q=>absurd q (by decide +kernel)) (fun _=>?_)⟩;have⟨f1,f2⟩:=fin ["gone", z] (by show 2<=2/\2<=4;decide) (by show("gone" : Str).length+(z.length+0)<=_;lia);exact⟨rfl,_,rfl, " ", L,_,rfl,rfl,SqL.of hL',f1,kk _ _ f2 sL⟩
  | fil i =>
   refine⟨_,rfl,t,_,_,_,rfl,rfl,SqT.of h2,rfl,_,rfl,t,_,_,_,rfl,rfl,SqT.of h2,rfl,pa,p,rfl,hpa,hp,fun z H1 hz s1=>⟨by show 2<=zL;decide,fun L hL=>?_⟩⟩;have sL:Same H (upd H1 L (.lst [V.str "file", V.str z])):=s1.upd hL;have h2':=sL _ _ h2;have hd:=d96 i he.1 he.2;refine⟨_,rfl,t,_,_,_,rfl,rfl,SqT.of h2',rfl,rfl,_,rfl,a50 (fun _=>?_) (fun q=>absurd (by decide +kernel) q)⟩;refine⟨_,rfl,.inl ⟨rfl,_,SqL.of a01⟩,_,rfl,t,_,_,_,rfl,rfl,SqT.of h2',rfl,i,rfl,d83 he.1 he.2,L,_,_,rfl,rfl,a01,by show 2 < zL;decide,?_⟩;have sF:Same H (upd (upd H1 L (.lst [V.str "file", V.str z])) L (.lst [V.str "file", V.str z,V.str ((toString i:String))])):=fun b o q=>by rw[a07 (a04 (s1 _ _ q) hL)];exact sL b o q
   have h2'':=sF _ _ h2;refine⟨_,rfl,t,_,_,_,rfl,rfl,SqT.of h2'',rfl,rfl,_,rfl,a50 (fun q=>absurd q (by decide +kernel)) (fun _=>a76 ?_)⟩;refine⟨_,rfl,t,_,_,_,rfl,rfl,SqT.of h2'',rfl,rfl,_,rfl,a50 (fun q=>absurd q (by decide +kernel)) (fun _=>?_)⟩;have⟨f1,f2⟩:=fin ["file", z,(toString i:String)] (by show 2<=3/\3<=4;decide) (by show("file" : Str).length+(z.length+(((toString i:String):Str).length+0))<=_;lia);exact⟨rfl,_,rfl, " ", L,_,rfl,rfl,SqL.of a01,f1,kk _ _ f2 sF⟩
  | dir o =>
   obtain⟨ww,ho,h4⟩:=h2;refine⟨_,rfl,t,_,_,_,rfl,rfl,SqT.of h4,rfl,_,rfl,t,_,_,_,rfl,rfl,SqT.of h4,rfl,pa,p,rfl,hpa,hp,fun z H1 hz s1=>⟨by show 2<=zL;decide,fun L hL=>?_⟩⟩;have sL:Same H (upd H1 L (.lst [V.str "folder", V.str z])):=s1.upd hL;have h4':=sL _ _ h4;refine⟨_,rfl,t,_,_,_,rfl,rfl,SqT.of h4',rfl,rfl,_,rfl,a50 (fun q=>absurd q (by decide +kernel)) (fun _=>?_)⟩;refine⟨_,rfl,t,_,_,_,rfl,rfl,SqT.of h4',rfl,rfl,_,rfl,a50 (fun _=>?_) (fun q=>absurd (by decide +kernel) q)⟩;refine⟨_,rfl,t,_,_,_,rfl,rfl,SqT.of h4',rfl,rfl,_,rfl,?_⟩;cases o with
   | none =>
    cases (show ww=.non from ho);refine a50 (fun _=>?_) (fun q=>absurd (Az rfl) q);refine⟨_,rfl,.inl ⟨rfl,_,SqL.of a01⟩,L,_,_,rfl,rfl,a01,by show 2 < zL;decide,?_⟩;have⟨f1,f2⟩:=fin ["folder", z, "alone"] (by show 2<=3/\3<=4;decide) (by show("folder" : Str).length+(z.length+(("alone" : Str).length+0))<=_;lia);exact⟨rfl,_,rfl, " ", L,_,rfl,rfl,SqL.of a01,f1,kk _ _ f2 (fun b o q=>by rw[a07 (a04 (s1 _ _ q) hL)];exact sL b o q)⟩
   | some bs =>
    obtain⟨ab,rfl,hab⟩:=ho;refine a50 (fun q=>absurd (AJ q) (fun z=>nomatch z)) (fun _=>?_);refine⟨_,rfl,t,_,_,_,rfl,rfl,SqT.of h4',rfl,rfl,_,rfl,a50 (fun _=>?_) (fun q=>absurd (by decide +kernel) q)⟩;refine⟨_,rfl,_,rfl,t,_,_,_,rfl,rfl,SqT.of h4',rfl,ab,bs,rfl,sL _ _ hab,he bs rfl,fun z2 H2 hz2 s2=>⟨by show 2<=zL;decide,fun M hM=>?_⟩⟩;have s3:Same (upd H1 L (.lst [V.str "folder", V.str z])) (upd H2 M (.lst [V.str "over", V.str z2])):=s2.upd hM;refine⟨L,M,_,_,rfl,rfl,s3 _ _ a01,a01,by show 2+2<=zL;decide,fun N hN=>?_⟩;have⟨f1,f2⟩:=fin ["folder", z, "over", z2] (by show 2<=4/\4<=4;decide) (by show("folder" : Str).length+(z.length+(("over" : Str).length+(z2.length+0)))<=_;lia);exact⟨rfl,_,rfl, " ", N,_,rfl,rfl,SqL.of a01,f1,kk _ _ f2 ((sL.trans s3).upd hN)⟩
theorem f92:FnScope ["_law_layer_here"] ["_law_layer_here"] (a41 h97):=.of
theorem h67 {f:Addr}{fd:FD}(F:Fun K "_law_rows" "_law_rows" h97 f fd)(DE:Def P w K mg base 2 "_law_entry_row" ["_law_entry"] f83)(DP:Def P w K mg base 2 "_law_pair_row" ["_law_pair"] i01):FnOk P w K mg base CX0 3 f fd ["_law_layer_here"] e95:=by
 refine F.ok f92 (fun vs H Q E h=>?_) (fun cdv A outer s H vs Q E hr h=>?_)
 ·obtain⟨v,rfl,_⟩:=h;rfl
 ·obtain⟨v,rfl,⟨t,e,p,es,ps,rfl,ht,he,hp,hE,hP,l1,l2⟩,kk⟩:=h;refine⟨_,a06 (a40 (a47 b60
   (a82 (x := "_law_entry") f92 .of (by decide +kernel) (f54 (a45 a53 (pv 0) a05)) (fun C fp s H=>a42 DE hr (a00 (pv 1) a02)))
   (a82 (x := "_law_pair") f92 .of (by decide +kernel) (f54 (a45 a53 (pv 0) a05)) (fun C fp s H=>a42 DP hr (a00 (pv 1) a02))))),?_⟩
  refine⟨_,rfl,t,_,_,_,rfl,rfl,SqT.of ht,rfl,e,rfl,⟨_,SqT.of he⟩,c93 (xs:=es) (fun i ys H'=>StrG 1200 ys i/\Same H H') (by rw[sizeLine_eq];lia)
   ⟨.nil _,Same.refl H⟩ (fun i ys H' h=>h.1.len) (fun i ys H' _ h=>SqT.of (h.2 _ _ he)) ?_ ?_⟩
  ·rintro i ys H' v hv ⟨e1,s1⟩;exact⟨_,rfl,v,rfl,(hE v (BJ hv)).tk (Tk.of s1),fun z H2 hz s2=>⟨e1.snoc hz,s1.trans s2⟩⟩
  rintro ys H1 ⟨e1,s1⟩ D1 hD1;obtain⟨zs,rfl,hzl,hzb,hzg⟩:=e1.rb;have sA:Same H (upd H1 D1 (.lst (zs.map V.str))):=s1.upd hD1;have hD1':(upd H1 D1 (.lst (zs.map V.str))) D1=some (.lst (zs.map V.str)):=a01;generalize (upd H1 D1 (.lst (zs.map V.str)))=HB at sA hD1' ⊢;refine⟨_,rfl,t,_,_,_,rfl,rfl,SqT.of (sA _ _ ht),rfl,p,rfl,⟨_,SqT.of (sA _ _ hp)⟩,c93 (xs:=ps) (fun i ys H'=>StrG 400 ys i/\Same HB H') (by rw[sizeLine_eq];lia)
   ⟨.nil _,Same.refl HB⟩ (fun i ys H' h=>h.1.len) (fun i ys H' _ h=>SqT.of (h.2 _ _ (sA _ _ hp))) ?_ ?_⟩
  ·rintro i ys H' v hv ⟨e1,s1⟩;exact⟨_,rfl,v,rfl,(hP v (BJ hv)).tk (Tk.of (sA.trans s1)),fun z H2 hz s2=>⟨e1.snoc hz,s1.trans s2⟩⟩
  rintro ys H2 ⟨e2,s2⟩ D2 hD2;obtain⟨us,rfl,hul,hub,hug⟩:=e2.rb;have s3:Same HB (upd H2 D2 (.lst (us.map V.str))):=s2.upd hD2;refine⟨D1,D2,_,_,rfl,rfl,s3 _ _ hD1',a01,by rw[Aj,Aj,sizeLine_eq];lia,fun N hN=>?_⟩;exact kk N (zs++us) _ (by rw[a01,Bz]) ((hzb.app hub).mono (by lia)) (by rw[Bj];lia) (fun z hz=>(Bq.mp hz).elim (hzg z) fun q=>(hug z q).mono (by decide)) ((sA.trans s3).upd hN)
end
def LET:Str := "abcdefghijklmnopqrstuvwxyz"
def occ (c:Nat):Bool:=!(Builtin.Str.occurrences LET ⟨#[c]⟩ 0 LET.length 1).isEmpty
def h58 (z:Str):Bool:=(z.cps.toList.map occ).all id
def b07 (z:Str):Bool:=if 0 < z.length/\z.length<=8 then h58 z else false
def h42 (z:Str) (i:Nat):List V:=((z.cps.toList.take i).map occ).map V.bl
theorem h19 {z:Str}{i:Nat}(h:i<=z.cps.size):(h42 z i).length=i:=by
 unfold h42;rw[Aj,Aj,CQ,Cj];lia
theorem f57 {z:Str}{i c:Nat}(h:z.cps[i]?=some c):h42 z i++[V.bl (occ c)]=h42 z (i+1):=by
 have h':z.cps.toList[i]?=some c:=by simpa using h
 unfold h42;rw[EQ,h'];simp
theorem g82 (z:Str):h42 z z.cps.size=(z.cps.toList.map occ).map V.bl:=by
 unfold h42;rw[Dz (by simp)]
def d06:Sp:=fun vs H Q _=>∃ z:Str,vs=[.str z]/\z.length<=1000000/\∀ H',Same H H'->Q (.bl (b07 z)) H'
def a49 (m:Int) (z:Str):Option (List Str) :=
 if z=SL then some [] else if Txt.startswith z SL=false then none else
 if m < (Txt.split (Txt.slice z (some 1) none) SL).length∨(Txt.split (Txt.slice z (some 1) none) SL).all b07=false then none else some (Txt.split (Txt.slice z (some 1) none) SL)
def b17 (z:Str):Option (List Str):=a49 8 z
def c34:Sp:=fun vs H Q _=>∃(z:Str) (m:Int),vs=[.str z,.int m]/\z.length<=1000000 /\
 (∀ zs,a49 m z=some zs->∀(t:Addr)(H':Hp),H t=none->H' t=some (.tup (zs.map V.str))->Same H H'->Q (.ref t) H')/\(a49 m z=none->∀ H',Same H H'->Q .non H')
def b90:Sp:=fun vs H Q _=>∃ z:Str,vs=[.str z]/\z.length<=1000000 /\
 (∀ zs,b17 z=some zs->∀(t:Addr)(H':Hp),H t=none->H' t=some (.tup (zs.map V.str))->Same H H'->Q (.ref t) H')/\(b17 z=none->∀ H',Same H H'->Q .non H')
section
theorem e15:FnScope ["word"] ["word"] (a41 e02):=.of
theorem g36 {f:Addr}{fd:FD}{tl tn:Tok}(F:Fun K "is_name" "is_name" e02 f fd)(mLen:mg "len" = none)(mAll:mg "all" = none)(mLet:mg "LETTERS" = some (.str LET tl))(mLong:mg "LONGEST_NAME" = some (.int 8 tn)) :
 FnOk P w K mg base CX0 1 f fd ["word"] d06:=by
 refine F.ok e15 (fun vs H Q E h=>?_) (fun cdv A outer s H vs Q E hr h=>?_)
 ·obtain⟨z,rfl,_⟩:=h;rfl
 ·obtain⟨z,rfl,hz,k⟩:=h;have hzs:z.length<=zL:=by rw[sizeLine_eq];lia
  refine⟨_,a06 (a40 (b61 (c28 c58 h99 a05 (a09 a51 (by rfl) mLen bLn (a00 (pv 0) a02)) (a66 (v:=.int 8) rfl mLong ⟨tn,rfl⟩))
   (b59 (a09 (b45 rfl) (by rfl) mAll PyProof.Rows.boot_all (a00 (a82 (x := "sign") e15 .of (by decide +kernel) (c73 (pv 0))
     (fun C fp s H=>a98 c39 (pv 1) (a66 (v:=.str LET) rfl mLet ⟨tl,rfl⟩) (by with_unfolding_all rfl))) a02))))),?_⟩
  refine⟨_,rfl,z,rfl,hzs,_,_,rfl,rfl,_,rfl,?_⟩;refine a50 (fun h1=>?_) (fun h1=>?_)
  ·have h1':(0:Int) < (z.length:Int):=AJ h1;refine⟨_,_,rfl,rfl,_,rfl,?_⟩;refine a50 (fun h2=>?_) (fun h2=>?_)
   ·have h2':(z.length:Int)<=8:=AJ h2;refine⟨_,rfl,z,rfl,b55 (fun i ys H'=>i<=z.cps.size/\H'=H/\ys=h42 z i) hzs ⟨Fx _,rfl,rfl⟩ (fun i ys H' ⟨hi,_,e⟩=>by rw[e];exact h19 hi) (fun i ys H' c hc ⟨hi,e1,e2⟩=>?_) (fun ys H' ⟨_,e1,e2⟩ D hD=>?_)⟩
    ·subst e1 e2;have hlt:i < z.cps.size:=by
      rcases Nat.lt_or_ge i z.cps.size with q | q
      ·exact q
      ·rw[Array.getElem?_eq_none q] at hc;cases hc
     exact⟨_,rfl,_,_,rfl,rfl,hlt,rfl,f57 hc⟩
    ·subst e1 e2;refine⟨D,z.cps.toList.map occ,rfl,SqL.of (by rw[a01,g82]),?_⟩;have e:b07 z=(z.cps.toList.map occ).all id:=by
      unfold b07 h58;rw[if_pos (by lia)]
     rw[← e];exact k _ ((Same.refl _).upd hD)
   ·have h2':¬(z.length:Int)<=8:=fun q=>h2 (Az q);have e:b07 z=false:=by
     unfold b07;rw[if_neg (by lia)]
    rw[← e];exact k _ (Same.refl _)
  ·have h1':¬(0:Int) < (z.length:Int):=fun q=>h1 (Az q);refine⟨_,rfl,a76 ?_⟩;have e:b07 z=false:=by
    unfold b07;rw[if_neg (by lia)]
   rw[← e];exact k _ (Same.refl _)
theorem scPathUp:FnScope ["text", "most", "names"] ["text", "most"] (a41 c41):=.of
theorem f85 {f:Addr}{fd:FD}(F:Fun K "path_up_to" "path_up_to" c41 f fd)(mLen:mg "len" = none)(mAll:mg "all" = none)(mTuple:mg "tuple" = none)
 (DN:Def P w K mg base 1 "is_name" ["word"] d06):FnOk P w K mg base CX0 2 f fd ["text", "most"] c34:=by
 refine F.ok scPathUp (fun vs H Q E h=>?_) (fun cdv A outer s H vs Q E hr h=>?_)
 ·obtain⟨z,m,rfl,_⟩:=h;rfl
 ·obtain⟨z,m,rfl,hz,k1,k2⟩:=h;have hr1:Room 1 _:=hr.mono (by decide);have nd:=scPathUp.nd;refine⟨_,a03 (a46 (a08 a58 (pv 0) a37 (a38 _)) (a06 (a40 (a52 a02))) a39)
   (a03 (a46 (b35 (a83 (a77 pS PySem.F.slot_str_startswith PySem.F.type_str_startswith b10 (pv 0) (a00 a37 a02)))) (a06 (a40 a55)) a39)
   (a03 (a43 2 nd (a77 pS pZ pY a90 (a61 c11 (pv 0) (a65 a05) a73) (a00 a37 a02)))
   (a03 (a46 (PW.pt (a94 (a08 b92 (a09 a36 (by rfl) mLen bLn (a00 (pv 2) a02)) (pv 1) (a38 _))
     (a79 (b35 (a83 (a09 (b45 rfl) (by rfl) mAll PyProof.Rows.boot_all (a00 (a82 (x := "name") scPathUp .of (by decide +kernel) (b15 (pv 2))
       (fun C fp s H=>a42 DN hr1 (a00 (pv 3) a02))) a02)))))))
     (a06 (a40 a55)) a39)
   (a06 (a40 (a63 a64 (by rfl) mTuple PyProof.Rows.Boot.tuple (a00 (pv 2) a02))))))),?_⟩
  refine⟨_,rfl,rfl,_,rfl,?_⟩;refine a50 (fun h1=>?_) (fun h1=>?_)
  ·have e1:z=SL:=by
    have q:=AJ h1;injection q with q
   refine⟨by show 0<=zL;decide,fun t ht=>?_⟩;have ep:a49 m z=some []:=by unfold a49;rw[if_pos e1]
   exact k1 [] ep t _ ht a01 ((Same.refl H).upd ht)
  ·have e1:¬ z=SL:=fun q=>h1 (Az (by rw[q];rfl));refine⟨_,rfl,rfl,z,SL,rfl,rfl,_,rfl,?_⟩;cases h2:Txt.startswith z SL with
   | false =>
    refine a78 ?_;exact k2 (by unfold a49;rw[if_neg e1,if_pos h2]) H (Same.refl H)
   | true =>
    refine a76 ?_;have hsl:=Txt.slice_le z (some 1) none;refine⟨_,rfl,_,rfl,z,rfl,by rw[sizeLine_eq];lia,rfl,_,SL,rfl,rfl,by decide +kernel,by lia,fun L hL=>?_⟩;have hpl:=PyProof.Rows.split_le (Txt.slice z (some 1) none) SL;have hpt:∀ p∈Txt.split (Txt.slice z (some 1) none) SL,p.length<=1000000:=fun p hp=>by have:=PyProof.Rows.part_short hp;lia
    have ep:a49 m z=if m < (Txt.split (Txt.slice z (some 1) none) SL).length∨(Txt.split (Txt.slice z (some 1) none) SL).all b07=false then none else some (Txt.split (Txt.slice z (some 1) none) SL):=by
     unfold a49;rw[if_neg e1,if_neg (by rw[h2];exact Bool.noConfusion)]
    generalize Txt.split (Txt.slice z (some 1) none) SL=ns at hpl hpt ep ⊢;have sL:Same H (upd H L (.lst (ns.map V.str))):=(Same.refl H).upd hL;refine⟨_,rfl,L,_,rfl,.inl (SqL.of a01),_,rfl,_,_,rfl,rfl,_,rfl,?_⟩;refine a50 (fun h3=>a78 ?_) (fun h3=>?_)
    ·have h3':m < ((ns.map V.str).length:Int):=AJ h3;rw[Aj] at h3';exact k2 (by rw[ep,if_pos (.inl (by lia))]) _ sL
    ·have h3':¬ m < ((ns.map V.str).length:Int):=fun q=>h3 (Az q);rw[Aj] at h3';refine⟨_,rfl,L,rfl,⟨_,SqL.of a01⟩,b81 (xs:=ns.map V.str) (fun i ys H'=>i<=ns.length/\Same (upd H L (.lst (ns.map V.str))) H'/\ys=((ns.take i).map b07).map V.bl) (by rw[Aj,sizeLine_eq];lia)
      ⟨Fx _,Same.refl _,rfl⟩ (fun i ys H' ⟨hi,_,e⟩=>by rw[e,Aj,Aj,CQ];lia) (fun i ys H' _ ⟨_,s',_⟩=>s'.seq (SqL.of a01)) ?_ ?_⟩
     ·rintro i ys H' v hv ⟨hi,s',e⟩;obtain⟨p,rfl,hp⟩:∃ p,v=V.str p/\ns[i]?=some p:=by
       rw[CJ] at hv;cases q:ns[i]? with
       | none=>rw[q] at hv;cases hv
       | some p=>rw[q] at hv;exact⟨p,(Ez hv).symm,rfl⟩
      have hlt:=(Ej.mp hp).1;refine⟨_,rfl,p,rfl,hpt p (BJ hp),fun H2 s2=>⟨hlt,s'.trans s2,?_⟩⟩;rw[e,← e32 (f:=b07) hp,Bz];rfl
     ·rintro ys H' ⟨_,s',e⟩ D hD;rw[Aj] at e;have e':ys=(ns.map b07).map V.bl:=by rw[e,Dz (AZ _)]
      have eall:(ns.map b07).all id=ns.all b07:=by rw[List.all_map];rfl
      have sD:Same (upd H L (.lst (ns.map V.str))) (upd H' D (.lst ys)):=s'.upd hD;refine⟨D,ns.map b07,rfl,SqL.of (by rw[a01,e']),_,rfl,?_⟩;rw[eall];cases h4:ns.all b07 with
      | false =>
       refine a78 ?_;exact k2 (by rw[ep,if_pos (.inr h4)]) _ (sL.trans sD)
      | true =>
       refine a76 ?_;refine⟨_,rfl,L,ns.map V.str,rfl,.inl ⟨SqL.of (sD _ _ a01),fun t ht=>?_⟩⟩;refine k1 ns (by rw[ep,if_neg (by rw[h4];intro q;rcases q with q | q;exact absurd q (by lia);cases q)]) t _ (sL.trans sD |>.free ht) a01 ((sL.trans sD).upd ht)
theorem g93:FnScope ["text"] ["text"] (a41 d97):=.of
theorem g00 {f:Addr}{fd:FD}{tm:Tok}(F:Fun K "path_in" "path_in" d97 f fd)(mMost:mg "MOST_NAMES" = some (.int 8 tm))
 (DU:Def P w K mg base 2 "path_up_to" ["text", "most"] c34):FnOk P w K mg base CX0 3 f fd ["text"] b90:=by
 refine F.ok g93 (fun vs H Q E h=>?_) (fun cdv A outer s H vs Q E hr h=>?_)
 ·obtain⟨z,rfl,_⟩:=h;rfl
 ·obtain⟨z,rfl,hz,k1,k2⟩:=h;refine⟨_,a06 (a40 (a42 DU hr (a00 (pv 0) (a00 (a66 (v:=.int 8) rfl mMost ⟨tm,rfl⟩) a02)))),?_⟩;exact⟨_,rfl,z,8,rfl,hz,k1,k2⟩
end
theorem f04 {z:Str}{r:List Nat}(h:z.cps.toList=47::r):Txt.startswith z SL=true:=by
 unfold Txt.startswith;have e1:SL=⟨#[47]⟩:=by decide +kernel
 have hl:z.length=r.length+1:=by
  show z.cps.size=_;rw[← Cj,h];rfl
 rw[e1,StrLaws.subAt_eq,h,Bool.and_eq_true];refine⟨Az (by show 0+1<=_;lia),?_⟩;show(List.take 1 (List.drop 0 (47::r)) == [47])=true;simp
def sgB (c:Nat):Bool:=decide (32<=c) && decide (c<=126) && !decide (c=37)
def txB (z:Str):Bool:=decide (z.length<=200) && (z.cps.toList.map sgB).all id
def f58:Sp:=fun vs H Q _=>∃ c:Nat,vs=[.str ⟨#[c]⟩]/\∀ H',Same H H'->Q (.bl (sgB c)) H'
def c82:Sp:=fun vs H Q _=>∃ z:Str,vs=[.str z]/\z.length<=1000000/\∀ H',Same H H'->Q (.bl (txB z)) H'
def FIG:Str := "0123456789"
def d27 (c:Nat):Bool:=!(Builtin.Str.occurrences FIG ⟨#[c]⟩ 0 FIG.length 1).isEmpty
def e72 (f:Nat->Bool) (z:Str) (i:Nat):List V:=((z.cps.toList.take i).map f).map V.bl
def nuF (z:Str):Option Int :=
 if z = ""∨3 < z.length∨(z.cps.toList.map d27).all id=false then none else if z ≠ "0"/\Txt.startswith z "0" = true then none else if (intText? z).getD 0<=199 then some ((intText? z).getD 0) else none
def numV:Option Int->V
 | none=>.non
 | some n=>.int n
def d88:Sp:=fun vs H Q _=>∃ z:Str,vs=[.str z,.int 199]/\z.length<=1000000/\∀ H',Same H H'->Q (numV (nuF z)) H'
def c25:Sp:=fun vs H Q _=>∃(a:Addr) (zs:List Str),vs=[.ref a]/\H a=some (.tup (zs.map V.str))/\∀(t:Addr)(H':Hp),H' t=some (.tup (zs.dropLast.map V.str))->Same H H'->Q (.ref t) H'
theorem e30 (xs:List V):c24 xs none (some (-1))=xs.dropLast:=by
 unfold c24;have e:HT.sIx xs.length xs.length (some (-1))=xs.length-1:=by
  show(if (-1:Int) < 0 then((-1:Int)+(xs.length:Int)).toNat else min (-1:Int).toNat xs.length)=_;rw[if_pos (by decide)];lia
 rw[HT.sIx_none,e,List.drop_zero,Nat.sub_zero,List.dropLast_eq_take]
theorem h40 {c:Nat}(h:d27 c=true):48<=c/\c<=57:=by
 obtain⟨i,hi,e⟩:=(StrLaws.found_iff FIG ⟨#[c]⟩).mp h;have ef:FIG.cps.toList=[48,49,50,51,52,53,54,55,56,57]:=by decide +kernel
 rw[StrLaws.subAt_eq,ef] at e;have hm:c∈([48,49,50,51,52,53,54,55,56,57].drop i).take (⟨#[c]⟩:Str).length:=by rw[eq_of_beq e];simp
 have:=List.mem_of_mem_drop (List.mem_of_mem_take hm)
 simp only[BZ,lN,or_false] at this;omega
theorem i72:(List.range 10).all (fun a=>(intText? ⟨#[48+a]⟩).isSome && (List.range 10).all fun b=>(intText? ⟨#[48+a,48+b]⟩).isSome && (List.range 10).all fun c=>(intText? ⟨#[48+a,48+b,48+c]⟩).isSome)=true:=by decide +kernel
section
theorem i56:FnScope ["sign"] ["sign"] (a41 d64):=.of
theorem c00 (c d:Nat):(!decide ([c] < [d]))=decide (d<=c):=by
 have q:[c] < [d]↔c < d:=by
  constructor
  ·intro q;rcases List.cons_lt_cons_iff.mp q with q | ⟨_,q⟩
   ·exact q
   ·cases q
  ·exact fun q=>List.cons_lt_cons_iff.mpr (.inl q)
 rw[← decide_not];exact decide_eq_decide.mpr ⟨fun h=>Nat.not_lt.mp fun z=>h (q.mpr z),fun h z=>absurd (q.mp z) (Nat.not_lt.mpr h)⟩
theorem h70 {f:Addr}{fd:FD}{tp:Tok}(F:Fun K "is_sign" "is_sign" d64 f fd)(mOrd:mg "ord" = none)(mP:mg "PERCENT" = some (.int 37 tp)):FnOk P w K mg base CX0 1 f fd ["sign"] f58:=by
 refine F.ok i56 (fun vs H Q E h=>?_) (fun cdv A outer s H vs Q E hr h=>?_)
 ·obtain⟨c,rfl,_⟩:=h;rfl
 ·obtain⟨c,rfl,k⟩:=h;refine⟨_,a06 (a40 (b61 (c28 b19 b19 a37 (pv 0) a37) (b59 (a98 b98 (a09 g63 (by rfl) mOrd PyProof.Rows.boot_ord (a00 (pv 0) a02)) (a66 (v:=.int 37) rfl mP ⟨tp,rfl⟩) (a38 _))))),?_⟩;have kk:=k H (Same.refl H);have e1:(!decide ((⟨#[c]⟩:Str).cps.toList < (" " : Str).cps.toList))=decide (32<=c):=by
   rw[show(" " : Str).cps.toList=[32] by decide +kernel];exact c00 c 32
  have e2:(!decide (("~" : Str).cps.toList < (⟨#[c]⟩:Str).cps.toList))=decide (c<=126):=by
   rw[show("~" : Str).cps.toList=[126] by decide +kernel];exact c00 126 c
  refine⟨_,rfl,_,_,rfl,rfl,_,rfl,?_⟩;rw[e1];unfold sgB at kk;by_cases h1:32<=c
  ·rw[Az h1] at kk ⊢;refine a78 ⟨_,_,rfl,rfl,_,rfl,?_⟩;rw[e2];by_cases h2:c<=126
   ·rw[Az h2] at kk ⊢;refine a78 ⟨_,rfl,_,rfl,rfl,rfl,?_⟩;have e3:(!decide (V.int (((⟨#[c]⟩:Str).cps.getD 0 0:Nat))=V.int 37))=!decide (c=37):=by
     rw[show((⟨#[c]⟩:Str).cps.getD 0 0)=c from rfl];congr 1;exact decide_eq_decide.mpr ⟨fun q=>by injection q;lia,fun q=>by rw[q];rfl⟩
    rw[e3];exact kk
   ·rw[Fq h2] at kk ⊢;exact a76 kk
  ·rw[Fq h1] at kk ⊢;exact a76 ⟨_,rfl,a76 kk⟩
theorem b37 {f:Nat->Bool}{z:Str}{i c:Nat}(hc:z.cps[i]?=some c):i < z.cps.size/\e72 f z i++[V.bl (f c)]=e72 f z (i+1):=by
 have hlt:i < z.cps.size:=by
  rcases Nat.lt_or_ge i z.cps.size with q | q
  ·exact q
  ·rw[Array.getElem?_eq_none q] at hc;cases hc
 refine⟨hlt,?_⟩;have h':z.cps.toList[i]?=some c:=by simpa using hc
 unfold e72;rw[EQ,h'];simp
theorem b89 {f:Nat->Bool}{z:Str}{i:Nat}(hi:i<=z.cps.size):(e72 f z i).length=i:=by
 unfold e72;rw[Aj,Aj,CQ,Cj];lia
theorem b91 (f:Nat->Bool) (z:Str):e72 f z z.cps.size=(z.cps.toList.map f).map V.bl:=by
 unfold e72;rw[Dz (by simp)]
theorem e41:FnScope ["text"] ["text"] (a41 d71):=.of
theorem f79 {f:Addr}{fd:FD}{tp:Tok}(F:Fun K "is_text" "is_text" d71 f fd)(mLen:mg "len" = none)(mAll:mg "all" = none)(mL:mg "LONGEST_TEXT" = some (.int 200 tp))(DS:Def P w K mg base 1 "is_sign" ["sign"] f58):FnOk P w K mg base CX0 2 f fd ["text"] c82:=by
 refine F.ok e41 (fun vs H Q E h=>?_) (fun cdv A outer s H vs Q E hr h=>?_)
 ·obtain⟨c,rfl,_⟩:=h;rfl
 ·obtain⟨z,rfl,hz,k⟩:=h;have hzs:z.length<=zL:=by rw[sizeLine_eq];lia
  refine⟨_,a06 (a40 (b61 (a98 h99 (a09 a51 (by rfl) mLen bLn (a00 (pv 0) a02)) (a66 (v:=.int 200) rfl mL ⟨tp,rfl⟩) (a38 _))
   (b59 (a09 (b45 rfl) (by rfl) mAll PyProof.Rows.boot_all (a00 (a82 (x := "sign") e41 .of (by decide +kernel) (c73 (pv 0))
     (fun C fp s H=>a42 DS hr (a00 (pv 1) a02))) a02))))),?_⟩
  refine⟨_,rfl,z,rfl,hzs,_,_,rfl,rfl,_,rfl,?_⟩;unfold txB at k;by_cases h1:z.length<=200
  ·rw[show decide ((z.length:Int)<=200)=true from Az (by lia)];rw[Az h1,Bool.true_and] at k;refine a78 ⟨_,rfl,z,rfl,b55 (fun i ys H'=>i<=z.cps.size/\Same H H'/\ys=e72 sgB z i) hzs ⟨Fx _,Same.refl H,rfl⟩ (fun i ys H' ⟨hi,_,e⟩=>by rw[e];exact b89 hi) (fun i ys H' c hc ⟨hi,s1,e2⟩=>?_) (fun ys H' ⟨_,s1,e2⟩ D hD=>?_)⟩
   ·obtain⟨hlt,e3⟩:=b37 (f:=sgB) hc;exact⟨_,rfl,c,rfl,fun H2 s2=>⟨hlt,s1.trans s2,by rw[e2,e3]⟩⟩
   ·exact⟨D,z.cps.toList.map sgB,rfl,SqL.of (by rw[a01,e2,b91]),k _ (s1.upd hD)⟩
  ·rw[show decide ((z.length:Int)<=200)=false from Fq (by lia)];rw[Fq h1,Bool.false_and] at k;exact a76 (k H (Same.refl H))
theorem digs {z:Str}(h0:z ≠ "")(h3:z.length<=3)(h:(z.cps.toList.map d27).all id=true):∃ n,intText? z=some n:=by
 have hd:∀ c∈z.cps.toList,48<=c/\c<=57:=fun c hc=>h40 (by
  have:=List.all_eq_true.mp h _ (Ex.mpr ⟨c,hc,rfl⟩)
  exact this)
 have hl:z.cps.toList.length<=3:=by rw[Cj];exact h3
 have ez:∀ l:List Nat,z.cps.toList=l->z=⟨l.toArray⟩:=fun l e=>Srt.str_ext (by rw[e]);have C:=i72;simp only[List.all_eq_true,List.mem_range,Bool.and_eq_true] at C;cases q:z.cps.toList with
 | nil=>exact absurd (Srt.str_ext (by rw[q];rfl)) h0
 | cons a r =>
  have ha:=hd a (by rw[q];simp);cases r with
  | nil =>
   have e:=ez _ q;have c1:=(C (a-48) (by lia)).1;rw[show 48+(a-48)=a by lia] at c1;rw[e];exact Option.isSome_iff_exists.mp c1
  | cons b r =>
   have hb:=hd b (by rw[q];simp);cases r with
   | nil =>
    have e:=ez _ q;have c1:=((C (a-48) (by lia)).2 (b-48) (by lia)).1;rw[show 48+(a-48)=a by lia,show 48+(b-48)=b by lia] at c1;rw[e];exact Option.isSome_iff_exists.mp c1
   | cons c r =>
    have hc:=hd c (by rw[q];simp);cases r with
    | nil =>
     have e:=ez _ q;have c1:=((C (a-48) (by lia)).2 (b-48) (by lia)).2 (c-48) (by lia);rw[show 48+(a-48)=a by lia,show 48+(b-48)=b by lia,show 48+(c-48)=c by lia] at c1;rw[e];exact Option.isSome_iff_exists.mp c1
    | cons d r=>rw[q] at hl;simp at hl
theorem scNumIn:FnScope ["text", "most", "number"] ["text", "most"] (a41 c40):=.of
theorem h10 {f:Addr}{fd:FD}{tf:Tok}(F:Fun K "number_in" "number_in" c40 f fd)(mLen:mg "len" = none)(mAll:mg "all" = none)(mStr:mg "str" = none)(mInt:mg "int" = none)(mF:mg "FIGURES" = some (.str FIG tf)):FnOk P w K mg base CX0 1 f fd ["text", "most"] d88:=by
 refine F.ok scNumIn (fun vs H Q E h=>?_) (fun cdv A outer s H vs Q E hr h=>?_)
 ·obtain⟨c,rfl,_⟩:=h;rfl
 ·obtain⟨z,rfl,hz,k⟩:=h;have nd:=scNumIn.nd;refine⟨_,a03 (a46 (PW.pt (a94 (a08 a58 (pv 0) a37 (a38 _)) (a94 (a08 b92 (a09 a51 (by rfl) mLen bLn (a00 (pv 0) a02)) (a09 a51 (by rfl) mLen bLn (a00 (a63 b40 (by rfl) mStr PyProof.Rows.Boot.str (a00 (pv 1) a02)) a02)) (a38 _))
   (a79 (b35 (a83 (a09 (b45 rfl) (by rfl) mAll PyProof.Rows.boot_all (a00 (a82 (x := "sign") scNumIn .of (by decide +kernel) (c73 (pv 0))
     (fun C fp s H=>a98 c39 (pv 3) (a66 (v:=.str FIG) rfl mF ⟨tf,rfl⟩) (by with_unfolding_all rfl))) a02))))))))
   (a06 (a40 a55)) a39)
   (a03 (a46 (PW.pt (a97 (a08 b98 (pv 0) a37 (a38 _)) (a93 (a83 (a77 pS PySem.F.slot_str_startswith PySem.F.type_str_startswith b10 (pv 0) (a00 a37 a02))))))
     (a06 (a40 a55)) a39)
   (a03 (a43 2 nd (a63 b83 (by rfl) mInt PyProof.Rows.Boot.int (a00 (pv 0) a02)))
   (a06 (a40 (b27 (a08 h99 (pv 2) (pv 1) (a38 _)) (pv 2) a55))))),?_⟩
  have hzs:z.length<=zL:=by rw[sizeLine_eq];lia
  refine⟨_,rfl,rfl,_,rfl,?_⟩;refine a50 (fun q=>?_) (fun q=>?_)
  ·have e0:z = "" := by have:=AJ q;injection this
   have:=k H (Same.refl H)
   unfold nuF at this;rw[if_pos (.inl e0)] at this;exact a78 this
  ·have h0:z ≠ "" := fun e=>q (Az (by rw[e]));refine⟨_,rfl,z,rfl,hzs,_,rfl,199,rfl,by decide,_,rfl,by decide +kernel,_,_,rfl,rfl,_,rfl,?_⟩;have e3:((((toString (199:Int)):String):Str)).length=3:=by decide +kernel
   refine a50 (fun q=>?_) (fun q=>?_)
   ·have q':=AJ q;rw[e3] at q'
    have:=k H (Same.refl H)
    unfold nuF at this;rw[if_pos (.inr (.inl (by lia)))] at this;exact a78 this
   ·have h3:z.length<=3:=by
     have:¬ _:=fun w=>q (Az w)
     rw[e3] at this;lia
    refine⟨_,rfl,z,rfl,b55 (fun i ys H'=>i<=z.cps.size/\H'=H/\ys=e72 d27 z i) hzs ⟨Fx _,rfl,rfl⟩ (fun i ys H' ⟨hi,_,e⟩=>by rw[e];exact b89 hi) (fun i ys H' c hc ⟨hi,e1,e2⟩=>?_) (fun ys H' ⟨_,e1,e2⟩ D hD=>?_)⟩
    ·obtain⟨hlt,e4⟩:=b37 (f:=d27) hc;exact⟨_,rfl,_,_,rfl,rfl,hlt,e1,by rw[e2,← e4];rfl⟩
    ·subst e1;refine⟨D,z.cps.toList.map d27,rfl,SqL.of (by rw[a01,e2,b91]),_,rfl,?_⟩;have sD:Same H' (upd H' D (.lst ys)):=(Same.refl _).upd hD;have kk:=k _ sD;generalize (upd H' D (.lst ys))=H2 at kk ⊢;unfold nuF at kk;cases hb:(z.cps.toList.map d27).all id with
     | false =>
      rw[if_pos (.inr (.inr hb))] at kk;exact a78 kk
     | true =>
      rw[if_neg (by rintro(e | e | e);exact h0 e;lia;rw[hb] at e;cases e)] at kk;refine a76 ?_;obtain⟨n,hn⟩:=digs h0 h3 hb;rw[hn] at kk;have last:(if z ≠ "0"/\Txt.startswith z "0" = true then none else if (some n).getD 0<=199 then some ((some n).getD 0) else none)=(if z ≠ "0"/\Txt.startswith z "0" = true then none else if n<=199 then some n else none):=rfl;rw[last] at kk;refine⟨_,rfl,rfl,_,rfl,?_⟩;refine a50 (fun q=>?_) (fun q=>a76 ?_)
      ·have hne:z ≠ "0" := fun e=>by rw[e] at q;exact absurd q (by decide +kernel)
       refine⟨_,rfl,rfl,z, "0", rfl,rfl,_,rfl,?_⟩;cases hs:Txt.startswith z "0" with
       | true =>
        rw[if_pos ⟨hne,hs⟩] at kk;exact a78 kk
       | false =>
        rw[if_neg (fun w=>by rw[hs] at w;cases w.2)] at kk;refine a76 ⟨_,rfl,z,n,rfl,by lia,hn,?_⟩;refine⟨_,rfl,_,rfl,_,_,rfl,rfl,_,rfl,?_⟩;refine a50 (fun w=>⟨_,rfl,?_⟩) (fun w=>?_)
        ·rw[if_pos (AJ w)] at kk;exact kk
        ·rw[if_neg (fun v=>w (Az v))] at kk;exact kk
      ·have he:z = "0" := Classical.byContradiction fun e=>q (by rw[Fq (fun w=>e (by injection w))];rfl);rw[if_neg (fun w=>w.1 he)] at kk;refine⟨_,rfl,z,n,rfl,by lia,hn,?_⟩;refine⟨_,rfl,_,rfl,_,_,rfl,rfl,_,rfl,?_⟩;refine a50 (fun w=>⟨_,rfl,?_⟩) (fun w=>?_)
       ·rw[if_pos (AJ w)] at kk;exact kk
       ·rw[if_neg (fun v=>w (Az v))] at kk;exact kk
theorem g98:FnScope ["path"] ["path"] (a41 c45):=.of
theorem f07 {f:Addr}{fd:FD}(F:Fun K "parent_of" "parent_of" c45 f fd):FnOk P w K mg base CX0 1 f fd ["path"] c25:=by
 refine F.ok g98 (fun vs H Q E h=>?_) (fun cdv A outer s H vs Q E hr h=>?_)
 ·obtain⟨a,zs,rfl,_⟩:=h;rfl
 ·obtain⟨a,zs,rfl,ha,k⟩:=h;refine⟨_,a06 (a40 (a61 g30 (pv 0) a73 (a65 (d48 c19 a05)))),?_⟩;refine⟨_,rfl,_,rfl,_,rfl,a,_,rfl,ha,fun t H' ht s'=>k t H' ?_ s'⟩;rw[ht,show((-(1:Int)))=-1 from rfl,e30,List.map_dropLast]
end
def d91 (ws:List Str):Option (List Str×Ent):=if ws.length≠2 then none else(a49 9 (ws.getD 1 "")).map fun p=>(p,.gone)
def e03 (ws:List Str):Option (List Str×Ent):=if ws.length≠3 then none else(b17 (ws.getD 1 "")).bind fun p=>(nuF (ws.getD 2 "")).map fun n=>(p,.fil n)
def d69 (ws:List Str):Option (List Str×Ent):=if ws.length < 3 then none else(b17 (ws.getD 1 "")).bind fun p =>
 if ws.drop 2=[("alone" : Str)] then some (p,.dir none) else if ws.length≠4∨ws.getD 2 "" ≠ "over" then none else(b17 (ws.getD 3 "")).map fun b=>(p,.dir (some b))
def b87 (ws:List Str):Option (List Str×Ent):=if ws.getD 0 "" = "folder" then d69 ws else if ws.getD 0 "" = "file" then e03 ws else if ws.getD 0 "" = "gone" then d91 ws else none
def Ws (ws:List Str):Prop:=∀ w∈ws,w.length<=1000000
def b26 (F:List Str->Option (List Str×Ent)):Sp:=fun vs H Q _=>∃(l:Addr) (ws:List Str),vs=[.ref l]/\H l=some (.lst (ws.map V.str))/\Ws ws/\(∀ x,F ws=some x->∀ v H',EntV H' v x.1 x.2->Same H H'->Q v H')/\(F ws=none->∀ H',Same H H'->Q .non H')
def d80:Sp:=fun vs H Q _=>∃ z:Str,vs=[.str z]/\z.length<=1000000/\(∀ x,b87 (Txt.split z " ")=some x->∀ v H',EntV H' v x.1 x.2->Same H H'->Q v H')/\(b87 (Txt.split z " ")=none->∀ H',Same H H'->Q .non H')
theorem b66 {ws:List Str}{i:Nat}(h:i < ws.length):(ws.map V.str)[i]?=some (V.str (ws.getD i "")):=by
 rw[CJ,lG,Bx h];rfl
theorem b33 {ws:List Str}(h:Ws ws) (i:Nat):(ws.getD i "").length<=1000000:=by
 rw[lG];cases q:ws[i]? with
 | none=>exact Fx _
 | some z=>exact h z (BJ q)
theorem d98 {xs:List V}{i:Nat}{v:V}(h:xs[i]?=some v):atI xs (i:Int)=some v:=b09 (by lia) (by rw[Dj];exact h)
section
theorem scGoneIn:FnScope ["words", "path"] ["words"] (a41 d77):=.of
theorem f64 {f:Addr}{fd:FD}{tm:Tok}(F:Fun K "gone_in" "gone_in" d77 f fd)(mLen:mg "len" = none)(mMost:mg "MOST_NAMES" = some (.int 8 tm))(DU:Def P w K mg base 2 "path_up_to" ["text", "most"] c34):FnOk P w K mg base CX0 3 f fd ["words"] (b26 d91):=by
 refine F.ok scGoneIn (fun vs H Q E h=>?_) (fun cdv A outer s H vs Q E hr h=>?_)
 ·obtain⟨l,p,rfl,_⟩:=h;rfl
 ·obtain⟨l,ws,rfl,hl,hw,k1,k2⟩:=h;have nd:=scGoneIn.nd;refine⟨_,a03 (a46 (a08 b98 (a09 a36 (by rfl) mLen bLn (a00 (pv 0) a02)) a05 (a38 _)) (a06 (a40 a55)) a39)
   (a03 (a43 1 nd (a42 DU hr (a00 (a45 a44 (pv 0) a05) (a00 (a47 a80 (a66 (v:=.int 8) rfl mMost ⟨tm,rfl⟩) a05) a02))))
   (a06 (a40 (b27 (a86 (b30 (pv 1))) a55 (a52 (a00 (pv 1) (a00 a37 a02))))))),?_⟩
  refine⟨_,rfl,l,_,rfl,.inl (SqL.of hl),rfl,_,rfl,?_⟩;unfold d91 at k1 k2;by_cases h2:ws.length=2
  ·rw[if_neg (fun q=>q h2)] at k1 k2;refine e97 (by rw[Aj,h2];rfl) ?_;refine⟨_,rfl,l,_,_,_,rfl,rfl,SqL.of hl,d98 (i:=1) (b66 (by lia)),_,_,rfl,rfl,ws.getD 1 "", 9,rfl,b33 hw 1,fun zs e t H1 h0 h1 s1=>?_,fun e H1 s1=>?_⟩
   ·rw[e] at k1;refine⟨_,rfl,_,rfl,a76 ⟨_,rfl,by show 2<=zL;decide,fun u hu=>?_⟩⟩;refine k1 _ rfl _ _ ⟨u,t,rfl,?_,a01⟩ (s1.upd hu);rw[a07 (a04 h1 hu)];exact h1
   ·rw[e] at k2;exact⟨_,rfl,_,rfl,a78 (k2 rfl H1 s1)⟩
  ·rw[if_pos h2] at k2;refine a50 (fun _=>k2 rfl H (Same.refl H)) (fun q=>absurd ?_ q);rw[Fq (fun e=>h2 (by injection e;rw[Aj] at *;lia))];rfl
theorem scFileIn:FnScope ["words", "path", "number"] ["words"] (a41 d93):=.of
theorem f68 {f:Addr}{fd:FD}{tm:Tok}(F:Fun K "file_in" "file_in" d93 f fd)(mLen:mg "len" = none)(mMost:mg "MOST_FILES" = some (.int 200 tm))(DU:Def P w K mg base 3 "path_in" ["text"] b90)(DN:Def P w K mg base 1 "number_in" ["text", "most"] d88):FnOk P w K mg base CX0 4 f fd ["words"] (b26 e03):=by
 refine F.ok scFileIn (fun vs H Q E h=>?_) (fun cdv A outer s H vs Q E hr h=>?_)
 ·obtain⟨l,p,rfl,_⟩:=h;rfl
 ·obtain⟨l,ws,rfl,hl,hw,k1,k2⟩:=h;have nd:=scFileIn.nd;have hr1:Room 1 _:=hr.mono (by decide);refine⟨_,a03 (a46 (a08 b98 (a09 a36 (by rfl) mLen bLn (a00 (pv 0) a02)) a05 (a38 _)) (a06 (a40 a55)) a39)
   (a03 (a43 1 nd (a42 DU hr (a00 (a45 a44 (pv 0) a05) a02)))
   (a03 (a43 2 nd (a42 DN hr1 (a00 (a45 a44 (pv 0) a05) (a00 (a47 e48 (a66 (v:=.int 200) rfl mMost ⟨tm,rfl⟩) a05) a02))))
   (a06 (a40 (b27 (PW.pt (a94 (a86 (b30 (pv 1))) (a79 (a86 (b30 (pv 2)))))) a55 (a52 (a00 (pv 1) (a00 a37 (a00 (pv 2) a02))))))))),?_⟩
  refine⟨_,rfl,l,_,rfl,.inl (SqL.of hl),rfl,_,rfl,?_⟩;unfold e03 at k1 k2;by_cases h2:ws.length=3
  ·rw[if_neg (fun q=>q h2)] at k1 k2;refine e97 (by rw[Aj,h2];rfl) ?_;refine⟨_,rfl,l,_,_,_,rfl,rfl,SqL.of hl,d98 (i:=1) (b66 (by lia)),ws.getD 1 "", rfl,b33 hw 1,fun zs e t H1 h0 h1 s1=>?_,fun e H1 s1=>?_⟩
   ·rw[e,oB] at k1 k2;refine⟨_,rfl,l,_,_,_,rfl,rfl,SqL.of (s1 _ _ hl),d98 (i:=2) (b66 (by lia)),_,_,rfl,rfl,ws.getD 2 "", rfl,b33 hw 2,fun H2 s2=>?_⟩;have h2':=s2 _ _ h1;refine⟨_,rfl,_,rfl,a76 ?_⟩;cases q:nuF (ws.getD 2 "") with
    | none =>
     rw[q] at k2;exact⟨_,rfl,_,rfl,a78 (k2 rfl H2 (s1.trans s2))⟩
    | some n =>
     rw[q] at k1;refine⟨_,rfl,_,rfl,a76 ⟨_,rfl,_,rfl,by show 3<=zL;decide,fun u hu=>?_⟩⟩;refine k1 _ rfl _ _ ⟨u,t,rfl,?_,a01⟩ ((s1.trans s2).upd hu);rw[a07 (a04 h2' hu)];exact h2'
   ·rw[e,Option.bind_none] at k2;refine⟨_,rfl,l,_,_,_,rfl,rfl,SqL.of (s1 _ _ hl),d98 (i:=2) (b66 (by lia)),_,_,rfl,rfl,ws.getD 2 "", rfl,b33 hw 2,fun H2 s2=>?_⟩;exact⟨_,rfl,_,rfl,a78 (a78 (k2 rfl H2 (s1.trans s2)))⟩
  ·rw[if_pos h2] at k2;refine a50 (fun _=>k2 rfl H (Same.refl H)) (fun q=>absurd ?_ q);rw[Fq (fun e=>h2 (by injection e;rw[Aj] at *;lia))];rfl
theorem cut2 (ws:List Str):c24 (ws.map V.str) (some 2) none=(ws.drop 2).map V.str:=by
 unfold c24;rw[HT.sIx_none,show(2:Int)=((2:Nat):Int) from rfl,HT.sIx_nat,List.map_drop,Aj];by_cases z:2<=ws.length
 ·rw[Nat.min_eq_left z,Dz (by rw[EJ,Aj];lia)]
 ·rw[Nat.min_eq_right (by lia),List.drop_of_length_le (by rw[Aj];lia),List.drop_of_length_le (by rw[Aj];lia),List.take_nil]
theorem scFoldIn:FnScope ["words", "path", "beneath"] ["words"] (a41 c36):=.of
theorem f93 {f:Addr}{fd:FD}(F:Fun K "folder_in" "folder_in" c36 f fd)(mLen:mg "len" = none)(DU:Def P w K mg base 3 "path_in" ["text"] b90):FnOk P w K mg base CX0 4 f fd ["words"] (b26 d69):=by
 refine F.ok scFoldIn (fun vs H Q E h=>?_) (fun cdv A outer s H vs Q E hr h=>?_)
 ·obtain⟨l,p,rfl,_⟩:=h;rfl
 ·obtain⟨l,ws,rfl,hl,hw,k1,k2⟩:=h;have nd:=scFoldIn.nd;refine⟨_,a03 (a46 (a08 c58 (a09 a36 (by rfl) mLen bLn (a00 (pv 0) a02)) a05 (a38 _)) (a06 (a40 a55)) a39)
   (a03 (a43 1 nd (a42 DU hr (a00 (a45 a44 (pv 0) a05) a02)))
   (a03 (a46 (a86 (b30 (pv 1))) (a06 (a40 a55)) a39)
   (a03 (a46 (a08 (g13 hr.units0) (a61 b14 (pv 0) (a65 a05) a73) (a56 (a00 a37 a02)) (a38 _)) (a06 (a40 (a52 (a00 (pv 1) (a00 a37 (a00 a55 a02)))))) a39)
   (a03 (a46 (PW.pt (a94 (a08 b98 (a09 a36 (by rfl) mLen bLn (a00 (pv 0) a02)) a05 (a38 _)) (a79 (a08 b98 (a45 a44 (pv 0) a05) a37 (a38 _))))) (a06 (a40 a55)) a39)
   (a03 (a43 2 nd (a42 DU hr (a00 (a45 a44 (pv 0) a05) a02)))
   (a06 (a40 (b27 (a86 (b30 (pv 2))) a55 (a52 (a00 (pv 1) (a00 a37 (a00 (pv 2) a02)))))))))))),?_⟩
  refine⟨_,rfl,l,_,rfl,.inl (SqL.of hl),_,_,rfl,rfl,_,rfl,?_⟩;unfold d69 at k1 k2;by_cases h3:ws.length < 3
  ·rw[if_pos h3] at k2;refine a50 (fun _=>k2 rfl H (Same.refl H)) (fun q=>absurd (Az ?_) q);rw[Aj];lia
  rw[if_neg h3] at k1 k2;refine a50 (fun q=>absurd (AJ q) (by rw[Aj];lia)) (fun _=>?_);refine⟨_,rfl,l,_,_,_,rfl,rfl,SqL.of hl,d98 (i:=1) (b66 (by lia)),ws.getD 1 "", rfl,b33 hw 1,fun zs e t H1 h0 h1 s1=>?_,fun e H1 s1=>?_⟩
  ·rw[e,oB] at k1 k2;refine⟨_,rfl,_,rfl,a76 ?_⟩;refine⟨_,rfl,_,rfl,l,_,rfl,SqL.of (s1 _ _ hl),fun c hc=>⟨by show 1<=zL;decide,fun d hd=>?_⟩⟩;rw[cut2] at hd ⊢;have nc:c≠d:=a04 (H:=upd H1 c _) a01 hd;refine⟨c,d,ws.drop 2,["alone"],rfl,rfl,SqL.of (by rw[a07 nc,a01]),SqL.of a01,_,rfl,?_⟩;have sA:=(s1.upd hc (o:=.lst ((ws.drop 2).map V.str))).upd hd (o:=.lst [V.str "alone"]);have sB:Same H1 (upd (upd H1 c (.lst ((ws.drop 2).map V.str))) d (.lst [V.str "alone"])):=((Same.refl H1).upd hc).upd hd;have h3':=sB _ _ h1;generalize (upd (upd H1 c (.lst ((ws.drop 2).map V.str))) d (.lst [V.str "alone"]))=HX at sA h3' ⊢;refine a50 (fun q=>?_) (fun q=>?_)
   ·rw[if_pos (AJ q)] at k1;refine⟨_,rfl,by show 3<=zL;decide,fun u hu=>?_⟩;refine k1 _ rfl _ _ ⟨u,t,rfl,?_,.non,rfl,a01⟩ (sA.upd hu);rw[a07 (a04 h3' hu)];exact h3'
   ·rw[if_neg (fun z=>q (Az z))] at k1 k2;have hlX:=sA _ _ hl;refine⟨_,rfl,l,_,rfl,.inl (SqL.of hlX),rfl,_,rfl,?_⟩;by_cases h4:ws.length=4
    ·refine e97 (by rw[Aj,h4];rfl) ?_;refine⟨_,rfl,l,_,_,_,rfl,rfl,SqL.of hlX,d98 (i:=2) (b66 (by lia)),rfl,_,rfl,?_⟩;by_cases h5:ws.getD 2 "" = "over"
     ·rw[if_neg (fun z=>z.elim (fun y=>y h4) fun y=>y h5)] at k1 k2;refine e97 (by rw[h5]) ?_;refine⟨_,rfl,l,_,_,_,rfl,rfl,SqL.of hlX,d98 (i:=3) (b66 (by lia)),ws.getD 3 "", rfl,b33 hw 3,fun zs2 e2 t2 H2 h02 h12 s2=>?_,fun e2 H2 s2=>?_⟩
      ·rw[e2] at k1;refine⟨_,rfl,_,rfl,a76 ⟨_,rfl,_,rfl,by show 3<=zL;decide,fun u hu=>?_⟩⟩;have h4':=s2 _ _ h3';exact k1 _ rfl _ _ ⟨u,t,rfl,by rw[a07 (a04 h4' hu)];exact h4',.ref t2,⟨t2,rfl,by rw[a07 (a04 h12 hu)];exact h12⟩,a01⟩ ((sA.trans s2).upd hu)
      ·rw[e2] at k2;exact⟨_,rfl,_,rfl,a78 (k2 rfl H2 (sA.trans s2))⟩
     ·rw[if_pos (.inr h5)] at k2;refine a50 (fun _=>k2 rfl HX sA) (fun w=>absurd ?_ w);rw[Fq (fun z=>h5 (by injection z))];rfl
    ·rw[if_pos (.inl h4)] at k2;refine a50 (fun _=>?_) (fun w=>absurd ?_ w)
     ·exact a78 (k2 rfl HX sA)
     ·rw[Fq (fun z=>h4 (by injection z;rw[Aj] at *;lia))];rfl
  ·rw[e,Option.bind_none] at k2;exact⟨_,rfl,_,rfl,a78 (k2 rfl H1 s1)⟩
end
def DE:Str := "data ="
def DO:Str := "data of "
def BE:Str := " ="
def b20 (z:Str):Option Pr :=
 if Txt.startswith z DE=true then(if txB (Txt.slice z (some 6) none)=true then some (none,some (Txt.slice z (some 6) none)) else none)
 else if Txt.startswith z DO=true then(b17 (Txt.partition (Txt.slice z (some 8) none) BE).1).bind fun p=>if p=[] then none else
  if (Txt.partition (Txt.slice z (some 8) none) BE).2.1 = "" then some (some p,none) else if txB (Txt.partition (Txt.slice z (some 8) none) BE).2.2=true then some (some p,some (Txt.partition (Txt.slice z (some 8) none) BE).2.2) else none
 else none
def d03:Sp:=fun vs H Q _=>∃ z:Str,vs=[.str z]/\z.length<=1000000/\(∀ x,b20 z=some x->∀ v H',PairV H' v x->Same H H'->Q v H')/\(b20 z=none->∀ H',Same H H'->Q .non H')
theorem d54 (z:Str) (i:Nat):(Txt.slice z (some (i:Int)) none).length<=z.length:=Txt.slice_le ..
theorem h44 (x:Str) (i j:Nat):(Builtin.Str.strSub x i j).length<=x.length:=by
 show(x.cps.extract i j).size<=x.cps.size;rw[Array.size_extract];omega
theorem h06 (z y:Str):(Txt.partition z y).1.length<=z.length/\(Txt.partition z y).2.2.length<=z.length:=by
 unfold Txt.partition;split
 ·exact⟨h44 _ _ _,h44 _ _ _⟩
 ·exact⟨AZ _,Fx _⟩
theorem b51 (z:Str):Txt.split z " " ≠ []:=by
 rw[show(" " : Str)=⟨#[32]⟩ by decide +kernel,c27];obtain⟨h,t,e⟩:=c02 32 z.cps.toList;rw[e];simp
section
theorem scEntIn:FnScope ["row", "words"] ["row"] (a41 d05):=.of
theorem b56 {z:Str}(h:z.length<=1000000) (y:Str):Ws (Txt.split z y):=fun p hp=>by have:=PyProof.Rows.part_short hp;lia
theorem g77 {f:Addr}{fd:FD}(F:Fun K "entry_in" "entry_in" d05 f fd)(DF:Def P w K mg base 4 "folder_in" ["words"] (b26 d69))(DL:Def P w K mg base 4 "file_in" ["words"] (b26 e03))(DG:Def P w K mg base 3 "gone_in" ["words"] (b26 d91)):FnOk P w K mg base CX0 5 f fd ["row"] d80:=by
 refine F.ok scEntIn (fun vs H Q E h=>?_) (fun cdv A outer s H vs Q E hr h=>?_)
 ·obtain⟨x,rfl,_⟩:=h;rfl
 ·obtain⟨z,rfl,hz,k1,k2⟩:=h;have nd:=scEntIn.nd;have hr3:Room 3 _:=hr.mono (by decide);refine⟨_,a03 (a43 1 nd (a77 pS pZ pY a90 (pv 0) (a00 a37 a02)))
   (a03 (a46 (a08 a58 (a45 a44 (pv 1) a05) a37 (a38 _)) (a06 (a40 (a42 DF hr (a00 (pv 1) a02)))) a39)
   (a03 (a46 (a08 a58 (a45 a44 (pv 1) a05) a37 (a38 _)) (a06 (a40 (a42 DL hr (a00 (pv 1) a02)))) a39)
   (a03 (a46 (a08 a58 (a45 a44 (pv 1) a05) a37 (a38 _)) (a06 (a40 (a42 DG hr3 (a00 (pv 1) a02)))) a39)
   (a06 (a40 a55))))),?_⟩
  refine⟨_,rfl,rfl,_,_,rfl,rfl,by decide +kernel,hz,fun l hl=>?_⟩;have s1:Same H (upd H l (.lst ((Txt.split z " ").map V.str))):=(Same.refl H).upd hl;have h1:(upd H l (.lst ((Txt.split z " ").map V.str))) l=some (.lst ((Txt.split z " ").map V.str)):=a01;generalize (upd H l (.lst ((Txt.split z " ").map V.str)))=H1 at s1 h1 ⊢;have hw:=b56 hz " ";have hne:0 < (Txt.split z " ").length:=List.length_pos_iff.mpr (b51 z);generalize Txt.split z " " = ws at k1 k2 h1 hw hne ⊢;have a0:atI (ws.map V.str) (0:Int)=some (V.str (ws.getD 0 "")):=d98 (i:=0) (b66 hne);unfold b87 at k1 k2;have yes:∀ {c:Str},ws.getD 0 "" = c->decide (V.str (ws.getD 0 "")=V.str c)=true:=fun {c} e=>Az (by rw[e]);refine⟨_,rfl,l,_,_,_,rfl,rfl,SqL.of h1,a0,rfl,_,rfl,?_⟩;refine a50 (fun q=>?_) (fun q=>?_)
  ·rw[if_pos (by have:=AJ q;injection this)] at k1 k2;exact⟨_,rfl,l,ws,rfl,h1,hw,fun x e v H' hv s'=>k1 x e v H' hv (s1.trans s'),fun e H' s'=>k2 e H' (s1.trans s')⟩
  rw[if_neg (fun e=>q (yes e))] at k1 k2;refine⟨_,rfl,l,_,_,_,rfl,rfl,SqL.of h1,a0,rfl,_,rfl,?_⟩;refine a50 (fun q=>?_) (fun q=>?_)
  ·rw[if_pos (by have:=AJ q;injection this)] at k1 k2;exact⟨_,rfl,l,ws,rfl,h1,hw,fun x e v H' hv s'=>k1 x e v H' hv (s1.trans s'),fun e H' s'=>k2 e H' (s1.trans s')⟩
  rw[if_neg (fun e=>q (yes e))] at k1 k2;refine⟨_,rfl,l,_,_,_,rfl,rfl,SqL.of h1,a0,rfl,_,rfl,?_⟩;refine a50 (fun q=>?_) (fun q=>?_)
  ·rw[if_pos (by have:=AJ q;injection this)] at k1 k2;exact⟨_,rfl,l,ws,rfl,h1,hw,fun x e v H' hv s'=>k1 x e v H' hv (s1.trans s'),fun e H' s'=>k2 e H' (s1.trans s')⟩
  rw[if_neg (fun e=>q (yes e))] at k2;exact k2 rfl H1 s1
theorem scPairIn:FnScope ["row", "text", "parts", "origin"] ["row"] (a41 e00):=.of
theorem g39 {f:Addr}{fd:FD}(F:Fun K "pair_in" "pair_in" e00 f fd)(mLen:mg "len" = none)(DU:Def P w K mg base 3 "path_in" ["text"] b90)(DT:Def P w K mg base 2 "is_text" ["text"] c82):FnOk P w K mg base CX0 4 f fd ["row"] d03:=by
 refine F.ok scPairIn (fun vs H Q E h=>?_) (fun cdv A outer s H vs Q E hr h=>?_)
 ·obtain⟨z,rfl,_⟩:=h;rfl
 ·obtain⟨z,rfl,hz,k1,k2⟩:=h;have nd:=scPairIn.nd;have hr2:Room 2 _:=hr.mono (by decide);refine⟨_,a03 (a46 (a83 (a77 pS PySem.F.slot_str_startswith PySem.F.type_str_startswith b10 (pv 0) (a00 a37 a02)))
   (a03 (a43 1 nd (a61 c11 (pv 0) (a65 (a09 a51 (by rfl) mLen bLn (a00 a37 a02))) a73))
   (a06 (a40 (b27 (a83 (a42 DT hr2 (a00 (pv 1) a02))) (a52 (a00 a55 (a00 (pv 1) a02))) a55)))) a39)
   (a03 (a46 (b35 (a83 (a77 pS PySem.F.slot_str_startswith PySem.F.type_str_startswith b10 (pv 0) (a00 a37 a02)))) (a06 (a40 a55)) a39)
   (a03 (a43 2 nd (a77 pS PySem.F.slot_str_partition PySem.F.type_str_partition d16 (a61 c11 (pv 0) (a65 (a09 a51 (by rfl) mLen bLn (a00 a37 a02))) a73) (a00 a37 a02)))
   (a03 (a43 3 nd (a42 DU hr (a00 (a45 a53 (pv 2) a05) a02)))
   (a03 (a46 (PW.pt (a94 (a86 (b30 (pv 3))) (a79 (a08 (f41 hr.units0) (pv 3) (a52 a02) (a38 _))))) (a06 (a40 a55)) a39)
   (a03 (a46 (a08 a58 (a45 a53 (pv 2) a05) a37 (a38 _)) (a06 (a40 (a52 (a00 (pv 3) (a00 a55 a02))))) a39)
   (a06 (a40 (b27 (a83 (a42 DT hr2 (a00 (a45 a53 (pv 2) a05) a02))) (a52 (a00 (pv 3) (a00 (a45 a53 (pv 2) a05) a02))) a55)))))))),?_⟩
  have hzs:z.length<=zL:=by rw[sizeLine_eq];lia
  have l6:((DE.length:Nat):Int)=6:=by decide +kernel
  have l8:((DO.length:Nat):Int)=8:=by decide +kernel
  refine⟨_,rfl,rfl,_,DE,rfl,rfl,_,rfl,?_⟩;unfold b20 at k1 k2;cases q:Txt.startswith z DE with
  | true =>
   rw[if_pos q] at k1 k2;refine a78 ⟨_,rfl,DE,rfl,by rw[sizeLine_eq];decide +kernel,_,rfl,_,rfl,hzs,?_⟩;rw[l6];have ls:=d54 z 6;refine⟨_,rfl,_,rfl,Fz ls hz,fun H1 s1=>⟨_,rfl,?_⟩⟩;refine a50 (fun w=>⟨_,rfl,by show 2<=zL;decide,fun u hu=>?_⟩) (fun w=>?_)
   ·rw[if_pos w] at k1;exact k1 _ rfl _ _ ⟨u,.non,.str _,rfl,rfl,rfl,a01⟩ (s1.upd hu)
   ·rw[if_neg w] at k2;exact k2 rfl H1 s1
  | false =>
   rw[if_neg (by rw[q];exact fun w=>nomatch w)] at k1 k2;refine a76 ⟨_,rfl,rfl,_,DO,rfl,rfl,_,rfl,?_⟩;cases q2:Txt.startswith z DO with
   | false =>
    rw[if_neg (by rw[q2];exact fun w=>nomatch w)] at k2;exact a78 (k2 rfl H (Same.refl H))
   | true =>
    rw[if_pos q2] at k1 k2;refine a76 ⟨_,rfl,DO,rfl,by rw[sizeLine_eq];decide +kernel,_,rfl,_,rfl,hzs,?_⟩;rw[l8];have ls:=d54 z 8;obtain⟨p1,p2⟩:=h06 (Txt.slice z (some 8) none) BE;have hs8:(Txt.slice z (some 8) none).length<=1000000:=Fz ls hz;generalize Txt.slice z (some 8) none=b at k1 k2 p1 p2 hs8 ⊢;refine⟨rfl,b,BE,rfl,rfl,by decide +kernel,by rw[sizeLine_eq];lia,fun D hD=>?_⟩;generalize Txt.partition b BE=pt at k1 k2 p1 p2 hD ⊢;obtain⟨pa,py,pz⟩:=pt;simp only at p1 p2 k1 k2;have sD:Same H (upd H D (.tup [V.str pa,V.str py,V.str pz])):=(Same.refl H).upd hD;have hD1:(upd H D (.tup [V.str pa,V.str py,V.str pz])) D=some (.tup [V.str pa,V.str py,V.str pz]):=a01;generalize (upd H D (.tup [V.str pa,V.str py,V.str pz]))=HD at sD hD1 ⊢;refine⟨_,rfl,D,_,_,_,rfl,rfl,SqT.of hD1,rfl,pa,rfl,by lia,fun zs e t H1 h0 h1 s1=>?_,fun e H1 s1=>?_⟩
    ·rw[e,oB] at k1 k2;refine⟨_,rfl,_,rfl,a76 ?_⟩;refine⟨_,rfl,by show 0<=zL;decide,fun u hu=>?_⟩;have s2:Same H1 (upd H1 u (.tup [])):=(Same.refl _).upd hu;have hu2:(upd H1 u (.tup [])) u=some (.tup []):=a01;have hD2:=s2 _ _ (s1 _ _ hD1);have h12:=s2 _ _ h1;have sH:=sD.trans (s1.trans s2);generalize upd H1 u (.tup [])=HX at hD2 h12 sH hu2 ⊢;refine⟨t,u,zs,[],rfl,rfl,SqT.of h12,SqT.of hu2,_,rfl,?_⟩;refine a50 (fun w=>?_) (fun w=>?_)
     ·rw[if_pos (AJ w)] at k2;exact k2 rfl HX sH
     rw[if_neg (fun v=>w (Az v))] at k1 k2;refine⟨_,rfl,D,_,_,_,rfl,rfl,SqT.of hD2,rfl,rfl,_,rfl,?_⟩;refine a50 (fun w=>?_) (fun w=>?_)
     ·rw[if_pos (by have:=AJ w;injection this)] at k1;refine⟨_,rfl,by show 2<=zL;decide,fun x hx'=>?_⟩;exact k1 _ rfl _ _ ⟨x,.ref t,.non,rfl,⟨t,rfl,by rw[a07 (a04 h12 hx')];exact h12⟩,rfl,a01⟩ (sH.upd hx')
     ·rw[if_neg (fun v=>w (Az (by rw[v])))] at k1 k2;refine⟨_,rfl,D,_,_,_,rfl,rfl,SqT.of hD2,rfl,pz,rfl,by lia,fun H3 s3=>⟨_,rfl,?_⟩⟩;refine a50 (fun v=>?_) (fun v=>?_)
      ·rw[if_pos v] at k1;refine⟨_,rfl,_,rfl,D,_,_,_,rfl,rfl,SqT.of (s3 _ _ hD2),rfl,by show 2<=zL;decide,fun x hx'=>?_⟩;have h13:=s3 _ _ h12;exact k1 _ rfl _ _ ⟨x,.ref t,.str pz,rfl,⟨t,rfl,by rw[a07 (a04 h13 hx')];exact h13⟩,rfl,a01⟩ ((sH.trans s3).upd hx')
      ·rw[if_neg v] at k2;exact k2 rfl H3 (sH.trans s3)
    ·rw[e,Option.bind_none] at k2;exact⟨_,rfl,_,rfl,a78 (a78 (k2 rfl H1 (sD.trans s1)))⟩
end
structure DefM (P:Pm)(w:World)(K:WFr) (mg:Str->Option Value)(base:Heap) (k:Nat)(C:Addr) (m:Str) (ps:List Str)(sp:Sp):Prop where
 ex:∃ f fd,FnOk P w K mg base CX0 k f fd ps sp/\Meth K C m f/\Binds K fd ps []
section
variable {X:Cx}{k:Nat}{ps:List Str}{sp:Sp}{m:Str}{C:Addr}{pos apos:Pos}{e o:Expr}{es:List Expr}{ta:TE}{t:TA}
theorem e89 {pl:Sem Bool}(D:DefM X.prog X.w X.K X.mg X.base k C m ps sp)(c:Cls X.K C)(hr:Room k X.A)(he:PE X o ta)(ha:PA X (e::es) t)
 (hst:starEach (e::es) X.env=(false,eval e X.env)::starEach es X.env:=by rfl)(hpl:(backTo pos (starEach es X.env)).any (·.1)=false:=by rfl)
 (ht:eval (.Call (.Attribute o m apos) (e::es) [] pos) X.env=(do
   let ov ← eval o X.env
   standAt apos.atName
   let (f,first) ← holding [ov] (getMethod ov m pl)
   callWith pos f first (backTo pos (starEach (e::es) X.env)) (backToKw pos (keywordEach [] X.env))):=by rfl) :
 PE X (.Call (.Attribute o m apos) (e::es) [] pos) (g66 C m sp [] E0 ta t):=by
 obtain⟨f,fd,F,hm,hb⟩:=D.ex;exact h63 he c hm F hr hb .nil f99 ha hst hpl ht
theorem f73 {pl:Sem Bool}(D:DefM X.prog X.w X.K X.mg X.base k C m ps sp)(c:Cls X.K C)(hr:Room k X.A)(he:PE X o ta)
 (ht:eval (.Call (.Attribute o m apos) [] [] pos) X.env=(do
   let ov ← eval o X.env
   standAt apos.atName
   let (f,first) ← holding [ov] (getMethod ov m pl)
   callWith pos f first (backTo pos (starEach [] X.env)) (backToKw pos (keywordEach [] X.env))):=by rfl) :
 PE X (.Call (.Attribute o m apos) [] [] pos) (g66 C m sp [] E0 ta i26):=by
 obtain⟨f,fd,F,hm,hb⟩:=D.ex;exact g48 he c hm F hr hb .nil f99 ht
end
structure Txt (K:WFr)(C:Addr):Prop where
 cl:Cls K C
 nE:NoAttr K C "entries"
 nF:NoAttr K C "files"
 nL:NoAttr K C "last_path"
 nP:NoAttr K C "folder_paths"
 nO:NoAttr K C "origins"
 nN:NoAttr K C "numbers"
structure RB where
 dx:Addr
 ae:Addr
 af:Addr
 am:Addr
 ao:Addr
 an:Addr
structure RD where
 fs:List (Str×V)
 al:Addr
 xs:List V
 ys:List V
 m:b64
 o:b64
 kvs:List (Key×V)
def RB.all (b:RB)(r:Addr):List Addr:=[r,b.ae,b.af,b.am,b.ao,b.an]
def d12 (es:List (List Str×Ent)):List Str:=(es.getLast?.map (·.1)).getD []
structure Flds (b:RB)(d:RD):Prop where
 f1:d.fs.lookup ("entries" : Str)=some (.ref b.ae)
 f2:d.fs.lookup ("files" : Str)=some (.ref b.af)
 f3:d.fs.lookup ("last_path" : Str)=some (.ref d.al)
 f4:d.fs.lookup ("folder_paths" : Str)=some (.ref b.am)
 f5:d.fs.lookup ("origins" : Str)=some (.ref b.ao)
 f6:d.fs.lookup ("numbers" : Str)=some (.ref b.an)
 m1:d.fs.lookup ("took_row" : Str)=none
 m2:d.fs.lookup ("took_entry" : Str)=none
 m3:d.fs.lookup ("took_pair" : Str)=none
 m4:d.fs.lookup ("is_whole" : Str)=none
 m5:d.fs.lookup ("layer_read" : Str)=none
 fl:d.fs.length<=20
structure RdOk (C:Addr)(H:Hp)(r:Addr)(b:RB)(d:RD) (es:List (List Str×Ent)) (ps:List Pr):Prop where
 hr:H r=some (.ins C b.dx d.fs)
 F:Flds b d
 he:H b.ae=some (.lst d.xs)
 hf:H b.af=some (.lst d.ys)
 hl:H d.al=some (.tup ((d12 es).map V.str))
 hm:H b.am=some (dP d.m)
 ho:H b.ao=some (dP d.o)
 hn:H b.an=some (.dK d.kvs)
 nef:b.ae≠b.af
 nmo:b.am≠b.ao
 E:EntsV H d.xs es
 Pp:PairsV H d.ys ps
 M:∀ zs,(a96 d.m zs).isSome=true↔zs=[]∨∃ o,(zs,Ent.dir o)∈es
 O:∀ zs,(a96 d.o zs).isSome=true↔∃ p∈ps,p.1=some zs
 N:∀ i:Int,(a96 d.kvs (Sum.inl i)).isSome=true↔∃ p,(p,Ent.fil i)∈es
 NK:∀ q∈d.kvs,∃ i:Int,q.1=Sum.inl i
 ml:d.m.length<=1+es.length
 ol:d.o.length<=ps.length
 nl:d.kvs.length<=es.length
theorem RdOk.same {C:Addr}{H H':Hp}{r:Addr}{b:RB}{d:RD}{es:List (List Str×Ent)}{ps:List Pr}(R:RdOk C H r b d es ps)(s:Same H H'):RdOk C H' r b d es ps :=
 ⟨s _ _ R.hr,R.F,s _ _ R.he,s _ _ R.hf,s _ _ R.hl,s _ _ R.hm,s _ _ R.ho,s _ _ R.hn,R.nef,R.nmo,EntsV.tk (Tk.of s) R.E,PairsV.tk (Tk.of s) R.Pp,R.M,R.O,R.N,R.NK,R.ml,R.ol,R.nl⟩
theorem e14 {f:Str}{v u:V}:∀ {fs:List (Str×V)},fs.lookup f=some u->(a59 f v fs).length=fs.length
 | [],h=>by cases h
 | (g,x)::r,h=>by
  show(if g=f then(g,v)::r else(g,x)::a59 f v r).length=_;by_cases e:g=f
  ·rw[if_pos e];rfl
  ·rw[if_neg e,Cq,Cq];have hb:(f == g)=false:=beq_eq_false_iff_ne.mpr fun q=>e q.symm;simp only[List.lookup,hb] at h;rw[e14 h]
theorem Flds.last {b:RB}{d:RD}(h:Flds b d)(a:Addr) (xs ys:List V)(m o:b64) (kvs:List (Key×V)):Flds b ⟨a59 "last_path" (.ref a) d.fs,a,xs,ys,m,o,kvs⟩:=by
 have no:∀ f:Str,f ≠ "last_path"->(a59 "last_path" (.ref a) d.fs).lookup f=d.fs.lookup f:=fun f hf=>by rw[b02,if_neg hf]
 refine⟨(no _ (by decide +kernel)).trans h.f1,(no _ (by decide +kernel)).trans h.f2,by show(a59 _ _ _).lookup _=_;rw[b02,if_pos rfl],(no _ (by decide +kernel)).trans h.f4,(no _ (by decide +kernel)).trans h.f5,(no _ (by decide +kernel)).trans h.f6,(no _ (by decide +kernel)).trans h.m1,(no _ (by decide +kernel)).trans h.m2,(no _ (by decide +kernel)).trans h.m3,(no _ (by decide +kernel)).trans h.m4,(no _ (by decide +kernel)).trans h.m5,?_⟩;show(a59 _ _ _).length<=_;rw[e14 h.f3];exact h.fl
theorem Flds.data {b:RB}{d:RD}(h:Flds b d) (xs ys:List V)(m o:b64) (kvs:List (Key×V)):Flds b ⟨d.fs,d.al,xs,ys,m,o,kvs⟩:=⟨h.f1,h.f2,h.f3,h.f4,h.f5,h.f6,h.m1,h.m2,h.m3,h.m4,h.m5,h.fl⟩
def c96 (es:List (List Str×Ent)) (x:List Str×Ent):Prop:=Srt.lexB (d12 es) x.1=true/\es.length < 400/\(x.1.dropLast=[]∨∃ o,(x.1.dropLast,Ent.dir o)∈es)
def c52 (ps:List Pr)(x:Pr):Prop:=ps.length < 200/\∀ p∈ps,p.1=x.1->x.1=none
def f78 (C:Addr):Sp:=fun vs H Q _=>∃(r:Addr)(b:RB)(d:RD) (es:List (List Str×Ent)) (v:V) (x:List Str×Ent),vs=[.ref r,v]/\RdOk C H r b d es []/\EntV H v x.1 x.2/\c96 es x /\
 ∀ d' H',RdOk C H' r b d' (es++[x]) []->Kp (b.all r) H H'->Q (.bl true) H'
def f74 (C:Addr):Sp:=fun vs H Q _=>∃(r:Addr)(b:RB)(d:RD) (es:List (List Str×Ent)) (ps:List Pr) (v:V)(x:Pr),vs=[.ref r,v]/\RdOk C H r b d es ps/\PairV H v x/\c52 ps x /\
 ∀ d' H',RdOk C H' r b d' es (ps++[x])->Kp (b.all r) H H'->Q (.bl true) H'
theorem c66 (es:List (List Str×Ent)) (x:List Str×Ent):d12 (es++[x])=x.1:=by
 unfold d12;rw[List.getLast?_append];rfl
section
variable {C:Addr}
theorem scTookP:FnScope ["self", "pair", "origin"] ["self", "pair"] (a41 b88):=.of
theorem g55 {f:Addr}{fd:FD}{tm:Tok}(F:Fun K "took_pair" "Reader.took_pair" b88 f fd)(T:Txt K C)(mLen:mg "len" = none)(mM:mg "MOST_FILES" = some (.int 200 tm)):FnOk P w K mg base CX0 1 f fd ["self", "pair"] (f74 C):=by
 refine F.ok scTookP (fun vs H Q E h=>?_) (fun cdv A outer s H vs Q E hr h=>?_)
 ·obtain⟨r,b,d,es,ps,v,x,rfl,_⟩:=h;rfl
 ·obtain⟨r,b,d,es,ps,v,x,rfl,R,hv,hN,k⟩:=h;have nd:=scTookP.nd;have hu:=c23 hr;refine⟨_,a03 (a43 2 nd (a45 a53 (pv 1) a05))
   (a03 (a46 (PW.pt (a94 (a08 a58 (a09 a36 (by rfl) mLen bLn (a00 (a74 (pv 0) rfl) a02)) (a66 (v:=.int 200) rfl mM ⟨tm,rfl⟩) (a38 _)) (a79 (a86 (f37 hu (pv 2) (a74 (pv 0) rfl)))))) (a06 (a40 b08)) a39)
   (a03 (a81 (a77 pLQ PySem.F.slot_list_append PySem.F.type_list_append a87 (a74 (pv 0) rfl) (a00 (pv 1) a02)))
   (a03 (a46 (a86 (b68 (pv 2))) (a06 (b13 hu (a74 (pv 0) rfl) (pv 2) b08 rfl)) a39)
   (a06 (a40 b08))))),?_⟩
  obtain⟨t,ww,y,rfl,ho,hy,ht⟩:=id hv;have lq:d.ys.length=ps.length:=Paired.length R.Pp;have lp:=hN.1;refine⟨_,rfl,t,_,_,_,rfl,rfl,SqT.of ht,rfl,?_⟩;refine⟨_,rfl,r,C,b.dx,_,_,rfl,R.hr,T.cl,T.nF,R.F.f2,b.af,_,rfl,.inl (SqL.of R.hf),rfl,_,rfl,?_⟩;refine a50 (fun q=>absurd (AJ q) (fun z=>by injection z with z;lia)) (fun _=>?_)
  refine⟨_,rfl,_,rfl,r,C,b.dx,_,_,rfl,R.hr,T.cl,T.nO,R.F.f5,b.ao,d.o,x.1,rfl,R.ho,ho,_,rfl,?_⟩;have hin:inO d.o x.1=false:=by
   cases q:x.1 with
   | none=>rfl
   | some zs =>
    show(a96 d.o zs).isSome=false;cases z:(a96 d.o zs).isSome with
    | false=>rfl
    | true =>
     obtain⟨p,hp,e⟩:=(R.O zs).mp z
     have:=hN.2 p hp (e.trans q.symm)
     rw[q] at this;cases this
  rw[hin];refine a76 ?_;refine⟨_,rfl,r,C,b.dx,_,_,rfl,R.hr,T.cl,T.nF,R.F.f2,.inl ⟨rfl,_,SqL.of R.hf⟩,_,rfl,b.af,_,_,rfl,rfl,R.hf,by rw[sizeLine_eq];lia,?_⟩;have nrf:r≠b.af:=b06 R.hr R.hf (fun z=>nomatch z);have nfm:b.am≠b.af:=(a60 R.hf R.hm).symm;have nfo:b.ao≠b.af:=(a60 R.hf R.ho).symm;have nfn:b.an≠b.af:=b06 R.hn R.hf (fun z=>nomatch z);have nfl:d.al≠b.af:=b06 R.hl R.hf (fun z=>nomatch z);have k1:Kp (b.all r) H (upd H b.af (.lst (d.ys++[V.ref t]))):=(Kp.refl _ H).set (by simp[RB.all])
  have tk1:Tk H (upd H b.af (.lst (d.ys++[V.ref t]))):=b36 (a71 R.hf);have R1:∀(oo:b64),(∀ zs,(a96 oo zs).isSome=true↔∃ p∈ps++[x],p.1=some zs)->oo.length<=(ps++[x]).length->∀ H2:Hp,Kp [b.ao] (upd H b.af (.lst (d.ys++[V.ref t]))) H2->H2 b.ao=some (dP oo)->RdOk C H2 r b ⟨d.fs,d.al,d.xs,d.ys++[V.ref t],d.m,oo,d.kvs⟩ es (ps++[x]):=fun oo hO hl H2 k2 ho2=>by
   have nx:∀ c,c≠b.ao->c∉[b.ao]:=fun c hc=>by simpa using hc
   have tk2:Tk (upd H b.af (.lst (d.ys++[V.ref t]))) H2:=k2.tk fun a ha=>by
    rw[Ax.mp ha,a07 nfo];exact b01 R.ho
   have nro:r≠b.ao:=b06 R.hr R.ho (fun z=>nomatch z);have neo:b.ae≠b.ao:=a60 R.he R.ho;have nfo':b.af≠b.ao:=a60 R.hf R.ho;have nno:b.an≠b.ao:=b06 R.hn R.ho (fun z=>nomatch z);have nlo:d.al≠b.ao:=b06 R.hl R.ho (fun z=>nomatch z);refine⟨k2 _ _ (by rw[a07 nrf];exact R.hr) (nx _ nro),R.F.data _ _ _ _ _,k2 _ _ (by rw[a07 R.nef];exact R.he) (nx _ neo),k2 _ _ a01 (nx _ nfo'),k2 _ _ (by rw[a07 nfl];exact R.hl) (nx _ nlo),k2 _ _ (by rw[a07 nfm];exact R.hm) (nx _ R.nmo),ho2,k2 _ _ (by rw[a07 nfn];exact R.hn) (nx _ nno),R.nef,R.nmo,
    EntsV.tk (tk1.trans tk2) R.E,Paired.snoc (PairsV.tk (tk1.trans tk2) R.Pp) (PairV.tk (tk1.trans tk2) hv),R.M,hO,R.N,R.NK,R.ml,hl,R.nl⟩
  refine⟨_,rfl,_,rfl,?_⟩;cases q:x.1 with
  | none =>
   rw[q] at ho;cases (show ww=.non from ho);refine a76 ?_;have hO:∀ zs,(a96 d.o zs).isSome=true↔∃ p∈ps++[x],p.1=some zs:=fun zs=>by
    rw[R.O zs];constructor
    ·rintro⟨p,hp,e⟩;exact⟨p,List.mem_append_left _ hp,e⟩
    ·rintro⟨p,hp,e⟩;rcases Bq.mp hp with z | z
     ·exact⟨p,z,e⟩
     ·rw[Ax.mp z,q] at e;cases e
   exact k _ _ (R1 d.o hO (by rw[Bj];have:=R.ol;lia) _ (Kp.refl _ _) (by rw[a07 nfo];exact R.ho)) k1
  | some zs =>
   rw[q] at ho;obtain⟨a,rfl,ha⟩:=ho;refine a78 ?_;refine⟨_,rfl,r,C,b.dx,_,_,rfl,by rw[a07 nrf];exact R.hr,T.cl,T.nO,R.F.f5,_,rfl,b.ao,_,rfl,h92 (m:=d.o) (zs:=zs) (by rw[a07 nfo];exact R.ho) (tk1 _ _ ha) (by have:=R.ol;rw[sizeLine_eq];lia),?_⟩;have hO:∀ ws,(a96 (b18 d.o zs (.bl true)) ws).isSome=true↔∃ p∈ps++[x],p.1=some ws:=fun ws=>by
    rw[b77];by_cases e:ws=zs
    ·rw[if_pos e];exact⟨fun _=>⟨x,lR _ (Ax.mpr rfl),by rw[q,e]⟩,fun _=>rfl⟩
    ·rw[if_neg e,R.O ws];constructor
     ·rintro⟨p,hp,e'⟩;exact⟨p,List.mem_append_left _ hp,e'⟩
     ·rintro⟨p,hp,e'⟩;rcases Bq.mp hp with z | z
      ·exact⟨p,z,e'⟩
      ·rw[Ax.mp z,q] at e';exact absurd (Ez e').symm e
   refine k _ _ (R1 _ hO (by have:=a92 d.o zs (V.bl true);rw[Bj,List.length_singleton];have:=R.ol;lia) _ ((Kp.refl _ _).set (Ax.mpr rfl)) a01) (k1.set (by simp[RB.all]))
end
section
variable {C:Addr}
theorem h53 {a b:List Str}(h:Srt.lexB a b=true):leS b a=false:=by rw[c92,h];rfl
theorem scTookE:FnScope ["self", "entry", "path"] ["self", "entry"] (a41 b43):=.of
theorem g52 {f:Addr}{fd:FD}{tm:Tok}(F:Fun K "took_entry" "Reader.took_entry" b43 f fd)(T:Txt K C)(mLen:mg "len" = none)(mM:mg "MOST_ROWS" = some (.int 400 tm))(DP:Def P w K mg base 1 "parent_of" ["path"] c25):FnOk P w K mg base CX0 2 f fd ["self", "entry"] (f78 C):=by
 refine F.ok scTookE (fun vs H Q E h=>?_) (fun cdv A outer s H vs Q E hr h=>?_)
 ·obtain⟨r,b,d,es,v,x,rfl,_⟩:=h;rfl
 ·obtain⟨r,b,d,es,v,x,rfl,R,hv,hN,k⟩:=h;have nd:=scTookE.nd;have hu:=c23 hr;refine⟨_,a03 (a43 2 nd (a45 a53 (pv 1) a05))
   (a03 (a46 (PW.pt (a94 (a08 a58 (a09 a36 (by rfl) mLen bLn (a00 (a74 (pv 0) rfl) a02)) (a66 (v:=.int 400) rfl mM ⟨tm,rfl⟩) (a38 _)) (a79 (a08 b92 (a09 a36 (by rfl) mLen bLn (a00 (a74 (pv 0) rfl) a02)) a05 (a38 _))))) (a06 (a40 b08)) a39)
   (a03 (a46 (PW.pt (a94 (a08 (h36 hr.units0) (pv 2) (a74 (pv 0) rfl) (a38 _)) (a79 (a86 (b78 hu (a42 DP hr (a00 (pv 2) a02)) (a74 (pv 0) rfl)))))) (a06 (a40 b08)) a39)
   (a03 (a81 (a77 pLQ PySem.F.slot_list_append PySem.F.type_list_append a87 (a74 (pv 0) rfl) (a00 (pv 1) a02)))
   (a03 (c20 (pv 0) (pv 2) rfl)
   (a03 (a46 (a08 a58 (a45 a53 (pv 1) a05) a37 (a38 _)) (a06 (b13 hu (a74 (pv 0) rfl) (pv 2) b08 rfl)) a39)
   (a03 (a46 (a08 a58 (a45 a53 (pv 1) a05) a37 (a38 _)) (a06 (b13 hu (a74 (pv 0) rfl) (a45 a53 (pv 1) a05) b08 rfl)) a39)
   (a06 (a40 b08)))))))),?_⟩
  obtain⟨p,e⟩:=x;obtain⟨t,pa,rfl,hpa,hk⟩:=id hv;have le:d.xs.length=es.length:=Paired.length R.E;have lf:d.ys.length=0:=Paired.length R.Pp;obtain⟨tl,ht,ht1⟩:∃ tl,H t=some (.tup (V.ref pa::tl))/\tl[0]?=some (.str (match e with | .dir _ => "folder" | .fil _ => "file" | .gone => "gone")):=by
   cases e with
   | gone=>exact⟨_,hk,rfl⟩
   | fil i=>exact⟨_,hk,rfl⟩
   | dir o=>obtain⟨ww,_,h4⟩:=hk;exact⟨_,h4,rfl⟩
  obtain⟨hlt,hlen,hpar⟩:=hN;refine⟨_,rfl,t,_,_,_,rfl,rfl,SqT.of ht,b09 (v:=V.ref pa) (by decide) rfl,?_⟩;refine⟨_,rfl,r,C,b.dx,_,_,rfl,R.hr,T.cl,T.nE,R.F.f1,b.ae,_,rfl,.inl (SqL.of R.he),rfl,_,rfl,?_⟩;refine a50 (fun q=>absurd (AJ q) (fun z=>by injection z with z;omega)) (fun _=>?_)
  refine⟨_,rfl,r,C,b.dx,_,_,rfl,R.hr,T.cl,T.nF,R.F.f2,b.af,_,rfl,.inl (SqL.of R.hf),_,_,rfl,rfl,_,rfl,?_⟩;refine a50 (fun q=>absurd (AJ q) (by rw[lf];decide)) (fun _=>?_);refine⟨_,rfl,_,rfl,r,C,b.dx,_,_,rfl,R.hr,T.cl,T.nL,R.F.f3,pa,d.al,p,d12 es,rfl,rfl,SqT.of hpa,SqT.of R.hl,_,rfl,?_⟩;rw[h53 hlt];refine a76 ?_;refine⟨_,rfl,pa,p,rfl,hpa,fun tp H1 htp s1=>?_⟩;have R1:=R.same s1;refine⟨_,rfl,r,C,b.dx,_,_,rfl,R1.hr,T.cl,T.nP,R.F.f4,b.am,_,rfl,i17 R1.hm htp,_,rfl,?_⟩;have hin:(a96 d.m p.dropLast).isSome=true:=(R.M _).mpr hpar;rw[hin];refine a76 ?_;have hpa1:=s1 _ _ hpa;have ht1':=s1 _ _ ht;have hv1:=EntV.tk (Tk.of s1) hv;refine⟨_,rfl,r,C,b.dx,_,_,rfl,R1.hr,T.cl,T.nE,R.F.f1,.inl ⟨rfl,_,SqL.of R1.he⟩,_,rfl,b.ae,_,_,rfl,rfl,R1.he,by rw[sizeLine_eq];omega,?_⟩;have nre:r≠b.ae:=b06 R.hr R.he (fun z=>nomatch z);have nme:b.am≠b.ae:=(a60 R.he R.hm).symm;have noe:b.ao≠b.ae:=(a60 R.he R.ho).symm;have nne:b.an≠b.ae:=b06 R.hn R.he (fun z=>nomatch z);have nrm:b.am≠r:=b06 R.hm R.hr (fun z=>nomatch z);have nro:b.ao≠r:=b06 R.ho R.hr (fun z=>nomatch z);have nrn:b.an≠r:=b06 R.hn R.hr (fun z=>nomatch z);have nrf:b.af≠r:=b06 R.hf R.hr (fun z=>nomatch z);have hr2:(upd H1 b.ae (.lst (d.xs++[V.ref t]))) r=some (.ins C b.dx d.fs):=by rw[a07 nre];exact R1.hr
  refine⟨_,rfl,_,rfl,r,C,b.dx,_,rfl,hr2,T.cl,T.nL,by have:=R.F.fl;omega,?_⟩;have tkA:Tk H1 (upd H1 b.ae (.lst (d.xs++[V.ref t]))):=b36 (a71 R1.he);have tkB:Tk (upd H1 b.ae (.lst (d.xs++[V.ref t]))) (upd (upd H1 b.ae (.lst (d.xs++[V.ref t]))) r (.ins C b.dx (a59 "last_path" (.ref pa) d.fs))):=b36 (fun ys q=>by rw[hr2] at q;cases q);have k2:Kp (b.all r) H (upd (upd H1 b.ae (.lst (d.xs++[V.ref t]))) r (.ins C b.dx (a59 "last_path" (.ref pa) d.fs))):=((Kp.of s1).set (by simp[RB.all])).set (by simp[RB.all])
  have tk:=tkA.trans tkB;have g1:(upd (upd H1 b.ae (.lst (d.xs++[V.ref t]))) r (.ins C b.dx (a59 "last_path" (.ref pa) d.fs))) r=some (.ins C b.dx (a59 "last_path" (.ref pa) d.fs)):=a01;have g2:(upd (upd H1 b.ae (.lst (d.xs++[V.ref t]))) r (.ins C b.dx (a59 "last_path" (.ref pa) d.fs))) b.ae=some (.lst (d.xs++[V.ref t])):=by rw[a07 (Ne.symm nre),a01]
  have oth:∀ c u,H1 c=some u->c≠b.ae->c≠r->(upd (upd H1 b.ae (.lst (d.xs++[V.ref t]))) r (.ins C b.dx (a59 "last_path" (.ref pa) d.fs))) c=some u:=fun c u q n1 n2=>by rw[a07 n2,a07 n1];exact q
  generalize (upd (upd H1 b.ae (.lst (d.xs++[V.ref t]))) r (.ins C b.dx (a59 "last_path" (.ref pa) d.fs)))=HX at k2 tk g1 g2 oth ⊢;have gf:=oth _ _ R1.hf (Ne.symm R.nef) nrf;have gm:=oth _ _ R1.hm nme nrm;have go:=oth _ _ R1.ho noe nro;have gn:=oth _ _ R1.hn nne nrn;have fl:Flds b ⟨a59 "last_path" (.ref pa) d.fs,pa,d.xs++[V.ref t],d.ys,d.m,d.o,d.kvs⟩:=R.F.last pa _ _ _ _ _;have hvX:=EntV.tk tk hv1;have hpaX:=tk _ _ hpa1;have htX:=tk _ _ ht1';have fin:∀(m:b64) (kvs:List (Key×V))(H2:Hp),Kp [b.am,b.an] HX H2->H2 b.am=some (dP m)->H2 b.an=some (.dK kvs) ->
   (∀ zs,(a96 m zs).isSome=true↔zs=[]∨∃ o,(zs,Ent.dir o)∈es++[(p,e)])->(∀ i:Int,(a96 kvs (Sum.inl i)).isSome=true↔∃ q,(q,Ent.fil i)∈es++[(p,e)])->(∀ q∈kvs,∃ i:Int,q.1=Sum.inl i) ->
   m.length<=1+(es++[(p,e)]).length->kvs.length<=(es++[(p,e)]).length->Q (.bl true) H2:=fun m kvs H2 k3 hm2 hn2 hM hNn hNK ml nl=>by
   have nx:∀ c,c≠b.am->c≠b.an->c∉[b.am,b.an]:=fun c h1 h2=>by simp[h1,h2]
   have tk3:Tk HX H2:=k3.tk fun a ha=>by
    simp only[BZ,lN,or_false] at ha;rcases ha with rfl | rfl
    ·exact b01 gm
    ·exact fun ys q=>by rw[gn] at q;cases q
   refine k ⟨a59 "last_path" (.ref pa) d.fs,pa,d.xs++[V.ref t],d.ys,m,d.o,kvs⟩ H2 ?_ (k2.trans (k3.mono fun a ha=>by
    simp only[BZ,lN,or_false] at ha;rcases ha with rfl | rfl <;> simp[RB.all]))
   refine⟨k3 _ _ g1 (nx _ (Ne.symm nrm) (Ne.symm nrn)),⟨fl.f1,fl.f2,fl.f3,fl.f4,fl.f5,fl.f6,fl.m1,fl.m2,fl.m3,fl.m4,fl.m5,fl.fl⟩,k3 _ _ g2 (nx _ (Ne.symm nme) (Ne.symm nne)),k3 _ _ gf (nx _ (a60 gf gm) (b06 gf gn (fun z=>nomatch z))),?_,hm2,k3 _ _ go (nx _ (Ne.symm R.nmo) (b06 go gn (fun z=>nomatch z))),hn2,R.nef,R.nmo,?_,PairsV.tk (tk.trans tk3) R1.Pp,hM,R.O,hNn,hNK,ml,R.ol,nl⟩
   ·rw[c66];exact tk3 _ _ hpaX
   ·exact Paired.snoc (EntsV.tk (tk.trans tk3) R1.E) (EntV.tk tk3 hvX)
  have ma:∀ {q:List Str×Ent},q∈es++[(p,e)]↔q∈es∨q=(p,e):=fun {q}=>by rw[Bq,Ax]
  have len1:(es++[(p,e)]).length=es.length+1:=by rw[Bj];rfl
  cases e with
  | gone =>
   refine⟨_,rfl,t,_,_,_,rfl,rfl,SqT.of htX,b09 (v:=V.str "gone") (by decide) ht1,rfl,_,rfl,?_⟩;refine a50 (fun q=>absurd q (by decide +kernel)) (fun _=>?_);refine⟨_,rfl,t,_,_,_,rfl,rfl,SqT.of htX,b09 (v:=V.str "gone") (by decide) ht1,rfl,_,rfl,?_⟩;refine a50 (fun q=>absurd q (by decide +kernel)) (fun _=>?_);refine fin d.m d.kvs HX (Kp.refl _ _) gm gn (fun zs=>?_) (fun i=>?_) R.NK (by have:=R.ml;omega) (by have:=R.nl;omega)
   ·rw[R.M zs];constructor
    ·rintro(h | ⟨o,h⟩)
     ·exact .inl h
     ·exact .inr ⟨o,ma.mpr (.inl h)⟩
    ·rintro(h | ⟨o,h⟩)
     ·exact .inl h
     ·rcases ma.mp h with h | h
      ·exact .inr ⟨o,h⟩
      ·cases h
   ·rw[R.N i];constructor
    ·rintro⟨q,h⟩;exact⟨q,ma.mpr (.inl h)⟩
    ·rintro⟨q,h⟩;rcases ma.mp h with h | h
     ·exact⟨q,h⟩
     ·cases h
  | fil i =>
   refine⟨_,rfl,t,_,_,_,rfl,rfl,SqT.of htX,b09 (v:=V.str "file") (by decide) ht1,rfl,_,rfl,?_⟩;refine a50 (fun q=>absurd q (by decide +kernel)) (fun _=>?_);refine⟨_,rfl,t,_,_,_,rfl,rfl,SqT.of htX,b09 (v:=V.str "file") (by decide) ht1,rfl,_,rfl,?_⟩;refine a50 (fun _=>?_) (fun q=>absurd (by decide +kernel) q);have htl:tl=[.str "file", .int i]:=by
    have z:=ht.symm.trans (show H t=some (.tup [.ref pa,.str "file", .int i]) from hk);injection z with z
    injection z with z
    injection z
   refine⟨_,rfl,r,C,b.dx,_,_,rfl,g1,T.cl,T.nN,fl.f6,_,rfl,t,_,_,_,rfl,rfl,SqT.of htX,b09 (v:=V.int i) (by decide) (by rw[htl];rfl),b.an,_,rfl,DPut.k (k:=Sum.inl i) gn (by have:=R.nl;rw[sizeLine_eq];omega),?_⟩;have nmn:b.am≠b.an:=b06 gm gn (fun z=>nomatch z);refine fin d.m (b18 d.kvs (Sum.inl i) (.bl true)) _ ((Kp.refl _ _).set (by simp)) (by rw[a07 nmn];exact gm) a01 (fun zs=>?_) (fun j=>?_) (fun q hq=>?_) (by have:=R.ml;omega) (by have:=a92 d.kvs (Sum.inl i) (V.bl true);have:=R.nl;omega)
   ·rw[R.M zs];constructor
    ·rintro(h | ⟨o,h⟩)
     ·exact .inl h
     ·exact .inr ⟨o,ma.mpr (.inl h)⟩
    ·rintro(h | ⟨o,h⟩)
     ·exact .inl h
     ·rcases ma.mp h with h | h
      ·exact .inr ⟨o,h⟩
      ·cases h
   ·rw[b77];by_cases ej:j=i
    ·subst ej;rw[if_pos rfl];exact⟨fun _=>⟨p,ma.mpr (.inr rfl)⟩,fun _=>rfl⟩
    ·rw[if_neg (fun z=>ej (by injection z)),R.N j];constructor
     ·rintro⟨q,h⟩;exact⟨q,ma.mpr (.inl h)⟩
     ·rintro⟨q,h⟩;rcases ma.mp h with h | h
      ·exact⟨q,h⟩
      ·injection h with _ h
       injection h with h
       exact absurd h ej
   ·unfold b18 at hq;split at hq
    ·obtain⟨u,hu',rfl⟩:=Ex.mp hq;obtain⟨j,hj⟩:=R.NK u hu';refine⟨j,?_⟩;by_cases z:u.1=Sum.inl i
     ·rw[if_pos z];exact hj
     ·rw[if_neg z];exact hj
    ·rcases Bq.mp hq with z | z
     ·exact R.NK q z
     ·rw[Ax.mp z];exact⟨i,rfl⟩
  | dir o =>
   refine⟨_,rfl,t,_,_,_,rfl,rfl,SqT.of htX,b09 (v:=V.str "folder") (by decide) ht1,rfl,_,rfl,?_⟩;refine a50 (fun _=>?_) (fun q=>absurd (by decide +kernel) q);refine⟨_,rfl,r,C,b.dx,_,_,rfl,g1,T.cl,T.nP,fl.f4,_,rfl,b.am,_,rfl,h92 (m:=d.m) (zs:=p) gm hpaX (by have:=R.ml;rw[sizeLine_eq];omega),?_⟩;have ntm:t≠b.am:=b06 htX gm (fun z=>nomatch z);have htY:(upd HX b.am (dP (b18 d.m p (V.bl true)))) t=some (.tup (V.ref pa::tl)):=by rw[a07 ntm];exact htX
   refine⟨_,rfl,t,_,_,_,rfl,rfl,SqT.of htY,b09 (v:=V.str "folder") (by decide) ht1,rfl,_,rfl,?_⟩;refine a50 (fun q=>absurd q (by decide +kernel)) (fun _=>?_);have nmn:b.an≠b.am:=b06 gn gm (fun z=>nomatch z);refine fin (b18 d.m p (.bl true)) d.kvs _ ((Kp.refl _ _).set (by simp)) a01 (by rw[a07 nmn];exact gn) (fun zs=>?_) (fun i=>?_) R.NK (by have:=a92 d.m p (V.bl true);have:=R.ml;omega) (by have:=R.nl;omega)
   ·rw[b77];by_cases ez:zs=p
    ·subst ez;rw[if_pos rfl];exact⟨fun _=>.inr ⟨o,ma.mpr (.inr rfl)⟩,fun _=>rfl⟩
    ·rw[if_neg ez,R.M zs];constructor
     ·rintro(h | ⟨o',h⟩)
      ·exact .inl h
      ·exact .inr ⟨o',ma.mpr (.inl h)⟩
     ·rintro(h | ⟨o',h⟩)
      ·exact .inl h
      ·rcases ma.mp h with h | h
       ·exact .inr ⟨o',h⟩
       ·injection h with h _
        exact absurd h ez
   ·rw[R.N i];constructor
    ·rintro⟨q,h⟩;exact⟨q,ma.mpr (.inl h)⟩
    ·rintro⟨q,h⟩;rcases ma.mp h with h | h
     ·exact⟨q,h⟩
     ·cases h
end
def e27 (C:Addr):Sp:=fun vs H Q _=>∃(r:Addr)(b:RB)(d:RD) (es:List (List Str×Ent)) (ps:List Pr) (v:V) (x:List Str×Ent),vs=[.ref r,v]/\RdOk C H r b d es ps/\EntV H v x.1 x.2/\es.length<=400 /\
 (c96 es x->ps=[]->∀ d' H',RdOk C H' r b d' (es++[x]) []->Kp (b.all r) H H'->Q (.bl true) H')/\(¬(c96 es x/\ps=[])->∀ H',Same H H'->Q (.bl false) H')
def e38 (C:Addr):Sp:=fun vs H Q _=>∃(r:Addr)(b:RB)(d:RD) (es:List (List Str×Ent)) (ps:List Pr) (v:V)(x:Pr),vs=[.ref r,v]/\RdOk C H r b d es ps/\PairV H v x/\ps.length<=200 /\
 (c52 ps x->∀ d' H',RdOk C H' r b d' es (ps++[x])->Kp (b.all r) H H'->Q (.bl true) H')/\(¬ c52 ps x->∀ H',Same H H'->Q (.bl false) H')
inductive Stp (es:List (List Str×Ent)) (ps:List Pr) (z:Str):List (List Str×Ent)->List Pr->Prop
 | ent {x}:b20 z=none->b87 (Txt.split z " ")=some x->c96 es x->ps=[]->Stp es ps z (es++[x]) []
 | pr {x}:b20 z=some x->c52 ps x->Stp es ps z es (ps++[x])
def e33 (C:Addr):Sp:=fun vs H Q _=>∃(r:Addr)(b:RB)(d:RD) (es:List (List Str×Ent)) (ps:List Pr) (z:Str),vs=[.ref r,.str z]/\RdOk C H r b d es ps/\z.length<=1000000/\es.length<=400/\ps.length<=200 /\
 (∀ es' ps',Stp es ps z es' ps'->∀ d' H',RdOk C H' r b d' es' ps'->Kp (b.all r) H H'->Q (.bl true) H')/\((∀ es' ps',¬ Stp es ps z es' ps')->∀ H',Kp (b.all r) H H'->Q (.bl false) H')
def f47 (es:List (List Str×Ent)) (ps:List Pr):Prop:=(∀(j:Nat) y,ps[j]?=some (none,y)->∃ p,(p,Ent.fil j)∈es)/\(∀ p i,(p,Ent.fil i)∈es->i < (ps.length:Int))
def e12 (C:Addr):Sp:=fun vs H Q _=>∃(r:Addr)(b:RB)(d:RD) (es:List (List Str×Ent)) (ps:List Pr),vs=[.ref r]/\RdOk C H r b d es ps/\ps.length<=200/\es.length<=400 /\
 (f47 es ps->∀ H',Kp [b.an] H H'->Q (.bl true) H')/\(¬ f47 es ps->∀ H',Kp [b.an] H H'->Q (.bl false) H')
def h39 (C:Addr):Sp:=fun vs H Q _=>∃(x dx:Addr),vs=[.ref x]/\H x=some (.ins C dx [])/\∀(b:RB)(d:RD)(H':Hp),RdOk C H' x b d [] []->(∀ c∈b.all x,c≠x->H c=none)->Kp [x] H H'->Q .non H'
theorem d45 {H H1:Hp}{x p:Addr}{ox o o2:HO}(hx:H1 x=some ox)(hp:H1 p=none):(upd (upd H1 p o) x o2) x=some o2/\(upd (upd H1 p o) x o2) p=some o/\(∀ c u,H1 c=some u->c≠x->(upd (upd H1 p o) x o2) c=some u):=by
 have n:x≠p:=a04 hx hp;refine⟨a01,by rw[a07 (Ne.symm n),a01],fun c u h hc=>?_⟩;rw[a07 hc,a07 (a04 h hp)];exact h
theorem g03 {X:Cx}{K:WFr}{e:Expr}{f:Str}{pos:Pos}{ta:TE}(hK:X.K=K)(he:PE X e ta)(hb:attributeBase e f X.env (eval e X.env)=eval e X.env):PE X (.Attribute e f pos) (tFld K ta f):=by
 rw[← hK];exact a74 he hb
theorem e88 {X:Cx}:b25 X (.builtin "len") (fun xs H Q=>∃ p ys,xs=[.ref p]/\H p=some (.lst ys)/\Q (.int ys.length) H):=by
 intro pins s σ H xs us Q I r h;obtain⟨p,ys,e,hp,q⟩:=h;exact a36 pins s σ H xs us Q I r ⟨p,ys,e,.inl (SqL.of hp),q⟩
section
variable {C:Addr}
theorem g53 {f:Addr}{fd:FD}{tm:Tok}(F:Fun K "took_entry" "Reader.took_entry" b43 f fd)(T:Txt K C)(mLen:mg "len" = none)(mM:mg "MOST_ROWS" = some (.int 400 tm))(DP:Def P w K mg base 1 "parent_of" ["path"] c25):FnOk P w K mg base CX0 2 f fd ["self", "entry"]
 (fun vs H Q _=>∃(r:Addr)(b:RB)(d:RD) (es:List (List Str×Ent)) (ps:List Pr) (v:V) (x:List Str×Ent),vs=[.ref r,v]/\RdOk C H r b d es ps/\EntV H v x.1 x.2/\es.length<=400/\¬(c96 es x/\ps=[])/\∀ H',Same H H'->Q (.bl false) H'):=by
 refine F.ok scTookE (fun vs H Q E h=>?_) (fun cdv A outer s H vs Q E hr h=>?_)
 ·obtain⟨r,b,d,es,ps,v,x,rfl,_⟩:=h;rfl
 ·obtain⟨r,b,d,es,ps,v,x,rfl,R,hv,h400,hN,k⟩:=h;have nd:=scTookE.nd;have hu:=c23 hr;refine⟨_,a03 (a43 2 nd (a45 a53 (pv 1) a05))
   (a03 (a46 (PW.pt (a94 (a08 a58 (a09 a36 (by rfl) mLen bLn (a00 (a74 (pv 0) rfl) a02)) (a66 (v:=.int 400) rfl mM ⟨tm,rfl⟩) (a38 _)) (a79 (a08 b92 (a09 a36 (by rfl) mLen bLn (a00 (a74 (pv 0) rfl) a02)) a05 (a38 _))))) (a06 (a40 b08)) a39)
   (a03 (a46 (PW.pt (a94 (a08 (h36 hr.units0) (pv 2) (a74 (pv 0) rfl) (a38 _)) (a79 (a86 (b78 hu (a42 DP hr (a00 (pv 2) a02)) (a74 (pv 0) rfl)))))) (a06 (a40 b08)) a39)
   (a03 (a81 (a77 pLQ PySem.F.slot_list_append PySem.F.type_list_append a87 (a74 (pv 0) rfl) (a00 (pv 1) a02)))
   (a03 (c20 (pv 0) (pv 2) rfl)
   (a03 (a46 (a08 a58 (a45 a53 (pv 1) a05) a37 (a38 _)) (a06 (b13 hu (a74 (pv 0) rfl) (pv 2) b08 rfl)) a39)
   (a03 (a46 (a08 a58 (a45 a53 (pv 1) a05) a37 (a38 _)) (a06 (b13 hu (a74 (pv 0) rfl) (a45 a53 (pv 1) a05) b08 rfl)) a39)
   (a06 (a40 b08)))))))),?_⟩
  obtain⟨p,e⟩:=x;obtain⟨t,pa,rfl,hpa,hk⟩:=id hv;have le:d.xs.length=es.length:=Paired.length R.E;have lf:d.ys.length=ps.length:=Paired.length R.Pp;obtain⟨tl,ht⟩:∃ tl,H t=some (.tup (V.ref pa::tl)):=by
   cases e with
   | gone=>exact⟨_,hk⟩
   | fil i=>exact⟨_,hk⟩
   | dir o=>obtain⟨ww,_,h4⟩:=hk;exact⟨_,h4⟩
  refine⟨_,rfl,t,_,_,_,rfl,rfl,SqT.of ht,b09 (v:=V.ref pa) (by decide) rfl,?_⟩;refine⟨_,rfl,r,C,b.dx,_,_,rfl,R.hr,T.cl,T.nE,R.F.f1,b.ae,_,rfl,.inl (SqL.of R.he),rfl,_,rfl,?_⟩;refine a50 (fun _=>a78 (k H (Same.refl H))) (fun q1=>?_);have l1:es.length < 400:=by
   rcases Nat.lt_or_ge es.length 400 with z | z
   ·exact z
   ·exact absurd (Az (by rw[le,Nat.le_antisymm h400 z];rfl)) q1
  refine⟨_,rfl,r,C,b.dx,_,_,rfl,R.hr,T.cl,T.nF,R.F.f2,b.af,_,rfl,.inl (SqL.of R.hf),_,_,rfl,rfl,_,rfl,?_⟩;refine a50 (fun _=>k H (Same.refl H)) (fun q2=>?_);have l2:ps=[]:=by
   cases ps with
   | nil=>rfl
   | cons a l=>exact absurd (Az (by rw[lf,Cq];lia)) q2
  refine⟨_,rfl,_,rfl,r,C,b.dx,_,_,rfl,R.hr,T.cl,T.nL,R.F.f3,pa,d.al,p,d12 es,rfl,rfl,SqT.of hpa,SqT.of R.hl,_,rfl,?_⟩;rw[c92];cases q3:Srt.lexB (d12 es) p with
  | false=>exact a78 (a78 (k H (Same.refl H)))
  | true =>
   refine a76 ?_;refine⟨_,rfl,pa,p,rfl,hpa,fun tp H1 htp s1=>?_⟩;have R1:=R.same s1;refine⟨_,rfl,r,C,b.dx,_,_,rfl,R1.hr,T.cl,T.nP,R.F.f4,b.am,_,rfl,i17 R1.hm htp,_,rfl,?_⟩;have hin:(a96 d.m p.dropLast).isSome=false:=by
    cases q4:(a96 d.m p.dropLast).isSome with
    | false=>rfl
    | true=>exact absurd ⟨⟨q3,l1,(R.M _).mp q4⟩,l2⟩ hN
   rw[hin];exact a78 (k H1 s1)
theorem g51 {f:Addr}{fd:FD}{tm:Tok}(F:Fun K "took_pair" "Reader.took_pair" b88 f fd)(T:Txt K C)(mLen:mg "len" = none)(mM:mg "MOST_FILES" = some (.int 200 tm)):FnOk P w K mg base CX0 1 f fd ["self", "pair"]
 (fun vs H Q _=>∃(r:Addr)(b:RB)(d:RD) (es:List (List Str×Ent)) (ps:List Pr) (v:V)(x:Pr),vs=[.ref r,v]/\RdOk C H r b d es ps/\PairV H v x/\ps.length<=200/\¬ c52 ps x/\∀ H',Same H H'->Q (.bl false) H'):=by
 refine F.ok scTookP (fun vs H Q E h=>?_) (fun cdv A outer s H vs Q E hr h=>?_)
 ·obtain⟨r,b,d,es,ps,v,x,rfl,_⟩:=h;rfl
 ·obtain⟨r,b,d,es,ps,v,x,rfl,R,hv,h200,hN,k⟩:=h;have nd:=scTookP.nd;have hu:=c23 hr;refine⟨_,a03 (a43 2 nd (a45 a53 (pv 1) a05))
   (a03 (a46 (PW.pt (a94 (a08 a58 (a09 a36 (by rfl) mLen bLn (a00 (a74 (pv 0) rfl) a02)) (a66 (v:=.int 200) rfl mM ⟨tm,rfl⟩) (a38 _)) (a79 (a86 (f37 hu (pv 2) (a74 (pv 0) rfl)))))) (a06 (a40 b08)) a39)
   (a03 (a81 (a77 pLQ PySem.F.slot_list_append PySem.F.type_list_append a87 (a74 (pv 0) rfl) (a00 (pv 1) a02)))
   (a03 (a46 (a86 (b68 (pv 2))) (a06 (b13 hu (a74 (pv 0) rfl) (pv 2) b08 rfl)) a39)
   (a06 (a40 b08))))),?_⟩
  obtain⟨t,ww,y,rfl,ho,hy,ht⟩:=id hv;have lq:d.ys.length=ps.length:=Paired.length R.Pp;refine⟨_,rfl,t,_,_,_,rfl,rfl,SqT.of ht,rfl,?_⟩;refine⟨_,rfl,r,C,b.dx,_,_,rfl,R.hr,T.cl,T.nF,R.F.f2,b.af,_,rfl,.inl (SqL.of R.hf),rfl,_,rfl,?_⟩;refine a50 (fun _=>a78 (k H (Same.refl H))) (fun q1=>?_);have l1:ps.length < 200:=by
   rcases Nat.lt_or_ge ps.length 200 with z | z
   ·exact z
   ·exact absurd (Az (by rw[lq,Nat.le_antisymm h200 z];rfl)) q1
  refine⟨_,rfl,_,rfl,r,C,b.dx,_,_,rfl,R.hr,T.cl,T.nO,R.F.f5,b.ao,d.o,x.1,rfl,R.ho,ho,_,rfl,?_⟩;have hin:inO d.o x.1=true:=by
   cases q:x.1 with
   | none=>exact absurd ⟨l1,fun p _ _=>q⟩ hN
   | some zs =>
    show(a96 d.o zs).isSome=true;refine(R.O zs).mpr (Classical.byContradiction fun z=>hN ⟨l1,fun p hp e=>absurd ⟨p,hp,by rw[e,q]⟩ z⟩)
  rw[hin];exact a78 (k H (Same.refl H))
theorem scTookR:FnScope ["self", "row", "pair", "entry"] ["self", "row"] (a41 c89):=.of
theorem h16 {f:Addr}{fd:FD}(F:Fun K "took_row" "Reader.took_row" c89 f fd)(T:Txt K C)(DP:Def P w K mg base 4 "pair_in" ["row"] d03)(DE:Def P w K mg base 5 "entry_in" ["row"] d80)
 (MP:DefM P w K mg base 1 C "took_pair" ["self", "pair"] (e38 C))(ME:DefM P w K mg base 2 C "took_entry" ["self", "entry"] (e27 C)):FnOk P w K mg base CX0 6 f fd ["self", "row"] (e33 C):=by
 refine F.ok scTookR (fun vs H Q E h=>?_) (fun cdv A outer s H vs Q E hr h=>?_)
 ·obtain⟨r,b,d,es,ps,z,rfl,_⟩:=h;rfl
 ·obtain⟨r,b,d,es,ps,z,rfl,R,hz,he,hp,k1,k2⟩:=h;have nd:=scTookR.nd;have hr4:Room 4 _:=hr.mono (by decide);have hr1:Room 1 _:=hr.mono (by decide);have hr2:Room 2 _:=hr.mono (by decide);refine⟨_,a03 (a43 2 nd (a42 DP hr4 (a00 (pv 1) a02)))
   (a03 (a46 (a86 (b68 (pv 2))) (a06 (a40 (e89 MP T.cl hr1 (pv 0) (a00 (pv 2) a02)))) a39)
   (a03 (a43 3 nd (a42 DE hr (a00 (pv 1) a02)))
   (a06 (a40 (b61 (g29 (b68 (pv 3))) (b59 (e89 ME T.cl hr2 (pv 0) (a00 (pv 3) a02)))))))),?_⟩
  refine⟨_,rfl,z,rfl,hz,fun x ex v H1 hv s1=>?_,fun ex H1 s1=>?_⟩
  ·have R1:=R.same s1;obtain⟨t,ww,y,rfl,_⟩:=id hv;refine⟨_,rfl,_,rfl,a78 ?_⟩;refine⟨_,rfl,r,b.dx,_,rfl,R1.hr,R1.F.m3,_,rfl,r,b,d,es,ps,_,x,rfl,R1,hv,hp,fun hN d' H3 R3 k3=>?_,fun hN H3 s3=>?_⟩
   ·exact k1 _ _ (.pr ex hN) d' H3 R3 ((Kp.of s1).trans k3)
   ·refine k2 (fun es' ps' q=>?_) H3 (Kp.of (s1.trans s3));cases q with
    | ent h _ _ _=>rw[ex] at h;cases h
    | pr h h'=>rw[ex] at h;cases h;exact hN h'
  ·refine⟨_,rfl,_,rfl,a76 ?_⟩;refine⟨_,rfl,z,rfl,hz,fun x ee v H2 hv s2=>?_,fun ee H2 s2=>?_⟩
   ·have R2:=R.same (s1.trans s2);obtain⟨t,pa,rfl,_⟩:=id hv;refine⟨_,rfl,_,rfl,a78 ?_⟩;refine⟨_,rfl,r,b.dx,_,rfl,R2.hr,R2.F.m2,_,rfl,r,b,d,es,ps,_,x,rfl,R2,hv,he,fun hN hp0 d' H3 R3 k3=>?_,fun hN H3 s3=>?_⟩
    ·exact k1 _ _ (.ent ex ee hN hp0) d' H3 R3 ((Kp.of (s1.trans s2)).trans k3)
    ·refine k2 (fun es' ps' q=>?_) H3 (Kp.of (s1.trans (s2.trans s3)));cases q with
     | ent _ h h' h''=>rw[ee] at h;cases h;exact hN ⟨h',h''⟩
     | pr h _=>rw[ex] at h;cases h
   ·refine⟨_,rfl,_,rfl,a76 (k2 (fun es' ps' q=>?_) H2 (Kp.of (s1.trans s2)))⟩;cases q with
    | ent _ h _ _=>rw[ee] at h;cases h
    | pr h _=>rw[ex] at h;cases h
theorem scWhole:FnScope ["self", "homeless"] ["self"] (a41 c97):=.of
theorem i05:FnScope ["self"] ["self"] (a41 g20):=.of
theorem g59 {f:Addr}{fd:FD}(F:Fun K "__init__" "Reader.__init__" g20 f fd)(T:Txt K C):FnOk P w K mg base CX0 1 f fd ["self"] (h39 C):=by
 refine F.ok i05 (fun vs H Q E h=>?_) (fun cdv A outer s H vs Q E hr h=>?_)
 ·obtain⟨x,dx,rfl,_⟩:=h;rfl
 ·obtain⟨x,dx,rfl,hx,k⟩:=h;have hu:=c23 hr;refine⟨_,a03 (c20 (pv 0) (a56 a02) rfl) (a03 (c20 (pv 0) (a56 a02) rfl) (a03 (c20 (pv 0) (a52 a02) rfl) (a03 (c20 (pv 0) (e61 hu (a52 a02) b08) rfl) (a03 (c20 (pv 0) e21 rfl) (a06 (c20 (pv 0) g89 rfl)))))),?_⟩;have len:∀(fs:List (Str×V)) (f:Str) (v:V) (n:Nat),fs.length<=n->(a59 f v fs).length<=n+1:=fun fs f v n h=>by have:=b73 f v fs;lia
  have l0:([]:List (Str×V)).length<=0:=AZ _;refine⟨by show 0<=zL;decide,fun p1 hp1=>⟨_,rfl,x,C,dx,_,rfl,by rw[a07 (a04 hx hp1)];exact hx,T.cl,T.nE,by show 0 < 1000;decide,?_⟩⟩;obtain⟨x1,a1,o1⟩:=d45 (H:=H) (o:=.lst []) (o2:=.ins C dx (a59 "entries" (.ref p1) [])) hx hp1;have l1:=len _ "entries" (.ref p1) _ l0;have K1:Kp [x] H (upd (upd H p1 (.lst [])) x (.ins C dx (a59 "entries" (.ref p1) []))):=((Kp.refl _ H).new hp1).set (by simp)
  generalize (upd (upd H p1 (.lst [])) x (.ins C dx (a59 "entries" (.ref p1) [])))=H1 at x1 a1 o1 K1 ⊢;refine⟨by show 0<=zL;decide,fun p2 hp2=>⟨_,rfl,x,C,dx,_,rfl,by rw[a07 (a04 x1 hp2)];exact x1,T.cl,T.nF,by lia,?_⟩⟩;obtain⟨x2,a2,o2⟩:=d45 (H:=H) (o:=.lst []) (o2:=.ins C dx (a59 "files" (.ref p2) (a59 "entries" (.ref p1) []))) x1 hp2;have l2:=len _ "files" (.ref p2) _ l1;have K2:Kp [x] H (upd (upd H1 p2 (.lst [])) x (.ins C dx (a59 "files" (.ref p2) (a59 "entries" (.ref p1) [])))):=(K1.new hp2).set (by simp)
  have n1x:p1≠x:=a04 hx hp1 |>.symm;have b1:=o2 p1 _ a1 n1x;generalize (upd (upd H1 p2 (.lst [])) x (.ins C dx (a59 "files" (.ref p2) (a59 "entries" (.ref p1) []))))=H2 at x2 a2 o2 K2 b1 ⊢;have n2x:p2≠x:=a04 x1 hp2 |>.symm;refine⟨by show 0<=zL;decide,fun p3 hp3=>⟨_,rfl,x,C,dx,_,rfl,by rw[a07 (a04 x2 hp3)];exact x2,T.cl,T.nL,by lia,?_⟩⟩;obtain⟨x3,a3,o3⟩:=d45 (H:=H) (o:=.tup []) (o2:=.ins C dx (a59 "last_path" (.ref p3) (a59 "files" (.ref p2) (a59 "entries" (.ref p1) [])))) x2 hp3;have l3:=len _ "last_path" (.ref p3) _ l2;have K3:Kp [x] H (upd (upd H2 p3 (.tup [])) x (.ins C dx (a59 "last_path" (.ref p3) (a59 "files" (.ref p2) (a59 "entries" (.ref p1) []))))):=(K2.new hp3).set (by simp)
  have c1:=o3 p1 _ b1 n1x;have c2:=o3 p2 _ a2 n2x;generalize (upd (upd H2 p3 (.tup [])) x (.ins C dx (a59 "last_path" (.ref p3) (a59 "files" (.ref p2) (a59 "entries" (.ref p1) [])))))=H3 at x3 a3 o3 K3 c1 c2 ⊢;have n3x:p3≠x:=a04 x2 hp3 |>.symm;intro p4 hp4;refine⟨by show 0<=zL;decide,fun q4 hq4=>⟨q4,[],rfl,a01,by rw[a07 (a04 (H:=upd H3 p4 (dP [])) a01 hq4),a01],?_⟩⟩;have nq:q4≠p4:=(a04 (H:=upd H3 p4 (dP [])) a01 hq4).symm;have hq3:H3 q4=none:=by rw[a07 nq] at hq4;exact hq4
  have xq:(upd (upd H3 p4 (dP [])) q4 (.tup [])) x=some (.ins C dx (a59 "last_path" (.ref p3) (a59 "files" (.ref p2) (a59 "entries" (.ref p1) [])))):=by rw[a07 (a04 x3 hq3),a07 (a04 x3 hp4)];exact x3
  have xq2:(upd (upd (upd H3 p4 (dP [])) q4 (.tup [])) p4 (dP [([],V.bl true)])) x=some (.ins C dx (a59 "last_path" (.ref p3) (a59 "files" (.ref p2) (a59 "entries" (.ref p1) [])))):=by rw[a07 (a04 x3 hp4)];exact xq
  have n4x:p4≠x:=a04 x3 hp4 |>.symm;refine⟨_,rfl,x,C,dx,_,rfl,xq2,T.cl,T.nP,by lia,?_⟩;have l4:=len _ "folder_paths" (.ref p4) _ l3;have K4:Kp [x] H (upd (upd (upd (upd H3 p4 (dP [])) q4 (.tup [])) p4 (dP [([],V.bl true)])) x (.ins C dx (a59 "folder_paths" (.ref p4) (a59 "last_path" (.ref p3) (a59 "files" (.ref p2) (a59 "entries" (.ref p1) [])))))):=by
   intro c u hc hn;have h3:=K3 c u hc hn;rw[a07 (fun z=>hn (by simp[z])),a07 (a04 h3 hp4),a07 (a04 h3 hq3),a07 (a04 h3 hp4)];exact h3
  have o4:∀ c u,H3 c=some u->c≠x->(upd (upd (upd (upd H3 p4 (dP [])) q4 (.tup [])) p4 (dP [([],V.bl true)])) x (.ins C dx (a59 "folder_paths" (.ref p4) (a59 "last_path" (.ref p3) (a59 "files" (.ref p2) (a59 "entries" (.ref p1) [])))))) c=some u:=fun c u h3 hc=>by
   rw[a07 hc,a07 (a04 h3 hp4),a07 (a04 h3 hq3),a07 (a04 h3 hp4)];exact h3
  have x4:(upd (upd (upd (upd H3 p4 (dP [])) q4 (.tup [])) p4 (dP [([],V.bl true)])) x (.ins C dx (a59 "folder_paths" (.ref p4) (a59 "last_path" (.ref p3) (a59 "files" (.ref p2) (a59 "entries" (.ref p1) [])))))) x=some (.ins C dx (a59 "folder_paths" (.ref p4) (a59 "last_path" (.ref p3) (a59 "files" (.ref p2) (a59 "entries" (.ref p1) []))))):=a01;have a4:(upd (upd (upd (upd H3 p4 (dP [])) q4 (.tup [])) p4 (dP [([],V.bl true)])) x (.ins C dx (a59 "folder_paths" (.ref p4) (a59 "last_path" (.ref p3) (a59 "files" (.ref p2) (a59 "entries" (.ref p1) [])))))) p4=some (dP [([],V.bl true)]):=by rw[a07 n4x,a01]
  have d1:=o4 p1 _ c1 n1x;have d2:=o4 p2 _ c2 n2x;have d3:=o4 p3 _ a3 n3x;generalize (upd (upd (upd (upd H3 p4 (dP [])) q4 (.tup [])) p4 (dP [([],V.bl true)])) x (.ins C dx (a59 "folder_paths" (.ref p4) (a59 "last_path" (.ref p3) (a59 "files" (.ref p2) (a59 "entries" (.ref p1) []))))))=H4 at K4 o4 x4 a4 d1 d2 d3 ⊢;intro p5 hp5;refine⟨_,rfl,x,C,dx,_,rfl,by rw[a07 (a04 x4 hp5)];exact x4,T.cl,T.nO,by lia,?_⟩;obtain⟨x5,a5,o5⟩:=d45 (H:=H) (o:=.dT []) (o2:=.ins C dx (a59 "origins" (.ref p5) (a59 "folder_paths" (.ref p4) (a59 "last_path" (.ref p3) (a59 "files" (.ref p2) (a59 "entries" (.ref p1) [])))))) x4 hp5;have l5:=len _ "origins" (.ref p5) _ l4;have K5:Kp [x] H (upd (upd H4 p5 (.dT [])) x (.ins C dx (a59 "origins" (.ref p5) (a59 "folder_paths" (.ref p4) (a59 "last_path" (.ref p3) (a59 "files" (.ref p2) (a59 "entries" (.ref p1) []))))))):=(K4.new hp5).set (by simp)
  have e1:=o5 p1 _ d1 n1x;have e2:=o5 p2 _ d2 n2x;have e3:=o5 p3 _ d3 n3x;have e4:=o5 p4 _ a4 n4x;generalize (upd (upd H4 p5 (.dT [])) x (.ins C dx (a59 "origins" (.ref p5) (a59 "folder_paths" (.ref p4) (a59 "last_path" (.ref p3) (a59 "files" (.ref p2) (a59 "entries" (.ref p1) [])))))))=H5 at x5 a5 o5 K5 e1 e2 e3 e4 ⊢;have n5x:p5≠x:=a04 x4 hp5 |>.symm;intro p6 hp6;refine⟨_,rfl,x,C,dx,_,rfl,by rw[a07 (a04 x5 hp6)];exact x5,T.cl,T.nN,by lia,?_⟩;obtain⟨x6,a6,o6⟩:=d45 (H:=H) (o:=.dK []) (o2:=.ins C dx (a59 "numbers" (.ref p6) (a59 "origins" (.ref p5) (a59 "folder_paths" (.ref p4) (a59 "last_path" (.ref p3) (a59 "files" (.ref p2) (a59 "entries" (.ref p1) []))))))) x5 hp6;have l6:=len _ "numbers" (.ref p6) _ l5;have K6:Kp [x] H (upd (upd H5 p6 (.dK [])) x (.ins C dx (a59 "numbers" (.ref p6) (a59 "origins" (.ref p5) (a59 "folder_paths" (.ref p4) (a59 "last_path" (.ref p3) (a59 "files" (.ref p2) (a59 "entries" (.ref p1) [])))))))):=(K5.new hp6).set (by simp)
  have g1:=o6 p1 _ e1 n1x;have g2:=o6 p2 _ e2 n2x;have g3:=o6 p3 _ e3 n3x;have g4:=o6 p4 _ e4 n4x;have g5:=o6 p5 _ a5 n5x;have n6x:p6≠x:=a04 x5 hp6 |>.symm;have lk:∀(f g:Str) (v:V) (fs:List (Str×V)),g=f->(a59 f v fs).lookup g=some v:=fun f g v fs e=>by rw[b02,if_pos e]
  have ln:∀(f g:Str) (v:V) (fs:List (Str×V)),g≠f->(a59 f v fs).lookup g=fs.lookup g:=fun f g v fs e=>by rw[b02,if_neg e]
  obtain⟨fs,hfs⟩:∃ fs,fs=a59 "numbers" (.ref p6) (a59 "origins" (.ref p5) (a59 "folder_paths" (.ref p4) (a59 "last_path" (.ref p3) (a59 "files" (.ref p2) (a59 "entries" (.ref p1) []))))):=⟨_,rfl⟩;refine k ⟨dx,p1,p2,p4,p5,p6⟩ ⟨fs,p3,[],[],[([],V.bl true)],[],[]⟩ _ ⟨by rw[hfs];exact x6,?_,g1,g2,g3,g4,g5,a6,(fun z=>by
   have z':p1=p2:=z;rw[z'] at a1;exact absurd (a1.symm.trans hp2) (fun q=>nomatch q)),(fun z=>by
   have z':p4=p5:=z;rw[z'] at a4;exact absurd (a4.symm.trans hp5) (fun q=>nomatch q)),.nil,.nil,fun zs=>?_,fun zs=>?_,fun i=>?_,(fun q hq=>nomatch hq),AZ _,AZ _,AZ _⟩ ?_ K6
  ·rw[hfs];refine⟨?_,?_,?_,?_,?_,lk _ _ _ _ rfl,?_,?_,?_,?_,?_,Fz l6 (by decide)⟩
   ·exact(ln _ _ _ _ (by decide +kernel)).trans ((ln _ _ _ _ (by decide +kernel)).trans ((ln _ _ _ _ (by decide +kernel)).trans ((ln _ _ _ _ (by decide +kernel)).trans ((ln _ _ _ _ (by decide +kernel)).trans (lk _ _ _ _ rfl)))))
   ·exact(ln _ _ _ _ (by decide +kernel)).trans ((ln _ _ _ _ (by decide +kernel)).trans ((ln _ _ _ _ (by decide +kernel)).trans ((ln _ _ _ _ (by decide +kernel)).trans (lk _ _ _ _ rfl))))
   ·exact(ln _ _ _ _ (by decide +kernel)).trans ((ln _ _ _ _ (by decide +kernel)).trans ((ln _ _ _ _ (by decide +kernel)).trans (lk _ _ _ _ rfl)))
   ·exact(ln _ _ _ _ (by decide +kernel)).trans ((ln _ _ _ _ (by decide +kernel)).trans (lk _ _ _ _ rfl))
   ·exact(ln _ _ _ _ (by decide +kernel)).trans (lk _ _ _ _ rfl)
   all_goals exact(ln _ _ _ _ (by decide +kernel)).trans ((ln _ _ _ _ (by decide +kernel)).trans ((ln _ _ _ _ (by decide +kernel)).trans ((ln _ _ _ _ (by decide +kernel)).trans ((ln _ _ _ _ (by decide +kernel)).trans ((ln _ _ _ _ (by decide +kernel)).trans rfl)))))
  ·constructor
   ·intro h;by_cases e:([]:List Str)=zs
    ·exact .inl e.symm
    ·rw[a70 (p:=(([]:List Str),V.bl true)) e] at h;cases h
   ·rintro(rfl | ⟨o,h⟩)
    ·rw[a69 rfl];rfl
    ·cases h
  ·exact⟨(fun h=>nomatch h),fun⟨p,h,_⟩=>nomatch h⟩
  ·exact⟨(fun h=>nomatch h),fun⟨p,h⟩=>nomatch h⟩
  ·have back:∀ {S:List Addr}{G G':Hp}{c:Addr},Kp S G G'->c∉S->G' c=none->G c=none:=fun kk hn h=>kk.free hn h;intro c hc hx';have hn:c∉[x]:=by simpa using hx'
   simp only[RB.all,BZ,lN,or_false] at hc;rcases hc with rfl | rfl | rfl | rfl | rfl | rfl
   ·exact absurd rfl hx'
   ·exact hp1
   ·exact K1.free hn hp2
   ·exact K3.free hn hp4
   ·exact K4.free hn hp5
   ·exact K5.free hn hp6
end
theorem e54 {X:Cx}(hu:X.A.units < cLine):OpR X (compareOp .Eq) (fun x y H Q=>∃(a b:Addr) (xs:List V),x=.ref a/\y=.ref b/\SqL X.K H a xs/\SqL X.K H b []/\Q (.bl (decide (xs=[]))) H):=by
 intro pins s σ H x y v u Q I rx ry h;obtain⟨a,b,xs,rfl,rfl,ha,hb,q⟩:=h;cases (show v=Value.ref a from rx);cases (show u=Value.ref b from ry);obtain⟨its,r1,p1,_⟩:=I.list ha;obtain⟨its2,r2,p2,_⟩:=I.list hb;have l1:=r1.length;have l2:=r2.length;by_cases z:xs=[]
 ·subst z;have e0:its.toArray.size=0:=by rw[lS,← l1];rfl
  refine SeqAt.eq_listAt (e:=fun _=>true) p1.isList p2.isList (by rw[e0,lS,← l2];rfl) hu (fun j h1 _=>absurd h1 (by rw[e0];lia)) ⟨.bl true,H,I,?_,by rw[Az rfl] at q;exact q⟩;rw[e0];rfl
 ·rw[Fq z] at q;refine SeqAt.eq_list_lengthsAt p1.isList p2.isList ?_ hu ⟨.bl false,H,I,rfl,q⟩;rw[lS,lS,← l1,← l2,bne_iff_ne];exact fun e=>z (List.length_eq_zero_iff.mp e)
section
variable {C:Addr}
theorem h23 {f:Addr}{fd:FD}(F:Fun K "is_whole" "Reader.is_whole" c97 f fd)(T:Txt K C)(mLen:mg "len" = none)(mAll:mg "all" = none)(mEnum:mg "enumerate" = none):FnOk P w K mg base CX0 1 f fd ["self"] (e12 C):=by
 refine F.ok scWhole (fun vs H Q E h=>?_) (fun cdv A outer s H vs Q E hr h=>?_)
 ·obtain⟨r,b,d,es,ps,rfl,_⟩:=h;rfl
 ·obtain⟨r,b,d,es,ps,rfl,R,lps,les,k1,k2⟩:=h;have nd:=scWhole.nd;have hu:=c23 hr;refine⟨_,a03 (g91 (ix:=1) (x := "at") (y := "pair") scWhole .of (by decide +kernel) (by decide +kernel) (by decide +kernel) (by decide +kernel) rfl (Or.inl rfl)
   (c85 rfl mEnum (a00 (a74 (pv 0) rfl) a02))
   (fun C fp s H=>b96 (PW.pt (a97 (a86 (b30 (a45 (show IxR _ (h41 K) from a53) (pv 3) a05))) (a93 (a86 (b78 hu (pv 2) (g03 (K:=K) rfl (pv 0) rfl)))))))
   (fun C fp s H=>pv 2))
   (a06 (a40 (b61 (a98 (e54 hr.units0) (pv 1) (a56 a02) (a38 _))
     (b59 (a09 (b45 rfl) (by rfl) mAll PyProof.Rows.boot_all (a00 (a82 (x := "number") scWhole .of (by decide +kernel) (h54 (a74 (pv 0) rfl))
       (fun C fp s H=>a98 c58 (pv 2) (a09 e88 (by rfl) mLen bLn (a00 (g03 (K:=K) rfl (pv 0) rfl) a02)) (a38 _))) a02)))))),?_⟩
  have lq:d.ys.length=ps.length:=Paired.length R.Pp;refine⟨_,rfl,r,C,b.dx,_,_,rfl,R.hr,T.cl,T.nF,R.F.f2,b.af,rfl,⟨_,SqL.of R.hf⟩,d15 (xs:=d.ys) (fun i ys H'=>ys.length<=i/\(ys=[]↔∀(j:Nat),j < i->∀ y,ps[j]?=some (none,y)->∃ p,(p,Ent.fil j)∈es)/\Same H H') (by rw[sizeLine_eq];lia) ⟨AZ _,⟨fun _ j hj=>absurd hj (Nat.not_lt_zero j),fun _=>rfl⟩,Same.refl H⟩ (fun i ys H' ⟨e,_⟩=>e) (fun i ys H' _ ⟨_,_,s⟩=>SqL.of (s _ _ R.hf)) ?_ ?_⟩
  ·rintro i ys H' v T' hv ⟨hl,hiff,s1⟩ hT;obtain⟨x,hx,hxv⟩:=a99 R.Pp hv;obtain⟨t,ww,y,rfl,ho,hy,ht⟩:=hxv;have s2:Same H (upd H' T' (.tup [.int i,.ref t])):=s1.upd hT;have R2:=R.same s2;have skip:(∀ y,ps[i]?=some (none,y)->∃ p,(p,Ent.fil i)∈es)->ys.length<=i+1/\(ys=[]↔∀(j:Nat),j < i+1->∀ y,ps[j]?=some (none,y)->∃ p,(p,Ent.fil j)∈es)/\Same H (upd H' T' (.tup [.int i,.ref t])):=fun q=>by
    refine⟨by lia,?_,s2⟩;rw[hiff];constructor
    ·intro g j hj;by_cases z:j < i
     ·exact g j z
     ·have:j=i:=by lia
      subst this;exact q
    ·exact fun g j hj=>g j (by lia)
   refine⟨T',_,rfl,SqT.of a01,rfl,_,_,rfl,_,_,rfl,rfl,?_⟩;refine⟨_,rfl,t,_,_,_,rfl,rfl,SqT.of (s2 _ _ ht),rfl,_,rfl,?_⟩;obtain⟨o,z⟩:=x;cases o with
   | some zs =>
    obtain⟨a,rfl,_⟩:=ho;exact a76 (a76 (skip fun y e=>by rw[hx] at e;cases e))
   | none =>
    cases (show ww=.non from ho);refine a78 ⟨_,rfl,_,rfl,r,C,b.dx,_,_,rfl,R2.hr,T.cl,T.nN,R2.F.f6,b.an,_,rfl,DGet.k (k:=Sum.inl (i:Int)) R2.hn,_,rfl,?_⟩;cases q:(a96 d.kvs (Sum.inl (i:Int))).isSome with
    | true=>exact a76 (skip fun y _=>(R.N (i:Int)).mp q)
    | false =>
     refine a78 ⟨_,rfl,by rw[Bj];show ys.length+1<=i+1;lia,?_,s2⟩;constructor
     ·intro e;exact absurd (congrArg List.length e) (by simp)
     ·intro g
      have:=(R.N (i:Int)).mpr (g i (by lia) z hx)
      rw[q] at this;cases this
  ·rintro ys H1 ⟨_,hiff,s1⟩ D hD;rw[lq] at hiff;have s2:Same H (upd H1 D (.lst ys)):=s1.upd hD;have hD2:(upd H1 D (.lst ys)) D=some (.lst ys):=a01;generalize (upd H1 D (.lst ys))=H2 at s2 hD2 ⊢;refine⟨_,rfl,by show 0<=zL;decide,fun e he=>?_⟩;have s3:Same H2 (upd H2 e (.lst [])):=(Same.refl _).upd he;have hE3:(upd H2 e (.lst [])) e=some (.lst []):=a01;generalize (upd H2 e (.lst []))=H3 at s3 hE3 ⊢;refine⟨D,e,ys,rfl,rfl,SqL.of (s3 _ _ hD2),SqL.of hE3,_,rfl,?_⟩;have sH:=s2.trans s3;refine a50 (fun q=>?_) (fun q=>?_)
   ·have hA:∀(j:Nat) y,ps[j]?=some (none,y)->∃ p,(p,Ent.fil j)∈es:=fun j y e=>hiff.mp (AJ q) j (Ej.mp e).1 y e;have R3:=R.same sH;have nrn:r≠b.an:=b06 R.hr R.hn (fun z=>nomatch z);have nfn:b.af≠b.an:=b06 R.hf R.hn (fun z=>nomatch z);refine⟨_,rfl,r,C,b.dx,_,_,rfl,R3.hr,T.cl,T.nN,R3.F.f6,b.an,d.kvs,rfl,R3.hn,fun ob=>f39 (fun i ys H'=>(∃ bs:List Bool,ys=bs.map V.bl/\bs.length=i/\(bs.all id=true↔∀(j:Nat) q,j < i->d.kvs[j]?=some q->∀ n:Int,q.1=Sum.inl n->n < (ps.length:Int)))/\H'=upd H3 b.an (.frz ob (.dK d.kvs))) (by have:=R.nl;rw[sizeLine_eq];lia) ⟨⟨[],rfl,rfl,⟨fun _ j q hj=>absurd hj (Nat.not_lt_zero j),fun _=>rfl⟩⟩,rfl⟩ (fun i ys H' ⟨⟨bs,e,hb,_⟩,_⟩=>by rw[e,Aj];exact hb) (fun i ys H' _ ⟨_,e⟩=>by rw[e,a01]) ?_ ?_⟩
    ·rintro i ys' H' q' hq ⟨⟨bs,e1,hbl,hbs⟩,rfl⟩;obtain⟨j,hj⟩:=R.NK q' (BJ hq);have hrX:(upd H3 b.an (.frz ob (.dK d.kvs))) r=some (.ins C b.dx d.fs):=by rw[a07 nrn];exact R3.hr
     have hfX:(upd H3 b.an (.frz ob (.dK d.kvs))) b.af=some (.lst d.ys):=by rw[a07 nfn];exact R3.hf
     rw[hj];refine⟨_,rfl,_,rfl,r,C,b.dx,_,_,rfl,hrX,T.cl,T.nF,R.F.f2,b.af,_,rfl,hfX,_,_,rfl,rfl,⟨bs++[decide (j < (d.ys.length:Int))],by rw[e1,Bz];rfl,by rw[Bj,hbl];rfl,?_⟩,rfl⟩;rw[List.all_append,Bool.and_eq_true,hbs];simp only[List.all_cons,List.all_nil,Bool.and_true,id_eq,decide_eq_true_iff];rw[lq];constructor
     ·rintro⟨g1,g2⟩ m q2 hm e2 n en;by_cases z:m < i
      ·exact g1 m q2 z e2 n en
      ·have:m=i:=by lia
       subst this;rw[hq] at e2;cases e2;rw[hj] at en;injection en with en
       lia
     ·intro g;exact⟨fun m q2 hm=>g m q2 (by lia),g i q' (by lia) hq j hj⟩
    ·rintro ys' H' ⟨⟨bs,e1,hbl,hbs⟩,rfl⟩ D2 hD2';refine⟨D2,bs,rfl,SqL.of (by rw[a01,e1]),?_⟩;have kp:Kp [b.an] H (upd (upd H3 b.an (.frz ob (.dK d.kvs))) D2 (.lst ys')):=((Kp.of sH).set (by simp)).new hD2'
     cases w:bs.all id with
     | true =>
      refine k1 ⟨hA,fun p i hp=>?_⟩ _ kp;have hs:(a96 d.kvs (Sum.inl i)).isSome=true:=(R.N i).mpr ⟨p,hp⟩;rw[← b48,List.any_eq_true] at hs;obtain⟨q2,hq2,e2⟩:=hs;obtain⟨m,hm⟩:=List.getElem?_of_mem hq2;exact hbs.mp w m q2 (Ej.mp hm).1 hm i (AJ e2)
     | false =>
      refine k2 (fun W=>?_) _ kp
      have:bs.all id=true:=hbs.mpr fun m q2 _ e2 n en=>by
       have hs:(a96 d.kvs (Sum.inl n)).isSome=true:=by
        rw[← b48,List.any_eq_true];exact⟨q2,BJ e2,Az en⟩
       obtain⟨p,hp⟩:=(R.N n).mp hs;exact W.2 p n hp
      rw[this] at w;cases w
   ·refine k2 (fun W=>q (Az (hiff.mpr fun j _ y e=>W.1 j y e))) H3 (Kp.of sH)
end
structure DefI (P:Pm)(w:World)(K:WFr) (mg:Str->Option Value)(base:Heap) (k:Nat)(C:Addr) (x:Str)(sp:Sp):Prop where
 ex:∃ f fd,FnOk P w K mg base CX0 k f fd ["self"] sp/\Mk K C f/\mg x=some (.ref C)/\Binds K fd ["self"] []
theorem i32 {X:Cx}{k:Nat}{C:Addr}{x:Str}{sp:Sp}{p pos:Pos}(D:DefI X.prog X.w X.K X.mg X.base k C x sp)(hr:Room (k+1) X.A)(hg:Gl X x:=by rfl)(hdb:(x == ("__debug__" : Str))=false:=by decide):PE X (.Call (.Name x p) [] [] pos) (i30 C sp [] E0 i26):=by
 obtain⟨f,fd,F,M,hm,hb⟩:=D.ex;exact g87 M F hr hg hm hb .nil f99 hdb
structure Base (K:WFr)(C:Addr):Prop where
 sp:PySem.W.specialIn K (.ref C) "__getattribute__" = some (some (.builtin "type.__getattribute__"))
 rd:PySem.W.readsIn K C (.type "type")=true
 fc:PySem.W.findCls K (.ref C) (.type "type") "__init__" = some (.val (.builtin "ValueError.__init__"))
structure Bad (K:WFr)(CB B fI:Addr):Prop where
 hx:b69 K CB (some fI)=true
 hB:b69 K B none=true
 sub:subIn K CB B=true
 Y:XC K CB
 tk:PySem.W.takerIn K CB "row" = some none
 fn:PySem.W.typeIn K (.ref fI)=some (.type "function")
 kp:PySem.W.keepIn K (.ref CB)=true
 nr:wF K (.ref CB) "row" = some none
def spXI (C:Addr):Sp:=fun vs H Q _=>∃(a:Addr) (z:Str) (n:Int),vs=[.ref a,.str z,.int n]/\H a=some (d58 a C none) /\
 ∀(dx:Addr)(H':Hp),H' a=some (d58 a C (some dx))->H' dx=some (.xd [("row", .int n)])->Kp [a] H H'->Q .non H'
def a88 (z:Str):List Str:=if z = "" then [] else Txt.split z "\n"
inductive Run (rows:List Str):Nat->List (List Str×Ent)->List Pr->Prop
 | zero:Run rows 0 [] []
 | succ {i es ps z es' ps'}:Run rows i es ps->rows[i]?=some z->Stp es ps z es' ps'->Run rows (i+1) es' ps'
theorem Stp.len {es:List (List Str×Ent)}{ps:List Pr}{z:Str}{es':List (List Str×Ent)}{ps':List Pr}(h:Stp es ps z es' ps')(h1:es.length<=400)(h2:ps.length<=200):es'.length+ps'.length=es.length+ps.length+1/\es'.length<=400/\ps'.length<=200:=by
 cases h with
 | ent _ _ hN hp=>subst hp;rw[Bj];have:=hN.2.1;simp;lia
 | pr _ hN=>rw[Bj];have:=hN.1;simp;lia
theorem Run.len {rows:List Str}{i:Nat}{es:List (List Str×Ent)}{ps:List Pr}(h:Run rows i es ps):es.length+ps.length=i/\es.length<=400/\ps.length<=200:=by
 induction h with
 | zero=>simp
 | succ _ _ st ih =>
  have:=st.len ih.2.1 ih.2.2
  lia
def i50 (rows:List Str)(L:Lay):Prop:=Run rows rows.length L.ents L.pairs/\f47 L.ents L.pairs
def h45 (rows:List Str) (n:Nat):Prop:=(∃ es ps z,Run rows n es ps/\rows[n]?=some z/\∀ es' ps',¬ Stp es ps z es' ps')∨(n=rows.length/\∃ es ps,Run rows n es ps/\¬ f47 es ps)
def spLR (C:Addr):Sp:=fun vs H Q _=>∃(r:Addr)(b:RB)(d:RD)(L:Lay),vs=[.ref r]/\H r=some (.ins C b.dx d.fs)/\Flds b d/\H b.ae=some (.lst d.xs)/\H b.af=some (.lst d.ys)/\EntsV H d.xs L.ents/\PairsV H d.ys L.pairs/\∀ v H',LayV H' v L->Same H H'->Q v H'
def f81 (CB:Addr):Sp:=fun vs H Q E=>∃ z:Str,vs=[.str z]/\z.length<=1000000/\(∀ L,i50 (a88 z) L->∀ v H',LayV H' v L->Same H H'->Q v H') /\
 (∀ n,h45 (a88 z) n->∀(a dx:Addr)(H':Hp),H' a=some (f67 a CB (some dx))->H' dx=some (.xd [("row", .int n)])->Same H H'->E (.ref CB) (some a) H')
theorem h82 {P:Pm}{w:World}{K:WFr}{mg:Str->Option Value}{base:Heap}{x qual:Str}{st:Stmt}{f:Addr}{fd:FD}{N ps:List Str}{k:Nat}{sp:Sp}(F:Fun K x qual st f fd)(S:FnScope N ps (a41 st))(len:∀ vs H Q E,sp vs H Q E->vs.length=ps.length)
 (hbody:∀(cdv:Value)(A:Around) (outer:List Env)(s:Sd)(H:Hp) (vs:List V)(Q:VK)(E:XK),Room k (A.deeper (PyProof.Rows.envOfC qual (a41 st) s.heap.objs.size f cdv))->sp vs H Q E ->
   ∃ t,PSs (e16 (CXE P w) P w K mg base N qual (a41 st) f cdv A outer s H E) (b16 st) t/\t { nx:=fun _ H'=>Q .non H',rt:=Q } (start N vs) H):FnOk P w K mg base (CXE P w) (k+1) f fd ps sp:=by
 obtain⟨oc,od,kV,doc,pm,an,cdv,ct,osl,rfl,lk,hcd⟩:=F.ex;exact i53 lk hcd S len fun A outer s H vs Q E hr hsp=>hbody cdv A outer s H vs Q E hr hsp
section
variable {C:Addr}
theorem i13:FnScope ["self", "words", "row"] ["self", "words", "row"] (a41 g14):=.of
theorem g56 {f fI CB B:Addr}{fd:FD}(F:Fun K "__init__" "BadLayer.__init__" g14 f fd)(mS:mg "ShelfError" = some (.ref B))(hB:Base K B)(bad:Bad K CB B fI):FnOk P w K mg base CX0 1 f fd ["self", "words", "row"] (spXI CB):=by
 refine F.ok i13 (fun vs H Q E h=>?_) (fun cdv A outer s H vs Q E hr h=>?_)
 ·obtain⟨a,z,n,rfl,_⟩:=h;rfl
 ·obtain⟨a,z,n,rfl,ha,k⟩:=h;refine⟨_,a03 (a81 (g49 mS hB.sp hB.rd hB.fc (a00 (pv 0) (a00 (pv 1) a02)))) (a06 (h52 (pv 0) (pv 2) rfl)),?_⟩;refine⟨_,rfl,_,rfl,a,CB,none,some fI,.str z,rfl,ha,bad.hx,?_⟩;refine⟨_,rfl,_,rfl,a,CB,rfl,a01,bad.Y,bad.tk,fun dx hd=>?_⟩;have nad:a≠dx:=a04 (a01 (H:=H) (a:=a) (o:=d58 a CB none)) hd;exact k dx _ (by rw[a07 nad,a01]) a01 ((((Kp.refl [a] H).set (by simp)).set (by simp)).new (by rw[a07 nad.symm];exact hd))
theorem scLR:FnScope ["self"] ["self"] (a41 c08):=.of
theorem ok_LR {f:Addr}{fd:FD}(F:Fun K "layer_read" "Reader.layer_read" c08 f fd)(T:Txt K C)(mTuple:mg "tuple" = none):FnOk P w K mg base CX0 1 f fd ["self"] (spLR C):=by
 refine F.ok scLR (fun vs H Q E h=>?_) (fun cdv A outer s H vs Q E hr h=>?_)
 ·obtain⟨r,b,d,L,rfl,_⟩:=h;rfl
 ·obtain⟨x,b,d,L,rfl,hr4,fl,he4,hf4,hE,hP,k⟩:=h;refine⟨_,a06 (a40 (a52 (a00 (a63 a64 (by rfl) mTuple PyProof.Rows.Boot.tuple (a00 (a74 (pv 0) rfl) a02)) (a00 (a63 a64 (by rfl) mTuple PyProof.Rows.Boot.tuple (a00 (a74 (pv 0) rfl) a02)) a02)))),?_⟩;refine⟨_,rfl,x,C,b.dx,_,_,rfl,hr4,T.cl,T.nE,fl.f1,b.ae,d.xs,rfl,.inl ⟨SqL.of he4,fun t1 ht1=>?_⟩⟩;have s5:Same H (upd H t1 (.tup d.xs)):=(Same.refl _).upd ht1;have h1t:(upd H t1 (.tup d.xs)) t1=some (.tup d.xs):=a01;generalize (upd H t1 (.tup d.xs))=H5 at s5 h1t ⊢;refine⟨_,rfl,x,C,b.dx,_,_,rfl,s5 _ _ hr4,T.cl,T.nF,fl.f2,b.af,d.ys,rfl,.inl ⟨SqL.of (s5 _ _ hf4),fun t2 ht2=>?_⟩⟩;have s6:Same H5 (upd H5 t2 (.tup d.ys)):=(Same.refl _).upd ht2;have h2t:(upd H5 t2 (.tup d.ys)) t2=some (.tup d.ys):=a01;generalize (upd H5 t2 (.tup d.ys))=H6 at s6 h2t ⊢;refine⟨by show 2<=zL;decide,fun t3 ht3=>?_⟩;have s7:Same H6 (upd H6 t3 (.tup [V.ref t1,V.ref t2])):=(Same.refl _).upd ht3;have sx:=s5.trans (s6.trans s7);exact k _ _ ⟨t3,t1,t2,d.xs,d.ys,rfl,a01,s7 _ _ (s6 _ _ h1t),s7 _ _ h2t,EntsV.tk (Tk.of sx) hE,PairsV.tk (Tk.of sx) hP⟩ sx
theorem scRead:FnScope ["text", "reader", "rows", "at", "row"] ["text"] (a41 b46):=.of
theorem h68 {f fI CB B:Addr}{fd fdB:FD}(F:Fun K "read_layer" "read_layer" b46 f fd)(T:Txt K C)(bad:Bad K CB B fI)(FB:FnOk P w K mg base CX0 1 fI fdB ["self", "words", "row"] (spXI CB))(bB:Binds K fdB ["self", "words", "row"] [])(mB:mg "BadLayer" = some (.ref CB))(mEnum:mg "enumerate" = none)(mLen:mg "len" = none)(DI:DefI P w K mg base 1 C "Reader" (h39 C))
 (MR:DefM P w K mg base 6 C "took_row" ["self", "row"] (e33 C))(MW:DefM P w K mg base 1 C "is_whole" ["self"] (e12 C))(ML:DefM P w K mg base 1 C "layer_read" ["self"] (spLR C)):FnOk P w K mg base (CXE P w) 7 f fd ["text"] (f81 CB):=by
 refine h82 F scRead (fun vs H Q E h=>?_) (fun cdv A outer s H vs Q E hr h=>?_)
 ·obtain⟨L,rfl,_⟩:=h;rfl
 ·obtain⟨z,rfl,hz,k1,k2⟩:=h;have nd:=scRead.nd;have hr2:Room 2 _:=hr.mono (by decide);have hr1:Room 1 _:=hr.mono (by decide);refine⟨_,a03 (a43 1 nd (i32 DI hr2))
   (a03 (a43 2 nd (b27 (a08 a58 (pv 0) a37 (a38 _)) (a56 a02) (a77 pS pZ pY a90 (pv 0) (a00 a37 a02))))
   (a03 (b82 PassesOwn.leaving rfl (c85 rfl mEnum (a00 (pv 2) a02)) (c67 rfl (a89 (a75 (i:=3) nd rfl (Or.inl rfl)) (a89 (a75 (i:=4) nd rfl (Or.inl rfl)) c01)))
     (a06 (a46 (b35 (a83 (e89 MR T.cl hr (pv 1) (a00 (pv 4) a02)))) (a06 (e23 rfl (g18 FB bB hr2 bad.hx bad.fn bad.kp mB (a00 (i06 (h31 (i43 (pv 3) (h31 i44)))) (a00 (pv 3) a02))))) a39)))
   (a03 (a46 (b35 (a83 (f73 MW T.cl hr1 (pv 1)))) (a06 (e23 rfl (g18 FB bB hr2 bad.hx bad.fn bad.kp mB (a00 a37 (a00 (a09 a36 (by rfl) mLen bLn (a00 (pv 2) a02)) a02))))) a39)
   (a06 (a40 (f73 ML T.cl hr1 (pv 1))))))),?_⟩
  intro x dx nx ndx nex;refine⟨x,dx,rfl,a01,fun b d H1 R fr kp=>⟨rfl,?_⟩⟩;have s0:Same H (upd (upd H dx (.own x)) x (.ins C dx [])):=fun c o e=>by
   rw[a07 (a04 e nx),a07 (a04 e ndx)];exact e
  have s1:Same H H1:=fun c o e=>kp c o (s0 c o e) (by simpa using a04 e nx);have frH:∀ c∈b.all x,H c=none:=fun c hc=>by
   by_cases e:c=x
   ·rw[e];exact nx
   ·exact s0.free (fr c hc e)
  have inR:∀ c∈b.all x,∃ o,H1 c=some o:=fun c hc=>by
   simp only[RB.all,BZ,lN,or_false] at hc;rcases hc with rfl | rfl | rfl | rfl | rfl | rfl
   ·exact⟨_,R.hr⟩
   ·exact⟨_,R.he⟩
   ·exact⟨_,R.hf⟩
   ·exact⟨_,R.hm⟩
   ·exact⟨_,R.ho⟩
   ·exact⟨_,R.hn⟩
  refine⟨_,rfl,rfl,_,rfl,?_⟩;refine' e08 (A:=fun(H2:Hp)(l:Addr)=>H2 l=some (.lst ((a88 z).map V.str))/\Same H1 H2/\l∉b.all x) (fun rest=>a50 (fun h1=>?b1) (fun h1=>?b2)) ?b3
  case b1 =>
   refine⟨by show 0<=zL;decide,fun l hl=>?_⟩;have e0:a88 z=[]:=by unfold a88;rw[if_pos (by have:=AJ h1;injection this)]
   have hh:(upd H1 l (.lst [])) l=some (.lst ((a88 z).map V.str)):=by rw[a01,e0];rfl
   have ss:Same H1 (upd H1 l (.lst [])):=(Same.refl _).upd hl;generalize (upd H1 l (.lst []))=HX at hh ss ⊢;exact rest HX l ⟨hh,ss,fun q=>by obtain⟨o,e⟩:=inR l q;rw[hl] at e;cases e⟩
  case b2 =>
   refine⟨_,rfl,rfl,_,_,rfl,rfl,by decide +kernel,hz,fun l hl=>?_⟩;have e0:a88 z=Txt.split z "\n" := by unfold a88;rw[if_neg (fun e=>h1 (Az (by rw[e])))]
   have hh:(upd H1 l (.lst ((Txt.split z "\n").map V.str))) l=some (.lst ((a88 z).map V.str)):=by rw[a01,e0]
   have ss:Same H1 (upd H1 l (.lst ((Txt.split z "\n").map V.str))):=(Same.refl _).upd hl;generalize (upd H1 l (.lst ((Txt.split z "\n").map V.str)))=HX at hh ss ⊢;exact rest HX l ⟨hh,ss,fun q=>by obtain⟨o,e⟩:=inR l q;rw[hl] at e;cases e⟩
  case b3 =>
   rintro H2 l ⟨hl2,s12,hlb⟩;have hrow:∀ y∈a88 z,y.length<=1000000:=fun y hy=>by
    unfold a88 at hy;split at hy
    ·cases hy
    ·exact b56 hz "\n" y hy
   generalize a88 z=rows at k1 k2 hl2 hrow ⊢;have bang:∀(n:Nat) (v:Str)(H3:Hp),h45 rows n->Kp (b.all x) H2 H3->∀(a:Addr),H3 a=none->∀(dy:Addr)(H4:Hp),H4 a=some (d58 a CB (some dy))->H4 dy=some (.xd [("row", .int n)])->Kp [a] (upd H3 a (d58 a CB none)) H4 ->
    V.non=V.non/\∃ a' C' dd fI',V.ref a=V.ref a'/\H4 a'=some (d58 a' C' dd)/\b69 K C' fI'=true/\h91 (e16 (CXE P w) P w K mg base ["text", "reader", "rows", "at", "row"] "read_layer" (a41 b46) f cdv A outer s H E) a' H4:=fun n v H3 hd k3 a ha dy H4 h4 hy k4=>by
    have sA:Same H H3:=fun c o e=>k3 c o (s12 c o (s1 c o e)) fun q=>by rw[frH c q] at e;cases e
    have ha0:H a=none:=sA.free ha;refine⟨rfl,a,CB,some dy,some fI,rfl,h4,bad.hx,g46 ha0 h4 (k2 n hd a dy _ a01 ?_ fun c o e=>?_)⟩
    ·rw[a07 (fun q=>by rw[q,h4] at hy;cases hy)];exact hy
    ·have na:c≠a:=a04 e ha0;rw[a07 na];exact k4 c o (by rw[a07 na];exact sA c o e) (by simpa using na)
   refine⟨_,rfl,l,rfl,⟨_,SqL.of hl2⟩,e19 (K:=K) (l:=l) (xs:=rows.map V.str) (fun i σ H'=>(∃ v3 v4,σ=[some (.str z),some (.ref x),some (.ref l),v3,v4])/\(∃ d' es ps,Run rows i es ps/\RdOk C H' x b d' es ps)/\Kp (b.all x) H2 H')
    ⟨⟨none,none,rfl⟩,⟨d,[],[],.zero,R.same s12⟩,Kp.refl _ _⟩ (fun i σ H' _ ⟨_,_,k'⟩=>SqL.of (k' _ _ hl2 hlb)) ?_ ?_⟩
   ·rintro i v σ H' T' hv ⟨⟨v3,v4,rfl⟩,⟨d',es,ps,hrun,R'⟩,k'⟩ hT;obtain⟨y,rfl,hy⟩:∃ y,v=V.str y/\rows[i]?=some y:=by
     rw[CJ] at hv;cases q:rows[i]? with
     | none=>rw[q] at hv;cases hv
     | some y=>rw[q] at hv;exact⟨y,(Ez hv).symm,rfl⟩
    obtain⟨l0,l1,l2⟩:=hrun.len;have s2:Same H' (upd H' T' (.tup [.int i,.str y])):=(Same.refl _).upd hT;have R2:=R'.same s2;have kT:Kp (b.all x) H2 (upd H' T' (.tup [.int i,.str y])):=k'.trans (Kp.of s2);refine⟨T',_,rfl,SqT.of a01,rfl,_,_,rfl,_,_,rfl,rfl,?_⟩;generalize (upd H' T' (.tup [.int i,.str y]))=HT at R2 kT ⊢;refine⟨_,rfl,x,b.dx,_,rfl,R2.hr,R2.F.m1,_,rfl,x,b,d',es,ps,y,rfl,R2,hrow y (BJ hy),l1,l2,fun es' ps' st d2 H3 R3 k3=>?_,fun hno H3 k3=>?_⟩
    ·exact⟨_,rfl,a76 ⟨⟨_,_,rfl⟩,⟨d2,es',ps',.succ hrun hy st,R3⟩,kT.trans k3⟩⟩
    ·refine⟨_,rfl,a78 ?_⟩;have hd:=d96 (i:Int) (by lia) (by lia);have hlog:=d83 (i:=(i:Int)) (by lia) (by lia);have e0:Str.empty.length=0:=by decide +kernel
     have e1:("row " : Str).length=4:=by decide +kernel
     have e2:(" can't stand there" : Str).length=18:=by decide +kernel
     have sz:∀(a:Str),a.length<=1300->a.length<=zL:=fun a ha=>by rw[sizeLine_eq];lia
     have q1:(Str.empty ++ "row ").length<=1300:=by rw[CZ];lia
     have q2:(Str.empty ++ "row " ++ (toString (i:Int):String)).length<=1300:=by rw[CZ,CZ];lia
     have q3:(Str.empty ++ "row " ++ (toString (i:Int):String) ++ " can't stand there").length<=1300:=by rw[CZ,CZ,CZ];lia
     refine⟨sz _ q1,_,rfl,_,.inr ⟨_,rfl,hlog,rfl⟩,sz _ (by lia),sz _ q2,sz _ q3,sz _ q3,_,rfl,by show 2<=zL;decide,fun a ha=>?_⟩;exact⟨a,_,_,rfl,a01,fun dy H4 h4 hy4 k4=>bang i "" H3 (.inl ⟨es,ps,y,hrun,hy,hno⟩) (kT.trans k3) a ha dy H4 h4 hy4 k4⟩
   ·rintro σ H' ⟨⟨v3,v4,rfl⟩,⟨d',es,ps,hrun,R'⟩,k'⟩;rw[Aj] at hrun;obtain⟨l0,l1,l2⟩:=hrun.len;refine⟨_,rfl,x,b.dx,_,rfl,R'.hr,R'.F.m4,x,b,d',es,ps,rfl,R',l2,l1,fun W H4 k4=>⟨_,rfl,a76 ?_⟩,fun W H4 k4=>⟨_,rfl,a78 ?_⟩⟩
    ·have nn:∀ c o,H' c=some o->c≠b.an->H4 c=some o:=fun c o e hc=>k4 c o e (by simpa using hc);have hr4:=nn _ _ R'.hr (b06 R'.hr R'.hn (fun z=>nomatch z));have he4:=nn _ _ R'.he (b06 R'.he R'.hn (fun z=>nomatch z));have hf4:=nn _ _ R'.hf (b06 R'.hf R'.hn (fun z=>nomatch z));have tk4:Tk H' H4:=k4.tk fun a ha ys e=>by rw[Ax.mp ha,R'.hn] at e;cases e
     have hE:=EntsV.tk tk4 R'.E;have hP:=PairsV.tk tk4 R'.Pp;have sA:Same H H4:=fun c o e=>by
      have nb:c∉b.all x:=fun q=>by rw[frH c q] at e;cases e
      refine nn c o (k' c o (s12 c o (s1 c o e)) nb) fun q=>nb (by rw[q];simp[RB.all])
     exact⟨_,rfl,x,b.dx,_,rfl,hr4,R'.F.m5,x,b,d',⟨es,ps⟩,rfl,hr4,R'.F,he4,hf4,hE,hP,fun v H5 hv s5=>k1 ⟨es,ps⟩ ⟨hrun,W⟩ _ _ hv (sA.trans s5)⟩
    ·have kZ:Kp (b.all x) H2 H4:=k'.trans (k4.mono fun c hc=>by rw[Ax.mp hc];simp[RB.all]);refine⟨_,rfl,l,_,rfl,.inl (SqL.of (kZ _ _ hl2 hlb)),by show 2<=zL;decide,fun a ha=>?_⟩;rw[Aj];exact⟨a,_,_,rfl,a01,fun dy H5 h5 hy5 k5=>bang rows.length "" H4 (.inr ⟨rfl,es,ps,hrun,W⟩) kZ a ha dy H5 h5 hy5 k5⟩
end
theorem c22 {G A:Hp->Prop}{goal:Prop}(use:(∀ a,A a->G a)->goal)(rest:∀ a,A a->G a):goal:=use rest
theorem c78 (z:Str):Txt.split z SL=(c50 47 z.cps.toList).map b00:=by
 rw[show SL=⟨#[47]⟩ by decide +kernel,c27]
theorem d17 {z:Str}(h:∀ r,z.cps.toList≠47::r):Txt.startswith z SL=false:=by
 cases q:Txt.startswith z SL with
 | false=>rfl
 | true =>
  exfalso;unfold Txt.startswith at q;rw[show SL=⟨#[47]⟩ by decide +kernel,StrLaws.subAt_eq,Bool.and_eq_true] at q;have q2:List.take 1 (List.drop 0 z.cps.toList)=[47]:=eq_of_beq q.2;cases e:z.cps.toList with
  | nil=>rw[e] at q2;cases q2
  | cons a r =>
   rw[e] at q2;have q3:[a]=[47]:=q2;injection q3 with q3
   exact h r (by rw[e,q3])
def h90 (m:Int) (z:Str):Option (List Str) :=
 if z=SL then some [] else if (Txt.split z SL).length < 2∨m+1 < (Txt.split z SL).length∨(Txt.split z SL).getD 0 "" ≠ "" then none else
 if (Txt.split z SL).tail.all b07=true then some (Txt.split z SL).tail else none
theorem f59:b00 []=("" : Str):=by decide +kernel
theorem g75 (m:Int) (z:Str):h90 m z=a49 m z:=by
 unfold h90 a49;by_cases h0:z=SL
 ·rw[if_pos h0,if_pos h0]
 rw[if_neg h0,if_neg h0];have es:=c78 z;have no:(∀ r,z.cps.toList≠47::r)->((Txt.split z SL).length < 2∨m+1 < (Txt.split z SL).length∨(Txt.split z SL).getD 0 "" ≠ ""):=fun h=>by
  cases q:z.cps.toList with
  | nil=>rw[es,q];exact .inl (by decide)
  | cons a r =>
   have ha:¬ a=47:=fun e=>h r (by rw[q,e]);obtain⟨h1,t,ec⟩:=c02 47 r;rw[es,q,b38,if_neg ha,ec];refine .inr (.inr fun e=>?_);have e2:(b00 (a::h1)).cps.toList=("" : Str).cps.toList:=congrArg (fun s:Str=>s.cps.toList) e;have e3:(b00 (a::h1)).cps.toList=a::h1:=rfl;rw[e3,show("" : Str).cps.toList=[] by decide +kernel] at e2;cases e2
 by_cases hh:∃ r,z.cps.toList=47::r
 ·obtain⟨r,q⟩:=hh;have e1:Txt.split z SL=("" : Str)::(c50 47 r).map b00:=by rw[es,q,b38,if_pos rfl,Cz,f59]
  have e2:Txt.split (Txt.slice z (some 1) none) SL=(c50 47 r).map b00:=by rw[c78,e05,q];rfl
  obtain⟨h1,t,ec⟩:=c02 47 r;have hp:0 < ((c50 47 r).map b00).length:=by rw[ec];exact Nat.succ_pos _
  have hst:¬ Txt.startswith z SL=false:=by rw[f04 q];exact Bool.noConfusion
  rw[if_neg hst,e1,e2];generalize (c50 47 r).map b00=ns at hp ⊢;rw[List.tail_cons,Cq];by_cases hm:m < ns.length
  ·rw[if_pos (.inr (.inl (by lia))),if_pos (.inl hm)]
  ·rw[if_neg (by rintro(x | x | x);lia;lia;exact x rfl)];cases ha:ns.all b07 with
   | true=>rw[if_pos rfl,if_neg (by rintro(x | x);exact hm x;cases x)]
   | false=>rw[if_neg (fun x=>by cases x),if_pos (.inr rfl)]
 ·have hh':∀ r,z.cps.toList≠47::r:=fun r e=>hh ⟨r,e⟩;rw[if_pos (no hh'),if_pos (d17 hh')]
theorem d84 {α:Type}(f:α->Bool) (l:List α):(l.map fun c=>!f c).any id=!((l.map f).all id):=by
 induction l with
 | nil=>rfl
 | cons a l ih =>
  rw[Cz,Cz,List.any_cons,List.all_cons,ih];cases f a <;> simp
def c30:Sp:=fun vs H Q _=>∃(z:Str) (m:Int),vs=[.str z,.int m]/\z.length<=1000000 /\
 (∀ zs,a49 m z=some zs->∀(t:Addr)(H':Hp),H' t=some (.tup (zs.map V.str))->Same H H'->Q (.ref t) H')/\(a49 m z=none->∀ H',Same H H'->Q .non H')
theorem cut1 (ws:List Str):c24 (ws.map V.str) (some 1) none=ws.tail.map V.str:=by
 unfold c24;rw[HT.sIx_none,show(1:Int)=((1:Nat):Int) from rfl,HT.sIx_nat,Aj];cases ws with
 | nil=>rfl
 | cons a r =>
  rw[Cq,Nat.min_eq_left (by lia),Cz,List.drop_one,List.tail_cons,List.tail_cons,Dz (by rw[Aj];lia)]
section
theorem scPathOf:FnScope ["_law_word_here", "_law_most", "_law_names", "_law_name"] ["_law_word_here", "_law_most"] (a41 d78):=.of
theorem f03 {f:Addr}{fd:FD}(F:Fun K "_law_path_of" "_law_path_of" d78 f fd)(mLen:mg "len" = none)(mAny:mg "any" = none)(mTuple:mg "tuple" = none):FnOk P w K mg base CX0 1 f fd ["_law_word_here", "_law_most"] c30:=by
 refine F.ok scPathOf (fun vs H Q E h=>?_) (fun cdv A outer s H vs Q E hr h=>?_)
 ·obtain⟨z,m,rfl,_⟩:=h;rfl
 ·obtain⟨z,m,rfl,hz,k1,k2⟩:=h;have nd:=scPathOf.nd;refine⟨_,a03 (a43 2 nd (a77 pS pZ pY a90 (pv 0) (a00 a37 a02)))
   (a03 (a46 (a08 a58 (pv 0) a37 (a38 _)) (a06 (a40 (a52 a02))) a39)
   (a03 (a46 (PW.pt (a94 (a08 c58 (a09 a36 (by rfl) mLen bLn (a00 (pv 2) a02)) a05 (a38 _))
     (a94 (a08 b92 (a09 a36 (by rfl) mLen bLn (a00 (pv 2) a02)) (a47 a80 (pv 1) a05) (a38 _))
     (a79 (a08 b98 (a45 a44 (pv 2) a05) a37 (a38 _)))))) (a06 (a40 a55)) a39)
   (a03 (b82 PassesOwn.never rfl (b15 (a61 b14 (pv 2) (a65 a05) a73)) (a75 (i:=3) nd rfl (Or.inl rfl))
     (a06 (a46 (PW.pt (a94 (a08 c58 (a09 a51 (by rfl) mLen bLn (a00 (pv 3) a02)) a05 (a38 _))
       (a94 (a08 b92 (a09 a51 (by rfl) mLen bLn (a00 (pv 3) a02)) a05 (a38 _))
       (a79 (a83 (a09 (c29 rfl) (by rfl) mAny PyProof.Rows.boot_any (a00 (a82 (x := "_law_sign") scPathOf .of (by decide +kernel) (c73 (pv 3))
         (fun C fp s H=>a98 c10 (pv 4) a37 (by with_unfolding_all rfl))) a02)))))))
       (a06 (a40 a55)) a39)))
   (a06 (a40 (a63 a64 (by rfl) mTuple PyProof.Rows.Boot.tuple (a00 (a61 b14 (pv 2) (a65 a05) a73) a02))))))),?_⟩
  rw[← g75] at k1 k2;refine⟨_,rfl,rfl,z,SL,rfl,rfl,by decide +kernel,hz,fun L hL=>?_⟩;have hw:=b56 hz SL;have hne:0 < (Txt.split z SL).length:=by
   obtain⟨h1,t,ec⟩:=c02 47 z.cps.toList;rw[c78,ec];exact Nat.succ_pos _
  unfold h90 at k1 k2;have s1:Same H (upd H L (.lst ((Txt.split z SL).map V.str))):=(Same.refl H).upd hL;have h1:(upd H L (.lst ((Txt.split z SL).map V.str))) L=some (.lst ((Txt.split z SL).map V.str)):=a01;generalize (upd H L (.lst ((Txt.split z SL).map V.str)))=H1 at s1 h1 ⊢;generalize Txt.split z SL=ns at k1 k2 h1 hw hne ⊢;refine⟨_,rfl,rfl,_,rfl,?_⟩;refine a50 (fun q=>?_) (fun q=>?_)
  ·have e:z=SL:=by have:=AJ q;injection this
   rw[if_pos e] at k1;exact⟨by show 0<=zL;decide,fun t ht=>k1 [] rfl t _ a01 (s1.upd ht)⟩
  rw[if_neg (fun e=>q (Az (by rw[e];rfl)))] at k1 k2;refine⟨_,rfl,L,_,rfl,.inl (SqL.of h1),_,_,rfl,rfl,_,rfl,?_⟩;refine a50 (fun q1=>?_) (fun q1=>?_)
  ·have q':=AJ q1;rw[Aj] at q';rw[if_pos (.inl (by lia))] at k2;exact a78 (k2 rfl H1 s1)
  have g1:¬ ns.length < 2:=fun x=>q1 (Az (by rw[Aj];lia));refine⟨_,rfl,L,_,rfl,.inl (SqL.of h1),_,rfl,_,_,rfl,rfl,_,_,rfl,rfl,_,rfl,?_⟩;refine a50 (fun q2=>?_) (fun q2=>?_)
  ·have q':=AJ q2;rw[Aj] at q';rw[if_pos (.inr (.inl q'))] at k2;exact a78 (k2 rfl H1 s1)
  have g2:¬ m+1 < (ns.length:Int):=fun x=>q2 (Az (by rw[Aj];exact x));refine⟨_,rfl,L,_,_,_,rfl,rfl,SqL.of h1,d98 (i:=0) (b66 hne),rfl,_,rfl,?_⟩;refine a50 (fun q3=>?_) (fun q3=>?_)
  ·have g:ns.getD 0 "" ≠ "" := fun e=>by rw[e] at q3;exact absurd q3 (by decide +kernel)
   rw[if_pos (.inr (.inr g))] at k2;exact k2 rfl H1 s1
  have g3:ns.getD 0 "" = "" := Classical.byContradiction fun e=>q3 (by rw[Fq (fun w=>e (by injection w))];rfl);rw[if_neg (by rintro(x | x | x);exact g1 x;exact g2 x;exact x g3)] at k1 k2;refine⟨_,rfl,_,rfl,L,_,rfl,SqL.of h1,fun M hM=>?_⟩;rw[cut1];have hwt:∀ y∈ns.tail,y.length<=1000000:=fun y hy=>hw y (List.mem_of_mem_tail hy);have hcut:=cut1 ns;have s2:Same H1 (upd H1 M (.lst (ns.tail.map V.str))):=(Same.refl _).upd hM;have h2:(upd H1 M (.lst (ns.tail.map V.str))) M=some (.lst (ns.tail.map V.str)):=a01;generalize (upd H1 M (.lst (ns.tail.map V.str)))=H2 at s2 h2 ⊢;generalize ns.tail=ts at k1 k2 h2 hwt hcut ⊢;have bad:∀ {i:Nat}{y:Str}(H':Hp),ts[i]?=some y->b07 y=false->Same H2 H'->Q .non H':=fun {i y} H' hy hb s'=>by
   rw[if_neg (fun x=>by rw[List.all_eq_true] at x;rw[x y (BJ hy)] at hb;cases hb)] at k2;exact k2 rfl H' (s1.trans (s2.trans s'))
  refine⟨M,rfl,⟨_,SqL.of h2⟩,e51 (xs:=ts.map V.str) (fun i σ H'=>(∃ v,σ=[some (.str z),some (.int m),some (.ref L),v])/\Same H2 H'/\(ts.take i).all b07=true)
   ⟨⟨none,rfl⟩,Same.refl _,rfl⟩ (fun i σ H' _ ⟨_,s',_⟩=>SqL.of (s' _ _ h2)) ?_ ?_⟩
  ·rintro i v σ H' hv ⟨⟨v3,rfl⟩,s',ha⟩;obtain⟨y,rfl,hy⟩:∃ y,v=V.str y/\ts[i]?=some y:=by
    rw[CJ] at hv;cases q:ts[i]? with
    | none=>rw[q] at hv;cases hv
    | some y=>rw[q] at hv;exact⟨y,(Ez hv).symm,rfl⟩
   have hyl:=hwt y (BJ hy);have hys:y.length<=zL:=by rw[sizeLine_eq];lia
   refine⟨_,rfl,y,rfl,hys,_,_,rfl,rfl,_,rfl,?_⟩;refine a50 (fun q4=>a78 ?_) (fun q4=>?_)
   ·have q':=AJ q4;exact bad H' hy (by unfold b07;rw[if_neg (by lia)]) s'
   have l1:¬((y.length:Int) < 1):=fun x=>q4 (Az x);refine⟨_,rfl,y,rfl,hys,_,_,rfl,rfl,_,rfl,?_⟩;refine a50 (fun q5=>a78 ?_) (fun q5=>?_)
   ·have q':(8:Int) < (y.length:Int):=AJ q5;exact bad H' hy (by unfold b07;rw[if_neg (by lia)]) s'
   have l2:¬((8:Int) < (y.length:Int)):=fun x=>q5 (Az x);have en:b07 y=(y.cps.toList.map occ).all id:=by
    unfold b07 h58;rw[if_pos (by lia)]
   refine⟨_,rfl,y,rfl,b55 (fun i ys H''=>i<=y.cps.size/\H''=H'/\ys=e72 (fun c=>!occ c) y i) hys ⟨Fx _,rfl,rfl⟩ (fun i ys H'' ⟨hi,_,e⟩=>by rw[e];exact b89 hi) (fun i ys H'' c hc ⟨hi,e1,e2⟩=>?_) (fun ys H'' ⟨_,e1,e2⟩ D hD=>?_)⟩
   ·obtain⟨hlt,e4⟩:=b37 (f:=fun c=>!occ c) hc;exact⟨_,rfl,_,_,rfl,rfl,hlt,e1,by rw[e2,← e4];rfl⟩
   ·subst e1;refine⟨D,y.cps.toList.map (fun c=>!occ c),rfl,SqL.of (by rw[a01,e2,b91]),_,rfl,?_⟩;rw[d84,← en];have sD:Same H2 (upd H'' D (.lst ys)):=s'.upd hD;cases hb:b07 y with
    | false=>exact a78 (bad _ hy hb sD)
    | true =>
     refine a76 ⟨⟨_,rfl⟩,sD,?_⟩;rw[EQ,hy,List.all_append,ha];show(true && (b07 y && true))=true;rw[hb];rfl
  ·rintro σ H' ⟨⟨v3,rfl⟩,s',ha⟩;rw[Aj,Dz (AZ _)] at ha;rw[if_pos ha] at k1;refine⟨_,rfl,_,rfl,L,_,rfl,SqL.of (s' _ _ (s2 _ _ h1)),fun M2 hM2=>?_⟩;rw[hcut];refine⟨M2,_,rfl,.inl ⟨SqL.of a01,fun t ht=>?_⟩⟩;exact k1 ts rfl t _ a01 ((s1.trans (s2.trans (s'.upd hM2))).upd ht)
end
def nuG (z:Str):Option Int:=if z ≠ "0"/\Txt.startswith z "0" = true then none else if (intText? z).getD 0<=199 then some ((intText? z).getD 0) else none
def g78 (l:List Nat):Bool:=decide (nuG ⟨l.toArray⟩=if (1 < l.length/\l.head?=some 48)∨(l.length=3/\¬ l.head?=some 49) then none else intText? ⟨l.toArray⟩) && decide (0<=(intText? ⟨l.toArray⟩).getD 0)
theorem nums3:(List.range 10).all (fun a=>g78 [48+a] && (List.range 10).all fun b=>g78 [48+a,48+b] && (List.range 10).all fun c=>g78 [48+a,48+b,48+c])=true:=by decide +kernel
theorem h14 {p:List Nat->Bool}(C:(List.range 10).all (fun a=>p [48+a] && (List.range 10).all fun b=>p [48+a,48+b] && (List.range 10).all fun c=>p [48+a,48+b,48+c])=true){z:Str}(h0:z ≠ "")(h3:z.length<=3)(h:(z.cps.toList.map d27).all id=true):p z.cps.toList=true:=by
 have hd:∀ c∈z.cps.toList,48<=c/\c<=57:=fun c hc=>h40 (by
  have:=List.all_eq_true.mp h _ (Ex.mpr ⟨c,hc,rfl⟩)
  exact this)
 have hl:z.cps.toList.length<=3:=by rw[Cj];exact h3
 simp only[List.all_eq_true,List.mem_range,Bool.and_eq_true] at C;cases q:z.cps.toList with
 | nil=>exact absurd (Srt.str_ext (by rw[q];rfl)) h0
 | cons a r =>
  have ha:=hd a (by rw[q];simp);cases r with
  | nil =>
   have c1:=(C (a-48) (by lia)).1;rw[show 48+(a-48)=a by lia] at c1;exact c1
  | cons b r =>
   have hb:=hd b (by rw[q];simp);cases r with
   | nil =>
    have c1:=((C (a-48) (by lia)).2 (b-48) (by lia)).1;rw[show 48+(a-48)=a by lia,show 48+(b-48)=b by lia] at c1;exact c1
   | cons c r =>
    have hc:=hd c (by rw[q];simp);cases r with
    | nil =>
     have c1:=((C (a-48) (by lia)).2 (b-48) (by lia)).2 (c-48) (by lia);rw[show 48+(a-48)=a by lia,show 48+(b-48)=b by lia,show 48+(c-48)=c by lia] at c1;exact c1
    | cons d r=>rw[q] at hl;simp at hl
theorem i31 {z:Str}(h0:z ≠ "")(h3:z.length<=3)(h:(z.cps.toList.map d27).all id=true):nuF z=(if (1 < z.length/\z.cps.toList.head?=some 48)∨(z.length=3/\¬ z.cps.toList.head?=some 49) then none else intText? z)/\0<=(intText? z).getD 0:=by
 have c:=h14 nums3 h0 h3 h;unfold g78 at c;rw[Bool.and_eq_true] at c;have c1:=AJ c.1;have c2:=AJ c.2;have e:(⟨z.cps.toList.toArray⟩:Str)=z:=Srt.str_ext rfl;rw[e] at c1 c2;rw[Cj] at c1;refine⟨?_,c2⟩;have e2:nuF z=nuG z:=by
  unfold nuF nuG;rw[if_neg (by rintro(x | x | x);exact h0 x;lia;rw[h] at x;cases x)]
 rw[e2];exact c1
theorem i27 {z:Str}{n:Int}(h:nuF z=some n):0<=n:=by
 have hx:¬(z = ""∨3 < z.length∨(z.cps.toList.map d27).all id=false):=fun x=>by
  unfold nuF at h;rw[if_pos x] at h;cases h
 have h0:z ≠ "" := fun e=>hx (.inl e);have h3:z.length<=3:=by
  rcases Nat.lt_or_ge 3 z.length with y | y
  ·exact absurd (.inr (.inl y)) hx
  ·exact y
 have hf:(z.cps.toList.map d27).all id=true:=by
  cases e:(z.cps.toList.map d27).all id with
  | true=>rfl
  | false=>exact absurd (.inr (.inr e)) hx
 obtain⟨g1,g2⟩:=i31 h0 h3 hf;rw[g1] at h;split at h
 ·cases h
 ·rw[h] at g2;exact g2
def d07:Sp:=fun vs H Q _=>∃ z:Str,vs=[.str z]/\z.length<=1000000/\∀ H',Same H H'->Q (.int ((nuF z).getD (-1))) H'
theorem i39 (c d:Nat) (t:Str)(h:t=⟨#[d]⟩):decide (V.str ⟨#[c]⟩=V.str t)=decide (c=d):=by
 subst h;exact decide_eq_decide.mpr ⟨fun q=>by injection q with q;injection q with q;injection q with q;injection q,fun q=>by rw[q]⟩
section
theorem e40:FnScope ["_law_word_here"] ["_law_word_here"] (a41 e01):=.of
theorem f66 {f:Addr}{fd:FD}(F:Fun K "_law_number" "_law_number" e01 f fd)(mLen:mg "len" = none)(mAny:mg "any" = none)(mInt:mg "int" = none):FnOk P w K mg base CX0 1 f fd ["_law_word_here"] d07:=by
 refine F.ok e40 (fun vs H Q E h=>?_) (fun cdv A outer s H vs Q E hr h=>?_)
 ·obtain⟨z,rfl,_⟩:=h;rfl
 ·obtain⟨z,rfl,hz,k⟩:=h;refine⟨_,a03 (a46 (PW.pt (a94 (a08 c58 (a09 a51 (by rfl) mLen bLn (a00 (pv 0) a02)) a05 (a38 _))
   (a94 (a08 b92 (a09 a51 (by rfl) mLen bLn (a00 (pv 0) a02)) a05 (a38 _))
   (a79 (a83 (a09 (c29 rfl) (by rfl) mAny PyProof.Rows.boot_any (a00 (a82 (x := "_law_sign") e40 .of (by decide +kernel) (c73 (pv 0))
     (fun C fp s H=>a98 c10 (pv 1) a37 (by with_unfolding_all rfl))) a02)))))))
   (a06 (a40 (d48 c19 a05))) a39)
   (a03 (a46 (PW.pt (a94 (PW.pt (a97 (a08 b92 (a09 a51 (by rfl) mLen bLn (a00 (pv 0) a02)) a05 (a38 _)) (a93 (a08 a58 (a45 e25 (pv 0) a05) a37 (a38 _)))))
     (a79 (PW.pt (a97 (a08 a58 (a09 a51 (by rfl) mLen bLn (a00 (pv 0) a02)) a05 (a38 _)) (a93 (a08 b98 (a45 e25 (pv 0) a05) a37 (a38 _))))))))
     (a06 (a40 (d48 c19 a05))) a39)
   (a06 (a40 (a63 b83 (by rfl) mInt PyProof.Rows.Boot.int (a00 (pv 0) a02))))),?_⟩
  have hzs:z.length<=zL:=by rw[sizeLine_eq];lia
  have no:∀ H',(z = ""∨3 < z.length∨(z.cps.toList.map d27).all id=false)->Same H H'->Q (.int (-1)) H':=fun H' h s'=>by
   have:=k H' s'
   unfold nuF at this;rw[if_pos h] at this;exact this
  have z0:z.length=0->z = "" := fun e=>Srt.str_ext (by
   have:z.cps.toList.length=0:=by rw[Cj];exact e
   rw[List.eq_nil_of_length_eq_zero this];rfl)
  refine⟨_,rfl,z,rfl,hzs,_,_,rfl,rfl,_,rfl,?_⟩;refine a50 (fun q1=>a78 ?_) (fun q1=>?_)
  ·have q':=AJ q1;exact⟨_,rfl,no H (.inl (z0 (by lia))) (Same.refl H)⟩
  have l1:¬((z.length:Int) < 1):=fun x=>q1 (Az x);refine⟨_,rfl,z,rfl,hzs,_,_,rfl,rfl,_,rfl,?_⟩;refine a50 (fun q2=>a78 ?_) (fun q2=>?_)
  ·have q':(3:Int) < (z.length:Int):=AJ q2;exact⟨_,rfl,no H (.inr (.inl (by lia))) (Same.refl H)⟩
  have l2:¬((3:Int) < (z.length:Int)):=fun x=>q2 (Az x);refine⟨_,rfl,z,rfl,b55 (fun i ys H''=>i<=z.cps.size/\H''=H/\ys=e72 (fun c=>!d27 c) z i) hzs ⟨Fx _,rfl,rfl⟩ (fun i ys H'' ⟨hi,_,e⟩=>by rw[e];exact b89 hi) (fun i ys H'' c hc ⟨hi,e1,e2⟩=>?_) (fun ys H'' ⟨_,e1,e2⟩ D hD=>?_)⟩
  ·obtain⟨hlt,e4⟩:=b37 (f:=fun c=>!d27 c) hc;exact⟨_,rfl,_,_,rfl,rfl,hlt,e1,by rw[e2,← e4];rfl⟩
  ·subst e1;refine⟨D,z.cps.toList.map (fun c=>!d27 c),rfl,SqL.of (by rw[a01,e2,b91]),_,rfl,?_⟩;rw[d84];have sD:Same H'' (upd H'' D (.lst ys)):=(Same.refl _).upd hD;generalize (upd H'' D (.lst ys))=H2 at sD ⊢;cases hb:(z.cps.toList.map d27).all id with
   | false=>exact a78 ⟨_,rfl,no H2 (.inr (.inr hb)) sD⟩
   | true =>
    refine a76 ?_;have h0:z ≠ "" := fun e=>l1 (by rw[e];decide +kernel);have h3:z.length<=3:=by lia
    have kk:=k H2 sD;obtain⟨n,hn⟩:=digs h0 h3 hb;rw[(i31 h0 h3 hb).1] at kk;obtain⟨c0,r,ec⟩:∃ c0 r,z.cps.toList=c0::r:=by
     cases q:z.cps.toList with
     | nil=>exact absurd (Srt.str_ext (by rw[q];rfl)) h0
     | cons a r=>exact⟨a,r,rfl⟩
    have at0:atI z.cps.toList 0=some c0:=c06 (j:=0) (by rw[ec];rfl);rw[ec] at kk;have kk':Q (.int ((if (1 < z.length/\c0=48)∨(z.length=3/\¬ c0=49) then none else intText? z).getD (-1))) H2:=by
     simpa only[List.head?_cons,Option.some.injEq] using kk
    have e0:=i39 c0 48 "0" (by decide +kernel);have e1:=i39 c0 49 "1" (by decide +kernel);refine' c22 (A:=fun(H3:Hp)=>H3=H2/\¬(1 < z.length/\c0=48)) (fun rest=>?b1) ?b2
    case b1 =>
     refine⟨_,rfl,z,rfl,hzs,_,_,rfl,rfl,_,rfl,?_⟩;refine a50 (fun q3=>?_) (fun q3=>a76 ((by generalize hX:H2=HX;exact rest HX ⟨hX.symm,fun x=>q3 (Az (by lia))⟩)));have q3':(1:Int) < (z.length:Int):=AJ q3;refine⟨_,rfl,z,0,c0,rfl,rfl,hzs,at0,rfl,_,rfl,?_⟩;rw[e0];refine a50 (fun q4=>a78 ?_) (fun q4=>(by generalize hX:H2=HX;exact rest HX ⟨hX.symm,fun x=>q4 (Az x.2)⟩));rw[if_pos (.inl ⟨by lia,AJ q4⟩)] at kk';exact⟨_,rfl,kk'⟩
    case b2 =>
     rintro H3 ⟨rfl,nA⟩;refine' c22 (A:=fun(H4:Hp)=>H4=H3/\¬(z.length=3/\¬ c0=49)) (fun rest=>?b3) ?b4
     case b3 =>
      refine⟨_,rfl,z,rfl,hzs,rfl,_,rfl,?_⟩;refine a50 (fun q3=>?_) (fun q3=>a76 ((by generalize hX:H3=HX;exact rest HX ⟨hX.symm,fun x=>q3 (Az (by rw[x.1];rfl))⟩)));have q3':z.length=3:=by have:=AJ q3;injection this;lia
      refine⟨_,rfl,z,0,c0,rfl,rfl,hzs,at0,rfl,_,rfl,?_⟩;rw[e1];by_cases h49:c0=49
      ·rw[Az h49];exact a76 ((by generalize hX:H3=HX;exact rest HX ⟨hX.symm,fun x=>x.2 h49⟩))
      ·rw[Fq h49];rw[if_pos (.inr ⟨q3',h49⟩)] at kk';exact a78 ⟨_,rfl,kk'⟩
     case b4 =>
      rintro H4 ⟨rfl,nB⟩;rw[if_neg (fun x=>x.elim nA nB),hn] at kk';exact⟨_,rfl,z,n,rfl,by lia,hn,kk'⟩
end
def e06 (ws:List Str):Option (List Str×Ent):=(a49 (8+if decide (V.str (ws.getD 0 "")=V.str "gone")=true then 1 else 0) ((ws++[("" : Str)]).getD 1 "")).bind fun p=>if p=[] then none else
 if ws.getD 0 "" = "gone"/\ws.drop 2=[] then some (p,.gone) else
 if ws.getD 0 "" = "file"/\(ws.drop 2).length=1/\0<=(nuF ((ws.drop 2).getD 0 "")).getD (-1) then some (p,.fil ((nuF ((ws.drop 2).getD 0 "")).getD (-1))) else
 if ws.getD 0 "" = "folder"/\ws.drop 2=[("alone" : Str)] then some (p,.dir none) else
 if ws.getD 0 "" = "folder"/\(ws.drop 2).length=2/\(ws.drop 2).getD 0 "" = "over"/\a49 8 ((ws.drop 2).getD 1 "")≠none then some (p,.dir (a49 8 ((ws.drop 2).getD 1 ""))) else none
def e09:Sp:=fun vs H Q _=>∃(l:Addr) (ws:List Str),vs=[.ref l]/\H l=some (.lst (ws.map V.str))/\Ws ws/\0 < ws.length/\ws.length<=2000000 /\
 (∀ x,e06 ws=some x->∀(a:Addr) (v:V)(H':Hp),H' a=some (.lst [v])->EntV H' v x.1 x.2->Same H H'->Q (.ref a) H')/\(e06 ws=none->∀(a:Addr)(H':Hp),H' a=some (.lst [])->Same H H'->Q (.ref a) H')
section
theorem scEntOf:FnScope ["_law_words", "_law_path", "_law_rest"] ["_law_words"] (a41 c87):=.of
theorem h00 {f:Addr}{fd:FD}(F:Fun K "_law_entry_of" "_law_entry_of" c87 f fd)(mLen:mg "len" = none)(mInt:mg "int" = none)(DP:Def P w K mg base 1 "_law_path_of" ["_law_word_here", "_law_most"] c30)(DN:Def P w K mg base 1 "_law_number" ["_law_word_here"] d07):FnOk P w K mg base CX0 2 f fd ["_law_words"] e09:=by
 refine F.ok scEntOf (fun vs H Q E h=>?_) (fun cdv A outer s H vs Q E hr h=>?_)
 ·obtain⟨l,ws,rfl,_⟩:=h;rfl
 ·obtain⟨l,ws,rfl,hl,hw,hn0,hlen,k1,k2⟩:=h;have nd:=scEntOf.nd;refine⟨_,a03 (a43 1 nd (a42 DP hr (a00 (a45 a44 (a47 b60 (pv 0) (a56 (a00 a37 a02))) a05) (a00 (a47 a80 a05 (a63 d21 (by rfl) mInt PyProof.Rows.Boot.int (a00 (a98 a58 (a45 a44 (pv 0) a05) a37 (a38 _)) a02))) a02))))
   (a03 (a43 2 nd (a61 b14 (pv 0) (a65 a05) a73))
   (a03 (a46 (PW.pt (a94 (a86 (b30 (pv 1))) (a79 (a08 (f41 hr.units0) (pv 1) (a52 a02) (a38 _))))) (a06 (a40 (a56 a02))) a39)
   (a03 (a46 (PW.pt (a97 (a08 a58 (a45 a44 (pv 0) a05) a37 (a38 _)) (a93 (a08 (g13 hr.units0) (pv 2) (a56 a02) (a38 _))))) (a06 (a40 (a56 (a00 (a52 (a00 (pv 1) (a00 a37 a02))) a02)))) a39)
   (a03 (a46 (PW.pt (a97 (a08 a58 (a45 a44 (pv 0) a05) a37 (a38 _)) (a97 (a08 a58 (a09 a36 (by rfl) mLen bLn (a00 (pv 2) a02)) a05 (a38 _)) (a93 (a08 g71 (a42 DN hr (a00 (a45 a44 (pv 2) a05) a02)) a05 (a38 _)))))) (a06 (a40 (a56 (a00 (a52 (a00 (pv 1) (a00 a37 (a00 (a42 DN hr (a00 (a45 a44 (pv 2) a05) a02)) a02)))) a02)))) a39)
   (a03 (a46 (PW.pt (a97 (a08 a58 (a45 a44 (pv 0) a05) a37 (a38 _)) (a93 (a08 (g13 hr.units0) (pv 2) (a56 (a00 a37 a02)) (a38 _))))) (a06 (a40 (a56 (a00 (a52 (a00 (pv 1) (a00 a37 (a00 a55 a02)))) a02)))) a39)
   (a03 (a46 (PW.pt (a97 (a08 a58 (a45 a44 (pv 0) a05) a37 (a38 _)) (a97 (a08 a58 (a09 a36 (by rfl) mLen bLn (a00 (pv 2) a02)) a05 (a38 _)) (a97 (a08 a58 (a45 a44 (pv 2) a05) a37 (a38 _)) (a93 (a86 (b68 (a42 DP hr (a00 (a45 a44 (pv 2) a05) (a00 a05 a02)))))))))) (a06 (a40 (a56 (a00 (a52 (a00 (pv 1) (a00 a37 (a00 (a42 DP hr (a00 (a45 a44 (pv 2) a05) (a00 a05 a02))) a02)))) a02)))) a39)
   (a06 (a40 (a56 a02))))))))),?_⟩
  have a0:atI (ws.map V.str) (0:Int)=some (V.str (ws.getD 0 "")):=d98 (i:=0) (b66 hn0);have yes:∀ {c:Str},ws.getD 0 "" = c->decide (V.str (ws.getD 0 "")=V.str c)=true:=fun {c} e=>Az (by rw[e]);have say:∀ {c:Str},decide (V.str (ws.getD 0 "")=V.str c)=true->ws.getD 0 "" = c:=fun {c} e=>by have:=AJ e;injection this
  refine⟨_,rfl,by show 1<=zL;decide,fun m hm=>?_⟩;refine⟨l,m,_,_,rfl,rfl,by rw[a07 (a04 hl hm)];exact hl,a01,by rw[Aj,sizeLine_eq];show ws.length+1<=_;lia,fun p hp=>?_⟩;have sA:Same H (upd (upd H m (.lst [V.str ""])) p (.lst (ws.map V.str++[V.str ""]))):=((Same.refl H).upd hm).upd hp;have hA:(upd (upd H m (.lst [V.str ""])) p (.lst (ws.map V.str++[V.str ""]))) p=some (.lst ((ws++[("" : Str)]).map V.str)):=by rw[a01,Bz];rfl
  generalize (upd (upd H m (.lst [V.str ""])) p (.lst (ws.map V.str++[V.str ""])))=H1 at sA hA ⊢;have hw':Ws (ws++[("" : Str)]):=fun y hy=>by
   rcases Bq.mp hy with q | q
   ·exact hw y q
   ·rw[Ax.mp q];exact Fx _
  unfold e06 at k1 k2;refine⟨p,_,_,_,rfl,rfl,SqL.of hA,d98 (i:=1) (b66 (by rw[Bj];show 1 < ws.length+1;lia)),_,rfl,l,_,_,_,rfl,rfl,SqL.of (sA _ _ hl),a0,rfl,.inr ⟨_,rfl,_,_,rfl,rfl,(ws++[("" : Str)]).getD 1 "", _,rfl,b33 hw' 1,fun zs e t H2 ht s2=>?_,fun e H2 s2=>?_⟩⟩
  ·rw[e,oB] at k1 k2;have hl2:=s2 _ _ (sA _ _ hl);refine⟨_,rfl,_,rfl,l,_,rfl,SqL.of hl2,fun c hc=>?_⟩;rw[cut2];have hwr:Ws (ws.drop 2):=fun y hy=>hw y (List.mem_of_mem_drop hy);have s3:Same H2 (upd H2 c (.lst ((ws.drop 2).map V.str))):=(Same.refl _).upd hc;have hc3:(upd H2 c (.lst ((ws.drop 2).map V.str))) c=some (.lst ((ws.drop 2).map V.str)):=a01;generalize (upd H2 c (.lst ((ws.drop 2).map V.str)))=H3 at s3 hc3 ⊢;have sH3:=sA.trans (s2.trans s3);have ht3:=s3 _ _ ht;have hl3:=s3 _ _ hl2;refine⟨_,rfl,_,rfl,a76 ?_⟩;refine⟨_,rfl,by show 0<=zL;decide,fun u hu=>?_⟩;have s4:Same H3 (upd H3 u (.tup [])):=(Same.refl _).upd hu;have hu4:(upd H3 u (.tup [])) u=some (.tup []):=a01;generalize (upd H3 u (.tup []))=H4 at s4 hu4 ⊢;have sH4:=sH3.trans s4;have ht4:=s4 _ _ ht3;have hl4:=s4 _ _ hl3;have hc4:=s4 _ _ hc3;refine⟨t,u,zs,[],rfl,rfl,SqT.of ht4,SqT.of hu4,_,rfl,?_⟩;refine a50 (fun q=>?_) (fun q=>?_)
   ·rw[if_pos (AJ q)] at k2;exact⟨by show 0<=zL;decide,fun a ha=>k2 rfl a _ a01 (sH4.upd ha)⟩
   rw[if_neg (fun z=>q (Az z))] at k1 k2;generalize ws.drop 2=rs at k1 k2 hc4 hwr ⊢;refine' c22 (A:=fun(H5:Hp)=>Same H4 H5/\¬(ws.getD 0 "" = "gone"/\rs=[])) (fun rest=>?g1) ?g2
   case g1 =>
    refine⟨_,rfl,l,_,_,_,rfl,rfl,SqL.of hl4,a0,rfl,_,rfl,?_⟩;refine a50 (fun q=>?_) (fun q=>a76 ((by generalize hX:H4=HX;exact rest HX ⟨hX ▸ Same.refl _,fun x=>q (yes x.1)⟩)));refine⟨_,rfl,by show 0<=zL;decide,fun d hd=>?_⟩;have s5:Same H4 (upd H4 d (.lst [])):=(Same.refl _).upd hd;have hd5:(upd H4 d (.lst [])) d=some (.lst []):=a01;generalize (upd H4 d (.lst []))=H5 at s5 hd5 ⊢;refine⟨c,d,rs,[],rfl,rfl,SqL.of (s5 _ _ hc4),SqL.of hd5,_,rfl,?_⟩;refine a50 (fun q2=>?_) (fun q2=>rest H5 ⟨s5,fun x=>q2 (Az x.2)⟩);rw[if_pos ⟨say q,AJ q2⟩] at k1;have ht5:=s5 _ _ ht4;refine⟨_,rfl,by show 2<=zL;decide,fun v hv=>⟨by show 1<=zL;decide,fun a ha=>?_⟩⟩;have s6:=((sH4.trans s5).upd hv (o:=.tup [V.ref t,V.str "gone"])).upd ha (o:=.lst [V.ref v]);have sv:Same H5 (upd (upd H5 v (.tup [V.ref t,V.str "gone"])) a (.lst [V.ref v])):=((Same.refl _).upd hv).upd ha;exact k1 _ rfl a (.ref v) _ a01 ⟨v,t,rfl,sv _ _ ht5,by rw[a07 (a04 (H:=upd H5 v _) a01 ha),a01]⟩ s6
   case g2 =>
    rintro H5 ⟨s5,nA⟩;rw[if_neg nA] at k1 k2;have sH5:=sH4.trans s5;have ht5:=s5 _ _ ht4;have hl5:=s5 _ _ hl4;have hc5:=s5 _ _ hc4;refine' c22 (A:=fun(H6:Hp)=>Same H5 H6/\¬(ws.getD 0 "" = "file"/\rs.length=1/\0<=(nuF (rs.getD 0 "")).getD (-1))) (fun rest=>?g3) ?g4
    case g3 =>
     refine⟨_,rfl,l,_,_,_,rfl,rfl,SqL.of hl5,a0,rfl,_,rfl,?_⟩;refine a50 (fun q=>?_) (fun q=>a76 ((by generalize hX:H5=HX;exact rest HX ⟨hX ▸ Same.refl _,fun x=>q (yes x.1)⟩)));refine⟨_,rfl,c,_,rfl,.inl (SqL.of hc5),rfl,_,rfl,?_⟩;refine a50 (fun q1=>?_) (fun q1=>a76 ((by generalize hX:H5=HX;exact rest HX ⟨hX ▸ Same.refl _,fun x=>q1 (Az (by rw[Aj,x.2.1];rfl))⟩)));have l1:rs.length=1:=by have:=AJ q1;injection this with this;rw[Aj] at this;lia
     have b0:atI (rs.map V.str) (0:Int)=some (V.str (rs.getD 0 "")):=d98 (i:=0) (b66 (by lia));refine⟨_,rfl,c,_,_,_,rfl,rfl,SqL.of hc5,b0,rs.getD 0 "", rfl,b33 hwr 0,fun H6 s6=>?_⟩;refine⟨_,_,rfl,rfl,_,rfl,?_⟩;refine a50 (fun q2=>?_) (fun q2=>rest H6 ⟨s6,fun x=>q2 (Az x.2.2)⟩);rw[if_pos ⟨say q,l1,AJ q2⟩] at k1;refine⟨_,rfl,_,rfl,c,_,_,_,rfl,rfl,SqL.of (s6 _ _ hc5),b0,rs.getD 0 "", rfl,b33 hwr 0,fun H7 s7=>?_⟩;have ht7:=s7 _ _ (s6 _ _ ht5);refine⟨by show 3<=zL;decide,fun v hv=>⟨by show 1<=zL;decide,fun a ha=>?_⟩⟩;generalize (nuF (rs.getD 0 "")).getD (-1)=n at k1 hv ha ⊢;have s8:=((sH5.trans (s6.trans s7)).upd hv (o:=.tup [V.ref t,V.str "file", V.int n])).upd ha (o:=.lst [V.ref v]);have sv:Same H7 (upd (upd H7 v (.tup [V.ref t,V.str "file", V.int n])) a (.lst [V.ref v])):=((Same.refl _).upd hv).upd ha;exact k1 _ rfl a (.ref v) _ a01 ⟨v,t,rfl,sv _ _ ht7,by rw[a07 (a04 (H:=upd H7 v _) a01 ha),a01]⟩ s8
    case g4 =>
     rintro H6 ⟨s6,nB⟩;rw[if_neg nB] at k1 k2;have sH6:=sH5.trans s6;have ht6:=s6 _ _ ht5;have hl6:=s6 _ _ hl5;have hc6:=s6 _ _ hc5;refine' c22 (A:=fun(H7:Hp)=>Same H6 H7/\¬(ws.getD 0 "" = "folder"/\rs=[("alone" : Str)])) (fun rest=>?g5) ?g6
     case g5 =>
      refine⟨_,rfl,l,_,_,_,rfl,rfl,SqL.of hl6,a0,rfl,_,rfl,?_⟩;refine a50 (fun q=>?_) (fun q=>a76 ((by generalize hX:H6=HX;exact rest HX ⟨hX ▸ Same.refl _,fun x=>q (yes x.1)⟩)));refine⟨_,rfl,by show 1<=zL;decide,fun d hd=>?_⟩;have s7:Same H6 (upd H6 d (.lst [V.str "alone"])):=(Same.refl _).upd hd;have hd7:(upd H6 d (.lst [V.str "alone"])) d=some (.lst [V.str "alone"]):=a01;generalize (upd H6 d (.lst [V.str "alone"]))=H7 at s7 hd7 ⊢;refine⟨c,d,rs,["alone"],rfl,rfl,SqL.of (s7 _ _ hc6),SqL.of hd7,_,rfl,?_⟩;refine a50 (fun q2=>?_) (fun q2=>rest H7 ⟨s7,fun x=>q2 (Az x.2)⟩);rw[if_pos ⟨say q,AJ q2⟩] at k1;have ht7:=s7 _ _ ht6;refine⟨_,rfl,by show 3<=zL;decide,fun v hv=>⟨by show 1<=zL;decide,fun a ha=>?_⟩⟩;have s8:=((sH6.trans s7).upd hv (o:=.tup [V.ref t,V.str "folder", V.non])).upd ha (o:=.lst [V.ref v]);have sv:Same H7 (upd (upd H7 v (.tup [V.ref t,V.str "folder", V.non])) a (.lst [V.ref v])):=((Same.refl _).upd hv).upd ha;exact k1 _ rfl a (.ref v) _ a01 ⟨v,t,rfl,sv _ _ ht7,.non,rfl,by rw[a07 (a04 (H:=upd H7 v _) a01 ha),a01]⟩ s8
     case g6 =>
      rintro H7 ⟨s7,nC⟩;rw[if_neg nC] at k1 k2;have sH7:=sH6.trans s7;have ht7:=s7 _ _ ht6;have hl7:=s7 _ _ hl6;have hc7:=s7 _ _ hc6;refine' c22 (A:=fun(H8:Hp)=>Same H7 H8/\¬(ws.getD 0 "" = "folder"/\rs.length=2/\rs.getD 0 "" = "over"/\a49 8 (rs.getD 1 "")≠none)) (fun rest=>?g7) ?g8
      case g7 =>
       refine⟨_,rfl,l,_,_,_,rfl,rfl,SqL.of hl7,a0,rfl,_,rfl,?_⟩;refine a50 (fun q=>?_) (fun q=>a76 ((by generalize hX:H7=HX;exact rest HX ⟨hX ▸ Same.refl _,fun x=>q (yes x.1)⟩)));refine⟨_,rfl,c,_,rfl,.inl (SqL.of hc7),rfl,_,rfl,?_⟩;refine a50 (fun q1=>?_) (fun q1=>a76 ((by generalize hX:H7=HX;exact rest HX ⟨hX ▸ Same.refl _,fun x=>q1 (Az (by rw[Aj,x.2.1];rfl))⟩)));have l1:rs.length=2:=by have:=AJ q1;injection this with this;rw[Aj] at this;lia
       have b0:atI (rs.map V.str) (0:Int)=some (V.str (rs.getD 0 "")):=d98 (i:=0) (b66 (by lia));have b1:atI (rs.map V.str) (1:Int)=some (V.str (rs.getD 1 "")):=d98 (i:=1) (b66 (by lia));refine⟨_,rfl,c,_,_,_,rfl,rfl,SqL.of hc7,b0,rfl,_,rfl,?_⟩;refine a50 (fun q2=>?_) (fun q2=>a76 ((by generalize hX:H7=HX;exact rest HX ⟨hX ▸ Same.refl _,fun x=>q2 (Az (by rw[x.2.2.1]))⟩)));have l2:rs.getD 0 "" = "over" := by have:=AJ q2;injection this
       refine⟨_,rfl,c,_,_,_,rfl,rfl,SqL.of hc7,b1,rs.getD 1 "", 8,rfl,b33 hwr 1,fun bs e2 t2 H8 ht8 s8=>?_,fun e2 H8 s8=>?_⟩
       ·refine⟨_,rfl,a78 ?_⟩;rw[if_pos ⟨say q,l1,l2,by rw[e2];exact fun z=>nomatch z⟩] at k1;refine⟨_,rfl,_,rfl,c,_,_,_,rfl,rfl,SqL.of (s8 _ _ hc7),b1,rs.getD 1 "", 8,rfl,b33 hwr 1,fun bs' e3 t3 H9 ht9 s9=>?_,fun e3=>by rw[e2] at e3;cases e3⟩;rw[e3] at k1;have hta:=s9 _ _ (s8 _ _ ht7);refine⟨by show 3<=zL;decide,fun v hv=>⟨by show 1<=zL;decide,fun a ha=>?_⟩⟩;have sb:=((sH7.trans (s8.trans s9)).upd hv (o:=.tup [V.ref t,V.str "folder", V.ref t3])).upd ha (o:=.lst [V.ref v]);have sv:Same H9 (upd (upd H9 v (.tup [V.ref t,V.str "folder", V.ref t3])) a (.lst [V.ref v])):=((Same.refl _).upd hv).upd ha;exact k1 _ rfl a (.ref v) _ a01 ⟨v,t,rfl,sv _ _ hta,.ref t3,⟨t3,rfl,sv _ _ ht9⟩,by rw[a07 (a04 (H:=upd H9 v _) a01 ha),a01]⟩ sb
       ·exact⟨_,rfl,a76 (rest H8 ⟨s8,fun x=>x.2.2.2 e2⟩)⟩
      case g8 =>
       rintro H8 ⟨s8,nD⟩;rw[if_neg nD] at k2;exact⟨by show 0<=zL;decide,fun a ha=>k2 rfl a _ a01 ((sH7.trans s8).upd ha)⟩
  ·rw[e,Option.bind_none] at k2;refine⟨_,rfl,_,rfl,l,_,rfl,SqL.of (s2 _ _ (sA _ _ hl)),fun c hc=>?_⟩;refine⟨_,rfl,_,rfl,a78 (a78 ⟨by show 0<=zL;decide,fun a ha=>k2 rfl a _ a01 (((sA.trans s2).upd hc).upd ha)⟩)⟩
end
theorem e45 (ws:List Str)(h:0 < ws.length):e06 ws=(b87 ws).bind fun x=>if x.1=[] then none else some x:=by
 have en:("gone" : Str) ≠ "file" := by decide +kernel
 have en2:("gone" : Str) ≠ "folder" := by decide +kernel
 have en3:("file" : Str) ≠ "folder" := by decide +kernel
 have e0:a49 8 "" = none:=by decide +kernel
 have e1:a49 9 "" = none:=by decide +kernel
 obtain⟨w0,r,rfl⟩:∃ w0 r,ws=w0::r:=by
  cases ws with
  | nil=>cases h
  | cons a r=>exact⟨a,r,rfl⟩
 have d0:(w0::r).getD 0 "" = w0:=rfl;have d2:(w0::r).drop 2=r.drop 1:=rfl;unfold e06 b87;rw[d0,d2];by_cases hg:w0 = "gone"
 ·subst hg;rw[if_neg en2,if_neg en,if_pos rfl];rw[show decide (V.str "gone" = V.str "gone")=true from Az rfl,if_pos rfl,show(8:Int)+1=9 from rfl];unfold d91;cases r with
  | nil=>rw[if_pos (by decide)];show(a49 9 "").bind _=_;rw[e1];rfl
  | cons w1 r =>
   have d1:(("gone" : Str)::w1::r++[("" : Str)]).getD 1 "" = w1:=rfl;rw[d1,show(("gone" : Str)::w1::r).getD 1 "" = w1 from rfl,show(w1::r).drop 1=r from rfl];cases r with
   | nil =>
    rw[if_neg (by show ¬ 2≠2;decide)];cases a49 9 w1 with
    | none=>rfl
    | some p =>
     rw[oB,Option.map_some,oB];by_cases hp:p=[]
     ·rw[if_pos hp,if_pos hp]
     ·rw[if_neg hp,if_neg hp,if_pos ⟨rfl,rfl⟩]
   | cons w2 r =>
    rw[if_pos (by show r.length+1+1+1≠2;lia)];cases a49 9 w1 with
    | none=>rfl
    | some p =>
     rw[oB,Option.bind_none];by_cases hp:p=[]
     ·rw[if_pos hp]
     ·rw[if_neg hp,if_neg (fun x=>by cases x.2),if_neg (fun x=>en x.1),if_neg (fun x=>en2 x.1),if_neg (fun x=>en2 x.1)]
 ·rw[show decide (V.str w0=V.str "gone")=false from Fq (fun x=>hg (by injection x)),if_neg (fun x=>by cases x),show(8:Int)+0=8 from rfl];by_cases hf:w0 = "folder"
  ·subst hf;rw[if_pos rfl];unfold d69 b17;cases r with
   | nil=>rw[if_pos (by decide)];show(a49 8 "").bind _=_;rw[e0];rfl
   | cons w1 r =>
    have d1:(("folder" : Str)::w1::r++[("" : Str)]).getD 1 "" = w1:=rfl;rw[d1,show(("folder" : Str)::w1::r).getD 1 "" = w1 from rfl,show(w1::r).drop 1=r from rfl,show(("folder" : Str)::w1::r).drop 2=r from rfl];cases r with
    | nil =>
     rw[if_pos (by show 2 < 3;decide)];cases a49 8 w1 with
     | none=>rfl
     | some p =>
      rw[oB,Option.bind_none];by_cases hp:p=[]
      ·rw[if_pos hp]
      ·rw[if_neg hp,if_neg (fun x=>hg x.1),if_neg (fun x=>en3 x.1.symm),if_neg (fun x=>by cases x.2),if_neg (fun x=>by cases x.2.1)]
    | cons w2 r =>
     rw[if_neg (by show ¬ r.length+1+1+1 < 3;lia)];cases a49 8 w1 with
     | none=>rfl
     | some p =>
      rw[oB,oB];rw[show(("folder" : Str)::w1::w2::r).getD 2 "" = w2 from rfl,show(("folder" : Str)::w1::w2::r).getD 3 "" = r.getD 0 "" from rfl,show(w2::r).getD 0 "" = w2 from rfl,show(w2::r).getD 1 "" = r.getD 0 "" from rfl];rw[show(("folder" : Str)::w1::w2::r).length=r.length+3 from rfl,show(w2::r).length=r.length+1 from rfl];by_cases ha:w2::r=[("alone" : Str)]
      ·rw[if_pos ha,oB];by_cases hp:p=[]
       ·rw[if_pos hp,if_pos hp]
       ·rw[if_neg hp,if_neg hp,if_neg (fun x=>hg x.1),if_neg (fun x=>en3 x.1.symm),if_pos ⟨rfl,ha⟩]
      ·rw[if_neg ha];by_cases hc:r.length+3≠4∨w2 ≠ "over"
       ·rw[if_pos hc,Option.bind_none];by_cases hp:p=[]
        ·rw[if_pos hp]
        ·rw[if_neg hp,if_neg (fun x=>hg x.1),if_neg (fun x=>en3 x.1.symm),if_neg (fun x=>ha x.2),if_neg (fun x=>by rcases hc with y | y;have:=x.2.1;lia;exact y x.2.2.1)]
       ·rw[if_neg hc];have hc1:r.length+1=2:=by
         rcases Nat.lt_trichotomy r.length 1 with y | y | y
         ·exact absurd (.inl (by lia)) hc
         ·lia
         ·exact absurd (.inl (by lia)) hc
        have hc2:w2 = "over" := Classical.byContradiction fun y=>hc (.inr y);cases q:a49 8 (r.getD 0 "") with
        | none =>
         rw[Option.map_none,Option.bind_none];by_cases hp:p=[]
         ·rw[if_pos hp]
         ·rw[if_neg hp,if_neg (fun x=>hg x.1),if_neg (fun x=>en3 x.1.symm),if_neg (fun x=>ha x.2),if_neg (fun x=>x.2.2.2 rfl)]
        | some b =>
         rw[Option.map_some,oB];by_cases hp:p=[]
         ·rw[if_pos hp,if_pos hp]
         ·rw[if_neg hp,if_neg hp,if_neg (fun x=>hg x.1),if_neg (fun x=>en3 x.1.symm),if_neg (fun x=>ha x.2),if_pos ⟨rfl,hc1,hc2,fun z=>nomatch z⟩]
  ·rw[if_neg hf];by_cases hl:w0 = "file"
   ·subst hl;rw[if_pos rfl];unfold e03 b17;cases r with
    | nil=>rw[if_pos (by decide)];show(a49 8 "").bind _=_;rw[e0];rfl
    | cons w1 r =>
     have d1:(("file" : Str)::w1::r++[("" : Str)]).getD 1 "" = w1:=rfl;rw[d1,show(("file" : Str)::w1::r).getD 1 "" = w1 from rfl,show(w1::r).drop 1=r from rfl,show(("file" : Str)::w1::r).getD 2 "" = r.getD 0 "" from rfl,show(("file" : Str)::w1::r).length=r.length+2 from rfl];by_cases h1:r.length=1
     ·rw[if_neg (by lia)];cases a49 8 w1 with
      | none=>rfl
      | some p =>
       rw[oB,oB];cases q:nuF (r.getD 0 "") with
       | none =>
        rw[Option.map_none,Option.bind_none];by_cases hp:p=[]
        ·rw[if_pos hp]
        ·rw[if_neg hp,if_neg (fun x=>hg x.1),if_neg (fun x=>absurd x.2.2 (by decide)),if_neg (fun x=>hf x.1),if_neg (fun x=>hf x.1)]
       | some n =>
        rw[Option.map_some,oB];by_cases hp:p=[]
        ·rw[if_pos hp,if_pos hp]
        ·rw[if_neg hp,if_neg hp,if_neg (fun x=>hg x.1),if_pos ⟨rfl,h1,i27 q⟩];rfl
     ·rw[if_pos (by lia),Option.bind_none];cases a49 8 w1 with
      | none=>rfl
      | some p =>
       rw[oB];by_cases hp:p=[]
       ·rw[if_pos hp]
       ·rw[if_neg hp,if_neg (fun x=>hg x.1),if_neg (fun x=>h1 x.2.1),if_neg (fun x=>hf x.1),if_neg (fun x=>hf x.1)]
   ·rw[if_neg hl,if_neg hg,Option.bind_none];cases a49 8 ((w0::r++[("" : Str)]).getD 1 "") with
    | none=>rfl
    | some p =>
     rw[oB];by_cases hp:p=[]
     ·rw[if_pos hp]
     ·rw[if_neg hp,if_neg (fun x=>hg x.1),if_neg (fun x=>hl x.1),if_neg (fun x=>hf x.1),if_neg (fun x=>hf x.1)]
def b32 (z:Str):Str:=(Txt.split z BE).getD 0 ""
def b57 (z:Str):Bool:=!(Builtin.Str.occurrences z BE 0 z.length 1).isEmpty
def c61 (z:Str):Str:=Txt.slice z (some ((b32 z).length+2)) none
def c59 (z:Str):Option Pr:=if b57 z=true/\txB (c61 z)=false then none else if b32 z = "data"/\b57 z=true then some (none,some (c61 z)) else
 if Txt.slice (b32 z) none (some 8)≠DO then none else(a49 8 (Txt.slice (b32 z) (some 8) none)).bind fun p=>if p=[] then none else some (some p,if b57 z=true then some (c61 z) else none)
def c86:Sp:=fun vs H Q _=>∃ z:Str,vs=[.str z]/\z.length<=1000000 /\
 (∀ x,c59 z=some x->∀(a:Addr) (v:V)(H':Hp),H' a=some (.lst [v])->PairV H' v x->Same H H'->Q (.ref a) H')/\(c59 z=none->∀(a:Addr)(H':Hp),H' a=some (.lst [])->Same H H'->Q (.ref a) H')
theorem g50 {z:Str}(h:z.length<=1000000):(b32 z).length<=1000000:=b33 (b56 h BE) 0
theorem c71 (z:Str):0 < (Txt.split z BE).length:=by
 unfold Txt.split;split
 ·exact Nat.one_pos
 ·split
  ·exact Nat.one_pos
  ·unfold Builtin.Str.partsBetween;rw[Aj,List.length_zip,Cq,Bj,Aj];show 0 < min _ _;simp
section
theorem scPairOf:FnScope ["_law_row", "_law_head", "_law_text_here"] ["_law_row"] (a41 d89):=.of
theorem g16 {f:Addr}{fd:FD}(F:Fun K "_law_pair_of" "_law_pair_of" d89 f fd)(mLen:mg "len" = none)(mAny:mg "any" = none)(DP:Def P w K mg base 1 "_law_path_of" ["_law_word_here", "_law_most"] c30):FnOk P w K mg base CX0 2 f fd ["_law_row"] c86:=by
 refine F.ok scPairOf (fun vs H Q E h=>?_) (fun cdv A outer s H vs Q E hr h=>?_)
 ·obtain⟨z,rfl,_⟩:=h;rfl
 ·obtain⟨z,rfl,hz,k1,k2⟩:=h;have nd:=scPairOf.nd;have hu:=c23 hr;refine⟨_,a03 (a43 1 nd (a45 a44 (a77 pS pZ pY a90 (pv 0) (a00 a37 a02)) a05))
   (a03 (a43 2 nd a55)
   (a03 (a46 (a08 c39 a37 (pv 0) (by with_unfolding_all rfl))
     (a03 (a43 2 nd (a61 c11 (pv 0) (a65 (a47 a80 (a09 a51 (by rfl) mLen bLn (a00 (pv 1) a02)) a05)) a73))
     (a06 (a46 (PW.pt (a94 (a08 b92 (a09 a51 (by rfl) mLen bLn (a00 (pv 2) a02)) a05 (a38 _)) (a79 (a83 (a09 (c29 rfl) (by rfl) mAny PyProof.Rows.boot_any (a00 (a82 (x := "_law_sign") scPairOf .of (by decide +kernel) (c73 (pv 2))
       (fun C fp s H=>f62 (pe_or (c28 b19 b19 a37 (pv 3) a37) (b59 (c28 b19 b19 a37 (pv 3) a37))))) a02)))))) (a06 (a40 (a56 a02))) a39))) a39)
   (a03 (a46 (PW.pt (a97 (a08 a58 (pv 1) a37 (a38 _)) (a93 (a86 (b68 (pv 2)))))) (a06 (a40 (a56 (a00 (a52 (a00 a55 (a00 (pv 2) a02))) a02)))) a39)
   (a03 (a46 (PW.pt (a94 (a08 b98 (a61 c11 (pv 1) a73 (a65 a05)) a37 (a38 _)) (a79 (a08 ((f76 hu).or (i58 hu)) (a42 DP hr (a00 (a61 c11 (pv 1) (a65 a05) a73) (a00 a05 a02))) (a56 (a00 a55 (a00 (a52 a02) a02))) (by with_unfolding_all rfl))))) (a06 (a40 (a56 a02))) a39)
   (a06 (a40 (a56 (a00 (a52 (a00 (a42 DP hr (a00 (a61 c11 (pv 1) (a65 a05) a73) (a00 a05 a02))) (a00 (pv 2) a02))) a02)))))))),?_⟩
  have hzs:z.length<=zL:=by rw[sizeLine_eq];lia
  have hh:=g50 hz;have hhs:(b32 z).length<=zL:=by rw[sizeLine_eq];lia
  refine⟨_,rfl,rfl,z,BE,rfl,rfl,by decide +kernel,hz,fun L hL=>?_⟩;have s1:Same H (upd H L (.lst ((Txt.split z BE).map V.str))):=(Same.refl H).upd hL;have h1:(upd H L (.lst ((Txt.split z BE).map V.str))) L=some (.lst ((Txt.split z BE).map V.str)):=a01;generalize (upd H L (.lst ((Txt.split z BE).map V.str)))=H1 at s1 h1 ⊢;refine⟨L,_,_,_,rfl,rfl,SqL.of h1,d98 (i:=0) (b66 (c71 z)),?_⟩;unfold c59 at k1 k2;refine' e08 (A:=fun(H2:Hp)(b:Option V)=>Same H1 H2/\b=some (if b57 z=true then V.str (c61 z) else V.non)/\¬(b57 z=true/\txB (c61 z)=false)) (fun rest=>?b1) ?b2
  case b1 =>
   refine⟨_,rfl,BE,z,rfl,rfl,_,rfl,?_⟩;show if b57 z=true then _ else _;cases hB:b57 z with
   | false =>
    refine a76 ?_;generalize hb:(some V.non:Option V)=b0;exact(by generalize hX:H1=HX;exact rest HX b0 ⟨hX ▸ Same.refl _,by rw[← hb,hB];rfl,fun x=>by rw[hB] at x;cases x.1⟩)
   | true =>
    rw[hB] at k1 k2;have hts:(c61 z).length<=1000000:=Fz (Txt.slice_le ..) hz;have hts':(c61 z).length<=zL:=by rw[sizeLine_eq];lia
    refine a78 ⟨_,rfl,_,rfl,b32 z,rfl,hhs,_,_,rfl,rfl,_,rfl,z,rfl,hzs,?_⟩;generalize ht:Txt.slice z (some (((b32 z).length:Int)+2)) none=t;have ht':c61 z=t:=ht;rw[ht'] at k1 k2 hts hts';refine⟨_,rfl,t,rfl,hts',_,_,rfl,rfl,_,rfl,?_⟩;refine a50 (fun q=>a78 ?_) (fun q=>?_)
    ·have q':(200:Int) < (t.length:Int):=AJ q
     have:txB t=false:=by
      unfold txB;rw[Fq (by lia)];rfl
     rw[if_pos ⟨rfl,this⟩] at k2;exact⟨by show 0<=zL;decide,fun a ha=>k2 rfl a _ a01 (s1.upd ha)⟩
    have l2:¬((200:Int) < (t.length:Int)):=fun x=>q (Az x);refine⟨_,rfl,t,rfl,b55 (fun i ys H''=>i<=t.cps.size/\H''=H1/\ys=e72 (fun c=>!sgB c) t i) hts' ⟨Fx _,rfl,rfl⟩ (fun i ys H'' ⟨hi,_,e⟩=>by rw[e];exact b89 hi) (fun i ys H'' c hc ⟨hi,e1,e2⟩=>?_) (fun ys H'' ⟨_,e1,e2⟩ D hD=>?_)⟩
    ·obtain⟨hlt,e4⟩:=b37 (f:=fun c=>!sgB c) hc;have kk:∀ b,b=(!sgB c)->i+1<=t.cps.size/\H''=H1/\ys++[V.bl b]=e72 (fun c=>!sgB c) t (i+1):=fun b e=>⟨hlt,e1,by rw[e2,e,e4]⟩;have a1:(!decide ((⟨#[c]⟩:Str).cps.toList < (" " : Str).cps.toList))=decide (32<=c):=by rw[show(" " : Str).cps.toList=[32] by decide +kernel];exact c00 c 32
     have a2:(!decide (("$" : Str).cps.toList < (⟨#[c]⟩:Str).cps.toList))=decide (c<=36):=by rw[show("$" : Str).cps.toList=[36] by decide +kernel];exact c00 36 c
     have a3:(!decide ((⟨#[c]⟩:Str).cps.toList < ("&" : Str).cps.toList))=decide (38<=c):=by rw[show("&" : Str).cps.toList=[38] by decide +kernel];exact c00 c 38
     have a4:(!decide (("~" : Str).cps.toList < (⟨#[c]⟩:Str).cps.toList))=decide (c<=126):=by rw[show("~" : Str).cps.toList=[126] by decide +kernel];exact c00 126 c
     have sg:∀ {p q:Bool},p=(decide (32<=c) && decide (c<=36))->q=(decide (38<=c) && decide (c<=126))->(!(p||q))=!sgB c:=fun {p q} e f=>by
      rw[e,f];unfold sgB;by_cases g1:32<=c <;> by_cases g2:c<=36 <;> by_cases g3:38<=c <;> by_cases g4:c<=126 <;> by_cases g5:c=37 <;> simp[g1,g2,g3,g4,g5] <;> lia
     refine' c22 (A:=fun(H5:Hp)=>H5=H''/\(decide (32<=c) && decide (c<=36))=false) (fun go=>?c1) ?c2
     case c1 =>
      refine⟨_,rfl,_,_,rfl,rfl,_,rfl,?_⟩;rw[a1];by_cases g1:32<=c
      ·rw[Az g1];refine a78 ⟨_,_,rfl,rfl,_,rfl,?_⟩;rw[a2];by_cases g2:c<=36
       ·rw[Az g2];exact a78 ⟨_,rfl,kk _ (sg (p:=true) (q:=decide (38<=c) && decide (c<=126)) (by rw[Az g1,Az g2];rfl) rfl)⟩
       ·rw[Fq g2];exact a76 ((by generalize hX:H''=HX;exact go HX ⟨hX.symm,by rw[Fq g2,Bool.and_false]⟩))
      ·rw[Fq g1];exact a76 ⟨_,rfl,a76 ((by generalize hX:H''=HX;exact go HX ⟨hX.symm,by rw[Fq g1,Bool.false_and]⟩))⟩
     case c2 =>
      rintro H5 ⟨rfl,n1⟩;refine⟨_,rfl,_,_,rfl,rfl,_,rfl,?_⟩;rw[a3];by_cases g3:38<=c
      ·rw[Az g3];refine a78 ⟨_,_,rfl,rfl,_,rfl,?_⟩;rw[a4];exact kk _ (sg (p:=false) (q:=decide (c<=126)) n1.symm (by rw[Az g3,Bool.true_and]))
      ·rw[Fq g3];exact a76 ⟨_,rfl,kk _ (sg (p:=false) (q:=false) n1.symm (by rw[Fq g3,Bool.false_and]))⟩
    ·subst e1;refine⟨D,t.cps.toList.map (fun c=>!sgB c),rfl,SqL.of (by rw[a01,e2,b91]),_,rfl,?_⟩;rw[d84];have et:txB t=(t.cps.toList.map sgB).all id:=by
      unfold txB;rw[Az (by lia),Bool.true_and]
     rw[← et];have sD:Same H'' (upd H'' D (.lst ys)):=(Same.refl _).upd hD;generalize (upd H'' D (.lst ys))=H2 at sD ⊢;cases hb:txB t with
     | false =>
      rw[if_pos ⟨rfl,hb⟩] at k2;exact a78 ⟨by show 0<=zL;decide,fun a ha=>k2 rfl a _ a01 ((s1.trans sD).upd ha)⟩
     | true =>
      refine a76 ?_;generalize hb0:(some (V.str t):Option V)=b0;exact rest H2 b0 ⟨sD,by rw[← hb0,hB,ht'];rfl,fun x=>by rw[ht',hb] at x;cases x.2⟩
  case b2 =>
   rintro H2 b ⟨s2,rfl,nA⟩;rw[if_neg nA] at k1 k2;have sH2:=s1.trans s2;refine' c22 (A:=fun(H3:Hp)=>H3=H2/\¬(b32 z = "data"/\b57 z=true)) (fun rest=>?b3) ?b4
   case b3 =>
    refine⟨_,rfl,rfl,_,rfl,?_⟩;refine a50 (fun q=>?_) (fun q=>a76 ((by generalize hX:H2=HX;exact rest HX ⟨hX.symm,fun x=>q (Az (congrArg V.str x.1))⟩)));have e1:b32 z = "data" := by have:=AJ q;injection this with this
    cases hB:b57 z with
    | false =>
     refine⟨_,rfl,_,rfl,a76 ?_⟩;generalize hX:H2=HX;have r:=rest HX ⟨hX.symm,fun x=>by rw[hB] at x;cases x.2⟩;rw[hB] at r;exact r
    | true =>
     refine⟨_,rfl,_,rfl,a78 ?_⟩;rw[if_pos ⟨e1,hB⟩] at k1;refine⟨_,rfl,by show 2<=zL;decide,fun v hv=>⟨by show 1<=zL;decide,fun a ha=>?_⟩⟩;have s6:=(sH2.upd hv (o:=.tup [V.non,V.str (c61 z)])).upd ha (o:=.lst [V.ref v]);exact k1 _ rfl a (.ref v) _ a01 ⟨v,.non,.str (c61 z),rfl,rfl,rfl,by rw[a07 (a04 (H:=upd H2 v _) a01 ha),a01];rfl⟩ s6
   case b4 =>
    rintro H3 ⟨rfl,nB⟩;rw[if_neg nB] at k1 k2;refine⟨_,rfl,_,rfl,b32 z,rfl,hhs,rfl,_,rfl,?_⟩;have h8:(Txt.slice (b32 z) (some 8) none).length<=1000000:=Fz (Txt.slice_le ..) hh;refine a50 (fun q=>a78 ?_) (fun q=>?_)
    ·have e1:Txt.slice (b32 z) none (some 8)≠DO:=fun e=>by
      rw[e] at q;exact absurd q (by decide +kernel)
     rw[if_pos e1] at k2;exact⟨by show 0<=zL;decide,fun a ha=>k2 rfl a _ a01 (sH2.upd ha)⟩
    have e1:Txt.slice (b32 z) none (some 8)=DO:=Classical.byContradiction fun e=>q (by rw[Fq (fun x=>e (by injection x))];rfl);rw[if_neg (fun x=>x e1)] at k1 k2;refine⟨_,rfl,_,rfl,b32 z,rfl,hhs,Txt.slice (b32 z) (some 8) none,8,rfl,h8,fun zs e t H4 ht s4=>?_,fun e H4 s4=>?_⟩
    ·rw[e,oB] at k1 k2;refine⟨by show 0<=zL;decide,fun u hu2=>⟨by show 2<=zL;decide,fun M hM=>?_⟩⟩;have s5:Same H4 (upd (upd H4 u (.tup [])) M (.lst [V.non,V.ref u])):=((Same.refl _).upd hu2).upd hM;have hM5:(upd (upd H4 u (.tup [])) M (.lst [V.non,V.ref u])) M=some (.lst [V.non,V.ref u]):=a01;have hu5:(upd (upd H4 u (.tup [])) M (.lst [V.non,V.ref u])) u=some (.tup []):=by rw[a07 (a04 (H:=upd H4 u _) a01 hM),a01]
     generalize (upd (upd H4 u (.tup [])) M (.lst [V.non,V.ref u]))=H5 at s5 hM5 hu5 ⊢;refine .inl ⟨t,M,zs,_,[none,some []],rfl,s5 _ _ ht,rfl,SqL.of hM5,.cons rfl (.cons ⟨u,rfl,hu5⟩ .nil),_,rfl,?_⟩;have sH5:=sH2.trans (s4.trans s5);by_cases hp:zs=[]
     ·rw[if_pos hp] at k2;refine a50 (fun _=>⟨by show 0<=zL;decide,fun a ha=>k2 rfl a _ a01 (sH5.upd ha)⟩) (fun q=>absurd (Az (by rw[hp];simp)) q)
     ·rw[if_neg hp] at k1;refine a50 (fun q=>absurd (AJ q) (by simp[hp])) (fun _=>?_);refine⟨_,rfl,_,rfl,b32 z,rfl,hhs,Txt.slice (b32 z) (some 8) none,8,rfl,h8,fun zs' e' t' H6 ht6 s6=>?_,fun e'=>by rw[e] at e';cases e'⟩;rw[e] at e';cases e';refine⟨_,rfl,by show 2<=zL;decide,fun v hv=>⟨by show 1<=zL;decide,fun a ha=>?_⟩⟩;generalize hx:(if b57 z=true then V.str (c61 z) else V.non)=x at hv ha ⊢;have s7:=((sH5.trans s6).upd hv (o:=.tup [V.ref t',x])).upd ha (o:=.lst [V.ref v]);have sv:Same H6 (upd (upd H6 v (.tup [V.ref t',x])) a (.lst [V.ref v])):=((Same.refl _).upd hv).upd ha;exact k1 _ rfl a (.ref v) _ a01 ⟨v,.ref t',x,rfl,⟨t',rfl,sv _ _ ht6⟩,by rw[← hx];cases b57 z <;> rfl,by rw[a07 (a04 (H:=upd H6 v _) a01 ha),a01]⟩ s7
    ·rw[e,Option.bind_none] at k2;refine⟨by show 0<=zL;decide,fun u hu2=>⟨by show 2<=zL;decide,fun M hM=>?_⟩⟩;have s5:Same H4 (upd (upd H4 u (.tup [])) M (.lst [V.non,V.ref u])):=((Same.refl _).upd hu2).upd hM;have hM5:(upd (upd H4 u (.tup [])) M (.lst [V.non,V.ref u])) M=some (.lst [V.non,V.ref u]):=a01;have hu5:(upd (upd H4 u (.tup [])) M (.lst [V.non,V.ref u])) u=some (.tup []):=by rw[a07 (a04 (H:=upd H4 u _) a01 hM),a01]
     generalize (upd (upd H4 u (.tup [])) M (.lst [V.non,V.ref u]))=H5 at s5 hM5 hu5 ⊢;refine .inr ⟨M,_,[none,some []],rfl,rfl,SqL.of hM5,.cons rfl (.cons ⟨u,rfl,hu5⟩ .nil),_,rfl,?_⟩;refine a50 (fun _=>⟨by show 0<=zL;decide,fun a ha=>k2 rfl a _ a01 ((sH2.trans (s4.trans s5)).upd ha)⟩) (fun q=>absurd (Az (by simp)) q)
end
theorem a84 (x:Str):x.cps.toList.length=x.length:=Cj
theorem b85 (x:Str) (i j:Nat):(Builtin.Str.strSub x i j).cps.toList=(x.cps.toList.take j).drop i:=by
 show(x.cps.extract i j).toList=_;simp[Array.toList_extract,List.extract_eq_drop_take,List.drop_take]
theorem b21 (x:Str) (n:Nat)(hn:n<=x.length):(Txt.slice x (some (n:Int)) none).cps.toList=x.cps.toList.drop n:=by
 have hL:x.cps.toList.length=x.length:=a84 x;have e0:Builtin.Str.strSliceIndices (some (n:Int)) none 1 x.length=Builtin.Str.strSliceIndices (some (n:Int)) (some (x.length:Int)) 1 x.length:=by
  have h1:¬(x.length:Int) < 0:=by lia
  have h2:max (0:Int) (min (x.length:Int) (x.length:Int))=(x.length:Int):=by lia
  unfold Builtin.Str.strSliceIndices;simp only[if_neg h1,h2];first | rfl | simp
 unfold Txt.slice;rw[e0];have e2:=StrLaws.strSliceIndices_plain (a:=n) (b:=x.length) (len:=x.length) (by lia) (AZ _);have e3:=StrLaws.sliced_plain x (a:=n) (b:=x.length) (by lia) (AZ _);have e2':(Builtin.Str.strSliceIndices (some (n:Int)) (some (x.length:Int)) 1 x.length).length=x.length-n:=by
  rw[e2,Aj,List.length_range]
 split
 ·rename_i q;rw[Bool.and_eq_true] at q
  have:=eq_of_beq q.2
  have e:n=0∨x.length=0:=by lia
  rcases e with e | e
  ·rw[e];rfl
  ·have e1:x.cps.toList=[]:=List.length_eq_zero_iff.mp (by lia);rw[e1,List.drop_nil]
 ·show((Builtin.Str.strSliceIndices (some (n:Int)) (some (x.length:Int)) 1 x.length).filterMap (x.cps[·]?))=_;have e4:(Builtin.Str.strSliceIndices (some (n:Int)) (some (x.length:Int)) 1 x.length).filterMap (x.cps[·]?)=(x.cps.toList.drop n).take (x.length-n):=e3;rw[e4,Dz (by rw[EJ,hL];exact AZ _)]
theorem g09 (x y:Str):Txt.startswith x y=(decide (y.length<=x.length) && (x.cps.toList.take y.length == y.cps.toList)):=by
 unfold Txt.startswith;rw[StrLaws.subAt_eq,List.drop_zero,Nat.zero_add]
theorem e31:BE.cps.toList=[32,61]:=by decide +kernel
theorem d26:BE.length=2:=by decide +kernel
theorem h25 (x:Str) (n:Nat):(Txt.slice x none (some (n:Int))).cps.toList=x.cps.toList.take n:=by
 have hL:x.cps.toList.length=x.length:=a84 x;have e0:Builtin.Str.strSliceIndices none (some (n:Int)) 1 x.length=Builtin.Str.strSliceIndices (some ((0:Nat):Int)) (some ((min n x.length:Nat):Int)) 1 x.length:=by
  have h1:¬(n:Int) < 0:=by lia
  have h2:¬((min n x.length:Nat):Int) < 0:=by lia
  have h3:¬((0:Nat):Int) < 0:=by lia
  have h4:max (0:Int) (min (n:Int) (x.length:Int))=max (0:Int) (min ((min n x.length:Nat):Int) (x.length:Int)):=by lia
  have h5:max (0:Int) (min ((0:Nat):Int) (x.length:Int))=0:=by lia
  unfold Builtin.Str.strSliceIndices;simp only[if_neg h1,if_neg h2,if_neg h3,h4,h5];first | rfl | simp
 unfold Txt.slice;rw[e0];have hm:min n x.length<=x.length:=Nat.min_le_right _ _;have e2:=StrLaws.strSliceIndices_plain (a:=0) (b:=min n x.length) (len:=x.length) (Fx _) hm;have e3:=StrLaws.sliced_plain x (a:=0) (b:=min n x.length) (Fx _) hm;have e2':(Builtin.Str.strSliceIndices (some ((0:Nat):Int)) (some ((min n x.length:Nat):Int)) 1 x.length).length=min n x.length-0:=by
  rw[e2,Aj,List.length_range]
 split
 ·rename_i q;rw[Bool.and_eq_true] at q
  have:=eq_of_beq q.2
  rw[Dz (by rw[hL];lia)]
 ·have e4:(Builtin.Str.strSliceIndices (some ((0:Nat):Int)) (some ((min n x.length:Nat):Int)) 1 x.length).filterMap (x.cps[·]?)=(x.cps.toList.drop 0).take (min n x.length-0):=e3;show((Builtin.Str.strSliceIndices (some ((0:Nat):Int)) (some ((min n x.length:Nat):Int)) 1 x.length).filterMap (x.cps[·]?))=_;rw[e4,List.drop_zero,Nat.sub_zero];rcases Nat.le_total n x.length with y | y
  ·rw[Nat.min_eq_left y]
  ·rw[Nat.min_eq_right y,Dz (by lia),Dz (by lia)]
theorem at_iff {z:Str}{i:Nat}:StrLaws.At z BE z.length i↔(z.cps.toList.drop i).take 2=[32,61]:=by
 constructor
 ·rintro⟨_,h⟩;rw[StrLaws.subAt_eq,d26,e31] at h;exact eq_of_beq h
 ·intro h;refine⟨?_,by rw[StrLaws.subAt_eq,d26,e31,h];rfl⟩;have hl:=congrArg List.length h;rw[CQ,EJ,a84,show([32,61]:List Nat).length=2 from rfl] at hl;rw[d26];lia
theorem h65 (z:Str):¬ Builtin.Str.strKind z < Builtin.Str.strKind BE:=by
 rw[show Builtin.Str.strKind BE=1 by decide +kernel];unfold Builtin.Str.strKind;split
 ·omega
 ·split <;> omega
theorem h11 (z:Str):(b57 z=false/\b32 z=z/\∀ i,¬(z.cps.toList.drop i).take 2=[32,61])∨∃ i,b57 z=true/\b32 z=Builtin.Str.strSub z 0 i/\(z.cps.toList.drop i).take 2=[32,61]/\∀ k < i,¬(z.cps.toList.drop k).take 2=[32,61]:=by
 rcases StrLaws.occ_head z BE 1 (AZ _) with⟨e,n⟩ | ⟨i,r,e,ha,n⟩
 ·refine .inl ⟨by unfold b57;rw[e];rfl,?_,fun i h=>n i (at_iff.mpr h)⟩;have e2:Builtin.Str.occurrences z BE 0 z.length (z.length+1)=[]:=by
   rcases StrLaws.occ_head z BE (z.length+1) (by lia) with⟨e,_⟩ | ⟨i,r,_,ha,_⟩
   ·exact e
   ·exact absurd ha (n i)
  unfold b32 Txt.split;rw[e2];split
  ·rfl
  ·rfl
 ·refine .inr ⟨i,by unfold b57;rw[e];rfl,?_,at_iff.mp ha,fun k hk h=>n k hk (at_iff.mpr h)⟩;obtain⟨r2,e2⟩:∃ r2,Builtin.Str.occurrences z BE 0 z.length (z.length+1)=i::r2:=by
   rcases StrLaws.occ_head z BE (z.length+1) (by lia) with⟨_,n2⟩ | ⟨j,r2,e2,hj,n2⟩
   ·exact absurd ha (n2 i)
   ·rcases Nat.lt_trichotomy i j with y | y | y
    ·exact absurd ha (n2 i y)
    ·exact⟨r2,by rw[e2,y]⟩
    ·exact absurd hj (n j y)
  have hlen:¬ z.length < BE.length:=by have:=ha.1;lia
  unfold b32 Txt.split;rw[if_neg (by rw[Fq hlen,Fq (h65 z)];exact Fj),e2,if_neg (by exact Fj)];rfl
theorem b29 (z y:Str):Txt.startswith z y=true↔z.cps.toList.take y.length=y.cps.toList:=by
 rw[g09,Bool.and_eq_true,beq_iff_eq];constructor
 ·exact fun h=>h.2
 ·intro h;refine⟨Az ?_,h⟩;have hl:=congrArg List.length h;rw[CQ,a84,a84] at hl;lia
theorem e28:DE.cps.toList=[100,97,116,97,32,61]:=by decide +kernel
theorem c32:DO.cps.toList=[100,97,116,97,32,111,102,32]:=by decide +kernel
theorem c60:("data" : Str).cps.toList=[100,97,116,97]:=by decide +kernel
theorem e49 {l:List Nat}{i:Nat}(h:(l.drop i).take 2=[32,61]):l[i]?=some 32/\l[i+1]?=some 61:=by
 have h0:((l.drop i).take 2)[0]?=some 32:=by rw[h];rfl
 have h1:((l.drop i).take 2)[1]?=some 61:=by rw[h];rfl
 rw[List.getElem?_take_of_lt (by lia),List.getElem?_drop] at h0 h1;exact⟨h0,h1⟩
theorem d51 {m:Int}{z:Str}{a:Nat}{r:List Nat}(h:z.cps.toList=a::r)(ha:a≠47):a49 m z=none:=by
 unfold a49;rw[if_neg,if_pos (d17 fun r' e=>by rw[h] at e;injection e with e;exact ha e)]
 intro e;rw[e,show SL.cps.toList=[47] by decide +kernel] at h;injection h with h
 exact ha h.symm
theorem e11 (z:Str):c59 z=b20 z:=by
 have D0:Txt.startswith z DE=true↔z.cps.toList.take 6=[100,97,116,97,32,61]:=by
  rw[b29,e28,show DE.length=6 by decide +kernel]
 have O0:Txt.startswith z DO=true↔z.cps.toList.take 8=[100,97,116,97,32,111,102,32]:=by
  rw[b29,c32,show DO.length=8 by decide +kernel]
 have toDO:∀ x:Str,Txt.slice x none (some 8)=DO↔x.cps.toList.take 8=[100,97,116,97,32,111,102,32]:=fun x=>by
  have e:(Txt.slice x none (some (8:Int))).cps.toList=x.cps.toList.take 8:=h25 x 8;constructor
  ·intro h;rw[← e,h,c32]
  ·intro h;exact Srt.str_ext (by rw[e,h,c32])
 have get8:z.cps.toList.take 8=[100,97,116,97,32,111,102,32]->8<=z.length/\∀ k < 8,z.cps.toList[k]?=[100,97,116,97,32,111,102,32][k]?:=fun h=>by
  have hl:=congrArg List.length h;rw[CQ,a84,show([100,97,116,97,32,111,102,32]:List Nat).length=8 from rfl] at hl;refine⟨by lia,fun k hk=>?_⟩;rw[← h,List.getElem?_take_of_lt hk]
 have deAt:Txt.startswith z DE=true->(z.cps.toList.drop 4).take 2=[32,61]/\z.cps.toList.take 4=[100,97,116,97]:=fun h=>by
  have q:=D0.mp h;refine⟨by rw[List.take_drop,show 4+2=6 from rfl,q];rfl,?_⟩;have e:(z.cps.toList.take 6).take 4=z.cps.toList.take 4:=by rw[List.take_take];rfl
  rw[← e,q];rfl
 have small:∀ k < 4,z.cps.toList.take 4=[100,97,116,97]->¬(z.cps.toList.drop k).take 2=[32,61]:=fun k hk h e=>by
  have g:=(e49 e).1;rw[show z.cps.toList[k]?=[100,97,116,97][k]? by rw[← h,List.getElem?_take_of_lt hk]] at g
  have:k=0∨k=1∨k=2∨k=3:=by lia
  rcases this with rfl | rfl | rfl | rfl <;> exact absurd g (by decide)
 have noDE:Txt.startswith z DE≠true->Txt.startswith z DE=false:=fun h=>by
  cases q:Txt.startswith z DE with
  | false=>rfl
  | true=>exact absurd q h
 rcases h11 z with⟨hB,hd,no⟩ | ⟨i,hB,hd,ha,mn⟩
 ·have nDE:¬ Txt.startswith z DE=true:=fun q=>no 4 (deAt q).1;by_cases hO:z.cps.toList.take 8=[100,97,116,97,32,111,102,32]
  ·have bc:(Txt.slice z (some 8) none).cps.toList=z.cps.toList.drop 8:=b21 z 8 (get8 hO).1;have ep:Txt.partition (Txt.slice z (some 8) none) BE=(Txt.slice z (some 8) none,Str.empty,Str.empty):=by
    unfold Txt.partition;rcases StrLaws.occ_head (Txt.slice z (some 8) none) BE 1 (AZ _) with⟨e,_⟩ | ⟨j,r,e,hj,_⟩
    ·rw[e]
    ·have h2:=at_iff.mp hj;rw[bc,List.drop_drop] at h2;exact absurd h2 (no _)
   unfold c59 b20 b17;rw[hB,hd,ep,if_neg (fun x=>by cases x.1),if_neg (fun x=>by cases x.2),if_neg (fun x=>x ((toDO z).mpr hO)),if_neg nDE,if_pos (O0.mpr hO)];show(a49 8 (Txt.slice z (some 8) none)).bind _=(a49 8 (Txt.slice z (some 8) none)).bind _;cases a49 8 (Txt.slice z (some 8) none) with
   | none=>rfl
   | some p =>
    rw[oB,oB];by_cases hp:p=[]
    ·rw[if_pos hp,if_pos hp]
    ·rw[if_neg hp,if_neg hp];rfl
  ·unfold c59 b20;rw[hB,hd,if_neg (fun x=>by cases x.1),if_neg (fun x=>by cases x.2),if_pos (fun x=>hO ((toDO z).mp x)),if_neg nDE,if_neg (fun x=>hO (O0.mp x))]
 ·have hlen:i+2<=z.length:=by have:=(at_iff.mpr ha).1;rw[d26] at this;exact this
  have hdc:(b32 z).cps.toList=z.cps.toList.take i:=by rw[hd,b85,List.drop_zero]
  have hdl:(b32 z).length=i:=by rw[← a84,hdc,CQ,a84];lia
  have tc:(c61 z).cps.toList=z.cps.toList.drop (i+2):=by
   unfold c61;rw[hdl];exact b21 z (i+2) hlen
  by_cases hdd:b32 z = "data"
  ·have c4:z.cps.toList.take i=[100,97,116,97]:=by rw[← hdc,hdd,c60]
   have i4:i=4:=by
    have:=congrArg List.length c4
    rw[CQ,a84,show([100,97,116,97]:List Nat).length=4 from rfl] at this;lia
   subst i4;have st:Txt.startswith z DE=true:=D0.mpr (by
    have e:z.cps.toList.take (4+2)=z.cps.toList.take 4++(z.cps.toList.drop 4).take 2:=List.take_add;rw[show 6=4+2 from rfl,e,c4,ha];rfl)
   have et:Txt.slice z (some 6) none=c61 z:=Srt.str_ext (by rw[tc];exact b21 z 6 hlen);unfold c59 b20;rw[hB,if_pos st,et];cases txB (c61 z) with
   | false=>rw[if_pos ⟨rfl,rfl⟩];rfl
   | true=>rw[if_neg (fun x=>by cases x.2),if_pos ⟨hdd,rfl⟩];rfl
  ·have nDE:¬ Txt.startswith z DE=true:=fun q=>by
    obtain⟨a4,c4⟩:=deAt q;have hi:i=4:=by
     rcases Nat.lt_trichotomy i 4 with y | y | y
     ·exact absurd ha (small i y c4)
     ·exact y
     ·exact absurd a4 (mn 4 y)
    subst hi;exact hdd (Srt.str_ext (by rw[hdc,c4,c60]))
   have Lno:¬ Txt.slice (b32 z) none (some 8)=DO->c59 z=none:=fun hn=>by
    unfold c59;by_cases ht:b57 z=true/\txB (c61 z)=false
    ·rw[if_pos ht]
    ·rw[if_neg ht,if_neg (fun x=>hdd x.1),if_pos hn]
   by_cases hO:z.cps.toList.take 8=[100,97,116,97,32,111,102,32]
   ·obtain⟨h8,g8⟩:=get8 hO;have bc:(Txt.slice z (some 8) none).cps.toList=z.cps.toList.drop 8:=b21 z 8 h8;have i7:7<=i:=by
     rcases Nat.lt_or_ge i 7 with y | y
     ·exfalso;obtain⟨g0,g1⟩:=e49 ha;rw[g8 i (by lia)] at g0;rw[g8 (i+1) (by lia)] at g1
      have:i=0∨i=1∨i=2∨i=3∨i=4∨i=5∨i=6:=by lia
      rcases this with rfl | rfl | rfl | rfl | rfl | rfl | rfl <;> first | exact absurd g0 (by decide) | exact absurd g1 (by decide)
     ·exact y
    rcases Nat.lt_or_ge i 8 with y | y
    ·have e7:i=7:=by lia
     subst e7;rw[Lno (fun e=>by
      have h:=(toDO _).mp e;rw[hdc,List.take_take] at h;have hl:=congrArg List.length h;rw[CQ,show([100,97,116,97,32,111,102,32]:List Nat).length=8 from rfl] at hl;lia)]
     obtain⟨rr,b0⟩:∃ rr,z.cps.toList.drop 8=61::rr:=by
      have g1:=(e49 ha).2;cases q:z.cps.toList.drop 8 with
      | nil =>
       rw[show z.cps.toList[7+1]?=(z.cps.toList.drop 8)[0]? by rw[List.getElem?_drop],q] at g1;cases g1
      | cons a r =>
       rw[show z.cps.toList[7+1]?=(z.cps.toList.drop 8)[0]? by rw[List.getElem?_drop],q] at g1;exact⟨r,by rw[show a=61 from Ez g1]⟩
     have pn:b17 (Txt.partition (Txt.slice z (some 8) none) BE).1=none:=by
      unfold Txt.partition;rcases StrLaws.occ_head (Txt.slice z (some 8) none) BE 1 (AZ _) with⟨e,_⟩ | ⟨j,r,e,hj,_⟩
      ·rw[e];exact d51 (bc.trans b0) (by decide)
      ·rw[e];have h2:=at_iff.mp hj;rw[bc,b0] at h2;cases j with
       | zero =>
        have:=(e49 h2).1
        exact absurd this (by show ¬ some 61=some 32;decide)
       | succ j=>exact d51 (r:=rr.take j) (by rw[b85,bc,b0];rfl) (by decide)
     unfold b20;rw[if_neg nDE,if_pos (O0.mpr hO),pn];rfl
    ·have hm:∀ k,((Txt.slice z (some 8) none).cps.toList.drop k).take 2=(z.cps.toList.drop (8+k)).take 2:=fun k=>by rw[bc,List.drop_drop]
     have ej:8+(i-8)=i:=by lia
     have ep:Txt.partition (Txt.slice z (some 8) none) BE=(Txt.slice (b32 z) (some 8) none,BE,c61 z):=by
      unfold Txt.partition;rcases StrLaws.occ_head (Txt.slice z (some 8) none) BE 1 (AZ _) with⟨e,n⟩ | ⟨j,r,e,hj,n⟩
      ·exact absurd (at_iff.mpr (by rw[hm,ej];exact ha)) (n (i-8))
      ·have h2:=at_iff.mp hj;rw[hm] at h2;have hj8:8+j=i:=by
        rcases Nat.lt_trichotomy (8+j) i with y1 | y1 | y1
        ·exact absurd h2 (mn _ y1)
        ·exact y1
        ·exact absurd (at_iff.mpr (by rw[hm,ej];exact ha)) (n (i-8) (by lia))
       rw[e];have e1:Builtin.Str.strSub (Txt.slice z (some 8) none) 0 j=Txt.slice (b32 z) (some 8) none:=Srt.str_ext (by
        have e3:(Txt.slice (b32 z) (some (8:Int)) none).cps.toList=(b32 z).cps.toList.drop 8:=b21 (b32 z) 8 (by rw[hdl];exact y);rw[b85,List.drop_zero,bc,e3,hdc,← hj8,List.take_drop])
       have e2:Builtin.Str.strSub (Txt.slice z (some 8) none) (j+BE.length) (Txt.slice z (some 8) none).length=c61 z:=Srt.str_ext (by
        rw[b85,Dz (by rw[a84];exact AZ _),bc,tc,d26,List.drop_drop,show 8+(j+2)=i+2 by lia])
       show(Builtin.Str.strSub (Txt.slice z (some 8) none) 0 j,BE,Builtin.Str.strSub (Txt.slice z (some 8) none) (j+BE.length) (Txt.slice z (some 8) none).length)=_;rw[e1,e2]
     have hsl:Txt.slice (b32 z) none (some 8)=DO:=(toDO _).mpr (by
      rw[hdc,List.take_take,show min 8 i=8 by lia];exact hO)
     have eB:¬(Txt.slice (b32 z) (some 8) none,BE,c61 z).2.1=("" : Str):=show ¬ BE = "" by decide +kernel
     unfold c59 b20 b17;rw[hB,ep,if_neg nDE,if_pos (O0.mpr hO)];cases txB (c61 z) with
     | false =>
      rw[if_pos ⟨rfl,rfl⟩];show none=(a49 8 (Txt.slice (b32 z) (some 8) none)).bind _;cases a49 8 (Txt.slice (b32 z) (some 8) none) with
      | none=>rfl
      | some p =>
       rw[oB];by_cases hp:p=[]
       ·rw[if_pos hp]
       ·rw[if_neg hp,if_neg eB];rfl
     | true =>
      rw[if_neg (fun x=>by cases x.2),if_neg (fun x=>hdd x.1),if_neg (fun x=>x hsl)];show(a49 8 (Txt.slice (b32 z) (some 8) none)).bind _=(a49 8 (Txt.slice (b32 z) (some 8) none)).bind _;cases a49 8 (Txt.slice (b32 z) (some 8) none) with
      | none=>rfl
      | some p =>
       rw[oB,oB];by_cases hp:p=[]
       ·rw[if_pos hp,if_pos hp]
       ·rw[if_neg hp,if_neg hp,if_neg eB];rfl
   ·rw[Lno (fun e=>by
     have h:=(toDO _).mp e;rw[hdc,List.take_take] at h;have hl:=congrArg List.length h;rw[CQ,a84,show([100,97,116,97,32,111,102,32]:List Nat).length=8 from rfl] at hl;rw[show min 8 i=8 by lia] at h;exact hO h)]
    unfold b20;rw[if_neg nDE,if_neg (fun x=>hO (O0.mp x))]
theorem d35 {z:Str}(h:z.cps.toList.take 5=[100,97,116,97,32]):(Txt.split z " ").getD 0 "" = "data" := by
 have e:z.cps.toList=[100,97,116,97]++32::z.cps.toList.drop 5:=by
  have:=List.take_append_drop 5 z.cps.toList
  rw[h] at this;exact this.symm
 rw[show(" " : Str)=⟨#[32]⟩ by decide +kernel,c27,e,d11 _ _ (by decide),Cz];show b00 [100,97,116,97] = "data";decide +kernel
theorem c70 {z:Str}{x:List Str×Ent}(h:b87 (Txt.split z " ")=some x):b20 z=none:=by
 have nd:(Txt.split z " ").getD 0 "" ≠ "data" := fun e=>by
  unfold b87 at h;rw[e,if_neg (by decide +kernel),if_neg (by decide +kernel),if_neg (by decide +kernel)] at h;cases h
 have n1:¬ Txt.startswith z DE=true:=fun q=>nd (d35 (by
  rw[b29,e28,show DE.length=6 by decide +kernel] at q;have e:(z.cps.toList.take 6).take 5=z.cps.toList.take 5:=by rw[List.take_take];rfl
  rw[← e,q];rfl))
 have n2:¬ Txt.startswith z DO=true:=fun q=>nd (d35 (by
  rw[b29,c32,show DO.length=8 by decide +kernel] at q;have e:(z.cps.toList.take 8).take 5=z.cps.toList.take 5:=by rw[List.take_take];rfl
  rw[← e,q];rfl))
 unfold b20;rw[if_neg n1,if_neg n2]
theorem e86 (x:List Str):Srt.lexB x []=false:=by cases x <;> rfl
theorem e76 {x:List Str}(h:x≠[]):Srt.lexB [] x=true:=by
 cases x with
 | nil=>exact absurd rfl h
 | cons a r=>rfl
structure DuSt (H0 H':Hp)(d e p:Addr) (xs ys:List V)(m:b64) (es:List (List Str×Ent)) (ps:List Pr):Prop where
 he:H' e=some (.lst xs)
 hp:H' p=some (.lst ys)
 hd:H' d=some (dP m)
 E:EntsV H' xs es
 Pp:PairsV H' ys ps
 M:∀ zs,(a96 m zs).isSome=true↔zs=[]∨∃ o,(zs,Ent.dir o)∈es
 ml:m.length<=1+es.length
 kp:Kp [d] H0 H'
theorem DuSt.same {H0 H' H'':Hp}{d e p:Addr}{xs ys:List V}{m:b64}{es:List (List Str×Ent)}{ps:List Pr}(h:DuSt H0 H' d e p xs ys m es ps)(s:Same H' H''):DuSt H0 H'' d e p xs ys m es ps :=
 ⟨s _ _ h.he,s _ _ h.hp,s _ _ h.hd,EntsV.tk (Tk.of s) h.E,PairsV.tk (Tk.of s) h.Pp,h.M,h.ml,h.kp.trans (Kp.of s)⟩
def b93 (es:List (List Str×Ent)):List Int:=es.filterMap fun x=>match x.2 with
 | .fil i=>some i
 | _=>none
theorem mem_filN {es:List (List Str×Ent)}{i:Int}:i∈b93 es↔∃ p,(p,Ent.fil i)∈es:=by
 unfold b93;rw[List.mem_filterMap];constructor
 ·rintro⟨⟨p,e⟩,hm,q⟩;cases e with
  | fil j=>cases q;exact⟨p,hm⟩
  | dir o=>cases q
  | gone=>cases q
 ·rintro⟨p,hm⟩;exact⟨_,hm,rfl⟩
def h59:Ent->Str
 | .dir _ => "folder"
 | .fil _ => "file"
 | .gone => "gone"
theorem d81 {H:Hp}{v:V}{p:List Str}{e:Ent}(h:EntV H v p e):∃ t pa tl,v=.ref t/\H pa=some (.tup (p.map V.str))/\H t=some (.tup (V.ref pa::V.str (h59 e)::tl))/\(∀ i,e=.fil i->tl=[V.int i]):=by
 obtain⟨t,pa,rfl,hpa,hk⟩:=h;cases e with
 | gone=>exact⟨t,pa,_,rfl,hpa,hk,fun i q=>nomatch q⟩
 | fil i=>exact⟨t,pa,_,rfl,hpa,hk,fun j q=>by cases q;rfl⟩
 | dir o=>obtain⟨ww,_,h4⟩:=hk;exact⟨t,pa,_,rfl,hpa,h4,fun i q=>nomatch q⟩
theorem g67 {rows:List Str}{i:Nat}{es:List (List Str×Ent)}{ps:List Pr}{y:Str}{x:List Str×Ent}(hrun:Run rows i es ps)(hy:rows[i]?=some y)(hx:b87 (Txt.split y " ")=some x)(h:¬(c96 es x/\ps=[])):h45 rows i:=by
 refine .inl ⟨es,ps,y,hrun,hy,fun es' ps' q=>?_⟩;cases q with
 | ent _ h1 h2 h3=>rw[hx] at h1;cases h1;exact h ⟨h2,h3⟩
 | pr h1 _=>rw[c70 hx] at h1;cases h1
theorem h89 {rows:List Str}{i:Nat}{es:List (List Str×Ent)}{ps:List Pr}{y:Str}(hrun:Run rows i es ps)(hy:rows[i]?=some y)(hx:e06 (Txt.split y " ")=none)(h:∀ x,b20 y=some x->¬ c52 ps x):h45 rows i:=by
 refine .inl ⟨es,ps,y,hrun,hy,fun es' ps' q=>?_⟩;cases q with
 | @ent x h0 h1 h2 h3 =>
  rw[e45 _ (List.length_pos_iff.mpr (b51 y)),h1,oB] at hx;by_cases hp:x.1=[]
  ·have:=h2.1
   rw[hp,e86] at this;cases this
  ·rw[if_neg hp] at hx;cases hx
 | pr h1 h2=>exact h _ h1 h2
def h81:Sp:=fun vs H Q _=>∃(l:Addr) (rows:List Str),vs=[.ref l]/\H l=some (.lst (rows.map V.str))/\rows.length<=2000000/\(∀ y∈rows,y.length<=1000000) /\
 (∀ L,i50 rows L->∀ v H',LayV H' v L->Same H H'->Q v H')/\(∀ n:Nat,h45 rows n->∀ H',Same H H'->Q (.int n) H')
abbrev PvD (rows:List Str)(H2:Hp)(l d:Addr) (i:Nat)(σ:St)(H':Hp):Prop:=∃ e p xs ys m es ps v4 v5 v6 v7 v8,σ=[some (.ref l),some (.ref e),some (.ref p),some (.ref d),v4,v5,v6,v7,v8,none]/\DuSt H2 H' d e p xs ys m es ps/\Run rows i es ps
def forB:Stmt->List Stmt
 | .For _ _ b _ _=>b
 | _=>[]
def ifT:Stmt->List Stmt
 | .If _ b _ _=>b
 | _=>[]
def ifF:Stmt->List Stmt
 | .If _ _ b _=>b
 | _=>[]
def thrd (b:List Stmt):Stmt:=(forB (b.getD 3 (.Pass ⟨0,0,0,0⟩))).getD 2 (.Pass ⟨0,0,0,0⟩)
theorem g01 {X:Cx}{body:List Stmt} (g:List Stmt->List Stmt){D:Ends}{σ:St}{H:Hp}(C:TS->Prop)(h1:∃ u,PSs X (g body) u/\C u)(h2:∀ u,PSs X (g body) u->C u->∃ t,PSs X body t/\t D σ H):∃ t,PSs X body t/\t D σ H:=let ⟨u,a,b⟩:=h1;h2 u a b
section
theorem scDue:FnScope ["_law_rows_here", "_law_entries", "_law_pairs", "_law_folders", "_law_number_here", "_law_row", "_law_entry", "_law_pair", "_law_path", "_law_named"] ["_law_rows_here"] (a41 sDue):=.of
theorem i82 {f:Addr}{fd:FD}(F:Fun K "_law_due" "_law_due" sDue f fd)(mLen:mg "len" = none)(mAny:mg "any" = none)(mMax:mg "max" = none)(mEnum:mg "enumerate" = none)(mTuple:mg "tuple" = none)
 (DE:Def P w K mg base 2 "_law_entry_of" ["_law_words"] e09)(DPr:Def P w K mg base 2 "_law_pair_of" ["_law_row"] c86):FnOk P w K mg base CX0 3 f fd ["_law_rows_here"] h81:=by
 refine F.ok scDue (fun vs H Q E h=>?_) (fun cdv A outer s H vs Q E hr h=>?_)
 ·obtain⟨l,rows,rfl,_⟩:=h;rfl
 ·obtain⟨l,rows,rfl,hl,hlen,hrow,k1,k2⟩:=h;have nd:=scDue.nd;have hu:=c23 hr;refine g01 (List.drop 4) (fun u=>∀(H2:Hp)(d:Addr),l∉[d]->H2 l=some (.lst (rows.map V.str))->(∀ {H':Hp},Kp [d] H2 H'->Same H H')->∀ σ H',PvD rows H2 l d rows.length σ H'->u { nx:=fun _ H'=>Q .non H',rt:=Q } σ H') ⟨_,(a03 (c21 (i:=9) nd rfl (Or.inr rfl) (f50 (x := "_law_entry") 6 scDue .of rfl (b15 (pv 1))
   (fun C fp s H=>b96 (a08 a58 (a45 (show IxR _ (h41 K) from a53) (pv 6) a05) a37 (a38 _))) (fun C fp s H=>a45 (show IxR _ (h41 K) from a53) (pv 6) a05)))
   (a03 (a46 (a08 g71 (a09 (g37 rfl) (by rfl) mMax PyProof.Rows.boot_max (a00 (a47 b60 (pv 9) (a56 (a00 (d48 c19 a05) a02))) a02)) (a09 a36 (by rfl) mLen bLn (a00 (pv 2) a02)) (a38 _)) (a06 (a40 (a09 a36 (by rfl) mLen bLn (a00 (pv 0) a02)))) a39)
   (a03 (a46 (a83 (a09 (c29 rfl) (by rfl) mAny PyProof.Rows.boot_any (a00 (f89 (x := "_law_number_here") (y := "_law_pair") 4 7 scDue ⟨rfl,by decide +kernel,by decide +kernel,by decide +kernel,by decide +kernel,by decide +kernel⟩ rfl rfl (by decide +kernel) (c85 rfl mEnum (a00 (pv 2) a02))
     (fun C fp s H=>f82) (fun C fp s H=>b61 (g29 (b30 (a45 (show IxR _ (h41 K) from a53) (pv 7) a05))) (b59 (a98 (show OpR _ _ (rIn K true) from d56) (pv 4) (pv 9) (by with_unfolding_all rfl))))) a02))) (a06 (a40 (a09 a36 (by rfl) mLen bLn (a00 (pv 0) a02)))) a39)
   (a06 (a40 (a52 (a00 (a63 a64 (by rfl) mTuple PyProof.Rows.Boot.tuple (a00 (pv 1) a02)) (a00 (a63 a64 (by rfl) mTuple PyProof.Rows.Boot.tuple (a00 (pv 2) a02)) a02)))))))),?tl⟩ (fun u hu3 hk3=>?hd)
  case tl =>
   rintro H2 d nld hl2 back σ H' ⟨e,p,xs,ys,m,es,ps,v4,v5,v6,v7,v8,rfl,D,hrun⟩;obtain⟨l0,l1,l2⟩:=hrun.len;have lx:xs.length=es.length:=Paired.length D.E;have ly:ys.length=ps.length:=Paired.length D.Pp;have hl':=D.kp _ _ hl2 nld;refine⟨_,rfl,e,rfl,⟨_,SqL.of D.he⟩,c04 (xs:=xs) (fun j us H''=>j<=es.length/\H''=H'/\us=(b93 (es.take j)).map V.int) (by rw[lx,sizeLine_eq];lia) ⟨Fx _,rfl,rfl⟩ (fun j us H'' ⟨hj,_,e⟩=>?_) (fun j us H'' _ ⟨_,e,_⟩=>by rw[e];exact SqL.of D.he) ?_ ?_⟩
   ·rw[e,Aj];refine Fz (List.length_filterMap_le _ _) ?_;rw[CQ];lia
   ·rintro j us H'' v' hv' ⟨hj,rfl,rfl⟩;obtain⟨⟨xp,xe⟩,hx',hxv⟩:=a99 D.E hv';have hlt:=(Ej.mp hx').1;obtain⟨t,pa,tl,rfl,hpa,ht,hfil⟩:=d81 hxv;have nxt:b93 (es.take (j+1))=b93 (es.take j)++b93 [(xp,xe)]:=by
     rw[EQ,hx'];exact List.filterMap_append
    refine⟨_,rfl,t,_,_,_,rfl,rfl,SqT.of ht,b09 (v:=V.str (h59 xe)) (by decide) rfl,rfl,_,rfl,?_⟩;cases xe with
    | gone=>exact a50 (fun q=>absurd (show decide (V.str "gone" = V.str "file")=true from q) (by decide +kernel)) (fun _=>⟨hlt,rfl,by rw[nxt];show _=(b93 (es.take j)++[]).map V.int;rw[List.append_nil]⟩)
    | dir o=>exact a50 (fun q=>absurd (show decide (V.str "folder" = V.str "file")=true from q) (by decide +kernel)) (fun _=>⟨hlt,rfl,by rw[nxt];show _=(b93 (es.take j)++[]).map V.int;rw[List.append_nil]⟩)
    | fil n =>
     have htl:=hfil n rfl;subst htl;refine a50 (fun _=>?_) (fun q=>absurd (show decide (V.str "file" = V.str "file")=true from Az rfl) q);exact⟨_,rfl,t,_,_,_,rfl,rfl,SqT.of ht,b09 (v:=V.int n) (by decide) rfl,hlt,rfl,by rw[nxt,Bz];rfl⟩
   ·rintro us H'' ⟨_,rfl,rfl⟩ N hN;rw[lx,Dz (AZ _)];have s1':Same H'' (upd H'' N (.lst ((b93 es).map V.int))):=(Same.refl _).upd hN;have hN1:(upd H'' N (.lst ((b93 es).map V.int))) N=some (.lst ((b93 es).map V.int)):=a01;generalize (upd H'' N (.lst ((b93 es).map V.int)))=H3 at s1' hN1 ⊢;have D3:=D.same s1';have lf:(b93 es).length<=es.length:=List.length_filterMap_le _ _;refine⟨_,rfl,_,rfl,by show 1<=zL;decide,fun z hz=>?_⟩;refine⟨N,z,_,_,rfl,rfl,by rw[a07 (a04 hN1 hz)];exact hN1,a01,by rw[Aj,sizeLine_eq];show(b93 es).length+1<=_;lia,fun z2 hz2=>?_⟩;have s2':Same H3 (upd (upd H3 z (.lst [V.int (-(1:Int))])) z2 (.lst ((b93 es).map V.int++[V.int (-(1:Int))]))):=((Same.refl _).upd hz).upd hz2;have hz3:(upd (upd H3 z (.lst [V.int (-(1:Int))])) z2 (.lst ((b93 es).map V.int++[V.int (-(1:Int))]))) z2=some (.lst ((b93 es++[-1]).map V.int)):=by rw[a01,Bz];rfl
    generalize (upd (upd H3 z (.lst [V.int (-(1:Int))])) z2 (.lst ((b93 es).map V.int++[V.int (-(1:Int))])))=H4 at s2' hz3 ⊢;have D4:=D3.same s2';refine⟨z2,b93 es++[-1],rfl,SqL.of hz3,by rw[Bj];exact Nat.succ_pos _,fun Mx hMx hle=>?_⟩;refine⟨_,rfl,p,_,rfl,.inl (SqL.of D4.hp),_,_,rfl,rfl,_,rfl,?_⟩;have hl4:=s2' _ _ (s1' _ _ hl');refine a50 (fun q=>?_) (fun q=>?_)
    ·have q':((ys.length:Nat):Int)<=Mx:=AJ q;refine⟨_,rfl,l,_,rfl,.inl (SqL.of hl4),?_⟩;rw[Aj];refine k2 rows.length (.inr ⟨rfl,es,ps,hrun,fun W=>?_⟩) H4 (back D4.kp);rcases Bq.mp hMx with g | g
     ·obtain⟨pp,hm⟩:=mem_filN.mp g
      have:=W.2 pp Mx hm
      lia
     ·rw[Ax.mp g] at q';lia
    have hall:∀ n∈b93 es,n < (ps.length:Int):=fun n hn=>by
     have h1:=hle n (List.mem_append_left _ hn);have h2:¬((ys.length:Nat):Int)<=Mx:=fun x=>q (Az x);lia
    have hN4:=s2' _ _ hN1;refine⟨_,rfl,p,rfl,⟨_,SqL.of D4.hp⟩,d15 (xs:=ys) (fun j us H''=>Same H4 H''/\∃ bs:List Bool,us=bs.map V.bl/\bs.length=j/\(bs.any id=true↔∃ k,k < j/\∃ y,ps[k]?=some (none,y)/\(k:Int)∉b93 es)) (by rw[ly,sizeLine_eq];lia)
     ⟨Same.refl _,[],rfl,rfl,⟨fun x=>(by cases x),fun⟨k,hk,_⟩=>absurd hk (Nat.not_lt_zero k)⟩⟩ (fun j us H'' ⟨_,bs,e,hb,_⟩=>by rw[e,Aj,hb];exact AZ _) (fun j us H'' _ ⟨s,_⟩=>SqL.of (s _ _ D4.hp)) ?_ ?_⟩
    ·rintro j us H'' v' T2 hv' ⟨s5,bs,rfl,hbl,hiff⟩ hT2;obtain⟨⟨o,zt⟩,hx',hxv⟩:=a99 D4.Pp hv';obtain⟨t,ww,yy,rfl,ho,_,ht⟩:=hxv;have s6:Same H4 (upd H'' T2 (.tup [.int j,.ref t])):=s5.upd hT2;refine⟨T2,_,rfl,SqT.of a01,rfl,_,_,rfl,_,_,rfl,rfl,a78 ?_⟩;have step:∀ b,(b=true↔∃ y,ps[j]?=some (none,y)/\(j:Int)∉b93 es)->Same H4 (upd H'' T2 (.tup [.int j,.ref t]))/\∃ bs':List Bool,bs.map V.bl++[V.bl b]=bs'.map V.bl/\bs'.length=j+1/\(bs'.any id=true↔∃ k,k < j+1/\∃ y,ps[k]?=some (none,y)/\(k:Int)∉b93 es):=fun b hb=>by
      refine⟨s6,bs++[b],by rw[Bz];rfl,by rw[Bj,hbl];rfl,?_⟩;rw[List.any_append,Bool.or_eq_true,hiff];simp only[List.any_cons,List.any_nil,Bool.or_false,id_eq];rw[hb];constructor
      ·rintro(⟨k,hk,q⟩ | q)
       ·exact⟨k,by lia,q⟩
       ·exact⟨j,by lia,q⟩
      ·rintro⟨k,hk,q⟩;by_cases hkj:k=j
       ·subst hkj;exact .inr q
       ·exact .inl ⟨k,by lia,q⟩
     refine⟨_,rfl,t,_,_,_,rfl,rfl,SqT.of (s6 _ _ ht),b09 (v:=ww) (by decide) rfl,_,rfl,?_⟩;cases o with
     | some zs =>
      obtain⟨b,rfl,_⟩:=ho;refine a76 (step false ⟨(fun x=>nomatch x),(fun⟨y,q,_⟩=>by rw[hx'] at q;cases q)⟩)
     | none =>
      cases (show ww=.non from ho);refine a78 ⟨_,rfl,_,rfl,N,_,rfl,.inl (SqL.of (s6 _ _ hN4)),rfl,by rw[List.all_map];exact List.all_eq_true.mpr fun _ _=>rfl,?_⟩;refine step _ ?_;have ein:inV (V.int j) ((b93 es).map V.int)=true↔(j:Int)∈b93 es:=by
       unfold inV;rw[List.any_eq_true];constructor
       ·rintro⟨u,hu1,hu2⟩;obtain⟨n,hn,rfl⟩:=Ex.mp hu1
        have:n=(j:Int):=by simpa [eqV] using hu2
        rw[← this];exact hn
       ·intro hn;exact⟨_,Ex.mpr ⟨_,hn,rfl⟩,by simp[eqV]⟩
      show(!inV (V.int j) ((b93 es).map V.int))=true↔_;rw[Bool.not_eq_true'];constructor
      ·intro q;exact⟨zt,hx',fun hn=>by rw[ein.mpr hn] at q;cases q⟩
      ·rintro⟨y,_,q⟩;cases g:inV (V.int j) ((b93 es).map V.int) with
       | false=>rfl
       | true=>exact absurd (ein.mp g) q
    ·rintro us H'' ⟨s5,bs,rfl,hbl,hiff⟩ B hB;have s6:Same H4 (upd H'' B (.lst (bs.map V.bl))):=s5.upd hB;have hB6:(upd H'' B (.lst (bs.map V.bl))) B=some (.lst (bs.map V.bl)):=a01;generalize (upd H'' B (.lst (bs.map V.bl)))=H6 at s6 hB6 ⊢;have D6:=D4.same s6;refine⟨B,bs,rfl,SqL.of hB6,_,rfl,?_⟩;rw[ly] at hiff;refine a50 (fun q=>?_) (fun q=>?_)
     ·obtain⟨k,hk,y,hky,hno⟩:=hiff.mp q;refine⟨_,rfl,l,_,rfl,.inl (SqL.of (s6 _ _ hl4)),?_⟩;rw[Aj];refine k2 rows.length (.inr ⟨rfl,es,ps,hrun,fun W=>?_⟩) H6 (back D6.kp);obtain⟨pp,hm⟩:=W.1 k y hky;exact hno (mem_filN.mpr ⟨pp,hm⟩)
     ·have W:f47 es ps:=⟨fun k y hky=>by
       have:(k:Int)∈b93 es:=Classical.byContradiction fun g=>q (hiff.mpr ⟨k,(Ej.mp hky).1,y,hky,g⟩)
       exact mem_filN.mp this,fun pp n hm=>hall n (mem_filN.mpr ⟨pp,hm⟩)⟩
      refine⟨_,rfl,e,xs,rfl,.inl ⟨SqL.of D6.he,fun t1 ht1=>?_⟩⟩;have s7:Same H6 (upd H6 t1 (.tup xs)):=(Same.refl _).upd ht1;have h7:(upd H6 t1 (.tup xs)) t1=some (.tup xs):=a01;generalize (upd H6 t1 (.tup xs))=H7 at s7 h7 ⊢;have D7:=D6.same s7;refine⟨_,rfl,p,ys,rfl,.inl ⟨SqL.of D7.hp,fun t2 ht2=>?_⟩⟩;have s8:Same H7 (upd H7 t2 (.tup ys)):=(Same.refl _).upd ht2;have h8:(upd H7 t2 (.tup ys)) t2=some (.tup ys):=a01;generalize (upd H7 t2 (.tup ys))=H8 at s8 h8 ⊢;have D8:=D7.same s8;refine⟨by show 2<=zL;decide,fun t3 ht3=>?_⟩;have s9:Same H8 (upd H8 t3 (.tup [V.ref t1,V.ref t2])):=(Same.refl _).upd ht3;have D9:=D8.same s9;exact k1 ⟨es,ps⟩ ⟨hrun,W⟩ _ _ ⟨t3,t1,t2,xs,ys,rfl,a01,s9 _ _ (s8 _ _ h7),s9 _ _ h8,D9.E,D9.Pp⟩ (back D9.kp)
  case hd =>
   refine g01 (fun b=>ifT (thrd b)) (fun u=>∀(H2:Hp)(d:Addr)(back:∀ {H':Hp},Kp [d] H2 H'->Same H H')(B:St->Hp->Prop) (i:Nat) (y:Str)(e p a a2:Addr)(v8:Option V) (xs ys:List V)(m:b64) (es:List (List Str×Ent)) (ps:List Pr)(H6:Hp) (x:List Str×Ent) (v:V),rows[i]?=some y->Run rows i es ps->DuSt H2 H6 d e p xs ys m es ps->b87 (Txt.split y " ")=some x->x.1≠[]->H6 a=some (.lst [v])->EntV H6 v x.1 x.2->u { nx:=PvD rows H2 l d (i+1),rt:=Q,bk:=B,ct:=PvD rows H2 l d (i+1) } [some (.ref l),some (.ref e),some (.ref p),some (.ref d),some (.int i),some (.str y),some (.ref a),some (.ref a2),v8,none] H6) ⟨_,(a03 (a43 8 nd (a45 a53 (a45 a44 (pv 6) a05) a05))
    (a03 (a46 (PW.pt (a94 (a08 (d00 hr.units0) (pv 2) (a56 a02) (a38 _)) (a94 (a86 (b78 hu (a61 g30 (pv 8) a73 (a65 (d48 c19 a05))) (pv 3))) (a79 (a08 a58 (a09 a36 (by rfl) mLen bLn (a00 (pv 1) a02)) a05 (a38 _)))))) (a06 (a40 (pv 4))) a39)
    (a03 (a46 (PW.pt (a97 (a08 (d00 hr.units0) (pv 1) (a56 a02) (a38 _)) (a93 (a08 (i61 hr.units0) (a45 a53 (a45 a44 (pv 1) (d48 c19 a05)) a05) (pv 8) (a38 _))))) (a06 (a40 (pv 4))) a39)
    (a03 (a46 (a08 a58 (a45 a53 (a45 a44 (pv 6) a05) a05) a37 (a38 _)) (a06 (b13 hu (pv 3) (pv 8) b08 rfl)) a39)
    (a06 (a43 1 nd (a47 b60 (pv 1) (pv 6)))))))),?b1⟩ (fun u1 hb1 hk1=>?r1)
   case b1 =>
    rintro H2 d back B i y e p a a2 v8 xs ys m es ps H6 x v hy hrun D6 hx1 hx2 ha6 hv6;obtain⟨l0,l1,l2⟩:=hrun.len;obtain⟨t,pa,tl,rfl,hpa,ht,hfil⟩:=d81 hv6;refine⟨_,rfl,a,_,_,_,rfl,rfl,SqL.of ha6,b09 (v:=V.ref t) (by decide) rfl,t,_,_,_,rfl,rfl,SqT.of ht,b09 (v:=V.ref pa) (by decide) rfl,?_⟩;have lx:xs.length=es.length:=Paired.length D6.E;have ly:ys.length=ps.length:=Paired.length D6.Pp;have no:¬(c96 es x/\ps=[])->∀ H',Kp [d] H2 H'->Q (.int i) H':=fun h H' k=>k2 i (g67 hrun hy hx1 h) H' (back k);refine' c22 (A:=fun(H7:Hp)=>Same H6 H7/\ps=[]/\(x.1.dropLast=[]∨∃ o,(x.1.dropLast,Ent.dir o)∈es)/\es.length < 400) (fun rest=>?g1) ?g2
    case g1 =>
     refine⟨_,rfl,by show 0<=zL;decide,fun z2 hz2=>?_⟩;have s7:Same H6 (upd H6 z2 (.lst [])):=(Same.refl _).upd hz2;have hz7:(upd H6 z2 (.lst [])) z2=some (.lst []):=a01;generalize (upd H6 z2 (.lst []))=H7 at s7 hz7 ⊢;have D7:=D6.same s7;refine⟨p,z2,ys,rfl,rfl,SqL.of D7.hp,SqL.of hz7,_,rfl,?_⟩;by_cases hps:ps=[]
     ·have hys:ys=[]:=List.eq_nil_of_length_eq_zero (by rw[ly,hps];rfl);refine a50 (fun q=>absurd q (by rw[hys];decide)) (fun _=>?_);refine⟨_,rfl,_,rfl,_,rfl,pa,_,rfl,s7 _ _ hpa,fun t2 H8 ht2 s8=>?_⟩;rw[show((-(1:Int)))=-1 from rfl,e30,← List.map_dropLast] at ht2;have D8:=D7.same s8;refine⟨_,rfl,d,_,rfl,i17 D8.hd ht2,_,rfl,?_⟩;cases hin:(a96 m x.1.dropLast).isSome with
      | false =>
       refine a78 (a78 ⟨_,rfl,no (fun h=>?_) H8 D8.kp⟩);rw[(D6.M _).mpr h.1.2.2] at hin;cases hin
      | true =>
       refine a76 ⟨_,rfl,e,_,rfl,.inl (SqL.of D8.he),rfl,_,rfl,?_⟩;refine a50 (fun q=>?_) (fun q=>rest H8 ⟨s7.trans s8,hps,(D6.M _).mp hin,?_⟩)
       ·have q':=AJ q;injection q' with q'
        exact⟨_,rfl,no (fun h=>by have:=h.1.2.1;lia) H8 D8.kp⟩
       ·rcases Nat.lt_or_ge es.length 400 with g | g
        ·exact g
        ·exact absurd (Az (by rw[lx,Nat.le_antisymm l1 g];rfl)) q
     ·refine a50 (fun _=>a78 ⟨_,rfl,no (fun h=>hps h.2) H7 D7.kp⟩) (fun q=>absurd ?_ q);rw[Fq (fun e=>hps (List.eq_nil_of_length_eq_zero (by rw[← ly,e];rfl)))];rfl
    case g2 =>
     rintro H7 ⟨s7,hps,hpar,h400⟩;have D7:=D6.same s7;have hpa7:=s7 _ _ hpa;have ht7:=s7 _ _ ht;have ha7:=s7 _ _ ha6;refine' c22 (A:=fun(H8:Hp)=>Same H7 H8/\Srt.lexB (d12 es) x.1=true) (fun rest=>?g3) ?g4
     case g3 =>
      refine⟨_,rfl,by show 0<=zL;decide,fun z3 hz3=>?_⟩;have s8:Same H7 (upd H7 z3 (.lst [])):=(Same.refl _).upd hz3;have hz8:(upd H7 z3 (.lst [])) z3=some (.lst []):=a01;generalize (upd H7 z3 (.lst []))=H8 at s8 hz8 ⊢;have D8:=D7.same s8;refine⟨e,z3,xs,rfl,rfl,SqL.of D8.he,SqL.of hz8,_,rfl,?_⟩;rcases List.eq_nil_or_concat es with hes | ⟨es',xl,hes⟩
      ·have hxs:xs=[]:=List.eq_nil_of_length_eq_zero (by rw[lx,hes];rfl);refine a50 (fun q=>absurd q (by rw[hxs];decide)) (fun _=>a76 (rest H8 ⟨s8,?_⟩));rw[hes];exact e76 hx2
      ·rcases List.eq_nil_or_concat xs with hxs | ⟨xs',vl,hxs⟩
       ·exact absurd lx (by rw[hxs,hes];simp)
       ·rw[List.concat_eq_append] at hes hxs;refine a50 (fun _=>?_) (fun q=>absurd (by rw[Fq (by rw[hxs];simp)];rfl) q);obtain⟨xl',hxl,hEl⟩:=a99 D8.E (i:=xs'.length) (x:=vl) (by rw[hxs,lA (AZ _),Nat.sub_self];rfl);have exl:xl'=xl:=by
         have hl':xs'.length=es'.length:=by
          have:=lx
          rw[hxs,hes,Bj,Bj] at this;simpa using this
         rw[hes,hl',lA (AZ _),Nat.sub_self] at hxl;exact(Ez hxl).symm
        subst exl;obtain⟨tL,pL,tlL,rfl,hpL,htL,_⟩:=d81 hEl;refine⟨_,rfl,_,rfl,e,_,_,_,rfl,rfl,SqL.of D8.he,by rw[hxs];exact g88 _ _,tL,_,_,_,rfl,rfl,SqT.of htL,b09 (v:=V.ref pL) (by decide) rfl,_,rfl,pL,pa,_,_,rfl,rfl,SqT.of hpL,SqT.of (s8 _ _ hpa7),_,rfl,?_⟩;rw[h32,c92];have elast:d12 es=xl'.1:=by rw[hes];exact c66 _ _
        cases q3:Srt.lexB xl'.1 x.1 with
        | true=>exact a76 (rest H8 ⟨s8,by rw[elast];exact q3⟩)
        | false=>exact a78 ⟨_,rfl,no (fun h=>by have:=h.1.1;rw[elast,q3] at this;cases this) H8 D8.kp⟩
     case g4 =>
      rintro H8 ⟨s8,hlex⟩;have D8:=D7.same s8;have hpa8:=s8 _ _ hpa7;have ht8:=s8 _ _ ht7;have ha8:=s8 _ _ ha7;have hv8:=EntV.tk (Tk.of (s7.trans s8)) hv6;have st:Stp es ps y (es++[x]) []:=.ent (c70 hx1) hx1 ⟨hlex,h400,hpar⟩ hps;refine' c22 (A:=fun(H9:Hp)=>∃ m',Kp [d] H8 H9/\H9 d=some (dP m')/\(∀ zs,(a96 m' zs).isSome=true↔zs=[]∨∃ o,(zs,Ent.dir o)∈es++[x])/\m'.length<=1+(es++[x]).length) (fun rest=>?g5) ?g6
      case g5 =>
       refine⟨_,rfl,a,_,_,_,rfl,rfl,SqL.of ha8,b09 (v:=V.ref t) (by decide) rfl,t,_,_,_,rfl,rfl,SqT.of ht8,b09 (v:=V.str (h59 x.2)) (by decide) rfl,rfl,_,rfl,?_⟩;obtain⟨xp,xe⟩:=x;have same:(∀ o,xe≠.dir o)->∀ zs,(a96 m zs).isSome=true↔zs=[]∨∃ o,(zs,Ent.dir o)∈es++[(xp,xe)]:=fun h zs=>by
        rw[D8.M zs];refine or_congr_right ⟨fun⟨o,q⟩=>⟨o,List.mem_append_left _ q⟩,fun⟨o,q⟩=>⟨o,?_⟩⟩;rcases Bq.mp q with q | q
        ·exact q
        ·have:=Ax.mp q
         cases this;exact absurd rfl (h o)
       have ml:=D8.ml;cases xe with
       | gone=>exact a50 (fun q=>absurd (show decide (V.str "gone" = V.str "folder")=true from q) (by decide +kernel)) (fun _=>(by generalize hX:H8=HX;exact rest HX ⟨m,hX ▸ Kp.refl _ _,hX ▸ D8.hd,same (fun o q=>nomatch q),by rw[Bj];lia⟩))
       | fil j=>exact a50 (fun q=>absurd (show decide (V.str "file" = V.str "folder")=true from q) (by decide +kernel)) (fun _=>(by generalize hX:H8=HX;exact rest HX ⟨m,hX ▸ Kp.refl _ _,hX ▸ D8.hd,same (fun o q=>nomatch q),by rw[Bj];lia⟩))
       | dir o =>
        refine a50 (fun _=>?_) (fun q=>absurd (show decide (V.str "folder" = V.str "folder")=true from Az rfl) q);refine⟨_,rfl,_,rfl,d,_,rfl,h92 D8.hd hpa8 (by rw[sizeLine_eq];lia),?_⟩;have kk:Kp [d] H8 (upd H8 d (dP (b18 m xp (.bl true)))):=(Kp.refl _ _).set (by simp)
        have hh:(upd H8 d (dP (b18 m xp (.bl true)))) d=some (dP (b18 m xp (.bl true))):=a01;generalize (upd H8 d (dP (b18 m xp (.bl true))))=H9 at kk hh ⊢;refine rest H9 ⟨_,kk,hh,fun zs=>?_,by have:=a92 m xp (.bl true);rw[Bj];show _<=1+(es.length+1);lia⟩;by_cases hz:zs=xp
        ·subst hz;rw[b77,if_pos rfl];exact⟨fun _=>.inr ⟨o,lR _ (Ax.mpr rfl)⟩,fun _=>rfl⟩
        ·rw[b77,if_neg hz,D8.M zs];refine or_congr_right ⟨fun⟨o',q⟩=>⟨o',List.mem_append_left _ q⟩,fun⟨o',q⟩=>⟨o',?_⟩⟩;rcases Bq.mp q with q | q
         ·exact q
         ·have:=Ax.mp q
          cases this;exact absurd rfl hz
      case g6 =>
       rintro H9 ⟨m',k9,hd9,hM9,hl9⟩;have ned:e∉[d]:=by simpa using a60 D8.he D8.hd
       have npd:p∉[d]:=by simpa using a60 D8.hp D8.hd
       have nad:a∉[d]:=by simpa using a60 ha8 D8.hd
       have tk9:Tk H8 H9:=k9.tk fun b hb zs q=>by
        rw[Ax.mp hb,D8.hd] at q;cases q
       refine⟨_,rfl,_,rfl,e,a,_,_,rfl,rfl,k9 _ _ D8.he ned,k9 _ _ ha8 nad,by rw[sizeLine_eq];show xs.length+1<=_;lia,fun e' he'=>?_⟩;have s9:Same H9 (upd H9 e' (.lst (xs++[V.ref t]))):=(Same.refl _).upd he';refine⟨e',p,xs++[V.ref t],ys,m',es++[x],[],_,_,_,_,_,rfl,⟨a01,s9 _ _ (k9 _ _ D8.hp npd),s9 _ _ hd9,?_,?_,hM9,hl9,(D8.kp.trans k9).trans (Kp.of s9)⟩,.succ hrun hy st⟩
       ·exact b53 (EntsV.tk (tk9.trans (Tk.of s9)) D8.E) (.cons (EntV.tk (tk9.trans (Tk.of s9)) hv8) .nil)
       ·have:=PairsV.tk (tk9.trans (Tk.of s9)) D8.Pp
        rw[hps] at this;exact this
   case r1 =>
    refine g01 (fun b=>ifF (thrd b)) (fun u=>∀(H2:Hp)(d:Addr)(back:∀ {H':Hp},Kp [d] H2 H'->Same H H')(B:St->Hp->Prop) (i:Nat) (y:Str)(e p a a2:Addr)(v8:Option V) (xs ys:List V)(m:b64) (es:List (List Str×Ent)) (ps:List Pr)(H6:Hp),rows[i]?=some y->Run rows i es ps->DuSt H2 H6 d e p xs ys m es ps->e06 (Txt.split y " ")=none->((∃ x2 v2,b20 y=some x2/\H6 a2=some (.lst [v2])/\PairV H6 v2 x2)∨(b20 y=none/\H6 a2=some (.lst [])))->u { nx:=PvD rows H2 l d (i+1),rt:=Q,bk:=B,ct:=PvD rows H2 l d (i+1) } [some (.ref l),some (.ref e),some (.ref p),some (.ref d),some (.int i),some (.str y),some (.ref a),some (.ref a2),v8,none] H6) ⟨_,(a06 (a46 (PW.pt (a94 (a08 (e54 hr.units0) (pv 7) (a56 a02) (a38 _)) (a79 (a08 a58 (a09 a36 (by rfl) mLen bLn (a00 (pv 2) a02)) a05 (a38 _))))) (a06 (a40 (pv 4)))
     (a06 (a46 (PW.pt (a97 (a86 (b68 (a45 a53 (a45 a44 (pv 7) a05) a05))) (a93 (a08 (f76 hu) (a45 a53 (a45 a44 (pv 7) a05) a05)
       (a82 (x := "_law_one") scDue .of (by decide +kernel) (b15 (pv 2)) (fun C fp s H=>a45 (show IxR _ (h41 K) from a53) (pv 10) a05)) (by with_unfolding_all rfl))))) (a06 (a40 (pv 4)))
       (a06 (a43 2 nd (a47 b60 (pv 2) (pv 7)))))))),?b2⟩ (fun u2 hb2 hk2=>?r2)
    case b2 =>
     rintro H2 d back B i y e p a a2 v8 xs ys m es ps H6 hy hrun D6 ex (⟨x2,v2,ex2,ha2,hv2⟩ | ⟨ex2,ha2⟩);all_goals obtain⟨l0,l1,l2⟩:=hrun.len
     all_goals have no:(∀ x,b20 y=some x->¬ c52 ps x)->∀ H',Kp [d] H2 H'->Q (.int i) H':=fun h H' k=>k2 i (h89 hrun hy ex h) H' (back k)
     ·
      refine⟨_,rfl,by show 0<=zL;decide,fun z2 hz2=>?_⟩;have s7:Same H6 (upd H6 z2 (.lst [])):=(Same.refl _).upd hz2;have hz7:(upd H6 z2 (.lst [])) z2=some (.lst []):=a01;generalize (upd H6 z2 (.lst []))=H7 at s7 hz7 ⊢;have D7:=D6.same s7;have ha7:=s7 _ _ ha2;have hv7:=PairV.tk (Tk.of s7) hv2;have ly:ys.length=ps.length:=Paired.length D7.Pp;refine⟨a2,z2,[v2],rfl,rfl,SqL.of ha7,SqL.of hz7,_,rfl,?_⟩;refine a50 (fun q=>absurd (AJ q) (fun x=>nomatch x)) (fun _=>?_);refine⟨_,rfl,p,_,rfl,.inl (SqL.of D7.hp),rfl,_,rfl,?_⟩;refine a50 (fun q=>?_) (fun q=>?_)
      ·have q':=AJ q;injection q' with q'
       exact⟨_,rfl,no (fun x hx h=>by have:=h.1;lia) H7 D7.kp⟩
      have h200:ps.length < 200:=by
       rcases Nat.lt_or_ge ps.length 200 with g | g
       ·exact g
       ·exact absurd (Az (by rw[ly,Nat.le_antisymm l2 g];rfl)) q
      obtain⟨t,ww,yy,rfl,ho,hyy,ht⟩:=id hv7;have add:∀(H8:Hp),Same H7 H8->c52 ps x2->∀ e' , H8 e'=none->DuSt H2 (upd H8 e' (.lst (ys++[V.ref t]))) d e e' xs (ys++[V.ref t]) m es (ps++[x2])/\Run rows (i+1) es (ps++[x2]):=fun H8 s8 hN e' he'=>by
       have D8:=D7.same s8;have s9:Same H8 (upd H8 e' (.lst (ys++[V.ref t]))):=(Same.refl _).upd he';exact⟨⟨s9 _ _ D8.he,a01,s9 _ _ D8.hd,EntsV.tk (Tk.of s9) D8.E,b53 (PairsV.tk (Tk.of s9) D8.Pp) (.cons (PairV.tk (Tk.of (s8.trans s9)) hv7) .nil),D8.M,D8.ml,D8.kp.trans (Kp.of s9)⟩,.succ hrun hy (.pr ex2 hN)⟩
      refine' c22 (A:=fun(H8:Hp)=>Same H7 H8/\c52 ps x2) (fun rest=>?g7) ?g8
      case g7 =>
       refine⟨_,rfl,a2,_,_,_,rfl,rfl,SqL.of ha7,b09 (v:=V.ref t) (by decide) rfl,t,_,_,_,rfl,rfl,SqT.of ht,b09 (v:=ww) (by decide) rfl,_,rfl,?_⟩;obtain⟨o,zt⟩:=x2;cases o with
       | none =>
        cases (show ww=.non from ho);exact a76 (a76 ((by generalize hX:H7=HX;exact rest HX ⟨hX ▸ Same.refl _,h200,fun p' _ _=>rfl⟩)))
       | some zs =>
        obtain⟨b,rfl,hb⟩:=ho;refine a78 ⟨_,rfl,a2,_,_,_,rfl,rfl,SqL.of ha7,b09 (v:=V.ref t) (by decide) rfl,t,_,_,_,rfl,rfl,SqT.of ht,b09 (v:=V.ref b) (by decide) rfl,_,rfl,p,rfl,⟨_,SqL.of D7.hp⟩,
         b81 (xs:=ys) (fun j us H''=>j<=ps.length/\H''=H7/\us.length=j/\c35 H7 us ((ps.take j).map (·.1))) (by rw[ly,sizeLine_eq];lia) ⟨Fx _,rfl,rfl,.nil⟩ (fun j us H'' ⟨_,_,h,_⟩=>h) (fun j us H'' _ ⟨_,e,_⟩=>by rw[e];exact SqL.of D7.hp) ?_ ?_⟩
        ·rintro j us H'' v' hv' ⟨hj,rfl,hul,hos⟩;obtain⟨x',hx',hxv⟩:=a99 D7.Pp hv';obtain⟨tq,wq,yq,rfl,hoq,_,htq⟩:=hxv;have hlt:=(Ej.mp hx').1;refine⟨_,rfl,tq,_,_,_,rfl,rfl,SqT.of htq,b09 (v:=wq) (by decide) rfl,hlt,rfl,by rw[Bj,hul];rfl,?_⟩;rw[EQ,hx',Bz];exact b53 hos (.cons hoq .nil)
        ·rintro us H'' ⟨_,rfl,hul,hos⟩ D hD;rw[ly,Dz (AZ _)] at hos;have sD:Same H'' (upd H'' D (.lst us)):=(Same.refl _).upd hD;have hD2:(upd H'' D (.lst us)) D=some (.lst us):=a01;have hos2:c35 (upd H'' D (.lst us)) us (ps.map (·.1)):=Paired.mono (fun _ _ q=>OptP.tk (Tk.of sD) q) hos;generalize (upd H'' D (.lst us))=H8 at sD hD2 hos2 ⊢;refine⟨b,D,zs,us,_,rfl,sD _ _ hb,rfl,SqL.of hD2,hos2,_,rfl,?_⟩;refine a50 (fun q=>?_) (fun q=>rest H8 ⟨sD,h200,fun p' hp' e'=>absurd (Az (Ex.mpr ⟨p',hp',e'⟩)) q⟩);obtain⟨p',hp',e'⟩:=Ex.mp (AJ q);exact⟨_,rfl,no (fun x hx h=>by rw[ex2] at hx;cases hx;have:=h.2 p' hp' e';cases this) H8 (D7.kp.trans (Kp.of sD))⟩
      case g8 =>
       rintro H8 ⟨s8,hN⟩;have D8:=D7.same s8;refine⟨_,rfl,_,rfl,p,a2,_,_,rfl,rfl,D8.hp,s8 _ _ ha7,by rw[ly,sizeLine_eq];show ps.length+1<=_;lia,fun e' he'=>?_⟩;obtain⟨g1,g2⟩:=add H8 s8 hN e' he';exact⟨e,e',xs,ys++[V.ref t],m,es,ps++[x2],_,_,_,_,_,rfl,g1,g2⟩
     ·
      refine⟨_,rfl,by show 0<=zL;decide,fun z2 hz2=>?_⟩;have s7:Same H6 (upd H6 z2 (.lst [])):=(Same.refl _).upd hz2;have hz7:(upd H6 z2 (.lst [])) z2=some (.lst []):=a01;generalize (upd H6 z2 (.lst []))=H7 at s7 hz7 ⊢;have D7:=D6.same s7;refine⟨a2,z2,[],rfl,rfl,SqL.of (s7 _ _ ha2),SqL.of hz7,_,rfl,?_⟩;refine a50 (fun _=>a78 ⟨_,rfl,no (fun x hx=>by rw[ex2] at hx;cases hx) H7 D7.kp⟩) (fun q=>absurd (by decide) q)
    case r2 =>
     refine⟨_,a03 (a43 1 nd (a56 a02))
     (a03 (a43 2 nd (a56 a02))
     (a03 (a43 3 nd (e61 hu (a52 a02) b08))
     (a03 (b82 PassesOwn.never rfl (c85 rfl mEnum (a00 (pv 0) a02)) (c67 rfl (a89 (a75 (i:=4) nd rfl (Or.inl rfl)) (a89 (a75 (i:=5) nd rfl (Or.inl rfl)) c01)))
       (a03 (a43 6 nd (a42 DE hr (a00 (a77 pS pZ pY a90 (pv 5) (a00 a37 a02)) a02)))
       (a03 (a43 7 nd (a42 DPr hr (a00 (pv 5) a02)))
       (a06 (a46 (a08 (d00 hr.units0) (pv 6) (a56 a02) (a38 _))
         hb1
         hb2))))) hu3))),?_⟩
     refine⟨by show 0<=zL;decide,fun e0 he0=>⟨by show 0<=zL;decide,fun p0 hp0=>fun d hd=>⟨by show 0<=zL;decide,fun t0 ht0=>?_⟩⟩⟩;have s1:Same H (upd (upd H e0 (.lst [])) p0 (.lst [])):=((Same.refl H).upd he0).upd hp0;have a1:(upd (upd H e0 (.lst [])) p0 (.lst [])) e0=some (.lst []):=by rw[a07 (a04 (H:=upd H e0 _) a01 hp0),a01]
     have a2:(upd (upd H e0 (.lst [])) p0 (.lst [])) p0=some (.lst []):=a01;generalize (upd (upd H e0 (.lst [])) p0 (.lst []))=H1 at s1 a1 a2 hd ht0 ⊢;have nt:t0≠d:=(a04 (H:=upd H1 d (dP [])) a01 ht0).symm;have ht1:H1 t0=none:=by rw[a07 nt] at ht0;exact ht0
     refine⟨t0,[],rfl,a01,by rw[a07 nt.symm,a01],?_⟩;have kd:∀ c u,H1 c=some u->(upd (upd (upd H1 d (dP [])) t0 (.tup [])) d (dP [([],V.bl true)])) c=some u:=fun c u h=>by
      rw[a07 (a04 h hd),a07 (a04 h ht1),a07 (a04 h hd)];exact h
     have b1:=kd _ _ a1;have b2:=kd _ _ a2;have b3:(upd (upd (upd H1 d (dP [])) t0 (.tup [])) d (dP [([],V.bl true)])) d=some (dP [([],V.bl true)]):=a01;have s2:Same H (upd (upd (upd H1 d (dP [])) t0 (.tup [])) d (dP [([],V.bl true)])):=fun c u h=>kd c u (s1 c u h);have hd0:H d=none:=s1.free hd;generalize (upd (upd (upd H1 d (dP [])) t0 (.tup [])) d (dP [([],V.bl true)]))=H2 at b1 b2 b3 s2 ⊢;have back:∀ {H':Hp},Kp [d] H2 H'->Same H H':=fun {H'} k c u h=>k c u (s2 c u h) (by simpa using a04 h hd0);have hl2:=s2 _ _ hl;have nld:l∉[d]:=by simpa using a04 hl hd0
     have M0:∀ zs,(a96 [(([]:List Str),V.bl true)] zs).isSome=true↔zs=[]∨∃ o,(zs,Ent.dir o)∈([]:List (List Str×Ent)):=fun zs=>by
      by_cases hz:zs=[]
      ·subst hz;exact⟨fun _=>.inl rfl,fun _=>by rw[a69 rfl];rfl⟩
      ·rw[a70 (fun q=>hz q.symm),g80];exact⟨fun q=>(by cases q),fun q=>q.elim (fun q=>absurd q hz) fun⟨o,q⟩=>nomatch q⟩
     refine⟨_,rfl,l,rfl,⟨_,SqL.of hl2⟩,e19 (K:=K) (l:=l) (xs:=rows.map V.str) (PvD rows H2 l d)
      ⟨e0,p0,[],[],_,[],[],none,none,none,none,none,rfl,⟨b1,b2,b3,.nil,.nil,M0,by decide,Kp.refl _ _⟩,.zero⟩ (fun i σ H' _ ⟨_,_,_,_,_,_,_,_,_,_,_,_,_,D,_⟩=>SqL.of (D.kp _ _ hl2 nld)) ?_ ?_⟩
     ·rintro i v σ H' T' hv ⟨e,p,xs,ys,m,es,ps,v4,v5,v6,v7,v8,rfl,D0,hrun⟩ hT;obtain⟨y,rfl,hy⟩:∃ y,v=V.str y/\rows[i]?=some y:=by
       rw[CJ] at hv;cases q:rows[i]? with
       | none=>rw[q] at hv;cases hv
       | some y=>rw[q] at hv;exact⟨y,(Ez hv).symm,rfl⟩
      have hyl:=hrow y (BJ hy);obtain⟨l0,l1,l2⟩:=hrun.len;have D1:=D0.same ((Same.refl H').upd hT (o:=.tup [.int i,.str y]));refine⟨T',_,rfl,SqT.of a01,rfl,_,_,rfl,_,_,rfl,rfl,?_⟩;generalize (upd H' T' (.tup [.int i,.str y]))=HT at D1 ⊢;refine⟨_,rfl,rfl,y, " ", rfl,rfl,by decide +kernel,hyl,fun l1' hl1=>?_⟩;have s3:Same HT (upd HT l1' (.lst ((Txt.split y " ").map V.str))):=(Same.refl _).upd hl1;have h3:(upd HT l1' (.lst ((Txt.split y " ").map V.str))) l1'=some (.lst ((Txt.split y " ").map V.str)):=a01;generalize (upd HT l1' (.lst ((Txt.split y " ").map V.str)))=H3 at s3 h3 ⊢;have lsp:=PyProof.Rows.split_le y " ";refine⟨l1',Txt.split y " ", rfl,h3,b56 hyl " ", List.length_pos_iff.mpr (b51 y),by lia,fun x ex a v H4 ha hv s4=>?_,fun ex a H4 ha s4=>?_⟩
      ·-- an entry
       have hx:b87 (Txt.split y " ")=some x/\x.1≠[]:=by
        rw[e45 _ (List.length_pos_iff.mpr (b51 y))] at ex;cases q:b87 (Txt.split y " ") with
        | none=>rw[q] at ex;cases ex
        | some x' =>
         rw[q,oB] at ex;by_cases hp:x'.1=[]
         ·rw[if_pos hp] at ex;cases ex
         ·rw[if_neg hp] at ex;cases ex;exact⟨rfl,hp⟩
       obtain⟨hx1,hx2⟩:=hx;refine' e08 (A:=fun(H5:Hp) (_:Addr)=>Same H4 H5) (fun rest=>⟨_,rfl,y,rfl,hyl,fun x2 _ a2 v2 H5 _ _ s5=>rest H5 a2 s5,fun _ a2 H5 _ s5=>rest H5 a2 s5⟩) ?_;rintro H5 a2 s5;refine⟨_,rfl,by show 0<=zL;decide,fun z hz=>?_⟩;have s6:Same H5 (upd H5 z (.lst [])):=(Same.refl _).upd hz;have hz6:(upd H5 z (.lst [])) z=some (.lst []):=a01;generalize (upd H5 z (.lst []))=H6 at s6 hz6 ⊢;have D6:=((D1.same s3).same s4).same (s5.trans s6);have ha6:=s6 _ _ (s5 _ _ ha);have hv6:=EntV.tk (Tk.of (s5.trans s6)) hv;refine⟨a,z,[v],rfl,rfl,SqL.of ha6,SqL.of hz6,_,rfl,?_⟩;refine a50 (fun _=>?_) (fun q=>absurd (by rw[Fq (fun x=>nomatch x)];rfl) q);exact hk1 H2 d back _ i y e p a a2 v8 xs ys m es ps H6 x v hy hrun D6 hx1 hx2 ha6 hv6
      ·-- no entry
       refine⟨_,rfl,y,rfl,hyl,fun x2 ex2 a2 v2 H5 ha2 hv2 s5=>?_,fun ex2 a2 H5 ha2 s5=>?_⟩
       ·rw[e11] at ex2;refine⟨_,rfl,by show 0<=zL;decide,fun z hz=>?_⟩;have s6:Same H5 (upd H5 z (.lst [])):=(Same.refl _).upd hz;have hz6:(upd H5 z (.lst [])) z=some (.lst []):=a01;generalize (upd H5 z (.lst []))=H6 at s6 hz6 ⊢;refine⟨a,z,[],rfl,rfl,SqL.of (s6 _ _ (s5 _ _ ha)),SqL.of hz6,_,rfl,?_⟩;refine a50 (fun q=>absurd q (by decide)) (fun _=>?_);exact hk2 H2 d back _ i y e p a a2 v8 xs ys m es ps H6 hy hrun (((D1.same s3).same s4).same (s5.trans s6)) ex (.inl ⟨x2,v2,ex2,s6 _ _ ha2,PairV.tk (Tk.of s6) hv2⟩)
       ·rw[e11] at ex2;refine⟨_,rfl,by show 0<=zL;decide,fun z hz=>?_⟩;have s6:Same H5 (upd H5 z (.lst [])):=(Same.refl _).upd hz;have hz6:(upd H5 z (.lst [])) z=some (.lst []):=a01;generalize (upd H5 z (.lst []))=H6 at s6 hz6 ⊢;refine⟨a,z,[],rfl,rfl,SqL.of (s6 _ _ (s5 _ _ ha)),SqL.of hz6,_,rfl,?_⟩;refine a50 (fun q=>absurd q (by decide)) (fun _=>?_);exact hk2 H2 d back _ i y e p a a2 v8 xs ys m es ps H6 hy hrun (((D1.same s3).same s4).same (s5.trans s6)) ex (.inr ⟨ex2,s6 _ _ ha2⟩)
     ·intro σ H' h;rw[Aj] at h;exact hk3 H2 d nld hl2 back σ H' h
end
def Atm (x y:V):Prop:=(x=.non/\y=.non)∨(∃ z,x=.str z/\y=.str z)∨(∃ i,x=.int i/\y=.int i)
def Alk (H:Hp):Nat->V->V->Prop
 | 0,x,y=>Atm x y
 | n+1,x,y=>Atm x y∨∃ a b xs ys,x=.ref a/\y=.ref b/\H a=some (.tup xs)/\H b=some (.tup ys)/\xs.length<=1000/\Paired (Alk H n) xs ys
theorem Alk.tk {H H':Hp}(k:Tk H H'):∀ {n:Nat}{x y:V},Alk H n x y->Alk H' n x y
 | 0,_,_,h=>h
 | n+1,_,_,h=>by
  rcases h with h | ⟨a,b,xs,ys,e1,e2,h1,h2,hl,p⟩
  ·exact .inl h
  ·exact .inr ⟨a,b,xs,ys,e1,e2,k _ _ h1,k _ _ h2,hl,Paired.mono (fun _ _ q=>Alk.tk k q) p⟩
theorem e56 (H:Hp) (n:Nat):∀ zs:List Str,Paired (Alk H n) (zs.map V.str) (zs.map V.str)
 | []=>.nil
 | z::r=>.cons (by cases n with | zero=>exact .inr (.inl ⟨z,rfl,rfl⟩) | succ n=>exact .inl (.inr (.inl ⟨z,rfl,rfl⟩))) (e56 H n r)
theorem e34 {H:Hp}{a b:Addr}{zs:List Str}(ha:H a=some (.tup (zs.map V.str)))(hb:H b=some (.tup (zs.map V.str)))(hl:zs.length<=1000):Alk H 1 (.ref a) (.ref b) :=
 .inr ⟨a,b,_,_,rfl,rfl,ha,hb,by rw[Aj];exact hl,e56 H 0 zs⟩
theorem f45 {H:Hp}{v u:V}{o:Option (List Str)}(h1:OptP H v o)(h2:OptP H u o)(hl:∀ zs,o=some zs->zs.length<=1000):Alk H 1 v u:=by
 cases o with
 | none =>
  cases (show v=.non from h1);cases (show u=.non from h2);exact .inl (.inl ⟨rfl,rfl⟩)
 | some zs =>
  obtain⟨a,rfl,ha⟩:=h1;obtain⟨b,rfl,hb⟩:=h2;exact e34 ha hb (hl zs rfl)
theorem b94 {H:Hp}{n:Nat}{x y:V}(h:Atm x y):Alk H n x y:=by
 cases n with
 | zero=>exact h
 | succ n=>exact .inl h
theorem h72 {H:Hp}{v u:V}{x:List Str×Ent}(h1:EntV H v x.1 x.2)(h2:EntV H u x.1 x.2)(hg:x.1.length<=1000/\∀ b,x.2=.dir (some b)->b.length<=1000):Alk H 2 v u:=by
 obtain⟨p,e⟩:=x;have hl:p.length<=1000:=hg.1;obtain⟨t,pa,rfl,hpa,g1⟩:=h1;obtain⟨t',pb,rfl,hpb,g2⟩:=h2;have hP:Alk H 1 (.ref pa) (.ref pb):=e34 hpa hpb hl;cases e with
 | gone=>exact .inr ⟨t,t',_,_,rfl,rfl,g1,g2,by show 2<=1000;decide,.cons hP (.cons (b94 (.inr (.inl ⟨_,rfl,rfl⟩))) .nil)⟩
 | fil i=>exact .inr ⟨t,t',_,_,rfl,rfl,g1,g2,by show 3<=1000;decide,.cons hP (.cons (b94 (.inr (.inl ⟨_,rfl,rfl⟩))) (.cons (b94 (.inr (.inr ⟨_,rfl,rfl⟩))) .nil))⟩
 | dir o =>
  obtain⟨w1,o1,g1⟩:=g1;obtain⟨w2,o2,g2⟩:=g2;exact .inr ⟨t,t',_,_,rfl,rfl,g1,g2,by show 3<=1000;decide,.cons hP (.cons (b94 (.inr (.inl ⟨_,rfl,rfl⟩))) (.cons (f45 o1 o2 fun zs e=>hg.2 zs (by rw[e])) .nil))⟩
theorem g86 {H:Hp}{v u:V}{x:Pr}(h1:PairV H v x)(h2:PairV H u x)(hg:∀ zs,x.1=some zs->zs.length<=1000):Alk H 2 v u:=by
 obtain⟨t,w1,y1,rfl,o1,s1,g1⟩:=h1;obtain⟨t',w2,y2,rfl,o2,s2,g2⟩:=h2;have hy:Atm y1 y2:=by
  cases q:x.2 with
  | none =>
   rw[q] at s1 s2;cases (show y1=.non from s1);cases (show y2=.non from s2);exact .inl ⟨rfl,rfl⟩
  | some z =>
   rw[q] at s1 s2;cases (show y1=.str z from s1);cases (show y2=.str z from s2);exact .inr (.inl ⟨z,rfl,rfl⟩)
 exact .inr ⟨t,t',_,_,rfl,rfl,g1,g2,by show 2<=1000;decide,.cons (f45 o1 o2 hg) (.cons (b94 hy) .nil)⟩
theorem c03 {α β:Type}{R S:V->β->Prop}{T:V->V->Prop}:∀ {xs ys:List V}{bs:List β},Paired R xs bs->Paired S ys bs->(∀ x y b,b∈bs->R x b->S y b->T x y)->Paired T xs ys
 | _,_,_,.nil,.nil,_=>.nil
 | _,_,_,.cons h1 t1,.cons h2 t2,h=>.cons (h _ _ _ BX h1 h2) (c03 (α:=α) t1 t2 fun x y b hb=>h x y b (BQ _ hb))
structure LayB (L:Lay):Prop where
 el:L.ents.length<=400
 pl:L.pairs.length<=200
 eo:∀ x∈L.ents,x.1.length<=1000/\∀ b,x.2=.dir (some b)->b.length<=1000
 po:∀ x∈L.pairs,∀ zs,x.1=some zs->zs.length<=1000
theorem b22 {m:Int}{z:Str}{zs:List Str}(h:a49 m z=some zs)(hm:0<=m):(zs.length:Int)<=m:=by
 unfold a49 at h;split at h
 ·cases h;exact hm
 ·split at h
  ·cases h
  ·split at h
   ·cases h
   ·rename_i q;cases h;exact Int.not_lt.mp fun x=>q (.inl x)
theorem g06 {ws:List Str}{x:List Str×Ent}(h:b87 ws=some x):x.1.length<=1000/\∀ b,x.2=.dir (some b)->b.length<=1000:=by
 unfold b87 at h;split at h
 ·unfold d69 b17 at h;split at h
  ·cases h
  ·cases q:a49 8 (ws.getD 1 "") with
   | none=>rw[q] at h;cases h
   | some p =>
    have hp:=b22 q (by decide);rw[q,oB] at h;split at h
    ·cases h;exact⟨by show p.length<=1000;lia,fun b e=>by cases e⟩
    ·split at h
     ·cases h
     ·cases q2:a49 8 (ws.getD 3 "") with
      | none=>rw[q2] at h;cases h
      | some b =>
       have hb:=b22 q2 (by decide);rw[q2] at h;cases h;exact⟨by show p.length<=1000;lia,fun b' e=>by cases e;lia⟩
 ·split at h
  ·unfold e03 b17 at h;split at h
   ·cases h
   ·cases q:a49 8 (ws.getD 1 "") with
    | none=>rw[q] at h;cases h
    | some p =>
     have hp:=b22 q (by decide);rw[q,oB] at h;cases q2:nuF (ws.getD 2 "") with
     | none=>rw[q2] at h;cases h
     | some n =>
      rw[q2] at h;cases h;exact⟨by show p.length<=1000;lia,fun b e=>by cases e⟩
  ·split at h
   ·unfold d91 at h;split at h
    ·cases h
    ·cases q:a49 9 (ws.getD 1 "") with
     | none=>rw[q] at h;cases h
     | some p =>
      have hp:=b22 q (by decide);rw[q] at h;cases h;exact⟨by show p.length<=1000;lia,fun b e=>by cases e⟩
   ·cases h
theorem g08 {z:Str}{x:Pr}(h:b20 z=some x):∀ zs,x.1=some zs->zs.length<=1000:=by
 intro zs e;unfold b20 at h;split at h
 ·split at h
  ·cases h;cases e
  ·cases h
 ·split at h
  ·unfold b17 at h;cases q:a49 8 (Txt.partition (Txt.slice z (some 8) none) BE).1 with
   | none=>rw[q] at h;cases h
   | some p =>
    have hp:=b22 q (by decide);rw[q,oB] at h;split at h
    ·cases h
    ·split at h
     ·cases h;cases e;lia
     ·split at h
      ·cases h;cases e;lia
      ·cases h
  ·cases h
theorem Run.layB {rows:List Str}{i:Nat}{es:List (List Str×Ent)}{ps:List Pr}(h:Run rows i es ps):LayB ⟨es,ps⟩:=by
 refine⟨h.len.2.1,h.len.2.2,?_,?_⟩
 ·show ∀ x∈es,_;induction h with
  | zero=>exact fun x q=>nomatch q
  | succ _ _ st ih =>
   cases st with
   | ent _ h1 _ _ =>
    intro x hx;rcases Bq.mp hx with q | q
    ·exact ih x q
    ·rw[Ax.mp q];exact g06 h1
   | pr _ _=>exact ih
 ·show ∀ x∈ps,_;induction h with
  | zero=>exact fun x q=>nomatch q
  | succ _ _ st ih =>
   cases st with
   | ent _ _ _ _=>exact fun x q=>nomatch q
   | pr h1 _ =>
    intro x hx;rcases Bq.mp hx with q | q
    ·exact ih x q
    ·rw[Ax.mp q];exact g08 h1
theorem h55 {H:Hp}{v u:V}{L:Lay}(h1:LayV H v L)(h2:LayV H u L)(g:LayB L):Alk H 4 v u:=by
 obtain⟨t,e,p,es,ps,rfl,ht,he,hp,hE,hP⟩:=h1;obtain⟨t',e',p',es',ps',rfl,ht',he',hp',hE',hP'⟩:=h2;have l1:es.length=L.ents.length:=Paired.length hE;have l2:ps.length=L.pairs.length:=Paired.length hP
 have:=g.el
 have:=g.pl
 have a1:Alk H 3 (.ref e) (.ref e'):=.inr ⟨e,e',es,es',rfl,rfl,he,he',by lia,c03 (α:=Nat) hE hE' fun x y b hb r s=>h72 r s (g.eo b hb)⟩;have a2:Alk H 3 (.ref p) (.ref p'):=.inr ⟨p,p',ps,ps',rfl,rfl,hp,hp',by lia,c03 (α:=Nat) hP hP' fun x y b hb r s=>g86 r s (g.po b hb)⟩;exact .inr ⟨t,t',_,_,rfl,rfl,ht,ht',by show 2<=1000;decide,.cons a1 (.cons a2 .nil)⟩
structure Kits (K:WFr):Prop where
 tt:PySem.W.kitOne K (.type "tuple") (.type "tuple")=some true
 nt:PySem.W.kitOne K (.type "NoneType") (.type "tuple")=some false
 st:PySem.W.kitOne K (.type "str") (.type "tuple")=some false
 it:PySem.W.kitOne K (.type "int") (.type "tuple")=some false
 ss:PySem.W.kitOne K (.type "str") (.type "str")=some true
 is:PySem.W.kitOne K (.type "int") (.type "str")=some false
 ii:PySem.W.kitOne K (.type "int") (.type "int")=some true
 ib:PySem.W.kitOne K (.type "int") (.type "bool")=some false
def c51 (n:Nat):Sp:=fun vs H Q _=>∃ x y,vs=[x,y]/\Alk H n x y/\∀ H',Same H H'->Q (.bl true) H'
section
theorem e04:FnScope ["_law_found", "_law_due_here"] ["_law_found", "_law_due_here"] (a41 d33):=.of
theorem d30 {f:Addr}{fd:FD}(F:Fun K "_law_alike" "_law_alike" d33 f fd)(kt:Kits K)(mIs:mg "isinstance" = none)(mTuple:mg "tuple" = none)(mStr:mg "str" = none)(mInt:mg "int" = none)(mBool:mg "bool" = none):∀ k,FnOk P w K mg base CX0 (k+1) f fd ["_law_found", "_law_due_here"] (fun vs H Q _=>∃ x y,vs=[x,y]/\Atm x y/\∀ H',Same H H'->Q (.bl true) H'):=by
 intro n;refine F.ok e04 (fun vs H Q E h=>?_) (fun cdv A outer s H vs Q E hr h=>?_)
 ·obtain⟨x,y,rfl,_⟩:=h;rfl
 ·obtain⟨x,y,rfl,hxy,k⟩:=h;refine⟨_,a03 (a46 (a83 (a09 a91 (by rfl) mIs PyProof.Rows.Boot.isinstance (a00 (pv 1) (a00 (b39 (v:=.ty "tuple") rfl mTuple PyProof.Rows.Boot.tuple rfl) a02)))) d19 a39)
   (a03 (a46 (a86 (b30 (pv 1))) (a06 (a40 (g29 (b30 (pv 0))))) a39)
   (a03 (a46 (a83 (a09 a91 (by rfl) mIs PyProof.Rows.Boot.isinstance (a00 (pv 1) (a00 (b39 (v:=.ty "str") rfl mStr PyProof.Rows.Boot.str rfl) a02)))) (a06 (a40 (b61 (a09 a91 (by rfl) mIs PyProof.Rows.Boot.isinstance (a00 (pv 0) (a00 (b39 (v:=.ty "str") rfl mStr PyProof.Rows.Boot.str rfl) a02))) (b59 (a98 a58 (pv 0) (pv 1) (a38 _)))))) a39)
   (a06 (a40 (b61 (a09 a91 (by rfl) mIs PyProof.Rows.Boot.isinstance (a00 (pv 0) (a00 (b39 (v:=.ty "int") rfl mInt PyProof.Rows.Boot.int rfl) a02))) (b61 (f62 (a09 a91 (by rfl) mIs PyProof.Rows.Boot.isinstance (a00 (pv 0) (a00 (b39 (v:=.ty "bool") rfl mBool PyProof.Rows.Boot.bool rfl) a02)))) (b59 (a98 a58 (pv 0) (pv 1) (a38 _)))))))))  , ?_⟩
  rcases hxy with⟨rfl,rfl⟩ | ⟨z,rfl,rfl⟩ | ⟨i,rfl,rfl⟩
  ·refine⟨_,rfl,_,_,_,_,_,rfl,.non,rfl,kt.nt,_,rfl,a76 ?_⟩;refine⟨_,rfl,_,rfl,a78 ?_⟩;exact⟨_,rfl,k H (Same.refl H)⟩
  ·refine⟨_,rfl,_,_,_,_,_,rfl,.str z,rfl,kt.st,_,rfl,a76 ?_⟩;refine⟨_,rfl,_,rfl,a76 ?_⟩;refine⟨_,rfl,_,_,_,_,_,rfl,.str z,rfl,kt.ss,_,rfl,a78 ?_⟩;refine⟨_,rfl,_,_,_,_,_,rfl,.str z,rfl,kt.ss,_,rfl,a78 ?_⟩;refine⟨_,rfl,_,rfl,rfl,?_⟩;rw[Az rfl];exact k H (Same.refl H)
  ·refine⟨_,rfl,_,_,_,_,_,rfl,.int i,rfl,kt.it,_,rfl,a76 ?_⟩;refine⟨_,rfl,_,rfl,a76 ?_⟩;refine⟨_,rfl,_,_,_,_,_,rfl,.int i,rfl,kt.is,_,rfl,a76 ?_⟩;refine⟨_,rfl,_,_,_,_,_,rfl,.int i,rfl,kt.ii,_,rfl,a78 ?_⟩;refine⟨_,rfl,_,_,_,_,_,rfl,.int i,rfl,kt.ib,_,rfl,_,rfl,a78 ?_⟩;refine⟨_,rfl,_,rfl,rfl,?_⟩;rw[Az rfl];exact k H (Same.refl H)
theorem g41 {f:Addr}{fd:FD}(F:Fun K "_law_alike" "_law_alike" d33 f fd)(kt:Kits K)(mIs:mg "isinstance" = none)(mTuple:mg "tuple" = none)(mLen:mg "len" = none)(mAll:mg "all" = none)(mZip:mg "zip" = none){n:Nat}(D:Def P w K mg base (n+1) "_law_alike" ["_law_found", "_law_due_here"] (c51 n)):FnOk P w K mg base CX0 (n+2) f fd ["_law_found", "_law_due_here"] (fun vs H Q _=>∃ a b xs ys,vs=[.ref a,.ref b]/\H a=some (.tup xs)/\H b=some (.tup ys)/\xs.length<=1000/\Paired (Alk H n) xs ys/\∀ H',Same H H'->Q (.bl true) H'):=by
 refine F.ok e04 (fun vs H Q E h=>?_) (fun cdv A outer s H vs Q E hr h=>?_)
 ·obtain⟨a,b,xs,ys,rfl,_⟩:=h;rfl
 ·obtain⟨a,b,xs,ys,rfl,ha,hb,hl,hp,k⟩:=h;have lxy:xs.length=ys.length:=Paired.length hp;refine⟨_,a03 (a46 (a83 (a09 a91 (by rfl) mIs PyProof.Rows.Boot.isinstance (a00 (pv 1) (a00 (b39 (v:=.ty "tuple") rfl mTuple PyProof.Rows.Boot.tuple rfl) a02))))
   (a03 (a46 (PW.pt (a94 (b35 (a83 (a09 a91 (by rfl) mIs PyProof.Rows.Boot.isinstance (a00 (pv 0) (a00 (b39 (v:=.ty "tuple") rfl mTuple PyProof.Rows.Boot.tuple rfl) a02))))) (a79 (a08 b98 (a09 a36 (by rfl) mLen bLn (a00 (pv 0) a02)) (a09 a36 (by rfl) mLen bLn (a00 (pv 1) a02)) (a38 _))))) (a06 (a40 b08)) a39)
   (a06 (a40 (a09 (b45 rfl) (by rfl) mAll PyProof.Rows.boot_all (a00 (g42 (x := "_law_one") (y := "_law_other") e04 ⟨rfl,by decide +kernel,by decide +kernel,by decide +kernel,by decide +kernel,by decide +kernel⟩ (by decide +kernel) (by decide +kernel) (by decide +kernel) (by decide +kernel)
     (i20 rfl mZip (a00 (pv 0) (a00 (pv 1) a02))) (fun C fp s H=>f82) (fun C fp s H=>a42 D hr (a00 (pv 2) (a00 (pv 3) a02)))) a02))))) a39) d19,?_⟩
  refine⟨_,rfl,_,_,_,_,_,rfl,.tup hb,rfl,kt.tt,_,rfl,a78 ?_⟩;refine⟨_,rfl,_,_,_,_,_,rfl,.tup ha,rfl,kt.tt,_,rfl,a76 ?_⟩;refine⟨_,rfl,a,_,rfl,.inr (SqT.of ha),_,rfl,b,_,rfl,.inr (SqT.of hb),rfl,_,rfl,e97 (by rw[lxy]) ?_⟩;refine⟨_,rfl,_,rfl,a,b,rfl,⟨_,SqT.of ha⟩,⟨_,SqT.of hb⟩,g74 (K:=K) (xs:=xs) (zs:=ys) (fun i vs H'=>vs=List.replicate i (V.bl true)/\Same H H') lxy (by rw[sizeLine_eq];lia) ⟨rfl,Same.refl H⟩ (fun i vs H' ⟨e,_⟩=>by rw[e,List.length_replicate];exact AZ _) (fun i vs H' _ ⟨_,s⟩=>⟨SqT.of (s _ _ ha),SqT.of (s _ _ hb)⟩) ?_ ?_⟩
  ·rintro i vs H' v u T hv hu ⟨e1,s1⟩ hT;have s2:Same H' (upd H' T (.tup [v,u])):=(Same.refl _).upd hT;refine⟨T,_,rfl,SqT.of a01,rfl,_,_,rfl,_,_,rfl,rfl,?_⟩;obtain⟨u',hu',hvu⟩:=a99 hp hv;rw[hu] at hu';cases hu';refine a78 ⟨_,rfl,_,rfl,v,u,rfl,Alk.tk (Tk.of (s1.trans s2)) hvu,fun H3 s3=>⟨?_,s1.trans (s2.trans s3)⟩⟩;rw[e1,List.replicate_succ']
  ·rintro vs H' ⟨e1,s1⟩ E hE;refine⟨E,List.replicate xs.length true,rfl,SqL.of (by rw[a01,e1,List.map_replicate]),?_⟩
   have:(List.replicate xs.length true).all id=true:=List.all_eq_true.mpr fun b hb=>List.eq_of_mem_replicate hb
   rw[this];exact k _ (s1.upd hE)
theorem e60 {f:Addr}{fd:FD}(F:Fun K "_law_alike" "_law_alike" d33 f fd)(kt:Kits K)(mIs:mg "isinstance" = none)(mTuple:mg "tuple" = none)(mStr:mg "str" = none)(mInt:mg "int" = none)(mBool:mg "bool" = none)(mLen:mg "len" = none)(mAll:mg "all" = none)(mZip:mg "zip" = none)
 (hm:mg "_law_alike" = some (.ref f))(hk:PySem.W.keepIn K (.ref f)=true)(hb:Binds K fd ["_law_found", "_law_due_here"] []):∀ n,FnOk P w K mg base CX0 (n+1) f fd ["_law_found", "_law_due_here"] (c51 n)
 | 0=>(d30 F kt mIs mTuple mStr mInt mBool 0).imp fun vs H Q E h=>by
  obtain⟨x,y,e,ha,k⟩:=h;exact⟨x,y,e,ha,k⟩
 | n+1=>by
  have D:Def P w K mg base (n+1) "_law_alike" ["_law_found", "_law_due_here"] (c51 n):=⟨f,fd,e60 F kt mIs mTuple mStr mInt mBool mLen mAll mZip hm hk hb n,hm,hk,hb⟩;refine(FnOk.or (d30 F kt mIs mTuple mStr mInt mBool (n+1)) (g41 F kt mIs mTuple mLen mAll mZip D)).imp fun vs H Q E h=>?_;obtain⟨x,y,e,ha,k⟩:=h;rcases ha with ha | ⟨a,b,xs,ys,rfl,rfl,h1,h2,hl,p⟩
  ·exact .inl ⟨x,y,e,ha,k⟩
  ·exact .inr ⟨a,b,xs,ys,e,h1,h2,hl,p,k⟩
end
theorem Stp.one {es:List (List Str×Ent)}{ps:List Pr}{z:Str}{a a':List (List Str×Ent)}{b b':List Pr}(h:Stp es ps z a b)(h':Stp es ps z a' b'):a=a'/\b=b':=by
 cases h with
 | ent h1 h2 _ _ =>
  cases h' with
  | ent _ h3 _ _=>rw[h2] at h3;cases h3;exact⟨rfl,rfl⟩
  | pr h3 _=>rw[h1] at h3;cases h3
 | pr h1 _ =>
  cases h' with
  | ent h3 _ _ _=>rw[h1] at h3;cases h3
  | pr h3 _=>rw[h1] at h3;cases h3;exact⟨rfl,rfl⟩
theorem Run.one {rows:List Str}{i:Nat}{es:List (List Str×Ent)}{ps:List Pr}(h:Run rows i es ps):∀ {es' ps'},Run rows i es' ps'->es=es'/\ps=ps':=by
 induction h with
 | zero=>intro es' ps' h';cases h';exact⟨rfl,rfl⟩
 | succ _ hz st ih =>
  intro es' ps' h';cases h' with
  | succ h2 hz2 st2 =>
   obtain⟨rfl,rfl⟩:=ih h2;rw[hz] at hz2;cases hz2;exact st.one st2
theorem Run.pre {rows:List Str}{m:Nat}{es:List (List Str×Ent)}{ps:List Pr}(h:Run rows m es ps):∀ {n},n < m->∃ es0 ps0 z a b,Run rows n es0 ps0/\rows[n]?=some z/\Stp es0 ps0 z a b:=by
 induction h with
 | zero=>intro n hn;cases hn
 | @succ i es ps z es' ps' h0 hz st ih =>
  intro n hn;by_cases e:n=i
  ·subst e;exact⟨_,_,_,_,_,h0,hz,st⟩
  ·exact ih (by lia)
theorem d41 {rows:List Str}{m n:Nat}{es es1:List (List Str×Ent)}{ps ps1:List Pr}{z:Str}(h:Run rows m es ps)(hn:n < m)(h1:Run rows n es1 ps1)(hz:rows[n]?=some z)(h2:∀ a b,¬ Stp es1 ps1 z a b):False:=by
 obtain⟨es0,ps0,z0,a,b,r0,hz0,st⟩:=h.pre hn;obtain⟨rfl,rfl⟩:=r0.one h1;rw[hz] at hz0;cases hz0;exact h2 a b st
theorem i21 {rows:List Str}{L L':Lay}(h:i50 rows L)(h':i50 rows L'):L=L':=by
 obtain⟨es,ps⟩:=L;obtain⟨es',ps'⟩:=L';obtain⟨e1,e2⟩:=Run.one h.1 h'.1;have e1':es=es':=e1;have e2':ps=ps':=e2;rw[e1',e2']
theorem h35 {rows:List Str}{L:Lay}{n:Nat}(h:i50 rows L)(h':h45 rows n):False:=by
 rcases h' with⟨es,ps,z,r,hz,no⟩ | ⟨rfl,es,ps,r,no⟩
 ·exact d41 h.1 (Ej.mp hz).1 r hz no
 ·obtain⟨e1,e2⟩:=Run.one h.1 r;rw[← e1,← e2] at no;exact no h.2
theorem i33 {rows:List Str}{n n':Nat}(h:h45 rows n)(h':h45 rows n'):n=n':=by
 rcases h with⟨es,ps,z,r,hz,no⟩ | ⟨rfl,es,ps,r,no⟩
 ·rcases h' with⟨es',ps',z',r',hz',no'⟩ | ⟨rfl,es',ps',r',no'⟩
  ·rcases Nat.lt_trichotomy n n' with q | q | q
   ·exact(d41 r' q r hz no).elim
   ·exact q
   ·exact(d41 r q r' hz' no').elim
  ·exact(d41 r' (Ej.mp hz).1 r hz no).elim
 ·rcases h' with⟨es',ps',z',r',hz',no'⟩ | ⟨rfl,es',ps',r',no'⟩
  ·exact(d41 r (Ej.mp hz').1 r' hz' no').elim
  ·rfl
structure Oths (K:WFr)(CB:Addr) (cs ds:List Addr):Prop where
 bb:PySem.W.kitOne K (.ref CB) (.ref CB)=some true
 ve:PySem.W.kitOne K (.ref CB) (.type "ValueError")=some true
 k8:PySem.W.kitAny K (.ref CB) (cs.map Value.ref)=some false
 k3:PySem.W.kitAny K (.ref CB) (ds.map Value.ref)=some false
def g26:Sp:=fun vs H Q _=>∃(l:Addr) (rows:List Str),vs=[.ref l]/\H l=some (.lst (rows.map V.str))/\(rows.map (·.length)).sum+rows.length<=1000000/\∀ H',Same H H'->Q (.bl true) H'
theorem i15 (rows:List Str):(Txt.join "\n" rows).length<=(rows.map (·.length)).sum+rows.length:=by
 have h:=StrLaws.join_length_le "\n" rows;rw[show("\n" : Str).length=1 by decide +kernel,Nat.mul_one] at h;have e:Txt.join "\n" rows=Str.join "\n" rows:=StrLaws.glued_eq_join _ _;rw[e];exact h
section
theorem scFits:FnScope ["_law_rows_here", "_law_text_here", "_law_due_here", "_law_caught", "_law_found", "error"] ["_law_rows_here"] (a41 h98):=.of
theorem h74 {f CB B fI c0 c1 c2 c3 c4 c5 c6 c7 d0 d1 d2:Addr}{fB:Option Addr}{fd:FD}(F:Fun K "_law_fits" "_law_fits" h98 f fd)(g:XGet K)(bad:Bad K CB B fI)(hB:b69 K B fB=true)(mB:mg "ShelfError" = some (.ref B))(mBad:mg "BadLayer" = some (.ref CB))
 (O:Oths K CB [c0,c1,c2,c3,c4,c5,c6,c7] [d0,d1,d2])(m0:mg "NoThing" = some (.ref c0))(m1:mg "WrongKind" = some (.ref c1))(m2:mg "Within" = some (.ref c2))(m3:mg "Taken" = some (.ref c3))(m4:mg "NotEmpty" = some (.ref c4))(m5:mg "TooLong" = some (.ref c5))(m6:mg "TooDeep" = some (.ref c6))(m7:mg "NoHandle" = some (.ref c7))
 (n0:mg "NoRoom" = some (.ref d0))(n1:mg "NoFit" = some (.ref d1))(n2:mg "BadRow" = some (.ref d2))(mIs:mg "isinstance" = none)(mVE:mg "ValueError" = none)
 (DD:Def P w K mg base 3 "_law_due" ["_law_rows_here"] h81)(DR:DefE P w K mg base 7 "read_layer" ["text"] (f81 CB))(DA:Def P w K mg base 5 "_law_alike" ["_law_found", "_law_due_here"] (c51 4)):FnOk P w K mg base CX0 8 f fd ["_law_rows_here"] g26:=by
 refine F.ok scFits (fun vs H Q E h=>?_) (fun cdv A outer s H vs Q E hr h=>?_)
 ·obtain⟨l,rows,rfl,_⟩:=h;rfl
 ·obtain⟨l,rows,rfl,hl,hlen,k⟩:=h;have nd:=scFits.nd;have hr3:Room 3 _:=hr.mono (by decide);have hr5:Room 5 _:=hr.mono (by decide);refine⟨_,a03 (c21 (i:=1) nd rfl (Or.inr rfl) (a77 pS PySem.F.slot_str_join PySem.F.type_str_join c53 a37 (a00 (pv 0) a02)))
   (a03 (a43 2 nd (a42 DD hr3 (a00 (c76 (x := "_law_row") scFits .of (by decide +kernel)
     (b15 (a77 pS pZ pY a90 (pv 1) (a00 a37 a02))) (fun C fp s H=>b96 (a08 b98 (pv 1) a37 (a38 _))) (fun C fp s H=>pv 6)) a02)))
   (a03 (a43 3 nd a55)
   (a03 (a43 4 nd a55)
   (a03 (h96 (i:=4) (j:=5) DR hr nd rfl (Or.inl rfl) rfl rfl (a00 (pv 1) a02) hB mB (fun a=>a06 (a43 3 nd (pv 5))))
   (a03 (a46 (a86 (b30 (pv 3))) (a06 (a40 (a42 DA hr5 (a00 (pv 4) (a00 (pv 2) a02))))) a39)
   (a03 (a46 (PW.pt (a94 (b35 (a83 (a09 (c18 g) (by rfl) mIs PyProof.Rows.Boot.isinstance (a00 (pv 3) (a00 (a66 (v:=.ref CB) rfl mBad rfl) a02))))) (a79 (b35 (a83 (a09 (c18 g) (by rfl) mIs PyProof.Rows.Boot.isinstance (a00 (pv 3) (a00 (b39 (v:=.ty "ValueError") rfl mVE PyProof.Rows.Boot.ValueError rfl) a02)))))))) (a06 (a40 b08)) a39)
   (a03 (a46 (a83 (a09 (b80 g) (by rfl) mIs PyProof.Rows.Boot.isinstance (a00 (pv 3) (a00 (a52 (a00 (a66 (v:=.ref c0) rfl m0 rfl) (a00 (a66 (v:=.ref c1) rfl m1 rfl) (a00 (a66 (v:=.ref c2) rfl m2 rfl) (a00 (a66 (v:=.ref c3) rfl m3 rfl) (a00 (a66 (v:=.ref c4) rfl m4 rfl) (a00 (a66 (v:=.ref c5) rfl m5 rfl) (a00 (a66 (v:=.ref c6) rfl m6 rfl) (a00 (a66 (v:=.ref c7) rfl m7 rfl) a02))))))))) a02)))) (a06 (a40 b08)) a39)
   (a06 (a40 (b61 (f62 (a09 (b80 g) (by rfl) mIs PyProof.Rows.Boot.isinstance (a00 (pv 3) (a00 (a52 (a00 (a66 (v:=.ref d0) rfl n0 rfl) (a00 (a66 (v:=.ref d1) rfl n1 rfl) (a00 (a66 (v:=.ref d2) rfl n2 rfl) a02)))) a02))))
     (b59 (a42 DA hr5 (a00 (g62 (pv 3) rfl) (a00 (pv 2) a02)))))))))))))),?_⟩
  refine⟨rfl,_,rfl, "\n", l,rows,rfl,rfl,SqL.of hl,by rw[show("\n" : Str).length=1 by decide +kernel];lia,?_⟩;have hz:(Txt.join "\n" rows).length<=1000000:=Fz (i15 rows) hlen;show tSeq _ _ _ [some (V.ref l),some (V.str (Txt.join "\n" rows)),none,none,none,none] H;generalize Txt.join "\n" rows=z at hz ⊢;refine⟨_,rfl,rfl,z, "\n", rfl,rfl,by decide +kernel,hz,fun L1 hL1=>?_⟩;have s1:Same H (upd H L1 (.lst ((Txt.split z "\n").map V.str))):=(Same.refl H).upd hL1;have h1:(upd H L1 (.lst ((Txt.split z "\n").map V.str))) L1=some (.lst ((Txt.split z "\n").map V.str)):=a01;generalize (upd H L1 (.lst ((Txt.split z "\n").map V.str)))=H1 at s1 h1 ⊢;have lsp:=PyProof.Rows.split_le z "\n";have hws:=b56 hz "\n";have e0:a88 z=if z = "" then [] else Txt.split z "\n" := rfl;refine⟨L1,rfl,⟨_,SqL.of h1⟩,c04 (xs:=(Txt.split z "\n").map V.str) (fun j us H''=>j<=(Txt.split z "\n").length/\H''=H1/\us=(if z = "" then [] else((Txt.split z "\n").take j).map V.str)) (by rw[Aj,sizeLine_eq];lia) ⟨Fx _,rfl,by split <;> rfl⟩ (fun j us H'' ⟨hj,_,e⟩=>?_) (fun j us H'' _ ⟨_,e,_⟩=>by rw[e];exact SqL.of h1) ?_ ?_⟩
  ·rw[e];split
   ·exact Fx _
   ·rw[Aj,CQ];lia
  ·rintro j us H'' v hv ⟨hj,rfl,rfl⟩;obtain⟨y,rfl,hy⟩:∃ y,v=V.str y/\(Txt.split z "\n")[j]?=some y:=by
    rw[CJ] at hv;cases q:(Txt.split z "\n")[j]? with
    | none=>rw[q] at hv;cases hv
    | some y=>rw[q] at hv;exact⟨y,(Ez hv).symm,rfl⟩
   have hlt:=(Ej.mp hy).1;refine⟨_,rfl,rfl,_,rfl,?_⟩;refine a50 (fun q=>?_) (fun q=>?_)
   ·have ne:¬ z = "" := fun e=>by rw[e] at q;exact absurd q (by decide +kernel)
    refine⟨_,rfl,hlt,rfl,?_⟩;rw[if_neg ne,if_neg ne,← e32 (f:=V.str) hy]
   ·have ne:z = "" := Classical.byContradiction fun e=>q (by rw[Fq (fun x=>e (by injection x))];rfl);exact⟨hlt,rfl,by rw[if_pos ne,if_pos ne]⟩
  rintro us H'' ⟨_,rfl,rfl⟩ R hR;have eR:(if z = "" then [] else((Txt.split z "\n").take ((Txt.split z "\n").map V.str).length).map V.str)=(a88 z).map V.str:=by
   rw[e0,Aj,Dz (AZ _)];split <;> rfl
  rw[eR];have s2:Same H (upd H'' R (.lst ((a88 z).map V.str))):=s1.upd hR;have h2:(upd H'' R (.lst ((a88 z).map V.str))) R=some (.lst ((a88 z).map V.str)):=a01;generalize (upd H'' R (.lst ((a88 z).map V.str)))=H2 at s2 h2 ⊢;have hrl:(a88 z).length<=2000000:=by rw[e0];split;exact Fx _;lia
  have hrr:∀ y∈a88 z,y.length<=1000000:=fun y hy=>by
   rw[e0] at hy;split at hy
   ·cases hy
   ·exact hws y hy
  refine⟨R,a88 z,rfl,h2,hrl,hrr,fun L hL v H3 hv s3=>?_,fun n hn H3 s3=>?_⟩
  ·refine⟨_,rfl,z,rfl,hz,fun L' hL' v' H4 hv' s4=>?_,fun n hn=>(h35 hL hn).elim⟩;cases i21 hL hL';refine⟨_,rfl,_,rfl,a78 ?_⟩;exact⟨_,rfl,_,rfl,v',v,rfl,h55 hv' (LayV.tk (Tk.of s4) hv) (Run.layB hL.1),fun H5 s5=>k H5 (s2.trans (s3.trans (s4.trans s5)))⟩
  ·refine⟨_,rfl,z,rfl,hz,fun L' hL'=>(h35 hL' hn).elim,fun n' hn' a dx H4 ha hdx s4=>?_⟩;cases i33 hn hn';refine⟨a,CB,some fI,rfl,rfl,bad.hx,bad.sub,_,rfl,?_⟩;refine⟨_,rfl,_,rfl,a76 ?_⟩;refine⟨_,rfl,a,CB,dx,_,_,_,_,rfl,ha,hdx,bad.Y,rfl,O.bb,_,rfl,a76 ?_⟩;refine⟨_,rfl,a,CB,dx,_,_,_,_,rfl,ha,hdx,bad.Y,rfl,O.ve,_,rfl,a76 ?_⟩;refine⟨_,rfl,by show 8<=zL;decide,fun t8 ht8=>?_⟩;have s5:Same H4 (upd H4 t8 (.tup ([c0,c1,c2,c3,c4,c5,c6,c7].map V.ref))):=(Same.refl _).upd ht8;have h5:(upd H4 t8 (.tup ([c0,c1,c2,c3,c4,c5,c6,c7].map V.ref))) t8=some (.tup ([c0,c1,c2,c3,c4,c5,c6,c7].map V.ref)):=a01;refine⟨a,CB,dx,_,t8,[c0,c1,c2,c3,c4,c5,c6,c7],_,rfl,s5 _ _ ha,s5 _ _ hdx,bad.Y,h5,O.k8,_,rfl,a76 ?_⟩;refine⟨_,rfl,by show 3<=zL;decide,fun t3 ht3=>?_⟩;have s6:Same (upd H4 t8 (.tup ([c0,c1,c2,c3,c4,c5,c6,c7].map V.ref))) (upd (upd H4 t8 (.tup ([c0,c1,c2,c3,c4,c5,c6,c7].map V.ref))) t3 (.tup ([d0,d1,d2].map V.ref))):=(Same.refl _).upd ht3;have sX:=s5.trans s6;have h6:(upd (upd H4 t8 (.tup ([c0,c1,c2,c3,c4,c5,c6,c7].map V.ref))) t3 (.tup ([d0,d1,d2].map V.ref))) t3=some (.tup ([d0,d1,d2].map V.ref)):=a01;refine⟨a,CB,dx,_,t3,[d0,d1,d2],_,rfl,sX _ _ ha,sX _ _ hdx,bad.Y,h6,O.k3,_,rfl,_,rfl,a78 ?_⟩;refine⟨_,rfl,a,CB,dx,_,_,rfl,sX _ _ ha,sX _ _ hdx,bad.Y,bad.nr,rfl,_,rfl,_,_,rfl,b94 (.inr (.inr ⟨_,rfl,rfl⟩)),fun H7 s7=>k H7 (s2.trans (s3.trans (s4.trans (sX.trans s7))))⟩
end
theorem cut_two:∀ {l:List Nat},32∈l->2<=(c50 32 l).length
 | [],h=>nomatch h
 | a::r,h=>by
  rw[b38];obtain⟨u,t,e⟩:=c02 32 r;by_cases q:a=32
  ·rw[if_pos q,e];simp
  ·rw[if_neg q]
   have:=cut_two ((BZ.mp h).resolve_left (Ne.symm q))
   rw[e] at this ⊢;exact this
theorem f84 {z:Str}(h:32∈z.cps.toList):2<=(Txt.split z " ").length:=by
 rw[show(" " : Str)=⟨#[32]⟩ by decide +kernel,c27,Aj];exact cut_two h
theorem c47 {z t:Str}{i:Nat}(h:i < (Txt.split z t).length):∃ p,atI ((Txt.split z t).map V.str) (i:Int)=some (V.str p)/\p.length<=z.length/\(Txt.split z t)[i]?=some p :=
 ⟨(Txt.split z t)[i],c06 (by rw[CJ,Bx h];rfl),PyProof.Rows.part_short (List.getElem_mem h),Bx h⟩
theorem Fw.two {z p:Str}(h:Fw z)(hp:(Txt.split z " ")[0]?=some p)(q:p = "file"∨p = "gone"):2<=(Txt.split z " ").length:=by
 rcases h with h | rfl | rfl
 ·exact f84 h
 ·rw[show(Txt.split "data" " ")[0]?=some ("data" : Str) from by decide +kernel] at hp;cases hp;exact absurd q (by decide +kernel)
 ·rw[show(Txt.split "" " ")[0]?=some ("" : Str) from by decide +kernel] at hp;cases hp;exact absurd q (by decide +kernel)
theorem c42 {K:WFr}{l:Addr}{rows:List Str}{et:V->Hp->(List V->Hp->Prop)->List V->Prop}{H:Hp}{fin:Addr->List V->Hp->Prop} (p:Str->Bool)(hl:H l=some (.lst (rows.map V.str)))(hn:rows.length<=zL)
 (hs:∀(y:Str) us H' (N':List V->Hp->Prop),y∈rows->Same H H'->(p y=false->∀ H3,Same H H3->N' us H3)->(p y=true->∀ H3,Same H H3->N' (us++[.str y]) H3)->et (.str y) H' N' us)
 (hd:∀ H',Same H H'->∀ D,H' D=none->fin D ((rows.filter p).map V.str) H'):∃ W:Nat->Nat->List V->Hp->Prop,(∃ m,W 0 m [] H)/\∀ i m ys H,W i m ys H ->
   ((Itl K l).stop i H/\∀ D,H D=none->fin D ys H) ∨
   ((Itl K l).go i H/\ys.length < zL/\∃ Nx:List V->Hp->Prop,(∀ zs H3,Nx zs H3->∃ m',m' < m/\W (i+1) m' zs H3)/\∀ x H',(Itl K l).yld i H x H'->et x H' Nx ys):=by
 refine c04 (xs:=rows.map V.str) (fun j us H'=>Same H H'/\us=((rows.take j).filter p).map V.str) (by rw[Aj];exact hn) ⟨Same.refl H,rfl⟩ (fun j us H' ⟨_,e⟩=>?_) (fun j us H' _ ⟨s,_⟩=>SqL.of (s _ _ hl)) ?_ ?_
 ·rw[e,Aj];exact Fz (List.length_filter_le _ _) (by rw[CQ];lia)
 ·rintro j us H' v hv ⟨s,rfl⟩;rw[CJ] at hv;obtain⟨y,hy,rfl⟩:=Option.map_eq_some_iff.mp hv;have es:rows.take (j+1)=rows.take j++[y]:=by rw[EQ,hy];rfl
  refine hs y _ H' _ (BJ hy) s (fun q H3 s3=>⟨s3,?_⟩) (fun q H3 s3=>⟨s3,?_⟩)
  ·rw[es,List.filter_append,List.filter_cons_of_neg (by rw[q];decide),List.filter_nil,List.append_nil]
  ·rw[es,List.filter_append,List.filter_cons_of_pos q,List.filter_nil,Bz];rfl
 ·rintro us H' ⟨s,rfl⟩ D hD;rw[Aj,Dz (AZ _)];exact hd H' s D hD
def h75:Sp:=fun vs H Q _=>∃(b l:Addr) (n i c:Nat) (rows:List Str) (z:Str),vs=[.ref b,.ref l,.int i]/\BxAt H b (n+1)/\H l=some (.lst (rows.map V.str))/\b≠l/\RX c rows/\rows.length<=950/\rows[i]?=some z/\c<=10000 /\
 ∀(z':Str)(H':Hp),Gd (c+1200) z'->BxAt H' b n->Kp [b] H H'->Q (.str z') H'
section
theorem scOth:FnScope ["_law_box_here", "_law_rows_here", "_law_at", "_law_words", "_law_some"] ["_law_box_here", "_law_rows_here", "_law_at"] (a41 c07):=.of
theorem i66 {f:Addr}{fd:FD}(F:Fun K "_law_otherwise" "_law_otherwise" c07 f fd)(mLen:mg "len" = none)(mStr:mg "str" = none)(DT:Def P w K mg base 1 "_law_take" ["_law_box_here", "_law_many"] c72):FnOk P w K mg base CX0 2 f fd ["_law_box_here", "_law_rows_here", "_law_at"] h75:=by
 refine F.ok scOth (fun vs H Q E h=>?_) (fun cdv A outer s H vs Q E hr h=>?_)
 ·obtain⟨b,l,n,i,c,rows,z,rfl,_⟩:=h;rfl
 ·obtain⟨b,l,n,i,c,rows,z,rfl,hb,hl,nbl,hX,h9,hz,hc,k⟩:=h;have nd:=scOth.nd;refine⟨_,a03 (a43 3 nd (a77 pS pZ pY a90 (a45 a44 (pv 1) (pv 2)) (a00 a37 a02)))
   (a03 (a46 (a08 a58 (a45 a44 (pv 3) a05) a37 (a38 _))
     (a06 (a40 (a47 a67 (a47 a67 (a47 a67 a37 (a45 a44 (pv 3) a05)) a37) (a63 b40 (by rfl) mStr PyProof.Rows.Boot.str (a00 (a45 a44 (a56 (a00 a05 (a00 a05 (a00 (a09 a36 (by rfl) mLen bLn (a00 (pv 1) a02)) (a00 a05 a02))))) (a42 DT hr (a00 (pv 0) (a00 a05 a02)))) a02))))) a39)
   (a03 (a46 (a08 a58 (a45 a44 (pv 3) a05) a37 (a38 _))
     (a03 (a43 4 nd (a47 b60 (c76 (x := "_law_row") scOth .of (by decide +kernel) (b15 (pv 1)) (fun C fp s H=>b96 (a08 a58 (a61 c11 (pv 5) a73 (a65 a05)) a37 (a38 _))) (fun C fp s H=>pv 5)) (a56 (a00 a37 a02))))
       (a06 (a40 (a47 a67 (a45 a44 (a77 pS pZ pY a90 (a45 a44 (pv 4) (a42 DT hr (a00 (pv 0) (a00 (a09 a36 (by rfl) mLen bLn (a00 (pv 4) a02)) a02)))) (a00 a37 a02)) a05) a37)))) a39)
   (a03 (a46 (a08 a58 (a45 a44 (pv 3) a05) a37 (a38 _))
     (a06 (a40 (a45 a44 (a56 (a00 (a47 a67 (a47 a67 a37 (a45 a44 (pv 3) a05)) a37) (a00 (a47 a67 (a47 a67 a37 (a45 a44 (pv 3) a05)) a37) (a00 (a45 a44 (pv 1) (pv 2)) a02)))) (a42 DT hr (a00 (pv 0) (a00 a05 a02)))))) a39)
   (a06 (a40 (a45 a44 (pv 1) (pv 2))))))),?_⟩
  have gz:=hX z (BJ hz);have lz:=gz.1;have hat:atI (rows.map V.str) (i:Int)=some (V.str z):=c06 (by rw[CJ,hz];rfl);refine⟨_,rfl,_,rfl,l,_,_,_,rfl,rfl,SqL.of hl,hat,rfl,_,_,rfl,rfl,by decide +kernel,by lia,fun W hW=>?_⟩;obtain⟨w0,a0,l0,e0⟩:=c47 (z:=z) (t := " ") (i:=0) (List.length_pos_iff.mpr (b51 z));have s1:Same H (upd H W (.lst ((Txt.split z " ").map V.str))):=(Same.refl _).upd hW;have hW1:(upd H W (.lst ((Txt.split z " ").map V.str))) W=some (.lst ((Txt.split z " ").map V.str)):=a01;have nbW:b≠W:=hb.ne hW;generalize (upd H W (.lst ((Txt.split z " ").map V.str)))=H1 at s1 hW1 ⊢;have hb1:=hb.same s1;have hl1:=s1 _ _ hl;have sz:∀(a:Str),a.length<=20000->a.length<=zL:=fun a ha=>by rw[sizeLine_eq];lia
  have sz2:∀(a b:Str),a.length+b.length<=20000->a.length+b.length<=zL:=fun a b ha=>by rw[sizeLine_eq];lia
  have f1:("file " : Str).length=5:=by decide +kernel
  have f2:(" " : Str).length=1:=by decide +kernel
  refine⟨_,rfl,W,_,_,_,rfl,rfl,SqL.of hW1,a0,rfl,_,rfl,?_⟩;refine a50 (fun q=>?_) (fun q=>?_)
  ·obtain⟨w1,a1,l1,e1⟩:=c47 (z:=z) (t := " ") (i:=1) (gz.2.two e0 (.inl (by have:=AJ q;injection this)));refine⟨_,rfl,W,_,_,_,rfl,rfl,SqL.of hW1,a1,_,_,rfl,rfl,sz2 _ _ (by lia),_,_,rfl,rfl,sz2 _ _ (by rw[CZ];lia),?_⟩;refine⟨_,rfl,l,_,rfl,.inl (SqL.of hl1),by show 4<=zL;decide,fun L hL=>?_⟩;rw[Aj];have s2:Same H1 (upd H1 L (.lst [.int 0,.int 1,.int rows.length,.int 199])):=(Same.refl _).upd hL;have hL2:(upd H1 L (.lst [.int 0,.int 1,.int rows.length,.int 199])) L=some (.lst [.int 0,.int 1,.int rows.length,.int 199]):=a01;have nbL:b≠L:=hb1.ne hL;generalize (upd H1 L (.lst [.int 0,.int 1,.int rows.length,.int 199]))=H2 at s2 hL2 ⊢;refine⟨_,rfl,b,n,4,rfl,by decide,by decide,hb1.same s2,fun x H3 lo hi hb3 k3=>?_⟩;obtain⟨m,am,m0,m1⟩:∃ m:Int,atI [V.int 0,.int 1,.int rows.length,.int 199] x=some (.int m)/\0<=m/\m < 1000:=by
    rcases(by lia:x=0∨x=1∨x=2∨x=3) with rfl | rfl | rfl | rfl
    ·exact⟨0,rfl,by decide,by decide⟩
    ·exact⟨1,rfl,by decide,by decide⟩
    ·exact⟨rows.length,rfl,by lia,by lia⟩
    ·exact⟨199,rfl,by decide,by decide⟩
   have hd:=d96 m m0 m1;refine⟨L,_,_,_,rfl,rfl,SqL.of ((hb1.same s2).keep k3 nbL hL2),am,_,rfl,d83 m0 m1,_,_,rfl,rfl,sz2 _ _ (by rw[CZ,CZ];lia),?_⟩;exact k _ H3 ⟨by rw[CZ,CZ,CZ];lia,.inl (fw_l (i47 (by decide +kernel)))⟩ hb3 ((Kp.of (s1.trans s2)).trans k3)
  refine⟨_,rfl,W,_,_,_,rfl,rfl,SqL.of hW1,a0,rfl,_,rfl,?_⟩;refine a50 (fun q=>?_) (fun q=>?_)
  ·refine⟨_,rfl,l,rfl,⟨_,SqL.of hl1⟩,c42 (fun y=>decide (V.str (Txt.slice y none (some 8))=V.str "data of ")) hl1 (by rw[sizeLine_eq];lia) ?_ ?_⟩
   ·intro y us H' N' hy s' n1 n2;have ly:=(hX y hy).1;refine⟨_,rfl,_,rfl,y,rfl,by rw[sizeLine_eq];lia,rfl,_,rfl,?_⟩;exact a50 (fun q=>⟨_,rfl,n2 q H' s'⟩) (fun q=>n1 (by simpa using q) H' s')
   ·intro H' s' D hD;have hsub:(rows.filter fun y=>decide (V.str (Txt.slice y none (some 8))=V.str "data of ")).Sublist rows:=List.filter_sublist;generalize (rows.filter fun y=>decide (V.str (Txt.slice y none (some 8))=V.str "data of "))=zs at hsub ⊢;have s2:Same H1 (upd H' D (.lst (zs.map V.str))):=s'.upd hD;have hD2:(upd H' D (.lst (zs.map V.str))) D=some (.lst (zs.map V.str)):=a01;generalize (upd H' D (.lst (zs.map V.str)))=H2 at s2 hD2 ⊢;refine⟨by show 1<=zL;decide,fun e he=>?_⟩;have s3:Same H2 (upd H2 e (.lst [V.str "data of /yy"])):=(Same.refl _).upd he;have lzs:=hsub.length_le;refine⟨D,e,_,_,rfl,rfl,s3 _ _ hD2,a01,by rw[Aj,sizeLine_eq];show zs.length+1<=_;lia,fun d hd=>?_⟩;have ly2:∀ y∈zs++[("data of /yy" : Str)],y.length<=c+11:=fun y hy=>by
     rcases Bq.mp hy with hy | hy
     ·have:=(hX y (hsub.subset hy)).1
      lia
     ·rw[Ax.mp hy,show("data of /yy" : Str).length=11 by decide +kernel];lia
    have s4:Same H1 (upd (upd H2 e (.lst [V.str "data of /yy"])) d (.lst (zs.map V.str++[V.str "data of /yy"]))):=(s2.trans s3).upd hd;have hd4:(upd (upd H2 e (.lst [V.str "data of /yy"])) d (.lst (zs.map V.str++[V.str "data of /yy"]))) d=some (.lst ((zs++[("data of /yy" : Str)]).map V.str)):=by rw[a01,Bz];rfl
    generalize (upd (upd H2 e (.lst [V.str "data of /yy"])) d (.lst (zs.map V.str++[V.str "data of /yy"])))=H4 at s4 hd4 ⊢;have l4:0 < (zs++[("data of /yy" : Str)]).length/\(zs++[("data of /yy" : Str)]).length<=1000:=by rw[Bj];show 0 < zs.length+1/\zs.length+1<=1000;lia
    generalize zs++[("data of /yy" : Str)]=us at hd4 ly2 l4 ⊢;have nbd:b≠d:=fun q=>by obtain⟨_,_,_,e',_⟩:=hb1.same s4;rw[q,hd4] at e';cases us with | nil=>exact absurd l4.1 (by decide) | cons u us=>injection e' with e';injection e' with e';injection e' with e' _;cases e'
    refine⟨_,rfl,_,rfl,_,rfl,d,_,rfl,.inl (SqL.of hd4),b,n,_,rfl,by rw[Aj];lia,by rw[Aj];lia,hb1.same s4,fun x H5 lo hi hb5 k5=>?_⟩;obtain⟨x,rfl⟩:=Int.eq_ofNat_of_zero_le lo;rw[Aj] at hi;obtain⟨y,hy⟩:∃ y,us[x]?=some y:=⟨us[x]'(by lia),Bx _⟩;have ly:=ly2 y (BJ hy);have hay:atI (us.map V.str) (x:Int)=some (V.str y):=c06 (by rw[CJ,hy];rfl);obtain⟨p,ap,lp,_⟩:=c47 (z:=y) (t := " =") (i:=0) (c71 y);refine⟨d,_,_,_,rfl,rfl,SqL.of ((hb1.same s4).keep k5 nbd hd4),hay,rfl,_,_,rfl,rfl,by decide +kernel,by lia,fun W2 hW2=>?_⟩;have f3:(" =x" : Str).length=3:=by decide +kernel
    refine⟨W2,_,_,_,rfl,rfl,SqL.of a01,ap,_,_,rfl,rfl,sz2 _ _ (by lia),?_⟩;exact k _ _ ⟨by rw[CZ];lia,.inl (i47 (by decide +kernel))⟩ (hb5.same ((Same.refl _).upd hW2)) (((Kp.of (s1.trans s4)).trans k5).trans (Kp.of ((Same.refl _).upd hW2)))
  refine⟨_,rfl,W,_,_,_,rfl,rfl,SqL.of hW1,a0,rfl,_,rfl,?_⟩;refine a50 (fun q=>?_) (fun q=>?_)
  ·obtain⟨w1,a1,l1,e1⟩:=c47 (z:=z) (t := " ") (i:=1) (gz.2.two e0 (.inr (by have:=AJ q;injection this)));have g1:("folder " : Str).length=7:=by decide +kernel
   have g2:(" alone" : Str).length=6:=by decide +kernel
   have g3:(" 0" : Str).length=2:=by decide +kernel
   refine⟨_,rfl,W,_,_,_,rfl,rfl,SqL.of hW1,a1,_,_,rfl,rfl,sz2 _ _ (by lia),_,_,rfl,rfl,sz2 _ _ (by rw[CZ];lia),?_⟩;refine⟨_,rfl,W,_,_,_,rfl,rfl,SqL.of hW1,a1,_,_,rfl,rfl,sz2 _ _ (by lia),_,_,rfl,rfl,sz2 _ _ (by rw[CZ];lia),?_⟩;refine⟨_,rfl,_,rfl,l,_,_,_,rfl,rfl,SqL.of hl1,hat,by show 3<=zL;decide,fun L hL=>?_⟩;have b1:Gd (c+1200) ("folder " ++ w1 ++ " alone"):=⟨by rw[CZ,CZ];lia,.inl (i47 (by decide +kernel))⟩;have b2:Gd (c+1200) ("file " ++ w1 ++ " 0"):=⟨by rw[CZ,CZ];lia,.inl (i47 (by decide +kernel))⟩;generalize (("folder " : Str)++w1 ++ " alone")=x1 at b1 hL ⊢;generalize (("file " : Str)++w1 ++ " 0")=x2 at b2 hL ⊢;have s2:Same H1 (upd H1 L (.lst [.str x1,.str x2,.str z])):=(Same.refl _).upd hL;have hL2:(upd H1 L (.lst [.str x1,.str x2,.str z])) L=some (.lst [.str x1,.str x2,.str z]):=a01;have nbL:b≠L:=hb1.ne hL;generalize (upd H1 L (.lst [.str x1,.str x2,.str z]))=H2 at s2 hL2 ⊢;refine⟨_,rfl,b,n,3,rfl,by decide,by decide,hb1.same s2,fun x H3 lo hi hb3 k3=>?_⟩;obtain⟨m,am,gm⟩:∃ m:Str,atI [V.str x1,.str x2,.str z] x=some (.str m)/\Gd (c+1200) m:=by
    rcases(by lia:x=0∨x=1∨x=2) with rfl | rfl | rfl
    ·exact⟨_,rfl,b1⟩
    ·exact⟨_,rfl,b2⟩
    ·exact⟨_,rfl,gz.mono (by lia)⟩
   exact⟨L,_,_,_,rfl,rfl,SqL.of ((hb1.same s2).keep k3 nbL hL2),am,k _ H3 gm hb3 ((Kp.of (s1.trans s2)).trans k3)⟩
  exact⟨_,rfl,_,rfl,l,_,_,_,rfl,rfl,SqL.of hl1,hat,k _ H1 (gz.mono (by lia)) (hb1.mono (by lia)) (Kp.of s1)⟩
end
def Bd (N c M:Nat) (rows:List Str):Prop:=RX c rows/\RB' rows N/\rows.length<=M
section
variable {N c M N' c' M' i:Nat}{rows rows':List Str}{z:Str}
theorem Bd.mono (h:Bd N c M rows)(h1:N<=N')(h2:c<=c')(h3:M<=M'):Bd N' c' M' rows:=⟨fun y hy=>(h.1 y hy).mono h2,h.2.1.mono h1,Fz h.2.2 h3⟩
theorem Bd.sub (h:Bd N c M rows)(s:rows'.Sublist rows):Bd N c M rows':=⟨fun y hy=>h.1 y (s.subset hy),h.2.1.sub s,Fz s.length_le h.2.2⟩
theorem Bd.perm (h:Bd N c M rows)(s:rows'.Perm rows):Bd N c M rows' :=
 ⟨fun y hy=>h.1 y (s.mem_iff.mp hy),by have:=h.2.1;unfold RB' at *;rw[(s.map (·.length)).sum_nat,s.length_eq];exact this,by rw[s.length_eq];exact h.2.2⟩
theorem Bd.cons (h:Bd N c M rows)(g:Gd c z):Bd (N+c+1) c (M+1) (z::rows) :=
 ⟨fun y hy=>(BZ.mp hy).elim (fun e=>e ▸ g) (h.1 y),by have:=h.2.1;have:=g.1;unfold RB' at *;rw[Cz,List.sum_cons,Cq];lia,Nat.succ_le_succ h.2.2⟩
theorem Bd.ins (h:Bd N c M rows)(g:Gd c z):Bd (N+c+1) c (M+1) (rows.take i++z::rows.drop i) :=
 (h.cons g).perm (List.perm_middle.trans (by rw[List.take_append_drop]))
theorem Bd.set (h:Bd N c M rows)(g:Gd c z):Bd (N+c+1) c (M+1) (rows.set i z):=by
 by_cases q:i < rows.length
 ·rw[List.set_eq_take_append_cons_drop,if_pos q];refine((h.cons g).sub ?_).perm List.perm_middle;exact List.Sublist.cons_cons z (by
   have:(rows.take i++rows.drop (i+1)).Sublist (rows.take i++rows.drop i):=List.Sublist.append_left (by rw[← List.drop_drop];exact List.drop_sublist _ _) _
   rwa[List.take_append_drop] at this)
 ·rw[List.set_eq_of_length_le (by lia)];exact h.mono (by lia) (AZ _) (by lia)
theorem Bd.two (h:Bd N c M rows){zs:List Str}(hz:∀ z∈zs,Gd c z)(l2:zs.length<=2):Bd (N+2 * c+2) c (M+2) (zs++rows):=by
 match zs,hz,l2 with
 | [],_,_=>exact h.mono (by lia) (AZ _) (by lia)
 | [a],hz,_=>exact(h.cons (hz a (by simp))).mono (by lia) (AZ _) (by lia)
 | [a,b],hz,_=>exact((h.cons (hz b (by simp))).cons (hz a (by simp))).mono (by lia) (AZ _) (by lia)
theorem c54:∀(l:List Str) (i:Nat),(l.map V.str).eraseIdx i=(l.eraseIdx i).map V.str
 | [],_=>rfl
 | _::_,0=>rfl
 | a::l,i+1=>by
  show V.str a::(l.map V.str).eraseIdx i=V.str a::(l.eraseIdx i).map V.str;rw[c54 l i]
theorem d25 (p:Str->Bool):∀ l:List Str,(l.filter (fun y=>!p y)++l.filter p).Perm l
 | []=>.nil
 | a::l=>by
  have ih:=d25 p l;cases h:p a with
  | true =>
   rw[List.filter_cons_of_neg (by rw[h];decide),List.filter_cons_of_pos h];exact List.perm_middle.trans (ih.cons a)
  | false =>
   rw[List.filter_cons_of_pos (by rw[h];rfl),List.filter_cons_of_neg (by rw[h];decide)];exact ih.cons a
def hd0 (z:Str):Str:=(Txt.split z " ").getD 0 ""
theorem g07 (z:Str):atI ((Txt.split z " ").map V.str) 0=some (V.str (hd0 z)):=by
 obtain⟨p,h1,_,h2⟩:=c47 (z:=z) (t := " ") (i:=0) (List.length_pos_iff.mpr (b51 z));unfold hd0;rw[lG,h2];exact h1
theorem g34:(rows.map V.str).take i++V.str z::(rows.map V.str).drop i=(rows.take i++z::rows.drop i).map V.str:=by
 rw[Bz,Cz,List.map_take,List.map_drop]
theorem g40 {α:Type} (xs:List α) (k:Nat):c55 xs (some (k:Int)) none=xs.drop k:=by
 unfold c55;rw[HT.sIx_nat,HT.sIx_none,e26];exact Dz (by rw[EJ];omega)
theorem i00 {α:Type} (xs:List α) (k:Nat):c55 xs none (some (k:Int))=xs.take k:=by
 unfold c55;rw[HT.sIx_nat,HT.sIx_none,Nat.sub_zero,List.drop_zero,e63]
theorem h05 {α:Type} (xs:List α) (k:Nat):(c55 xs (some (k:Int)) (some ((k+2:Nat):Int))).length<=2:=by
 unfold c55;rw[HT.sIx_nat,HT.sIx_nat,CQ];omega
end
def d08:Sp:=fun vs H Q _=>∃(b l:Addr) (n c N M:Nat) (rows:List Str),vs=[.ref b,.ref l]/\BxAt H b (n+4)/\H l=some (.lst (rows.map V.str))/\b≠l/\Bd N c M rows/\M<=940/\N<=600000/\c<=8000 /\
 ∀(a:Addr) (rows':List Str)(H':Hp),H' a=some (.lst (rows'.map V.str))->Bd (N+2 * c+3000) (c+1200) (M+2) rows'->BxAt H' b n->Kp [b] H H'->Q (.ref a) H'
section
theorem scTurned:FnScope ["_law_box_here", "_law_rows_here", "_law_at", "_law_other", "_law_way", "_law_spot", "_law_sort", "_law_like", "_law_row"] ["_law_box_here", "_law_rows_here"] (a41 c74):=.of
theorem d43:FnScope ["_law_box_here", "_law_rows_here", "_law_at", "_law_other", "_law_way", "_law_spot", "_law_sort", "_law_like"] ["_law_box_here", "_law_rows_here"] (a41 c74):=.of
theorem g22 {f:Addr}{fd:FD}(F:Fun K "_law_turned" "_law_turned" c74 f fd)(mLen:mg "len" = none)(mList:mg "list" = none)(mRev:mg "reversed" = none)(DT:Def P w K mg base 1 "_law_take" ["_law_box_here", "_law_many"] c72)(DO:Def P w K mg base 2 "_law_otherwise" ["_law_box_here", "_law_rows_here", "_law_at"] h75):FnOk P w K mg base CX0 3 f fd ["_law_box_here", "_law_rows_here"] d08:=by
 refine F.ok scTurned (fun vs H Q E h=>?_) (fun cdv A outer s H vs Q E hr h=>?_)
 ·obtain⟨b,l,n,c,N,M,rows,rfl,_⟩:=h;rfl
 ·obtain⟨b,l,n,c,N,M,rows,rfl,hb,hl,nbl,hB,hM,hN,hc,k⟩:=h;have nd:=scTurned.nd;have hr1:Room 1 _:=hr.mono (by decide);refine⟨_,a03 (a43 1 nd (a63 d55 (by rfl) mList PyProof.Rows.Boot.list (a00 (pv 1) a02)))
   (a03 (a43 2 nd (a42 DT hr1 (a00 (pv 0) (a00 (a47 a80 (a09 a36 (by rfl) mLen bLn (a00 (pv 1) a02)) a05) a02))))
   (a03 (a43 3 nd (a42 DT hr1 (a00 (pv 0) (a00 (a47 a80 (a09 a36 (by rfl) mLen bLn (a00 (pv 1) a02)) a05) a02))))
   (a03 (a43 4 nd (a42 DT hr1 (a00 (pv 0) (a00 a05 a02))))
   (a03 (a46 (PW.pt (a94 (a08 a58 (pv 2) (a09 a36 (by rfl) mLen bLn (a00 (pv 1) a02)) (a38 _)) (a79 (a08 a58 (pv 4) a05 (a38 _)))))
     (a06 (a81 (a77 pLQ PySem.F.slot_list_insert PySem.F.type_list_insert c37 (pv 1) (a00 (pv 2) (a00 a37 a02)))))
     (a06 (a46 (a08 a58 (pv 4) a05 (a38 _))
       (a06 (h01 (e84 rfl rfl mList rfl mRev PyProof.Rows.Boot.list PyProof.Rows.Boot.reversed (a61 b14 (pv 1) (a65 (pv 2)) (a65 (a47 a80 (pv 2) a05)))) (pv 1) (a65 (pv 2)) (a65 (a47 a80 (pv 2) a05))))
     (a06 (a46 (a08 a58 (pv 4) a05 (a38 _))
       (a03 (a43 5 nd (a47 b31 (pv 3) (a09 a36 (by rfl) mLen bLn (a00 (pv 1) a02))))
         (a06 (d29 (a52 (a00 (a45 a44 (pv 1) (pv 5)) (a00 (a45 a44 (pv 1) (pv 2)) a02))) (c67 rfl (a89 (c68 (pv 1) (pv 2) b44) (a89 (c68 (pv 1) (pv 5) b44) c01))))))
     (a06 (a46 (a08 a58 (pv 4) a05 (a38 _))
       (a06 (a81 (a77 pLQ PySem.F.slot_list_insert PySem.F.type_list_insert c37 (pv 1) (a00 (pv 3) (a00 (a45 a44 (pv 1) (pv 2)) a02)))))
     (a06 (a46 (a08 a58 (pv 4) a05 (a38 _))
       (a06 (a81 (a77 pLQ PySem.F.slot_list_pop PySem.F.type_list_pop e20 (pv 1) (a00 (pv 2) a02))))
     (a06 (a46 (a08 a58 (pv 4) a05 (a38 _))
       (a03 (a43 8 nd (a77 pLQ PySem.F.slot_list_pop PySem.F.type_list_pop e20 (pv 1) (a00 (pv 2) a02)))
         (a06 (a81 (a77 pLQ PySem.F.slot_list_insert PySem.F.type_list_insert c37 (pv 1) (a00 (pv 3) (a00 (pv 8) a02))))))
     (a06 (a46 (a08 a58 (pv 4) a05 (a38 _))
       (a06 (d29 (a42 DO hr (a00 (pv 0) (a00 (pv 1) (a00 (pv 2) a02)))) (c68 (pv 1) (pv 2) b44)))
     (a06 (a46 (a08 a58 (pv 4) a05 (a38 _))
       (a03 (c21 (i:=6) nd rfl (Or.inr rfl) (a45 a44 (a77 pS pZ pY a90 (a45 a44 (pv 1) (pv 2)) (a00 a37 a02)) a05))
       (a03 (i81 (n:=8) (g83 (ix:=7) (x := "_law_row") d43 .of (by decide +kernel) rfl (Or.inl rfl) (b15 (pv 1)) (fun C fp s H=>b96 (a08 a58 (a45 (show IxR _ (rIxL K) from a44) (show PE _ _ (tBM K "str" _ _ _) from a77 pS pZ pY a90 (pv 8) (a00 a37 a02)) a05) (pv 6) (a38 _))) (fun C fp s H=>pv 8)))
       (a06 (a43 1 nd (a47 b60 (i69 (n:=8) (c76 (x := "_law_row") d43 .of (by decide +kernel) (b15 (pv 1)) (fun C fp s H=>b96 (a08 b98 (a45 (show IxR _ (rIxL K) from a44) (show PE _ _ (tBM K "str" _ _ _) from a77 pS pZ pY a90 (pv 8) (a00 a37 a02)) a05) (pv 6) (a38 _))) (fun C fp s H=>pv 8))) (pv 7))))))
       (a06 (a43 1 nd (a47 b60 (a61 b14 (pv 1) (a65 (pv 2)) a73) (a61 b14 (pv 1) a73 (a65 (pv 2)))))))))))))))))))))
   (a06 (a40 (pv 1))))))),?_⟩
  refine⟨_,rfl,l,_,rfl,.inl (SqL.of hl),fun r hr0=>?_⟩;have s1:Same H (upd H r (.lst (rows.map V.str))):=(Same.refl _).upd hr0;have hr1':(upd H r (.lst (rows.map V.str))) r=some (.lst (rows.map V.str)):=a01;have nbr:b≠r:=hb.ne hr0;generalize (upd H r (.lst (rows.map V.str)))=H1 at s1 hr1' ⊢;have hb1:=hb.same s1;have lrow:=hB.2.2;refine⟨_,rfl,_,rfl,r,_,rfl,.inl (SqL.of hr1'),?_⟩;rw[Aj];refine⟨_,_,rfl,rfl,b,n+3,_,rfl,by lia,by lia,hb1,fun i' H2 ilo ihi hb2 k2=>?_⟩;have hr2:=hb1.keep k2 nbr hr1';refine⟨_,rfl,_,rfl,r,_,rfl,.inl (SqL.of hr2),?_⟩;rw[Aj];refine⟨_,_,rfl,rfl,b,n+2,_,rfl,by lia,by lia,hb2,fun j' H3 jlo jhi hb3 k3=>?_⟩;have hr3:=hb2.keep k3 nbr hr2;refine⟨_,rfl,b,n+1,9,rfl,by decide,by decide,hb3,fun way H4 _ _ hb4 k4=>?_⟩;have hr4:=hb3.keep k4 nbr hr3;obtain⟨i,rfl⟩:=Int.eq_ofNat_of_zero_le ilo;obtain⟨j,rfl⟩:=Int.eq_ofNat_of_zero_le jlo;have kA:Kp [b] H H4:=(Kp.of s1).trans (k2.trans (k3.trans k4));have hbn:BxAt H4 b n:=hb4.mono (by lia);have inb:b∉[r]:=by simpa using nbr
  have fr:∀ {H'},Kp [r] H4 H'->Kp [b] H H':=fun kk a o e q=>kk a o (kA a o e q) (by simpa using a04 e hr0);have fin:∀(rows':List Str)(H':Hp),H' r=some (.lst (rows'.map V.str))->Bd (N+2 * c+3000) (c+1200) (M+2) rows'->Kp [r] H4 H'->Q (.ref r) H':=fun rows' H' h1 h2 h3=>k r rows' H' h1 h2 (hbn.kp h3 inb) (fr h3);have hB':Bd N (c+1200) M rows:=hB.mono (AZ _) (by lia) (AZ _);have szl:rows.length < zL:=by rw[sizeLine_eq];lia
  have szm:(rows.map V.str).length < zL:=by rw[Aj];exact szl
  have i63:∀ {m:Nat},m<=1000->(m:Int) < 2 ^ 63:=fun h=>by lia
  have insF:∀(m:Nat) (z:Str),Gd (c+1200) z->Q (.ref r) (upd H4 r (.lst ((rows.map V.str).take (m:Int).toNat++V.str z::(rows.map V.str).drop (m:Int).toNat))):=fun m z g=>by
   refine fin (rows.take m++z::rows.drop m) _ (by rw[a01,Dj,g34]) ((hB'.ins g).mono (by lia) (AZ _) (by lia)) ((Kp.refl _ _).set (by simp))
  have g0:Gd (c+1200) "" := ⟨by rw[show("" : Str).length=0 by decide +kernel];lia,.inr (.inr rfl)⟩;refine⟨_,rfl,_,rfl,r,_,rfl,.inl (SqL.of hr4),rfl,_,rfl,?_⟩;rw[Aj];refine a50 (fun q=>?_) (fun q=>?_)
  ·exact⟨_,rfl,.inl ⟨rfl,_,SqL.of hr4⟩,_,rfl,r,_,_,_,rfl,rfl,hr4,by lia,by lia,szm,_,rfl,insF i "" g0⟩
  have hi:i < rows.length:=by
   have:¬((i:Int)=rows.length):=fun e=>q (Az (by rw[e]))
   lia
  obtain⟨x,hx⟩:∃ x,rows[i]?=some x:=⟨rows[i],Bx hi⟩;have hax:atI (rows.map V.str) (i:Int)=some (V.str x):=c06 (by rw[CJ,hx];rfl);have gx:Gd (c+1200) x:=hB'.1 x (BJ hx);have hix:∀ {m:Nat},m < rows.length->ixN (rows.map V.str).length (m:Int)=some m:=fun h=>by
   unfold ixN;rw[if_pos (by lia),if_pos (by rw[Aj];lia),Dj]
  refine⟨_,rfl,rfl,_,rfl,?_⟩;refine a50 (fun q=>?_) (fun q=>?_)
  ·exact⟨_,rfl,.inl ⟨rfl,_,SqL.of hr4⟩,_,rfl,r,_,_,_,rfl,rfl,hr4,by lia,by lia,szm,_,rfl,insF i "" g0⟩
  refine⟨_,rfl,rfl,_,rfl,?_⟩;refine a50 (fun q=>?_) (fun q=>?_)
  ·refine⟨_,rfl,_,rfl,_,rfl,_,rfl,_,_,rfl,rfl,_,rfl,r,_,rfl,SqL.of hr4,fun d hd=>?_⟩;rw[show(i:Int)+2=((i+2:Nat):Int) by lia,c84];have cs:=g65 rows (some (i:Int)) (some ((i+2:Nat):Int));have cl:=h05 rows i;generalize c55 rows (some (i:Int)) (some ((i+2:Nat):Int))=ds at cs cl ⊢;have s5:Same H4 (upd H4 d (.lst (ds.map V.str))):=(Same.refl _).upd hd;have hd5:(upd H4 d (.lst (ds.map V.str))) d=some (.lst (ds.map V.str)):=a01;generalize (upd H4 d (.lst (ds.map V.str)))=H5 at s5 hd5 ⊢;refine⟨d,_,rfl,SqL.of hd5,fun e he=>?_⟩;rw[← List.map_reverse];have s6:Same H5 (upd H5 e (.lst (ds.reverse.map V.str))):=(Same.refl _).upd he;have he6:(upd H5 e (.lst (ds.reverse.map V.str))) e=some (.lst (ds.reverse.map V.str)):=a01;have nre:r≠e:=a04 (s5 _ _ hr4) he;generalize (upd H5 e (.lst (ds.reverse.map V.str)))=H6 at s6 he6 ⊢;have hr6:=s6 _ _ (s5 _ _ hr4);refine⟨_,rfl,_,rfl,_,rfl,_,rfl,_,_,rfl,rfl,_,rfl,r,e,_,_,_,_,rfl,rfl,nre,hr6,he6,rfl,rfl,by lia,by lia,by rw[Aj];lia,by rw[Aj,Aj,List.length_reverse,sizeLine_eq];lia,_,rfl,?_⟩;refine fin (rows.take i++ds.reverse++rows.drop (i+2)) _ ?_ ?_ ((Kp.of (s5.trans s6)).trans ((Kp.refl _ _).set (by simp)))
   ·rw[a01,show((i:Int)+2).toNat=i+2 by lia,Dj,Bz,Bz,List.map_take,List.map_drop]
   ·have h1:Bd N (c+1200) M (rows.take i++rows.drop (i+2)):=hB'.sub (by
     have:(rows.take i++rows.drop (i+2)).Sublist (rows.take i++rows.drop i):=List.Sublist.append_left (by rw[← List.drop_drop];exact List.drop_sublist _ _) _
     rwa[List.take_append_drop] at this)
    refine((h1.two (zs:=ds.reverse) (fun z hz=>hB'.1 z (cs.subset (List.mem_reverse.mp hz))) (by rw[List.length_reverse];exact cl)).perm ?_).mono (by lia) (AZ _) (AZ _);rw[List.append_assoc];exact List.perm_append_comm_assoc _ _ _
  refine⟨_,rfl,rfl,_,rfl,?_⟩;refine a50 (fun q=>?_) (fun q=>?_)
  ·refine⟨_,rfl,_,rfl,r,_,rfl,.inl (SqL.of hr4),?_⟩;rw[Aj];refine⟨_,_,rfl,rfl,by show(0:Int) < rows.length;lia,?_⟩;have em:((j:Int) % (rows.length:Int))=((j % rows.length:Nat):Int):=(Int.natCast_emod j rows.length).symm;have hp:j % rows.length < rows.length:=Nat.mod_lt _ (by lia);generalize j % rows.length=p at hp em;obtain⟨y,hy⟩:∃ y,rows[p]?=some y:=⟨rows[p],Bx hp⟩;have hay:atI (rows.map V.str) ((j:Int) % (rows.length:Int))=some (V.str y):=by rw[em];exact c06 (by rw[CJ,hy];rfl)
   have gy:Gd (c+1200) y:=hB'.1 y (BJ hy);refine⟨_,rfl,_,rfl,r,_,_,_,rfl,rfl,SqL.of hr4,hay,_,rfl,_,rfl,r,_,_,_,rfl,rfl,SqL.of hr4,hax,by show 2<=zL;decide,fun t ht=>?_⟩;have s5:Same H4 (upd H4 t (.tup [V.str y,V.str x])):=(Same.refl _).upd ht;have ht5:(upd H4 t (.tup [V.str y,V.str x])) t=some (.tup [V.str y,V.str x]):=a01;generalize (upd H4 t (.tup [V.str y,V.str x]))=H5 at s5 ht5 ⊢;refine⟨t,_,rfl,SqT.of ht5,rfl,_,_,rfl,_,rfl,_,rfl,r,_,_,i,rfl,rfl,s5 _ _ hr4,hix hi,_,_,rfl,_,rfl,_,rfl,r,_,_,p,rfl,rfl,a01,by rw[List.length_set];exact(congrArg _ em).trans (hix hp),rfl,_,rfl,?_⟩;refine fin ((rows.set i y).set p x) _ (by rw[a01,List.map_set,List.map_set]) ?_ ((Kp.of s5).trans (((Kp.refl _ _).set (by simp)).set (by simp)))
   exact((hB'.set gy).set gx).mono (by lia) (AZ _) (by lia)
  refine⟨_,rfl,rfl,_,rfl,?_⟩;refine a50 (fun q=>?_) (fun q=>?_)
  ·exact⟨_,rfl,.inl ⟨rfl,_,SqL.of hr4⟩,_,rfl,_,rfl,_,rfl,r,_,_,_,rfl,rfl,SqL.of hr4,hax,r,_,_,_,rfl,rfl,hr4,by lia,by lia,szm,_,rfl,insF j x gx⟩
  have hpop:seqIndex? (i:Int) (rows.map V.str).length=some i:=by
   rw[Aj];exact(seqIndex_of (by lia) (by lia)).trans (by rw[Dj])
  have hvx:(rows.map V.str)[i]?=some (V.str x):=by rw[CJ,hx];rfl
  refine⟨_,rfl,rfl,_,rfl,?_⟩;refine a50 (fun q=>?_) (fun q=>?_)
  ·refine⟨_,rfl,.inl ⟨rfl,_,SqL.of hr4⟩,_,rfl,r,_,_,i,_,rfl,rfl,hr4,by lia,by lia,hpop,hvx,_,rfl,?_⟩;exact fin (rows.eraseIdx i) _ (by rw[a01,c54]) ((hB'.sub (List.eraseIdx_sublist _ _)).mono (by lia) (AZ _) (by lia)) ((Kp.refl _ _).set (by simp))
  refine⟨_,rfl,rfl,_,rfl,?_⟩;refine a50 (fun q=>?_) (fun q=>?_)
  ·refine⟨_,rfl,.inl ⟨rfl,_,SqL.of hr4⟩,_,rfl,r,_,_,i,_,rfl,rfl,hr4,by lia,by lia,hpop,hvx,?_⟩;refine⟨_,rfl,.inl ⟨rfl,_,SqL.of a01⟩,_,rfl,_,rfl,r,_,_,_,rfl,rfl,a01,by lia,by lia,?_,_,rfl,?_⟩
   ·exact Nat.lt_of_le_of_lt (List.length_eraseIdx_le _ _) szm
   ·rw[c54];exact fin ((rows.eraseIdx i).take j++x::(rows.eraseIdx i).drop j) _ (by rw[a01,Dj,g34]) (((hB'.sub (List.eraseIdx_sublist _ _)).ins gx).mono (by lia) (AZ _) (by lia)) (((Kp.refl _ _).set (by simp)).set (by simp))
  refine⟨_,rfl,rfl,_,rfl,?_⟩;refine a50 (fun q=>?_) (fun q=>?_)
  ·refine⟨_,rfl,_,rfl,_,rfl,b,r,n,i,c,rows,x,rfl,hb4,hr4,nbr,hB.1,by lia,hx,by lia,fun z' H5 gz hb5 k5=>?_⟩;have hr5:=hb4.keep k5 nbr hr4;refine⟨_,rfl,_,rfl,r,_,_,i,rfl,rfl,hr5,hix hi,_,rfl,?_⟩
   ·refine k r (rows.set i z') _ (by rw[a01,List.map_set]) ((hB'.set gz).mono (by lia) (AZ _) (by lia)) (hb5.kp ((Kp.refl _ _).set (by simp)) inb) ?_
    exact fun a o e q=>((Kp.refl [r] H5).set (by simp)) a o (k5 a o (kA a o e q) q) (by simpa using a04 e hr0)
  refine⟨_,rfl,rfl,_,rfl,?_⟩;refine a50 (fun q=>?_) (fun q=>?_)
  ·have lx:=gx.1;refine⟨_,rfl,_,rfl,r,_,_,_,rfl,rfl,SqL.of hr4,hax,rfl,_,_,rfl,rfl,by decide +kernel,by lia,fun W hW=>?_⟩;refine⟨W,_,_,_,rfl,rfl,SqL.of a01,g07 x,?_⟩;have s5:Same H4 (upd H4 W (.lst ((Txt.split x " ").map V.str))):=(Same.refl _).upd hW;generalize (upd H4 W (.lst ((Txt.split x " ").map V.str)))=H5 at s5 ⊢;generalize hd0 x=s0;have hr5:=s5 _ _ hr4;refine⟨(fun v hv=>nomatch Ax.mp hv),_,rfl,r,rfl,⟨_,SqL.of hr5⟩,c42 (fun y=>decide (V.str (hd0 y)=V.str s0)) hr5 (by rw[sizeLine_eq];lia) ?_ ?_⟩
   ·intro y us H' N' hy s' n1 n2;have ly:=(hB'.1 y hy).1;refine⟨_,rfl,rfl,_,_,rfl,rfl,by decide +kernel,by lia,fun W2 hW2=>?_⟩;have s2:Same H5 (upd H' W2 (.lst ((Txt.split y " ").map V.str))):=s'.upd hW2;refine⟨W2,_,_,_,rfl,rfl,SqL.of a01,g07 y,_,rfl,rfl,_,rfl,?_⟩;exact a50 (fun q=>⟨_,rfl,n2 q _ s2⟩) (fun q=>n1 (by simpa using q) _ s2)
   ·intro H6 s6 D hD;have s7:Same H5 (upd H6 D (.lst ((rows.filter fun y=>decide (V.str (hd0 y)=V.str s0)).map V.str))):=s6.upd hD;have hD7:(upd H6 D (.lst ((rows.filter fun y=>decide (V.str (hd0 y)=V.str s0)).map V.str))) D=some (.lst ((rows.filter fun y=>decide (V.str (hd0 y)=V.str s0)).map V.str)):=a01;generalize (upd H6 D (.lst ((rows.filter fun y=>decide (V.str (hd0 y)=V.str s0)).map V.str)))=H7 at s7 hD7 ⊢;have hr7:=s7 _ _ hr5;refine⟨(fun v hv=>nomatch Ax.mp hv),_,rfl,r,rfl,⟨_,SqL.of hr7⟩,c42 (fun y=>!decide (V.str (hd0 y)=V.str s0)) hr7 (by rw[sizeLine_eq];lia) ?_ ?_⟩
    ·intro y us H' N' hy s' n1 n2;have ly:=(hB'.1 y hy).1;refine⟨_,rfl,rfl,_,_,rfl,rfl,by decide +kernel,by lia,fun W2 hW2=>?_⟩;have s2:Same H7 (upd H' W2 (.lst ((Txt.split y " ").map V.str))):=s'.upd hW2;refine⟨W2,_,_,_,rfl,rfl,SqL.of a01,g07 y,_,rfl,rfl,_,rfl,?_⟩;exact a50 (fun q=>⟨_,rfl,n2 q _ s2⟩) (fun q=>n1 (by simpa using q) _ s2)
    ·intro H8 s8 D2 hD2;have s9:Same H7 (upd H8 D2 (.lst ((rows.filter fun y=>!decide (V.str (hd0 y)=V.str s0)).map V.str))):=s8.upd hD2;have pp:=d25 (fun y=>decide (V.str (hd0 y)=V.str s0)) rows;have pl:=pp.length_eq;rw[Bj] at pl;refine⟨_,rfl,D2,D,_,_,rfl,rfl,a01,s9 _ _ hD7,by rw[Aj,Aj,pl];lia,fun g hg=>⟨_,rfl,?_⟩⟩;have sA:=(s5.trans (s7.trans s9)).upd (o:=.lst ((rows.filter fun y=>!decide (V.str (hd0 y)=V.str s0)).map V.str++(rows.filter fun y=>decide (V.str (hd0 y)=V.str s0)).map V.str)) hg;exact k g _ _ (by rw[a01,← Bz]) ((hB'.perm pp).mono (by lia) (AZ _) (by lia)) (hbn.same sA) (kA.trans (Kp.of sA))
  refine⟨_,rfl,_,rfl,_,rfl,r,_,rfl,SqL.of hr4,fun d hd=>?_⟩;rw[c84,g40];have s5:Same H4 (upd H4 d (.lst ((rows.drop i).map V.str))):=(Same.refl _).upd hd;have hd5:(upd H4 d (.lst ((rows.drop i).map V.str))) d=some (.lst ((rows.drop i).map V.str)):=a01;generalize (upd H4 d (.lst ((rows.drop i).map V.str)))=H5 at s5 hd5 ⊢;refine⟨_,rfl,_,rfl,_,rfl,r,_,rfl,SqL.of (s5 _ _ hr4),fun e he=>?_⟩;rw[c84,i00];have s6:Same H5 (upd H5 e (.lst ((rows.take i).map V.str))):=(Same.refl _).upd he;refine⟨d,e,_,_,rfl,rfl,s6 _ _ hd5,a01,by rw[Aj,Aj,EJ,CQ];lia,fun g hg=>⟨_,rfl,?_⟩⟩;have s7:=(s5.trans s6).upd (o:=.lst ((rows.drop i).map V.str++(rows.take i).map V.str)) hg;refine k g (rows.drop i++rows.take i) _ (by rw[a01,Bz]) ((hB'.perm (List.perm_append_comm.trans (by rw[List.take_append_drop]))).mono (by lia) (AZ _) (by lia)) (hbn.same s7) (kA.trans (Kp.of s7))
end
def spLaw (K:WFr):Sp:=fun vs H Q _=>∃(a:Addr) (ns:List Int),vs=[.ref a]/\SqL K H a (ns.map V.int)/\ns.length<=63/\∀ H',Q (.bl true) H'
section
theorem scLaw:FnScope ["_law_script", "_law_rows_here", "_law_turn", "_law_box_here", "_law_some", "_law_more"] ["_law_script"] (a41 h22):=.of
theorem i34 {f:Addr}{fd:FD}(F:Fun K "law" "law" h22 f fd)(mRange:mg "range" = none)(DL:Def P w K mg base 6 "_law_layer" ["_law_script"] (d82 K))(DR:Def P w K mg base 3 "_law_rows" ["_law_layer_here"] e95)(DF:Def P w K mg base 8 "_law_fits" ["_law_rows_here"] g26)
 (DU:Def P w K mg base 3 "_law_turned" ["_law_box_here", "_law_rows_here"] d08)(DB:Def P w K mg base 1 "_law_box" ["_law_script", "_law_k"] (g61 K))(DT:Def P w K mg base 1 "_law_take" ["_law_box_here", "_law_many"] c72):FnOk P w K mg base CX0 9 f fd ["_law_script"] (spLaw K):=by
 refine F.ok scLaw (fun vs H Q E h=>?_) (fun cdv A outer s H vs Q E hr h=>?_)
 ·obtain⟨a,ns,rfl,_⟩:=h;rfl
 ·obtain⟨a,ns,rfl,hS,hlen,k⟩:=h;have nd:=scLaw.nd;have hr6:Room 6 _:=hr.mono (by decide);have hr3:Room 3 _:=hr.mono (by decide);have hr1:Room 1 _:=hr.mono (by decide);refine⟨_,a03 (a43 1 nd (a42 DR hr3 (a00 (a42 DL hr6 (a00 (a61 b14 (pv 0) a73 (a65 a05)) a02)) a02)))
   (a03 (a46 (b35 (a83 (a42 DF hr (a00 (pv 1) a02)))) (a06 (a40 b08)) a39)
   (a03 (b82 PassesOwn.never rfl (b05 rfl mRange (a00 a05 a02)) (a75 (i:=2) nd rfl (Or.inl rfl))
     (a03 (a43 3 nd (a42 DB hr1 (a00 (a61 b14 (pv 0) (a65 a05) a73) (a00 (pv 2) a02))))
     (a03 (a43 4 nd (pv 1))
     (a03 (b82 PassesOwn.never rfl (b05 rfl mRange (a00 (a47 a80 a05 (a42 DT hr1 (a00 (pv 3) (a00 a05 a02)))) a02)) (a75 (i:=5) nd rfl (Or.inl rfl))
       (a06 (a43 4 nd (a42 DU hr3 (a00 (pv 3) (a00 (pv 4) a02))))))
     (a06 (a46 (b35 (a83 (a42 DF hr (a00 (pv 4) a02)))) (a06 (a40 b08)) a39))))))
   (a06 (a40 (a42 DF hr (a00 (pv 1) a02)))))),?_⟩
  have lc30:(c55 ns none (some 30)).length<=63:=Fz (g12 _ _ _) hlen;have lc1:(c55 ns (some 1) none).length<=63:=Fz (g12 _ _ _) hlen;refine⟨_,rfl,_,rfl,a,_,rfl,hS,fun c hc=>?_⟩;rw[e43];have s1:Same H (upd H c (.lst ((c55 ns none (some 30)).map V.int))):=(Same.refl _).upd hc;refine⟨c,c55 ns none (some 30),rfl,SqL.of a01,lc30,fun v H2 hv s2=>⟨v,rfl,hv,fun l rows H3 hl hR h9 hX s3=>?_⟩⟩;have sH:=s1.trans (s2.trans s3);refine⟨_,rfl,l,rows,rfl,hl,hR.mono (by decide),fun H4 s4=>⟨_,rfl,a76 ?_⟩⟩;have hS3:=(sH.trans s4).seq hS;have hl4:=s4 _ _ hl;refine⟨6,rfl,by decide,by decide,b41 (n:=6) (fun i σ H'=>(∃ v3 v4 v5 v6,σ=[some (.ref a),some (.ref l),v3,v4,v5,v6])/\Same H4 H') ⟨⟨none,none,none,none,rfl⟩,Same.refl _⟩ ?_ ?_⟩
  ·rintro i σ H' hi ⟨⟨v3,v4,v5,v6,rfl⟩,s'⟩;refine⟨_,rfl,_,rfl,a,_,rfl,s'.seq hS3,fun c2 hc2=>?_⟩;rw[e43];have s5:Same H' (upd H' c2 (.lst ((c55 ns (some 1) none).map V.int))):=(Same.refl _).upd hc2;have hc5:(upd H' c2 (.lst ((c55 ns (some 1) none).map V.int))) c2=some (.lst ((c55 ns (some 1) none).map V.int)):=a01;generalize (upd H' c2 (.lst ((c55 ns (some 1) none).map V.int)))=H5 at s5 hc5 ⊢;refine⟨_,rfl,c2,c55 ns (some 1) none,i,?_,SqL.of hc5,by lia,lc1,fun t H6 ht0 ht6 s6=>?_⟩
   ·rw[Int.zero_add];rfl
   have hl6:=s6 _ _ (s5 _ _ (s' _ _ hl4));have ntl:t≠l:=fun e=>by rw[e,s5 _ _ (s' _ _ hl4)] at ht0;cases ht0
   have t0:H' t=none:=s5.free ht0;have sB:Same H' H6:=s5.trans s6;refine⟨_,rfl,_,rfl,t,999999,3,rfl,by decide,by decide,ht6,fun m H7 mlo mhi ht7 k7=>?_⟩;obtain⟨m,rfl⟩:=Int.eq_ofNat_of_zero_le mlo;refine⟨_,_,rfl,rfl,?_⟩;refine⟨_,rfl,by lia,by lia,b41 (n:=((1:Int)+(m:Int)).toNat) (fun j σ H''=>(∃ v6 l',σ=[some (.ref a),some (.ref l),some (.int (0+(i:Int))),some (.ref t),some (.ref l'),v6]/\∃ rows',H'' l'=some (.lst (rows'.map V.str))/\t≠l'/\Bd (450000+j * 13000) (1200+j * 1200) (900+j * 2) rows')/\BxAt H'' t (999995-j * 4)/\Kp [t] H6 H'') ?_ ?_ ?_⟩
   ·exact⟨⟨v6,l,rfl,rows,ht6.keep k7 ntl hl6,ntl,hX,hR,h9⟩,ht7.mono (by decide),k7⟩
   ·rintro j σ H'' hj ⟨⟨v6',l',rfl,rows',hl',ntl',hB⟩,hb,kk⟩;refine⟨_,rfl,_,rfl,t,l',999995-(j+1) * 4,_,_,_,rows',rfl,hb.mono (by lia),hl',ntl',hB,by lia,by lia,by lia,fun x rows'' H8 hx hB8 hb8 k8=>?_⟩;refine⟨⟨_,x,rfl,rows'',hx,?_,hB8.mono (by lia) (by lia) (by lia)⟩,hb8,kk.trans k8⟩;intro e;obtain⟨_,_,_,e',_⟩:=hb8;rw[e,hx] at e';cases rows'' with
    | nil=>cases e'
    | cons u us=>injection e' with e';injection e' with e';injection e' with e' _;cases e'
   ·rintro σ H'' ⟨⟨v6',l',rfl,rows',hl',ntl',hB⟩,hb,kk⟩;refine⟨_,rfl,l',rows',rfl,hl',hB.2.1.mono (by lia),fun H9 s9=>⟨_,rfl,a76 ⟨⟨_,_,_,_,rfl⟩,?_⟩⟩⟩;refine s'.trans fun c o e=>s9 _ _ (kk c o (sB c o e) ?_);simpa using a04 e t0
  ·rintro σ H' ⟨⟨v3,v4,v5,v6,rfl⟩,s'⟩;exact⟨_,rfl,l,rows,rfl,s' _ _ hl4,hR.mono (by decide),fun H'' _=>k H''⟩
end
section
variable {C f:Addr}{fd:FD}
theorem i42 (h:FnOk P w K mg base CX0 2 f fd ["self", "entry"] (f78 C))(h':FnOk P w K mg base CX0 2 f fd ["self", "entry"] (fun vs H Q _=>∃(r:Addr)(b:RB)(d:RD) (es:List (List Str×Ent)) (ps:List Pr) (v:V) (x:List Str×Ent),vs=[.ref r,v]/\RdOk C H r b d es ps/\EntV H v x.1 x.2/\es.length<=400/\¬(c96 es x/\ps=[])/\∀ H',Same H H'->Q (.bl false) H')):FnOk P w K mg base CX0 2 f fd ["self", "entry"] (e27 C) :=
 (h.or h').imp fun vs H Q E ⟨r,b,d,es,ps,v,x,e,R,hv,h4,k1,k2⟩=>by
   by_cases hN:c96 es x/\ps=[]
   ·obtain⟨hN,rfl⟩:=hN;exact .inl ⟨r,b,d,es,v,x,e,R,hv,hN,fun d' H'=>k1 hN rfl d' H'⟩
   ·exact .inr ⟨r,b,d,es,ps,v,x,e,R,hv,h4,hN,k2 hN⟩
theorem i29 (h:FnOk P w K mg base CX0 1 f fd ["self", "pair"] (f74 C))(h':FnOk P w K mg base CX0 1 f fd ["self", "pair"] (fun vs H Q _=>∃(r:Addr)(b:RB)(d:RD) (es:List (List Str×Ent)) (ps:List Pr) (v:V)(x:Pr),vs=[.ref r,v]/\RdOk C H r b d es ps/\PairV H v x/\ps.length<=200/\¬ c52 ps x/\∀ H',Same H H'->Q (.bl false) H')):FnOk P w K mg base CX0 1 f fd ["self", "pair"] (e38 C) :=
 (h.or h').imp fun vs H Q E ⟨r,b,d,es,ps,v,x,e,R,hv,h4,k1,k2⟩=>by
   by_cases hN:c52 ps x
   ·exact .inl ⟨r,b,d,es,ps,v,x,e,R,hv,hN,fun d' H'=>k1 hN d' H'⟩
   ·exact .inr ⟨r,b,d,es,ps,v,x,e,R,hv,h4,hN,k2 hN⟩
end
def LF (K:WFr) (x q:Str)(st:Stmt)(f:Addr):Prop:=∃(oc:Value)(od:Option Addr) (kV dc pm:Value)(an:Option Addr) (cd ct:Value)(sl:Array (Option Value)),K.lookup f=some ⟨oc,od,.func (PySem.W.fnOf x q (b28 st) (b16 st) (a41 st) .none kV dc pm an cd ct),sl⟩/\PySem.W.codeIn K cd q=true/\PySem.W.keepIn K (.ref f)=true
theorem LF.of {K:WFr}{x q:Str}{st:Stmt}{f:Addr}{oc:Value}{od:Option Addr}{kV dc pm:Value}{an:Option Addr}{cd ct:Value}{sl:Array (Option Value)}(l:K.lookup f=some ⟨oc,od,.func (PySem.W.fnOf x q (b28 st) (b16 st) (a41 st) .none kV dc pm an cd ct),sl⟩)(c:PySem.W.codeIn K cd q=true)(k:PySem.W.keepIn K (.ref f)=true):LF K x q st f:=⟨oc,od,kV,dc,pm,an,cd,ct,sl,l,c,k⟩
theorem LF.mk {K:WFr}{x q:Str}{st:Stmt}{f:Addr}(h:LF K x q st f):∃ fd,Fun K x q st f fd/\PySem.W.keepIn K (.ref f)=true:=by
 obtain⟨_,_,_,_,_,_,_,_,_,l,c,k⟩:=h;exact⟨_,h46 l c k,k⟩
theorem bnd {K:WFr}{x q:Str}{st:Stmt}{f:Addr}{fd:FD}(F:Fun K x q st f fd) (ps:List Str)(h:∀(kV doc pm:Value)(an:Option Addr) (cdv ct:Value) (us:List Value),us.length=ps.length->bindArgs (PySem.W.fnOf x q (b28 st) (b16 st) (a41 st) .none kV doc pm an cdv ct) ⟨us,[]⟩=pure (ps.zip us):=by
 intro _ _ _ _ _ _ us hl;first
  | exact match us,hl with | [_],_=>rfl
  | exact match us,hl with | [_,_],_=>rfl
  | exact match us,hl with | [_,_,_],_=>rfl
  | exact match us,hl with | [_,_,_,_],_=>rfl):Binds K fd ps []:=F.binds h
theorem all_mk {l:PySem.W.OpenLaw}{w:World}{K:WFr}{h:Heap}{mg:Str->Option Value}{fa:Addr}(X:K.In h)(G:h.Ns mG mg)(hfa:mg "law" = some (.ref fa))
 {f0 f1 f2 f3 f4 f5 f6 f7 f8 f9 f10 f11 f12 f13 f14 f15 f16 f17 f18 f19 f20 f21 f22 f23 f24 f25 f26 f27 f28 f29 f30 f31 f32 f33 f34 f35:Addr}
 {odL anL:Option Addr}{slL:Array (Option Value)}
 {ocL kVL dcL pmL cdL ctL:Value}
 {tLet tLong tMost tText tFig tPer tRows tFiles:Tok}
 (a0:wN K mG "is_name" = some (some (.ref f0)))(l0:LF K "is_name" "is_name" e02 f0)
 (a1:wN K mG "path_in" = some (some (.ref f1)))(l1:LF K "path_in" "path_in" d97 f1)
 (a2:wN K mG "path_up_to" = some (some (.ref f2)))(l2:LF K "path_up_to" "path_up_to" c41 f2)
 (a3:wN K mG "parent_of" = some (some (.ref f3)))(l3:LF K "parent_of" "parent_of" c45 f3)
 (a4:wN K mG "is_sign" = some (some (.ref f4)))(l4:LF K "is_sign" "is_sign" d64 f4)
 (a5:wN K mG "is_text" = some (some (.ref f5)))(l5:LF K "is_text" "is_text" d71 f5)
 (a6:wN K mG "number_in" = some (some (.ref f6)))(l6:LF K "number_in" "number_in" c40 f6)
 (a7:wN K mG "read_layer" = some (some (.ref f7)))(l7:LF K "read_layer" "read_layer" b46 f7)
 (a8:wN K mG "entry_in" = some (some (.ref f8)))(l8:LF K "entry_in" "entry_in" d05 f8)
 (a9:wN K mG "folder_in" = some (some (.ref f9)))(l9:LF K "folder_in" "folder_in" c36 f9)
 (a10:wN K mG "file_in" = some (some (.ref f10)))(l10:LF K "file_in" "file_in" d93 f10)
 (a11:wN K mG "gone_in" = some (some (.ref f11)))(l11:LF K "gone_in" "gone_in" d77 f11)
 (a12:wN K mG "pair_in" = some (some (.ref f12)))(l12:LF K "pair_in" "pair_in" e00 f12)
 (a13:wN K mG "_law_box" = some (some (.ref f13)))(l13:LF K "_law_box" "_law_box" sBox f13)
 (a14:wN K mG "_law_take" = some (some (.ref f14)))(l14:LF K "_law_take" "_law_take" h77 f14)
 (a15:wN K mG "_law_word" = some (some (.ref f15)))(l15:LF K "_law_word" "_law_word" h73 f15)
 (a16:wN K mG "_law_text" = some (some (.ref f16)))(l16:LF K "_law_text" "_law_text" i11 f16)
 (a17:wN K mG "_law_any_path" = some (some (.ref f17)))(l17:LF K "_law_any_path" "_law_any_path" c83 f17)
 (a18:wN K mG "_law_new_file" = some (some (.ref f18)))(l18:LF K "_law_new_file" "_law_new_file" d02 f18)
 (a19:wN K mG "_law_grow" = some (some (.ref f19)))(l19:LF K "_law_grow" "_law_grow" h84 f19)
 (a20:wN K mG "_law_deep" = some (some (.ref f20)))(l20:LF K "_law_deep" "_law_deep" h48 f20)
 (a21:wN K mG "_law_layer" = some (some (.ref f21)))(l21:LF K "_law_layer" "_law_layer" f52 f21)
 (a22:wN K mG "_law_path_text" = some (some (.ref f22)))(l22:LF K "_law_path_text" "_law_path_text" b95 f22)
 (a23:wN K mG "_law_entry_row" = some (some (.ref f23)))(l23:LF K "_law_entry_row" "_law_entry_row" c38 f23)
 (a24:wN K mG "_law_pair_row" = some (some (.ref f24)))(l24:LF K "_law_pair_row" "_law_pair_row" c98 f24)
 (a25:wN K mG "_law_rows" = some (some (.ref f25)))(l25:LF K "_law_rows" "_law_rows" h97 f25)
 (a26:wN K mG "_law_alike" = some (some (.ref f26)))(l26:LF K "_law_alike" "_law_alike" d33 f26)
 (a27:wN K mG "_law_path_of" = some (some (.ref f27)))(l27:LF K "_law_path_of" "_law_path_of" d78 f27)
 (a28:wN K mG "_law_number" = some (some (.ref f28)))(l28:LF K "_law_number" "_law_number" e01 f28)
 (a29:wN K mG "_law_entry_of" = some (some (.ref f29)))(l29:LF K "_law_entry_of" "_law_entry_of" c87 f29)
 (a30:wN K mG "_law_pair_of" = some (some (.ref f30)))(l30:LF K "_law_pair_of" "_law_pair_of" d89 f30)
 (a31:wN K mG "_law_due" = some (some (.ref f31)))(l31:LF K "_law_due" "_law_due" sDue f31)
 (a32:wN K mG "_law_fits" = some (some (.ref f32)))(l32:LF K "_law_fits" "_law_fits" h98 f32)
 (a33:wN K mG "_law_otherwise" = some (some (.ref f33)))(l33:LF K "_law_otherwise" "_law_otherwise" c07 f33)
 (a34:wN K mG "_law_turned" = some (some (.ref f34)))(l34:LF K "_law_turned" "_law_turned" c74 f34)
 (a35:wN K mG "law" = some (some (.ref f35)))(lL:K.lookup f35=some ⟨ocL,odL,.func (PySem.W.fnOf "law" "law" (b28 h22) (b16 h22) (a41 h22) .none kVL dcL pmL anL cdL ctL),slL⟩)(cL:PySem.W.codeIn K cdL "law" = true)(kL:PySem.W.keepIn K (.ref f35)=true)
 (z0:wN K mG "len" = some none)
 (z1:wN K mG "abs" = some none)
 (z2:wN K mG "range" = some none)
 (z3:wN K mG "int" = some none)
 (z4:wN K mG "tuple" = some none)
 (z5:wN K mG "sorted" = some none)
 (z6:wN K mG "str" = some none)
 (z7:wN K mG "isinstance" = some none)
 (z8:wN K mG "all" = some none)
 (z9:wN K mG "enumerate" = some none)
 (z10:wN K mG "ord" = some none)
 (z11:wN K mG "zip" = some none)
 (z12:wN K mG "bool" = some none)
 (z13:wN K mG "any" = some none)
 (z14:wN K mG "max" = some none)
 (z15:wN K mG "ValueError" = some none)
 (z16:wN K mG "list" = some none)
 (z17:wN K mG "reversed" = some none)
 (g0:wN K mG "LETTERS" = some (some (.str LET tLet)))
 (g1:wN K mG "LONGEST_NAME" = some (some (.int 8 tLong)))
 (g2:wN K mG "MOST_NAMES" = some (some (.int 8 tMost)))
 (g3:wN K mG "LONGEST_TEXT" = some (some (.int 200 tText)))
 (g4:wN K mG "FIGURES" = some (some (.str FIG tFig)))
 (g5:wN K mG "PERCENT" = some (some (.int 37 tPer)))
 (g6:wN K mG "MOST_ROWS" = some (some (.int 400 tRows)))
 (g7:wN K mG "MOST_FILES" = some (some (.int 200 tFiles)))
 {C CB B q0 q1 q2 q3 q4 q5 q6 e0 e1 e2 e3 e4 e5 e6 e7 e8 e9 e10:Addr}
 (aC:wN K mG "Reader" = some (some (.ref C)))
 (aCB:wN K mG "BadLayer" = some (some (.ref CB)))
 (aB:wN K mG "ShelfError" = some (some (.ref B)))
 (ue0:wN K mG "NoThing" = some (some (.ref e0)))
 (ue1:wN K mG "WrongKind" = some (some (.ref e1)))
 (ue2:wN K mG "Within" = some (some (.ref e2)))
 (ue3:wN K mG "Taken" = some (some (.ref e3)))
 (ue4:wN K mG "NotEmpty" = some (some (.ref e4)))
 (ue5:wN K mG "TooLong" = some (some (.ref e5)))
 (ue6:wN K mG "TooDeep" = some (some (.ref e6)))
 (ue7:wN K mG "NoHandle" = some (some (.ref e7)))
 (ue8:wN K mG "NoRoom" = some (some (.ref e8)))
 (ue9:wN K mG "NoFit" = some (some (.ref e9)))
 (ue10:wN K mG "BadRow" = some (some (.ref e10)))
 (qa0:wF K (.ref CB) "__init__" = some (some (.ref q0)))
 (ql0:LF K "__init__" "BadLayer.__init__" g14 q0)
 (qa1:wF K (.ref C) "__init__" = some (some (.ref q1)))
 (qi1:PySem.W.isFn K (.ref q1)=true)
 (ql1:LF K "__init__" "Reader.__init__" g20 q1)
 (qa2:wF K (.ref C) "took_row" = some (some (.ref q2)))
 (qi2:PySem.W.isFn K (.ref q2)=true)
 (ql2:LF K "took_row" "Reader.took_row" c89 q2)
 (qa3:wF K (.ref C) "took_entry" = some (some (.ref q3)))
 (qi3:PySem.W.isFn K (.ref q3)=true)
 (ql3:LF K "took_entry" "Reader.took_entry" b43 q3)
 (qa4:wF K (.ref C) "took_pair" = some (some (.ref q4)))
 (qi4:PySem.W.isFn K (.ref q4)=true)
 (ql4:LF K "took_pair" "Reader.took_pair" b88 q4)
 (qa5:wF K (.ref C) "is_whole" = some (some (.ref q5)))
 (qi5:PySem.W.isFn K (.ref q5)=true)
 (ql5:LF K "is_whole" "Reader.is_whole" c97 q5)
 (qa6:wF K (.ref C) "layer_read" = some (some (.ref q6)))
 (qi6:PySem.W.isFn K (.ref q6)=true)
 (ql6:LF K "layer_read" "Reader.layer_read" c08 q6)
 (cpg:PySem.W.plainGet K C Str.empty=true)
 (chd:PySem.W.hasDictIn K C=true)
 (cpo:PySem.W.plainOver K C=true)
 (csa:wF K (.ref C) "__setattr__" = some (some (.builtin "object.__setattr__")))
 (cmk:PySem.W.makesIn K C=true)
 (ckc:PySem.W.keepIn K (.ref C)=true)
 (cnE:wF K (.ref C) "entries" = some none)
 (cnF:wF K (.ref C) "files" = some none)
 (cnL:wF K (.ref C) "last_path" = some none)
 (cnP:wF K (.ref C) "folder_paths" = some none)
 (cnO:wF K (.ref C) "origins" = some none)
 (cnN:wF K (.ref C) "numbers" = some none)
 (xt:PySem.W.typeIn K (.ref q0)=some (.type "function"))
 (xp:PySem.W.takerIn K CB "row" = some none)
 (xn:wF K (.ref CB) "row" = some none)
 (xk:PySem.W.keepIn K (.ref CB)=true)
 (vs1:PySem.W.specialIn K (.ref B) "__getattribute__" = some (some (.builtin "type.__getattribute__")))
 (vs2:PySem.W.readsIn K B (.type "type")=true)
 (vs3:PySem.W.findCls K (.ref B) (.type "type") "__init__" = some (.val (.builtin "ValueError.__init__")))
 (vg1:PySem.W.specialIn K (.builtin "object.__class__") "__get__" = some (some (.builtin "getset_descriptor.__get__")))
 (vg2:PySem.W.takesIn K (.builtin "object.__class__")=some true)
 (vx1:b69 K CB (some q0)=true)
 (vx2:b69 K B none=true)
 (vx3:L2.subIn K CB B=true)
 (vx4:xcIn K CB=true)
 (kittt:PySem.W.kitOne K (.type "tuple") (.type "tuple")=some true)
 (kitnt:PySem.W.kitOne K (.type "NoneType") (.type "tuple")=some false)
 (kitst:PySem.W.kitOne K (.type "str") (.type "tuple")=some false)
 (kitit:PySem.W.kitOne K (.type "int") (.type "tuple")=some false)
 (kitss:PySem.W.kitOne K (.type "str") (.type "str")=some true)
 (kitis:PySem.W.kitOne K (.type "int") (.type "str")=some false)
 (kitii:PySem.W.kitOne K (.type "int") (.type "int")=some true)
 (kitib:PySem.W.kitOne K (.type "int") (.type "bool")=some false)
 (kitbb:PySem.W.kitOne K (.ref CB) (.ref CB)=some true)
 (kitve:PySem.W.kitOne K (.ref CB) (.type "ValueError")=some true)
 (kit8:PySem.W.kitAny K (.ref CB) [.ref e0,.ref e1,.ref e2,.ref e3,.ref e4,.ref e5,.ref e6,.ref e7]=some false)
 (kit3:PySem.W.kitAny K (.ref CB) [.ref e8,.ref e9,.ref e10]=some false)
 : ∃ fd:FD,(∀(s:Sd) (v:Value),BindsTo s fd ⟨[v],[]⟩ [("_law_script", v)])/\∀ base:Heap,K.In base->base.Ns mG mg->FnOk l.prog w K mg base CX0 9 fa fd ["_law_script"] (spLaw K):=by
 have e:=hfa.symm.trans (wM X G a35);cases e;obtain⟨_,FIsName,k0⟩:=l0.mk;have bIsName:=bnd FIsName ["word"];have mIsName:=wM X G a0;obtain⟨_,FPathIn,k1⟩:=l1.mk;have bPathIn:=bnd FPathIn ["text"];have mPathIn:=wM X G a1;obtain⟨_,FPathUpTo,k2⟩:=l2.mk;have bPathUpTo:=bnd FPathUpTo ["text", "most"];have mPathUpTo:=wM X G a2;obtain⟨_,FParentOf,k3⟩:=l3.mk;have bParentOf:=bnd FParentOf ["path"];have mParentOf:=wM X G a3;obtain⟨_,FIsSign,k4⟩:=l4.mk;have bIsSign:=bnd FIsSign ["sign"];have mIsSign:=wM X G a4;obtain⟨_,FIsText,k5⟩:=l5.mk;have bIsText:=bnd FIsText ["text"];have mIsText:=wM X G a5;obtain⟨_,FNumberIn,k6⟩:=l6.mk;have bNumberIn:=bnd FNumberIn ["text", "most"];have mNumberIn:=wM X G a6;obtain⟨_,FReadLayer,k7⟩:=l7.mk;have bReadLayer:=bnd FReadLayer ["text"];have mReadLayer:=wM X G a7;obtain⟨_,FEntryIn,k8⟩:=l8.mk;have bEntryIn:=bnd FEntryIn ["row"];have mEntryIn:=wM X G a8;obtain⟨_,FFolderIn,k9⟩:=l9.mk;have bFolderIn:=bnd FFolderIn ["words"];have mFolderIn:=wM X G a9;obtain⟨_,FFileIn,k10⟩:=l10.mk;have bFileIn:=bnd FFileIn ["words"];have mFileIn:=wM X G a10;obtain⟨_,FGoneIn,k11⟩:=l11.mk;have bGoneIn:=bnd FGoneIn ["words"];have mGoneIn:=wM X G a11;obtain⟨_,FPairIn,k12⟩:=l12.mk;have bPairIn:=bnd FPairIn ["row"];have mPairIn:=wM X G a12;obtain⟨_,FBox,k13⟩:=l13.mk;have bBox:=bnd FBox ["_law_script", "_law_k"];have mBox:=wM X G a13;obtain⟨_,FTake,k14⟩:=l14.mk;have bTake:=bnd FTake ["_law_box_here", "_law_many"];have mTake:=wM X G a14;obtain⟨_,FWord,k15⟩:=l15.mk;have bWord:=bnd FWord ["_law_box_here"];have mWord:=wM X G a15;obtain⟨_,FText,k16⟩:=l16.mk;have bText:=bnd FText ["_law_box_here"];have mText:=wM X G a16;obtain⟨_,FAnyPath,k17⟩:=l17.mk;have bAnyPath:=bnd FAnyPath ["_law_box_here"];have mAnyPath:=wM X G a17;obtain⟨_,FNewFile,k18⟩:=l18.mk;have bNewFile:=bnd FNewFile ["_law_box_here", "_law_pairs"];have mNewFile:=wM X G a18;obtain⟨_,FGrow,k19⟩:=l19.mk;have bGrow:=bnd FGrow ["_law_box_here", "_law_rows_here", "_law_pairs", "_law_folders"];have mGrow:=wM X G a19;obtain⟨_,FDeep,k20⟩:=l20.mk;have bDeep:=bnd FDeep ["_law_rows_here", "_law_name"];have mDeep:=wM X G a20;obtain⟨_,FLayer,k21⟩:=l21.mk;have bLayer:=bnd FLayer ["_law_script"];have mLayer:=wM X G a21;obtain⟨_,FLPathText,k22⟩:=l22.mk;have bLPathText:=bnd FLPathText ["_law_path"];have mLPathText:=wM X G a22;obtain⟨_,FEntryRow,k23⟩:=l23.mk;have bEntryRow:=bnd FEntryRow ["_law_entry"];have mEntryRow:=wM X G a23;obtain⟨_,FPairRow,k24⟩:=l24.mk;have bPairRow:=bnd FPairRow ["_law_pair"];have mPairRow:=wM X G a24;obtain⟨_,FRows,k25⟩:=l25.mk;have bRows:=bnd FRows ["_law_layer_here"];have mRows:=wM X G a25;obtain⟨_,FAlike,k26⟩:=l26.mk;have bAlike:=bnd FAlike ["_law_found", "_law_due_here"];have mAlike:=wM X G a26;obtain⟨_,FPathOf,k27⟩:=l27.mk;have bPathOf:=bnd FPathOf ["_law_word_here", "_law_most"];have mPathOf:=wM X G a27;obtain⟨_,FNumber,k28⟩:=l28.mk;have bNumber:=bnd FNumber ["_law_word_here"];have mNumber:=wM X G a28;obtain⟨_,FEntryOf,k29⟩:=l29.mk;have bEntryOf:=bnd FEntryOf ["_law_words"];have mEntryOf:=wM X G a29;obtain⟨_,FPairOf,k30⟩:=l30.mk;have bPairOf:=bnd FPairOf ["_law_row"];have mPairOf:=wM X G a30;obtain⟨_,FDue,k31⟩:=l31.mk;have bDue:=bnd FDue ["_law_rows_here"];have mDue:=wM X G a31;obtain⟨_,FFits,k32⟩:=l32.mk;have bFits:=bnd FFits ["_law_rows_here"];have mFits:=wM X G a32;obtain⟨_,FOtherwise,k33⟩:=l33.mk;have bOtherwise:=bnd FOtherwise ["_law_box_here", "_law_rows_here", "_law_at"];have mOtherwise:=wM X G a33;obtain⟨_,FTurned,k34⟩:=l34.mk;have bTurned:=bnd FTurned ["_law_box_here", "_law_rows_here"];have mTurned:=wM X G a34;have FLaw:=h46 (st:=h22) lL cL kL;have z_len:=wO X G z0;have z_abs:=wO X G z1;have z_range:=wO X G z2;have z_int:=wO X G z3;have z_tuple:=wO X G z4;have z_sorted:=wO X G z5;have z_str:=wO X G z6;have z_isinstance:=wO X G z7;have z_all:=wO X G z8;have z_enumerate:=wO X G z9;have z_ord:=wO X G z10;have z_zip:=wO X G z11;have z_bool:=wO X G z12;have z_any:=wO X G z13;have z_max:=wO X G z14;have z_ValueError:=wO X G z15;have z_list:=wO X G z16;have z_reversed:=wO X G z17;have g_LETTERS:=wM X G g0;have g_LONGEST_NAME:=wM X G g1;have g_MOST_NAMES:=wM X G g2;have g_LONGEST_TEXT:=wM X G g3;have g_FIGURES:=wM X G g4;have g_PERCENT:=wM X G g5;have g_MOST_ROWS:=wM X G g6;have g_MOST_FILES:=wM X G g7;refine⟨PySem.W.fnOf "law" "law" (b28 h22) (b16 h22) (a41 h22) .none kVL dcL pmL anL cdL ctL,fun s v=>.of_eq rfl,fun base _ _=>?_⟩;have kt:Kits K:=⟨kittt,kitnt,kitst,kitit,kitss,kitis,kitii,kitib⟩;have mReader:=wM X G aC;have mBad:=wM X G aCB;have mShelf:=wM X G aB;have T:Txt K C:=⟨⟨cpg,chd,cpo,csa⟩,cnE,cnF,cnL,cnP,cnO,cnN⟩;have GX:XGet K:=⟨vg1,vg2⟩;have bad:Bad K CB B q0:=⟨vx1,vx2,vx3,XC.of vx4,xp,xt,xk,xn⟩;have hBs:Base K B:=⟨vs1,vs2,vs3⟩;have OO:Oths K CB [e0,e1,e2,e3,e4,e5,e6,e7] [e8,e9,e10]:=⟨kitbb,kitve,kit8,kit3⟩;have w0:=wM X G ue0;have w1:=wM X G ue1;have w2:=wM X G ue2;have w3:=wM X G ue3;have w4:=wM X G ue4;have w5:=wM X G ue5;have w6:=wM X G ue6;have w7:=wM X G ue7;have w8:=wM X G ue8;have w9:=wM X G ue9;have w10:=wM X G ue10;obtain⟨_,FBInit,qk0⟩:=ql0.mk;have bBInit:=bnd FBInit ["self", "words", "row"];obtain⟨_,FRInit,qk1⟩:=ql1.mk;have bRInit:=bnd FRInit ["self"];obtain⟨_,FTookRow,qk2⟩:=ql2.mk;have bTookRow:=bnd FTookRow ["self", "row"];obtain⟨_,FTookEntry,qk3⟩:=ql3.mk;have bTookEntry:=bnd FTookEntry ["self", "entry"];obtain⟨_,FTookPair,qk4⟩:=ql4.mk;have bTookPair:=bnd FTookPair ["self", "pair"];obtain⟨_,FIsWhole,qk5⟩:=ql5.mk;have bIsWhole:=bnd FIsWhole ["self"];obtain⟨_,FLayerRead,qk6⟩:=ql6.mk;have bLayerRead:=bnd FLayerRead ["self"];have OB:FnOk l.prog w K mg base CX0 1 q0 _ ["self", "words", "row"] (spXI CB):=g56 FBInit mShelf hBs bad;have DBox:Def l.prog w K mg base 1 "_law_box" ["_law_script", "_law_k"] (g61 K):=⟨f13,_,i40 FBox z_len z_abs,mBox,k13,bBox⟩;have b58:Def l.prog w K mg base 1 "_law_take" ["_law_box_here", "_law_many"] c72:=⟨f14,_,h61 FTake,mTake,k14,bTake⟩;have DWord:Def l.prog w K mg base 2 "_law_word" ["_law_box_here"] d50:=⟨f15,_,h87 FWord z_range b58,mWord,k15,bWord⟩;have DText:Def l.prog w K mg base 2 "_law_text" ["_law_box_here"] e58:=⟨f16,_,i08 FText z_range b58,mText,k16,bText⟩;have DAnyPath:Def l.prog w K mg base 3 "_law_any_path" ["_law_box_here"] h15:=⟨f17,_,i64 FAnyPath z_range z_int z_tuple b58 DWord,mAnyPath,k17,bAnyPath⟩;have DNewFile:Def l.prog w K mg base 4 "_law_new_file" ["_law_box_here", "_law_pairs"] h62:=⟨f18,_,i51 FNewFile z_len b58 DAnyPath DText,mNewFile,k18,bNewFile⟩;have DGrow:Def l.prog w K mg base 5 "_law_grow" ["_law_box_here", "_law_rows_here", "_law_pairs", "_law_folders"] e93:=⟨f19,_,h76 FGrow z_len b58 DWord DAnyPath DText DNewFile,mGrow,k19,bGrow⟩;have DDeep:Def l.prog w K mg base 1 "_law_deep" ["_law_rows_here", "_law_name"] f53:=⟨f20,_,i12 FDeep z_range,mDeep,k20,bDeep⟩;have DLayer:Def l.prog w K mg base 6 "_law_layer" ["_law_script"] (d82 K):=⟨f21,_,h18 FLayer z_len z_range z_tuple z_sorted b58 DBox DWord DGrow DDeep,mLayer,k21,bLayer⟩;have DLPathText:Def l.prog w K mg base 1 "_law_path_text" ["_law_path"] spPT:=⟨f22,_,d34 FLPathText,mLPathText,k22,bLPathText⟩;have DEntryRow:Def l.prog w K mg base 2 "_law_entry_row" ["_law_entry"] f83:=⟨f23,_,i14 FEntryRow z_str DLPathText,mEntryRow,k23,bEntryRow⟩;have DPairRow:Def l.prog w K mg base 2 "_law_pair_row" ["_law_pair"] i01:=⟨f24,_,i60 FPairRow DLPathText,mPairRow,k24,bPairRow⟩;have DRows:Def l.prog w K mg base 3 "_law_rows" ["_law_layer_here"] e95:=⟨f25,_,h67 FRows DEntryRow DPairRow,mRows,k25,bRows⟩;have DIsName:Def l.prog w K mg base 1 "is_name" ["word"] d06:=⟨f0,_,g36 FIsName z_len z_all g_LETTERS g_LONGEST_NAME,mIsName,k0,bIsName⟩;have DPathUpTo:Def l.prog w K mg base 2 "path_up_to" ["text", "most"] c34:=⟨f2,_,f85 FPathUpTo z_len z_all z_tuple DIsName,mPathUpTo,k2,bPathUpTo⟩;have DPathIn:Def l.prog w K mg base 3 "path_in" ["text"] b90:=⟨f1,_,g00 FPathIn g_MOST_NAMES DPathUpTo,mPathIn,k1,bPathIn⟩;have DParentOf:Def l.prog w K mg base 1 "parent_of" ["path"] c25:=⟨f3,_,f07 FParentOf,mParentOf,k3,bParentOf⟩;have DIsSign:Def l.prog w K mg base 1 "is_sign" ["sign"] f58:=⟨f4,_,h70 FIsSign z_ord g_PERCENT,mIsSign,k4,bIsSign⟩;have DIsText:Def l.prog w K mg base 2 "is_text" ["text"] c82:=⟨f5,_,f79 FIsText z_len z_all g_LONGEST_TEXT DIsSign,mIsText,k5,bIsText⟩;have DNumberIn:Def l.prog w K mg base 1 "number_in" ["text", "most"] d88:=⟨f6,_,h10 FNumberIn z_len z_all z_str z_int g_FIGURES,mNumberIn,k6,bNumberIn⟩;have DGoneIn:Def l.prog w K mg base 3 "gone_in" ["words"] (b26 d91):=⟨f11,_,f64 FGoneIn z_len g_MOST_NAMES DPathUpTo,mGoneIn,k11,bGoneIn⟩;have DFileIn:Def l.prog w K mg base 4 "file_in" ["words"] (b26 e03):=⟨f10,_,f68 FFileIn z_len g_MOST_FILES DPathIn DNumberIn,mFileIn,k10,bFileIn⟩;have DFolderIn:Def l.prog w K mg base 4 "folder_in" ["words"] (b26 d69):=⟨f9,_,f93 FFolderIn z_len DPathIn,mFolderIn,k9,bFolderIn⟩;have DEntryIn:Def l.prog w K mg base 5 "entry_in" ["row"] d80:=⟨f8,_,g77 FEntryIn DFolderIn DFileIn DGoneIn,mEntryIn,k8,bEntryIn⟩;have DPairIn:Def l.prog w K mg base 4 "pair_in" ["row"] d03:=⟨f12,_,g39 FPairIn z_len DPathIn DIsText,mPairIn,k12,bPairIn⟩;have DReadLayer:DefE l.prog w K mg base 7 "read_layer" ["text"] (f81 CB):=⟨f7,_,h68 FReadLayer T bad OB bBInit mBad z_enumerate z_len ⟨⟨q1,_,g59 FRInit T,⟨cmk,qa1,qi1,ckc⟩,mReader,bRInit⟩⟩ ⟨⟨q2,_,h16 FTookRow T DPairIn DEntryIn ⟨⟨q4,_,i29 (g55 FTookPair T z_len g_MOST_FILES) (g51 FTookPair T z_len g_MOST_FILES),⟨qa4,qi4,qk4⟩,bTookPair⟩⟩ ⟨⟨q3,_,i42 (g52 FTookEntry T z_len g_MOST_ROWS DParentOf) (g53 FTookEntry T z_len g_MOST_ROWS DParentOf),⟨qa3,qi3,qk3⟩,bTookEntry⟩⟩,⟨qa2,qi2,qk2⟩,bTookRow⟩⟩ ⟨⟨q5,_,h23 FIsWhole T z_len z_all z_enumerate,⟨qa5,qi5,qk5⟩,bIsWhole⟩⟩ ⟨⟨q6,_,ok_LR FLayerRead T z_tuple,⟨qa6,qi6,qk6⟩,bLayerRead⟩⟩,mReadLayer,k7,bReadLayer⟩;have DPathOf:Def l.prog w K mg base 1 "_law_path_of" ["_law_word_here", "_law_most"] c30:=⟨f27,_,f03 FPathOf z_len z_any z_tuple,mPathOf,k27,bPathOf⟩;have DNumber:Def l.prog w K mg base 1 "_law_number" ["_law_word_here"] d07:=⟨f28,_,f66 FNumber z_len z_any z_int,mNumber,k28,bNumber⟩;have DEntryOf:Def l.prog w K mg base 2 "_law_entry_of" ["_law_words"] e09:=⟨f29,_,h00 FEntryOf z_len z_int DPathOf DNumber,mEntryOf,k29,bEntryOf⟩;have DPairOf:Def l.prog w K mg base 2 "_law_pair_of" ["_law_row"] c86:=⟨f30,_,g16 FPairOf z_len z_any DPathOf,mPairOf,k30,bPairOf⟩;have DDue:Def l.prog w K mg base 3 "_law_due" ["_law_rows_here"] h81:=⟨f31,_,i82 FDue z_len z_any z_max z_enumerate z_tuple DEntryOf DPairOf,mDue,k31,bDue⟩;have DAlike:Def l.prog w K mg base 5 "_law_alike" ["_law_found", "_law_due_here"] (c51 4):=⟨f26,_,e60 FAlike kt z_isinstance z_tuple z_str z_int z_bool z_len z_all z_zip mAlike k26 bAlike 4,mAlike,k26,bAlike⟩;have DFits:Def l.prog w K mg base 8 "_law_fits" ["_law_rows_here"] g26:=⟨f32,_,h74 FFits GX bad vx2 mShelf mBad OO w0 w1 w2 w3 w4 w5 w6 w7 w8 w9 w10 z_isinstance z_ValueError DDue DReadLayer DAlike,mFits,k32,bFits⟩;have DOtherwise:Def l.prog w K mg base 2 "_law_otherwise" ["_law_box_here", "_law_rows_here", "_law_at"] h75:=⟨f33,_,i66 FOtherwise z_len z_str b58,mOtherwise,k33,bOtherwise⟩;have DTurned:Def l.prog w K mg base 3 "_law_turned" ["_law_box_here", "_law_rows_here"] d08:=⟨f34,_,g22 FTurned z_len z_list z_reversed b58 DOtherwise,mTurned,k34,bTurned⟩;exact i34 FLaw z_range DLayer DRows DFits DTurned DBox b58
theorem walk {l:PySem.W.OpenLaw}{q:Pm}{loose:List Str}{XP:(Str->Option Value)->Heap->Prop}{YP:World->Heap->Prop}{d:DefRec}{K:Params->WFr}(hn:l.most=some 63)(hdf:d.params.defaults=[])
 (hY:∀(w:World)(h:Heap),YP w h->(K w.params).In h)
 (F:∀(w:World) (mg:Str->Option Value)(fa:Addr)(h:Heap),(K w.params).In h->h.Ns mG mg->mg d.name=some (.ref fa) ->
   ∃ fd:FD,(∀(s:Sd) (u:Value),BindsTo s fd ⟨[u],[]⟩ [("_law_script", u)])/\∀ base:Heap,(K w.params).In base->base.Ns mG mg->FnOk l.prog w (K w.params) mg base CX0 9 fa fd ["_law_script"] (spLaw (K w.params))) :
 PySem.W.WalkO q loose XP YP l.row.toRowW d [] (fun f vs=>PySem.call f vs) :=
 L2.walk_of (n:=63) (k:=9) (x := "_law_script") (CX:=fun _=>CX0) (sp:=fun w=>spLaw (K w.params)) hn (by decide) hdf ⟨rfl,by decide,by decide⟩ hY F (fun _ _ a ns hl _ hS=>⟨a,ns,rfl,hS,hl,fun _=>rfl⟩) fun _ _ _ _ _ z=>z
end K22
namespace PySem.W.Fast
def tw4810928842399906950:=0
def tw14016563861774327474:=0
def tw16741559385980135759:=0
def tw627325809237431964:=0
def tw12908178761721960926:=0
def tw12586017849220916215:=0
def tw5069932523331629639:=0
def tw15117044456580650185:=0
def tw11149146625804141729:=0
def tw8772491121085434719:=0
def tw1759852616496873874:=0
def tw6752820143469218610:=0
def tw12936523211582438665:=0
def tw4681577113134453234:=0
def tw16358825982533073368:=0
def tw10223891351702553001:=0
def tw476030984563670970:=0
def tw15352848253208787068:=0
def tw16650262686991843080:=0
def tw7951871921490902012:=0
def tw6865942536608956185:=0
def tw9274986278347492686:=0
def tw9758565493367031884:=0
def tw11218505883902480108:=0
def tw11177691143376330521:=0
def tw10774064116543423844:=0
def tw10793642012058497678:=0
def tw7943551845915876816:=0
def tw2474133171695959743:=0
def tw9229980368457402835:=0
def tw14882083522188822339:=0
def tw2885492046403633139:=0
def tw17781938450558101167:=0
def tw15123619453406055762:=0
def tw11240842176746619633:=0
def tw11964331359343448026:=0
def tw11666993906352277238:=0
def tw15707266753782012890:=0
def tw10764608973187017033:=0
def tw16419162923894152022:=0
def tw2084823717091282328:=0
def tw14040067005614018079:=0
def tw5631573779058257074:=0
def tw7302713880134557476:=0
def tw1571741479358025334:=0
def tw16673509398001384949:=0
def tw14412321753901566679:=0
def tw13318842970799984946:=0
def tw6626661739888641061:=0
def tw8387037359794985121:=0
def tw10890529269091838188:=0
def tw12706201401668710482:=0
def tw10150711577128099431:=0
def tw6927554284191887607:=0
def tw9883752143692703961:=0
def tw4977556805524207553:=0
def tw4730143341221213029:=0
def tw17260378227757703652:=0
def tw1516833877801367323:=0
def tw17896701475997787290:=0
def tw10375865795980710653:=0
def tw6330161611307832823:=0
def tw15035359474123862402:=0
def tw13759048310576482190:=0
def tw17418834306933117368:=0
def tw15630340745400914229:=0
def tw16590796840997137106:=0
def tw11366666779875980140:=0
def tw2787762370806373696:=0
def tw17747688687111675765:=0
def tw17735022226346592042:=0
def tw14617221338553235074:=0
def tw6231519553226669361:=0
def tw9173316107796552391:=0
def tw17450089043962661345:=0
def tw769137738758462299:=0
def tw11597036720989743886:=0
def tw3200328716727621189:=0
def tw11829639815475052186:=0
def tw6208109763086458528:=0
def tw6856626489227854034:=0
def tw568571522835226482:=0
def tw16476105457888426680:=0
def tw2361303167296590018:=0
def tw2265623439156324096:=0
def tw4573674764152222279:=0
def tw1949153391508639648:=0
def tw13433979236968080385:=0
def tw565552611643642351:=0
def tw9413162317986274955:=0
def tw1132484000886720046:=0
def tw12709229699790130070:=0
def tw14081345318915716805:=0
def tw13568764450027586467:=0
def tw9080875203335270266:=0
def tw1821055904226907768:=0
def tw12624349089372653092:=0
def tw1519604529246308197:=0
def tw23846771900850944:=0
def tw5904229008583074907:=0
def tw6883582150849223967:=0
def tw12436784272351969144:=0
def tw4727218629626372590:=0
def tw15620470059056110063:=0
def tw3656078092527172002:=0
def tw13765961844204346447:=0
def tw2183930514701657658:=0
def tw1700567714227568001:=0
def tw1572232004520905189:=0
def tw7519316146503711181:=0
def tw9093667225777692098:=0
def tw18094854249604217705:=0
def tw8246415473205931265:=0
def tw6338115654903067817:=0
def tw13590649910216956509:=0
def tw1003105130538759672:=0
def tw10011982521292472745:=0
def tw5579466557440800726:=0
def tw6821564365553275079:=0
def tw6627833921196070417:=0
def tw7830227456924897804:=0
def tw7345726097759484222:=0
def tw16506029631105943054:=0
def tw220933240255521259:=0
def tw10664488615389637363:=0
def tw18427732372653351590:=0
def tw5683689863475042512:=0
def tw1886443684762061271:=0
def tw12283938832003562416:=0
def tw1393234024834277589:=0
def tw17000092072760503547:=0
def tw16279200028323848320:=0
def tw10699545987584012957:=0
def tw17474405517365889841:=0
def tw7150447749404044907:=0
def tw710797666520097293:=0
def tw15557938767818633941:=0
def tw9362466444672117540:=0
def tw5184470648305798983:=0
def tw4536389668280092740:=0
def tw10703218871643639701:=0
def tw4870722369094881694:=0
end PySem.W.Fast
open PySem PySem.W PyProof.Rows
set_option maxRecDepth 100000 in
set_option maxHeartbeats 0 in
theorem PySem.Challenge.cw_overfold_k23_rows_in_their_places_holds : PySem.Challenge.rw_overfold_k23_rows_in_their_places.Holds := by
 w_on;o_law;k_head;(case hw=>w_witness2)
 k_fill
 refine K22.walk (l:=PySem.Challenge.rw_overfold_k23_rows_in_their_places) rfl rfl (fun w h Y=>PySem.W.kIn_of Y) ?F
 case F =>
  intro w mg fa h KX G hmg;refine' K22.all_mk KX G hmg ?_ ?_ ?_ ?_ ?_ ?_ ?_ ?_ ?_ ?_ ?_ ?_ ?_ ?_ ?_ ?_ ?_ ?_ ?_ ?_ ?_ ?_ ?_ ?_ ?_ ?_ ?_ ?_ ?_ ?_ ?_ ?_ ?_ ?_ ?_ ?_ ?_ ?_ ?_ ?_ ?_ ?_ ?_ ?_ ?_ ?_ ?_ ?_ ?_ ?_ ?_ ?_ ?_ ?_ ?_ ?_ ?_ ?_ ?_ ?_ ?_ ?_ ?_ ?_ ?_ ?_ ?_ ?_ ?_ ?_ ?_ ?_ ?_ ?_ ?_ ?_ ?_ ?_ ?_ ?_ ?_ ?_ ?_ ?_ ?_ ?_ ?_ ?_ ?_ ?_ ?_ ?_ ?_ ?_ ?_ ?_ ?_ ?_ ?_ ?_ ?_ ?_ ?_ ?_ ?_ ?_ ?_ ?_ ?_ ?_ ?_ ?_ ?_ ?_ ?_ ?_ ?_ ?_ ?_ ?_ ?_ ?_ ?_ ?_ ?_ ?_ ?_ ?_ ?_ ?_ ?_ ?_ ?_ ?_ ?_ ?_ ?_ ?_ ?_ ?_ ?_ ?_ ?_ ?_ ?_ ?_ ?_ ?_ ?_ ?_ ?_ ?_ ?_ ?_ ?_ ?_ ?_ ?_ ?_ ?_ ?_ ?_ ?_ ?_ ?_ ?_ ?_ ?_ ?_ ?_ ?_;all_goals try first | (refine' K22.LF.of ?yya ?yyb ?yyc;(case yya=>k_is);(case yyb=>k_is);(case yyc=>k_is)) | k_is | kit_is | kernel_rfl