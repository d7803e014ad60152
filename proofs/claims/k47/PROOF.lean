import PyProof.Rows.All
import Wide.All
import OpenK.AllK
import Wide.FinOn
import Lean
import PyProof.EqAt
import PyProof.EqKinds
import PyProof.TupleCall
import PyProof.NeKinds
import PyProof.ZipIter
import PyProof.Draws
import PyProof.FactsAll.zip
import KE.KSortTup
import KE.KDictSum
import PyProof.TupleOfSeq
import PyProof.StrWalks
import PyProof.Rows.SetFrom
import KE.KRevIter
import PyProof.Rows.Range3
import KE.KTryMore
import KE.KIsNot
import PyProof.ExcArgsOwn
import PyProof.ExcAttrAll.ValueError
import PyProof.ExcBaseAll.ValueError
import PyProof.NsDelKeeps
import PyProof.Rows.CallKwBuiltin
import PyProof.WalkInts
import PyProof.Rows.Catch
import KE.KLam
import KE.KNestM
import PyProof.FactsAll.list_3
import KE.KDictList
import PyProof.Rows.CountFlat
import KE.KDictOf
import PyProof.AttrMissHeap
import PyProof.DictFindH
import PySem.Challenge.RW_twoglass_k47_what_an_unnest_hides
set_option Elab.async false
set_option linter.all false
set_option maxRecDepth 100000
open List renaming filterMap_cons→N3, mem_cons_self→N4, mem_cons_of_mem→N5, mem_append_left→N6, getElem?_set_self→N7, getElem?_set_ne→N8, mem_append_right→Oc, size_toArray→Of, length_cons→Oh, map_cons→Oi, length_map→Oj, append_nil→Oo, of_mem_zip→Ot, length_take→Ou, getElem?_append_right→Ov, getElem?_replicate→Ow, getElem?_append_left→Ox, getElem?_map→Oy, mem_of_getElem?→Oz, length_append→OA, length_drop→OC, length_singleton→OH, map_nil→OJ, find?_cons→OL, any_cons→OM, length_nil→OO, nodup_nil→OT, lookup_cons→OU, forIn_cons→OV, cons_append→OY, take_zero→OZ, take_nil→O0, take_succ_cons→O1, drop_zero→O2, drop_succ_cons→O3, all_cons→O5, getElem?_eq_getElem→O6, getElem_of_mem→Pa, nil_append→Pb, map_congr_left→Ph, map_append→Pj, length_range→Pk, take_length→Pl, getElem?_range→Pn, drop_eq_getElem_cons→Pp, append_assoc→Pr, drop_length→Pt, mem_cons→Pu, not_mem_nil→Pw, getElem?_cons_zero→Px, getElem?_cons_succ→Py, zip_cons_cons→PF, contains_cons→PH, nodup_append→PK, replicate_zero→PN, zip_nil_right→PP, replicate_succ→PQ, foldl_cons→PR, not_lt_nil→PV, nil_lt_cons→PX, cons_lt_cons_iff→PY, pairwise_singleton→PZ, filter_cons_of_pos→P0, filter_cons_of_neg→P4, getElem_mem→P5, pairwise_map→P6, getD_eq_getElem?_getD→P7, map_map→P8, any_map→P9, toList_toArray→Qa, getElem?_eq_none→Qc, take_of_length_le→Qd, mem_singleton→Qe, find?_cons_of_pos→Qi, find?_cons_of_neg→Qj, drop_eq_nil_of_le→Qk, take_left→Ql, set_cons_zero→Qm, set_cons_succ→Qn, getElem_map→Qq, take_take→Qt, getLast?_append→Qu, getLast?_eq_getLast→Qv, getLast_mem→Qw, dropLast_concat_getLast→Qx, filter_append→Qy, flatMap_cons→Qz, flatMap_append→QA, flatMap_singleton→QB, map_singleton→QC, take_append_drop→QD, any_eq_true→QE, mem_nil_iff→QF, map_id→QG, take_succ_eq_append_getElem→QH, length_filter_le→QJ, mem_of_mem_take→QK
open Int renaming natCast_nonneg→Od, fdiv_eq_ediv_of_nonneg→Oe, toNat_natCast→OB, emod_nonneg→Qr, emod_lt_of_pos→Qs, toNat_of_nonneg→QI
open Nat renaming lt_of_lt_of_le→NY, lt_irrefl→NZ, ne_of_lt→N0, le_trans→N1, le_of_lt→N2, ne_of_gt→N9, le_refl→Oa, le_of_eq→Ol, zero_le→Om, le_succ→Oq, lt_trans→OS, lt_succ_of_lt→OX, min_self→O7, sub_zero→Pm, lt_of_le_of_lt→Pq, le_add_right→Pz, add_lt_add_left→PB, lt_add_of_pos_right→PC, zero_add→PD, sub_self→PL, lt_or_ge→Qb, le_total→Qf, min_eq_left→Qg, min_eq_right→Qh
open Bool renaming false_ne_true→Og, and_eq_true→OD, and_false→OI, false_eq_true→OW, and_true→O8, or_eq_true→O9, or_eq_false_iff→PJ, not_true→Qo, not_false→Qp
open Option renaming getD_none→OG, isSome_map→OQ
open PySem renaming Value→RM, World→RN, Program→RO, Addr→RP, Paired→RQ, Heap→RT, sizeLine→RU, mainGlobals→RW, builtinsNs→RX, bootBuiltins→RY, Around→RZ, Shared→R0, Scope→R1, wpAny→R3, Expr→R4, starEach→R5, Stmt→R6, wpAny_mono→R7, wpAny_Name→R8, wpAny_truthy_bool→R9, wpAny_execs_nil→Sa, wpAny_pure→Sd, wpAny_bind→Se, wpAny_pyIter_list→Sf, PassesOwn→Sg, foldedSetIterable→Si, wpAny_passesOwn→Sj, binaryOp→Sl, compareOp→Sn, behindInMarks→Sq, sizeLine_eq→Sr, codeAny→Ss, attributeBase→Su, callWith→Sv, keywordEach→Sw, recursionLimit→Sx, cLine→Sy, FuncData→Sz, BindsTo→SA, codeAny_mono→SD, wpAny_Call_Name_kw→SE, NameKind→SF, Arguments→SG, concat_meets→SH, noFill_tuple_add→SJ, seq_tuple_add→SK, IsPart→SL, wpAny_field→SM, wpAny_holding→SN, wpAny_callSpecial?_slot→SR, wpAny_call_entry→SU, wpAny_typeOf→SV, wpAny_newObj_type→SW, evalPart_none→SY, Keyword→S3, tupleKind_room_in1→S4, wpAny_standAt→S5, wpAny_comprehension_free→S6, wpAny_rule→S7, wpAny_getItem_str_slice→S8, post_val_or_str→S9, wpAny_seqItems→Ta, wpAny_setField→Tb, wpAny_handled→Tc, IsZip→Td, IsPair→Te, wpAny_setField_rec→Tf, wpAny_onRaise→Tg, wpAny_updateSeq_pair→Th, wpAny_letGo→Ti, wpAny_newTuple→Tj, wpAny_attempt→Tl, wpAny_isInstance→Tn, isSubtype_stop→To, wpAny_newList→Tu, wpAny_collect_seq→Tv, wpAny_notOrdered_dict→Tx, wpAny_dictEntries→Tz, DictEntry→TB, wpAny_dictEpoch→TC, IsItemIter→TF, IsItemIterOut→TH, wpAny_typeNameOfWhole_itemiter→TJ, wpAny_typeNameOf_itemiter→TK, wpAny_fieldsOf→TN, wpAny_isOneOf_itemiter→TQ, wpAny_typeNameOfWhole_keyiter→TR, wpAny_typeNameOf_keyiter→TU
open PySem.W renaming instObj→QL, methodObj→QM, Frag→QN, lookIn→QO, plainGet→QP, hasDictIn→QQ, findIn→QR, handedIn→QS, plainGet_of→QT, isFn→QU, plainOver→QV, takerIn→QW, makesIn→QX, emptyDict→QY, keepIn→QZ, callWith_K→Q0, cellsFrom_some→Q1, fnOf→Q2, codeIn→Q3, nsIn→Q4, kitOne→Q5, kia_one→Q6, BoolBack→Q7, tabObj→Q8, kla_fn→Q9, OpenLaw→Ra, kdl_call→Rb, codeHdIn→Rc, mg_of→Rf, mg_none_of→Rg, kas_ask→Tq, kla_obj→Tw
open PySem.Heap renaming lt_size→Rh, get?_none_of_le→Ri, SameBut→Rj, get?_push_of_some→Rl, get?_push_size→Rm, size_push→Rn, get?_update_self→Ro, ExtBut→Rp, get?_push_ne→Rq, size_update→Rr, get?_update_ne→Rt
open PyProof.Rows renaming callWith_type1→Ru, slot_tuple_getitem→Rv, envOfC→Rw, IsTup→Rx, Call_→Ry, boot_tuple→Rz, boot_dict→RA, boot_list→RB, boot_max→RC, boot_int→RD, boot_str→RE, boot_bool→RF, IsTup→RV, Subscript_→SZ, SortKind→Tp, listUpdate_at→Tr, get?_update_seq→Ts, seqEpoch_at→Tt
open PySem.F renaming slot_tuple_add→RG, entry_tuple_add→RH, args_tuple_add_2→RJ, slot_list_append→RK, type_list_append→RL
set_option maxHeartbeats 1000000
local macro_rules | `(‹1›)=>`(by first | exact Or.inl rfl | exact Or.inr rfl)
local macro_rules | `(‹2›)=>`(⟨rfl, rfl, rfl, by decide +kernel, rfl, by decide +kernel, by decide +kernel⟩)
local macro_rules | `(‹0›)=>`(by omega)
namespace L2
open PySem PySem.Spec PyProof.Rows

abbrev Key:=Sum Int Str
def qY:Key->RM->Bool
 | .inl k,v=>Value.isInt k v
 | .inr x,v=>Value.isStrOf x v
def MG (w:RN):Key->Int
 | .inl k=>hashInt k
 | .inr x=>hashStr w x
theorem cV:∀ {k:Key} {v:RM},qY k v=true->(∃ i t,k=Sum.inl i/\v=Value.int i t)\/(∃ x t,k=Sum.inr x/\v=Value.str x t)
 | .inl i,v,h=>by
  obtain⟨t,e⟩:=Value.isInt_shape (k:=i) (v:=v) h
  exact .inl ⟨i,t,rfl,e⟩
 | .inr x,v,h=>by
  obtain⟨t,e⟩:=Value.isStrOf_shape (x:=x) (v:=v) h
  exact .inr ⟨x,t,rfl,e⟩
theorem BW (i:Int) (t:Tok):qY (.inl i) (.int i t)=true:=by simp [qY,Value.isInt]
theorem Bm (x:Str) (t:Tok):qY (.inr x) (.str x t)=true:=by simp [qY,Value.isStrOf]
theorem Ic (a b:Int):decide ((Sum.inl a:Key)=Sum.inl b)=(a==b):=by
 by_cases e:a=b
 ·subst e; simp
 ·have h:¬ (Sum.inl a:Key)=Sum.inl b:=fun q=>e (Sum.inl.inj q)
  rw [decide_eq_false h]
  exact(beq_eq_false_iff_ne.mpr e).symm
theorem IV (a b:Str):decide ((Sum.inr a:Key)=Sum.inr b)=decide (a=b):=by
 by_cases e:a=b
 ·subst e; simp
 ·have h:¬ (Sum.inr a:Key)=Sum.inr b:=fun q=>e (Sum.inr.inj q)
  rw [decide_eq_false h,decide_eq_false e]
theorem Ii (a:Int) (b:Str):decide ((Sum.inl a:Key)=Sum.inr b)=false:=decide_eq_false (fun q=>nomatch q)
theorem Hk (a:Str) (b:Int):decide ((Sum.inr a:Key)=Sum.inl b)=false:=decide_eq_false (fun q=>nomatch q)

def bZ (prog:RO) (w:RN):PySem.KeyKind prog w Key where
 is:=qY
 hash:=MG w
 inj:=fun v a b ha hb=>by
  rcases cV ha with ⟨i,t,rfl,rfl⟩ | ⟨x,t,rfl,rfl⟩
  ·rcases cV hb with ⟨j,u,rfl,e⟩ | ⟨y,u,rfl,e⟩
   ·injection e with e1 _; rw [e1]
   ·exact nomatch e
  ·rcases cV hb with ⟨j,u,rfl,e⟩ | ⟨y,u,rfl,e⟩
   ·exact nomatch e
   ·injection e with e1 _; rw [e1]
 byValue:=fun k v h=>by
  rcases cV h with ⟨i,t,rfl,rfl⟩ | ⟨x,t,rfl,rfl⟩ <;> rfl
 pyHash:=fun hv h=>by
  rcases cV hv with ⟨i,t,rfl,rfl⟩ | ⟨x,t,rfl,rfl⟩
  ·exact wpAny_pyHash_int h
  ·exact wpAny_pyHash_str h
 eqBool:=fun hu hv h=>by
  rcases cV hu with ⟨i,t,rfl,rfl⟩ | ⟨x,t,rfl,rfl⟩
  ·rcases cV hv with ⟨j,u,rfl,rfl⟩ | ⟨y,u,rfl,rfl⟩
   ·rw [Ic] at h; exact wpAny_eqBool_int h
   ·rw [Ii] at h; exact SeqAt.EqAt.int_str i t y u _ _ _ _ h
  ·rcases cV hv with ⟨j,u,rfl,rfl⟩ | ⟨y,u,rfl,rfl⟩
   ·rw [Hk] at h; exact SeqAt.EqAt.str_int x t j u _ _ _ _ h
   ·rw [IV] at h; exact wpAny_eqBool_str h
 «strs»:=fun k x t v h=>by
  rcases cV h with ⟨i,u,rfl,e⟩ | ⟨y,u,rfl,e⟩
  ·exact nomatch e
  ·injection e with e1 _
   subst e1
   cases v <;> rfl

theorem Ah (prog:RO) (w:RN) (k:Key) (v:RM):(bZ prog w).is k v=qY k v:=rfl
theorem xD (prog:RO) (w:RN) (i:Int) (t:Tok):(bZ prog w).is (.inl i) (.int i t)=true:=BW i t
theorem xK (prog:RO) (w:RN) (x:Str) (t:Tok):(bZ prog w).is (.inr x) (.str x t)=true:=Bm x t
end L2

namespace L2
open PySem PySem.Spec PyProof.Rows

inductive V where
 | non | bl (b:Bool) | int (i:Int) | str (x:Str) | byt (b:Array UInt8) | flt (b:UInt64) | ref (a:RP) | ty (n:String)
 deriving DecidableEq

def RelV:V->RM->Prop
 | .non,u=>u=Value.none
 | .bl b,u=>u=Value.bool b
 | .int i,u=>∃ t,u=Value.int i t
 | .str x,u=>∃ t,u=Value.str x t
 | .byt b,u=>∃ t,u=Value.bytes b t
 | .flt b,u=>∃ t,u=Value.float b t
 | .ref a,u=>u=Value.ref a
 | .ty n,u=>u=Value.type n

abbrev Vals:List V->List RM->Prop:=RQ RelV
theorem Vals.length {xs:List V} {us:List RM} (r:Vals xs us):xs.length=us.length:=Paired.length r
theorem Vals.get:∀ {xs:List V} {us:List RM} {i:Nat} {x:V},Vals xs us->xs[i]?=some x->∃ u,us[i]?=some u/\RelV x u
 | _,_,_,_,.nil,e=>by simp at e
 | _,_,0,_,.cons r _,e=>by simp at e; subst e; exact⟨_,rfl,r⟩
 | _,_,i+1,x,.cons _ t,e=>by
  obtain⟨u,h1,h2⟩:=Vals.get (i:=i) (x:=x) t (by simpa using e)
  exact⟨u,by simpa using h1,h2⟩
theorem Vals.append:∀ {xs ys:List V} {us ws:List RM},Vals xs us->Vals ys ws->Vals (xs++ys) (us++ws)
 | _,_,_,_,.nil,s=>s
 | _,_,_,_,.cons r t,s=>.cons r (Vals.append t s)
theorem Vals.take:∀ {xs:List V} {us:List RM} (n:Nat),Vals xs us->Vals (xs.take n) (us.take n)
 | _,_,0,_=>.nil
 | _,_,_+1,.nil=>.nil
 | _,_,n+1,.cons r t=>.cons r (Vals.take n t)
theorem Vals.drop:∀ {xs:List V} {us:List RM} (n:Nat),Vals xs us->Vals (xs.drop n) (us.drop n)
 | _,_,0,r=>r
 | _,_,_+1,.nil=>.nil
 | _,_,n+1,.cons _ t=>Vals.drop n t
def tS:Option V->Option RM->Prop
 | some v,some u=>RelV v u
 | none,none=>True
 | _,_=>False
def KV {κ:Type}:List (κ×V)->List (κ×RM)->Prop:=RQ fun (p:κ×V) (q:κ×RM)=>p.1=q.1/\RelV p.2 q.2

def kV:Key->V
 | .inl i=>.int i
 | .inr x=>.str x

inductive HO where
  | lst (xs:List V)
  | tup (xs:List V)
  | dK (kvs:List (Key×V)) | dT (kvs:List (List Key×V))
  | set (S:Int->Bool) (n:Nat)
  | ins (C dx:RP) (fs:List (Str×V))
  | own (x:RP)
  | xd (fs:List (Str×V))
  | met (f x:RP)
  | rng (lo hi:Int)
  | frz (o:Obj) (u:HO)
  | tbl (ps:Array RM)
  | ext (φ:(RP->Prop)->RT->Prop)

abbrev Hp:=RP->Option HO
def upd (H:Hp) (a:RP) (o:HO):Hp:=fun b=>if b=a then some o else H b
theorem aL {H:Hp} {a:RP} {o:HO}:upd H a o a=some o:=by unfold upd; rw [if_pos rfl]
theorem aE {H:Hp} {a b:RP} {o:HO} (h:b≠a):upd H a o b=H b:=by unfold upd; rw [if_neg h]
theorem C2 {H:Hp} {a b:RP} {o u:HO} (h:H a=some o) (h':H b=some u) (d:o≠u):a≠b:=by
 intro e; subst e; rw [h] at h'; exact d (Option.some.inj h')
theorem aX {H:Hp} {a b:RP} {o:HO} (h:H a=some o) (h':H b=none):a≠b:=by
 intro e; subst e; rw [h] at h'; cases h'

section
variable (P:RO) (w:RN)
def cC (H:Hp) (h:RT) (a:RP):HO->Prop
 | .lst xs=>xs.length<=RU/\∃ (its:List RM) (n:Nat),Vals xs its/\h.get? a=some { cls:=.type "list",data:=.seq its.toArray n }
 | .tup xs=>xs.length<=RU/\∃ its:List RM,Vals xs its/\RV h a its.toArray
 | .dK kvs=>kvs.length<=RU/\(a==sysModules)=false/\∃ vs,KV kvs vs/\h.DictOf (bZ P w) a vs
 | .dT kvs=>kvs.length<=RU/\(a==sysModules)=false/\∃ xs:List (List Key×RP×RM),
   RQ (fun (p:List Key×V) (q:List Key×RP×RM)=>p.1=q.1/\H q.2.1=some (.tup (p.1.map kV))/\RelV p.2 q.2.2) kvs xs /\
   ∃ o es ep,h.get? a=some o/\o.ExactDict/\o.data=.dict es ep/\es.toList=xs.map (entryOfKey (tupleKind (bZ P w)))/\(xs.map (·.1)).Nodup
 | .set S n=>h.SetOf (intKind P w) a S n
 | .ins C dx fs=>H dx=some (.own a)/\fs.length<=1000/\dx≠a/\h.get? a=some (QL C dx) /\
   ∃ mA,h.Ns1 dx mA/\(∀ f,tS (fs.lookup f) (mA f))/\PySem.Within mA (fs.map (·.1))
 | .own _=>∃ o,h.get? a=some o
 | .xd fs=>∃ mA,h.Ns1 a mA/\∀ f,tS (fs.lookup f) (mA f)
 | .rng lo hi=>∃ t u v,h.get? a=some { cls:=.type "range",data:=.fields #[.int lo t,.int hi u,.int 1 v] }
 | .frz o u=>h.get? a=some o/\cC H h a u
 | .tbl ps=>h.get? a=some { cls:=.none,data:=.fields ps }
 | .met f x=>h.get? a=some (QM (.ref f) (.ref x))
 | .ext φ=>φ (fun b=>H b=some (.own a)) h/\(∃ o,h.get? a=some o)/\∀ (S1 S2:RP->Prop) (h1 h2:RT),φ S1 h1->(∀ b,S1 b->S2 b)->(∀ b o,(b=a\/S1 b)->h1.get? b=some o->h2.get? b=some o)->φ S2 h2
def oT (H:Hp) (h:RT):Prop:=∀ a o,H a=some o->cC P w H h a o
end

section
variable {P:RO} {w:RN} {H H':Hp} {h h':RT} {a:RP} {o:HO}
theorem cC.lt (x:cC P w H h a o):a < h.objs.size:=by
 cases o with
 | lst xs=>obtain⟨_,_,_,_,e⟩:=x; exact Rh e
 | tup xs=>obtain⟨_,_,_,p⟩:=x; exact p.lt
 | dK kvs=>obtain⟨_,_,_,_,o,_,_,e,_⟩:=x; exact Rh e
 | dT kvs=>obtain⟨_,_,_,_,o,_,_,e,_⟩:=x; exact Rh e
 | set S n=>obtain⟨o,_,_,_,e,_⟩:=x; exact Rh e
 | ins C dx fs=>obtain⟨_,_,_,e,_⟩:=x; exact Rh e
 | own y=>obtain⟨_,e⟩:=x; exact Rh e
 | xd fs=>obtain⟨_,⟨_,_,_,e,_⟩,_⟩:=x; exact Rh e
 | rng lo hi=>obtain⟨_,_,_,e⟩:=x; exact Rh e
 | frz ob u=>obtain⟨e,_⟩:=x; exact Rh e
 | tbl ps=>exact Rh (show h.get? a=some _ from x)
 | met f y=>exact Rh (show h.get? a=some _ from x)
 | ext φ=>obtain⟨_,⟨_,e⟩,_⟩:=x; exact Rh e
theorem Paired.mapP {α β:Type} {F G:α->β->Prop}:∀ {l₁:List α} {l₂:List β},RQ F l₁ l₂->(∀ a b,F a b->G a b)->RQ G l₁ l₂
 | _,_,.nil,_=>.nil
 | _,_,.cons r t,f=>.cons (f _ _ r) (Paired.mapP t f)
theorem cC.stay (x:cC P w H h a o) (k:∀ b u,(b=a\/H b=some (.own a))->h.get? b=some u->h'.get? b=some u)
  (ho:∀ b,H b=some (.own a)->H' b=some (.own a)) (ht:∀ b xs,H b=some (.tup xs)->H' b=some (.tup xs)):cC P w H' h' a o:=by
 induction o with
 | lst xs=>obtain⟨z,its,n,r,e⟩:=x; exact⟨z,its,n,r,k _ _ (.inl rfl) e⟩
 | tup xs=>obtain⟨z,its,r,ob,e,c⟩:=x; exact⟨z,its,r,ob,k _ _ (.inl rfl) e,c⟩
 | dK kvs=>obtain⟨z,y,vs,r,ob,es,ep,e,c⟩:=x; exact⟨z,y,vs,r,ob,es,ep,k _ _ (.inl rfl) e,c⟩
 | dT kvs =>
  obtain⟨z,y,xs,r,ob,es,ep,e,c⟩:=x
  exact⟨z,y,xs,Paired.mapP r fun p q z=>⟨z.1,ht _ _ z.2.1,z.2.2⟩,ob,es,ep,k _ _ (.inl rfl) e,c⟩
 | set S n=>obtain⟨ob,es,ep,t,e,c⟩:=x; exact⟨ob,es,ep,t,k _ _ (.inl rfl) e,c⟩
 | ins C dx fs =>
  obtain⟨d,z,ne,e,mA,⟨od,es,ep,e2,c⟩,r⟩:=x
  exact⟨ho _ d,z,ne,k _ _ (.inl rfl) e,mA,⟨od,es,ep,k _ _ (.inr d) e2,c⟩,r⟩
 | own y=>obtain⟨ob,e⟩:=x; exact⟨ob,k _ _ (.inl rfl) e⟩
 | xd fs=>obtain⟨mA,⟨od,es,ep,e,c⟩,r⟩:=x; exact⟨mA,⟨od,es,ep,k _ _ (.inl rfl) e,c⟩,r⟩
 | rng lo hi=>obtain⟨t,u,v,e⟩:=x; exact⟨t,u,v,k _ _ (.inl rfl) e⟩
 | frz ob u ih=>obtain⟨e,q⟩:=x; exact⟨k _ _ (.inl rfl) e,ih q⟩
 | tbl ps =>
  have e:h.get? a=some { cls:=.none,data:=.fields ps }:=x
  show h'.get? a=some { cls:=.none,data:=.fields ps }
  exact k a _ (.inl rfl) e
 | met f y =>
  have e:h.get? a=some (QM (.ref f) (.ref y)):=x
  show h'.get? a=some (QM (.ref f) (.ref y))
  exact k a _ (.inl rfl) e
 | ext φ=>obtain⟨p,⟨o,e⟩,st⟩:=x; exact⟨st _ _ _ _ p ho k,⟨o,k _ _ (.inl rfl) e⟩,st⟩
theorem oT.lt (x:oT P w H h) (e:H a=some o):a < h.objs.size:=(x a o e).lt
theorem oT.fresh (x:oT P w H h) (e:h.objs.size<=a):H a=none:=by
 cases q:H a with
 | none=>rfl
 | some u=>exact absurd (NY (x.lt q) e) (NZ _)
theorem oT.kept (x:oT P w H h) (k:∀ b u,h.get? b=some u->h'.get? b=some u):oT P w H h':=fun a o e =>
 (x a o e).stay (fun b u _ q=>k b u q) (fun _ q=>q) fun _ _ q=>q
theorem oT.laid (x:oT P w H h) (k:∀ b u,h.get? b=some u->h'.get? b=some u) (hp:h.objs.size<=a) (new:cC P w (upd H a o) h' a o):oT P w (upd H a o) h':=fun b u e=>by
 have hn:=x.fresh hp
 by_cases hb:b=a
 ·subst hb; rw [aL] at e; cases e; exact new
 ·rw [aE hb] at e
  exact(x b u e).stay (fun c v _ q=>k c v q) (fun c q=>by rw [aE (aX q hn)]; exact q) fun c xs q=>by rw [aE (aX q hn)]; exact q
end

def Rd (H:Hp) (a:RP) (u:HO):Prop:=H a=some u\/∃ o,H a=some (.frz o u)
theorem Rd.ok {P:RO} {w:RN} {H:Hp} {h:RT} {a:RP} {u:HO} (r:Rd H a u) (x:oT P w H h):cC P w H h a u:=by
 rcases r with r | ⟨o,r⟩
 ·exact x a u r
 ·obtain⟨_,q⟩:=x a _ r
  exact q
def Kg:Option HO->Prop
 | some (.lst _)=>True
 | some (.dK _)=>True
 | some (.dT _)=>True
 | some (.set _ _)=>True
 | some (.ins _ _ _)=>True
 | some (.ext _)=>True
 | _=>False
section
variable {P:RO} {w:RN} {H:Hp} {h h':RT} {x e:RP} {o':HO}
theorem oT.write (ok:oT P w H h) (mu:Kg (H x)) (he:e=x\/H e=some (.own x)) (k:∀ b u,b≠e->h.get? b=some u->h'.get? b=some u) (heo:∃ u,h'.get? e=some u)
  (new:cC P w (upd H x o') h' x o'):oT P w (upd H x o') h':=fun b u q=>by
 have nown:∀ c y,H c=some (.own y)->c≠x:=fun c y r z=>by subst z; rw [r] at mu; exact mu
 have ntup:∀ c xs,H c=some (.tup xs)->c≠x:=fun c xs r z=>by subst z; rw [r] at mu; exact mu
 by_cases hb:b=x
 ·subst hb; rw [aL] at q; cases q; exact new
 ·rw [aE hb] at q
  by_cases hbe:b=e
  ·have q':H b=some (.own x):=by
    rcases he with z | z
    ·exact absurd (hbe.trans z) hb
    ·rw [hbe]; exact z
   rw [q] at q'; cases q'
   obtain⟨v,hv⟩:=heo
   exact⟨v,by rw [hbe]; exact hv⟩
  ·refine(ok b u q).stay (fun c v hc r=>k c v ?_ r) (fun c r=>by rw [aE (nown c b r)]; exact r) fun c xs r=>by rw [aE (ntup c xs r)]; exact r
   rcases hc with rfl | hc
   ·exact hbe
   ·rintro rfl
    rcases he with z | z
    ·exact nown c b hc z
    ·rw [hc] at z; cases z; exact hb rfl
end

structure Un (fs ex:List RP) (H H':Hp) (h h':RT):Prop where
 keep:∀ b o,h.get? b=some o->H b=none->b∉fs->b∉ex->h'.get? b=some o
 slot:∀ b o,h.get? b=some o->H b=none->b∈fs->b∉ex->∃ sl,h'.get? b=some { o with slots:=sl }
 free:∀ b o,h.get? b=some o->H b=none->b∉ex->H' b=none
 there:∀ b o,h.get? b=some o->b∉ex->∃ o',h'.get? b=some o'
 tups:∀ b xs,H b=some (.tup xs)->H' b=some (.tup xs)
 frzs:∀ b o u,H b=some (.frz o u)->H' b=some (.frz o u)
 tbls:∀ b ps,H b=some (.tbl ps)->∃ more,H' b=some (.tbl (ps++more))
section
variable {fs fs' ex ex':List RP} {H H1 H2:Hp} {h h1 h2 h':RT} {a x e:RP} {o:HO}
theorem Un.any (u:Un fs ex H H1 h h1) {b:RP} {ob:Obj} (q:h.get? b=some ob) (n:H b=none) (hx:b∉ex):∃ sl,h1.get? b=some { ob with slots:=sl }:=by
 by_cases hb:b∈fs
 ·exact u.slot b ob q n hb hx
 ·exact⟨ob.slots,u.keep b ob q n hb hx⟩
theorem Un.kept (k:∀ b u,h.get? b=some u->h'.get? b=some u):Un fs ex H H h h' :=
 ⟨fun b ob q _ _ _=>k b ob q,fun b ob q _ _ _=>⟨ob.slots,k b ob q⟩,fun _ _ _ n _=>n,fun b ob q _=>⟨ob,k b ob q⟩,fun _ _ q=>q,fun _ _ _ q=>q,fun _ ps q=>⟨#[],by rw [q]; simp⟩⟩
theorem Un.refl:Un fs ex H H h h:=Un.kept fun _ _ q=>q
theorem Un.laid (k:∀ b u,h.get? b=some u->h'.get? b=some u) (hp:h.objs.size<=a) (hn:H a=none):Un fs ex H (upd H a o) h h' where
 keep:=fun b u q _ _ _=>k b u q
 slot:=fun b u q _ _ _=>⟨u.slots,k b u q⟩
 free:=fun b u q n _=>by rw [aE (N0 (NY (Rh q) hp))]; exact n
 there:=fun b u q _=>⟨u,k b u q⟩
 tups:=fun b xs q=>by rw [aE (aX q hn)]; exact q
 frzs:=fun b u xs q=>by rw [aE (aX q hn)]; exact q
 tbls:=fun b ps q=>⟨#[],by rw [aE (aX q hn),q]; simp⟩
theorem Un.write (mu:Kg (H x)) (he:e=x\/H e=some (.own x)) (k:∀ b u,b≠e->h.get? b=some u->h'.get? b=some u) (heo:∃ u,h'.get? e=some u):Un fs ex H (upd H x o) h h':=by
 have hx:∀ b,H b=none->b≠x:=fun b n z=>by subst z; rw [n] at mu; exact mu
 have hb:∀ b,H b=none->b≠e:=fun b n z=>by
  subst z
  rcases he with r | r
  ·exact hx b n r
  ·rw [n] at r; cases r
 have hm:∀ b u,H b=some u->¬ Kg (some u)->b≠x:=fun b u q nm z=>by subst z; rw [q] at mu; exact nm mu
 refine⟨fun b u q n _ _=>k b u (hb b n) q,fun b u q n _ _=>⟨u.slots,k b u (hb b n) q⟩,fun b u q n _=>by rw [aE (hx b n)]; exact n,fun b u q _=>?_,
  fun b xs q=>by rw [aE (hm b _ q fun z=>z)]; exact q,fun b u xs q=>by rw [aE (hm b _ q fun z=>z)]; exact q,fun b ps q=>⟨#[],by rw [aE (hm b _ q fun z=>z),q]; simp⟩⟩
 by_cases hbe:b=e
 ·subst hbe; exact heo
 ·exact⟨u,k b u hbe q⟩
end

def K2 (h:RT) (H:Hp):List RP:=(List.range h.objs.size).filter fun a=>(H a).isSome
def wg (h:RT) (H:Hp):RT:=PySem.W.hideAll h (K2 h H)
theorem CA (h:RT) (H:Hp):(wg h H).objs.size=h.objs.size:=PySem.W.hideAll_size _ _
theorem tV {h:RT} {H:Hp} {b:RP} {o:Obj} (e:h.get? b=some o) (n:H b=none):(wg h H).get? b=some o :=
 PySem.W.hideAll_get _ e fun hm=>by
  have q:(H b).isSome=true:=(List.mem_filter.mp hm).2
  rw [n] at q; simp at q
theorem Fy {h:RT} {H:Hp} {b:RP} {o:Obj} (e:(wg h H).get? b=some o):h.get? b=some o/\H b=none:=by
 have e':h.get? b=some o:=PySem.W.of_hideAll (K2 h H) e
 refine⟨e',?_⟩
 cases q:H b with
 | none=>rfl
 | some x =>
  have hm:b∈K2 h H:=List.mem_filter.mpr ⟨List.mem_range.mpr (Rh e'),by simp [q]⟩
  have z:(wg h H).get? b=none:=PySem.W.hideAll_none (K2 h H) hm
  rw [z] at e; cases e

def FU (g h:RT) (L:RP):List (RP×Obj):=(List.range h.objs.size).filterMap fun a=>if a=L\/(g.get? a).isSome=true then none else (h.get? a).map fun o=>(a,o)
def rest (g h:RT) (L d:RP):List (RP×Obj):=(FU g h L).filter fun p=>decide (p.1≠d)
end L2

namespace L2
open PySem PySem.Spec PyProof.Rows

structure Mod (K:QN) (mg:Str->Option RM) (base:RT):Prop where
 kin:K.In base
 glob:base.Ns RW mg
 blt:∃ mb,base.Ns RX mb/\∀ x:Str,x ≠ "__name__"->mb x=RY x
 nolimit:base.NoLimit

structure Cx where
 prog:RO
 w:RN
 K:QN
 mg:Str->Option RM
 base:RT
 A:RZ
 N:List Str
 s₀:R0
 H₀:Hp
 env:Env
 outer:List Env
 stack:List Env
 ex:List RP
 fn:Str->Bool
 calm:Bool
 pn:List (RP×Obj)
 xe:RM->R0->Prop
def frs (l:List Env):List RP:=l.filterMap (·.frame)
abbrev Cx.fs (X:Cx):List RP:=frs X.outer

def Hq (sc:R1) (x:Str):Prop:=sc.names.lookup x=some .local\/sc.names.lookup x=some .cell\/sc.names.lookup x=some .free
def Loc (sc:R1) (x:Str):Prop:=sc.names.lookup x=some .local\/sc.names.lookup x=some .cell
def Look (env:Env) (h:RT) (m:Str->Option RM) (x:Str) (u:RM):Prop :=
 (env.kindOf x=some .local/\m x=some u)\/((env.kindOf x=some .cell\/env.kindOf x=some .free)/\∃ c,env.cells.lookup x=some c/\h.IsCell c (some u))

structure Cx.Ok (X:Cx):Prop where
 mod:Mod X.K X.mg X.base
 kind:X.env.scope.kind=.function
 glob:X.env.globals=RW
 blt:X.env.builtins=RX
 above:X.s₀.heap.objs.size<=X.env.locals
 inj:∀ x y c,X.env.cells.lookup x=some c->X.env.cells.lookup y=some c->x=y
 has:∀ x,(X.env.kindOf x=some .cell\/X.env.kindOf x=some .free)->∃ c,X.env.cells.lookup x=some c
 cab:∀ x c,X.fn x=true->X.env.cells.lookup x=some c->X.s₀.heap.objs.size<=c
 hd:X.calm=true->X.A.handled=none
 frames:X.A.frames=some X.stack
 stk:X.stack=X.outer\/(X.stack=X.env::X.outer/\X.env.frame=some X.env.locals)
 exf:∀ b∈X.ex,b≠X.env.locals/\∀ x c,X.env.cells.lookup x=some c->c≠b
 bs:∀ b o,X.base.get? b=some o->X.s₀.heap.get? b=some o/\X.H₀ b=none
 bsz:X.base.objs.size<=X.s₀.heap.objs.size
 noex:∀ b o,X.base.get? b=some o->b∉X.ex
 exfs:∀ b∈X.ex,b∉X.fs
 funs:X.s₀.heap.FunFrames X.base X.outer
 frf:∀ b∈X.fs,X.H₀ b=none

structure Inv (X:Cx) (pins:List (RP×Obj)) (σ:List (Option V)) (H:Hp) (s:R0):Prop where
 ok:X.Ok
 os:s.os=X.s₀.os
 bare:AllBare s.gens
 base:Un X.fs X.ex X.H₀ H X.s₀.heap s.heap
 loc:∃ m,s.heap.Ns X.env.locals m/\∀ (i:Nat) (x:Str) (v:V),X.N[i]?=some x->σ[i]?=some (some v)->Hq X.env.scope x->∃ u,RelV v u/\Look X.env s.heap m x u
 cell:∀ x c,X.env.cells.lookup x=some c->∃ v,s.heap.IsCell c v
 free:H X.env.locals=none
 freeC:∀ x c,X.env.cells.lookup x=some c->H c=none
 pin:∀ p∈X.pn++pins,s.heap.get? p.1=some p.2/\H p.1=none/\p.1≠X.env.locals/\p.1∉X.fs/\∀ v,p.2.data≠.cell v
 hok:oT X.prog X.w H s.heap
 len:σ.length=X.N.length

section
variable {X:Cx} {pins:List (RP×Obj)} {σ:List (Option V)} {H H':Hp} {s:R0} {h':RT}

theorem Cx.Ok.nofr (ok:X.Ok) {b:RP} {o:Obj} (e:X.base.get? b=some o):b∉X.fs:=fun hb=>by
 have:=(ok.funs.mem hb).1
 rw [e] at this; cases this
theorem Inv.bs (I:Inv X pins σ H s):∀ b o,X.base.get? b=some o->s.heap.get? b=some o/\H b=none:=fun b o e =>
 ⟨I.base.keep b o (I.ok.bs b o e).1 (I.ok.bs b o e).2 (I.ok.nofr e) (I.ok.noex b o e),I.base.free b o (I.ok.bs b o e).1 (I.ok.bs b o e).2 (I.ok.noex b o e)⟩
theorem Inv.bk (I:Inv X pins σ H s):∀ b o,X.base.get? b=some o->s.heap.get? b=some o:=fun b o e=>(I.bs b o e).1
theorem Inv.mod (I:Inv X pins σ H s):Mod X.K X.mg X.base:=I.ok.mod
theorem Inv.kIn (I:Inv X pins σ H s):X.K.In s.heap:=I.ok.mod.kin.keeps I.bk
theorem Inv.nolimit (I:Inv X pins σ H s):s.heap.NoLimit:=I.ok.mod.nolimit.keeps I.bk
theorem Inv.lt (I:Inv X pins σ H s):X.env.locals < s.heap.objs.size:=let ⟨_,hn,_⟩:=I.loc; hn.lt
theorem Inv.sz (I:Inv X pins σ H s):X.s₀.heap.objs.size<=s.heap.objs.size:=N1 I.ok.above (N2 I.lt)
theorem Inv.nofs (I:Inv X pins σ H s) {a:RP} (h:s.heap.objs.size<=a):a∉X.fs:=fun hb=>by
 obtain⟨_,o,ho,_⟩:=I.ok.funs.mem hb
 exact absurd (NY (Rh ho) (N1 I.sz h)) (NZ _)
theorem Inv.cne (I:Inv X pins σ H s):∀ x c,X.env.cells.lookup x=some c->c≠X.env.locals:=fun x c e z=>by
 obtain⟨v,o,ho,hd⟩:=I.cell x c e
 obtain⟨m,⟨o',es,ep,ho',hd',_⟩,_⟩:=I.loc
 rw [z,ho'] at ho; cases ho; rw [hd'] at hd; cases hd
theorem Inv.funs (I:Inv X pins σ H s):s.heap.FunFrames X.base X.outer:=by
 have all:∀ (l:List Env),(∀ b∈frs l,b∈X.fs)->X.s₀.heap.FunFrames X.base l->s.heap.FunFrames X.base l:=by
  intro l
  induction l with
  | nil=>intro _ _; trivial
  | cons env r ih =>
   intro hs hl
   obtain⟨hk,⟨L,o,hf,hn,ho,hd⟩,hr⟩:=hl
   have hL:L∈X.fs:=hs L (by unfold frs; rw [N3,hf]; exact N4)
   obtain⟨sl,e⟩:=I.base.slot L o ho (I.ok.frf L hL) hL fun z=>I.ok.exfs L z hL
   exact⟨hk,⟨L,_,hf,hn,e,hd⟩,ih (fun b hb=>hs b (by unfold frs; rw [N3,hf]; exact N5 _ hb)) hr⟩
 exact all X.outer (fun _ hb=>hb) I.ok.funs

theorem Inv.stack (I:Inv X pins σ H s):s.heap.FunFrames X.base X.stack:=by
 rcases I.ok.stk with e | ⟨e,hf⟩
 ·rw [e]; exact I.funs
 ·rw [e]
  obtain⟨m,hn,_⟩:=I.loc
  refine .cons (by rw [I.ok.kind]; decide) hf hn ?_ I.funs
  exact Ri (N1 I.ok.bsz I.ok.above)
theorem Inv.stkSub (I:Inv X pins σ H s):∀ b∈frs X.stack,b∈X.env.locals::X.fs:=fun b hb=>by
 rcases I.ok.stk with e | ⟨e,hf⟩
 ·rw [e] at hb; exact N5 _ hb
 ·rw [e] at hb
  unfold frs at hb
  rw [N3,hf] at hb
  exact hb
theorem Inv.stkFree (I:Inv X pins σ H s):∀ b∈frs X.stack,H b=none:=fun b hb=>by
 rcases List.mem_cons.mp (I.stkSub b hb) with e | hb
 ·rw [e]; exact I.free
 ·obtain⟨_,o,ho,_⟩:=I.ok.funs.mem hb
  exact I.base.free b o ho (I.ok.frf b hb) fun z=>I.ok.exfs b z hb

theorem Inv.step {g':Array GenState} {t':Nat} {d':Drawn} {ch:List RP} (I:Inv X pins σ H s)
  (hch:∀ b∈ch,(b∈X.ex\/X.s₀.heap.objs.size<=b)/\b≠X.env.locals/\(∀ x c,X.env.cells.lookup x=some c->c≠b)/\∀ p∈X.pn++pins,p.1≠b)
  (keep:∀ b o,b≠X.env.locals->b∉X.fs->b∉ch->s.heap.get? b=some o->H b=none->h'.get? b=some o)
  (slot:∀ b o,b≠X.env.locals->b∈X.fs->b∉ch->s.heap.get? b=some o->H b=none->∃ sl,h'.get? b=some { o with slots:=sl }) (free:∀ b o,b∉ch->s.heap.get? b=some o->H b=none->H' b=none)
  (there:∀ b o,b∉ch->s.heap.get? b=some o->∃ o',h'.get? b=some o')
  (tups:∀ b xs,H b=some (.tup xs)->H' b=some (.tup xs)) (frzs:∀ b o u,H b=some (.frz o u)->H' b=some (.frz o u)) (tbls:∀ b ps,H b=some (.tbl ps)->∃ more,H' b=some (.tbl (ps++more)))
  (ns:∀ m,s.heap.Ns X.env.locals m->h'.Ns X.env.locals m) (hok:oT X.prog X.w H' h') (hg:AllBare g') :
  Inv X pins σ H' { s with heap:=h',gens:=g',drawn:=d',toks:=t' }:=by
 have neL:∀ b o,X.s₀.heap.get? b=some o->b≠X.env.locals:=fun b o e=>N0 (NY (Rh e) I.ok.above)
 have neC:∀ b o,X.s₀.heap.get? b=some o->b∉X.ex->b∉ch:=fun b o e hx hb=>by
  rcases(hch b hb).1 with z | z
  ·exact hx z
  ·exact absurd (NY (Rh e) z) (NZ _)
 have cellK:∀ x c,X.env.cells.lookup x=some c->∀ v,s.heap.IsCell c v->h'.IsCell c v:=fun x c e v ⟨o,ho,hd⟩=>by
  have nch:c∉ch:=fun z=>(hch c z).2.2.1 x c e rfl
  by_cases hc:c∈X.fs
  ·obtain⟨sl,q⟩:=slot c o (I.cne x c e) hc nch ho (I.freeC x c e)
   exact⟨_,q,hd⟩
  ·exact⟨o,keep c o (I.cne x c e) hc nch ho (I.freeC x c e),hd⟩
 refine⟨I.ok,I.os,hg,⟨fun b o e n hb hx=>?_,fun b o e n hb hx=>?_,fun b o e n hx=>?_,fun b o e hx=>?_,fun b xs e=>tups b xs (I.base.tups b xs e),fun b o xs e=>frzs b o xs (I.base.frzs b o xs e),fun b ps e=>?_⟩,?_,fun x c e=>?_,?_,fun x c e=>?_,fun p hp=>?_,hok,I.len⟩
 ·exact keep b o (neL b o e) hb (neC b o e hx) (I.base.keep b o e n hb hx) (I.base.free b o e n hx)
 ·obtain⟨sl,e1⟩:=I.base.slot b o e n hb hx
  obtain⟨sl',e2⟩:=slot b _ (neL b o e) hb (neC b o e hx) e1 (I.base.free b o e n hx)
  exact⟨sl',e2⟩
 ·obtain⟨o',e1⟩:=I.base.there b o e hx
  exact free b o' (neC b o e hx) e1 (I.base.free b o e n hx)
 ·obtain⟨o',e1⟩:=I.base.there b o e hx
  exact there b o' (neC b o e hx) e1
 ·obtain⟨m1,e1⟩:=I.base.tbls b ps e
  obtain⟨m2,e2⟩:=tbls b _ e1
  exact⟨m1++m2,by rw [e2,Array.append_assoc]⟩
 ·obtain⟨m,hn,hl⟩:=I.loc
  refine⟨m,ns m hn,fun i x v e1 e2 e3=>?_⟩
  obtain⟨u,r,l⟩:=hl i x v e1 e2 e3
  refine⟨u,r,?_⟩
  rcases l with l | ⟨k,c,e,z⟩
  ·exact .inl l
  ·exact .inr ⟨k,c,e,cellK x c e _ z⟩
 ·obtain⟨v,z⟩:=I.cell x c e
  exact⟨v,cellK x c e v z⟩
 ·obtain⟨m,⟨o,_,_,ho,_⟩,_⟩:=I.loc
  exact free _ o (fun z=>(hch _ z).2.1 rfl) ho I.free
 ·obtain⟨v,o,ho,hd⟩:=I.cell x c e
  exact free c o (fun z=>(hch c z).2.2.1 x c e rfl) ho (I.freeC x c e)
 ·obtain⟨e,n,ne,nf,d⟩:=I.pin p hp
  have nch:p.1∉ch:=fun z=>(hch p.1 z).2.2.2 p hp rfl
  exact⟨keep p.1 p.2 ne nf nch e n,free p.1 p.2 nch e n,ne,nf,d⟩
theorem Inv.un {t':Nat} (I:Inv X pins σ H s) (u:Un X.fs [] H H' s.heap h') (hok:oT X.prog X.w H' h'):Inv X pins σ H' { s with heap:=h',toks:=t' }:=by
 obtain⟨m,⟨o,es,ep,ho,r⟩,_⟩:=id I.loc
 obtain⟨sl,hL⟩:=u.any ho I.free (by simp)
 exact I.step (g':=s.gens) (d':=s.drawn) (ch:=[]) (fun _ z=>nomatch z) (fun b o _ hb _ e n=>u.keep b o e n hb (by simp)) (fun b o _ hb _ e n=>u.slot b o e n hb (by simp)) (fun b o _ e n=>u.free b o e n (by simp)) (fun b o _ e=>u.there b o e (by simp)) u.tups u.frzs u.tbls (fun m' hm=>by
  obtain⟨o',es',ep',ho',r'⟩:=hm
  rw [ho] at ho'; cases ho'
  exact⟨_,es',ep',hL,r'⟩) hok I.bare
theorem Inv.call {g':Array GenState} {t':Nat} {d':Drawn} {ch:List RP} (I:Inv X pins σ H s) (u:Un (frs X.stack) ch H H' s.heap h') (hok:oT X.prog X.w H' h') (hg:AllBare g')
  (hch:∀ b∈ch,(b∈X.ex\/X.s₀.heap.objs.size<=b)/\b≠X.env.locals/\(∀ x c,X.env.cells.lookup x=some c->c≠b)/\∀ p∈X.pn++pins,p.1≠b) :
  Inv X pins σ H' { s with heap:=h',gens:=g',drawn:=d',toks:=t' }:=by
 obtain⟨m,⟨o,es,ep,ho,r⟩,_⟩:=id I.loc
 obtain⟨sl,hL⟩:=u.any ho I.free fun z=>(hch _ z).2.1 rfl
 exact I.step (ch:=ch) hch (fun b o hL hb hc e n=>u.keep b o e n (fun z=>(List.mem_cons.mp (I.stkSub b z)).elim hL hb) hc) (fun b o _ _ hc e n=>u.any e n hc) (fun b o hc e n=>u.free b o e n hc) (fun b o hc e=>u.there b o e hc) u.tups u.frzs u.tbls (fun m' hm=>by
  obtain⟨o',es',ep',ho',r'⟩:=hm
  rw [ho] at ho'; cases ho'
  exact⟨_,es',ep',hL,r'⟩) hok hg
theorem Inv.turned {t':Nat} {it:RP} (I:Inv X pins σ H s) (k:∀ b o,b≠it->s.heap.get? b=some o->h'.get? b=some o) (hn:H it=none) (hL:it≠X.env.locals)
  (h1:it∈X.ex\/X.s₀.heap.objs.size<=it) (h2:∀ x c,X.env.cells.lookup x=some c->c≠it) (h3:∀ p∈X.pn++pins,p.1≠it):Inv X pins σ H { s with heap:=h',toks:=t' }:=by
 have nit:∀ b u,H b=some u->b≠it:=fun b u e z=>by rw [z,hn] at e; cases e
 refine I.step (g':=s.gens) (d':=s.drawn) (ch:=[it]) (fun b hb=>?_) (fun b o _ _ hc e _=>k b o (fun z=>hc (by simp [z])) e) (fun b o _ _ hc e _=>⟨o.slots,k b o (fun z=>hc (by simp [z])) e⟩) (fun _ _ _ _ n=>n)
  (fun b o hc e=>⟨o,k b o (fun z=>hc (by simp [z])) e⟩) (fun _ _ e=>e) (fun _ _ _ e=>e) (fun b ps e=>⟨#[],by rw [e]; simp⟩) (fun m hm=>?_) (fun b u e=>?_) I.bare
 ·have e:b=it:=by simpa using hb
  subst e
  exact⟨h1,hL,h2,h3⟩
 ·obtain⟨o,es,ep,ho,r⟩:=hm
  exact⟨o,es,ep,k _ o (Ne.symm hL) ho,r⟩
 ·refine(I.hok b u e).stay (fun c v hc q=>k c v ?_ q) (fun _ q=>q) fun _ _ q=>q
  rcases hc with z | z
  ·rw [z]; exact nit b u e
  ·exact nit c _ z
theorem Inv.tok (I:Inv X pins σ H s) (t:Nat):Inv X pins σ H { s with toks:=t }:=I.un (h':=s.heap) (t':=t) Un.refl I.hok
theorem Inv.kept {t':Nat} (I:Inv X pins σ H s) (k:∀ b u,s.heap.get? b=some u->h'.get? b=some u):Inv X pins σ H { s with heap:=h',toks:=t' }:=I.un (Un.kept k) (I.hok.kept k)
theorem Inv.laid {a:RP} {o:HO} {t':Nat} (I:Inv X pins σ H s) (k:∀ b u,s.heap.get? b=some u->h'.get? b=some u) (hp:s.heap.objs.size<=a) (new:cC X.prog X.w (upd H a o) h' a o) :
  Inv X pins σ (upd H a o) { s with heap:=h',toks:=t' }:=I.un (Un.laid k hp (I.hok.fresh hp)) (I.hok.laid k hp new)
theorem Inv.write {x e:RP} {o:HO} {t':Nat} (I:Inv X pins σ H s) (mu:Kg (H x)) (he:e=x\/H e=some (.own x)) (k:∀ b u,b≠e->s.heap.get? b=some u->h'.get? b=some u) (heo:∃ u,h'.get? e=some u)
  (new:cC X.prog X.w (upd H x o) h' x o):Inv X pins σ (upd H x o) { s with heap:=h',toks:=t' }:=I.un (Un.write mu he k heo) (I.hok.write mu he k heo new)
theorem Inv.pins_of {pins':List (RP×Obj)} (I:Inv X pins σ H s) (h:∀ p∈pins',s.heap.get? p.1=some p.2/\H p.1=none/\p.1≠X.env.locals/\p.1∉X.fs/\∀ v,p.2.data≠.cell v):Inv X pins' σ H s :=
 ⟨I.ok,I.os,I.bare,I.base,I.loc,I.cell,I.free,I.freeC,fun p hp=>(List.mem_append.mp hp).elim (fun z=>I.pin p (N6 _ z)) (h p),I.hok,I.len⟩

theorem yr {N:List Str} (hN:N.Nodup) {i j:Nat} {x:Str} (a:N[i]?=some x) (b:N[j]?=some x):i=j:=by
 obtain⟨h1,e1⟩:=List.getElem?_eq_some_iff.mp a
 obtain⟨h2,e2⟩:=List.getElem?_eq_some_iff.mp b
 exact(List.getElem_inj hN).mp (e1.trans e2.symm)

theorem u9 {M:Model} {A:RZ} {E:RM->R0->Prop} {i:Nat} {x:Str} {v:V} {u:RM} {Q:Unit->R0->Prop} (I:Inv X pins σ H s) (hN:X.N.Nodup) (hi:X.N[i]?=some x) (hx:Loc X.env.scope x) (r:RelV v u)
  (h:∀ s',Inv X pins (σ.set i (some v)) H s'->(∃ a,Rj a s.heap s'.heap/\(a=X.env.locals\/X.env.cells.lookup x=some a))->Q () s') (hf:X.fn x=true\/X.env.scope.names.lookup x=some .local:=by first | exact .inl rfl | exact .inr rfl | assumption):R3 M A (storeName X.env x u) Q E s:=by
 obtain⟨m,hn,hl⟩:=id I.loc
 have hcls:(X.env.scope.kind==.class || (X.env.scope.kind==.module && X.env.locals != X.env.globals))=false:=by rw [I.ok.kind]; rfl
 have hiσ:i < σ.length:=by rw [I.len]; exact(List.getElem?_eq_some_iff.mp hi).1
 have cne:=I.cne
 have tracked:∀ {a:RP} {h':RT},(∃ o,s.heap.get? a=some o/\H a=none)->Rj a s.heap h'->oT X.prog X.w H h':=fun {a h'} ha hs b ob e=>by
  obtain⟨_,_,hfree⟩:=ha
  refine(I.hok b ob e).stay (fun c w' hc q=>(hs.2 c ?_).trans q) (fun _ q=>q) fun _ _ q=>q
  rintro rfl
  rcases hc with rfl | hc
  ·rw [hfree] at e; cases e
  ·rw [hfree] at hc; cases hc
 rcases hx with hk | hk
 ·refine wpAny_storeName_local hk hn (fun h' hn' hs=>?_) hcls
  obtain⟨oL,_,_,hoL,_⟩:=id hn
  refine h _ ⟨I.ok,I.os,I.bare,⟨fun b o e n hb hx=>?_,fun b o e n hb hx=>?_,I.base.free,fun b o e hx=>?_,I.base.tups,I.base.frzs,I.base.tbls⟩,⟨_,hn',fun j y v' e1 e2 e3=>?_⟩,fun y c e=>?_,I.free,I.freeC,fun p hp=>?_,tracked ⟨oL,hoL,I.free⟩ hs,by simpa using I.len⟩ ⟨_,hs,.inl rfl⟩
  ·exact(hs.2 b (N0 (NY (Rh e) I.ok.above))).trans (I.base.keep b o e n hb hx)
  ·obtain⟨sl,e1⟩:=I.base.slot b o e n hb hx
   exact⟨sl,(hs.2 b (N0 (NY (Rh e) I.ok.above))).trans e1⟩
  ·obtain⟨o',e1⟩:=I.base.there b o e hx
   exact⟨o',(hs.2 b (N0 (NY (Rh e) I.ok.above))).trans e1⟩
  ·by_cases hj:j=i
   ·subst hj
    rw [hi] at e1; cases e1
    rw [N7 hiσ] at e2
    cases e2
    exact⟨u,r,.inl ⟨hk,by simp⟩⟩
   ·rw [N8 (Ne.symm hj)] at e2
    obtain⟨u',r',q⟩:=hl j y v' e1 e2 e3
    refine⟨u',r',?_⟩
    rcases q with ⟨k,e⟩ | ⟨k,c,e,z⟩
    ·refine .inl ⟨k,?_⟩
     have:y≠x:=fun e=>hj (yr hN e1 (e ▸ hi))
     simp [this,e]
    ·exact .inr ⟨k,c,e,z.sameBut hs (cne y c e)⟩
  ·obtain⟨w',z⟩:=I.cell y c e
   exact⟨w',z.sameBut hs (cne y c e)⟩
  ·obtain⟨e,n,ne,nf,d⟩:=I.pin p hp
   exact⟨(hs.2 p.1 ne).trans e,n,ne,nf,d⟩
 ·have hfn:X.fn x=true:=by
   rcases hf with z | z
   ·exact z
   ·rw [z] at hk; cases hk
  obtain⟨c,hc⟩:=I.ok.has x (.inl hk)
  obtain⟨w',z⟩:=I.cell x c hc
  refine wpAny_storeName_cell I.ok.kind hk hc z (fun h' hc' hs=>?_)
  obtain⟨oc,hoc,hocd⟩:=id z
  refine h { s with heap:=h' } ⟨I.ok,I.os,I.bare,⟨fun b o e n hb hx=>?_,fun b o e n hb hx=>?_,I.base.free,fun b o e hx=>?_,I.base.tups,I.base.frzs,I.base.tbls⟩,⟨m,hn.sameBut hs (Ne.symm (cne x c hc)),fun j y v' e1 e2 e3=>?_⟩,fun y c' e=>?_,I.free,I.freeC,fun p hp=>?_,tracked ⟨oc,hoc,I.freeC x c hc⟩ hs,by simpa using I.len⟩ ⟨c,hs,.inr hc⟩
  ·exact(hs.2 b (N0 (NY (Rh e) (I.ok.cab x c hfn hc)))).trans (I.base.keep b o e n hb hx)
  ·obtain⟨sl,e1⟩:=I.base.slot b o e n hb hx
   exact⟨sl,(hs.2 b (N0 (NY (Rh e) (I.ok.cab x c hfn hc)))).trans e1⟩
  ·obtain⟨o',e1⟩:=I.base.there b o e hx
   exact⟨o',(hs.2 b (N0 (NY (Rh e) (I.ok.cab x c hfn hc)))).trans e1⟩
  ·by_cases hj:j=i
   ·subst hj
    rw [hi] at e1; cases e1
    rw [N7 hiσ] at e2
    cases e2
    exact⟨u,r,.inr ⟨.inl hk,c,hc,hc'⟩⟩
   ·rw [N8 (Ne.symm hj)] at e2
    obtain⟨u',r',q⟩:=hl j y v' e1 e2 e3
    refine⟨u',r',?_⟩
    rcases q with q | ⟨k,c',e,z'⟩
    ·exact .inl q
    ·refine .inr ⟨k,c',e,z'.sameBut hs ?_⟩
     rintro rfl
     exact hj (yr hN e1 (I.ok.inj _ _ _ e hc ▸ hi))
  ·by_cases hcc:c'=c
   ·subst hcc; exact⟨_,hc'⟩
   ·obtain⟨w2,z2⟩:=I.cell y c' e
    exact⟨w2,z2.sameBut hs hcc⟩
  ·obtain⟨e,n,ne,nf,d⟩:=I.pin p hp
   refine⟨(hs.2 p.1 ?_).trans e,n,ne,nf,d⟩
   intro q
   rw [q,hoc] at e
   have q':oc=p.2:=Option.some.inj e
   exact d w' (by rw [<- q']; exact hocd)
theorem xS {M:Model} {A:RZ} {E:RM->R0->Prop} {i:Nat} {x:Str} {v:V} {u:RM} {Q:Unit->R0->Prop} (I:Inv X pins σ H s) (hN:X.N.Nodup) (hi:X.N[i]?=some x) (hx:Loc X.env.scope x) (r:RelV v u)
  (h:∀ s',Inv X pins (σ.set i (some v)) H s'->Q () s') (hf:X.fn x=true\/X.env.scope.names.lookup x=some .local:=by first | exact .inl rfl | exact .inr rfl | assumption):R3 M A (storeName X.env x u) Q E s :=
 u9 I hN hi hx r (fun s' I' _=>h s' I') hf
theorem Inv.call' {s':R0} {ch:List RP} (I:Inv X pins σ H s) (ho:s'.os=s.os) (u:Un (frs X.stack) ch H H' s.heap s'.heap) (hok:oT X.prog X.w H' s'.heap) (hg:AllBare s'.gens)
  (hch:∀ b∈ch,(b∈X.ex\/X.s₀.heap.objs.size<=b)/\b≠X.env.locals/\(∀ x c,X.env.cells.lookup x=some c->c≠b)/\∀ p∈X.pn++pins,p.1≠b):Inv X pins σ H' s':=by
 obtain⟨h',g',d',t',o'⟩:=s'
 have e:o'=s.os:=ho
 subst e
 exact I.call (g':=g') (t':=t') (d':=d') u hok hg hch
end

abbrev XK:=RM->Option RP->Hp->Prop
abbrev St:=List (Option V)
abbrev VK:=V->Hp->Prop
abbrev TE:=St->Hp->VK->Prop
abbrev TT:=St->Hp->(Bool->Hp->Prop)->Prop
abbrev TA:=St->Hp->(List V->Hp->Prop)->Prop
structure Ends where
 nx:St->Hp->Prop
 rt:VK
 bk:St->Hp->Prop:=fun _ _=>False
 ct:St->Hp->Prop:=fun _ _=>False
abbrev TS:=Ends->St->Hp->Prop

def EP (X:Cx) (pins:List (RP×Obj)) (σ:St) (Q:VK) (u:RM) (s':R0):Prop:=∃ v H',Inv X pins σ H' s'/\RelV v u/\Q v H'
def TP (X:Cx) (pins:List (RP×Obj)) (σ:St) (Q:Bool->Hp->Prop) (b:Bool) (s':R0):Prop:=∃ H',Inv X pins σ H' s'/\Q b H'
def AP (X:Cx) (pins:List (RP×Obj)) (σ:St) (Q:List V->Hp->Prop) (us:List RM) (s':R0):Prop:=∃ vs H',Inv X pins σ H' s'/\Vals vs us/\Q vs H'
def SP (X:Cx) (pins:List (RP×Obj)) (D:Ends) (f:Flow) (s':R0):Prop :=
 match f with
 | .next=>∃ σ' H',Inv X pins σ' H' s'/\D.nx σ' H'
 | .brk=>∃ σ' H',Inv X pins σ' H' s'/\D.bk σ' H'
 | .cont=>∃ σ' H',Inv X pins σ' H' s'/\D.ct σ' H'
 | .ret u=>∃ v σ' H',Inv X pins σ' H' s'/\RelV v u/\D.rt v H'

def PE (X:Cx) (e:R4) (t:TE):Prop :=
 ∀ (pins:List (RP×Obj)) (s:R0) (σ:St) (H:Hp) (Q:VK),Inv X pins σ H s->t σ H Q->R3 (model X.prog X.w) X.A (eval e X.env) (EP X pins σ Q) X.xe s
def PT (X:Cx) (e:R4) (t:TT):Prop :=
 ∀ (pins:List (RP×Obj)) (s:R0) (σ:St) (H:Hp) (Q:Bool->Hp->Prop),Inv X pins σ H s->t σ H Q->R3 (model X.prog X.w) X.A (isTrue e X.env (eval e X.env)) (TP X pins σ Q) X.xe s
def PW (X:Cx) (e:R4) (t:TT):Prop :=
 ∀ (whole:Sem RM) (pins:List (RP×Obj)) (s:R0) (σ:St) (H:Hp) (Q:Bool->Hp->Prop),Inv X pins σ H s->t σ H Q->R3 (model X.prog X.w) X.A (isTrue e X.env whole) (TP X pins σ Q) X.xe s
theorem PW.pt {X:Cx} {e:R4} {t:TT} (h:PW X e t):PT X e t:=h _
def PA (X:Cx) (es:List R4) (t:TA):Prop :=
 ∀ (pos:Pos) (pins:List (RP×Obj)) (s:R0) (σ:St) (H:Hp) (Q:List V->Hp->Prop),Inv X pins σ H s->t σ H Q->R3 (model X.prog X.w) X.A (spliced (backTo pos (R5 es X.env))) (AP X pins σ Q) X.xe s
def PS (X:Cx) (st:R6) (t:TS):Prop :=
 ∀ (pins:List (RP×Obj)) (s:R0) (σ:St) (H:Hp) (D:Ends),Inv X pins σ H s->t D σ H->R3 (model X.prog X.w) X.A (exec st X.env) (SP X pins D) X.xe s
def x4 (X:Cx) (st:List R6) (t:TS):Prop :=
 ∀ (pins:List (RP×Obj)) (s:R0) (σ:St) (H:Hp) (D:Ends),Inv X pins σ H s->t D σ H->R3 (model X.prog X.w) X.A (execs st X.env) (SP X pins D) X.xe s
theorem eX {α:Type} {t:Sem α} {Q Q':α->R0->Prop} {M:Model} {A:RZ} {E:RM->R0->Prop} {s:R0} (h:R3 M A t Q E s) (hQ:∀ a s,Q a s->Q' a s):R3 M A t Q' E s:=R7 h hQ fun _ _ x=>x
end L2

namespace L2
open PySem PySem.Spec PyProof.Rows
section
variable {X:Cx}

def tJ (i:Nat):TE:=fun σ H Q=>∃ v,σ[i]?=some (some v)/\Q v H
def tC (v:V):TE:=fun _ H Q=>Q v H
theorem Ir {i:Nat} {x:Str} {pos:Pos} (hN:X.N[i]?=some x) (hv:Hq X.env.scope x) (hd:(x==("__debug__":Str))=false:=by decide) (hcd:(x==("__classdict__":Str))=false:=by decide):PE X (.Name x pos) (tJ i):=by
 intro pins s σ H Q I h
 obtain⟨v,e,h⟩:=h
 obtain⟨m,hn,hl⟩:=I.loc
 obtain⟨u,r,l⟩:=hl i x v hN e hv
 have fin:EP X pins σ Q u s:=⟨v,H,I,r,h⟩
 rcases l with ⟨hk,hm⟩ | ⟨hk,c,hc,hcell⟩
 ·exact R8 (wpAny_loadName_local I.ok.kind hk hn hm fin) hd
 ·rcases hk with hk | hk
  ·exact R8 (wpAny_loadName_cell I.ok.kind hk hc hcell fin) hd
  ·exact R8 (wpAny_loadName_free I.ok.kind hk hc hcell fin hcd) hd
theorem Hx {i j pos}:PE X (.Constant (.int i) j pos) (tC (.int i)):=fun _ _ _ H _ I h=>wpAny_Constant_int ⟨.int i,H,I.tok _,⟨_,rfl⟩,h⟩
theorem Jo {b j pos}:PE X (.Constant (.bool b) j pos) (tC (.bl b)):=fun _ _ _ H _ I h=>Constant_bool ⟨.bl b,H,I,rfl,h⟩
theorem IH {x j pos}:PE X (.Constant (.str x) j pos) (tC (.str x)):=fun _ _ _ H _ I h=>Calls.Constant_str ⟨.str x,H,I.tok _,⟨_,rfl⟩,h⟩

def Gl (X:Cx) (x:Str):Prop:=X.env.kindOf x=some .globalImplicit
theorem A5 {E:RM->R0->Prop} {pins:List (RP×Obj)} {s:R0} {σ:St} {H:Hp} {x:Str} {u:RM} {pos:Pos} {Q:RM->R0->Prop} (I:Inv X pins σ H s) (hg:Gl X x) (hm:X.mg x=some u) (h:Q u s)
  (hd:(x==("__debug__":Str))=false:=by decide):R3 (model X.prog X.w) X.A (eval (.Name x pos) X.env) Q E s :=
 Calls.Name_function_global I.ok.kind hg (Calls.loadGlobal_global (by rw [I.ok.glob]; exact I.mod.glob.keeps I.bk) hm h) hd
theorem mj {E:RM->R0->Prop} {pins:List (RP×Obj)} {s:R0} {σ:St} {H:Hp} {x:Str} {u:RM} {pos:Pos} {Q:RM->R0->Prop} (I:Inv X pins σ H s) (hg:Gl X x) (hm:X.mg x=none) (hv:RY x=some u) (h:Q u s)
  (hn:x ≠ "__name__":=by decide) (hd:(x==("__debug__":Str))=false:=by decide):R3 (model X.prog X.w) X.A (eval (.Name x pos) X.env) Q E s:=by
 obtain⟨mb,h1,h2⟩:=I.mod.blt
 exact Calls.Name_function_global I.ok.kind hg (Calls.loadGlobal_builtin (by rw [I.ok.glob]; exact I.mod.glob.keeps I.bk) hm (by rw [I.ok.blt]; exact h1.keeps I.bk) ((h2 x hn).trans hv) h) hd
theorem FZ {x:Str} {v:V} {u:RM} {pos:Pos} (hg:Gl X x) (hm:X.mg x=none) (hv:RY x=some u) (r:RelV v u) (hn:x ≠ "__name__":=by decide) (hd:(x==("__debug__":Str))=false:=by decide):PE X (.Name x pos) (tC v) :=
 fun _ _ _ H _ I h=>mj I hg hm hv ⟨v,H,I,r,h⟩ hn hd

variable {a b:R4} {ta tb:TE} {pos:Pos}
variable {tA tB':TT} {rest:List R4}
def NK (t u:TT):TT:=fun σ H Q=>t σ H fun c H1=>if c=true then Q true H1 else u σ H1 Q
def Lq (t:TT):TT:=fun σ H Q=>t σ H fun c H1=>Q (!c) H1
theorem HG (ha:PT X a tA):PW X (.BoolOp .Or [a] pos) tA:=by
 intro wh pins s σ H Q I h
 refine isTrue_or (eX (ha pins s σ H Q I h) fun c s1 e=>?_)
 cases c with
 | false=>exact isTrue_or_nil e
 | true=>exact e
theorem Ku (ha:PT X a tA) (hb:PW X (.BoolOp .Or (b::rest) pos) tB'):PW X (.BoolOp .Or (a::b::rest) pos) (NK tA tB'):=by
 intro wh pins s σ H Q I h
 refine isTrue_or (eX (ha pins s σ H _ I h) fun c s1 ⟨H1,I1,q1⟩=>?_)
 cases c with
 | true=>exact⟨H1,I1,q1⟩
 | false=>exact hb wh pins s1 σ H1 Q I1 q1
theorem Id (ha:PT X a tA):PT X (.UnaryOp .Not a pos) (Lq tA):=by
 intro pins s σ H Q I h
 exact isTrue_not (ha pins s σ H (fun c H1=>Q (!c) H1) I h)
def Jj (ta tb:TE):TE:=fun σ H Q=>ta σ H fun x H1=>∃ c,x=.bl c/\if c=true then tb σ H1 Q else Q (.bl false) H1
theorem Ht {op} {t:TE} (h:PE X a t):PE X (.BoolOp op [a] pos) t:=fun pins s σ H Q I hw=>BoolOp_one (h pins s σ H Q I hw)
theorem IK (ha:PE X a ta) (hb:PE X (.BoolOp .And (b::rest) pos) tb):PE X (.BoolOp .And (a::b::rest) pos) (Jj ta tb):=by
 intro pins s σ H Q I h
 refine BoolOp_and (eX (ha pins s σ H _ I h) fun v s1 ⟨x,H1,I1,r1,q1⟩=>?_)
 obtain⟨c,rfl,q1⟩:=q1
 cases r1
 refine R9 ?_
 cases c with
 | true=>exact hb pins s1 σ H1 Q I1 q1
 | false=>exact⟨.bl false,H1,I1,rfl,q1⟩
end
end L2

namespace L2
open PySem PySem.Spec PyProof.Rows

def oO (K:QN) (H:Hp) (a:RP) (xs:List V):Prop :=
 Rd H a (.lst xs) \/
  ∃ (o:Obj) (its:Array RM) (n:Nat),K.lookup a=some o/\o.cls=.type "list"/\o.dict=none/\o.data=.seq its n/\its.size<=RU/\Vals xs its.toList
def pR (K:QN) (H:Hp) (a:RP) (xs:List V):Prop :=
 Rd H a (.tup xs) \/
  ∃ (o:Obj) (its:Array RM) (n:Nat),K.lookup a=some o/\o.cls=.type "tuple"/\o.data=.seq its n/\its.size<=RU/\Vals xs its.toList
def M4:RM->Option V
 | .none=>some .non
 | .bool b=>some (.bl b)
 | .int i _=>some (.int i)
 | .str x _=>some (.str x)
 | .bytes b _=>some (.byt b)
 | .float b _=>some (.flt b)
 | .ref a=>some (.ref a)
 | .type n=>some (.ty n)
 | _=>none
theorem RelV.abs {x:V} {u:RM} (r:RelV x u):M4 u=some x:=by
 cases x with
 | non=>cases r; rfl
 | bl _=>cases r; rfl
 | int _=>obtain⟨t,rfl⟩:=r; rfl
 | str _=>obtain⟨t,rfl⟩:=r; rfl
 | byt _=>obtain⟨t,rfl⟩:=r; rfl
 | flt _=>obtain⟨t,rfl⟩:=r; rfl
 | ref _=>cases r; rfl
 | ty _=>cases r; rfl
theorem RelV.inj {x y:V} {u:RM} (r:RelV x u) (q:RelV y u):x=y:=Option.some.inj (r.abs.symm.trans q.abs)
theorem Vals.inj:∀ {xs ys:List V} {us:List RM},Vals xs us->Vals ys us->xs=ys
 | _,_,_,.nil,.nil=>rfl
 | _,_,_,.cons r t,.cons r' t'=>by rw [r.inj r',Vals.inj t t']
section
variable {X:Cx} {pins:List (RP×Obj)} {σ:St} {H:Hp} {s:R0} {a:RP} {xs ys:List V}
theorem oO.of {K:QN} (h:H a=some (.lst xs)):oO K H a xs:=.inl (.inl h)
theorem pR.of {K:QN} (h:H a=some (.tup xs)):pR K H a xs:=.inl (.inl h)
theorem Inv.list (I:Inv X pins σ H s) (h:oO X.K H a xs):∃ its:List RM,Vals xs its/\PlainL s.heap a its.toArray/\xs.length<=RU:=by
 rcases h with h | ⟨o,its,n,hk,hc,hd,hs,hz,r⟩
 ·obtain⟨z,its,n,r,e⟩:=h.ok I.hok
  exact⟨its,r,⟨_,n,e,rfl,rfl,rfl⟩,z⟩
 ·refine⟨its.toList,r,⟨o,n,I.kIn a o hk,hc,hd,by simpa using hs⟩,?_⟩
  have e:=r.length
  simp only [Array.length_toList] at e
  omega
theorem Inv.tuple (I:Inv X pins σ H s) (h:pR X.K H a xs):∃ its:List RM,Vals xs its/\RV s.heap a its.toArray/\xs.length<=RU:=by
 rcases h with h | ⟨o,its,n,hk,hc,hs,hz,r⟩
 ·obtain⟨z,its,r,p⟩:=h.ok I.hok
  exact⟨its,r,p,z⟩
 ·refine⟨its.toList,r,⟨o,I.kIn a o hk,hc,n,by simpa using hs⟩,?_⟩
  have e:=r.length
  simp only [Array.length_toList] at e
  omega
theorem Inv.list_inj (I:Inv X pins σ H s) (h:oO X.K H a xs) (h':oO X.K H a ys):xs=ys:=by
 obtain⟨its,r,⟨o,n,e,_,_,d⟩,_⟩:=I.list h
 obtain⟨its',r',⟨o',n',e',_,_,d'⟩,_⟩:=I.list h'
 rw [e] at e'; cases e'
 rw [d] at d'
 injection d' with d1 _
 have:its=its':=by simpa using congrArg Array.toList d1
 subst this
 exact r.inj r'
theorem Inv.tuple_inj (I:Inv X pins σ H s) (h:pR X.K H a xs) (h':pR X.K H a ys):xs=ys:=by
 obtain⟨its,r,⟨o,e,_,n,d⟩,_⟩:=I.tuple h
 obtain⟨its',r',⟨o',e',_,n',d'⟩,_⟩:=I.tuple h'
 rw [e] at e'; cases e'
 rw [d] at d'
 injection d' with d1 _
 have:its=its':=by simpa using congrArg Array.toList d1
 subst this
 exact r.inj r'
end

abbrev Cx.wish (X:Cx) (E:RM->R0->Prop):Cx:={ X with xe:=E }
abbrev Cx.nox (X:Cx):Cx:=X.wish fun _ _=>False
theorem Cx.Ok.wish {X:Cx} (ok:X.Ok) (E:RM->R0->Prop):(X.wish E).Ok :=
 ⟨ok.mod,ok.kind,ok.glob,ok.blt,ok.above,ok.inj,ok.has,ok.cab,ok.hd,ok.frames,ok.stk,ok.exf,ok.bs,ok.bsz,ok.noex,ok.exfs,ok.funs,ok.frf⟩
theorem Cx.Ok.unwish {X:Cx} {E:RM->R0->Prop} (ok:(X.wish E).Ok):X.Ok :=
 ⟨ok.mod,ok.kind,ok.glob,ok.blt,ok.above,ok.inj,ok.has,ok.cab,ok.hd,ok.frames,ok.stk,ok.exf,ok.bs,ok.bsz,ok.noex,ok.exfs,ok.funs,ok.frf⟩
section
variable {X:Cx} {pins:List (RP×Obj)} {σ:St} {H:Hp} {s:R0} {E:RM->R0->Prop}
theorem Inv.wish (I:Inv X pins σ H s) (E:RM->R0->Prop):Inv (X.wish E) pins σ H s:=⟨I.ok.wish E,I.os,I.bare,I.base,I.loc,I.cell,I.free,I.freeC,I.pin,I.hok,I.len⟩
theorem Inv.unwish (I:Inv (X.wish E) pins σ H s):Inv X pins σ H s:=⟨I.ok.unwish,I.os,I.bare,I.base,I.loc,I.cell,I.free,I.freeC,I.pin,I.hok,I.len⟩
theorem SP.unwish {D:Ends} {f:Flow} {s':R0} (h:SP (X.wish E) pins D f s'):SP X pins D f s':=by
 cases f with
 | next=>obtain⟨σ',H',I,q⟩:=h; exact⟨σ',H',I.unwish,q⟩
 | brk=>obtain⟨σ',H',I,q⟩:=h; exact⟨σ',H',I.unwish,q⟩
 | cont=>obtain⟨σ',H',I,q⟩:=h; exact⟨σ',H',I.unwish,q⟩
 | ret u=>obtain⟨v,σ',H',I,r,q⟩:=h; exact⟨v,σ',H',I.unwish,r,q⟩
theorem x4.nox {st:List R6} {t:TS} (h:x4 X.nox st t):x4 X st t:=fun pins s σ H D I hw =>
 R7 (h pins s σ H D (I.wish _) hw) (fun _ _ q=>q.unwish) fun _ _ z=>False.elim z
end

section
variable {X:Cx} {st:R6} {rest:List R6} {t u:TS} {e:R4} {te:TE} {pos:Pos}
def Jx:TS:=fun D σ H=>D.nx σ H
def Ly (t u:TS):TS:=fun D σ H=>t { D with nx:=u D } σ H
theorem FH:x4 X [] Jx:=fun _ _ σ H _ I h=>Sa ⟨σ,H,I,h⟩
theorem Ec (h1:PS X st t) (h2:x4 X rest u):x4 X (st::rest) (Ly t u):=by
 intro pins s σ H D I h
 refine wpAny_execs_cons (eX (h1 pins s σ H { D with nx:=u D } I h) fun f s1 q=>?_)
 cases f with
 | next =>
  obtain⟨σ',H',I',q⟩:=q
  exact h2 pins s1 σ' H' D I' q
 | ret v=>exact q
 | brk=>exact q
 | cont=>exact q
theorem A4 (h1:PS X st t):x4 X [st] t:=by
 intro pins s σ H D I h
 refine wpAny_execs_cons (eX (h1 pins s σ H D I h) fun f s1 q=>?_)
 cases f with
 | next=>exact Sa q
 | ret v=>exact q
 | brk=>exact q
 | cont=>exact q
theorem Inv.quiet {pins:List (RP×Obj)} {σ:St} {H:Hp} {s:R0} (I:Inv X pins σ H s):interactive X.env=false:=by simp [interactive,I.ok.kind]
def JS (te:TE):TS:=fun D σ H=>te σ H fun _ H1=>D.nx σ H1
theorem xj (he:PE X e te) (hs:swapsWith e none pos.line X.env=pure false:=by rfl):PS X (.Expr e pos) (JS te):=by
 intro pins s σ H D I h
 exact wpAny_Expr_any (eX (he pins s σ H _ I h) fun v s1 ⟨x,H1,I1,r1,q1⟩=>⟨σ,H1,I1,q1⟩) I.quiet hs
def M3 (te:TE):TS:=fun D σ H=>te σ H D.rt
theorem IM (he:PE X e te):PS X (.Return (some e) pos) (M3 te):=by
 intro pins s σ H D I h
 exact wpAny_Return_some (eX (he pins s σ H _ I h) fun v s1 ⟨x,H1,I1,r1,q1⟩=>⟨x,σ,H1,I1,r1,q1⟩)
def Mi (c:TT) (t u:TS):TS:=fun D σ H=>c σ H fun b H1=>if b=true then t D σ H1 else u D σ H1
theorem J4 {c:R4} {a b:List R6} {tc:TT} (hc:PT X c tc) (ha:x4 X a t) (hb:x4 X b u):PS X (.If c a b pos) (Mi tc t u):=by
 intro pins s σ H D I h
 refine wpAny_If (eX (hc pins s σ H _ I h) fun d s1 ⟨H1,I1,q1⟩=>?_)
 cases d with
 | true=>exact ha pins s1 σ H1 D I1 q1
 | false=>exact hb pins s1 σ H1 D I1 q1
end

abbrev TG:=V->St->Hp->(St->Hp->Prop)->Prop
abbrev GQ:=List V->St->Hp->(St->Hp->Prop)->Prop
def PG (X:Cx) (target:R4) (t:TG):Prop :=
 ∀ (pins:List (RP×Obj)) (s:R0) (σ:St) (H:Hp) (v:V) (u:RM) (Q:St->Hp->Prop),Inv X pins σ H s->RelV v u->t v σ H Q ->
  R3 (model X.prog X.w) X.A (assign target X.env u) (fun _ s'=>∃ σ' H',Inv X pins σ' H' s'/\Q σ' H') X.xe s
def Kh (X:Cx) (ts:List R4) (t:GQ):Prop :=
 ∀ (pins:List (RP×Obj)) (s:R0) (σ:St) (H:Hp) (vs:List V) (us:List RM) (Q:St->Hp->Prop),Inv X pins σ H s->Vals vs us->t vs σ H Q ->
  R3 (model X.prog X.w) X.A (assignInOrder ((assignEach ts X.env).map (·.2)) us) (fun _ s'=>∃ σ' H',Inv X pins σ' H' s'/\Q σ' H') X.xe s
section
variable {X:Cx} {pos:Pos}
def vD (i:Nat):TG:=fun v σ H Q=>Q (σ.set i (some v)) H
theorem Fm {i:Nat} {x:Str} (hN:X.N.Nodup) (hi:X.N[i]?=some x) (hx:Loc X.env.scope x) (hf:X.fn x=true\/X.env.scope.names.lookup x=some .local:=by first | exact .inl rfl | exact .inr rfl | assumption):PG X (.Name x pos) (vD i):=by
 intro pins s σ H v u Q I r h
 exact wpAny_assign_Name (xS I hN hi hx r (fun s' I'=>⟨_,H,I',h⟩) hf)
def LN:GQ:=fun vs σ H Q=>vs=[]/\Q σ H
def JW (t:TG) (u:GQ):GQ:=fun vs σ H Q=>∃ v r,vs=v::r/\t v σ H fun σ' H'=>u r σ' H' Q
theorem Fw:Kh X [] LN:=by
 intro pins s σ H vs us Q I r h
 obtain⟨e,h⟩:=h
 subst e
 cases r
 exact assignInOrder_nil ⟨σ,H,I,h⟩
theorem EF {e:R4} {es:List R4} {t:TG} {u:GQ} (h1:PG X e t) (h2:Kh X es u)
  (hs:(assignEach (e::es) X.env).map (·.2)=assign e X.env::(assignEach es X.env).map (·.2):=by rfl):Kh X (e::es) (JW t u):=by
 intro pins s σ H vs us Q I r h
 obtain⟨v,vr,e1,h⟩:=h
 subst e1
 cases r with
 | cons r rr =>
  rw [hs]
  refine assignInOrder_cons (eX (h1 pins s σ H _ _ _ I r h) fun _ s1 ⟨σ1,H1,I1,q1⟩=>?_)
  exact h2 pins s1 σ1 H1 _ _ Q I1 rr q1
def L8 (K:QN) (n:Nat) (t:GQ):TG:=fun v σ H Q=>∃ a xs,v=.ref a/\pR K H a xs/\xs.length=n/\t xs σ H Q
theorem Hs {es:List R4} {k:Nat} {t:GQ} {n:Nat} (hc:X.calm=true) (h:Kh X es t)
  (hn:(assignEach es X.env).length=n:=by rfl) (hst:(assignEach es X.env).findIdx? (·.1)=none:=by rfl):PG X (.Tuple es k pos) (L8 X.K n t):=by
 intro pins s σ H v u Q I r hw
 obtain⟨a,xs,e1,hq,hl,hw⟩:=hw
 subst e1
 cases r
 obtain⟨its,rv,ht,hz⟩:=I.tuple hq
 refine assign_Tuple_tuple (I.ok.hd hc) ht (by simp [hn,<- hl,rv.length]) hst fun h' hx=>?_
 have I1:Inv X pins σ H { s with heap:=h' }:=I.kept (t':=s.toks) fun b o e=>hx b o (N0 (Rh e)) e
 exact h pins _ σ H xs _ Q I1 (by simpa using rv) hw
def GK (te:TE) (g:TG):TS:=fun D σ H=>te σ H fun x H1=>g x σ H1 D.nx
theorem zq {i:Nat} {x:Str} {e:R4} {te:TE} {pos':Pos} (hN:X.N.Nodup) (hi:X.N[i]?=some x) (hx:Loc X.env.scope x) (he:PE X e te) (hs:swapsWith e (some (.Name x pos')) pos.line X.env=pure false:=by rfl) (hf:X.fn x=true\/X.env.scope.names.lookup x=some .local:=by first | exact .inl rfl | exact .inr rfl | assumption) :
  PS X (.Assign [.Name x pos'] e pos) (GK te (vD i)):=by
 intro pins s σ H D I h
 refine wpAny_Assign_Name (eX (he pins s σ H _ I h) fun v s1 ⟨y,H1,I1,r1,q1⟩=>?_) hs
 exact xS I1 hN hi hx r1 (fun s2 I2=>⟨_,H1,I2,q1⟩) hf
end


structure It where
 go:Nat->Hp->Prop
 yld:Nat->Hp->V->Hp->Prop
 stop:Nat->Hp->Prop
def uB (X:Cx) (pins:List (RP×Obj)) (H:Hp) (b:RP):Prop :=
 H b=none/\b≠X.env.locals/\b∉X.fs/\(b∈X.ex\/X.s₀.heap.objs.size<=b)/\(∀ x c,X.env.cells.lookup x=some c->c≠b)/\∀ p∈X.pn++pins,p.1≠b
theorem Inv.fpOk {X:Cx} {pins:List (RP×Obj)} {σ:St} {H H':Hp} {s:R0} {b:RP} (I:Inv X pins σ H s) (hb:s.heap.objs.size<=b) (hn:H' b=none):uB X pins H' b:=by
 refine⟨hn,N9 (NY I.lt hb),I.nofs hb,.inr (N1 I.sz hb),fun x c e z=>?_,fun p hp z=>?_⟩
 ·obtain⟨v,q⟩:=I.cell x c e
  exact absurd (NY q.lt (by rw [z]; exact hb)) (NZ _)
 ·exact absurd (NY (Rh (I.pin p hp).1) (by rw [z]; exact hb)) (NZ _)
structure Turn (P:RO) (w:RN) (K:QN) (tg:R4) (J:It) (fp:List RP) (it:RP) (tn:Nat->RT->Prop):Prop where
 mem:it∈fp
 obj:∀ i h,tn i h->∀ b∈fp,∃ o,h.get? b=some o/\∀ v,o.data≠.cell v
 keep:∀ i h h',tn i h->(∀ b∈fp,∀ o,h.get? b=some o->h'.get? b=some o)->tn i h'
 item:∀ (X:Cx),X.prog=P->X.w=w->X.K=K->X.calm=true->∀ (i:Nat) (pins:List (RP×Obj)) (s:R0) (σ:St) (H:Hp) (E:RM->R0->Prop),Inv X pins σ H s->(∀ b∈fp,uB X pins H b)->tn i s.heap->J.go i H ->
  R3 (model P w) X.A (pyNext (.ref it)) (fun r s1=>∃ u,r=some u /\
   R3 (model P w) X.A (letOwnedTupleGo tg (.ref it) u) (fun _ s2=>∃ x H',Inv X pins σ H' s2/\RelV x u/\J.yld i H x H'/\tn (i+1) s2.heap/\∀ b∈fp,H' b=none) E s1) E s
 done:∀ (X:Cx),X.prog=P->X.w=w->X.K=K->X.calm=true->∀ (i:Nat) (pins:List (RP×Obj)) (s:R0) (σ:St) (H:Hp) (E:RM->R0->Prop),Inv X pins σ H s->(∀ b∈fp,uB X pins H b)->tn i s.heap->J.stop i H ->
  R3 (model P w) X.A (pyNext (.ref it)) (fun r s1=>r=none/\Inv X pins σ H s1) E s
 self:∀ (A:RZ) (i:Nat) (s:R0) (Q:RM->R0->Prop) (E:RM->R0->Prop),tn i s.heap->Q (.ref it) s->R3 (model P w) A (pyIter (.ref it)) Q E s
abbrev TI:=St->Hp->(It->Hp->Prop)->Prop
def PIE (X:Cx) (pins:List (RP×Obj)) (σ:St) (tg:R4) (R:It->Hp->Prop) (itv:RM) (s2:R0):Prop :=
 ∃ (it:RP) (fp:List RP) (tn:Nat->RT->Prop) (J:It) (H':Hp),itv=.ref it/\Inv X pins σ H' s2/\Turn X.prog X.w X.K tg J fp it tn/\tn 0 s2.heap/\(∀ b∈fp,uB X pins H' b)/\R J H'
def PI (X:Cx) (tg iter:R4) (wi:TI):Prop :=
 ∀ (pins:List (RP×Obj)) (s:R0) (σ:St) (H:Hp) (R:It->Hp->Prop),Inv X pins σ H s->wi σ H R ->
  R3 (model X.prog X.w) X.A (eval iter X.env) (fun v s1=>R3 (model X.prog X.w) X.A (pyIter v) (PIE X pins σ tg R) X.xe s1) X.xe s

theorem DY {M:Model} {A:RZ} {E:RM->R0->Prop} {s:R0} {tg:R4} {it:RP} {u:RM} {o:Obj} {n:String} {vs:Array RM} {Q:Unit->R0->Prop} (ho:s.heap.get? it=some o) (hc:o.cls=.type n) (hd:o.data=.fields vs)
    (hn:["enumerate","zip","dict_itemiterator","dict_reverseitemiterator","odict_iterator","itertools.zip_longest","itertools.pairwise"].contains n=false) (hQ:Q () s):R3 M A (letOwnedTupleGo tg (.ref it) u) Q E s:=by
  unfold letOwnedTupleGo
  cases tg <;> first
    | exact Sd hQ
    | (cases u <;> first
        | exact Sd hQ
        | (refine Se (wpAny_load ho ?_)
           rw [hc,hd]
           show R3 M A (if (["enumerate","zip","dict_itemiterator","dict_reverseitemiterator","odict_iterator","itertools.zip_longest","itertools.pairwise"].contains n && vs[0]?==some (rawInt _))=true then _ else _) Q E s
           rw [if_neg (by intro h; rw [hn,Bool.false_and] at h; cases h)]
           exact Sd hQ))

def Mj (K:QN) (a:RP):It :=
 ⟨fun i H=>∃ xs x,oO K H a xs/\xs[i]?=some x,fun i H x H'=>H'=H/\∀ xs,oO K H a xs->xs[i]?=some x,fun i H=>∃ xs,oO K H a xs/\xs.length<=i⟩
def Ma (K:QN) (a:RP):It :=
 ⟨fun i H=>∃ xs x,pR K H a xs/\xs[i]?=some x,fun i H x H'=>H'=H/\∀ xs,pR K H a xs->xs[i]?=some x,fun i H=>∃ xs,pR K H a xs/\xs.length<=i⟩
def JQ (lo:Int) (n:Nat):It:=⟨fun i _=>i < n,fun i H x H'=>H'=H/\x=.int (lo+i),fun i _=>n<=i⟩
theorem BZ {P:RO} {w:RN} {K:QN} {tg:R4} (a it:RP):Turn P w K tg (Mj K a) [it] it (fun i h=>h.IsListIter it a i) where
 mem:=by simp
 obj:=fun i h st b hb=>by
  have e:b=it:=by simpa using hb
  subst e
  obtain⟨o,e,c,d⟩:=st
  exact⟨o,e,fun v z=>by rw [d] at z; cases z⟩
 keep:=fun i h h' st k=>st.at fun o e=>k it (by simp) o e
 item:=by
  intro X hP hw hK hc i pins s σ H E I hf st hg
  subst hP hw hK
  obtain⟨xs,x,hq,hx⟩:=hg
  obtain⟨its,rv,p,hz⟩:=I.list hq
  obtain⟨u,hu,ru⟩:=rv.get hx
  obtain⟨f0,f1,f2,f3,f4,f5⟩:=hf it (by simp)
  refine wpAny_pyNext_list_item st p.isList (x:=u) (by simpa using hu) fun h' st' sb=>?_
  have I1:Inv X pins σ H { s with heap:=h' }:=I.turned (t':=s.toks) (fun b o hb e=>(sb.2 b hb).trans e) f0 f1 f3 f4 f5
  obtain⟨o,e,c,d⟩:=id st'
  exact⟨u,rfl,DY (s:={ s with heap:=h' }) e c d (by decide) ⟨x,H,I1,ru,⟨rfl,fun ys hy=>by rw [I.list_inj hy hq]; exact hx⟩,st',fun b hb=>(hf b hb).1⟩⟩
 done:=by
  intro X hP hw hK hc i pins s σ H E I hf st hg
  subst hP hw hK
  obtain⟨xs,hq,hx⟩:=hg
  obtain⟨its,rv,p,hz⟩:=I.list hq
  obtain⟨f0,f1,f2,f3,f4,f5⟩:=hf it (by simp)
  have hl:=rv.length
  exact wpAny_pyNext_list_end (I.ok.hd hc) st p.isList (by simp; omega) fun h' eb=>⟨rfl,I.turned (t':=s.toks) (fun b o hb e=>eb b o hb e) f0 f1 f3 f4 f5⟩
 self:=fun _ _ _ _ _ st h=>wpAny_pyIter_listiter st h
theorem Aa {P:RO} {w:RN} {K:QN} {tg:R4} (a it:RP):Turn P w K tg (Ma K a) [it] it (fun i h=>h.IsTupleIter it a i) where
 mem:=by simp
 obj:=fun i h st b hb=>by
  have e:b=it:=by simpa using hb
  subst e
  obtain⟨o,e,c,d⟩:=st
  exact⟨o,e,fun v z=>by rw [d] at z; cases z⟩
 keep:=fun i h h' st k=>st.at fun o e=>k it (by simp) o e
 item:=by
  intro X hP hw hK hc i pins s σ H E I hf st hg
  subst hP hw hK
  obtain⟨xs,x,hq,hx⟩:=hg
  obtain⟨its,rv,p,hz⟩:=I.tuple hq
  obtain⟨u,hu,ru⟩:=rv.get hx
  obtain⟨f0,f1,f2,f3,f4,f5⟩:=hf it (by simp)
  refine wpAny_pyNext_tuple_item st (show s.heap.IsTuple a its.toArray from p) (x:=u) (by simpa using hu) fun h' st' sb=>?_
  have I1:Inv X pins σ H { s with heap:=h' }:=I.turned (t':=s.toks) (fun b o hb e=>(sb.2 b hb).trans e) f0 f1 f3 f4 f5
  obtain⟨o,e,c,d⟩:=id st'
  exact⟨u,rfl,DY (s:={ s with heap:=h' }) e c d (by decide) ⟨x,H,I1,ru,⟨rfl,fun ys hy=>by rw [I.tuple_inj hy hq]; exact hx⟩,st',fun b hb=>(hf b hb).1⟩⟩
 done:=by
  intro X hP hw hK hc i pins s σ H E I hf st hg
  subst hP hw hK
  obtain⟨xs,hq,hx⟩:=hg
  obtain⟨its,rv,p,hz⟩:=I.tuple hq
  obtain⟨f0,f1,f2,f3,f4,f5⟩:=hf it (by simp)
  have hl:=rv.length
  exact wpAny_pyNext_tuple_end (I.ok.hd hc) st (show s.heap.IsTuple a its.toArray from p) (by simp; omega) fun h' eb=>⟨rfl,I.turned (t':=s.toks) (fun b o hb e=>eb b o hb e) f0 f1 f3 f4 f5⟩
 self:=fun _ _ _ _ _ st h=>wpAny_pyIter_tupleiter st h
theorem zV {P:RO} {w:RN} {K:QN} {tg:R4} (it:RP) (lo:Int) (n:Nat):Turn P w K tg (JQ lo n) [it] it (fun i h=>IsRangeIter h it (lo+(i:Nat)*1) ((n:Int) - (i:Nat)) 1) where
 mem:=by simp
 obj:=fun i h st b hb=>by
  have e:b=it:=by simpa using hb
  subst e
  exact⟨_,st,fun v z=>by
   have z':Data.fields _=Data.cell v:=z
   cases z'⟩
 keep:=fun i h h' st k=>k it (by simp) _ st
 item:=by
  intro X hP hw hK hc i pins s σ H E I hf st hg
  subst hP hw hK
  obtain⟨f0,f1,f2,f3,f4,f5⟩:=hf it (by simp)
  have W:=Walks.range (prog:=X.prog) (w:=X.w) (I.ok.hd hc) it lo 1 n
  refine W.item i s _ _ hg st fun v h' tk hv st' kk=>?_
  obtain⟨t,rfl⟩:=hv
  have I1:Inv X pins σ H { s with heap:=h',toks:=tk }:=I.turned (fun b o hb e=>kk b o (by simpa using hb) e) f0 f1 f3 f4 f5
  refine⟨_,rfl,DY (s:={ s with heap:=h',toks:=tk }) (n := "range_iterator") st' rfl rfl (by decide) ⟨.int (lo+i),H,I1,⟨t,?_⟩,⟨rfl,rfl⟩,st',fun b hb=>(hf b hb).1⟩⟩
  rw [Int.mul_one]
 done:=by
  intro X hP hw hK hc i pins s σ H E I hf st hg
  subst hP hw hK
  obtain⟨f0,f1,f2,f3,f4,f5⟩:=hf it (by simp)
  exact wpAny_pyNext_range_end (I.ok.hd hc) st (by have:n<=i:=hg; omega) fun h' eb=>⟨rfl,I.turned (t':=s.toks) (fun b o hb e=>eb b o hb e) f0 f1 f3 f4 f5⟩
 self:=fun _ _ _ _ _ st h=>wpAny_pyIter_rangeiter st h
end L2

namespace L2
open PySem PySem.Spec PyProof.Rows
section
variable {X:Cx} {tg:R4}
def JO (K:QN) (tl:TE):TI:=fun σ H R=>tl σ H fun x H1=>∃ a,x=.ref a/\(∃ xs,oO K H1 a xs)/\R (Mj K a) H1
def ML (K:QN) (tl:TE):TI:=fun σ H R=>tl σ H fun x H1=>∃ a,x=.ref a/\(∃ xs,pR K H1 a xs)/\R (Ma K a) H1
theorem Au {l:R4} {tl:TE} (hl:PE X l tl):PI X tg l (JO X.K tl):=by
 intro pins s σ H R I h
 refine eX (hl pins s σ H _ I h) fun v s1 ⟨x,H1,I1,r1,q1⟩=>?_
 obtain⟨a,e,⟨xs,hq⟩,q⟩:=q1
 subst e
 cases r1
 obtain⟨its,rv,p,hz⟩:=I1.list hq
 refine Sf p.isList ?_
 refine⟨s1.heap.objs.size,[s1.heap.objs.size],_,_,H1,rfl,I1.kept (t':=s1.toks) fun b o e=>Rl _ e,BZ a _,⟨_,Rm _ rfl,rfl,rfl⟩,fun b hb=>?_,q⟩
 have e:b=s1.heap.objs.size:=by simpa using hb
 subst e
 exact I1.fpOk (Oa _) (I1.hok.fresh (Oa _))
theorem HK {l:R4} {tl:TE} (hl:PE X l tl):PI X tg l (ML X.K tl):=by
 intro pins s σ H R I h
 refine eX (hl pins s σ H _ I h) fun v s1 ⟨x,H1,I1,r1,q1⟩=>?_
 obtain⟨a,e,⟨xs,hq⟩,q⟩:=q1
 subst e
 cases r1
 obtain⟨its,rv,p,hz⟩:=I1.tuple hq
 refine wpAny_pyIter_tuple (show s1.heap.IsTuple a its.toArray from p) ?_
 refine⟨s1.heap.objs.size,[s1.heap.objs.size],_,_,H1,rfl,I1.kept (t':=s1.toks) fun b o e=>Rl _ e,Aa a _,⟨_,Rm _ rfl,rfl,rfl⟩,fun b hb=>?_,q⟩
 have e:b=s1.heap.objs.size:=by simpa using hb
 subst e
 exact I1.fpOk (Oa _) (I1.hok.fresh (Oa _))
theorem yC {pins:List (RP×Obj)} {σ:St} {H:Hp} {s:R0} {R:It->Hp->Prop} {E:RM->R0->Prop} {lo hi:Int} {t u v:Tok} {tk:Nat} (I:Inv X pins σ H s) (h1:-(2 ^ 62)<=lo) (h2:lo < 2 ^ 62) (h3:-(2 ^ 62)<=hi) (h4:hi < 2 ^ 62)
  (q:R (JQ lo (hi - lo).toNat) H):R3 (model X.prog X.w) X.A (pyIter (.ref s.heap.objs.size)) (PIE X pins σ tg R) E { s with heap:=s.heap.push { cls:=.type "range",data:=.fields #[.int lo t,.int hi u,.int 1 v] },toks:=tk }:=by
 refine wpAny_pyIter_range (IsRange.new ..) (small_one h1 h2 h3 h4) ?_
 have I1:Inv X pins σ H { s with heap:=s.heap.push { cls:=.type "range",data:=.fields #[.int lo t,.int hi u,.int 1 v] },toks:=tk }:=I.kept fun b o e=>Rl _ e
 refine⟨(s.heap.push { cls:=.type "range",data:=.fields #[.int lo t,.int hi u,.int 1 v] }).objs.size,[(s.heap.push { cls:=.type "range",data:=.fields #[.int lo t,.int hi u,.int 1 v] }).objs.size],_,_,H,rfl,
  I1.kept (t':=tk) fun b o e=>Rl _ e,zV _ lo (hi - lo).toNat,?_,fun b hb=>?_,q⟩
 ·have e1:lo+((0:Nat):Int)*1=lo:=by simp
  have e2:(((hi - lo).toNat:Nat):Int) - ((0:Nat):Int)=Builtin.Range.rangeSize lo hi 1:=by rw [rangeSize_one]; split <;> omega
  show IsRangeIter _ _ (lo+((0:Nat):Int)*1) ((((hi - lo).toNat:Nat):Int) - ((0:Nat):Int)) 1
  rw [e1,e2]
  exact Rm _ rfl
 ·have e:b=(s.heap.push { cls:=.type "range",data:=.fields #[.int lo t,.int hi u,.int 1 v] }).objs.size:=by simpa using hb
  subst e
  exact I1.fpOk (Oa _) (I1.hok.fresh (Oa _))
def Ki (ta:TA):TI:=fun σ H R=>ta σ H fun vs H1=>∃ j:Int,vs=[.int j]/\-(2 ^ 62)<=j/\j < 2 ^ 62/\R (JQ 0 j.toNat) H1
def Kn (ta:TA):TI:=fun σ H R=>ta σ H fun vs H1=>∃ i j:Int,vs=[.int i,.int j]/\(-(2 ^ 62)<=i/\i < 2 ^ 62/\-(2 ^ 62)<=j/\j < 2 ^ 62)/\R (JQ i (j - i).toNat) H1
theorem CH {a:R4} {ta:TA} {p pos:Pos} (hg:Gl X "range") (hm:X.mg "range"=none) (ha:PA X [a] ta) (hs:R5 [a] X.env=[(false,eval a X.env)]:=by rfl):PI X tg (.Call (.Name "range" p) [a] [] pos) (Ki ta):=by
 intro pins s σ H R I h
 refine Call_ (mj I hg hm boot_range (Ru (eX (ha pos pins s σ H _ I h) fun us s1 ⟨vs,H1,I1,r1,q1⟩=>?_) hs rfl))
 obtain⟨j,e,q1,q2,q⟩:=q1
 subst e
 cases r1 with
 | cons r rr =>
  cases rr
  obtain⟨t,rfl⟩:=r
  exact call_range_1 (yC I1 ‹0› ‹0› q1 q2 (by simpa using q))
theorem Ct {a b:R4} {ta:TA} {p pos:Pos} (hg:Gl X "range") (hm:X.mg "range"=none) (ha:PA X [a,b] ta) (hs:R5 [a,b] X.env=[(false,eval a X.env),(false,eval b X.env)]:=by rfl) (hs2:R5 [b] X.env=[(false,eval b X.env)]:=by rfl) :
  PI X tg (.Call (.Name "range" p) [a,b] [] pos) (Kn ta):=by
 intro pins s σ H R I h
 refine Call_ (mj I hg hm boot_range (Ru (eX (ha pos pins s σ H _ I h) fun us s1 ⟨vs,H1,I1,r1,q1⟩=>?_) (by rw [hs,hs2]) (by rw [hs2]; rfl)))
 obtain⟨i,j,e,⟨q1,q2,q3,q4⟩,q⟩:=q1
 subst e
 cases r1 with
 | cons r rr =>
  cases rr with
  | cons r' rr =>
   cases rr
   obtain⟨t,rfl⟩:=r
   obtain⟨t',rfl⟩:=r'
   exact call_range_2 (yC I1 q1 q2 q3 q4 q)

def M0 (wi:TI) (g:TG) (tb:TS):TS:=fun D σ H=>wi σ H fun J H1=>∃ W:Nat->Nat->St->Hp->Prop,(∃ m,W 0 m σ H1)/\∀ i m σ H,W i m σ H ->
 (J.stop i H/\D.nx σ H)\/(J.go i H/\∃ N:St->Hp->Prop,(∀ σ' H',N σ' H'->∃ m',m' < m/\W (i+1) m' σ' H')/\∀ x H',J.yld i H x H'->g x σ H' fun σ2 H2=>tb { D with nx:=N,ct:=N,bk:=D.nx } σ2 H2)
def uh (fp:List RP) (h:RT):List (RP×Obj):=fp.filterMap fun b=>(h.get? b).map fun o=>(b,o)
theorem lF {fp:List RP} {h:RT} {b:RP} {o:Obj} (hb:b∈fp) (e:h.get? b=some o):(b,o)∈uh fp h:=List.mem_filterMap.mpr ⟨b,hb,by rw [e]; rfl⟩
theorem BC {fp:List RP} {h:RT} {p:RP×Obj} (hp:p∈uh fp h):p.1∈fp/\h.get? p.1=some p.2:=by
 obtain⟨b,hb,e⟩:=List.mem_filterMap.mp hp
 cases q:h.get? b with
 | none=>rw [q] at e; cases e
 | some o =>
  rw [q] at e
  have e':(b,o)=p:=Option.some.inj e
  subst e'
  exact⟨hb,q⟩
theorem Inv.pinned {pins:List (RP×Obj)} {σ:St} {H:Hp} {s:R0} {fp:List RP} (I:Inv X pins σ H s) (hf:∀ b∈fp,uB X pins H b) (ho:∀ b∈fp,∃ o,s.heap.get? b=some o/\∀ v,o.data≠.cell v):Inv X (pins++uh fp s.heap) σ H s :=
 I.pins_of fun p hp=>(List.mem_append.mp hp).elim (fun z=>I.pin p (Oc _ z)) fun z=>by
  obtain⟨hb,e⟩:=BC z
  obtain⟨f0,f1,f2,_⟩:=hf p.1 hb
  obtain⟨o,e',d⟩:=ho p.1 hb
  rw [e] at e'; cases e'
  exact⟨e,f0,f1,f2,d⟩
theorem Inv.unpinned {pins pl:List (RP×Obj)} {σ:St} {H:Hp} {s:R0} (I:Inv X (pins++pl) σ H s):Inv X pins σ H s:=I.pins_of fun p hp=>I.pin p (Oc _ (N6 _ hp))
theorem HC {iter:R4} {body:List R6} {wi:TI} {g:TG} {tb:TS} {pos:Pos} (hp:Sg (model X.prog X.w) X.A X.env X.xe) (hc:X.calm=true) (hi:PI X tg iter wi) (hg:PG X tg g) (hb:x4 X body tb)
  (hs:∀ x,Si iter X.env x=pure x:=by intro _; rfl):PS X (.For tg iter body [] pos) (M0 wi g tb):=by
 intro pins s σ H D I h
 refine wpAny_For (eX (hi pins s σ H _ I h) fun v s1 h1=>eX h1 fun itv s2 h2=>?_) hs
 obtain⟨it,fp,tn,J,H2,e,I2,T,st2,f2,W,⟨m0,w0⟩,turn⟩:=h2
 subst e
 have stat:∀ {H':Hp},(∀ b∈fp,H' b=none)->∀ b∈fp,uB X pins H' b:=fun hn b hb=>⟨hn b hb,(f2 b hb).2⟩
 refine codeAny_forLoop_any (fun n s'=>∃ i σ' H',Inv X pins σ' H' s'/\tn i s'.heap/\(∀ b∈fp,H' b=none)/\W i n σ' H') ?_ m0 ⟨0,σ,H2,I2,st2,fun b hb=>(f2 b hb).1,w0⟩
 rintro n s3 ⟨i,σ3,H3,I3,st3,fr3,w3⟩
 rcases turn i n σ3 H3 w3 with ⟨stop,qn⟩ | ⟨go,N,hN,step⟩
 ·refine Sj hp (eX (T.done X rfl rfl rfl hc i pins s3 σ3 H3 X.xe I3 (stat fr3) st3 stop) fun r s4 ⟨hr,I4⟩=>?_)
  subst hr
  exact Sa ⟨σ3,H3,I4,qn⟩
 ·refine Sj hp (eX (T.item X rfl rfl rfl hc i pins s3 σ3 H3 X.xe I3 (stat fr3) st3 go) fun r s4 ⟨u,hr,h4⟩=>?_)
  subst hr
  refine Sj hp (eX h4 fun _ s5 ⟨x,H5,I5,r5,y5,st5,fr5⟩=>?_)
  have I5':=I5.pinned (stat fr5) (T.obj _ _ st5)
  refine Sj hp (eX (hg _ s5 σ3 H5 x u _ I5' r5 (step x H5 y5)) fun _ s6 ⟨σ6,H6,I6,q6⟩=>?_)
  refine Sj hp (eX (hb _ s6 σ6 H6 _ I6 q6) fun f s7 q7=>?_)
  have again:∀ {σ7:St} {H7:Hp},Inv X (pins++uh fp s5.heap) σ7 H7 s7->N σ7 H7->∃ m,m < n/\∃ i σ' H',Inv X pins σ' H' s7/\tn i s7.heap/\(∀ b∈fp,H' b=none)/\W i m σ' H':=fun {σ7 H7} I7 n7=>by
   obtain⟨m',hm,w7⟩:=hN σ7 H7 n7
   refine⟨m',hm,i+1,σ7,H7,I7.unpinned,T.keep _ _ _ st5 fun b hb o e=>(I7.pin (b,o) (Oc _ (Oc _ (lF hb e)))).1,fun b hb=>?_,w7⟩
   obtain⟨o,e,d⟩:=T.obj _ _ st5 b hb
   exact(I7.pin (b,o) (Oc _ (Oc _ (lF hb e)))).2.1
  cases f with
  | next=>obtain⟨σ7,H7,I7,n7⟩:=q7; exact again I7 n7
  | cont=>obtain⟨σ7,H7,I7,n7⟩:=q7; exact again I7 n7
  | brk=>obtain⟨σ7,H7,I7,q7⟩:=q7; exact⟨σ7,H7,I7.unpinned,q7⟩
  | ret v=>obtain⟨x7,σ7,H7,I7,r7,q7⟩:=q7; exact⟨x7,σ7,H7,I7.unpinned,r7,q7⟩
end

end L2

namespace L2
open PySem PySem.Spec PyProof.Rows

abbrev R2:=V->V->Hp->VK->Prop
def lX (X:Cx) (f:RM->RM->Sem RM) (r:R2):Prop :=
 ∀ (pins:List (RP×Obj)) (s:R0) (σ:St) (H:Hp) (x y:V) (v u:RM) (Q:VK),Inv X pins σ H s->RelV x v->RelV y u->r x y H Q ->
  R3 (model X.prog X.w) X.A (f v u) (EP X pins σ Q) X.xe s
def LQ (X:Cx) (f:RM->Sem RM) (r:V->Hp->VK->Prop):Prop :=
 ∀ (pins:List (RP×Obj)) (s:R0) (σ:St) (H:Hp) (x:V) (v:RM) (Q:VK),Inv X pins σ H s->RelV x v->r x H Q ->
  R3 (model X.prog X.w) X.A (f v) (EP X pins σ Q) X.xe s
def dQ (X:Cx) (f:RM) (r:List V->Hp->VK->Prop):Prop :=
 ∀ (pins:List (RP×Obj)) (s:R0) (σ:St) (H:Hp) (xs:List V) (us:List RM) (Q:VK),Inv X pins σ H s->Vals xs us->r xs H Q ->
  R3 (model X.prog X.w) X.A (call f us) (EP X pins σ Q) X.xe s
def LV (X:Cx) (r:V->Hp->(Bool->Hp->Prop)->Prop):Prop :=
 ∀ (pins:List (RP×Obj)) (s:R0) (σ:St) (H:Hp) (x:V) (v:RM) (Q:Bool->Hp->Prop),Inv X pins σ H s->RelV x v->r x H Q ->
  R3 (model X.prog X.w) X.A (truthy v) (TP X pins σ Q) X.xe s

def JU (r:R2) (ta tb:TE):TE:=fun σ H Q=>ta σ H fun x H1=>tb σ H1 fun y H2=>r x y H2 Q
def Nx (r:V->Hp->VK->Prop) (ta:TE):TE:=fun σ H Q=>ta σ H fun x H1=>r x H1 Q
def rI (C:Int->Int->Prop) (g:Int->Int->V):R2:=fun x y H Q=>∃ i j,x=.int i/\y=.int j/\C i j/\Q (g i j) H
def EW (g:Int->Int->V):R2:=fun x y H Q=>∃ i j,x=.int i/\y=.int j/\Q (g i j) H
def rU (g:Int->V):V->Hp->VK->Prop:=fun x H Q=>∃ i,x=.int i/\Q (g i) H

section
variable {X:Cx} {a b c:R4} {ta tb tc:TE} {pos:Pos}

theorem Hv (ha:PE X a ta) (hb:PE X b tb) {pins:List (RP×Obj)} {s:R0} {σ:St} {H:Hp} {R:V->V->Hp->Prop} (I:Inv X pins σ H s)
  (h:ta σ H fun x H1=>tb σ H1 fun y H2=>R x y H2) {Q:RM->R0->Prop} {f:RM->RM->Sem RM}
  (hf:∀ v u s2 x y H2,Inv X pins σ H2 s2->RelV x v->RelV y u->R x y H2->R3 (model X.prog X.w) X.A (f v u) Q X.xe s2) :
  R3 (model X.prog X.w) X.A (eval a X.env) (fun v s₁=>R3 (model X.prog X.w) X.A (eval b X.env) (fun u s₂=>R3 (model X.prog X.w) X.A (f v u) Q X.xe s₂) X.xe s₁) X.xe s:=by
 refine eX (ha pins s σ H _ I h) fun v s1 ⟨x,H1,I1,r1,q1⟩=>?_
 refine eX (hb pins s1 σ H1 _ I1 q1) fun u s2 ⟨y,H2,I2,r2,q2⟩=>?_
 exact hf v u s2 x y H2 I2 r1 r2 q2

theorem JK {op:Operator} {r:R2} (ho:lX X (Sl op) r) (ha:PE X a ta) (hb:PE X b tb):PE X (.BinOp a op b pos) (JU r ta tb):=by
 intro pins s σ H Q I h
 exact wpAny_BinOp (Hv ha hb I h fun v u s2 x y H2 I2 rx ry q=>ho pins s2 σ H2 x y v u Q I2 rx ry q)
theorem JI {op:UnaryOp} {r:V->Hp->VK->Prop} (ho:LQ X (unaryOp op) r) (ha:PE X a ta):PE X (.UnaryOp op a pos) (Nx r ta):=by
 intro pins s σ H Q I h
 exact UnaryOp_ (eX (ha pins s σ H _ I h) fun v s1 ⟨x,H1,I1,r1,q1⟩=>ho pins s1 σ H1 x v Q I1 r1 q1)
theorem Jr {f:RM->RM->Sem RM} {C:Int->Int->Prop} {g:Int->Int->Int}
  (rule:∀ (i j:Int) (t u:Tok) (s:R0) (Q:RM->R0->Prop) (E:RM->R0->Prop),C i j->Q (.int (g i j) s.toks) { s with toks:=s.toks+1 }->R3 (model X.prog X.w) X.A (f (.int i t) (.int j u)) Q E s) :
  lX X f (rI C fun i j=>.int (g i j)):=by
 intro pins s σ H x y v u Q I rx ry h
 obtain⟨i,j,rfl,rfl,hc,q⟩:=h
 obtain⟨t,rfl⟩:=rx
 obtain⟨t',rfl⟩:=ry
 exact rule i j t t' s _ _ hc ⟨.int (g i j),H,I.tok _,⟨_,rfl⟩,q⟩
theorem Hj {f:RM->RM->Sem RM} {g:Int->Int->Int}
  (rule:∀ (i j:Int) (t u:Tok) (s:R0) (Q:RM->R0->Prop) (E:RM->R0->Prop),Q (.int (g i j) s.toks) { s with toks:=s.toks+1 }->R3 (model X.prog X.w) X.A (f (.int i t) (.int j u)) Q E s) :
  lX X f (EW fun i j=>.int (g i j)):=by
 intro pins s σ H x y v u Q I rx ry h
 obtain⟨i,j,rfl,rfl,q⟩:=h
 obtain⟨t,rfl⟩:=rx
 obtain⟨t',rfl⟩:=ry
 exact rule i j t t' s _ _ ⟨.int (g i j),H,I.tok _,⟨_,rfl⟩,q⟩
theorem MP {f:RM->RM->Sem RM} {g:Int->Int->Bool}
  (rule:∀ (i j:Int) (t u:Tok) (s:R0) (Q:RM->R0->Prop) (E:RM->R0->Prop),Q (.bool (g i j)) s->R3 (model X.prog X.w) X.A (f (.int i t) (.int j u)) Q E s) :
  lX X f (EW fun i j=>.bl (g i j)):=by
 intro pins s σ H x y v u Q I rx ry h
 obtain⟨i,j,rfl,rfl,q⟩:=h
 obtain⟨t,rfl⟩:=rx
 obtain⟨t',rfl⟩:=ry
 exact rule i j t t' s _ _ ⟨.bl (g i j),H,I,rfl,q⟩

def JD (i j:Int):Prop:=0<=j/\j<=1000000/\i.natAbs < 2 ^ 64
def Ik (i j:Int):Prop:=(-(2 ^ 64) < i/\i < 2 ^ 64)\/(-(2 ^ 64) < j/\j < 2 ^ 64)
theorem Ik.ok {i j:Int} (h:Ik i j):IntMulOk i j:=by
 rcases h with ⟨h1,h2⟩ | ⟨h1,h2⟩
 ·exact .of_left (intBits_le_64 h1 h2)
 ·exact .of_right (intBits_le_64 h1 h2)
theorem zv (k:Nat):(0:Int)<=2 ^ k:=by
 rw [two_pow_cast]
 exact Od _

theorem IQ:lX X (Sl .Add) (EW fun i j=>.int (i+j)):=Hj fun _ _ _ _ _ _ _ q=>add_int q
theorem pJ:lX X (Sl .Sub) (EW fun i j=>.int (i - j)):=Hj fun _ _ _ _ _ _ _ q=>sub_int q
theorem li:lX X (Sl .Mult) (rI Ik fun i j=>.int (i*j)):=Jr fun _ _ _ _ _ _ _ hc q=>mul_int q hc.ok
theorem bC:lX X (Sl .Mod) (rI (fun _ j=>0 < j) fun i j=>.int (i%j)):=Jr fun i j _ _ _ _ _ hc q=>by
 have h1:(0:Int) < j:=hc
 exact mod_int' ‹0› (by rw [Int.fmod_eq_emod_of_nonneg i ‹0›]; exact q)
theorem qt:lX X (Sl .Pow) (rI JD fun i j=>.int (i ^ j.toNat)):=Jr fun _ _ _ _ _ _ _ hc q=>pow_int_small hc.1 hc.2.1 hc.2.2 q
theorem wZ:lX X (Sl .RShift) (rI (fun _ j=>0<=j) fun i j=>.int (i / 2 ^ j.toNat)):=Jr fun i j _ _ _ _ _ hc q =>
 rshift_int hc (by rw [Oe i (zv _)]; exact q)
theorem xk:lX X (Sl .BitAnd) (EW fun i j=>.int (Builtin.bitAnd i j)):=Hj fun _ _ _ _ _ _ _ q=>and_int q
theorem NP {f:RM->Sem RM} {g:Int->Int}
  (rule:∀ (i:Int) (t:Tok) (s:R0) (Q:RM->R0->Prop) (E:RM->R0->Prop),Q (.int (g i) s.toks) { s with toks:=s.toks+1 }->R3 (model X.prog X.w) X.A (f (.int i t)) Q E s) :
  LQ X f (rU fun i=>.int (g i)):=by
 intro pins s σ H x v Q I rx h
 obtain⟨i,rfl,q⟩:=h
 obtain⟨t,rfl⟩:=rx
 exact rule i t s _ _ ⟨.int (g i),H,I.tok _,⟨_,rfl⟩,q⟩
theorem Hg:LQ X (unaryOp .USub) (rU fun i=>.int (-i)):=NP fun _ _ _ _ _ q=>neg_int q
end

section
variable {X:Cx} {a b c:R4} {ta tb tc:TE} {pos:Pos}
theorem DF {pins:List (RP×Obj)} {σ:St} {H:Hp} {s:R0} {Q:VK} {k k':Bool} (I:Inv X pins σ H s) (q:Q (.bl k) H) (e:k=k'):EP X pins σ Q (.bool k') s:=by
 subst e
 exact⟨.bl k,H,I,rfl,q⟩
theorem Ka:lX X (Sn .Lt) (EW fun i j=>.bl (decide (i < j))):=MP fun _ _ _ _ _ _ _ q=>lt_int q
theorem CJ:lX X (Sn .Lt) (fun x y H Q=>∃ i j,x=.str i/\y=.str j/\Q (.bl (decide (i.cps.toList < j.cps.toList))) H):=by
 intro pins s σ H x y v u Q I rx ry h
 obtain⟨i,j,rfl,rfl,q⟩:=h
 obtain⟨t,rfl⟩:=rx
 obtain⟨t',rfl⟩:=ry
 exact lt_str (DF I q rfl)
theorem cz (b:R4) {op:CmpOp} (h:op≠.In:=by decide) (h2:op≠.NotIn:=by decide):Sq op b=false:=by
 have e1:(op==CmpOp.In)=false:=by cases op <;> first | rfl | exact absurd rfl h
 have e2:(op==CmpOp.NotIn)=false:=by cases op <;> first | rfl | exact absurd rfl h2
 cases b <;> simp [Sq,e1,e2]
theorem Gc {op:CmpOp} {r:R2} (ho:lX X (Sn op) r) (ha:PE X a ta) (hb:PE X b tb) (hm:Sq op b=false):PE X (.Compare a [op] [b] pos) (JU r ta tb):=by
 intro pins s σ H Q I h
 exact wpAny_Compare1 (Hv ha hb I h fun v u s2 x y H2 I2 rx ry q=>ho pins s2 σ H2 x y v u Q I2 rx ry q) hm
def GY (t:TE):TT:=fun σ H Q=>t σ H fun x H'=>∃ k,x=.bl k/\Q k H'
theorem Gq {op:CmpOp} {r:R2} (ho:lX X (Sn op) r) (ha:PE X a ta) (hb:PE X b tb) (hm:Sq op b=false):PT X (.Compare a [op] [b] pos) (GY (JU r ta tb)):=by
 intro pins s σ H Q I h
 refine wpAny_isTrue_Compare1 (eX (ha pins s σ H _ I h) fun v s1 ⟨x,H1,I1,r1,q1⟩=>eX (hb pins s1 σ H1 _ I1 q1) fun u s2 ⟨y,H2,I2,r2,q2⟩ =>
  eX (ho pins s2 σ H2 x y v u _ I2 r1 r2 q2) fun c s3 ⟨z,H3,I3,r3,k,e,q3⟩=>?_) hm
 subst e
 cases r3
 exact R9 ⟨H3,I3,q3⟩
def Ji (K:QN) (x:V) (H:Hp) (k:Bool):Prop :=
 match x with
 | .non=>k=false
 | .bl b=>k=b
 | .int i=>k=(i != 0)
 | .str y=>y.length<=RU/\k=((y.length:Int) != 0)
 | .byt y=>y.size<=RU/\k=((y.size:Int) != 0)
 | .ref p=>(∃ xs,oO K H p xs/\k=!xs.isEmpty)\/(∃ xs,pR K H p xs/\k=!xs.isEmpty)\/∃ kvs,H p=some (.dK kvs)/\k=!kvs.isEmpty
 | _=>False
theorem zZ {κ:Type} {kvs:List (κ×V)} {vs:List (κ×RM)} (r:KV kvs vs):(!vs.isEmpty)=!kvs.isEmpty:=by
 cases r <;> rfl
theorem t7 {xs:List V} {its:List RM} (r:Vals xs its):(!its.toArray.isEmpty)=!xs.isEmpty:=by
 cases r <;> simp
theorem qe:(RU:Nat) < 2 ^ 63:=by rw [Sr]; decide
theorem HP:LV X (fun x H Q=>∃ k,Ji X.K x H k/\Q k H):=by
 intro pins s σ H x v Q I rx h
 obtain⟨k,e,q⟩:=h
 have hl:=qe
 have hs:RU=16777216:=Sr
 cases x with
 | non =>
  cases rx
  have e':k=false:=e
  subst e'
  exact truthy_none ⟨H,I,q⟩
 | bl b =>
  cases rx
  have e':k=b:=e
  subst e'
  exact R9 ⟨H,I,q⟩
 | int i =>
  obtain⟨t,rfl⟩:=rx
  have e':k=(i != 0):=e
  subst e'
  exact PySem.P.truthy_int ⟨H,I,q⟩
 | str y =>
  obtain⟨t,rfl⟩:=rx
  obtain⟨hy,e'⟩:y.length<=RU/\k=((y.length:Int) != 0):=e
  subst e'
  exact PySem.P.truthy_str ‹0› ⟨H,I.tok _,q⟩
 | byt y =>
  obtain⟨t,rfl⟩:=rx
  obtain⟨hy,e'⟩:y.size<=RU/\k=((y.size:Int) != 0):=e
  subst e'
  exact PySem.W.truthy_bytes ‹0› ⟨H,I.tok _,q⟩
 | ref p =>
  cases rx
  have e':(∃ xs,oO X.K H p xs/\k=!xs.isEmpty)\/(∃ xs,pR X.K H p xs/\k=!xs.isEmpty)\/∃ kvs,H p=some (.dK kvs)/\k=!kvs.isEmpty:=e
  rcases e' with ⟨xs,hx,e'⟩ | ⟨xs,hx,e'⟩ | ⟨kvs,hx,e'⟩
  ·subst e'
   obtain⟨its,r,pl,hz⟩:=I.list hx
   have hlen:=r.length
   exact wpAny_truthy_list pl.isList (by simp only [Of]; omega) ⟨H,I.tok _,by rw [t7 r]; exact q⟩
  ·subst e'
   obtain⟨its,r,pl,hz⟩:=I.tuple hx
   have hlen:=r.length
   exact truthy_tuple pl (by simp only [Of]; omega) ⟨H,I.tok _,by rw [t7 r]; exact q⟩
  ·subst e'
   obtain⟨hz,hS,vs,r,m⟩:kvs.length<=RU/\(p==sysModules)=false/\∃ vs,KV kvs vs/\s.heap.DictOf (bZ X.prog X.w) p vs:=I.hok p _ hx
   have hlen:kvs.length=vs.length:=Paired.length r
   exact wpAny_truthy_dict hS m ‹0› ⟨H,I.tok _,by rw [zZ r]; exact q⟩
 | _=>exact(show False from e).elim
theorem Dy (ha:PE X a ta) (he:∀ whole,isTrue a X.env whole=(do let v <- whole; standAt a.pos; holding [v] (truthy v))) :
  PT X a (fun σ H Q=>ta σ H fun x H'=>∃ k,Ji X.K x H' k/\Q k H'):=by
 intro pins s σ H Q I h
 exact isTrue_plain (eX (ha pins s σ H _ I h) fun v s1 ⟨x,H1,I1,r1,q1⟩=>HP pins s1 σ H1 x v Q I1 r1 q1) (he _)

theorem zg:lX X (Sl .Add) (fun x y H Q=>∃ i j,x=.str i/\y=.str j/\i.length+j.length<=RU/\Q (.str (i++j)) H):=by
 intro pins s σ H x y v u Q I rx ry h
 obtain⟨i,j,rfl,rfl,hz,q⟩:=h
 obtain⟨t,rfl⟩:=rx
 obtain⟨t',rfl⟩:=ry
 exact add_str (fun t' tk=>⟨.str (i++j),H,I.tok _,⟨_,rfl⟩,q⟩) hz
theorem vals1 {x:V} {us:List RM} (r:Vals [x] us):∃ u,us=[u]/\RelV x u:=by
 cases r with
 | cons r1 r2=>cases r2; exact⟨_,rfl,r1⟩
theorem vals2 {x y:V} {us:List RM} (r:Vals [x,y] us):∃ u w',us=[u,w']/\RelV x u/\RelV y w':=by
 cases r with
 | cons r1 r2 =>
  cases r2 with
  | cons r3 r4=>cases r4; exact⟨_,_,rfl,r1,r3⟩
theorem Cm (hc:X.calm=true):dQ X (.builtin "max") (fun xs H Q=>∃ i j,xs=[.int i,.int j]/\Q (.int (if j > i then j else i)) H):=by
 intro pins s σ H xs us Q I r h
 obtain⟨i,j,rfl,q⟩:=h
 obtain⟨u,w',rfl,⟨t,rfl⟩,⟨t',rfl⟩⟩:=vals2 r
 refine max_two_ints (I.ok.hd hc) fun h' tk k=>⟨_,H,I.kept k,?_,q⟩
 by_cases hj:j > i
 ·rw [if_pos hj,if_pos hj]; exact⟨_,rfl⟩
 ·rw [if_neg hj,if_neg hj]; exact⟨_,rfl⟩
theorem Bj (hc:X.calm=true):dQ X (.builtin "min") (fun xs H Q=>∃ i j,xs=[.int i,.int j]/\Q (.int (if j < i then j else i)) H):=by
 intro pins s σ H xs us Q I r h
 obtain⟨i,j,rfl,q⟩:=h
 obtain⟨u,w',rfl,⟨t,rfl⟩,⟨t',rfl⟩⟩:=vals2 r
 refine min_two_ints (I.ok.hd hc) fun h' tk k=>⟨_,H,I.kept k,?_,q⟩
 by_cases hj:j < i
 ·rw [if_pos hj,if_pos hj]; exact⟨_,rfl⟩
 ·rw [if_neg hj,if_neg hj]; exact⟨_,rfl⟩
theorem vT:dQ X (.type "int") (fun xs H Q=>(∃ i,xs=[.int i]/\Q (.int i) H)\/∃ k,xs=[.bl k]/\Q (.int (if k then 1 else 0)) H):=by
 intro pins s σ H xs us Q I r h
 rcases h with ⟨i,rfl,q⟩ | ⟨k,rfl,q⟩
 ·obtain⟨u,rfl,t,rfl⟩:=vals1 r
  exact call_int_int ⟨.int i,H,I,⟨_,rfl⟩,q⟩
 ·obtain⟨u,rfl,r1⟩:=vals1 r
  cases r1
  exact call_int_bool ⟨.int (if k then 1 else 0),H,I.tok _,⟨_,rfl⟩,q⟩
end
end L2

namespace L2
open PySem PySem.Spec PyProof.Rows

structure Cy (h:RT) (x dx C:RP) (mA:Str->Option RM):Prop where
 obj:h.get? x=some (QL C dx)
 ns:h.Ns1 dx mA
 ne:dx≠x

theorem BE {h:RT} {dx:RP} {mA:Str->Option RM} (n:h.Ns1 dx mA):∃ od,h.get? dx=some od/\∀ name,QO name od=some (mA name):=by
 obtain⟨o,es,ep,ho,hd,hk,_,hm⟩:=n
 refine⟨o,ho,fun name=>?_⟩
 have e:=hm name
 unfold nsFind findBy at e
 rw [<- Array.find?_toList] at e
 unfold QO
 rw [hd]
 dsimp only
 split
 ·rename_i y q
  rw [q] at e
  exact congrArg some e
 ·rename_i q
  rw [q] at e
  have a:es.toList.any (·.refKey)=false:=by
   rw [List.any_eq_false]
   intro y hy
   obtain⟨z,t,hkey⟩:=hk y (Array.mem_toList_iff.mp hy)
   simp [DictEntry.refKey,hkey]
  have a':¬ es.toList.any (·.refKey)=true:=by rw [a]; exact Og
  rw [if_neg a']
  exact congrArg some e

theorem Cy.look {h:RT} {x dx C:RP} {mA:Str->Option RM} (I:Cy h x dx C mA):∃ od,PySem.W.InstAt h x (QL C dx) C (some od)/\∀ name,QO name od=some (mA name) :=
 let ⟨od,ho,hl⟩:=BE I.ns
 ⟨od,⟨I.obj,rfl,rfl,ho⟩,hl⟩

section
variable {prog:RO} {w:RN} {A:RZ} {E:RM->R0->Prop} {s:R0} {K:QN} {x dx C f:RP} {mA:Str->Option RM} {name:Str} {v:RM}

theorem Gx {expr:Bool} {Q:RM->R0->Prop} (X:K.In s.heap) (I:Cy s.heap x dx C mA) (hg:QP K C name=true) (hh:QQ K C=true)
  (ha:QR K (.ref C) name=some none) (hv:mA name=some v) (hv':QS v=true) (h:Q v { s with toks:=s.toks+1 }) :
  R3 (model prog w) A (getAttr (.ref x) name expr) Q E s:=by
 obtain⟨od,J,hl⟩:=I.look
 exact PySem.W.get_value X J (QT hg).1 (PySem.W.findObj_own hh ha rfl (by rw [hl,hv])) hv' h

theorem Dq {pl:Sem Bool} {Q:RM×List RM->R0->Prop} (X:K.In s.heap) (I:Cy s.heap x dx C mA) (hg:QP K C name=true)
  (hf:QR K (.ref C) name=some (some (.ref f))) (ht:QU K (.ref f)=true) (hv:mA name=none) (h:Q (.ref f,[.ref x]) s) :
  R3 (model prog w) A (getMethod (.ref x) name pl) Q E s:=by
 obtain⟨od,J,hl⟩:=I.look
 exact PySem.W.method_fn X J (QT hg).1 (QT hg).2 hf (beq_iff_eq.mp ht) (by show (QO name od).map (·.isSome)=some false; rw [hl,hv]; rfl) h

theorem FY {ns:List Str} {Q:Unit->R0->Prop} (X:K.In s.heap) (I:Cy s.heap x dx C mA)
  (hs:QR K (.ref C) "__setattr__"=some (some (.builtin "object.__setattr__"))) (hp:QV K C=true) (ht:QW K C name=some none) (hh:QQ K C=true)
  (hw:PySem.Within mA ns) (hsz:ns.length<=RU)
  (h:∀ h',Cy h' x dx C (fun y=>if y=name then some v else mA y)->Rj dx s.heap h'->Q () { s with heap:=h',toks:=s.toks+2 }) :
  R3 (model prog w) A (setAttr (.ref x) name v) Q E s:=by
 obtain⟨od,J,hl⟩:=I.look
 refine PySem.W.set_plain X J hs (PySem.W.osa_open (s:={ s with toks:=s.toks+1 }) (r:=none) X J hp ht fun b=>?_)
 obtain⟨cd,hc,hd'⟩:=PySem.W.any_some hh
 have hx:s.heap.get? x=some ⟨.ref C,some dx,.plain,#[]⟩:=I.obj
 refine Se (Sd (Se (Se (wpAny_loadPart hx (Se (PySem.W.Looks.here (s:={ s with toks:=s.toks+1 }) (PySem.W.looks_clsIn X hc) ?_))))))
 rw [hd']
 refine Sd (a:=some dx) (Se (Sd (Se ?_)))
 refine wpAny_nsSet1 (s:={ s with toks:=s.toks+1 }) I.ns fun h' hn2 hs2=>?_
 obtain⟨oD,esD,epD,hoD,hdD,hcD⟩:=hn2.count (PySem.Within.cons name v hw)
 refine Se (wpAny_lookBehind hoD (by rw [hdD]; exact pastItsLine_dict (N1 hcD (by rw [Oh]; omega))) ?_)
 exact Sd (h _ ⟨(hs2.2 _ (Ne.symm I.ne)).trans I.obj,hn2,I.ne⟩ hs2)

theorem Df {R:Result->R0->Prop} {vs:List RM} {kw:List (Str×RM)} (X:K.In s.heap) (hm:QX K C=true)
  (hi:QR K (.ref C) "__init__"=some (some (.ref f))) (hf:PySem.W.typeIn K (.ref f)=some (.type "function"))
  (h:Ss (model prog w) (A.under (.builtin "type.__call__" ⟨.ref C::vs,kw⟩)) (.call (.ref f) ⟨.ref (s.heap.objs.size+1)::vs,kw⟩) (PySem.W.InitBack (s.heap.objs.size+1) R)
   { s with heap:=(s.heap.push QY).push (QL C s.heap.objs.size) }) :
  Ss (model prog w) A (.call (.ref C) ⟨vs,kw⟩) R s:=by
 obtain⟨hh,g,d,t,os⟩:=s
 exact PySem.W.make_core (PySem.W.makes_of X hm) (PySem.W.looks_findIn X hi) (fun self=>PySem.W.bind_fn X self hf) (.inl rfl) h
end

def lU (f:Str) (v:V):List (Str×V)->List (Str×V)
 | []=>[(f,v)]
 | (g,x)::r=>if g=f then (g,v)::r else (g,x)::lU f v r
theorem qN (f g:Str) (v:V):∀ fs:List (Str×V),(lU f v fs).lookup g=if g=f then some v else fs.lookup g
 | []=>by
  show List.lookup g [(f,v)]=_
  by_cases h:g=f
  ·have hb:(g==f)=true:=beq_iff_eq.mpr h
   simp only [List.lookup,hb,if_pos h]
  ·have hb:(g==f)=false:=beq_eq_false_iff_ne.mpr h
   simp only [List.lookup,hb,if_neg h]
 | (k,x)::r=>by
  have ih:=qN f g v r
  rw [show lU f v ((k,x)::r)=(if k=f then (k,v)::r else (k,x)::lU f v r) from rfl]
  by_cases hk:k=f
  ·rw [if_pos hk]
   by_cases h:g=k
   ·have hb:(g==k)=true:=beq_iff_eq.mpr h
    simp only [List.lookup,hb,if_pos (h.trans hk)]
   ·have hb:(g==k)=false:=beq_eq_false_iff_ne.mpr h
    simp only [List.lookup,hb,if_neg (fun e:g=f=>h (e.trans hk.symm))]
  ·rw [if_neg hk]
   by_cases h:g=k
   ·have hb:(g==k)=true:=beq_iff_eq.mpr h
    simp only [List.lookup,hb,if_neg (fun e:g=f=>hk (h.symm.trans e))]
   ·have hb:(g==k)=false:=beq_eq_false_iff_ne.mpr h
    simp only [List.lookup,hb]
    exact ih
theorem qx (f:Str) (v:V):∀ fs:List (Str×V),f∈(lU f v fs).map (·.1)/\∀ g,g∈fs.map (·.1)->g∈(lU f v fs).map (·.1)
 | []=>⟨by simp [lU],fun g h=>by simp at h⟩
 | (k,x)::r=>by
  obtain⟨i1,i2⟩:=qx f v r
  rw [show lU f v ((k,x)::r)=(if k=f then (k,v)::r else (k,x)::lU f v r) from rfl]
  by_cases hk:k=f
  ·rw [if_pos hk]
   subst hk
   exact⟨by simp,fun g h=>by simpa using h⟩
  ·rw [if_neg hk]
   refine⟨?_,fun g h=>?_⟩
   ·rw [Oi]
    exact N5 _ i1
   ·rw [Oi] at h ⊢
    rcases List.mem_cons.mp h with e | e
    ·exact List.mem_cons.mpr (.inl e)
    ·exact N5 _ (i2 g e)
theorem qQ (f:Str) (v:V):∀ fs:List (Str×V),(lU f v fs).length<=fs.length+1
 | []=>by simp [lU]
 | (k,x)::r=>by
  have ih:=qQ f v r
  rw [show lU f v ((k,x)::r)=(if k=f then (k,v)::r else (k,x)::lU f v r) from rfl]
  by_cases hk:k=f
  ·rw [if_pos hk,Oh,Oh]; omega
  ·rw [if_neg hk,Oh,Oh]; omega

theorem tS.some_of {v:V} {o:Option RM} (r:tS (some v) o):∃ u,o=some u/\RelV v u:=by
 cases o with
 | none=>exact(show False from r).elim
 | some u=>exact⟨u,rfl,r⟩
theorem tS.none_of {o:Option RM} (r:tS none o):o=none:=by
 cases o with
 | none=>rfl
 | some u=>exact(show False from r).elim
theorem Bn {v:V} {u:RM} (r:RelV v u):QS u=true:=by
 cases v with
 | non=>cases (show u=Value.none from r); rfl
 | bl b=>cases (show u=Value.bool b from r); rfl
 | int i=>obtain⟨t,e⟩:=(show ∃ t,u=Value.int i t from r); cases e; rfl
 | str x=>obtain⟨t,e⟩:=(show ∃ t,u=Value.str x t from r); cases e; rfl
 | byt b=>obtain⟨t,e⟩:=(show ∃ t,u=Value.bytes b t from r); cases e; rfl
 | flt b=>obtain⟨t,e⟩:=(show ∃ t,u=Value.float b t from r); cases e; rfl
 | ref a=>cases (show u=Value.ref a from r); rfl
 | ty n=>cases (show u=Value.type n from r); rfl

section
variable {P:RO} {w:RN} {H H':Hp} {h h':RT} {a C dx:RP} {fs fs':List (Str×V)}
theorem v8 (hok:oT P w H h) (e:H a=some (.ins C dx fs)):∃ mA,Cy h a dx C mA/\(∀ f,tS (fs.lookup f) (mA f))/\PySem.Within mA (fs.map (·.1))/\fs.length<=1000/\H dx=some (.own a):=by
 obtain⟨d,z,ne,ob,mA,n,r,q⟩:=(show cC P w H h a (.ins C dx fs) from hok a _ e)
 exact⟨mA,⟨ob,n,ne⟩,r,q,z,d⟩
end

structure yX (K:QN) (C:RP):Prop where
 pg:QP K C Str.empty=true
 hd:QQ K C=true
 po:QV K C=true
 sa:QR K (.ref C) "__setattr__"=some (some (.builtin "object.__setattr__"))
theorem yX.get {K:QN} {C:RP} (c:yX K C) (f:Str):QP K C f=true:=c.pg
def lm (K:QN) (C:RP) (f:Str):Prop:=QR K (.ref C) f=some none
theorem lm.taker {K:QN} {C:RP} {f:Str} (n:lm K C f):QW K C f=some none:=by
 unfold QW
 rw [show QR K (.ref C) f=some none from n]
 rfl
structure Meth (K:QN) (C:RP) (m:Str) (f:RP):Prop where
 at_:QR K (.ref C) m=some (some (.ref f))
 fn:QU K (.ref f)=true
 kp:QZ K (.ref f)=true

section
variable {X:Cx} {pins:List (RP×Obj)} {σ:St} {H:Hp} {s:R0} {a C dx:RP} {fs:List (Str×V)} {f:Str} {v:V} {A:RZ} {E:RM->R0->Prop}

theorem zf {b:Bool} {Q:RM->R0->Prop} (I:Inv X pins σ H s) (e:H a=some (.ins C dx fs)) (c:yX X.K C) (n:lm X.K C f) (l:fs.lookup f=some v)
  (h:∀ u s',Inv X pins σ H s'->RelV v u->Q u s'):R3 (model X.prog X.w) A (getAttr (.ref a) f b) Q E s:=by
 obtain⟨mA,O,r,_,_,_⟩:=v8 I.hok e
 obtain⟨u,hu,ru⟩:=tS.some_of (v:=v) (o:=mA f) (by rw [<- l]; exact r f)
 exact Gx I.kIn O (c.get f) c.hd n hu (Bn ru) (h u _ (I.tok _) ru)

theorem Ae {m:Str} {g:RP} {pl:Sem Bool} {Q:RM×List RM->R0->Prop} (I:Inv X pins σ H s) (e:H a=some (.ins C dx fs)) (c:yX X.K C) (k:Meth X.K C m g) (l:fs.lookup m=none)
  (h:Q (.ref g,[.ref a]) s):R3 (model X.prog X.w) A (getMethod (.ref a) m pl) Q E s:=by
 obtain⟨mA,O,r,_,_,_⟩:=v8 I.hok e
 have hn:mA m=none:=tS.none_of (by rw [<- l]; exact r m)
 exact Dq I.kIn O (c.get m) k.at_ k.fn hn h

theorem zB {y:V} {u:RM} {Q:Unit->R0->Prop} (I:Inv X pins σ H s) (e:H a=some (.ins C dx fs)) (c:yX X.K C) (n:lm X.K C f) (hl:fs.length < 1000) (ry:RelV y u)
  (h:∀ s',Inv X pins σ (upd H a (.ins C dx (lU f y fs))) s'->Q () s'):R3 (model X.prog X.w) A (setAttr (.ref a) f u) Q E s:=by
 obtain⟨mA,O,r,wi,_,ho⟩:=v8 I.hok e
 have hz:(fs.map (·.1)).length<=RU:=by rw [Oj,Sr]; omega
 refine FY I.kIn O c.sa c.po n.taker c.hd wi hz fun h' O' sb=>h _ ?_
 have hd:∃ o,h'.get? dx=some o:=let ⟨o,_,_,e',_⟩:=O'.ns; ⟨o,e'⟩
 refine I.write (x:=a) (e:=dx) (by rw [e]; exact True.intro) (.inr ho) (fun b q hb z=>(sb.2 b hb).trans z) hd ?_
 refine⟨by rw [aE O.ne]; exact ho,?_,O.ne,O'.obj,_,O'.ns,fun g=>?_,fun g hg=>?_⟩
 ·have:=qQ f y fs; omega
 ·show tS ((lU f y fs).lookup g) (if g=f then some u else mA g)
  rw [qN]
  by_cases q:g=f
  ·rw [if_pos q,if_pos q]; exact ry
  ·rw [if_neg q,if_neg q]; exact r g
 ·by_cases q:g=f
  ·rw [q]; exact(qx f y fs).1
  ·refine(qx f y fs).2 g (wi g fun z=>hg ?_)
   show (if g=f then some u else mA g)=none
   rw [if_neg q]; exact z

theorem Inv.made (I:Inv X pins σ H s):Inv X pins σ (upd (upd H s.heap.objs.size (.own (s.heap.objs.size+1))) (s.heap.objs.size+1) (.ins C s.heap.objs.size []))
  { s with heap:=(s.heap.push QY).push (QL C s.heap.objs.size) }:=by
 have e1:(s.heap.push QY).get? s.heap.objs.size=some QY:=Rm s.heap rfl
 have e2:((s.heap.push QY).push (QL C s.heap.objs.size)).get? (s.heap.objs.size+1)=some (QL C s.heap.objs.size):=by
  have:=Rm (s.heap.push QY) (o:=QL C s.heap.objs.size) rfl
  rwa [Rn] at this
 have e3:(s.heap.push QY).Ns s.heap.objs.size (fun _=>none):=⟨QY,#[],_,e1,rfl,(fun e he=>absurd he (by simp)),fun _=>rfl⟩
 have I1:=I.laid (a:=s.heap.objs.size) (o:=.own (s.heap.objs.size+1)) (h':=s.heap.push QY) (t':=s.toks) (fun b u q=>Rl _ q) (Oa _) ⟨_,e1⟩
 refine I1.laid (a:=s.heap.objs.size+1) (o:=.ins C s.heap.objs.size []) (t':=s.toks) (fun b u q=>Rl _ q) (Ol (Rn _ _)) ?_
 have ne:s.heap.objs.size≠s.heap.objs.size+1:=N0 (Nat.lt_succ_self _)
 refine⟨by rw [aE ne,aL],Om _,ne,e2,fun _=>none,(Heap.Ns1.of_empty e3).at fun o q=>Rl _ q,fun _=>True.intro,fun y hy=>absurd rfl hy⟩

theorem ER {prog:RO} {w:RN} {env:Env} {e:R4} {f:Str} {pos:Pos} {s:R0} {Q:RM->R0->Prop} (hb:Su e f env (eval e env)=eval e env)
  (h:R3 (model prog w) A (eval e env) (fun o s₁=>R3 (model prog w) A (getAttr o f true) Q E s₁) E s):R3 (model prog w) A (eval (.Attribute e f pos) env) Q E s :=
 Attribute_any_ h (by rw [arm_eval_Attribute,hb])
end

def L3 (K:QN) (ta:TE) (f:Str):TE:=fun σ H Q=>ta σ H fun x H1=>∃ a C dx fs v,x=.ref a/\H1 a=some (.ins C dx fs)/\yX K C/\lm K C f/\fs.lookup f=some v/\Q v H1
def Ls (K:QN) (ta tv:TE) (f:Str):TS:=fun D σ H=>tv σ H fun y H1=>ta σ H1 fun x H2=>∃ a C dx fs,x=.ref a/\H2 a=some (.ins C dx fs)/\yX K C/\lm K C f/\fs.length < 1000 /\
 D.nx σ (upd H2 a (.ins C dx (lU f y fs)))
section
variable {X:Cx} {o e value:R4} {f:Str} {pos pos' tpos:Pos} {ta tv:TE}
theorem IR (he:PE X e ta) (hb:Su e f X.env (eval e X.env)=eval e X.env):PE X (.Attribute e f pos) (L3 X.K ta f):=by
 intro pins s σ H Q I h
 refine ER hb (eX (he pins s σ H _ I h) fun u s1 ⟨x,H1,I1,rx,a,C,dx,fs,v,ex,ea,c,n,l,q⟩=>?_)
 subst ex
 obtain rfl:u=Value.ref a:=rx
 exact zf I1 ea c n l fun u' s2 I2 ru=>⟨v,H1,I2,ru,q⟩
theorem Ij (ha:PE X o ta) (hv:PE X value tv) (hs:swapsWith value (some (.Attribute o f pos')) pos.line X.env=pure false):PS X (.Assign [.Attribute o f pos'] value pos) (Ls X.K ta tv f):=by
 intro pins s σ H D I h
 refine plainObj_wpAny_Assign_Attribute (eX (hv pins s σ H _ I h) fun u s1 ⟨y,H1,I1,ry,q⟩=>eX (ha pins s1 σ H1 _ I1 q) fun ov s2 ⟨x,H2,I2,rx,a,C,dx,fs,ex,ea,c,n,l,q2⟩=>?_) hs
 subst ex
 obtain rfl:ov=Value.ref a:=rx
 exact zB I2 ea c n l ry fun s3 I3=>⟨σ,_,I3,q2⟩
theorem yz {pl:Sem Bool} {m:Str} {apos:Pos} {args:List R4} {pins:List (RP×Obj)} {s:R0} {σ:St} {H:Hp} {Q:RM->R0->Prop} {te:TE} (he:PE X e te) (I:Inv X pins σ H s)
  (h:te σ H fun x H1=>∃ a C dx fs g,x=.ref a/\H1 a=some (.ins C dx fs)/\yX X.K C/\Meth X.K C m g/\fs.lookup m=none /\
   ∀ s1,Inv X pins σ H1 s1->R3 (model X.prog X.w) X.A (Sv pos (.ref g) [.ref a] (backTo pos (R5 args X.env)) (backToKw pos (Sw [] X.env))) Q X.xe s1)
  (ht:eval (.Call (.Attribute e m apos) args [] pos) X.env=(do
   let ov <- eval e X.env
   standAt apos.atName
   let (f,first) <- holding [ov] (getMethod ov m pl)
   Sv pos f first (backTo pos (R5 args X.env)) (backToKw pos (Sw [] X.env)))) :
  R3 (model X.prog X.w) X.A (eval (.Call (.Attribute e m apos) args [] pos) X.env) Q X.xe s:=by
 refine PySem.W.methodCall_KW (pl:=pl) (eX (he pins s σ H _ I h) fun u s1 ⟨x,H1,I1,rx,a,C,dx,fs,g,ex,ea,c,k,l,q⟩=>?_) ht
 subst ex
 obtain rfl:u=Value.ref a:=rx
 exact Ae I1 ea c k l (q s1 I1)
end

end L2

namespace L2
open PySem PySem.Spec PyProof.Rows

structure fX (k:Nat) (A:RZ):Prop where
 hd:A.handled=none
 dp:A.depth+3*k+5 < Sx
 un:A.units+16*k+200 < Sy
theorem fX.mono {j k:Nat} {A:RZ} (r:fX k A) (h:j<=k):fX j A:=⟨r.hd,by have:=r.dp; omega,by have:=r.un; omega⟩
theorem fX.deeper {k:Nat} {A:RZ} (r:fX (k+1) A) (env:Env):fX k (A.deeper env) :=
 ⟨r.hd,by have:=r.dp; show A.depth+1+3*k+5 < _; omega,by have:=r.un; show A.units+3+16*k+200 < _; omega⟩
theorem zO {A:RZ} {C:RP} {us:List RM} {kw:List (Str×RM)}:(A.under (.builtin "type.__call__" ⟨.ref C::us,kw⟩)).depth=A.depth+1:=by
 first | rfl | simp [Around.under,Code.weight,Code.isCreation,Code.isGuard,Code.isCaller,Code.frames,Code.isFrame,guardIds]
theorem Ak {A:RZ} {C:RP} {us:List RM} {kw:List (Str×RM)}:(A.under (.builtin "type.__call__" ⟨.ref C::us,kw⟩)).units=A.units+1:=by
 first | rfl | simp [Around.under,Code.cUnits,Code.frames,Code.isFrame]
theorem fX.make {k:Nat} {A:RZ} (r:fX (k+1) A) (C:RP) (us:List RM) (kw:List (Str×RM)):fX k (A.under (.builtin "type.__call__" ⟨.ref C::us,kw⟩)) :=
 ⟨r.hd,by have:=r.dp; rw [zO]; omega,by have:=r.un; rw [Ak]; omega⟩
theorem fX.depth {k:Nat} {A:RZ} (r:fX k A):A.depth < Sx:=by have:=r.dp; omega
theorem fX.units {k:Nat} {A:RZ} (r:fX k A):A.units+64 < Sy:=by have:=r.un; omega
def Md:TA:=fun _ H Q=>Q [] H
def J8 (ta:TE) (tr:TA):TA:=fun σ H Q=>ta σ H fun x H1=>tr σ H1 fun xs H2=>Q (x::xs) H2
section
variable {X:Cx} {e:R4} {es:List R4} {te:TE} {t:TA} {pos:Pos}
theorem qz:PA X [] Md:=fun _ _ _ _ H Q I h=>Calls.spliced_nil ⟨[],H,I,.nil,h⟩
theorem kY (ha:PE X e te) (hr:PA X es t) (hs:R5 (e::es) X.env=(false,eval e X.env)::R5 es X.env:=by rfl):PA X (e::es) (J8 te t):=by
 intro pos pins s σ H Q I h
 rw [hs]
 show R3 _ _ (spliced ((false,eval e X.env)::backTo pos (R5 es X.env))) _ _ s
 refine Calls.spliced_cons (eX (ha pins s σ H _ I h) fun u s1 ⟨x,H1,I1,r1,q1⟩=>?_)
 exact eX (hr pos pins s1 σ H1 _ I1 q1) fun us s2 ⟨xs,H2,I2,r2,q2⟩=>⟨x::xs,H2,I2,.cons r1 r2,q2⟩

def Ml (t:TA):TE:=fun σ H Q=>t σ H fun xs H1=>xs.length<=RU/\∀ p,H1 p=none->Q (.ref p) (upd H1 p (.tup xs))
def MO (t:TA):TE:=fun σ H Q=>t σ H fun xs H1=>xs.length<=RU/\∀ p,H1 p=none->Q (.ref p) (upd H1 p (.lst xs))
theorem Hr {x1} (h:PA X es t):PE X (.Tuple es x1 pos) (Ml t):=by
 intro pins s σ H Q I hq
 refine wpAny_Tuple_spliced (eX (h pos pins s σ H _ I hq) fun us s1 ⟨xs,H1,I1,r,z,q⟩=>⟨by rw [<- r.length]; exact z,?_⟩)
 have hf:H1 s1.heap.objs.size=none:=I1.hok.fresh (Oa _)
 refine⟨.ref s1.heap.objs.size,upd H1 s1.heap.objs.size (.tup xs),I1.laid (t':=s1.toks) (fun b u e=>Rl _ e) (Oa _) ?_,rfl,q _ hf⟩
 exact⟨z,us,r,⟨_,Rm _ rfl,rfl,_,rfl⟩⟩
theorem zF (h:PA X es t):PE X (.List es pos) (MO t):=by
 intro pins s σ H Q I hq
 refine wpAny_List_spliced (eX (h pos pins s σ H _ I hq) fun us s1 ⟨xs,H1,I1,r,z,q⟩=>⟨by rw [<- r.length]; exact z,?_⟩)
 have hf:H1 s1.heap.objs.size=none:=I1.hok.fresh (Oa _)
 refine⟨.ref s1.heap.objs.size,upd H1 s1.heap.objs.size (.lst xs),I1.laid (t':=s1.toks) (fun b u e=>Rl _ e) (Oa _) ?_,rfl,q _ hf⟩
 exact⟨z,us,0,r,Rm _ rfl⟩
end

abbrev Sp:=List V->Hp->VK->XK->Prop
abbrev zy:=List Env->Hp->R0->XK->RM->R0->Prop

structure Ca (P:RO) (w:RN) (K:QN) (mg:Str->Option RM) (base:RT) (A:RZ) (outer:List Env) (s:R0) (H:Hp):Prop where
 frames:A.frames=some outer
 mod:Mod K mg base
 bs:∀ b o,base.get? b=some o->s.heap.get? b=some o/\H b=none
 bsz:base.objs.size<=s.heap.objs.size
 funs:s.heap.FunFrames base outer
 frf:∀ b∈frs outer,H b=none
 hok:oT P w H s.heap
 bare:AllBare s.gens
def CE (outer:List Env) (P:RO) (w:RN) (H:Hp) (s:R0) (Q:VK) (u:RM) (s':R0):Prop :=
 ∃ v H',s'.os=s.os/\AllBare s'.gens/\Un (frs outer) [] H H' s.heap s'.heap/\oT P w H' s'.heap/\RelV v u/\Q v H'
def CR (CX:zy) (outer:List Env) (P:RO) (w:RN) (H:Hp) (s:R0) (Q:VK) (E:XK) (r:Result) (s':R0):Prop :=
 match r with
 | .ok (.ret u)=>CE outer P w H s Q u s'
 | .ok _=>False
 | .error e=>CX outer H s E e s'
structure jE (P:RO) (w:RN) (K:QN) (mg:Str->Option RM) (base:RT) (CX:zy) (k:Nat) (f:RP) (fd:Sz) (ps:List Str) (sp:Sp):Prop where
 len:∀ vs H Q E,sp vs H Q E->vs.length=ps.length
 run:∀ (A:RZ) (outer:List Env) (s:R0) (H:Hp) (args:Args) (us:List RM) (vs:List V) (Q:VK) (E:XK),fX k A->Ca P w K mg base A outer s H->SA s fd args (ps.zip us)->Vals vs us->sp vs H Q E ->
  Ss (model P w) A (.call (.ref f) args) (CR CX outer P w H s Q E) s
theorem jE.mono {P:RO} {w:RN} {K:QN} {mg:Str->Option RM} {base:RT} {CX:zy} {j k:Nat} {f:RP} {fd:Sz} {ps:List Str} {sp:Sp} (F:jE P w K mg base CX j f fd ps sp) (h:j<=k) :
  jE P w K mg base CX k f fd ps sp:=⟨F.len,fun A outer s H args us vs Q E hr=>F.run A outer s H args us vs Q E (hr.mono h)⟩
theorem Ca.make {P:RO} {w:RN} {K:QN} {mg:Str->Option RM} {base:RT} {A:RZ} {outer:List Env} {s:R0} {H:Hp} (e:Ca P w K mg base A outer s H) (C:RP) (us:List RM) (kw:List (Str×RM)) :
  Ca P w K mg base (A.under (.builtin "type.__call__" ⟨.ref C::us,kw⟩)) outer s H:=⟨by first | exact e.frames | (simpa [Around.under,Code.envs,Code.isFrame,pushEnvs] using e.frames),e.mod,e.bs,e.bsz,e.funs,e.frf,e.hok,e.bare⟩
section
variable {X:Cx} {pins:List (RP×Obj)} {σ:St} {H:Hp} {s s':R0}
theorem Inv.env0 (I:Inv X pins σ H s):Ca X.prog X.w X.K X.mg X.base X.A X.stack s H :=
 ⟨I.ok.frames,I.ok.mod,I.bs,N1 I.ok.bsz I.sz,I.stack,I.stkFree,I.hok,I.bare⟩
theorem Inv.after {Q:VK} {u:RM} (I:Inv X pins σ H s) (h:CE X.stack X.prog X.w H s Q u s'):EP X pins σ Q u s':=by
 obtain⟨v,H',os,bare,un,hok,r,q⟩:=h
 obtain⟨hh,g,d,t,os'⟩:=s'
 obtain rfl:os'=s.os:=os
 exact⟨v,H',I.call (h':=hh) (g':=g) (d':=d) (t':=t) (ch:=[]) un hok bare (fun b z=>absurd z (by simp)),r,q⟩
end

def JZ (C:RP) (sp:Sp) (dvs:List V) (E:XK) (t:TA):TE:=fun σ H Q=>t σ H fun vs H1=>∀ x dx,H1 x=none->H1 dx=none->dx≠x ->
 sp (.ref x::(vs++dvs)) (upd (upd H1 dx (.own x)) x (.ins C dx [])) (fun v H2=>v=.non/\Q (.ref x) H2) E

def Binds (K:QN) (fd:Sz) (ps:List Str) (ds:List RM):Prop :=
 ∀ (s:R0) (us:List RM),K.In s.heap->(us++ds).length=ps.length->SA s fd ⟨us,[]⟩ (ps.zip (us++ds))
theorem Binds.all {K:QN} {fd:Sz} {ps:List Str} (h:∀ us:List RM,us.length=ps.length->bindArgs fd ⟨us,[]⟩=pure (ps.zip us)):Binds K fd ps []:=fun s us _ hl=>by
 rw [Oo] at hl ⊢
 exact .of_eq (h us hl)

def zM (CX:zy) (X:Cx) (E:XK):Prop:=∀ (pins:List (RP×Obj)) (σ:St) (H:Hp) (s:R0) (e:RM) (s':R0),Inv X pins σ H s->CX X.stack H s E e s'->X.xe e s'

section
variable {X:Cx} {CX:zy} {k:Nat} {f C:RP} {fd:Sz} {ps:List Str} {sp:Sp} {dvs:List V} {ds:List RM} {E:XK} {x m:Str} {p pos apos:Pos} {e o:R4} {es:List R4} {ta:TE} {t:TA}

structure Mk (K:QN) (C f:RP):Prop where
 makes:QX K C=true
 init:QR K (.ref C) "__init__"=some (some (.ref f))
 fn:QU K (.ref f)=true
 kp:QZ K (.ref C)=true

theorem Es {pins:List (RP×Obj)} {σ:St} {H:Hp} {s:R0} {Q:VK} {us:List RM} {vs:List V} (M:Mk X.K C f) (F:jE X.prog X.w X.K X.mg X.base CX k f fd ps sp) (hr:fX (k+1) X.A) (hb:Binds X.K fd ps ds) (hd:Vals dvs ds)
  (hx:zM CX X E) (I:Inv X pins σ H s) (r:Vals vs us)
  (h:∀ x dx,H x=none->H dx=none->dx≠x->sp (.ref x::(vs++dvs)) (upd (upd H dx (.own x)) x (.ins C dx [])) (fun v H2=>v=.non/\Q (.ref x) H2) E) :
  R3 (model X.prog X.w) X.A (call (.ref C) us) (EP X pins σ Q) X.xe s:=by
 have hq:=h (s.heap.objs.size+1) s.heap.objs.size (I.hok.fresh (Oq _)) (I.hok.fresh (Oa _)) (N0 (Nat.lt_succ_self _))
 have I2:=Inv.made (C:=C) I
 have r2:Vals (V.ref (s.heap.objs.size+1)::(vs++dvs)) (Value.ref (s.heap.objs.size+1)::(us++ds)):=.cons rfl (r.append hd)
 have hl:(Value.ref (s.heap.objs.size+1)::us++ds).length=ps.length:=by
  have e:=r2.length
  rw [F.len _ _ _ _ hq] at e
  exact e.symm
 refine wpAny_call (Df (f:=f) I.kIn M.makes M.init (beq_iff_eq.mp M.fn) (SD (F.run _ X.stack _ _ ⟨Value.ref (s.heap.objs.size+1)::us,[]⟩ (Value.ref (s.heap.objs.size+1)::(us++ds)) _ _ E (hr.make C us [])
  (I2.env0.make C us []) (hb _ (Value.ref (s.heap.objs.size+1)::us) I2.kIn hl) r2 hq) fun r s' hq'=>?_))
 cases r with
 | error e=>exact hx pins σ _ _ e s' I2 hq'
 | ok fl =>
  cases fl with
  | ret u =>
   obtain⟨v,H',I3,rv,ev,q3⟩:=I2.after hq'
   subst ev
   exact⟨rv,⟨V.ref (s.heap.objs.size+1),H',I3,rfl,q3⟩⟩
  | next=>exact False.elim hq'
  | brk=>exact False.elim hq'
  | cont=>exact False.elim hq'
theorem Fd (M:Mk X.K C f) (F:jE X.prog X.w X.K X.mg X.base CX k f fd ps sp) (hr:fX (k+1) X.A) (hg:Gl X x) (hm:X.mg x=some (.ref C)) (hb:Binds X.K fd ps ds) (hd:Vals dvs ds) (hx:zM CX X E)
  (ha:PA X (e::es) t) (hdb:(x==("__debug__":Str))=false:=by decide) (he:R5 (e::es) X.env=(false,eval e X.env)::R5 es X.env:=by rfl) (hpl:(backTo pos (R5 es X.env)).any (·.1)=false:=by rfl) :
  PE X (.Call (.Name x p) (e::es) [] pos) (JZ C sp dvs E t):=by
 intro pins s σ H Q I h
 refine SE (A5 I hg hm ?_ hdb)
 refine Q0 (h₀:=X.base) I.ok.mod.kin M.kp (eX (ha pos pins s σ H _ I h) fun us s1 ⟨vs,H1,I1,r,q⟩=>⟨I1.kIn,?_⟩) he hpl
 exact Es M F hr hb hd hx I1 r q
end


structure aU (N P:List Str) (sc:R1):Prop where
 kind:sc.kind=.function
 co:sc.isCoroutine=false
 gen:sc.isGenerator=false
 nd:N.Nodup
 pre:N.take P.length=P
 par:∀ x∈P,sc.names.lookup x=some .local\/sc.names.lookup x=some .cell
 nofree:∀ y∈sc.names,y.2≠.free

theorem v4 {kindOf:Str->Option SF} {x:Str}:∀ {binds:List (Str×RM)} {m:Str->Option RM},(∀ v,(x,v)∉binds)->bindL kindOf binds m x=m x
 | [],_,_=>rfl
 | (n,v)::r,m,h=>by
  unfold bindL
  rw [v4 fun w hw=>h w (N5 _ hw)]
  split
  ·have:x≠n:=by rintro rfl; exact h v N4
   simp [this]
  ·rfl
theorem vc {kindOf:Str->Option SF} {x:Str}:∀ {binds:List (Str×RM)} {m:Str->Option RM},(∀ v,(x,v)∉binds)->bindC kindOf binds m x=m x
 | [],_,_=>rfl
 | (n,v)::r,m,h=>by
  unfold bindC
  rw [vc fun w hw=>h w (N5 _ hw)]
  split
  ·rfl
  ·have:x≠n:=by rintro rfl; exact h v N4
   simp [this]
theorem vR {kindOf:Str->Option SF} {x:Str} {v:RM}:∀ {P:List Str} {vs:List RM} {i:Nat} {m:Str->Option RM},P.Nodup->P[i]?=some x->vs[i]?=some v->kindOf x=some .local ->
  bindL kindOf (P.zip vs) m x=some v
 | [],_,_,_,_,h,_,_=>by simp at h
 | _::_,[],_,_,_,_,h,_=>by simp at h
 | p::P,w::vs,0,m,nd,h1,h2,hk=>by
  simp at h1 h2; subst h1; subst h2
  show bindL kindOf ((p,w)::P.zip vs) m p=_
  unfold bindL
  rw [v4 fun v hv=>(List.nodup_cons.mp nd).1 (Ot hv).1,if_pos hk]
  simp
 | p::P,w::vs,i+1,m,nd,h1,h2,hk=>by
  show bindL kindOf ((p,w)::P.zip vs) m x=_
  unfold bindL
  exact vR (i:=i) (List.nodup_cons.mp nd).2 (by simpa using h1) (by simpa using h2) hk
theorem vg {kindOf:Str->Option SF} {x:Str} {v:RM}:∀ {P:List Str} {vs:List RM} {i:Nat} {m:Str->Option RM},P.Nodup->P[i]?=some x->vs[i]?=some v->kindOf x≠some .local ->
  bindC kindOf (P.zip vs) m x=some v
 | [],_,_,_,_,h,_,_=>by simp at h
 | _::_,[],_,_,_,_,h,_=>by simp at h
 | p::P,w::vs,0,m,nd,h1,h2,hk=>by
  simp at h1 h2; subst h1; subst h2
  show bindC kindOf ((p,w)::P.zip vs) m p=_
  unfold bindC
  rw [vc fun v hv=>(List.nodup_cons.mp nd).1 (Ot hv).1,if_neg hk]
  simp
 | p::P,w::vs,i+1,m,nd,h1,h2,hk=>by
  show bindC kindOf ((p,w)::P.zip vs) m x=_
  unfold bindC
  exact vg (i:=i) (List.nodup_cons.mp nd).2 (by simpa using h1) (by simpa using h2) hk

def start (N:List Str) (vs:List V):St:=vs.map some++List.replicate (N.length - vs.length) none

def jW (CX:zy) (P:RO) (w:RN) (K:QN) (mg:Str->Option RM) (base:RT) (N:List Str) (qual:Str) (scope:R1) (f:RP) (cd:RM) (A:RZ) (outer:List Env) (s:R0) (H:Hp) (E:XK):Cx where
 prog:=P
 w:=w
 K:=K
 mg:=mg
 base:=base
 A:=A.deeper (envOfC qual scope s.heap.objs.size f cd)
 N:=N
 s₀:=s
 H₀:=H
 env:=envOfC qual scope s.heap.objs.size f cd
 outer:=outer
 stack:=envOfC qual scope s.heap.objs.size f cd::outer
 ex:=[]
 calm:=true
 fn:=fun _=>true
 pn:=[]
 xe:=fun e s'=>R3 (model P w) (A.deeper (envOfC qual scope s.heap.objs.size f cd)) (leaving (envOfC qual scope s.heap.objs.size f cd) e) (fun _ s''=>CX outer H s E e s'') (fun e' s''=>CX outer H s E e' s'') s'

theorem yf {sc:R1} {n:Nat} {x:Str} (h:sc.names.lookup x=some .cell):∃ c,(cellsFrom n sc.names []).lookup x=some c:=by
 have q:=Q1 sc.names n [] (.inl h)
 exact Option.isSome_iff_exists.mp q

theorem BG {CX:zy} {P:RO} {w:RN} {K:QN} {mg:Str->Option RM} {base:RT} {N ps:List Str} {qual:Str} {scope:R1} {f:RP} {cd:RM} {A:RZ} {outer:List Env} {s s1:R0} {H:Hp} {E:XK} {us:List RM} {vs:List V}
  (S:aU N ps scope) (hd:A.handled=none) (e0:Ca P w K mg base A outer s H) (hl:vs.length=ps.length) (r:Vals vs us)
  (x:InCallC s s.heap.objs.size (bindL (envOfC qual scope s.heap.objs.size f cd).kindOf (ps.zip us) fun _=>none) (cellsFrom (s.heap.objs.size+1) scope.names []) (bindC (envOfC qual scope s.heap.objs.size f cd).kindOf (ps.zip us) fun _=>none) s1) :
  Inv (jW CX P w K mg base N qual scope f cd A outer s H E) [] (start N vs) H s1:=by
 have hpl:ps.length<=N.length:=by have:=congrArg List.length S.pre; rw [Ou] at this; omega
 obtain⟨h1,tk,rfl,hk⟩:=x.done
 have noA:∀ b:RP,b∉(jW CX P w K mg base N qual scope f cd A outer s H E).ex:=fun b z=>absurd (show b∈([]:List RP) from z) (by simp)
 refine⟨⟨e0.mod,S.kind,rfl,rfl,Oa _,fun y z c h1 h2=>?_,fun y hy=>?_,fun y c _ h=>?_,fun _=>hd,Around.frames_deeper e0.frames,.inr ⟨rfl,rfl⟩,fun b z=>absurd z (noA b),e0.bs,e0.bsz,fun b _ _=>noA b,fun b z=>absurd z (noA b),e0.funs,e0.frf⟩,
  rfl,e0.bare,Un.kept hk,⟨_,x.toInCall.ns,fun i y v h1 h2 h3=>?_⟩,fun y c h=>⟨_,x.cell y c h⟩,e0.hok.fresh (Oa _),fun y c h=>?_,fun p hp=>absurd (show p∈([]:List (RP×Obj)) from hp) (by simp),e0.hok.kept hk,?_⟩
 ·exact name_of_addr x.apart (PySem.mem_of_lookup h1) (PySem.mem_of_lookup h2)
 ·have hy:scope.names.lookup y=some .cell\/scope.names.lookup y=some .free:=hy
  rcases hy with hy | hy
  ·exact yf hy
  ·exact absurd rfl (S.nofree _ (PySem.mem_of_lookup hy))
 ·exact N2 (x.above y c (PySem.mem_of_lookup h))
 ·have hi:i < vs.length:=by
   unfold start at h2
   by_cases hi:i < vs.length
   ·exact hi
   ·rw [Ov (by simpa using hi)] at h2
    rw [Ow] at h2
    split at h2 <;> cases h2
  have ha:vs[i]?=some v:=by
   unfold start at h2
   rw [Ox (by simpa using hi),Oy] at h2
   cases e:vs[i]? with
   | none=>rw [e] at h2; cases h2
   | some a=>rw [e] at h2; cases h2; rfl
  obtain⟨u,hu,rv⟩:=r.get ha
  have hp:ps[i]?=some y:=by
   rw [<- S.pre,List.getElem?_take_of_lt ‹0›]; exact h1
  have ndP:ps.Nodup:=by rw [<- S.pre]; exact S.nd.sublist (List.take_sublist _ _)
  refine⟨u,rv,?_⟩
  rcases S.par y (Oz hp) with k | k
  ·exact .inl ⟨k,vR ndP hp hu k⟩
  ·obtain⟨c,e⟩:=yf (n:=s.heap.objs.size+1) k
   refine .inr ⟨.inl k,c,e,?_⟩
   have q:=x.cell y c e
   rw [vg ndP hp hu (by show scope.names.lookup y≠_; rw [k]; decide)] at q
   exact q
 ·exact e0.hok.fresh (N2 (x.above y c (PySem.mem_of_lookup h)))
 ·unfold start
  show _=N.length
  rw [OA,Oj,List.length_replicate]
  omega

theorem Et {CX:zy} {P:RO} {w:RN} {K:QN} {mg:Str->Option RM} {base:RT} {k:Nat} {f:RP} {name qual:Str} {params:SG} {body:List R6} {scope:R1} {dV kV doc pm cdv ct oc:RM} {an od:Option RP}
  {osl:Array (Option RM)} {N ps:List Str} {sp:Sp} (lk:K.lookup f=some ⟨oc,od,.func (Q2 name qual params body scope dV kV doc pm an cdv ct),osl⟩) (hcd:Q3 K cdv qual=true) (S:aU N ps scope)
  (len:∀ vs H Q E,sp vs H Q E->vs.length=ps.length)
  (hbody:∀ (A:RZ) (outer:List Env) (s:R0) (H:Hp) (vs:List V) (Q:VK) (E:XK),fX k (A.deeper (envOfC qual scope s.heap.objs.size f cdv))->sp vs H Q E ->
   ∃ t,x4 (jW CX P w K mg base N qual scope f cdv A outer s H E) body t/\t { nx:=fun _ H'=>Q .non H',rt:=Q } (start N vs) H) :
  jE P w K mg base CX (k+1) f (Q2 name qual params body scope dV kV doc pm an cdv ct) ps sp:=by
 refine⟨len,fun A outer s H args us vs Q E hr e0 hb r hsp=>?_⟩
 have hl:=len _ _ _ _ hsp
 have KX:K.In s.heap:=e0.mod.kin.keeps fun b o e=>(e0.bs b o e).1
 have lim:s.heap.NoLimit:=e0.mod.nolimit.keeps fun b o e=>(e0.bs b o e).1
 have hkind:∀ y∈ps.zip us,scope.names.lookup y.1=some .local\/(scope.names.lookup y.1=some .cell/\((cellsFrom (s.heap.objs.size+1) scope.names []).lookup y.1).isSome=true):=fun ⟨n,v⟩ hy=>by
  rcases S.par n (Ot hy).1 with q | q
  ·exact .inl q
  ·exact .inr ⟨q,Q1 _ _ _ (.inl q)⟩
 refine codeAny_call_function hr.depth (KX _ _ lk) rfl S.co S.gen rfl (PySem.W.codeRec_of KX hcd) (hb _ _ _ _ ?_)
 refine wpAny_newFunctionEnv_cells S.kind hkind fun env he s1 x=>?_
 subst he
 refine⟨lim.keeps x.toInCall.keep,codeAny_func ?_⟩
 obtain⟨t,ht,hq⟩:=hbody A outer s H vs Q E (hr.deeper _) hsp
 have I:Inv (jW CX P w K mg base N qual scope f cdv A outer s H E) [] (start N vs) H s1:=BG S hr.hd e0 hl r x
 refine R7 (ht [] s1 (start N vs) H _ I hq) (fun fl s' hs=>?_) fun e s' hs=>hs
 have fin:∀ {σ':St} {H':Hp} {v:V} {u:RM},Inv (jW CX P w K mg base N qual scope f cdv A outer s H E) [] σ' H' s'->RelV v u->Q v H'->CE outer P w H s Q u s' :=
  fun {σ' H' v u} J rv q=>⟨v,H',J.os,J.bare,J.base,J.hok,rv,q⟩
 cases fl with
 | ret u =>
  obtain⟨v,σ',H',J,rv,q⟩:=hs
  exact fin J rv q
 | next =>
  obtain⟨σ',H',J,q⟩:=hs
  exact fin (v:=V.non) (u:=Value.none) J rfl q
 | brk =>
  obtain⟨_,_,_,q⟩:=hs
  exact False.elim q
 | cont =>
  obtain⟨_,_,_,q⟩:=hs
  exact False.elim q
end L2

namespace L2
open PySem PySem.Spec PyProof.Rows
section
variable {X:Cx} {x:Str} {p pos:Pos} {e:R4} {es:List R4} {t:TA} {id T:String} {r:List V->Hp->VK->Prop}

def MN (r:List V->Hp->VK->Prop) (t:TA):TE:=fun σ H Q=>t σ H fun vs H1=>r vs H1 Q
theorem yu (hc:dQ X (.builtin id) r) (hg:Gl X x) (hm:X.mg x=none) (hv:RY x=some (.builtin id)) (ha:PA X (e::es) t) (hn:x ≠ "__name__":=by decide) (hdb:(x==("__debug__":Str))=false:=by decide)
  (he:R5 (e::es) X.env=(false,eval e X.env)::R5 es X.env:=by rfl) (hpl:(backTo pos (R5 es X.env)).any (·.1)=false:=by rfl):PE X (.Call (.Name x p) (e::es) [] pos) (MN r t):=by
 intro pins s σ H Q I h
 refine SE (mj I hg hm hv ?_ hn hdb)
 exact PyProof.Rows.callWith_builtin1 (eX (ha pos pins s σ H _ I h) fun us s1 ⟨vs,H1,I1,r1,q1⟩=>hc pins s1 σ H1 vs us Q I1 r1 q1) he hpl
theorem vG (hc:dQ X (.type T) r) (hg:Gl X x) (hm:X.mg x=none) (hv:RY x=some (.type T)) (ha:PA X (e::es) t) (hn:x ≠ "__name__":=by decide) (hdb:(x==("__debug__":Str))=false:=by decide)
  (he:R5 (e::es) X.env=(false,eval e X.env)::R5 es X.env:=by rfl) (hpl:(backTo pos (R5 es X.env)).any (·.1)=false:=by rfl):PE X (.Call (.Name x p) (e::es) [] pos) (MN r t):=by
 intro pins s σ H Q I h
 refine SE (mj I hg hm hv ?_ hn hdb)
 exact Ru (eX (ha pos pins s σ H _ I h) fun us s1 ⟨vs,H1,I1,r1,q1⟩=>hc pins s1 σ H1 vs us Q I1 r1 q1) he hpl
end
end L2

namespace HT
open PySem PyProof.Rows

theorem Kf (A:RZ) (s:R0) (a:Int) (t:Tok) (c:Int) (u:Tok) (prog:RO) (w:RN) (E:RM->R0->Prop) (Q:RM->R0->Prop) (h:Q (.bool (decide (a < c))) s) :
  R3 (model prog w) A (richCompare .Lt (.int a t) (.int c u)) Q E s :=
 (PyProof.Rows.lt_int h:R3 (model prog w) A (Sn .Lt (.int a t) (.int c u)) Q E s)

section
open PySem.SeqAt
open PySem.AutoSeq1 (wpAny_loadPart')
open PySem.MeetsSeq PySem.MeetsSeq2 PySem.MeetsSeq3

end

section
variable {prog:RO} {w:RN} {A:RZ} {E:RM->R0->Prop} {s:R0}

theorem KD {t b:RP} {vs ws:List RM} {Q:RM->R0->Prop} (ht:RV s.heap t vs.toArray) (hb:RV s.heap b ws.toArray) (hv:vs≠[])
  (h1:ws=[]->Q (.ref t) s) (h2:ws≠[]->Q (.ref s.heap.objs.size) { s with heap:=s.heap.push { cls:=.type "tuple",data:=.seq (vs++ws).toArray } })
  (hsz:vs.length+ws.length<=RU):R3 (model prog w) A (Sl .Add (.ref t) (.ref b)) Q E s:=by
 obtain⟨⟨cls,dd,data,sl⟩,ho,hc,n,hd⟩:=id ht
 obtain⟨⟨cls2,dd2,data2,sl2⟩,ho2,hc2,n2,hd2⟩:=id hb
 simp only at hc hd hc2 hd2
 subst hc hd hc2 hd2
 have e:vs.toArray++ws.toArray=(vs++ws).toArray:=by simp
 by_cases hw:ws=[]
 ·exact SH ⟨_,ho,rfl⟩ ⟨_,ho2,rfl⟩ SJ SK RG RH (RJ _ _)
   (tuple_addW1 t b vs.toArray ws.toArray n n2 dd dd2 sl sl2 (by simpa using hv) (by simp [hw])) ⟨ho,ho2,h1 hw⟩
 ·refine SH ⟨_,ho,rfl⟩ ⟨_,ho2,rfl⟩ SJ SK RG RH (RJ _ _)
   (tuple_addW2 t b vs.toArray ws.toArray n n2 dd dd2 sl sl2 (by simpa using hv) (by simpa using hw) (by rw [Of,Of]; exact hsz)) ⟨ho,ho2,?_⟩
  rw [e]
  exact h2 hw

def sIx (n d:Nat):Option Int->Nat
 | none=>d
 | some v=>if v < 0 then (v+(n:Int)).toNat else min v.toNat n
theorem JY (n d:Nat):sIx n d none=d:=rfl
theorem KU (n d k:Nat):sIx n d (some (k:Int))=min k n:=by
 show (if (k:Int) < 0 then ((k:Int)+(n:Int)).toNat else min (k:Int).toNat n)=min k n
 rw [if_neg ‹0›,OB]
theorem HU (n d:Nat) (hd:d<=n) (o:Option Int):sIx n d o<=n:=by
 cases o with
 | none=>exact hd
 | some v =>
  show (if v < 0 then (v+(n:Int)).toNat else min v.toNat n)<=n
  by_cases hv:v < 0
  ·rw [if_pos hv]; omega
  ·rw [if_neg hv]; exact Nat.min_le_right _ _
theorem Av (v:Int) (n d:Nat):(if v < 0 then max (v+(n:Int)) 0 else min v (n:Int))=((sIx n d (some v):Nat):Int):=by
 show (if v < 0 then max (v+(n:Int)) 0 else min v (n:Int))=(((if v < 0 then (v+(n:Int)).toNat else min v.toNat n):Nat):Int)
 by_cases hv:v < 0
 ·simp only [if_pos hv]; omega
 ·simp only [if_neg hv]; omega
theorem Ac (lo hi:Option Int) (n:Nat):Builtin.Slice.sliceAdjust lo hi 1 (n:Int)=(((sIx n 0 lo:Nat):Int),((sIx n n hi:Nat):Int)):=by
 have h1:¬ ((1:Int) < 0):=by omega
 unfold Builtin.Slice.sliceAdjust
 simp only [h1,if_false]
 refine Prod.ext ?_ ?_
 ·cases lo with
  | none=>rfl
  | some v=>exact Av v n 0
 ·cases hi with
  | none=>rfl
  | some v=>exact Av v n n
theorem An (i j:Nat):Builtin.Slice.slicePlaces (i:Int) (j:Int) 1=j - i:=by
 unfold Builtin.Slice.slicePlaces
 have h1:(1:Int) > 0:=by omega
 simp only [h1,if_true,Int.ediv_one]
 split <;> omega
theorem sV {v:RM} {o:Option Int} {Q:Option Int->R0->Prop} (p:SL v o) (h:Q o s):R3 (model prog w) A (Builtin.Slice.slicePartIndex v) Q E s:=by
 cases p with
 | none=>exact slicePart_none h
 | int i t=>exact slicePart_int h
theorem qA {sl:RP} {vl vu:RM} {lo hi:Option Int} {n:Nat} {Q:Int×Int×Nat->R0->Prop} (hs:s.heap.IsSliceOf sl vl vu .none) (pl:SL vl lo) (pu:SL vu hi)
  (h:Q (((sIx n 0 lo:Nat):Int),1,sIx n n hi - sIx n 0 lo) s):R3 (model prog w) A (Builtin.Slice.sliceApplied (.ref sl) (pure (n:Int))) Q E s:=by
 obtain⟨os,hos,hcs,hds⟩:=id hs
 unfold Builtin.Slice.sliceApplied Builtin.Slice.sliceFields
 refine Se (Se (SM hos hds (x:=vl) rfl (Se (SM hos hds (x:=vu) rfl (Se (SM hos hds (x:=.none) rfl (Sd ?_)))))))
 refine Se (slicePart_none ?_)
 show R3 _ _ (if ((1:Int)==0)=true then _ else _) _ _ s
 rw [if_neg (by decide)]
 refine Se (sV pl (Se (sV pu (Se (Sd ?_)))))
 show R3 _ _ (match Builtin.Slice.sliceAdjust lo hi 1 (n:Int) with | (lo,hi)=>pure (lo,(1:Int),Builtin.Slice.slicePlaces lo hi 1)) _ _ s
 rw [Ac lo hi n]
 show R3 _ _ (pure (((sIx n 0 lo:Nat):Int),(1:Int),Builtin.Slice.slicePlaces ((sIx n 0 lo:Nat):Int) ((sIx n n hi:Nat):Int) 1)) _ _ s
 rw [An]
 exact Sd h
theorem Dx (xs:Array RM) (i k:Nat):((List.range k).filterMap fun (m:Nat)=>xs[((i:Int)+(m:Int)*1).toNat]?).toArray=((xs.toList.drop i).take k).toArray:=by
 have e:(fun (m:Nat)=>xs[((i:Int)+(m:Int)*1).toNat]?)=fun m=>xs[i+m]?:=by
  funext m
  have:((i:Int)+(m:Int)*1).toNat=i+m:=by omega
  rw [this]
 rw [e]
 have:=pick_run xs i k
 rw [List.filterMap_map] at this
 have e2:((fun x=>xs[x]?) ∘ fun x=>i+x)=fun m=>xs[i+m]?:=rfl
 rw [e2] at this
 rw [this]

theorem Bb {t sl:RP} {items:Array RM} {vl vu:RM} {lo hi:Option Int} {Q:RM->R0->Prop} (ht:RV s.heap t items) (hs:s.heap.IsSliceOf sl vl vu .none) (pl:SL vl lo) (pu:SL vu hi)
  (hw:¬ (sIx items.size 0 lo=0/\sIx items.size items.size hi=items.size))
  (h:Q (.ref s.heap.objs.size) { s with heap:=s.heap.push { cls:=.type "tuple",data:=.seq ((items.toList.drop (sIx items.size 0 lo)).take (sIx items.size items.size hi - sIx items.size 0 lo)).toArray } })
  (hsz:items.size<=RU):R3 (model prog w) A (getItem (.ref t) (.ref sl)) Q E s:=by
 have htake:sizeOk (.seq ((items.toList.drop (sIx items.size 0 lo)).take (sIx items.size items.size hi - sIx items.size 0 lo)).toArray):=by
  show ((items.toList.drop (sIx items.size 0 lo)).take (sIx items.size items.size hi - sIx items.size 0 lo)).toArray.size<=RU
  rw [Of,Ou,OC,Array.length_toList]
  omega
 have hj:sIx items.size items.size hi<=items.size:=HU _ _ (Oa _) hi
 obtain⟨os,hos,hcs,hds⟩:=id hs
 have hTs:s.TypeIs (.ref sl) "slice":=⟨os,hos,hcs⟩
 unfold getItem
 try with_reducible refine SN ?_
 first | refine Se (Sd ?_) | skip
 refine Se (wpAny_sequenceKey ht.typeIs (by decide) ?_)
 refine Se (SR (name:=Str.ofString "__getitem__") ht.typeIs Rv
  (SU Rv ht.typeIs entry_tuple_getitem ?_ (args_tuple_getitem _ _)))
 show R3 _ _ (Builtin.Tuple.tupleItemsOf (.ref t) >>= _) _ _ s
 refine Se (tupleItemsOf_ ht ?_)
 refine Se (SV hTs ?_)
 rw [if_pos (by decide)]
 refine Se (qA hs pl pu ?_)
 have hno:¬ ((((sIx items.size 0 lo:Nat):Int)==0 && (1:Int)==1 && (sIx items.size items.size hi - sIx items.size 0 lo)==items.size)=true):=by
  intro q
  rw [OD,OD] at q
  have q1:((sIx items.size 0 lo:Nat):Int)=0:=eq_of_beq q.1.1
  have q2:sIx items.size items.size hi - sIx items.size 0 lo=items.size:=eq_of_beq q.2
  exact hw ⟨by omega,by omega⟩
 show R3 _ _ (if (((sIx items.size 0 lo:Nat):Int)==0 && (1:Int)==1 && (sIx items.size items.size hi - sIx items.size 0 lo)==items.size)=true then _ else _) _ _ s
 rw [if_neg hno,Dx]
 first
  | exact Se (m:=Builtin.Tuple.tupleExact _) (SW (Sd ⟨_,rfl,Sd h⟩) htake)
  | exact Se (m:=Builtin.Tuple.tupleExact _) (SW (Se (Sd (Sd ⟨_,rfl,Sd h⟩))) htake)
  | exact Se (Se (m:=Builtin.Tuple.tupleExact _) (SW (Sd (Sd ⟨_,rfl,Sd h⟩)) htake))
  | exact Se (Se (m:=Builtin.Tuple.tupleExact _) (SW (Sd ⟨_,rfl,Sd h⟩) htake))
end
end HT

namespace L2
open PySem PySem.Spec PyProof.Rows

abbrev TO:=St->Hp->(Option Int->Hp->Prop)->Prop
def PO (X:Cx) (e:Option R4) (t:TO):Prop :=
 ∀ (pins:List (RP×Obj)) (s:R0) (σ:St) (H:Hp) (Q:Option Int->Hp->Prop),Inv X pins σ H s->t σ H Q ->
  R3 (model X.prog X.w) X.A (evalPart e X.env) (fun u s'=>∃ o H',Inv X pins σ H' s'/\SL u o/\Q o H') X.xe s
def Gu:TO:=fun _ H Q=>Q none H
def J5 (t:TE):TO:=fun σ H Q=>t σ H fun x H1=>∃ i,x=.int i/\Q (some i) H1

section
variable {X:Cx} {e:R4} {te:TE} {lo hi:Option R4} {tl th:TO} {pos p2:Pos}

theorem GJ:PO X none Gu:=by
 intro pins s σ H Q I h
 rw [SY]
 exact Sd ⟨none,H,I,.none,h⟩
theorem FL (h:PE X e te):PO X (some e) (J5 te):=by
 intro pins s σ H Q I hw
 rw [evalPart_some]
 refine eX (h pins s σ H _ I hw) fun u s1 ⟨x,H1,I1,r1,q1⟩=>?_
 obtain⟨i,rfl,q⟩:=q1
 obtain⟨t,rfl⟩:=r1
 exact⟨some i,H1,I1,.int i t,q⟩

def KC (X:Cx) (r:V->Option Int->Option Int->Hp->VK->Prop):Prop :=
 ∀ (pins:List (RP×Obj)) (s:R0) (σ:St) (H:Hp) (x:V) (v vl vu:RM) (lo hi:Option Int) (sl:RP) (Q:VK),Inv X pins σ H s->RelV x v->s.heap.IsSliceOf sl vl vu .none->SL vl lo->SL vu hi->r x lo hi H Q ->
  ∃ T id,typeLookup (.type T) "__getitem__"=pure (some (.builtin id))/\s.TypeIs v T/\R3 (model X.prog X.w) X.A (getItem v (.ref sl)) (EP X pins σ Q) X.xe s
def NI (r:V->Option Int->Option Int->Hp->VK->Prop) (te:TE) (tl th:TO):TE:=fun σ H Q=>te σ H fun x H1=>tl σ H1 fun l H2=>th σ H2 fun u H3=>r x l u H3 Q
theorem D6 {r:V->Option Int->Option Int->Hp->VK->Prop} (hr:KC X r) (he:PE X e te) (hl:PO X lo tl) (hu:PO X hi th):PE X (.Subscript e (.Slice lo hi none p2) pos) (NI r te tl th):=by
 intro pins s σ H Q I h
 refine SZ (eX (he pins s σ H _ I h) fun v s1 ⟨x,H1,I1,r1,q1⟩=>?_)
 refine wpAny_Slice (eX (hl pins s1 σ H1 _ I1 q1) fun vl s2 ⟨l,H2,I2,pl,q2⟩=>eX (hu pins s2 σ H2 _ I2 q2) fun vu s3 ⟨u,H3,I3,pu,q3⟩=>?_)
 rw [SY]
 refine Sd ?_
 have I4:Inv X pins σ H3 { s3 with heap:=s3.heap.push { cls:=.type "slice",data:=.fields #[vl,vu,.none] } }:=I3.kept (t':=s3.toks) fun b ob q=>Rl _ q
 obtain⟨T,id,hT,ht,hg⟩:=hr pins { s3 with heap:=s3.heap.push { cls:=.type "slice",data:=.fields #[vl,vu,.none] } } σ H3 x v vl vu l u s3.heap.objs.size Q I4 r1 (Heap.IsSliceOf.new ..) pl pu q3
 show R3 (model X.prog X.w) X.A (subscriptTail e (.Slice lo hi none p2) v (.ref s3.heap.objs.size)) (EP X pins σ Q) X.xe { s3 with heap:=s3.heap.push { cls:=.type "slice",data:=.fields #[vl,vu,.none] } }
 exact tail_any (ops:=[.ref s3.heap.objs.size,v]) ht hT hg (by with_unfolding_all rfl)

def yN (xs:List V) (lo hi:Option Int):List V:=(xs.drop (HT.sIx xs.length 0 lo)).take (HT.sIx xs.length xs.length hi - HT.sIx xs.length 0 lo)
theorem qU (xs:List V) (lo hi:Option Int):(yN xs lo hi).length<=xs.length:=by
 unfold yN
 rw [Ou,OC]
 omega
def MX (K:QN):V->Option Int->Option Int->Hp->VK->Prop:=fun x lo hi H Q=>∃ a xs,x=.ref a/\pR K H a xs /\
 ¬ (HT.sIx xs.length 0 lo=0/\HT.sIx xs.length xs.length hi=xs.length)/\∀ p,H p=none->Q (.ref p) (upd H p (.tup (yN xs lo hi)))
theorem Hl:KC X (MX X.K):=by
 intro pins s σ H x v vl vu lo hi sl Q I rx hs pl pu h
 obtain⟨a,xs,rfl,hx,hw,q⟩:=h
 cases rx
 obtain⟨its,r,ht,hz⟩:=I.tuple hx
 have hlen:its.toArray.size=xs.length:=by rw [Of]; exact r.length.symm
 refine⟨"tuple",_,PyProof.Rows.slot_tuple_getitem.lookup,ht.typeIs,?_⟩
 refine HT.Bb ht hs pl pu (by rw [hlen]; exact hw) ?_ (by rw [hlen]; exact hz)
 rw [hlen]
 refine⟨.ref s.heap.objs.size,_,I.laid (t':=s.toks) (o:=.tup (yN xs lo hi)) (fun b ob q=>Rl _ q) (Oa _) ?_,rfl,q _ (I.hok.fresh (Oa _))⟩
 exact⟨N1 (qU xs lo hi) hz,_,(r.drop (HT.sIx xs.length 0 lo)).take (HT.sIx xs.length xs.length hi - HT.sIx xs.length 0 lo),IsTup.new _ _⟩

def Jv (K:QN):R2:=fun x y H Q=>∃ a b xs ys,x=.ref a/\y=.ref b/\pR K H a xs/\pR K H b ys/\xs≠[]/\xs.length+ys.length<=RU /\
 (ys=[]->Q (.ref a) H)/\(ys≠[]->∀ p,H p=none->Q (.ref p) (upd H p (.tup (xs++ys))))
theorem Vals.nil_iff {xs:List V} {us:List RM} (r:Vals xs us):us=[]↔xs=[]:=by
 cases r with
 | nil=>simp
 | cons _ _=>simp
theorem Fq:lX X (Sl .Add) (Jv X.K):=by
 intro pins s σ H x y v u Q I rx ry h
 obtain⟨a,b,xs,ys,rfl,rfl,ha,hb,hx,hz,q1,q2⟩:=h
 cases rx
 cases ry
 obtain⟨its,r1,p1,_⟩:=I.tuple ha
 obtain⟨its2,r2,p2,_⟩:=I.tuple hb
 refine HT.KD p1 p2 (fun z=>hx (r1.nil_iff.mp z)) (fun z=>⟨.ref a,H,I,rfl,q1 (r2.nil_iff.mp z)⟩) (fun z=>?_) (by rw [<- r1.length,<- r2.length]; exact hz)
 refine⟨.ref s.heap.objs.size,_,I.laid (t':=s.toks) (o:=.tup (xs++ys)) (fun b ob q=>Rl _ q) (Oa _) ?_,rfl,q2 (fun w=>z (r2.nil_iff.mpr w)) _ (I.hok.fresh (Oa _))⟩
 exact⟨by rw [OA]; exact hz,_,r1.append r2,IsTup.new _ _⟩
end
end L2

namespace L2
open PySem PySem.Spec PyProof.Rows

def Ih (n:Nat) (i:Int):Option Nat:=if 0<=i then (if i < n then some i.toNat else none) else if -(n:Int)<=i then some (i+n).toNat else none
def pF {α:Type} (xs:List α) (i:Int):Option α:=(Ih xs.length i).bind fun j=>xs[j]?
theorem E5 {n:Nat} {i:Int} {j:Nat} (h:Ih n i=some j):seqIndex? i n=some j/\j < n/\-(n:Int)<=i/\i < n:=by
 unfold Ih at h
 by_cases h0:0<=i
 ·rw [if_pos h0] at h
  by_cases h1:i < n
  ·rw [if_pos h1] at h
   have e:i.toNat=j:=Option.some.inj h
   exact⟨by rw [seqIndex_of h0 h1,e],by omega,by omega,h1⟩
  ·rw [if_neg h1] at h; cases h
 ·rw [if_neg h0] at h
  by_cases h1:-(n:Int)<=i
  ·rw [if_pos h1] at h
   have e:(i+n).toNat=j:=Option.some.inj h
   exact⟨by rw [seqIndex_neg ‹0› h1,e],by omega,h1,by omega⟩
  ·rw [if_neg h1] at h; cases h
theorem wy {α:Type} {xs:List α} {i:Int} {v:α} (h:pF xs i=some v):∃ j,seqIndex? i xs.length=some j/\xs[j]?=some v/\j < xs.length/\-(xs.length:Int)<=i/\i < xs.length:=by
 unfold pF at h
 cases e:Ih xs.length i with
 | none=>rw [e] at h; cases h
 | some j =>
  rw [e] at h
  obtain⟨h1,h2,h3,h4⟩:=E5 e
  exact⟨j,h1,h,h2,h3,h4⟩
def wO (b:R4):Prop:=∀ o i,subscripted b false o i=operate [o,i] (getItem o i)
def Kq (X:Cx) (r:R2):Prop :=
 ∀ (value slice:R4) (pins:List (RP×Obj)) (s:R0) (σ:St) (H:Hp) (x y:V) (v u:RM) (Q:VK),Inv X pins σ H s->RelV x v->RelV y u->r x y H Q ->
  subscripted slice false v u=operate [v,u] (getItem v u)->R3 (model X.prog X.w) X.A (subscriptTail value slice v u) (EP X pins σ Q) X.xe s
def NV (X:Cx) (id:String) (r:V->List V->Hp->VK->Prop):Prop :=
 ∀ (pins:List (RP×Obj)) (s:R0) (σ:St) (H:Hp) (x:V) (xs:List V) (v:RM) (us:List RM) (Q:VK),Inv X pins σ H s->RelV x v->Vals xs us->r x xs H Q ->
  R3 (model X.prog X.w) X.A (call (.builtin id) (v::us)) (EP X pins σ Q) X.xe s
section
variable {X:Cx} {a b:R4} {ta tb:TE} {pos:Pos}
theorem J7 {r:R2} (hr:Kq X r) (ha:PE X a ta) (hb:PE X b tb) (hs:wO b):PE X (.Subscript a b pos) (JU r ta tb):=by
 intro pins s σ H Q I h
 exact SZ (Hv ha hb I h fun v u s2 x y H2 I2 rx ry q=>hr a b pins s2 σ H2 x y v u Q I2 rx ry q (hs _ _))

def Lj (K:QN):R2:=fun x y H Q=>∃ p xs i v,x=.ref p/\y=.int i/\oO K H p xs/\pF xs i=some v/\Q v H
def MJ (K:QN):R2:=fun x y H Q=>∃ p xs i v,x=.ref p/\y=.int i/\pR K H p xs/\pF xs i=some v/\Q v H
def Mw:R2:=fun x y H Q=>∃ z i c,x=.str z/\y=.int i/\z.length<=RU/\pF z.cps.toList i=some c/\Q (.str ⟨#[c]⟩) H
theorem Fx:Kq X (Lj X.K):=by
 intro value slice pins s σ H x y v u Q I rx ry h hs
 obtain⟨p,xs,i,z,rfl,rfl,hq,he,q⟩:=h
 cases rx
 obtain⟨t,rfl⟩:=ry
 obtain⟨its,r,pl,hz⟩:=I.list hq
 obtain⟨j,h1,h2,h3,h4,h5⟩:=wy he
 obtain⟨w,ew,rw'⟩:=r.get h2
 have hl:=r.length
 have hn:=qe
 have fin:EP X pins σ Q w s:=⟨z,H,I,rw',q⟩
 by_cases h0:0<=i
 ·have hj:i.toNat=j:=by
   rw [seqIndex_of h0 h5] at h1
   exact Option.some.inj h1
  exact item_listR pl.isList h0 ‹0› (by rw [hj]; simpa using ew) fin hs
 ·have hj:(i+(its.toArray.size:Int)).toNat=j:=by
   rw [seqIndex_neg ‹0› h4] at h1
   rw [Of,<- hl]
   exact Option.some.inj h1
  exact subscriptTail_builtinR (x:=w) pl.isList.typeIs slot_list_getitem.lookup
   (wpAny_getItem_list_neg (Q:=fun r s'=>r=w/\EP X pins σ Q r s') pl.isList ‹0› (by rw [Of] <;> omega) ‹0› (by rw [hj]; simpa using ew) ⟨rfl,fin⟩) hs
theorem HR:Kq X (MJ X.K):=by
 intro value slice pins s σ H x y v u Q I rx ry h hs
 obtain⟨p,xs,i,z,rfl,rfl,hq,he,q⟩:=h
 cases rx
 obtain⟨t,rfl⟩:=ry
 obtain⟨its,r,pl,hz⟩:=I.tuple hq
 obtain⟨j,h1,h2,h3,h4,h5⟩:=wy he
 obtain⟨w,ew,rw'⟩:=r.get h2
 have hl:=r.length
 have hn:=qe
 have fin:EP X pins σ Q w s:=⟨z,H,I,rw',q⟩
 exact subscriptTail_builtinR (x:=w) pl.typeIs slot_tuple_getitem.lookup
  (getItem_tuple (j:=j) (Q:=fun r s'=>r=w/\EP X pins σ Q r s') pl ‹0› ‹0› (by rw [Of,<- hl]; exact h1) (by simpa using ew) ⟨rfl,fin⟩) hs
theorem HW:Kq X Mw:=by
 intro value slice pins s σ H x y v u Q I rx ry h hs
 obtain⟨z,i,c,rfl,rfl,hz,he,q⟩:=h
 obtain⟨t,rfl⟩:=rx
 obtain⟨t',rfl⟩:=ry
 obtain⟨j,h1,h2,h3,h4,h5⟩:=wy he
 have hl:z.cps.toList.length=z.length:=by simp [Str.length]
 rw [hl] at h1 h4 h5
 have hn:=qe
 exact tail_any (typeIs_str s z t) slot_str_getitem.lookup (getItem_str (c:=c) (by
  have e1:decide (i < -(2 ^ 63:Int))=false:=decide_eq_false ‹0›
  have e2:decide (i>=2 ^ 63)=false:=decide_eq_false ‹0›
  rw [e1,e2,Bool.or_false]) (by rw [h1]; simpa using h2) ⟨.str ⟨#[c]⟩,H,I.tok _,⟨_,rfl⟩,q⟩) hs
theorem wM (lo hi:Option Int) (n:Nat):(sliceBounds lo hi none n).1=((HT.sIx n 0 lo:Nat):Int)/\(sliceBounds lo hi none n).2.1=((HT.sIx n n hi:Nat):Int)/\(sliceBounds lo hi none n).2.2=1:=by
 refine⟨?_,?_,rfl⟩
 ·cases lo with
  | none=>simp [sliceBounds,HT.sIx]
  | some i =>
   simp only [sliceBounds,HT.sIx,OG,show (1:Int) > 0 by decide,if_true]
   by_cases h:i < 0
   ·simp only [h,if_true] <;> omega
   ·simp only [h,if_false] <;> omega
 ·cases hi with
  | none=>simp [sliceBounds,HT.sIx]
  | some i =>
   simp only [sliceBounds,HT.sIx,OG,show (1:Int) > 0 by decide,if_true]
   by_cases h:i < 0
   ·simp only [h,if_true] <;> omega
   ·simp only [h,if_false] <;> omega
theorem uH (its:List RM) (lo hi:Option Int):slicePick its.toArray lo hi none=((its.drop (HT.sIx its.length 0 lo)).take (HT.sIx its.length its.length hi - HT.sIx its.length 0 lo)).toArray:=by
 obtain⟨h1,h2,h3⟩:=wM lo hi its.toArray.size
 unfold slicePick
 rw [h1,h2,h3]
 simp only [sliceRange_one,pick_run,Of] <;> rfl
def MK (K:QN):V->Option Int->Option Int->Hp->VK->Prop:=fun x lo hi H Q=>∃ a xs,x=.ref a/\oO K H a xs/\∀ p,H p=none->Q (.ref p) (upd H p (.lst (yN xs lo hi)))
theorem FV:KC X (MK X.K):=by
 intro pins s σ H x v vl vu lo hi sl Q I rx hs pl pu h
 obtain⟨a,xs,rfl,hx,q⟩:=h
 cases rx
 obtain⟨its,r,ht,hz⟩:=I.list hx
 have hlen:=r.length
 refine⟨"list",_,slot_list_getitem.lookup,ht.isList.typeIs,?_⟩
 refine wpAny_getItem_list_slice ht.isList hs pl pu .none (by simp) ?_ (by rw [Of] <;> omega)
 rw [uH,<- hlen]
 refine⟨.ref s.heap.objs.size,_,I.laid (t':=s.toks) (o:=.lst (yN xs lo hi)) (fun b ob q=>Rl _ q) (Oa _) ?_,rfl,q _ (I.hok.fresh (Oa _))⟩
 exact⟨N1 (qU xs lo hi) hz,_,0,(r.drop (HT.sIx xs.length 0 lo)).take (HT.sIx xs.length xs.length hi - HT.sIx xs.length 0 lo),Rm _ rfl⟩

def Dk:V->Bool
 | .non=>true
 | .bl _=>true
 | .int _=>true
 | .str _=>true
 | _=>false
def L5:V->V->Bool
 | .non,.non=>true
 | .bl a,.bl b=>a==b
 | .bl a,.int b=>(if a then 1 else 0)==b
 | .int a,.bl b=>a==(if b then 1 else 0)
 | .int a,.int b=>a==b
 | .str a,.str b=>a==b
 | _,_=>false
theorem HD {A:RZ} {s:R0} {y x:V} {u v:RM} (ry:RelV y u) (rx:RelV x v) (fy:Dk y=true) (fx:Dk x=true):SeqAt.EqAt A s u v (L5 y x):=by
 cases y with
 | non =>
  cases ry
  cases x with
  | non=>cases rx; exact SeqAt.EqAt.same _
  | bl b=>cases rx; exact SeqAt.EqAt.none_bool b
  | int b=>obtain⟨t,rfl⟩:=rx; exact SeqAt.EqAt.none_int b t
  | str b=>obtain⟨t,rfl⟩:=rx; exact SeqAt.EqAt.none_str b t
  | _=>exact absurd (show false=true from fx) Og
 | bl a =>
  cases ry
  cases x with
  | non=>cases rx; exact SeqAt.EqAt.bool_none a
  | bl b=>cases rx; exact SeqAt.EqAt.bool_bool a b
  | int b=>obtain⟨t,rfl⟩:=rx; exact SeqAt.EqAt.bool_int a b t
  | str b=>obtain⟨t,rfl⟩:=rx; exact SeqAt.EqAt.bool_str a b t
  | _=>exact absurd (show false=true from fx) Og
 | int a =>
  obtain⟨t',rfl⟩:=ry
  cases x with
  | non=>cases rx; exact SeqAt.EqAt.int_none a t'
  | bl b=>cases rx; exact SeqAt.EqAt.int_bool a t' b
  | int b=>obtain⟨t,rfl⟩:=rx; exact SeqAt.EqAt.int_int a t' b t
  | str b=>obtain⟨t,rfl⟩:=rx; exact SeqAt.EqAt.int_str a t' b t
  | _=>exact absurd (show false=true from fx) Og
 | str a =>
  obtain⟨t',rfl⟩:=ry
  cases x with
  | non=>cases rx; exact SeqAt.EqAt.str_none a t'
  | bl b=>cases rx; exact SeqAt.EqAt.str_bool a t' b
  | int b=>obtain⟨t,rfl⟩:=rx; exact SeqAt.EqAt.str_int a t' b t
  | str b=>obtain⟨t,rfl⟩:=rx; exact SeqAt.EqAt.str_str a t' b t
  | _=>exact absurd (show false=true from fx) Og
 | _=>exact absurd (show false=true from fy) Og
theorem pC:dQ X (.builtin "len") (fun xs H Q=>∃ p ys,xs=[.ref p]/\(oO X.K H p ys\/pR X.K H p ys)/\Q (.int ys.length) H):=by
 intro pins s σ H xs us Q I r h
 obtain⟨p,ys,rfl,hq,q⟩:=h
 obtain⟨u,rfl,rx⟩:=vals1 r
 cases rx
 have hn:=qe
 rcases hq with hq | hq
 ·obtain⟨its,r',pl,hz⟩:=I.list hq
  have hlen:=r'.length
  exact Calls.call_len_list pl.isList (by simp only [Of] <;> omega) ⟨.int ys.length,H,I.tok _,⟨s.toks+1,by rw [Of,hlen]⟩,q⟩
 ·obtain⟨its,r',pl,hz⟩:=I.tuple hq
  have hlen:=r'.length
  exact len_tuple pl (by simp only [Of] <;> omega) ⟨.int ys.length,H,I.tok _,⟨s.toks+1,by rw [Of,hlen]⟩,q⟩
theorem we:dQ X (.builtin "len") (fun xs H Q=>∃ z,xs=[.str z]/\z.length<=RU/\Q (.int z.length) H):=by
 intro pins s σ H xs us Q I r h
 obtain⟨z,rfl,hz,q⟩:=h
 obtain⟨u,rfl,t,rfl⟩:=vals1 r
 have hn:=qe
 exact len_str ‹0› ⟨.int z.length,H,I.tok _,⟨_,rfl⟩,q⟩
theorem lA:dQ X (.type "list") (fun xs H Q=>∃ p ys,xs=[.ref p]/\(oO X.K H p ys\/pR X.K H p ys)/\∀ l,H l=none->Q (.ref l) (upd H l (.lst ys))):=by
 intro pins s σ H xs us Q I r h
 obtain⟨p,ys,rfl,hq,q⟩:=h
 obtain⟨u,rfl,rx⟩:=vals1 r
 cases rx
 have fin:∀ (its:List RM),Vals ys its->ys.length<=RU->∀ (h':RT) (c':Nat),(∀ b o',s.heap.get? b=some o'->h'.get? b=some o') ->
   h'.get? s.heap.objs.size=some { cls:=.type "list",dict:=none,data:=.seq its.toArray c',slots:=#[] }->EP X pins σ Q (.ref s.heap.objs.size) { s with heap:=h' }:=fun its r' hz h' c' kp e =>
  ⟨.ref s.heap.objs.size,_,I.laid (t':=s.toks) kp (Oa _) (show cC X.prog X.w _ h' _ (.lst ys) from ⟨hz,its,c',r',e⟩),rfl,q _ (I.hok.fresh (Oa _))⟩
 rcases hq with hq | hq
 ·obtain⟨its,r',pl,hz⟩:=I.list hq
  have hlen:=r'.length
  obtain⟨o,ho,hc,n,hd⟩:=pl.isList
  exact call_list_seq p (.inl rfl) ho hc hd (fun h' c' kp e=>fin its r' hz h' c' kp e) (by simp only [Of] <;> omega)
 ·obtain⟨its,r',pl,hz⟩:=I.tuple hq
  have hlen:=r'.length
  obtain⟨o,ho,hc,n,hd⟩:=pl
  exact call_list_seq p (.inr rfl) ho hc hd (fun h' c' kp e=>fin its r' hz h' c' kp e) (by simp only [Of] <;> omega)
theorem oo:dQ X (.type "tuple") (fun xs H Q=>∃ p ys,xs=[.ref p]/\((oO X.K H p ys/\∀ l,H l=none->Q (.ref l) (upd H l (.tup ys)))\/(pR X.K H p ys/\Q (.ref p) H))):=by
 intro pins s σ H xs us Q I r h
 obtain⟨p,ys,rfl,h⟩:=h
 obtain⟨u,rfl,rx⟩:=vals1 r
 cases rx
 rcases h with ⟨hq,q⟩ | ⟨hq,q⟩
 ·obtain⟨its,r',pl,hz⟩:=I.list hq
  have hlen:=r'.length
  refine call_tuple_list pl.isList (fun h' kp=>?_) (by simp only [Of] <;> omega)
  have I1:Inv X pins σ H { s with heap:=h' }:=I.kept (t':=s.toks) kp
  have I2:Inv X pins σ (upd H h'.objs.size (.tup ys)) { s with heap:=h'.push { cls:=.type "tuple",data:=.seq its.toArray } } :=
   I1.laid (t':=s.toks) (fun b o e=>Rl _ e) (Oa _) (show cC X.prog X.w _ _ _ (.tup ys) from ⟨hz,its,r',IsTup.new _ _⟩)
  exact⟨.ref h'.objs.size,_,I2,rfl,q _ (I1.hok.fresh (Oa _))⟩
 ·obtain⟨its,r',pl,hz⟩:=I.tuple hq
  exact call_tuple_same pl ⟨.ref p,H,I,rfl,q⟩

def LW (K:QN) (T:String) (x:V) (H:Hp):Prop:=match x with
 | .str _=>T = "str"
 | .int _=>T = "int"
 | .ref p=>(T = "list"/\∃ xs,oO K H p xs)\/(T = "tuple"/\∃ o,K.lookup p=some o/\o.cls=.type "tuple"/\o.dict=none) \/
   (T = "dict"/\((∃ kvs,H p=some (.dK kvs))\/∃ kvs,H p=some (.dT kvs)))\/(T = "set"/\∃ S n,H p=some (.set S n))
 | _=>False
theorem Hi {pins:List (RP×Obj)} {σ:St} {H:Hp} {s:R0} {T:String} {x:V} {v:RM} (I:Inv X pins σ H s) (r:RelV x v) (ty:LW X.K T x H) :
  s.TypeIs v T/\∀ a,v=.ref a->∃ ob,s.heap.get? a=some ob/\ob.dict=none:=by
 cases x with
 | str z =>
  obtain⟨t,rfl⟩:=r
  cases (show T = "str" from ty)
  exact⟨typeIs_str s z t,fun _ e=>nomatch e⟩
 | int i =>
  obtain⟨t,rfl⟩:=r
  cases (show T = "int" from ty)
  exact⟨typeIs_int s i t,fun _ e=>nomatch e⟩
 | ref p =>
  cases r
  rcases ty with ⟨rfl,xs,hq⟩ | ⟨rfl,o,hk,hc,hd⟩ | ⟨rfl,hk⟩ | ⟨rfl,S,n,hk⟩
  ·obtain⟨its,_,pl,_⟩:=I.list hq
   refine⟨pl.isList.typeIs,fun a e=>?_⟩
   cases e
   obtain⟨o,n,e,c,hd,_⟩:=pl
   exact⟨o,e,hd⟩
  ·refine⟨⟨o,I.kIn p o hk,hc⟩,fun a e=>?_⟩
   cases e
   exact⟨o,I.kIn _ o hk,hd⟩
  ·have z:∃ o,s.heap.get? p=some o/\o.ExactDict:=by
    rcases hk with ⟨kvs,hk⟩ | ⟨kvs,hk⟩
    ·obtain⟨_,_,_,_,o,_,_,e,ex,_⟩:=I.hok p _ hk
     exact⟨o,e,ex⟩
    ·obtain⟨_,_,_,_,o,_,_,e,ex,_⟩:=I.hok p _ hk
     exact⟨o,e,ex⟩
   obtain⟨o,e,ex⟩:=z
   refine⟨⟨o,e,ex.1⟩,fun a e2=>?_⟩
   cases e2
   exact⟨o,e,ex.2.1⟩
  ·obtain⟨o,_,_,_,e,ex,_⟩:=I.hok p _ hk
   refine⟨⟨o,e,ex.1⟩,fun a e2=>?_⟩
   cases e2
   exact⟨o,e,ex.2.1⟩
 | _=>exact False.elim ty
def NR (K:QN) (T:String) (r:V->List V->Hp->VK->Prop) (to:TE) (t:TA):TE:=fun σ H Q=>to σ H fun x H1=>LW K T x H1/\t σ H1 fun xs H2=>r x xs H2 Q
variable {o e:R4} {es:List R4} {to:TE} {t:TA} {name:Str} {apos cpos:Pos} {T id:String} {r:V->List V->Hp->VK->Prop}
theorem A1 (pa:PlainAttrs T) (slot:Slot T name id) (hty:typeOf (.builtin id)=pure (.type "method_descriptor")) (hm:NV X id r) (ho:PE X o to) (ha:PA X (e::es) t)
  (hbase:Su o name X.env (eval o X.env)=eval o X.env:=by rfl)
  (hfew:((backTo cpos (R5 (e::es) X.env)).all (fun x=>!x.1) && (backToKw cpos (Sw [] X.env)).all (fun x=>x.1.isSome)
   && decide ((e::es).length+([]:List S3).length+(if ([]:List S3).isEmpty then 0 else 1) < 30))=true:=by rfl)
  (hline:(apos.endLine==cpos.line)=true:=by rfl) (hs:R5 (e::es) X.env=(false,eval e X.env)::R5 es X.env:=by rfl) (hplain:(backTo cpos (R5 es X.env)).any (·.1)=false:=by rfl) :
  PE X (.Call (.Attribute o name apos) (e::es) [] cpos) (NR X.K T r to t):=by
 intro pins s σ H Q I h
 refine wpAny_Call_method_late hbase hfew hline rfl (eX (ho pins s σ H _ I h) fun v s1 ⟨x,H1,I1,r1,ty,q1⟩=>?_)
 obtain⟨h1,h2⟩:=Hi I1 r1 ty
 refine⟨T,id,pa,slot,hty,h1,h2,?_⟩
 have hA:=ha cpos pins s1 σ H1 _ I1 q1
 rw [hs] at hA ⊢
 refine Calls.callWith_builtin (by show (false || (backTo cpos (R5 es X.env)).any (·.1))=false; rw [hplain] <;> rfl) (Calls.evalArgs_plain ?_)
 exact eX hA fun us s2 ⟨vs,H2,I2,r2,q2⟩=>hm pins s2 σ H2 x vs v us Q I2 r1 r2 q2
end
end L2

namespace L2
open PySem PySem.Spec PyProof.Rows

def JA (X:Cx) (id:String) (r:V->List V->Hp->VK->Prop):Prop :=
 ∀ (pins:List (RP×Obj)) (s:R0) (σ:St) (H:Hp) (x:V) (xs:List V) (v:RM) (us:List RM) (Q:VK),Inv X pins σ H s->RelV x v->Vals xs us->r x xs H Q ->
  R3 (model X.prog X.w) X.A (call (.builtin id) (v::us)) (EP X pins σ Q) X.xe s

theorem Vals.one:∀ {x:V} {us:List RM},Vals [x] us->∃ u,us=[u]/\RelV x u
 | _,_,.cons r .nil=>⟨_,rfl,r⟩
theorem Vals.two:∀ {x y:V} {us:List RM},Vals [x,y] us->∃ u v,us=[u,v]/\RelV x u/\RelV y v
 | _,_,_,.cons r (.cons q .nil)=>⟨_,_,rfl,r,q⟩
section
variable {X:Cx} {pins:List (RP×Obj)} {σ:St} {H:Hp} {s:R0} {l b:RP} {xs ys zs:List V}

theorem Inv.lset {its its':List RM} {n:Nat} {f:Array RM->Array RM} {t':Nat} (I:Inv X pins σ H s) (hH:H l=some (.lst xs))
  (e:s.heap.get? l=some { cls:=.type "list",data:=.seq its.toArray n }) (hf:f its.toArray=its'.toArray) (hv:Vals ys its') (hz:ys.length<=RU) :
  Inv X pins σ (upd H l (.lst ys)) { s with heap:=s.heap.update l (Obj.mapSeq f),toks:=t' }:=by
 have q:=PySem.IsL.update e f
 rw [hf] at q
 refine I.write (x:=l) (e:=l) (by rw [hH]; exact trivial) (.inl rfl) (fun b' u hb hu=>(Heap.get?_update_other s.heap (Obj.mapSeq f) (Ne.symm hb)).trans hu) ⟨_,q⟩ ?_
 exact⟨hz,its',_,hv,q⟩
theorem Inv.lnew {its:List RM} {t':Nat} (I:Inv X pins σ H s) (hv:Vals ys its) (hz:ys.length<=RU) :
  Inv X pins σ (upd H s.heap.objs.size (.lst ys)) { s with heap:=s.heap.push { cls:=.type "list",data:=.seq its.toArray },toks:=t' } :=
 I.laid (fun _ _ q=>Rl _ q) (Oa _) ⟨hz,its,0,hv,Rm _ rfl⟩
theorem Inv.fresh (I:Inv X pins σ H s):H s.heap.objs.size=none:=I.hok.fresh (Oa _)
theorem Inv.lstM (I:Inv X pins σ H s) (hH:H l=some (.lst xs)):xs.length<=RU/\∃ (its:List RM) (n:Nat),Vals xs its/\xs.length=its.length/\s.heap.get? l=some { cls:=.type "list",data:=.seq its.toArray n }:=by
 obtain⟨z,its,n,r,e⟩:=I.hok l _ hH
 exact⟨z,its,n,r,r.length,e⟩

theorem DN {n:Nat} (h:n<=RU):Builtin.List.listTooLong n=false:=by
 unfold Builtin.List.listTooLong
 exact decide_eq_false ‹0›
end

section
variable {X:Cx}

def xo:V->List V->Hp->VK->Prop:=fun x vs H Q=>∃ l xs y,x=.ref l/\vs=[y]/\H l=some (.lst xs)/\xs.length < RU/\Q .non (upd H l (.lst (xs++[y])))
theorem dH:JA X "list.append" xo:=by
 intro pins s σ H x vs v us Q I rx rv h
 obtain⟨l,xs,y,rfl,rfl,hH,hz,q⟩:=h
 cases rx
 obtain⟨u,rfl,ru⟩:=rv.one
 obtain⟨z,its,n,r,hl,e⟩:=I.lstM hH
 refine call_meets F.slot_list_append ⟨_,e,rfl⟩ F.entry_list_append (F.args_list_append_2 _ _) (PySem.list_append l its.toArray n u (by rw [Of]; omega)) ⟨e,?_⟩
 refine⟨.non,_,I.lset (its':=its++[u]) hH e (by simp) (r.append (.cons ru .nil)) ?_,rfl,q⟩
 rw [OA,OH]
 omega

def Fl:V->List V->Hp->VK->Prop:=fun x vs H Q=>∃ l b xs zs,x=.ref l/\vs=[.ref b]/\H l=some (.lst xs)/\H b=some (.lst zs)/\xs.length+zs.length<=RU/\Q .non (upd H l (.lst (xs++zs)))
theorem BH:JA X "list.extend" Fl:=by
 intro pins s σ H x vs v us Q I rx rv h
 obtain⟨l,b,xs,zs,rfl,rfl,hH,hB,hz,q⟩:=h
 cases rx
 obtain⟨u,rfl,ru⟩:=rv.one
 cases ru
 obtain⟨z,its,n,r,hl,e⟩:=I.lstM hH
 obtain⟨z2,its2,n2,r2,hl2,e2⟩:=I.lstM hB
 have hsz:its.toArray.size+its2.toArray.size<=RU:=by rw [Of,Of]; omega
 have hlong:¬ (!its.toArray.isEmpty && Builtin.List.listTooLong (its.toArray.size+its2.toArray.size))=true:=by
  rw [DN hsz,OI]
  exact Og
 refine call_meets F.slot_list_extend ⟨_,e,rfl⟩ F.entry_list_extend (F.args_list_extend_2 _ _)
  (AutoSeq1.list_extend_list_list_0 l its.toArray n b its2.toArray n2 hlong (by rw [Of]; omega) ‹0›) ⟨e,e2,?_⟩
 refine⟨.non,_,I.lset (its':=its++its2) hH e (by simp) (r.append r2) ?_,rfl,q⟩
 rw [OA]
 omega

end


end L2

namespace Att
open PySem PySem.W PySem.Calls PyProof.Rows

theorem rk {P:Params} {h:RT}:∀ (ns:List Int) (vs:List RM),WellAll P h vs (ns.map WData.int)->IntsAre vs ns:=by
 intro ns
 induction ns with
 | nil =>
  intro vs w
  rw [OJ] at w
  cases w
  exact .nil
 | cons n ns ih =>
  intro vs w
  rw [Oi] at w
  cases w with
  | cons a b =>
   cases a
   exact .cons _ _ (ih _ b)

theorem B7 {l:OpenLaw} {n:Nat} (hn:l.most=some n) {P:Params} {h:RT} {args:List WData} {vals:List RM}
  (hpre:l.row.toRowW.claim.pre args=true) (hwl:WellAll P h vals args) :
  ∃ a vs ns,vals=[Value.ref a]/\args=[WData.list (ns.map WData.int)]/\h.get? a=some { cls:=.type "list",data:=.seq vs.toArray }/\IntsAre vs ns/\ns.length<=n:=by
 have hsh:WShape.hasAll [] args [.list .int]=true:=(pre_splitW hpre).1
 have hc:l.pre.holds [] { args:=args }=true:=(pre_splitW hpre).2
 obtain⟨d,r,rfl,h1,h2⟩:=hasAllW_cons hsh
 obtain rfl:=hasAllW_nil h2
 obtain⟨xs,rfl,h3⟩:=hasW_list h1
 obtain⟨ns,rfl⟩:=items_int h3
 have hlen:ns.length<=n:=by
  unfold OpenLaw.pre at hc
  have h4:(WTm.not (.lt (.lit (.int (n:Int))) (.len (.arg 0)))).holds [] { args:=[.list (ns.map .int)] }=true:=by
   have h4:=(holds_andW hc).1
   rw [hn] at h4
   exact h4
  have h5:=condW_of h4 (w_not (w_lt w_lit (w_len_list (w_arg rfl))))
  rw [Oj] at h5
  refine Nat.le_of_not_lt fun q=>?_
  have q':(n:Int) < ((ns.length:Nat):Int):=by omega
  first
   | (rw [decide_eq_true q'] at h5; exact absurd h5 (by decide))
   | (simp at h5; omega)
 cases hwl with
 | cons w1 w2 =>
  cases w2
  cases w1 with
  | list ho hall=>exact⟨_,_,ns,rfl,rfl,ho,rk ns _ hall,hlen⟩

theorem BM (l:OpenLaw) (args:List WData):l.row.toRowW.claim.post args (.bool true) args=true :=
 postW_of (r:=l.row.toRowW) (X:=(true==true))
  (show WShape.has [] (.bool true) .bool=true by first | rfl | decide | simp [WShape.has,WShape.arms,WShape.armsAll])
  (show (WTm.eq .res (.lit (.bool true))).value [] { args:=args,res:=some (.bool true),after:=args }=some (.bool (true==true)) from w_eq_bool (w_res rfl) w_lit) rfl

theorem GO {l:OpenLaw} {n:Nat} {q:RO} {loose:List Str} {XP:(Str->Option RM)->RT->Prop} {YP:RN->RT->Prop} {d:DefRec}
  (hn:l.most=some n) (hdf:d.params.defaults=[])
  (call:∀ (w:RN) (s₀ s₁:R0) (mg mb:Str->Option RM) (fa:RP) (o:Obj) (pm cd doc:RM) (a:RP) (vs:List RM) (ns:List Int),
   Ground q loose [] XP w s₀ mg mb s₁.heap->YP w s₁.heap ->
   s₁.heap.get? fa=some o->o.data=.func (docDef d.name d.params d.body d.scope pm cd doc)->s₁.heap.CodeRec cd d.name->mg d.name=some (.ref fa) ->
   s₁.heap.get? a=some { cls:=.type "list",data:=.seq vs.toArray }->IntsAre vs ns->ns.length<=n->s₁.gens=#[] ->
   Ss (model l.prog w) callerA (.call (.ref fa) ⟨[.ref a],[]⟩) (fun r s'=>r=.ok (.ret (.bool true))/\OldK s₁.heap s'.heap/\s'.os=s₁.os/\AllBare s'.gens) s₁) :
  WalkO q loose XP YP l.row.toRowW d [] (fun f vs=>PySem.call f vs):=by
 intro w s₀ s₁ mg mb G Y fa o pm cd doc dV kV ho hd hcd hD hmg hg args vals as hpre hlay hrd hwl hlo
 obtain rfl:dV=.none:=Dflts.none hD hdf
 obtain rfl:kV=.none:=Dflts.noKw hD
 obtain⟨a,vs,ns,rfl,rfl,hobj,hints,hlen⟩:=B7 hn hpre hwl
 refine enter_call (SD (call w s₀ s₁ mg mb fa o pm cd doc a vs ns G Y ho (fd_plain hd) hcd hmg hobj hints hlen hg) fun r s' hq=>?_)
 obtain⟨rfl,h2,h3,h4⟩:=hq
 exact⟨.inl ⟨.bool true,.bool true,[],rfl,fun _=>rfl,.bool true,BM l _,fun _=>⟨List.Pairwise.nil,fun _ hm=>(nomatch hm)⟩⟩,h2,h3,h4⟩

section
variable {prog:RO} {w:RN} {A:RZ} {E:RM->R0->Prop} {s:R0} {K:Frag}

end
end Att

namespace L2
open PySem PySem.Spec PyProof.Rows

theorem uP:∀ {vs:List RM} {ns:List Int},IntsAre vs ns->Vals (ns.map V.int) vs
 | _,_,.nil=>.nil
 | _,_,.cons n t h=>.cons ⟨t,rfl⟩ (uP h)

end L2

namespace L2
open PySem PySem.Spec PyProof.Rows

end L2

namespace L2
open PySem PySem.Spec PyProof.Rows

def inClass (s:R6) (j:Nat):R6:=match s with
 | .ClassDef _ _ _ body _ _ _ _ _ _ _=>body.getD j (.Pass ⟨0,0,0,0⟩)
 | _=>.Pass ⟨0,0,0,0⟩
def nK (s:R6):SG:=match s with
 | .FunctionDef _ a _ _ _ _ _ _ _ _=>a
 | _=>{ posonlyargs:=[],args:=[],vararg:=none,kwonlyargs:=[],kw_defaults:=[],kwarg:=none,defaults:=[] }
def fg (s:R6):List R6:=match s with
 | .FunctionDef _ _ b _ _ _ _ _ _ _=>b
 | _=>[]
def ax (s:R6):R1:=match s with
 | .FunctionDef _ _ _ _ _ _ sc _ _ _=>sc
 | _=>{ kind:=.function,names:=[],isGenerator:=false,isCoroutine:=false }

abbrev K8:zy:=fun _ _ _ _ _ _=>False
abbrev E0:XK:=fun _ _ _=>False
structure wj (K:QN) (x qual:Str) (st:R6) (f:RP) (fd:Sz):Prop where
 ex:∃ (oc:RM) (od:Option RP) (kV doc pm:RM) (an:Option RP) (cdv ct:RM) (osl:Array (Option RM)),
  fd=Q2 x qual (nK st) (fg st) (ax st) .none kV doc pm an cdv ct/\K.lookup f=some ⟨oc,od,.func fd,osl⟩/\Q3 K cdv qual=true
 kp:QZ K (.ref f)=true
section
variable {P:RO} {w:RN} {K:QN} {mg:Str->Option RM} {base:RT}
theorem wj.ok {x qual:Str} {st:R6} {f:RP} {fd:Sz} {N ps:List Str} {k:Nat} {sp:Sp} (F:wj K x qual st f fd) (S:aU N ps (ax st)) (len:∀ vs H Q E,sp vs H Q E->vs.length=ps.length)
  (hbody:∀ (cdv:RM) (A:RZ) (outer:List Env) (s:R0) (H:Hp) (vs:List V) (Q:VK) (E:XK),fX k (A.deeper (envOfC qual (ax st) s.heap.objs.size f cdv))->sp vs H Q E ->
   ∃ t,x4 (jW K8 P w K mg base N qual (ax st) f cdv A outer s H E).nox (fg st) t/\t { nx:=fun _ H'=>Q .non H',rt:=Q } (start N vs) H):jE P w K mg base K8 (k+1) f fd ps sp:=by
 obtain⟨oc,od,kV,doc,pm,an,cdv,ct,osl,rfl,lk,hcd⟩:=F.ex
 refine Et lk hcd S len fun A outer s H vs Q E hr hsp=>?_
 obtain⟨t,h,q⟩:=hbody cdv A outer s H vs Q E hr hsp
 exact⟨t,h.nox,q⟩
theorem wj.binds {x qual:Str} {st:R6} {f:RP} {fd:Sz} {ps:List Str} (F:wj K x qual st f fd)
  (h:∀ (kV doc pm:RM) (an:Option RP) (cdv ct:RM) (us:List RM),us.length=ps.length->bindArgs (Q2 x qual (nK st) (fg st) (ax st) .none kV doc pm an cdv ct) ⟨us,[]⟩=pure (ps.zip us)):Binds K fd ps []:=by
 obtain⟨oc,od,kV,doc,pm,an,cdv,ct,osl,rfl,lk,hcd⟩:=F.ex
 exact .all (h kV doc pm an cdv ct)
theorem bI {x qual:Str} {st:R6} {f:RP} {oc:RM} {od an:Option RP} {osl:Array (Option RM)} {kV doc pm cdv ct:RM} (l:K.lookup f=some ⟨oc,od,.func (Q2 x qual (nK st) (fg st) (ax st) .none kV doc pm an cdv ct),osl⟩)
  (c:Q3 K cdv qual=true) (k:QZ K (.ref f)=true):wj K x qual st f (Q2 x qual (nK st) (fg st) (ax st) .none kV doc pm an cdv ct):=⟨⟨oc,od,kV,doc,pm,an,cdv,ct,osl,rfl,l,c⟩,k⟩
end
section
variable {X:Cx}
theorem pv (i:Nat) {x:Str} {pos:Pos} (hN:X.N[i]?=some x:=by rfl) (hv:Hq X.env.scope x:=by first | exact Or.inl rfl | exact Or.inr (Or.inl rfl) | exact Or.inr (Or.inr rfl)) (hd:(x==("__debug__":Str))=false:=by decide)
  (hcd:(x==("__classdict__":Str))=false:=by decide):PE X (.Name x pos) (tJ i):=Ir hN hv hd hcd
end

theorem EZ {A B:Prop} (h:B):if false=true then A else B:=by
 rw [if_neg Og]
 exact h
theorem Gg {A B:Prop} (h:A):if true=true then A else B:=by
 rw [if_pos rfl]
 exact h
def bj (H H':Hp):Prop:=∀ b o,H b=some o->H' b=some o
theorem bj.refl (H:Hp):bj H H:=fun _ _ h=>h
theorem bj.trans {H H1 H2:Hp} (a:bj H H1) (b:bj H1 H2):bj H H2:=fun c o h=>b c o (a c o h)
theorem bj.free {H H':Hp} (e:bj H H') {l:RP} (h:H' l=Option.none):H l=Option.none:=by
 cases q:H l with
 | none=>rfl
 | some o =>
  rw [e l o q] at h
  cases h
theorem bj.seq {K:QN} {H H':Hp} {a:RP} {xs:List V} (e:bj H H') (h:oO K H a xs):oO K H' a xs:=by
 rcases h with (h | ⟨o,h⟩) | h
 ·exact .inl (.inl (e _ _ h))
 ·exact .inl (.inr ⟨o,e _ _ h⟩)
 ·exact .inr h

end L2
namespace L2
open PySem PySem.Spec PyProof.Rows

section
variable {κ:Type} [DecidableEq κ]
def jy (kvs:List (κ×V)) (k:κ):Option V:=(kvs.find? fun kv=>decide (kv.1=k)).map (·.2)
def putK (kvs:List (κ×V)) (k:κ) (v:V):List (κ×V) :=
 if (kvs.any fun kv=>decide (kv.1=k))=true then kvs.map (fun kv=>if kv.1=k then (kv.1,v) else kv) else kvs++[(k,v)]
theorem kB {p:κ×V} {r:List (κ×V)} {k:κ} (e:p.1=k):jy (p::r) k=some p.2:=by simp [jy,OL,e]
theorem jn {p:κ×V} {r:List (κ×V)} {k:κ} (e:¬ p.1=k):jy (p::r) k=jy r k:=by simp [jy,OL,e]
theorem sB (k:κ):∀ kvs:List (κ×V),(kvs.any fun kv=>decide (kv.1=k))=(jy kvs k).isSome
 | []=>rfl
 | p::r=>by
  rw [OM]
  by_cases e:p.1=k
  ·simp only [kB e,decide_eq_true e,Bool.true_or,Option.isSome_some]
  ·rw [jn e,decide_eq_false e,Bool.false_or]; exact sB k r
theorem jP (kvs:List (κ×V)) (k:κ) (v:V):(putK kvs k v).length<=kvs.length+1:=by
 unfold putK
 split
 ·rw [Oj]; omega
 ·rw [OA,Oh,OO]; omega
theorem tS.isSome_eq {o:Option V} {u:Option RM} (r:tS o u):o.isSome=u.isSome:=by
 cases o with
 | none=>cases u with
  | none=>rfl
  | some _=>exact(show False from r).elim
 | some _=>cases u with
  | none=>exact(show False from r).elim
  | some _=>rfl
theorem KV.val {kvs:List (κ×V)} {vs:List (κ×RM)} (r:KV kvs vs) (k:κ):tS (jy kvs k) (valueAt vs k):=by
 unfold KV at r
 induction r with
 | nil=>exact True.intro
 | @cons p q ps qs h t ih =>
  obtain⟨h1,h2⟩:=h
  by_cases e:p.1=k
  ·have e':q.1=k:=h1.symm.trans e
   have b:valueAt (q::qs) k=some q.2:=by simp [valueAt,OL,e']
   rw [kB e,b]; exact h2
  ·have e':¬ q.1=k:=fun z=>e (h1.trans z)
   have b:valueAt (q::qs) k=valueAt qs k:=by simp [valueAt,OL,e']
   rw [jn e,b]; exact ih
theorem KV.any {kvs:List (κ×V)} {vs:List (κ×RM)} (r:KV kvs vs) (k:κ):(kvs.any fun kv=>decide (kv.1=k))=vs.any fun kv=>decide (kv.1=k):=by
 unfold KV at r
 induction r with
 | nil=>rfl
 | cons h t ih=>rw [OM,OM,ih,h.1]
theorem KV.repl {kvs:List (κ×V)} {vs:List (κ×RM)} (r:KV kvs vs) (k:κ) {y:V} {u:RM} (ry:RelV y u) :
  KV (kvs.map fun kv=>if kv.1=k then (kv.1,y) else kv) (vs.map fun kv=>if kv.1=k then (kv.1,u) else kv):=by
 unfold KV at r ⊢
 induction r with
 | nil=>exact .nil
 | @cons p q ps qs h t ih =>
  rw [Oi,Oi]
  refine .cons ?_ ih
  obtain⟨h1,h2⟩:=h
  by_cases e:p.1=k
  ·rw [if_pos e,if_pos (h1.symm.trans e)]; exact⟨h1,ry⟩
  ·rw [if_neg e,if_neg (fun z=>e (h1.trans z))]; exact⟨h1,h2⟩
theorem KV.put {kvs:List (κ×V)} {vs:List (κ×RM)} (r:KV kvs vs) (k:κ) {y:V} {u:RM} (ry:RelV y u):KV (putK kvs k y) (stored vs k u):=by
 unfold putK stored
 rw [r.any k]
 by_cases e:(vs.any fun kv=>decide (kv.1=k))=true
 ·rw [if_pos e,if_pos e]; exact r.repl k ry
 ·rw [if_neg e,if_neg e]; exact Paired.snoc r ⟨rfl,ry⟩
theorem KV.keys {kvs:List (κ×V)} {vs:List (κ×RM)} (r:KV kvs vs):kvs.map (·.1)=vs.map (·.1):=by
 unfold KV at r
 induction r with
 | nil=>rfl
 | cons h t ih=>rw [Oi,Oi,ih,h.1]
theorem KV.length {kvs:List (κ×V)} {vs:List (κ×RM)} (r:KV kvs vs):kvs.length=vs.length:=Paired.length r
end


theorem Bh {P:RO} {w:RN} {k:Key} {u:RM} (r:RelV (kV k) u):(bZ P w).is k u=true:=by
 cases k with
 | inl i=>obtain⟨t,e⟩:=(show ∃ t,u=Value.int i t from r); subst e; exact xD P w i t
 | inr x=>obtain⟨t,e⟩:=(show ∃ t,u=Value.str x t from r); subst e; exact xK P w x t
theorem v5 {P:RO} {w:RN}:∀ {ks:List Key} {us:List RM},Vals (ks.map kV) us->ItemsAre (bZ P w) ks us
 | [],_,r=>by rw [OJ] at r; cases r; exact .nil
 | k::ks,_,r=>by
  rw [Oi] at r
  cases r with
  | cons h t=>exact .cons (Bh h) (v5 t)

abbrev KT (H:Hp):List (List Key×V)->List (List Key×RP×RM)->Prop:=RQ fun p q=>p.1=q.1/\H q.2.1=some (.tup (p.1.map kV))/\RelV p.2 q.2.2
theorem KT.val {H:Hp} {kvs:List (List Key×V)} {xs:List (List Key×RP×RM)} (r:KT H kvs xs) (k:List Key):tS (jy kvs k) ((atKey xs k).map (·.2)):=by
 induction r with
 | nil=>exact True.intro
 | @cons p q ps qs h t ih =>
  obtain⟨h1,_,h2⟩:=h
  by_cases e:p.1=k
  ·have e':q.1=k:=h1.symm.trans e
   have b:atKey (q::qs) k=some q.2:=by simp [atKey,OL,e']
   rw [kB e,b]; exact h2
  ·have e':¬ q.1=k:=fun z=>e (h1.trans z)
   have b:atKey (q::qs) k=atKey qs k:=by simp [atKey,OL,e']
   rw [jn e,b]; exact ih
theorem KT.repl {H:Hp} {kvs:List (List Key×V)} {xs:List (List Key×RP×RM)} (r:KT H kvs xs) (k:List Key) {y:V} {u:RM} (ry:RelV y u) :
  KT H (kvs.map fun kv=>if kv.1=k then (kv.1,y) else kv) (xs.map (putAt k u)):=by
 induction r with
 | nil=>exact .nil
 | @cons p q ps qs h t ih =>
  rw [Oi,Oi]
  refine .cons ?_ ih
  obtain⟨h1,h2,h3⟩:=h
  unfold putAt
  by_cases e:p.1=k
  ·rw [if_pos e,if_pos (h1.symm.trans e)]; exact⟨h1,h2,ry⟩
  ·rw [if_neg e,if_neg (fun z=>e (h1.trans z))]; exact⟨h1,h2,h3⟩
theorem KT.put {H:Hp} {kvs:List (List Key×V)} {xs:List (List Key×RP×RM)} (r:KT H kvs xs) (k:List Key) {b:RP} {y:V} {u:RM} (hb:H b=some (.tup (k.map kV))) (ry:RelV y u) :
  KT H (putK kvs k y) (storedH xs k b u):=by
 have e:(kvs.any fun kv=>decide (kv.1=k))=(atKey xs k).isSome:=by
  rw [sB,(r.val k).isSome_eq,OQ]
 unfold putK storedH
 rw [e]
 by_cases q:(atKey xs k).isSome=true
 ·rw [if_pos q,if_pos q]; exact r.repl k ry
 ·rw [if_neg q,if_neg q]; exact Paired.snoc r ⟨rfl,hb,ry⟩
theorem KT.keeps {H H':Hp} {kvs:List (List Key×V)} {xs:List (List Key×RP×RM)} (r:KT H kvs xs) (ht:∀ b ys,H b=some (.tup ys)->H' b=some (.tup ys)):KT H' kvs xs :=
 Paired.mapP r fun _ _ z=>⟨z.1,ht _ _ z.2.1,z.2.2⟩

section
variable {P:RO} {w:RN} {H:Hp} {h:RT} {a:RP}
theorem GP {u:HO} (ok:oT P w H h) (e:Rd H a u):cC P w H h a u:=e.ok ok
theorem Aw {kvs:List (Key×V)} (ok:oT P w H h) (e:Rd H a (.dK kvs)):kvs.length<=RU/\(a==sysModules)=false/\∃ vs,KV kvs vs/\h.DictOf (bZ P w) a vs :=
 show cC P w H h a (.dK kvs) from GP ok e
theorem GZ {kvs:List (Key×V)} (ok:oT P w H h) (e:H a=some (.dK kvs)):kvs.length<=RU/\(a==sysModules)=false/\∃ vs,KV kvs vs/\h.DictOf (bZ P w) a vs:=Aw ok (.inl e)
theorem oM {ks:List Key} (ok:oT P w H h) (e:H a=some (.tup (ks.map kV))):(tupleKind (bZ P w)).is h ks a:=by
 obtain⟨_,its,r,o,h1,h2,n,h3⟩:=(show cC P w H h a (.tup (ks.map kV)) from ok a _ e)
 exact⟨o,its.toArray,n,h1,h2,h3,by simpa using v5 r⟩
theorem xu {kvs:List (List Key×V)} (ok:oT P w H h) (e:Rd H a (.dT kvs)):kvs.length<=RU/\(a==sysModules)=false /\
  ∃ xs,KT H kvs xs/\h.DictOfH (tupleKind (bZ P w)) a xs:=by
 obtain⟨z,y,xs,r,o,es,ep,h1,h2,h3,h4,h5⟩:=(show cC P w H h a (.dT kvs) from GP ok e)
 refine⟨z,y,xs,r,o,es,ep,h1,h2,h3,h4,fun x hx=>?_,h5⟩
 have all:∀ {l:List (List Key×V)} {m:List (List Key×RP×RM)},KT H l m->∀ x∈m,(tupleKind (bZ P w)).is h x.1 x.2.1:=by
  intro l m q
  induction q with
  | nil=>intro x hx; exact nomatch hx
  | @cons p q ps qs hq t ih =>
   intro x hx
   rcases List.mem_cons.mp hx with e | hx
   ·subst e
    exact oM ok (by rw [<- hq.1]; exact hq.2.1)
   ·exact ih x hx
 exact all r x hx
theorem Hc {kvs:List (List Key×V)} (ok:oT P w H h) (e:H a=some (.dT kvs)):kvs.length<=RU/\(a==sysModules)=false /\
  ∃ xs,KT H kvs xs/\h.DictOfH (tupleKind (bZ P w)) a xs:=xu ok (.inl e)
end

def DG (H:Hp) (a:RP) (y:V) (r:Option V):Prop :=
 (∃ kvs k,Rd H a (.dK kvs)/\y=kV k/\r=jy kvs k)\/∃ kvs k b,Rd H a (.dT kvs)/\y=.ref b/\H b=some (.tup (k.map kV))/\r=jy kvs k
def IG (H:Hp) (a:RP) (y v:V) (H':Hp):Prop :=
 (∃ kvs k,H a=some (.dK kvs)/\y=kV k/\kvs.length < RU/\H'=upd H a (.dK (putK kvs k v))) \/
 ∃ kvs k b,H a=some (.dT kvs)/\y=.ref b/\H b=some (.tup (k.map kV))/\kvs.length < RU/\H'=upd H a (.dT (putK kvs k v))
theorem DG.t {H:Hp} {a b:RP} {kvs:List (List Key×V)} {k:List Key} (e:H a=some (.dT kvs)) (eb:H b=some (.tup (k.map kV))):DG H a (.ref b) (jy kvs k):=.inr ⟨kvs,k,b,.inl e,rfl,eb,rfl⟩
theorem IG.k {H:Hp} {a:RP} {kvs:List (Key×V)} {k:Key} {v:V} (e:H a=some (.dK kvs)) (hl:kvs.length < RU):IG H a (kV k) v (upd H a (.dK (putK kvs k v))):=.inl ⟨kvs,k,e,rfl,hl,rfl⟩
theorem IG.t {H:Hp} {a b:RP} {kvs:List (List Key×V)} {k:List Key} {v:V} (e:H a=some (.dT kvs)) (eb:H b=some (.tup (k.map kV))) (hl:kvs.length < RU) :
  IG H a (.ref b) v (upd H a (.dT (putK kvs k v))):=.inr ⟨kvs,k,b,e,rfl,eb,hl,rfl⟩


section
variable {X:Cx} {pins:List (RP×Obj)} {σ:St} {H:Hp} {s:R0} {a:RP} {y v:V} {u r:RM} {o:Option V} {A:RZ} {E:RM->R0->Prop}

theorem Inv.big (I:Inv X pins σ H s):sysModules < s.heap.objs.size:=by
 have h:RW < s.heap.objs.size:=(I.mod.glob.keeps I.bk).lt
 exact OS (by decide) h

theorem B1 {Q:RM->R0->Prop} (hu:A.units+1 < Sy) (I:Inv X pins σ H s) (g:DG H a y (some v)) (ry:RelV y u) (h:∀ w' s',Inv X pins σ H s'->RelV v w'->Q w' s') :
  R3 (model X.prog X.w) A (getItem (.ref a) u) Q E s:=by
 rcases g with ⟨kvs,k,e,ey,l⟩ | ⟨kvs,k,b,e,ey,eb,l⟩
 ·subst ey
  obtain⟨z,hd,vs,rel,dd⟩:=Aw I.hok e
  obtain⟨w',hw,rw'⟩:=tS.some_of (v:=v) (o:=valueAt vs k) (by rw [l]; exact rel.val k)
  exact wpAny_getItem_of (Bh ry) dd.mapOf hw (h w' _ (I.tok _) rw')
 ·subst ey
  cases (show u=Value.ref b from ry)
  obtain⟨z,hd,xs,rel,dd⟩:=xu I.hok e
  obtain⟨w',hw,rw'⟩:=tS.some_of (v:=v) (o:=(atKey xs k).map (·.2)) (by rw [l]; exact rel.val k)
  obtain⟨p,hp,hp2⟩:=Option.map_eq_some_iff.mp hw
  refine wpAny_getItem_heap (S4 hu) (oM I.hok eb) dd hp ?_
  rw [hp2]
  exact h w' _ (I.tok _) rw'
theorem AA {Q:RM->R0->Prop} (hu:A.units+1 < Sy) (I:Inv X pins σ H s) (g:DG H a y o) (ry:RelV y u) (h:∀ s',Inv X pins σ H s'->Q (.bool (!o.isSome)) s') :
  R3 (model X.prog X.w) A (Sn .NotIn u (.ref a)) Q E s:=by
 rcases g with ⟨kvs,k,e,ey,l⟩ | ⟨kvs,k,b,e,ey,eb,l⟩
 ·subst ey
  obtain⟨z,hd,vs,rel,dd⟩:=Aw I.hok e
  refine wpAny_notIn_of (Bh ry) hd dd.mapOf ?_
  rw [<- (rel.val k).isSome_eq,<- l]
  exact h _ (I.tok _)
 ·subst ey
  cases (show u=Value.ref b from ry)
  obtain⟨z,hd,xs,rel,dd⟩:=xu I.hok e
  refine wpAny_notIn_heap (S4 hu) (oM I.hok eb) hd dd ?_
  have q:=(rel.val k).isSome_eq
  rw [OQ] at q
  rw [<- q,<- l]
  exact h _ (I.tok _)
theorem nF {h':RT} {t':Nat} {ob:HO} (I:Inv X pins σ H s) (mu:Kg (H a)) (hs:Rj a s.heap h') (he:∃ q,h'.get? a=some q) (new:cC X.prog X.w (upd H a ob) h' a ob) :
  Inv X pins σ (upd H a ob) { s with heap:=h',toks:=t' } :=
 I.write (x:=a) (e:=a) mu (.inl rfl) (fun b q hb z=>(hs.2 b hb).trans z) he new
theorem IC {P:RO} {w:RN} {H':Hp} {h':RT} {kvs:List (Key×V)} {vs:List (Key×RM)} (z:kvs.length<=RU) (hd:(a==sysModules)=false) (rel:KV kvs vs) (dd:h'.DictOf (bZ P w) a vs) :
  cC P w H' h' a (.dK kvs):=⟨z,hd,vs,rel,dd⟩
theorem nq {H':Hp} {Q:Unit->R0->Prop} (hu:A.units+1 < Sy) (I:Inv X pins σ H s) (g:IG H a y v H') (ry:RelV y u) (rv:RelV v r) (h:∀ s',Inv X pins σ H' s'->Q () s') :
  R3 (model X.prog X.w) A (setItem (.ref a) u r) Q E s:=by
 rcases g with ⟨kvs,k,e,ey,l,eH⟩ | ⟨kvs,k,b,e,ey,eb,l,eH⟩
 ·subst ey eH
  obtain⟨z,hd,vs,rel,dd⟩:=GZ I.hok e
  have hz:vs.length<=RU:=by rw [<- rel.length]; exact z
  have hl:(putK kvs k v).length<=RU:=by have:=jP kvs k v; omega
  refine wpAny_setItem_pairs (hsz:=hz) (Bh ry) dd fun h' dd' hs=>h _ ?_
  have he:∃ q,h'.get? a=some q:=let ⟨q,_,_,hq,_⟩:=dd'; ⟨q,hq⟩
  exact nF I (by rw [e]; exact True.intro) hs he (IC hl hd (rel.put k rv) dd')
 ·subst ey eH
  cases (show u=Value.ref b from ry)
  obtain⟨z,hd,xs,rel,dd⟩:=Hc I.hok e
  have hz:xs.length<=RU:=by rw [<- Paired.length rel]; exact z
  have hl:(putK kvs k v).length<=RU:=by have:=jP kvs k v; omega
  refine wpAny_setItem_heap (hsz:=hz) (S4 hu) (oM I.hok eb) dd fun h' dd' hs=>h _ ?_
  obtain⟨q,es,ep,hq,h2,h3,h4,_,h5⟩:=dd'
  refine nF I (by rw [e]; exact True.intro) hs ⟨q,hq⟩ ⟨hl,hd,_,(rel.put k eb rv).keeps fun c ys ec=>?_,q,es,ep,hq,h2,h3,h4,h5⟩
  rw [aE (C2 ec e (fun z=>nomatch z))]
  exact ec
end



def Fi (i:R4):Prop:=∀ ov iv,subscripted i false ov iv=operate [ov,iv] (getItem ov iv)
theorem Fo {prog:RO} {w:RN} {A:RZ} {E:RM->R0->Prop} {s:R0} {env:Env} {value slice:R4} {pos:Pos} {T id:String} {Q:RM->R0->Prop}
  (hl:typeLookup (.type T) "__getitem__"=pure (some (.builtin id))) (hs:Fi slice)
  (h:R3 (model prog w) A (eval value env) (fun o s₁=>R3 (model prog w) A (eval slice env) (fun i s₂=>s₂.TypeIs o T/\R3 (model prog w) A (getItem o i) Q E s₂) E s₁) E s) :
  R3 (model prog w) A (eval (.Subscript value slice pos) env) Q E s:=by
 refine SZ (R7 h (fun o s₁ h₁=>R7 h₁ (fun i s₂ h₂=>?_) fun _ _ x=>x) fun _ _ x=>x)
 obtain⟨hT,h₂⟩:=h₂
 unfold subscriptTail
 refine Se ?_
 rw [getitemInPython_of_ne hT.not_modules]
 refine Se (wpAny_specialOf hT hl ?_)
 have fin:R3 (model prog w) A (subscripted slice false o i) (fun r s₃=>R3 (model prog w) A (letTemporaryGo value o r >>= fun _=>pure r) Q E s₃) E s₂:=by
  rw [hs o i]
  exact wpAny_operating (R7 h₂ (fun r s₃ h₃=>Se (wpAny_letTemporaryGo (Sd h₃))) fun _ _ x=>x)
 first
  | exact Sd (Se fin)
  | exact Se (Sd (Se fin))
  | exact Se fin

theorem yh {X:Cx} {pins:List (RP×Obj)} {σ:St} {H:Hp} {s:R0} {a:RP} {y:V} {o:Option V} (I:Inv X pins σ H s) (g:DG H a y o):s.TypeIs (.ref a) "dict":=by
 rcases g with ⟨kvs,k,e,_,_⟩ | ⟨kvs,k,b,e,_,_,_⟩
 ·obtain⟨_,_,vs,_,dd⟩:=Aw I.hok e
  exact dd.typeIs
 ·obtain⟨_,_,xs,_,dd⟩:=xu I.hok e
  exact dd.typeIs
def JM (td ty:TE):TE:=fun σ H Q=>td σ H fun x H1=>ty σ H1 fun y H2=>∃ a v,x=.ref a/\DG H2 a y (some v)/\Q v H2
section
variable {X:Cx} {o i e value:R4} {pos pos' tpos:Pos} {td ty tv:TE}
theorem Fv (hu:X.A.units+1 < Sy) (ho:PE X o td) (hi:PE X i ty) (hs:Fi i):PE X (.Subscript o i pos) (JM td ty):=by
 intro pins s σ H Q I h
 refine Fo PySem.F.slot_dict_getitem.lookup hs (eX (ho pins s σ H _ I h) fun u s1 ⟨x,H1,I1,rx,q1⟩=>eX (hi pins s1 σ H1 _ I1 q1) fun iv s2 ⟨y,H2,I2,ry,a,v,ex,g,q2⟩=>?_)
 subst ex
 obtain rfl:u=Value.ref a:=rx
 exact⟨yh I2 g,B1 hu I2 g ry fun w' s3 I3 rw'=>⟨v,H2,I3,rw',q2⟩⟩
end


theorem EJ {P:RO} {w:RN} {H:Hp} (h:RT) (hb:sysModules < h.objs.size):cC P w H (h.push { cls:=.type "dict",data:=.dict #[] }) h.objs.size (.dT []) :=
 ⟨Om _,beq_eq_false_iff_ne.mpr (Ne.symm (N0 hb)),[],.nil,_,#[],0,Rm _ rfl,⟨rfl,rfl,rfl⟩,rfl,rfl,OT⟩
def Il:TE:=fun _ H Q=>∀ p,H p=none->Q (.ref p) (upd H p (.dT []))
section
variable {X:Cx} {pos:Pos}
theorem C1:PE X (.Dict [] [] pos) Il:=fun pins s σ H Q I h =>
 wpAny_Dict_empty ⟨.ref s.heap.objs.size,_,I.laid (a:=s.heap.objs.size) (o:=.dT []) (t':=s.toks) (fun _ _ q=>Rl _ q) (Oa _) (EJ s.heap I.big),rfl,h _ (I.hok.fresh (Oa _))⟩
end





end L2
namespace L2
open PySem PySem.Spec PyProof.Rows
end L2
namespace L2
open PySem PySem.Spec PyProof.Rows

def dL (cells:List (Str×RP)):List (Str×SF)->List (Str×RP)->List (Str×RP)
 | [],acc=>acc
 | (n,k)::r,acc=>if k=.free then (match cells.lookup n with | some c=>dL cells r ((n,c)::acc) | none=>dL cells r acc) else dL cells r acc
theorem nw {cells:List (Str×RP)}:∀ (names:List (Str×SF)) (acc:List (Str×RP)),(∀ x c,acc.lookup x=some c->cells.lookup x=some c) ->
  ∀ x c,(dL cells names acc).lookup x=some c->cells.lookup x=some c
 | [],acc,h=>h
 | (n,k)::r,acc,h=>by
  unfold dL
  by_cases hk:k=.free
  ·rw [if_pos hk]
   cases e:cells.lookup n with
   | none=>exact nw r acc h
   | some c0 =>
    refine nw r _ fun x c q=>?_
    rw [OU] at q
    cases hx:x==n with
    | true =>
     rw [hx] at q
     have e1:x=n:=by simpa using hx
     cases q
     rw [e1]; exact e
    | false=>rw [hx] at q; exact h x c q
  ·rw [if_neg hk]; exact nw r acc h
theorem lr {cells:List (Str×RP)}:∀ (names:List (Str×SF)) (acc:List (Str×RP)) (x:Str),(acc.lookup x).isSome=true->((dL cells names acc).lookup x).isSome=true
 | [],acc,x,h=>h
 | (n,k)::r,acc,x,h=>by
  unfold dL
  by_cases hk:k=.free
  ·rw [if_pos hk]
   cases e:cells.lookup n with
   | none=>exact lr r acc x h
   | some c0 =>
    refine lr r _ x ?_
    rw [OU]
    cases hx:x==n with
    | true=>rfl
    | false=>exact h
  ·rw [if_neg hk]; exact lr r acc x h
theorem j9 {cells:List (Str×RP)}:∀ (names:List (Str×SF)) (acc:List (Str×RP)) (x:Str),(x,NameKind.free)∈names->(∃ c,cells.lookup x=some c)->((dL cells names acc).lookup x).isSome=true
 | [],acc,x,h,_=>absurd h (by simp)
 | (n,k)::r,acc,x,h,hc=>by
  unfold dL
  rcases List.mem_cons.mp h with e | h
  ·cases e
   rw [if_pos rfl]
   obtain⟨c,e⟩:=hc
   rw [e]
   refine lr r _ _ ?_
   rw [OU]
   simp
  ·by_cases hk:k=.free
   ·rw [if_pos hk]
    cases e:cells.lookup n with
    | none=>exact j9 r acc x h hc
    | some c0=>exact j9 r _ x h hc
   ·rw [if_neg hk]; exact j9 r acc x h hc
theorem oV {scope:R1} {env:Env} (h:∀ p∈scope.names,p.2=.free->∃ c,env.cells.lookup p.1=some c):closureFor scope env=pure (dL env.cells scope.names []):=by
 have go:∀ (names:List (Str×SF)) (acc:List (Str×RP)),(∀ p∈names,p.2=.free->∃ c,env.cells.lookup p.1=some c) ->
   (forIn names acc fun x cs=>(match x with | (name,kind)=>if (kind==NameKind.free)=true then do let a <- cellOf env name; pure (ForInStep.yield ((name,a)::cs)) else pure (ForInStep.yield cs):Sem (ForInStep (List (Str×RP)))))=pure (dL env.cells names acc):=by
  intro names
  induction names with
  | nil=>intro acc _; rfl
  | cons p r ih =>
   intro acc hp
   obtain⟨n,k⟩:=p
   rw [OV]
   by_cases hk:k=.free
   ·obtain⟨c,e⟩:=hp (n,k) N4 hk
    subst hk
    have e2:cellOf env n=pure c:=by unfold cellOf; rw [e]
    simp only [beq_self_eq_true,if_true,e2,pure_bind]
    rw [ih _ fun q hq=>hp q (N5 _ hq)]
    conv=>rhs; rw [dL]
    simp [e]
   ·have hb:(k==NameKind.free)=false:=by simpa using hk
    simp only [hb,OW,if_false,pure_bind]
    rw [ih _ fun q hq=>hp q (N5 _ hq)]
    conv=>rhs; rw [dL,if_neg hk]
 have:=go scope.names [] h
 unfold closureFor
 simp only []
 rw [this]
 rfl

def cJ (X:Cx) (scope:R1) (N:List Str) (cl:List (Str×RP)) (C:RP) (fp:List RP) (s:R0) (H:Hp) (E:RM->R0->Prop):Cx where
 prog:=X.prog
 w:=X.w
 K:=X.K
 mg:=X.mg
 base:=X.base
 A:=X.A
 N:=N
 s₀:=s
 H₀:=H
 env:=compEnvC scope cl C X.env
 outer:=X.stack
 stack:=X.stack
 ex:=fp
 fn:=fun _=>false
 calm:=X.calm
 pn:=[]
 xe:=E

def xh (XN N:List Str) (names:List (Str×SF)) (ix:List (Option Nat)):Bool :=
 decide (ix.length=N.length) && (N.zip ix).all fun p=>match p.2 with
  | some i=>decide (XN[i]?=some p.1) && decide (names.lookup p.1=some .free)
  | none=>true
def inBlock (ix:List (Option Nat)) (σ:St):St:=ix.map fun o=>match o with
 | some i=>(σ[i]?).getD none
 | none=>none
theorem xh.len {XN N:List Str} {names:List (Str×SF)} {ix:List (Option Nat)} (h:xh XN N names ix=true):ix.length=N.length:=by
 unfold xh at h
 rw [OD] at h
 exact of_decide_eq_true h.1
theorem xh.at_ {XN N:List Str} {names:List (Str×SF)} {ix:List (Option Nat)} (h:xh XN N names ix=true) {j i:Nat} {x:Str} (h1:N[j]?=some x) (h2:ix[j]?=some (some i)):XN[i]?=some x/\names.lookup x=some .free:=by
 unfold xh at h
 rw [OD] at h
 have hm:(x,some i)∈N.zip ix:=by
  have e:(N.zip ix)[j]?=some (x,some i):=by rw [List.getElem?_zip_eq_some]; exact⟨h1,h2⟩
  exact Oz e
 have q:=List.all_eq_true.mp h.2 _ hm
 simp only [OD] at q
 exact⟨of_decide_eq_true q.1,of_decide_eq_true q.2⟩

theorem md {env:Env}:∀ {names:List (Str×SF)} {x:Str} {k:SF},
  (names.map fun (n,k)=>if (k==NameKind.free && env.scope.kind==.function && env.kindOf n==some .cell) then (n,NameKind.cell) else (n,k)).lookup x=some k ->
  names.lookup x=some k\/(names.lookup x=some .free/\k=.cell)
 | [],_,_,h=>by simp at h
 | (n,k0)::r,x,k,h=>by
  have ih:=@md env r x k
  replace h:List.lookup x ((if (k0==NameKind.free && env.scope.kind==.function && env.kindOf n==some .cell)=true then (n,NameKind.cell) else (n,k0))::(r.map fun (n,k)=>if (k==NameKind.free && env.scope.kind==.function && env.kindOf n==some .cell) then (n,NameKind.cell) else (n,k)))=some k:=h
  by_cases hc:(k0==NameKind.free && env.scope.kind==.function && env.kindOf n==some .cell)=true
  ·rw [if_pos hc] at h
   have hk0:k0=.free:=by
    simp only [OD] at hc
    simpa using hc.1.1
   cases hx:x==n with
   | true =>
    simp only [OU,hx] at h
    simp only [OU,hx]
    cases h
    exact .inr ⟨by rw [hk0],rfl⟩
   | false =>
    simp only [OU,hx] at h ⊢
    exact ih h
  ·rw [if_neg hc] at h
   cases hx:x==n with
   | true =>
    simp only [OU,hx] at h ⊢
    exact .inl h
   | false =>
    simp only [OU,hx] at h ⊢
    exact ih h
def Hh (X:Cx) (ifs:List R4) (t:TT):Prop :=
 ∀ (pins:List (RP×Obj)) (s:R0) (σ:St) (H:Hp) (Q:Bool->Hp->Prop),Inv X pins σ H s->t σ H Q ->
  R3 (model X.prog X.w) X.A (forIn ifs true fun c r=>if r=true then do let ok <- isTrue c X.env (eval c X.env); pure (ForInStep.yield ok) else pure (ForInStep.yield r)) (TP X pins σ Q) X.xe s
def Ju:TT:=fun _ H Q=>Q true H
theorem Fg {X:Cx}:Hh X [] Ju:=fun _ _ _ H _ I h=>wpAny_tests_nil ⟨H,I,h⟩
theorem Gj {X:Cx} {c:R4} {t:TT} (h:PT X c t):Hh X [c] t:=fun pins s σ H Q I q=>wpAny_tests_one (h pins s σ H Q I q)

theorem mN {prog:RO} {w:RN} {A:RZ} {R:Result->R0->Prop} {s:R0} {elt target iter:R4} {ifs:List R4} {scope:R1} {pos:Pos} {it acc:RM} {env:Env} (I:Nat->R0->Prop)
  (turn:∀ n s,I n s->R3 (model prog w) A (pyNext it) (fun r s₁=>match r with
   | none=>R (.ok .next) s₁
   | some v=>R3 (model prog w) A (letOwnedTupleGo target it v) (fun _ s₁'=>R3 (model prog w) A (assign target env v) (fun _ s₂ =>
     R3 (model prog w) A (forIn ifs true fun c r=>if r=true then do let ok <- isTrue c env (eval c env); pure (ForInStep.yield ok) else pure (ForInStep.yield r)) (fun ok s₃ =>
      if ok=true then R3 (model prog w) A (eval elt env) (fun x s₄ =>
       R3 (model prog w) A (call (.builtin "list.append") [acc,x]) (fun _ s₅=>∃ m,m < n/\I m s₅) (notedBy (model prog w) A env fun e s'=>R (.error e) s') s₄) (notedBy (model prog w) A env fun e s'=>R (.error e) s') s₃
      else ∃ m,m < n/\I m s₃) (notedBy (model prog w) A env fun e s'=>R (.error e) s') s₂) (notedBy (model prog w) A env fun e s'=>R (.error e) s') s₁') (notedBy (model prog w) A env fun e s'=>R (.error e) s') s₁) (notedBy (model prog w) A env fun e s'=>R (.error e) s') s)
  (n:Nat) (h:I n s) :
  Ss (model prog w) A (.compLoop (.ListComp elt [⟨target,iter,ifs,0⟩] scope pos) 0 it acc env) R s:=by
 refine codeAny_loop rfl I (fun n s hI=>?_) n h
 show R3 _ A ((compTurn (.ListComp elt [⟨target,iter,ifs,0⟩] scope pos) 0 it acc env).onRaise (fun x=>do noteFrame x env; theTreesLotGoes x)) _ _ s
 refine wpAny_noted ?_
 rw [compTurn_list]
 refine Se (S5 (Se (R7 (turn n s hI) (fun r s₁ h₁=>?_) fun _ _ h'=>h')))
 cases r with
 | none=>exact Sd h₁
 | some v =>
  refine Se (R7 h₁ (fun _ s₁' h₁'=>?_) fun _ _ h'=>h')
  refine Se (R7 h₁' (fun _ s₂ h₂=>Se (R7 h₂ (fun ok s₃ h₃=>?_) fun _ _ h'=>h')) fun _ _ h'=>h')
  cases ok with
  | false=>exact Sd ⟨rfl,h₃⟩
  | true =>
   exact Se (Se (R7 h₃ (fun x s₄ h₄=>Se (R7 h₄ (fun _ s₅ h₅=>Sd (Sd ⟨rfl,h₅⟩)) fun _ _ h'=>h')) fun _ _ h'=>h'))

def KQ (wi:TI) (g:TG) (tc:TT) (te:TE) (ix:List (Option Nat)):TE:=fun σ H Q =>
 wi σ H fun J H1=>∀ D,H1 D=none->∃ W:Nat->Nat->St->Hp->Prop,(∃ m,W 0 m (inBlock ix σ) (upd H1 D (.lst []))) /\
  ∀ i m σ' H',W i m σ' H'->(J.stop i H'/\Q (.ref D) H') \/
   (J.go i H'/\∀ x H2,J.yld i H' x H2->g x σ' H2 fun σ3 H3=>tc σ3 H3 fun b H4 =>
    if b=true then te σ3 H4 fun v H5=>∃ acc,H5 D=some (.lst acc)/\acc.length < RU/\∃ m',m' < m/\W (i+1) m' σ3 (upd H5 D (.lst (acc++[v])))
    else ∃ m',m' < m/\W (i+1) m' σ3 H4)

section
variable {X:Cx} {elt tg iter:R4} {ifs:List R4} {scope:R1} {pos:Pos} {N:List Str} {ix:List (Option Nat)} {wi:TI} {g:TG} {tc:TT} {te:TE}

theorem tR {pins:List (RP×Obj)} {σ:St} {s2:R0} {H2:Hp} {it:RP} {fp:List RP} {tn:Nat->RT->Prop} {J:It} {Q:V->Hp->Prop} {E:RM->R0->Prop} {RR:RM->RP->Result->R0->Prop}
    (hc:X.calm=true) (hcell:∀ y∈scope.names,y.2≠.cell) (hkind:scope.kind=.function)
    (hfr:∀ y∈scope.names,y.2=.free->X.env.scope.names.lookup y.1=some .cell\/X.env.scope.names.lookup y.1=some .free)
    (hix:xh X.N N scope.names ix=true)
    (hb:∀ cl C fp s H E,PG (cJ X scope N cl C fp s H E) tg g/\Hh (cJ X scope N cl C fp s H E) ifs tc/\PE (cJ X scope N cl C fp s H E) elt te)
    (I2:Inv X pins σ H2 s2) (T:Turn X.prog X.w X.K tg J fp it tn) (st2:tn 0 s2.heap) (f2:∀ b∈fp,uB X pins H2 b)
    (q:∀ D,H2 D=none->∃ W:Nat->Nat->St->Hp->Prop,(∃ m,W 0 m (inBlock ix σ) (upd H2 D (.lst []))) /\
      ∀ i m σ' H',W i m σ' H'->(J.stop i H'/\Q (.ref D) H') \/
        (J.go i H'/\∀ x H3,J.yld i H' x H3->g x σ' H3 fun σ3 H3=>tc σ3 H3 fun b H4 =>
          if b=true then te σ3 H4 fun v H5=>∃ acc,H5 D=some (.lst acc)/\acc.length < RU/\∃ m',m' < m/\W (i+1) m' σ3 (upd H5 D (.lst (acc++[v])))
          else ∃ m',m' < m/\W (i+1) m' σ3 H4))
    (hRR:∀ D C H' s' m,H2 D=none->s2.heap.objs.size<=C->H' C=none->s'.heap.Ns C m->(∀ h',Rj C s'.heap h'->Inv X pins σ H' { s' with heap:=h' })->Q (.ref D) H'->RR (.ref D) C (.ok .next) s') :
    R3 (model X.prog X.w) X.A (newList []) (fun acc s₃=>R3 (model X.prog X.w) X.A (newFunctionEnv scope X.env.globals (dL X.env.cells scope.names []) [] X.env.qual none .none (some X.env)) (fun cenv s₄ =>
      Ss (model X.prog X.w) X.A (.compStart (.ListComp elt [⟨tg,iter,ifs,0⟩] scope pos) 0 (.ref it) acc { cenv with scope:=relabel scope X.env }) (RR acc cenv.locals) s₄) E s₃) E s2:=by
  refine SW (wpAny_newFunctionEnv hcell (by intro y hy; simp at hy) (fun h₁ hns₁ hsb₁=>?_) hkind)
  dsimp only at hns₁ hsb₁ ⊢
  have I3:Inv X pins σ (upd H2 s2.heap.objs.size (.lst [])) { s2 with heap:=s2.heap.push { cls:=.type "list",dict:=none,data:=.seq ([]:List RM).toArray },toks:=s2.toks }:=I2.lnew (its:=[]) (t':=s2.toks) .nil (Om _)
  generalize hs3:({ s2 with heap:=s2.heap.push { cls:=.type "list",dict:=none,data:=.seq ([]:List RM).toArray },toks:=s2.toks }:R0)=s3 at I3
  have eh3:s2.heap.push { cls:=.type "list",dict:=none,data:=.seq ([]:List RM).toArray }=s3.heap:=by rw [<- hs3]
  rw [eh3] at hns₁ hsb₁ ⊢
  have hC3:s3.heap.objs.size=s2.heap.objs.size+1:=by rw [<- eh3,Rn]
  have hD:H2 s2.heap.objs.size=none:=I2.fresh
  obtain⟨W,⟨m0,w0⟩,turn⟩:=q s2.heap.objs.size hD
  generalize hH3:upd H2 s2.heap.objs.size (.lst [])=H3 at I3 w0
  have old:∀ b o,s3.heap.get? b=some o->h₁.get? b=some o:=fun b o e=>hsb₁.extBut b o (N0 (Rh e)) (Rl _ e)
  have fpH3:∀ b∈fp,H3 b=none:=fun b hb'=>by
    rw [<- hH3,aE]
    · exact(f2 b hb').1
    · obtain⟨o,e,_⟩:=T.obj _ _ st2 b hb'
      exact N0 (Rh e)
  have fpLt:∀ b∈fp,b < s3.heap.objs.size:=fun b hb'=>by
    obtain⟨o,e,_⟩:=T.obj _ _ st2 b hb'
    rw [hC3]; exact OX (Rh e)
  have hfree:∀ p∈scope.names,p.2=.free->∃ c,X.env.cells.lookup p.1=some c:=fun p hp hk=>I2.ok.has p.1 (hfr p hp hk)
  have csub:∀ x c,(dL X.env.cells scope.names []).lookup x=some c->X.env.cells.lookup x=some c:=nw scope.names [] (fun x c e=>by simp at e)
  have names':∀ x k,(relabel scope X.env).names.lookup x=some k->scope.names.lookup x=some k\/(scope.names.lookup x=some .free/\k=.cell):=fun x k h=>md h
  have ok:(cJ X scope N (dL X.env.cells scope.names []) s3.heap.objs.size fp s3 H3 (notedBy (model X.prog X.w) X.A (compEnvC scope (dL X.env.cells scope.names []) s3.heap.objs.size X.env) fun e s'=>RR (.ref s2.heap.objs.size) s3.heap.objs.size (.error e) s')).Ok :=
    { mod:=I3.ok.mod
      kind:=hkind
      glob:=I3.ok.glob
      blt:=I3.ok.blt
      above:=Oa _
      inj:=fun x y c h1 h2=>I3.ok.inj x y c (csub x c h1) (csub y c h2)
      has:=fun x hx=>by
        have fr:scope.names.lookup x=some .free:=by
          rcases hx with hx | hx
          · rcases names' x .cell hx with h | ⟨h,_⟩
            · exact absurd rfl (hcell _ (PySem.mem_of_lookup h))
            · exact h
          · rcases names' x .free hx with h | ⟨_,h⟩
            · exact h
            · cases h
        have hm:=PySem.mem_of_lookup fr
        exact Option.isSome_iff_exists.mp (j9 scope.names [] x hm (hfree _ hm rfl))
      cab:=fun x c h _=>by cases h
      hd:=I3.ok.hd
      frames:=I3.ok.frames
      stk:=.inl rfl
      exf:=fun b hb'=>⟨N0 (fpLt b hb'),fun x c e=>(f2 b hb').2.2.2.2.1 x c (csub x c e)⟩
      bs:=fun b o e=>I3.bs b o e
      bsz:=N1 I3.ok.bsz I3.sz
      noex:=fun b o e hb'=>by
        obtain⟨_,_,_,h4,_⟩:=f2 b hb'
        rcases h4 with h4 | h4
        · exact I3.ok.noex b o e h4
        · exact absurd (NY (Rh (I3.ok.bs b o e).1) h4) (NZ _)
      exfs:=fun b hb' hs=>by
        obtain⟨_,h2,h3,_⟩:=f2 b hb'
        rcases List.mem_cons.mp (I3.stkSub b hs) with e | e
        · exact h2 e
        · exact h3 e
      funs:=I3.stack
      frf:=fun b hb'=>I3.stkFree b hb' }
  generalize hE:(notedBy (model X.prog X.w) X.A (compEnvC scope (dL X.env.cells scope.names []) s3.heap.objs.size X.env) fun e s'=>RR (.ref s2.heap.objs.size) s3.heap.objs.size (.error e) s')=E' at ok
  obtain⟨hg,htc,hel⟩:=hb (dL X.env.cells scope.names []) s3.heap.objs.size fp s3 H3 E'
  have Istart:∀ tk,Inv (cJ X scope N (dL X.env.cells scope.names []) s3.heap.objs.size fp s3 H3 E') [] (inBlock ix σ) H3 { s3 with heap:=h₁,toks:=tk }:=fun tk=>by
    refine⟨ok,rfl,I3.bare,Un.kept old,⟨_,hns₁,fun j x v e1 e2 _=>?_⟩,fun x c e=>?_,I3.fresh,fun x c e=>I3.freeC x c (csub x c e),fun p hp=>absurd (show p∈([]:List (RP×Obj)) from hp) (by simp),I3.hok.kept old,?_⟩
    · -- a captured name
      unfold inBlock at e2
      rw [Oy] at e2
      cases q1:ix[j]? with
      | none=>rw [q1] at e2; simp at e2
      | some o =>
        rw [q1] at e2
        cases o with
        | none=>simp at e2
        | some i =>
          obtain⟨n1,n2⟩:=xh.at_ hix e1 q1
          have e2':(σ[i]?).getD none=some v:=Option.some.inj e2
          have e3:σ[i]?=some (some v):=by
            cases q2:σ[i]? with
            | none=>rw [q2] at e2'; simp at e2'
            | some o2=>rw [q2] at e2'; simpa using e2'
          obtain⟨m,hn,hl⟩:=I3.loc
          have hm:=PySem.mem_of_lookup n2
          have hk:=hfr _ hm rfl
          have hv:Hq X.env.scope x:=by
            rcases hk with hk | hk
            · exact .inr (.inl hk)
            · exact .inr (.inr hk)
          obtain⟨u,r,l⟩:=hl i x v n1 e3 hv
          refine⟨u,r,.inr ?_⟩
          rcases l with ⟨kl,_⟩ | ⟨_,c,hcx,hcell'⟩
          · have kl':X.env.scope.names.lookup x=some .local:=kl
            rcases hk with hk | hk
            · rw [kl'] at hk; cases hk
            · rw [kl'] at hk; cases hk
          · obtain⟨c',hc'⟩:=Option.isSome_iff_exists.mp (j9 (cells:=X.env.cells) scope.names [] x hm ⟨c,hcx⟩)
            have ec:c'=c:=Option.some.inj ((csub x c' hc').symm.trans hcx)
            subst ec
            refine⟨?_,c',hc',?_⟩
            · -- its kind in the block: cell or free
              show (relabel scope X.env).names.lookup x=some .cell\/(relabel scope X.env).names.lookup x=some .free
              have gen:∀ names:List (Str×SF),names.lookup x=some .free->((names.map fun (n,k)=>if (k==NameKind.free && X.env.scope.kind==.function && X.env.kindOf n==some .cell) then (n,NameKind.cell) else (n,k)).lookup x=some .cell\/(names.map fun (n,k)=>if (k==NameKind.free && X.env.scope.kind==.function && X.env.kindOf n==some .cell) then (n,NameKind.cell) else (n,k)).lookup x=some .free):=by
                intro names
                induction names with
                | nil=>intro h; simp at h
                | cons p r ih =>
                  obtain⟨n,k⟩:=p
                  intro h
                  show List.lookup x ((if (k==NameKind.free && X.env.scope.kind==.function && X.env.kindOf n==some .cell)=true then (n,NameKind.cell) else (n,k))::_)=_\/List.lookup x ((if (k==NameKind.free && X.env.scope.kind==.function && X.env.kindOf n==some .cell)=true then (n,NameKind.cell) else (n,k))::_)=_
                  cases hx:x==n with
                  | true =>
                    simp only [OU,hx] at h
                    by_cases hcc:(k==NameKind.free && X.env.scope.kind==.function && X.env.kindOf n==some .cell)=true
                    · rw [if_pos hcc]; left; simp only [OU,hx]
                    · rw [if_neg hcc]; right; simp only [OU,hx]; exact h
                  | false =>
                    simp only [OU,hx] at h
                    by_cases hcc:(k==NameKind.free && X.env.scope.kind==.function && X.env.kindOf n==some .cell)=true
                    · rw [if_pos hcc]; simp only [OU,hx]; exact ih h
                    · rw [if_neg hcc]; simp only [OU,hx]; exact ih h
              exact gen scope.names n2
            · exact hcell'.keeps old
    · obtain⟨v,z⟩:=I3.cell x c (csub x c e)
      exact⟨v,z.keeps old⟩
    · show (inBlock ix σ).length=N.length
      unfold inBlock
      rw [Oj]
      exact xh.len hix
  have stat:∀ {H':Hp},(∀ b∈fp,H' b=none)->∀ b∈fp,uB (cJ X scope N (dL X.env.cells scope.names []) s3.heap.objs.size fp s3 H3 E') [] H' b:=fun hn b hb' =>
    ⟨hn b hb',(ok.exf b hb').1,ok.exfs b hb',.inl hb',(ok.exf b hb').2,fun p hp=>absurd (show p∈([]:List (RP×Obj)) from hp) (by simp)⟩
  have tn1:tn 0 h₁:=T.keep _ _ _ st2 fun b hb' o e=>old b o (by rw [<- eh3]; exact Rl _ e)
  have loop:∀ tk,Ss (model X.prog X.w) X.A (.compLoop (.ListComp elt [⟨tg,iter,ifs,0⟩] scope pos) 0 (.ref it) (.ref s2.heap.objs.size) (compEnvC scope (dL X.env.cells scope.names []) s3.heap.objs.size X.env))
      (RR (.ref s2.heap.objs.size) s3.heap.objs.size) { s3 with heap:=h₁,toks:=tk }:=by
    intro tk
    refine mN (fun n s'=>∃ i σ' H',Inv (cJ X scope N (dL X.env.cells scope.names []) s3.heap.objs.size fp s3 H3 E') [] σ' H' s'/\tn i s'.heap/\(∀ b∈fp,H' b=none)/\W i n σ' H') ?_ m0 ⟨0,_,_,Istart tk,tn1,fpH3,w0⟩
    rintro n s5 ⟨i,σ5,H5,I5,st5,fr5,w5⟩
    rw [hE]
    rcases turn i n σ5 H5 w5 with ⟨stop,qn⟩ | ⟨go,step⟩
    · refine eX (T.done (cJ X scope N (dL X.env.cells scope.names []) s3.heap.objs.size fp s3 H3 E') rfl rfl rfl hc i [] s5 σ5 H5 _ I5 (stat fr5) st5 stop) fun r s6 ⟨hr,I6⟩=>?_
      subst hr
      obtain⟨m6,hn6,_⟩:=I6.loc
      refine hRR s2.heap.objs.size s3.heap.objs.size H5 s6 m6 hD (by rw [hC3]; exact Oq _) I6.free hn6 (fun h' sb=>?_) qn
      have ne:∀ b o,s3.heap.get? b=some o->b≠s3.heap.objs.size:=fun b o e=>N0 (Rh e)
      refine I3.call' (s':={ s6 with heap:=h' }) (H':=H5) (ch:=fp) I6.os ⟨fun b o e n hb' hx=>?_,fun b o e n hb' hx=>?_,fun b o e n hx=>?_,fun b o e hx=>?_,I6.base.tups,I6.base.frzs,I6.base.tbls⟩ ?_ I6.bare fun b hb'=>?_
      · exact(sb.2 b (ne b o e)).trans (I6.base.keep b o e n hb' hx)
      · obtain⟨sl,e1⟩:=I6.base.slot b o e n hb' hx
        exact⟨sl,(sb.2 b (ne b o e)).trans e1⟩
      · exact I6.base.free b o e n hx
      · obtain⟨o',e1⟩:=I6.base.there b o e hx
        exact⟨o',(sb.2 b (ne b o e)).trans e1⟩
      · intro b ob e
        have hfreeC:H5 s3.heap.objs.size=none:=I6.free
        refine(I6.hok b ob e).stay (fun c v hcc q=>(sb.2 c ?_).trans q) (fun _ q=>q) fun _ _ q=>q
        rintro rfl
        rcases hcc with rfl | hcc
        · rw [hfreeC] at e; cases e
        · rw [hfreeC] at hcc; cases hcc
      · obtain⟨_,h2',_,h4',h5',h6'⟩:=f2 b hb'
        exact⟨h4',h2',h5',h6'⟩
    · refine eX (T.item (cJ X scope N (dL X.env.cells scope.names []) s3.heap.objs.size fp s3 H3 E') rfl rfl rfl hc i [] s5 σ5 H5 _ I5 (stat fr5) st5 go) fun r s6 ⟨u,hr,h6⟩=>?_
      subst hr
      refine eX h6 fun _ s7 ⟨x,H7,I7,r7,y7,st7,fr7⟩=>?_
      have I7':=I7.pinned (stat fr7) (T.obj _ _ st7)
      refine eX (hg _ s7 σ5 H7 x u _ I7' r7 (step x H7 y7)) fun _ s8 ⟨σ8,H8,I8,q8⟩=>?_
      refine eX (htc _ s8 σ8 H8 _ I8 q8) fun b s9 ⟨H9,I9,q9⟩=>?_
      have again:∀ {σ':St} {H':Hp} {s':R0} {m':Nat},Inv (cJ X scope N (dL X.env.cells scope.names []) s3.heap.objs.size fp s3 H3 E') ([]++uh fp s7.heap) σ' H' s'->m' < n->W (i+1) m' σ' H' ->
          ∃ m,m < n/\∃ i σ' H',Inv (cJ X scope N (dL X.env.cells scope.names []) s3.heap.objs.size fp s3 H3 E') [] σ' H' s'/\tn i s'.heap/\(∀ b∈fp,H' b=none)/\W i m σ' H':=fun {σ' H' s' m'} I' hm w'=>by
        refine⟨m',hm,i+1,σ',H',I'.unpinned,T.keep _ _ _ st7 fun b hb' o e=>(I'.pin (b,o) (Oc _ (Oc _ (lF hb' e)))).1,fun b hb'=>?_,w'⟩
        obtain⟨o,e,d⟩:=T.obj _ _ st7 b hb'
        exact(I'.pin (b,o) (Oc _ (Oc _ (lF hb' e)))).2.1
      cases b with
      | false =>
        rw [if_neg Og] at q9 ⊢
        obtain⟨m',hm,w9⟩:=q9
        exact again I9 hm w9
      | true =>
        rw [if_pos rfl] at q9 ⊢
        refine eX (hel _ s9 σ8 H9 _ I9 q9) fun y s10 ⟨v,H10,I10,r10,q10⟩=>?_
        obtain⟨acc,ha,hz,m',hm,w10⟩:=q10
        refine eX (dH _ s10 σ8 H10 (.ref s2.heap.objs.size) [v] (.ref s2.heap.objs.size) [y] (fun _ H'=>H'=upd H10 s2.heap.objs.size (.lst (acc++[v]))) I10 rfl (.cons r10 .nil) ⟨_,acc,v,rfl,rfl,ha,hz,rfl⟩) fun _ s11 ⟨_,H11,I11,_,e11⟩=>?_
        subst e11
        exact again I11 hm w10
  subst hs3
  exact codeAny_compStart_list (loop _) (T.self _ 0 _ _ _ tn1 (loop _))

theorem GW (hc:X.calm=true) (hcell:∀ y∈scope.names,y.2≠.cell) (hkind:scope.kind=.function) (hnames:∀ y∈scope.names,y.2=.local->scope.names.lookup y.1=some .local)
  (hfr:∀ y∈scope.names,y.2=.free->X.env.scope.names.lookup y.1=some .cell\/X.env.scope.names.lookup y.1=some .free)
  (hix:xh X.N N scope.names ix=true) (hi:PI X tg iter wi)
  (hb:∀ cl C fp s H E,PG (cJ X scope N cl C fp s H E) tg g/\Hh (cJ X scope N cl C fp s H E) ifs tc/\PE (cJ X scope N cl C fp s H E) elt te)
  (hs:∀ x,Si iter X.env x=pure x:=by intro _; rfl):PE X (.ListComp elt [⟨tg,iter,ifs,0⟩] scope pos) (KQ wi g tc te ix):=by
 intro pins s σ H Q I h
 rw [eval_ListComp]
 refine S6 (use:=none) rfl hs (oV fun p hp hk=>I.ok.has p.1 (hfr p hp hk)) hkind hnames (eX (hi pins s σ H _ I h) fun v s1 h1=>eX h1 fun itv s2 h2=>?_)
 obtain⟨it,fp,tn,J,H2,e,I2,T,st2,f2,q⟩:=h2
 subst e
 refine tR (Q:=Q) (RR:=fun acc C=>compPost (model X.prog X.w) X.A X.xe none (EP X pins σ Q) acc C) hc hcell hkind hfr hix hb I2 T st2 f2 q ?_
 intro D C H' s' m _ _ _ hn hI hq
 exact⟨m,hn,fun h' sb=>⟨.ref D,H',hI h' sb,rfl,hq⟩⟩

theorem GX {i:Nat} {y:Str} {py spos:Pos} (hN:X.N.Nodup) (hi':X.N[i]?=some y) (hx:Loc X.env.scope y)
  (hc:X.calm=true) (hcell:∀ y∈scope.names,y.2≠.cell) (hkind:scope.kind=.function) (hnames:∀ y∈scope.names,y.2=.local->scope.names.lookup y.1=some .local)
  (hfr:∀ y∈scope.names,y.2=.free->X.env.scope.names.lookup y.1=some .cell\/X.env.scope.names.lookup y.1=some .free)
  (hix:xh X.N N scope.names ix=true) (hi:PI X tg iter wi)
  (hb:∀ cl C fp s H E,PG (cJ X scope N cl C fp s H E) tg g/\Hh (cJ X scope N cl C fp s H E) ifs tc/\PE (cJ X scope N cl C fp s H E) elt te)
  (hsw:swapsWith (.ListComp elt [⟨tg,iter,ifs,0⟩] scope pos) (some (.Name y py)) spos.line X.env=pure true:=by rfl)
  (hs:∀ x,Si iter X.env x=pure x:=by intro _; rfl)
  (hf:X.fn y=true\/X.env.scope.names.lookup y=some .local:=by first | exact .inl rfl | exact .inr rfl | assumption) :
  PS X (.Assign [.Name y py] (.ListComp elt [⟨tg,iter,ifs,0⟩] scope pos) spos) (GK (KQ wi g tc te ix) (vD i)):=by
 intro pins s σ H D0 I h
 rw [exec_Assign_Name_used _ _ _ _ hsw]
 refine Se (S5 (Se ?_))
 show R3 _ X.A (do let _ <- comprehension (.ListComp elt [⟨tg,iter,ifs,0⟩] scope pos) scope X.env _ (newList []) false (eval iter X.env) (some (assign (.Name y py) X.env))) _ _ s
 refine Se (eX (S6 (use:=some (assign (.Name y py) X.env)) (Q:=fun _ s'=>SP X pins D0 .next s') rfl hs (oV fun p hp hk=>I.ok.has p.1 (hfr p hp hk)) hkind hnames
  (eX (hi pins s σ H _ I h) fun v s1 h1=>eX h1 fun itv s2 h2=>?_)) fun _ s' hq=>Sd (Sd hq))
 obtain⟨it,fp,tn,J,H2,e,I2,T,st2,f2,q⟩:=h2
 subst e
 refine tR (Q:=fun v H'=>vD i v σ H' D0.nx) (RR:=fun acc C=>compPost (model X.prog X.w) X.A X.xe (some (assign (.Name y py) X.env)) (fun _ s'=>SP X pins D0 .next s') acc C) hc hcell hkind hfr hix hb I2 T st2 f2 q ?_
 intro D C H' s' m _ hC hfree hn hI hq
 have I':Inv X pins σ H' s':=hI s'.heap (.refl ..)
 have nL:C≠X.env.locals:=N9 (NY I2.lt hC)
 have nC:∀ x c,X.env.cells.lookup x=some c->c≠C:=fun x c e z=>by
  obtain⟨v,q⟩:=I2.cell x c e
  exact absurd (NY q.lt (by rw [z]; exact hC)) (NZ _)
 have nP:∀ p∈X.pn++pins,p.1≠C:=fun p hp z=>absurd (NY (Rh (I2.pin p hp).1) (by rw [z]; exact hC)) (NZ _)
 show R3 _ X.A (assign (.Name y py) X.env (.ref D)) _ _ _
 refine wpAny_assign_Name (u9 I' hN hi' hx (v:=.ref D) rfl (fun s'' I'' ch=>?_) hf)
 obtain⟨a,sb,ha⟩:=ch
 have hCa:C≠a:=by
  rcases ha with ha | ha
  ·rw [ha]; exact nL
  ·exact Ne.symm (nC y a ha)
 refine⟨m,hn.sameBut sb hCa,fun h' sb'=>⟨_,H',?_,hq⟩⟩
 exact I''.turned (t':=s''.toks) (fun b o hb' e=>(sb'.2 b hb').trans e) hfree nL (.inr (N1 I2.sz hC)) nC nP
end
end L2
namespace TG
open PySem PySem.Spec L2

inductive D where
 | non | bl (b:Bool) | int (i:Int) | str (x:Str) | tup (xs:List D) | lst (xs:List D)
 | dct (ks vs:List D) | obj (c:Str) (fs:List Str) (vs:List D) | exc (c:Str) (fs:List Str) (vs:List D)

def bu:Key->D
 | .inl i=>.int i
 | .inr x=>.str x
def clsAt (K:QN) (c:Str) (C:RP):Prop:=Q4 K RW c=some (some (.ref C))
def M2 (C a:RP) (dx:Option RP):(RP->Prop)->RT->Prop:=fun _ h=>∃ o,h.get? a=some o/\o.cls=.ref C/\o.dict=dx
mutual
def cN (K:QN) (H:Hp):D->V->Prop
 | .non,v=>v=.non
 | .bl b,v=>v=.bl b
 | .int i,v=>v=.int i
 | .str x,v=>v=.str x
 | .tup xs,v=>∃ a vs,v=.ref a/\H a=some (.tup vs)/\aZ K H xs vs
 | .lst xs,v=>∃ a vs,v=.ref a/\oO K H a vs/\aZ K H xs vs
 | .dct ks ds,v=>∃ a vs,v=.ref a/\aZ K H ds vs/\((∃ kvs:List (Key×V),H a=some (.dK kvs)/\ks=kvs.map (fun p=>bu p.1)/\vs=kvs.map (·.2)) \/
   (∃ kvs:List (List Key×V),H a=some (.dT kvs)/\ks=kvs.map (fun p=>.tup (p.1.map bu))/\vs=kvs.map (·.2)) \/
   ∃ (kvs:List (List Key×V)) (o:Obj),H a=some (.frz o (.dT kvs))/\ks=.non::kvs.map (fun p=>.tup (p.1.map bu))/\vs=kvs.map (·.2))
 | .obj c fs ds,v=>∃ a vs,v=.ref a/\aZ K H ds vs/\fs.length=vs.length/\∃ C dx,clsAt K c C/\H a=some (.ins C dx (fs.zip vs))
 | .exc c fs ds,v=>∃ a vs,v=.ref a/\aZ K H ds vs/\fs.length=vs.length/\∃ C dx,clsAt K c C/\H a=some (.ext (M2 C a dx))/\(fs=[]\/∃ d,dx=some d/\H d=some (.xd (fs.zip vs)))
def aZ (K:QN) (H:Hp):List D->List V->Prop
 | [],vs=>vs=[]
 | x::xs,vs=>∃ v r,vs=v::r/\cN K H x v/\aZ K H xs r
end

theorem CC {K:QN} {H H':Hp} {a:RP} {xs:List V} (e:bj H H') (h:pR K H a xs):pR K H' a xs:=by
 rcases h with (h | ⟨o,h⟩) | h
 ·exact .inl (.inl (e _ _ h))
 ·exact .inl (.inr ⟨o,e _ _ h⟩)
 ·exact .inr h
theorem bP {K:QN} {H H':Hp} {a:RP} {xs:List V} (e:bj H H') (h:H a=some (.tup xs)):pR K H' a xs:=pR.of (e _ _ h)
mutual
theorem cN.mono {K:QN} {H H':Hp} (e:bj H H'):∀ {d:D} {v:V},cN K H d v->cN K H' d v
 | .non,_,h=>by unfold cN at h ⊢; exact h
 | .bl _,_,h=>by unfold cN at h ⊢; exact h
 | .int _,_,h=>by unfold cN at h ⊢; exact h
 | .str _,_,h=>by unfold cN at h ⊢; exact h
 | .tup xs,_,h=>by
  unfold cN at h ⊢
  obtain⟨a,vs,e1,h1,h2⟩:=h
  exact⟨a,vs,e1,e _ _ h1,aZ.mono e h2⟩
 | .lst xs,_,h=>by
  unfold cN at h ⊢
  obtain⟨a,vs,e1,h1,h2⟩:=h
  exact⟨a,vs,e1,e.seq h1,aZ.mono e h2⟩
 | .dct _ ds,_,h=>by
  unfold cN at h ⊢
  obtain⟨a,vs,e1,h1,h2⟩:=h
  refine⟨a,vs,e1,aZ.mono e h1,?_⟩
  rcases h2 with ⟨kvs,h2,h3⟩ | ⟨kvs,h2,h3⟩ | ⟨kvs,o,h2,h3⟩
  ·exact .inl ⟨kvs,e _ _ h2,h3⟩
  ·exact .inr (.inl ⟨kvs,e _ _ h2,h3⟩)
  ·exact .inr (.inr ⟨kvs,o,e _ _ h2,h3⟩)
 | .obj _ _ ds,_,h=>by
  unfold cN at h ⊢
  obtain⟨a,vs,e1,h1,h2,C,dx,h3,h4⟩:=h
  exact⟨a,vs,e1,aZ.mono e h1,h2,C,dx,h3,e _ _ h4⟩
 | .exc _ _ ds,_,h=>by
  unfold cN at h ⊢
  obtain⟨a,vs,e1,h1,h2,C,dx,h3,h4,h5⟩:=h
  exact⟨a,vs,e1,aZ.mono e h1,h2,C,dx,h3,e _ _ h4,h5.imp id fun ⟨d,q1,q2⟩=>⟨d,q1,e _ _ q2⟩⟩
theorem aZ.mono {K:QN} {H H':Hp} (e:bj H H'):∀ {ds:List D} {vs:List V},aZ K H ds vs->aZ K H' ds vs
 | [],_,h=>by unfold aZ at h ⊢; exact h
 | x::xs,_,h=>by
  unfold aZ at h ⊢
  obtain⟨v,r,e1,h1,h2⟩:=h
  exact⟨v,r,e1,cN.mono e h1,aZ.mono e h2⟩
end
section
variable {K:QN} {H:Hp}
theorem kU {v:V}:cN K H .non v↔v=.non:=by unfold cN; rfl
theorem mJ {b:Bool} {v:V}:cN K H (.bl b) v↔v=.bl b:=by unfold cN; rfl
theorem fN {i:Int} {v:V}:cN K H (.int i) v↔v=.int i:=by unfold cN; rfl
theorem fP {x:Str} {v:V}:cN K H (.str x) v↔v=.str x:=by unfold cN; rfl
theorem cB {xs:List D} {v:V}:cN K H (.tup xs) v↔∃ a vs,v=.ref a/\H a=some (.tup vs)/\aZ K H xs vs:=by unfold cN; rfl
theorem cA {xs:List D} {v:V}:cN K H (.lst xs) v↔∃ a vs,v=.ref a/\oO K H a vs/\aZ K H xs vs:=by unfold cN; rfl
theorem K5 {ks ds : List D} {v : V} : cN K H (.dct ks ds) v ↔ ∃ a vs, v = .ref a /\ aZ K H ds vs /\ ((∃ kvs : List (Key × V), H a = some (.dK kvs) /\ ks = kvs.map (fun p => bu p.1) /\ vs = kvs.map (·.2)) \/
      (∃ kvs:List (List Key×V),H a=some (.dT kvs)/\ks=kvs.map (fun p=>.tup (p.1.map bu))/\vs=kvs.map (·.2)) \/
      ∃ (kvs:List (List Key×V)) (o:Obj),H a=some (.frz o (.dT kvs))/\ks=.non::kvs.map (fun p=>.tup (p.1.map bu))/\vs=kvs.map (·.2)):=by unfold cN; rfl
theorem KJ {c:Str} {fs:List Str} {ds:List D} {v:V}:cN K H (.obj c fs ds) v↔∃ a vs,v=.ref a/\aZ K H ds vs/\fs.length=vs.length/\∃ C dx,clsAt K c C/\H a=some (.ins C dx (fs.zip vs)):=by unfold cN; rfl
theorem dh {vs:List V}:aZ K H [] vs↔vs=[]:=by unfold aZ; rfl
theorem bz {x:D} {xs:List D} {vs:List V}:aZ K H (x::xs) vs↔∃ v r,vs=v::r/\cN K H x v/\aZ K H xs r:=by conv=>lhs; unfold aZ
theorem aZ.length:∀ {ds:List D} {vs:List V},aZ K H ds vs->ds.length=vs.length
 | [],_,h=>by rw [dh] at h; rw [h]; rfl
 | _::xs,_,h=>by
  rw [bz] at h
  obtain⟨v,r,e,_,h⟩:=h
  rw [e,Oh,Oh,aZ.length h]
theorem aZ.get:∀ {ds:List D} {vs:List V} {i:Nat} {d:D},aZ K H ds vs->ds[i]?=some d->∃ v,vs[i]?=some v/\cN K H d v
 | [],_,_,_,_,e=>by simp at e
 | x::xs,_,0,d,h,e=>by
  rw [bz] at h
  obtain⟨v,r,rfl,h1,_⟩:=h
  simp at e
  subst e
  exact⟨v,rfl,h1⟩
 | x::xs,_,i+1,d,h,e=>by
  rw [bz] at h
  obtain⟨v,r,rfl,_,h2⟩:=h
  obtain⟨w,e1,e2⟩:=aZ.get (i:=i) h2 (by simpa using e)
  exact⟨w,by simpa using e1,e2⟩
theorem aZ.append:∀ {ds es:List D} {vs ws:List V},aZ K H ds vs->aZ K H es ws->aZ K H (ds++es) (vs++ws)
 | [],_,_,_,h,h'=>by rw [dh] at h; subst h; exact h'
 | x::xs,_,_,_,h,h'=>by
  rw [bz] at h
  obtain⟨v,r,rfl,h1,h2⟩:=h
  rw [OY,bz]
  exact⟨v,_,rfl,h1,aZ.append h2 h'⟩
theorem aZ.take:∀ {ds:List D} {vs:List V} (n:Nat),aZ K H ds vs->aZ K H (ds.take n) (vs.take n)
 | _,_,0,_=>by rw [OZ,OZ,dh]
 | [],_,_+1,h=>by rw [dh] at h; subst h; rw [O0,O0,dh]
 | x::xs,_,n+1,h=>by
  rw [bz] at h
  obtain⟨v,r,rfl,h1,h2⟩:=h
  rw [O1,O1,bz]
  exact⟨v,_,rfl,h1,aZ.take n h2⟩
theorem aZ.drop:∀ {ds:List D} {vs:List V} (n:Nat),aZ K H ds vs->aZ K H (ds.drop n) (vs.drop n)
 | _,_,0,h=>by rw [O2,O2]; exact h
 | [],_,_+1,h=>by rw [dh] at h; subst h; rw [List.drop_nil,List.drop_nil,dh]
 | x::xs,_,n+1,h=>by
  rw [bz] at h
  obtain⟨v,r,rfl,h1,h2⟩:=h
  rw [O3,O3]
  exact aZ.drop n h2
theorem aZ.snoc {ds:List D} {vs:List V} {d:D} {v:V} (h:aZ K H ds vs) (h':cN K H d v):aZ K H (ds++[d]) (vs++[v]) :=
 h.append (bz.mpr ⟨v,[],rfl,h',dh.mpr rfl⟩)
theorem aZ.one {d:D} {vs:List V} (h:aZ K H [d] vs):∃ v,vs=[v]/\cN K H d v:=by
 rw [bz] at h
 obtain⟨v,r,rfl,h1,h2⟩:=h
 rw [dh] at h2
 subst h2
 exact⟨v,rfl,h1⟩
theorem aZ.two {d e:D} {vs:List V} (h:aZ K H [d,e] vs):∃ v w,vs=[v,w]/\cN K H d v/\cN K H e w:=by
 rw [bz] at h
 obtain⟨v,r,rfl,h1,h2⟩:=h
 obtain⟨w,rfl,h3⟩:=h2.one
 exact⟨v,w,rfl,h1,h3⟩
theorem vH:∀ ns:List Int,aZ K H (ns.map D.int) (ns.map V.int)
 | []=>dh.mpr rfl
 | n::ns=>bz.mpr ⟨_,_,rfl,fN.mpr rfl,vH ns⟩
end

def hid (H:Hp) (O:List RP):Hp:=fun b=>if b∈O then none else H b
theorem aD (H:Hp) (O:List RP):bj (hid H O) H:=fun b o h=>by
 unfold hid at h
 split at h
 ·cases h
 ·exact h
theorem bX {H H':Hp} {O:List RP} (e:bj H H'):bj (hid H O) (hid H' O):=fun b o h=>by
 unfold hid at h ⊢
 by_cases hb:b∈O
 ·rw [if_pos hb] at h; cases h
 ·rw [if_neg hb] at h ⊢; exact e b o h
theorem iD {H:Hp} {O O':List RP} (s:∀ a∈O,a∈O'):bj (hid H O') (hid H O):=fun b o h=>by
 unfold hid at h ⊢
 by_cases hb:b∈O'
 ·rw [if_pos hb] at h; cases h
 ·rw [if_neg hb] at h
  rw [if_neg fun z=>hb (s b z)]; exact h
theorem EV (H:Hp):hid H []=H:=by funext b; unfold hid; simp
theorem rB {H:Hp} {O:List RP} {p:RP} {o:HO} (h:H p=none):bj (hid H O) (hid (upd H p o) O):=fun b u q=>by
 unfold hid at q ⊢
 by_cases hb:b∈O
 ·rw [if_pos hb] at q; cases q
 ·rw [if_neg hb] at q ⊢
  rw [aE (aX q h)]; exact q
theorem bF {H:Hp} {p:RP} (h:H p=none) (o:HO):bj H (upd H p o):=fun b u q=>by rw [aE (aX q h)]; exact q
theorem jX {H:Hp} {O:List RP} {p:RP} (h:p∉O):hid H O p=H p:=by unfold hid; rw [if_neg h]
theorem ia {H:Hp} {O:List RP} {p:RP} {o:HO} (h:p∈O):bj (hid H O) (hid (upd H p o) O):=fun b u q=>by
 unfold hid at q ⊢
 by_cases hb:b∈O
 ·rw [if_pos hb] at q; cases q
 ·rw [if_neg hb] at q ⊢
  rw [aE (fun z=>hb (by rw [z]; exact h))]; exact q

inductive S where
 | val (d:D) | own (d:D) | nest (d:D)
abbrev aq:=List (Option S)
def tH:HO->Prop
 | .lst _=>True
 | .dK _=>True
 | .dT _=>True
 | _=>False
class aV where
 tab:Hp->Prop
 same:∀ {H H':Hp},tab H->bj H H'->tab H'
 own:∀ {H:Hp} {p:RP} {o o':HO},tab H->H p=some o->tH o->tab (upd H p o')
variable [aV]
def eB (H:Hp) (O:List RP):Prop:=aV.tab H/\∀ a∈O,∃ o,H a=some o/\tH o
theorem eB.not {H:Hp} {O:List RP} (h:eB H O) {p:RP} (n:H p=none):p∉O:=fun z=>by
 obtain⟨vs,e,_⟩:=h.2 p z
 rw [n] at e; cases e
theorem eB.same {H H':Hp} {O:List RP} (h:eB H O) (e:bj H H'):eB H' O:=⟨aV.same h.1 e,fun a ha=>let ⟨vs,q,m⟩:=h.2 a ha; ⟨vs,e _ _ q,m⟩⟩
theorem eB.upd {H:Hp} {O:List RP} {p:RP} {o:HO} (h:eB H O) (hp:p∈O) (m:tH o):eB (L2.upd H p o) O:=⟨let ⟨_,q,r⟩:=h.2 p hp; aV.own h.1 q r,fun a ha=>by
 by_cases z:a=p
 ·rw [z]; exact⟨o,aL,m⟩
 ·obtain⟨u,q,r⟩:=h.2 a ha
  exact⟨u,by rw [aE z]; exact q,r⟩⟩
theorem eB.cons {H:Hp} {O:List RP} {p:RP} {o:HO} (h:eB H O) (hp:H p=some o) (m:tH o):eB H (p::O):=⟨h.1,fun a ha=>by
 rcases List.mem_cons.mp ha with z | z
 ·rw [z]; exact⟨o,hp,m⟩
 ·exact h.2 a z⟩
def dD (K:QN) (H:Hp) (O:List RP) (a:RP) (d:D):Prop:=∃ o vs,H a=some o/\match d with
 | .lst xs=>o=.lst vs/\aZ K (hid H O) xs vs
 | .dct ks ds=>aZ K (hid H O) ds vs/\((∃ kvs:List (Key×V),o=.dK kvs/\ks=kvs.map (fun p=>bu p.1)/\vs=kvs.map (·.2)) \/
   ∃ kvs:List (List Key×V),o=.dT kvs/\ks=kvs.map (fun p=>.tup (p.1.map bu))/\vs=kvs.map (·.2))
 | _=>False
theorem dD.mono {K:QN} {H H':Hp} {O O':List RP} {a:RP} {d:D} (h:dD K H O a d) (e:H a=H' a) (s:bj (hid H O) (hid H' O')):dD K H' O' a d:=by
 obtain⟨o,vs,h1,h2⟩:=h
 refine⟨o,vs,by rw [<- e]; exact h1,?_⟩
 cases d with
 | lst xs=>exact⟨h2.1,h2.2.mono s⟩
 | dct ks ds=>exact⟨h2.1.mono s,h2.2⟩
 | _=>exact h2
theorem dD.some {K:QN} {H:Hp} {O:List RP} {a:RP} {d:D} (h:dD K H O a d):∃ o,H a=some o:=let ⟨o,_,e,_⟩:=h; ⟨o,e⟩
theorem dD.den {K:QN} {H:Hp} {O O':List RP} {a:RP} {d:D} (h:dD K H O a d) (s:bj (hid H O) (hid H O')) (ha:a∉O'):cN K (hid H O') d (.ref a):=by
 obtain⟨o,vs,h1,h2⟩:=h
 have h1':hid H O' a=Option.some o:=by rw [jX ha]; exact h1
 cases d with
 | lst xs =>
  obtain⟨e,g⟩:=h2
  subst e
  exact cA.mpr ⟨a,vs,rfl,oO.of h1',g.mono s⟩
 | dct ks ds =>
  obtain⟨g,q⟩:=h2
  refine K5.mpr ⟨a,vs,rfl,g.mono s,?_⟩
  rcases q with ⟨kvs,e,q⟩ | ⟨kvs,e,q⟩
  ·subst e; exact .inl ⟨kvs,h1',q⟩
  ·subst e; exact .inr (.inl ⟨kvs,h1',q⟩)
 | _=>exact h2.elim
structure dZ (K:QN) (O:List RP) (H:Hp) (ρ:aq) (σ:St):Prop where
 val:∀ (i:Nat) d,ρ[i]?=some (some (.val d))->∃ v,σ[i]?=some (some v)/\cN K (hid H O) d v
 own:∀ (i:Nat) d,ρ[i]?=some (some (.own d))->∃ a,σ[i]?=some (some (.ref a))/\a∈O/\dD K H O a d
 one:∀ (i j:Nat) xs ys a,ρ[i]?=some (some (.own xs))->ρ[j]?=some (some (.own ys))->σ[i]?=some (some (.ref a))->σ[j]?=some (some (.ref a))->i=j
 all:eB H O
theorem rR {H H':Hp} (e:bj H H') {a:RP} {o:HO} (h:H a=some o):H a=H' a:=by rw [h,e _ _ h]
theorem dZ.same {K:QN} {O:List RP} {H H':Hp} {ρ:aq} {σ:St} (h:dZ K O H ρ σ) (e:bj H H'):dZ K O H' ρ σ :=
  ⟨fun i d q=>let ⟨v,a,b⟩:=h.val i d q; ⟨v,a,b.mono (bX e)⟩,
   fun i xs q=>let ⟨a,q1,q2,q3⟩:=h.own i xs q; ⟨a,q1,q2,q3.mono (let ⟨_,z⟩:=q3.some; rR e z) (bX e)⟩,h.one,h.all.same e⟩

structure Ex where
 c:Str
 fs:List Str
 vs:List D
abbrev R (α:Type):=Except (Option Ex) α
abbrev un {α:Type}:R α:=.error none
def rO {α:Type}:Option α->R α
 | some a=>.ok a
 | none=>.error none
def Kb (K:QN) (Hd:Hp) (x:Ex) (C:RP) (dx:Option RP):Prop:=clsAt K x.c C/\∃ ws,aZ K Hd x.vs ws/\x.fs.length=ws.length/\(x.fs=[]\/∃ d,dx=some d/\Hd d=some (.xd (x.fs.zip ws)))
theorem Kb.mono {K:QN} {H H':Hp} {x:Ex} {C:RP} {dx:Option RP} (h:Kb K H x C dx) (e:bj H H'):Kb K H' x C dx:=by
 obtain⟨h1,ws,h2,h3,h4⟩:=h
 exact⟨h1,ws,h2.mono e,h3,h4.imp id fun ⟨d,q1,q2⟩=>⟨d,q1,e _ _ q2⟩⟩
end TG
namespace TG
open PySem PySem.Spec L2
variable [aV]
open PyProof.Rows (AllBare)
theorem Hu {P:RO} {w:RN} {H:Hp} {h:RT} {a:RP} {o:HO} (x:cC P w H h a o):∃ u,h.get? a=some u:=by
 cases o with
 | lst xs=>obtain⟨_,_,_,_,e⟩:=x; exact⟨_,e⟩
 | tup xs=>obtain⟨_,_,_,o,e,_⟩:=x; exact⟨_,e⟩
 | dK kvs=>obtain⟨_,_,_,_,o,_,_,e,_⟩:=x; exact⟨_,e⟩
 | dT kvs=>obtain⟨_,_,_,_,o,_,_,e,_⟩:=x; exact⟨_,e⟩
 | set S n=>obtain⟨o,_,_,_,e,_⟩:=x; exact⟨_,e⟩
 | ins C dx fs=>obtain⟨_,_,_,e,_⟩:=x; exact⟨_,e⟩
 | own y=>exact x
 | xd fs=>obtain⟨_,⟨_,_,_,e,_⟩,_⟩:=x; exact⟨_,e⟩
 | rng lo hi=>obtain⟨_,_,_,e⟩:=x; exact⟨_,e⟩
 | frz ob u=>obtain⟨e,_⟩:=x; exact⟨_,e⟩
 | tbl ps=>exact⟨_,(show h.get? a=some _ from x)⟩
 | met f y=>exact⟨_,(show h.get? a=some _ from x)⟩
 | ext φ=>obtain⟨_,e,_⟩:=x; exact e
def sQ (X:Cx) (H:Hp) (b:RP):Prop:=((∃ o,X.s₀.heap.get? b=some o)/\b∉X.ex)\/H b≠none\/(∃ o,(b,o)∈X.pn)\/∃ x,X.env.cells.lookup x=some b
def NF (B:RT) (e:RP) (cls a0:RM) (h:RT):Prop:=h.TracedW B e cls a0\/∃ oe vs,h.get? e=some oe/\oe.cls=cls/\oe.data=.fields vs/\vs[1]?=some .none/\vs[0]?=some a0
def Kt (X:Cx) (H:Hp) (s:R0) (e C:RP):Prop:=∃ B a0,B.StaysIn s.heap/\B.get? e=none/\s.heap.FunFrames B X.stack/\NF B e (.ref C) a0 s.heap/\∀ b o,s.heap.get? b=some o->sQ X H b->b∉frs X.stack->B.get? b=some o
def NE (X:Cx) (H:Hp) (O:List RP) (s:R0) (u:RM) (x:Ex):Prop:=∃ e C dx,u=.ref e/\Kb X.K (hid H O) x C dx/\Kt X H s e C
def oa (P:RO) (w:RN):zy:=fun outer H s E u s'=>∃ e C dx H' B a0,u=.ref e/\s'.os=s.os/\AllBare s'.gens/\Un (frs outer) [] H H' s.heap s'.heap/\oT P w H' s'.heap/\Heap.FlyingW B outer e (.ref C) a0 s'.heap /\
 (∀ b o,s'.heap.get? b=some o->((∃ o',s.heap.get? b=some o')\/H' b≠none)->b∉frs outer->B.get? b=some o)/\E (.ref C) dx H'
def Nb (K:QN) (H:Hp) (O:List RP) (x:Ex) (E:XK):Prop:=∀ C dx H',bj H H'->Kb K (hid H' O) x C dx->E (.ref C) dx H'
def Jf (X:Cx) (σ:St) (O:List RP) (H:Hp) (x:Ex):Prop:=∀ pins s u H',Inv X pins σ H' s->bj H H'->NE X H' O s u x->X.xe u s
theorem Jf.mono {X:Cx} {σ:St} {O:List RP} {H H':Hp} {x:Ex} (h:Jf X σ O H x) (s:bj H H'):Jf X σ O H' x:=fun pins st u H2 I s2 f=>h pins st u H2 I (s.trans s2) f
def Bc (X:Cx) (O:List RP) (H:Hp) (x:Ex):XK:=fun u dx H'=>∃ C,u=.ref C/\bj H H'/\Kb X.K (hid H' O) x C dx
def mF (CX:zy) (X:Cx) (σ:St) (E:XK):Prop:=∀ (pins:List (RP×Obj)) (H:Hp) (s:R0) (e:RM) (s':R0),Inv X pins σ H s->CX X.stack H s E e s'->X.xe e s'
theorem AY {X:Cx} {σ:St} {O:List RP} {H:Hp} {x:Ex} (h:Jf X σ O H x):mF (oa X.prog X.w) X σ (Bc X O H x):=by
 rintro pins H1 s u s' I ⟨e,C,dx,H',B,a0,rfl,os,bare,un,hok,⟨f1,f2,f3,f4⟩,kp,C',eC,sm,hd⟩
 cases eC
 have I':Inv X pins σ H' s':=I.call' os un hok bare (ch:=[]) fun b z=>absurd z (by simp)
 refine h pins s' _ H' I' sm ⟨e,C,dx,rfl,hd,B,a0,f1,f2,f3,.inl f4,fun b o eb hb nf=>kp b o eb ?_ nf⟩
 rcases hb with ⟨⟨o',hb⟩,nx⟩ | hb | ⟨o',hb⟩ | ⟨y,hb⟩
 ·exact .inl (I.base.there b o' hb nx)
 ·exact .inr hb
 ·exact .inl ⟨_,(I.pin _ (N6 _ hb)).1⟩
 ·obtain⟨v,o,q,_⟩:=I.cell y b hb
  exact .inl ⟨o,q⟩
theorem A2 {X:Cx} {σ:St}:mF (oa X.prog X.w) X σ E0:=fun _ _ _ _ _ _ ⟨_,_,_,_,_,_,_,_,_,_,_,_,_,z⟩=>z.elim
theorem yk {X:Cx} {O:List RP} {H:Hp} {x:Ex}:Nb X.K H O x (Bc X O H x):=fun C dx H' s e=>⟨C,rfl,s,e⟩
section
variable {X:Cx} {pins:List (RP×Obj)} {σ:St} {H:Hp} {s:R0} {h':RT}
theorem Gf (I:Inv X pins σ H s) (k:∀ b o,s.heap.get? b=some o->sQ X H b->b∉frs X.stack->h'.get? b=some o):oT X.prog X.w H h':=fun a ob ea =>
 (I.hok a ob ea).stay (fun b u hb q=>by
  have hn:H b≠none:=by
   rcases hb with e | e
   ·rw [e,ea]; intro z; cases z
   ·rw [e]; intro z; cases z
  exact k b u q (.inr (.inl hn)) fun hf=>hn (I.stkFree b hf)) (fun _ q=>q) fun _ _ q=>q
theorem vn (I:Inv X pins σ H s) (us:s.heap.UpToSlots h') {b:RP} {o:Obj} (hb:b∈frs X.stack) (e:s.heap.get? b=some o):∃ sl,h'.get? b=some { o with slots:=sl }:=by
 obtain⟨_,o',e',nf⟩:=I.stack.mem hb
 rw [e] at e'; cases e'
 exact us b o e nf
theorem Ie (I:Inv X pins σ H s) (hx:X.ex=[]) (hst:X.stack=X.env::X.outer) (hf:X.env.frame=some X.env.locals) (us:s.heap.UpToSlots h') (k:∀ b o,s.heap.get? b=some o->sQ X H b->b∉frs X.stack->h'.get? b=some o) :
  Un (frs X.outer) [] X.H₀ H X.s₀.heap h':=by
 have U:=I.base
 rw [hx] at U
 have fr:frs X.stack=X.env.locals::frs X.outer:=by rw [hst]; show List.filterMap _ (_::_)=_; rw [N3,hf]; rfl
 have nl:∀ b o,X.s₀.heap.get? b=some o->b≠X.env.locals:=fun b o q z=>by
  have h1:=Rh q
  have h2:=I.ok.above
  rw [z] at h1; exact NZ _ (NY h1 h2)
 have nfr:∀ b o,X.s₀.heap.get? b=some o->b∉frs X.outer->b∉frs X.stack:=fun b o q nb z=>by
  rw [fr] at z
  rcases List.mem_cons.mp z with z | z
  ·exact nl b o q z
  ·exact nb z
 refine⟨fun b o q n nb _=>k b o (U.keep b o q n nb (by simp)) (.inl ⟨⟨o,q⟩,by rw [hx]; simp⟩) (nfr b o q nb),fun b o q n hb _=>?_,fun b o q n _=>U.free b o q n (by simp),fun b o q _=>?_,U.tups,U.frzs,U.tbls⟩
 ·obtain⟨sl,e⟩:=U.slot b o q n hb (by simp)
  obtain⟨sl',e'⟩:=vn I us (by rw [fr]; exact N5 _ hb) e
  exact⟨sl',e'⟩
 ·obtain⟨o1,e1⟩:=U.there b o q (by simp)
  by_cases hb:b∈frs X.stack
  ·obtain⟨sl,e⟩:=vn I us hb e1
   exact⟨_,e⟩
  ·exact⟨o1,k b o1 e1 (.inl ⟨⟨o,q⟩,by rw [hx]; simp⟩) hb⟩
end
theorem En {P:RO} {w:RN} {K:QN} {mg:Str->Option RM} {base:RT} {N:List Str} {qual:Str} {scope:R1} {f:RP} {cd:RM} {A:RZ} {outer:List Env} {s:R0} {H:Hp} {E:XK} {σ:St} {O O':List RP} {H':Hp} {x:Ex}
  (hx:Nb K H O x E) (sm:bj H H') (hs:∀ a∈O,a∈O'):Jf (jW (oa P w) P w K mg base N qual scope f cd A outer s H E) σ O' H' x:=by
 rintro pins s1 u H1 I s2 ⟨e,C,dx,rfl,hd,B,a0,b1,b2,b3,b4,b5⟩
 have fin:∀ h',Heap.FlyingW B outer e (.ref C) a0 h'->s1.heap.UpToSlots h'->oa P w outer H s E (.ref e) { s1 with heap:=h' }:=fun h' fl us=>by
  have k:∀ b o,s1.heap.get? b=some o->sQ (jW (oa P w) P w K mg base N qual scope f cd A outer s H E) H1 b->b∉frs (jW (oa P w) P w K mg base N qual scope f cd A outer s H E).stack->h'.get? b=some o:=fun b o q kb nf=>fl.1 b o (b5 b o q kb nf)
  have un:=Ie I rfl rfl rfl us k
  have hok:=Gf I k
  refine⟨e,C,dx,H1,B,a0,rfl,I.os,I.bare,un,hok,fl,fun b o q hb nf=>?_,hx C dx H1 (sm.trans s2) (hd.mono (iD hs))⟩
  have nf2:b∉frs (jW (oa P w) P w K mg base N qual scope f cd A outer s H E).stack:=fun z=>by
   rcases List.mem_cons.mp (show b∈s.heap.objs.size::frs outer from z) with z | z
   ·rcases hb with hb | hb
    ·obtain⟨o',hb⟩:=hb
     have:=Rh hb
     rw [z] at this; exact NZ _ this
    ·rw [z] at hb; exact hb I.free
   ·exact nf z
  have kb:sQ (jW (oa P w) P w K mg base N qual scope f cd A outer s H E) H1 b:=hb.elim (fun z=>.inl ⟨z,fun y=>nomatch y⟩) fun z=>.inr (.inl z)
  obtain⟨o1,e1⟩:∃ o1,s1.heap.get? b=some o1:=by
   rcases hb with ⟨o',hb⟩ | hb
   ·exact I.base.there b o' hb (fun z=>nomatch z)
   ·cases q0:H1 b with
    | none=>exact absurd q0 hb
    | some ob=>exact Hu (I.hok b ob q0)
  have:=k b o1 e1 kb nf2
  rw [q] at this; cases this
  exact b5 b _ e1 kb nf2
 show R3 _ _ (leaving (Rw qual scope s.heap.objs.size f cd) (.ref e)) _ _ s1
 rcases b4 with b4 | ⟨oe,vs,c1,c2,c3,c4,c5⟩
 ·exact wpAny_leaves_onW I.ok.frames rfl ⟨b1,b2,b3,b4⟩ fin
 ·refine wpAny_leaving_firstW I.ok.frames b3 rfl c1 b1 b2 c3 c4 c5 fun h' hL=>?_
  obtain⟨k1,⟨_,_,k2⟩,k3,k4⟩:=hL
  exact fin h' ⟨k1,b2,k2,c2 ▸ k3⟩ k4
end TG
namespace TG
open PySem PySem.Spec L2
variable [aV]

def jF (X:Cx) (σ:St) (O:List RP) (H:Hp) {α:Type} (r:R α) (Q:α->Prop):Prop:=match r with
 | .ok a=>Q a
 | .error (some x)=>Jf X σ O H x
 | .error none=>False
section
variable {X:Cx} {σ:St} {O:List RP} {H H':Hp} {α β:Type}
theorem jF.bind {r:R α} {G:α->R β} {Q:β->Prop} (h:jF X σ O H (r.bind G) Q):jF X σ O H r fun a=>jF X σ O H (G a) Q:=by
 match r,h with
 | .ok a,h=>exact h
 | .error (some x),h=>exact h
 | .error none,h=>exact h
theorem jF.imp {r:R α} {Q Q':α->Prop} (h:jF X σ O H r Q) (f:∀ a,Q a->Q' a):jF X σ O H r Q':=by
 match r,h with
 | .ok a,h=>exact f a h
 | .error (some x),h=>exact h
 | .error none,h=>exact h
theorem jF.mono {r:R α} {Q:α->Prop} (h:jF X σ O H r Q) (s:bj H H'):jF X σ O H' r Q:=by
 match r,h with
 | .ok a,h=>exact h
 | .error (some x),h=>exact Jf.mono h s
 | .error none,h=>exact h
theorem jF.rO {o:Option α} {Q:α->Prop} (h:jF X σ O H (rO o) Q):∃ a,o=some a/\Q a:=by
 match o,h with
 | some a,h=>exact⟨a,rfl,h⟩
 | none,h=>exact h.elim
end
abbrev FX:=aq->R D
def tF (X:Cx) (F:FX):TE:=fun σ H Q=>∃ O ρ,dZ X.K O H ρ σ/\jF X σ O H (F ρ) fun d=>∀ v H',bj H H'->cN X.K (hid H' O) d v->Q v H'
def Ky (X:Cx) (F:aq->R Bool):TT:=fun σ H Q=>∃ O ρ,dZ X.K O H ρ σ/\jF X σ O H (F ρ) fun b=>∀ H',bj H H'->Q b H'
def K9 (X:Cx) (F:aq->R (List D)):TA:=fun σ H Q=>∃ O ρ,dZ X.K O H ρ σ/\jF X σ O H (F ρ) fun ds=>∀ vs H',bj H H'->aZ X.K (hid H' O) ds vs->Q vs H'
def FE (X:Cx) (e:R4) (F:FX):Prop:=PE X e (tF X F)
def FT (X:Cx) (e:R4) (F:aq->R Bool):Prop:=PT X e (Ky X F)
def FW (X:Cx) (e:R4) (F:aq->R Bool):Prop:=PW X e (Ky X F)
def FA (X:Cx) (es:List R4) (F:aq->R (List D)):Prop:=PA X es (K9 X F)

theorem PE.weak {X:Cx} {e:R4} {t t':TE} (h:PE X e t) (w:∀ σ H Q,t' σ H Q->t σ H Q):PE X e t':=fun pins s σ H Q I q=>h pins s σ H Q I (w σ H Q q)
theorem PT.weak {X:Cx} {e:R4} {t t':TT} (h:PT X e t) (w:∀ σ H Q,t' σ H Q->t σ H Q):PT X e t':=fun pins s σ H Q I q=>h pins s σ H Q I (w σ H Q q)
theorem PW.weak {X:Cx} {e:R4} {t t':TT} (h:PW X e t) (w:∀ σ H Q,t' σ H Q->t σ H Q):PW X e t':=fun whole pins s σ H Q I q=>h whole pins s σ H Q I (w σ H Q q)
theorem PA.weak {X:Cx} {es:List R4} {t t':TA} (h:PA X es t) (w:∀ σ H Q,t' σ H Q->t σ H Q):PA X es t':=fun pos pins s σ H Q I q=>h pos pins s σ H Q I (w σ H Q q)
theorem PS.weak {X:Cx} {st:R6} {t t':TS} (h:PS X st t) (w:∀ D σ H,t' D σ H->t D σ H):PS X st t':=fun pins s σ H Q I q=>h pins s σ H Q I (w Q σ H q)
theorem x4.weak {X:Cx} {st:List R6} {t t':TS} (h:x4 X st t) (w:∀ D σ H,t' D σ H->t D σ H):x4 X st t':=fun pins s σ H Q I q=>h pins s σ H Q I (w Q σ H q)

def ui (ρ:aq) (i:Nat):R D:=match ρ[i]? with
 | some (some (.val d))=>.ok d
 | _=>un
theorem Gb {ρ:aq} {i:Nat} {d:D} (h:ui ρ i=.ok d):ρ[i]?=some (some (.val d)):=by
 unfold ui at h
 split at h
 ·rename_i e; cases h; exact e
 ·cases h
def ah (i:Nat):FX:=fun ρ=>ui ρ i
def fC (d:D):FX:=fun _=>.ok d
section
variable {X:Cx}
theorem vJ {σ:St} {O:List RP} {H:Hp} {ρ:aq} {i:Nat} {Q:D->Prop} (h:jF X σ O H (ui ρ i) Q):∃ d,ρ[i]?=some (some (.val d))/\Q d:=by
 cases e:ui ρ i with
 | ok d=>rw [e] at h; exact⟨d,Gb e,h⟩
 | error z =>
  rw [e] at h
  cases z with
  | none=>exact h.elim
  | some x =>
   exfalso
   unfold ui at e
   split at e
   ·cases e
   ·have:=Except.error.inj e; cases this
theorem Mu {i:Nat} {x:Str} {pos:Pos} (h:PE X (.Name x pos) (tJ i)):FE X (.Name x pos) (ah i) :=
 PE.weak h fun σ H Q ⟨O,ρ,E,hF⟩=>by
  obtain⟨d,e,q⟩:=vJ hF
  obtain⟨v,e,dv⟩:=E.val i d e
  exact⟨v,e,q v H (bj.refl H) dv⟩
theorem tU {e:R4} {d:D} {v:V} (h:PE X e (tC v)) (hd:∀ K H,cN K H d v):FE X e (fC d) :=
 PE.weak h fun σ H Q ⟨O,ρ,E,q⟩=>q v H (bj.refl H) (hd _ _)
theorem Mp {i j pos}:FE X (.Constant (.int i) j pos) (fC (.int i)):=tU Hx fun _ _=>fN.mpr rfl
theorem Ng {b j pos}:FE X (.Constant (.bool b) j pos) (fC (.bl b)):=tU Jo fun _ _=>mJ.mpr rfl
theorem Lz {x j pos}:FE X (.Constant (.str x) j pos) (fC (.str x)):=tU IH fun _ _=>fP.mpr rfl

def noStar:R4->Bool
 | .Starred _ _=>false
 | _=>true
theorem dj {e:R4} {es:List R4} {env:Env} (h:noStar e=true):R5 (e::es) env=(false,eval e env)::R5 es env:=by
 cases e <;> first | rfl | cases h
theorem gz {pos:Pos} {env:Env}:∀ {es:List R4},es.all noStar=true->(backTo pos (R5 es env)).any (·.1)=false
 | [],_=>rfl
 | e::es,h=>by
  rw [O5,OD] at h
  rw [dj h.1]
  exact gz h.2
def aw:aq->R (List D):=fun _=>.ok []
def af (f:FX) (g:aq->R (List D)):aq->R (List D):=fun ρ=>(f ρ).bind fun x=>(g ρ).bind fun xs=>.ok (x::xs)
theorem IL:FA X [] aw:=PA.weak qz fun σ H Q ⟨O,ρ,E,q⟩=>q [] H (bj.refl H) (dh.mpr rfl)
theorem bind_some {α β:Type} {o:Option α} {f:α->Option β} {b:β} (h:o.bind f=some b):∃ a,o=some a/\f a=some b:=by
 cases o with
 | none=>cases h
 | some a=>exact⟨a,rfl,h⟩
theorem rN {ε α β:Type} {o:Except ε α} {f:α->Except ε β} {b:β} (h:o.bind f=.ok b):∃ a,o=.ok a/\f a=.ok b:=by
 cases o with
 | error _=>cases h
 | ok a=>exact⟨a,rfl,h⟩
theorem Gs {e:R4} {es:List R4} {f:FX} {g:aq->R (List D)} (he:FE X e f) (hs:FA X es g) (hns:noStar e=true:=by rfl):FA X (e::es) (af f g) :=
 PA.weak (kY he hs (dj hns)) fun σ H Q ⟨O,ρ,E,h⟩ =>
  ⟨O,ρ,E,(jF.bind h).imp fun x h v H1 s1 d1=>⟨O,ρ,E.same s1,((jF.bind h).mono s1).imp fun xs q vs H2 s2 d2=>q (v::vs) H2 (s1.trans s2) (bz.mpr ⟨v,vs,rfl,d1.mono (bX s2),d2⟩)⟩⟩
def small (n:Nat):Bool:=decide (n<=100000)
theorem eE {n:Nat} (h:small n=true):n<=RU:=N1 (of_decide_eq_true h) (by decide)
theorem dE {n:Nat} (h:n<=100000):small n=true:=decide_eq_true h
def vt (xs:List D):Option D:=if small xs.length then some (.tup xs) else none
def kK (xs:List D):Option D:=if small xs.length then some (.lst xs) else none
def dG (g:aq->R (List D)):FX:=fun ρ=>(g ρ).bind fun xs=>rO (vt xs)
def jp (g:aq->R (List D)):FX:=fun ρ=>(g ρ).bind fun xs=>rO (kK xs)
theorem bE {α:Type} {c:Bool} {a b:α} (h:(if c then some a else none)=some b):c=true/\a=b:=by
 cases c with
 | true=>exact⟨rfl,Option.some.inj h⟩
 | false=>cases h
theorem eW {K:QN} {H:Hp} {O:List RP} {p:RP} {ds:List D} {vs:List V} (hO:eB H O) (hp:H p=none) (d:aZ K (hid H O) ds vs):cN K (hid (upd H p (.tup vs)) O) (.tup ds) (.ref p) :=
 cB.mpr ⟨p,vs,rfl,by rw [jX (hO.not hp),aL],d.mono (rB hp)⟩
theorem dC {K:QN} {H:Hp} {O:List RP} {p:RP} {ds:List D} {vs:List V} (hO:eB H O) (hp:H p=none) (d:aZ K (hid H O) ds vs):cN K (hid (upd H p (.lst vs)) O) (.lst ds) (.ref p) :=
 cA.mpr ⟨p,vs,rfl,oO.of (by rw [jX (hO.not hp),aL]),d.mono (rB hp)⟩
theorem M8 {es:List R4} {g:aq->R (List D)} {k pos} (h:FA X es g):FE X (.Tuple es k pos) (dG g) :=
 PE.weak (Hr h) fun σ H Q ⟨O,ρ,E,hF⟩=>⟨O,ρ,E,(jF.bind hF).imp fun xs hF vs H1 s1 d1=>by
  obtain⟨d,e,q⟩:=jF.rO hF
  obtain⟨hz,e⟩:=bE e
  subst e
  refine⟨by rw [<- d1.length]; exact eE hz,fun p hp=>?_⟩
  exact q _ _ (s1.trans (bF hp _)) (eW (E.all.same s1) hp d1)⟩
theorem Lw {es:List R4} {g:aq->R (List D)} {pos} (h:FA X es g):FE X (.List es pos) (jp g) :=
 PE.weak (zF h) fun σ H Q ⟨O,ρ,E,hF⟩=>⟨O,ρ,E,(jF.bind hF).imp fun xs hF vs H1 s1 d1=>by
  obtain⟨d,e,q⟩:=jF.rO hF
  obtain⟨hz,e⟩:=bE e
  subst e
  refine⟨by rw [<- d1.length]; exact eE hz,fun p hp=>?_⟩
  exact q _ _ (s1.trans (bF hp _)) (dC (E.all.same s1) hp d1)⟩

def Fs (K:QN) (r:V->Hp->VK->Prop) (g:D->Option D):Prop :=
 ∀ (a d:D) (x:V) (O:List RP) (H:Hp) (Q:VK),eB H O->g a=some d->cN K (hid H O) a x->(∀ v H',bj H H'->cN K (hid H' O) d v->Q v H')->r x H Q
def f1 (g:D->Option D) (f:FX):FX:=fun ρ=>(f ρ).bind fun a=>rO (g a)
def eY (K:QN) (r:R2) (g:D->D->Option D):Prop :=
 ∀ (a b d:D) (x y:V) (O:List RP) (H:Hp) (Q:VK),eB H O->g a b=some d->cN K (hid H O) a x->cN K (hid H O) b y->(∀ v H',bj H H'->cN K (hid H' O) d v->Q v H')->r x y H Q
def f2 (g:D->D->Option D) (f1 f2:FX):FX:=fun ρ=>(f1 ρ).bind fun a=>(f2 ρ).bind fun b=>rO (g a b)
theorem xr {r:R2} {g:D->D->Option D} {fa fb:FX} (s:eY X.K r g):∀ σ H Q,tF X (f2 g fa fb) σ H Q->JU r (tF X fa) (tF X fb) σ H Q:=fun σ H Q ⟨O,ρ,E,hF⟩ =>
 ⟨O,ρ,E,(jF.bind hF).imp fun a hF x H1 s1 d1=>⟨O,ρ,E.same s1,((jF.bind hF).mono s1).imp fun b hF y H2 s2 d2=>by
  obtain⟨d,e,q⟩:=jF.rO hF
  exact s a b d x y O H2 Q (E.all.same (s1.trans s2)) e (d1.mono (bX s2)) d2 fun v H3 s3 d3=>q v H3 ((s1.trans s2).trans s3) d3⟩⟩
theorem Mx {a b:R4} {op:Operator} {r:R2} {g:D->D->Option D} {fa fb:FX} {pos:Pos} (ho:lX X (Sl op) r) (s:eY X.K r g) (ha:FE X a fa) (hb:FE X b fb):FE X (.BinOp a op b pos) (f2 g fa fb) :=
 PE.weak (JK ho ha hb) (xr s)
theorem MM {a b:R4} {op:CmpOp} {r:R2} {g:D->D->Option D} {fa fb:FX} {pos:Pos} (ho:lX X (Sn op) r) (s:eY X.K r g) (ha:FE X a fa) (hb:FE X b fb) (hm:Sq op b=false):FE X (.Compare a [op] [b] pos) (f2 g fa fb) :=
 PE.weak (Gc ho ha hb hm) (xr s)
def Mz:D->Option Bool
 | .bl b=>some b
 | _=>none
def fB (f:FX):aq->R Bool:=fun ρ=>(f ρ).bind fun d=>rO (Mz d)
theorem D8 {t:TE} {f:FX} (h:∀ σ H Q,tF X f σ H Q->t σ H Q):∀ σ H Q,Ky X (fB f) σ H Q->GY t σ H Q:=fun σ H Q ⟨O,ρ,E,hF⟩ =>
 h σ H _ ⟨O,ρ,E,(jF.bind hF).imp fun d hF v H1 s1 d1=>by
  obtain⟨b,e,q⟩:=jF.rO hF
  cases d with
  | bl b' =>
   cases e
   exact⟨b,mJ.mp d1,q H1 s1⟩
  | _=>cases e⟩
theorem My {a b:R4} {op:CmpOp} {r:R2} {g:D->D->Option D} {fa fb:FX} {pos:Pos} (ho:lX X (Sn op) r) (s:eY X.K r g) (ha:FE X a fa) (hb:FE X b fb) (hm:Sq op b=false):FT X (.Compare a [op] [b] pos) (fB (f2 g fa fb)) :=
 PT.weak (Gq ho ha hb hm) (D8 (xr s))

def A3 (K:QN) (r:List V->Hp->VK->Prop) (g:List D->Option D):Prop :=
 ∀ (ds:List D) (d:D) (xs:List V) (O:List RP) (H:Hp) (Q:VK),eB H O->g ds=some d->aZ K (hid H O) ds xs->(∀ v H',bj H H'->cN K (hid H' O) d v->Q v H')->r xs H Q
def fL (g:List D->Option D) (f:aq->R (List D)):FX:=fun ρ=>(f ρ).bind fun ds=>rO (g ds)
def fR (g:List D->R D) (f:aq->R (List D)):FX:=fun ρ=>(f ρ).bind g
theorem Eh {r:List V->Hp->VK->Prop} {g:List D->Option D} {f:aq->R (List D)} (s:A3 X.K r g):∀ σ H Q,tF X (fL g f) σ H Q->MN r (K9 X f) σ H Q:=fun σ H Q ⟨O,ρ,E,hF⟩ =>
 ⟨O,ρ,E,(jF.bind hF).imp fun ds hF vs H1 s1 d1=>by
  obtain⟨d,e,q⟩:=jF.rO hF
  exact s ds d vs O H1 Q (E.all.same s1) e d1 fun v H2 s2 d2=>q v H2 (s1.trans s2) d2⟩

def zN (f:aq->R Bool):aq->R Bool:=fun ρ=>(f ρ).bind fun b=>.ok (!b)
def MT (f g:aq->R Bool):aq->R Bool:=fun ρ=>(f ρ).bind fun b=>if b then g ρ else .ok false
def G4 (f g:aq->R Bool):aq->R Bool:=fun ρ=>(f ρ).bind fun b=>if b then .ok true else g ρ
variable {a b c:R4} {rest:List R4} {pos:Pos} {f g:aq->R Bool}
theorem M6 (h:FT X a f):FT X (.UnaryOp .Not a pos) (zN f):=PT.weak (Id h) fun σ H Q ⟨O,ρ,E,hF⟩=>⟨O,ρ,E,(jF.bind hF).imp fun b q H1 s1=>q H1 s1⟩
theorem Mq (h:FT X a f):FW X (.BoolOp .Or [a] pos) f:=HG h
theorem Nv (ha:FT X a f) (hb:FW X (.BoolOp .Or (b::rest) pos) g):FW X (.BoolOp .Or (a::b::rest) pos) (G4 f g):=PW.weak (Ku ha hb) fun σ H Q ⟨O,ρ,E,hF⟩=>⟨O,ρ,E,(jF.bind hF).imp fun c hF H1 s1=>by
 cases c with
 | false=>exact EZ ⟨O,ρ,E.same s1,(hF.mono s1).imp fun b q H2 s2=>q H2 (s1.trans s2)⟩
 | true=>exact Gg (hF H1 s1)⟩
theorem FW.ft {e:R4} (h:FW X e f):FT X e f:=PW.pt h
def truth:D->Option Bool
 | .non=>some false
 | .bl b=>some b
 | .int i=>some (i != 0)
 | .str x=>if small x.length then some (x.length != 0) else none
 | .tup xs=>some (!xs.isEmpty)
 | .lst xs=>some (!xs.isEmpty)
 | _=>none
def iN (f:FX):aq->R Bool:=fun ρ=>(f ρ).bind fun d=>rO (truth d)

def zi (d:D) (k:R D):R D:=match d with
 | .bl true=>k
 | .bl false=>.ok (.bl false)
 | _=>un
def JL (d:D) (k:R D):R D:=match d with
 | .bl false=>k
 | .bl true=>.ok (.bl true)
 | _=>un
def zj:D->Option D
 | .bl b=>some (.bl (!b))
 | _=>none
def o0 (f g:FX):FX:=fun ρ=>(f ρ).bind fun d=>zi d (g ρ)
def Mg (f g:FX):FX:=fun ρ=>(f ρ).bind fun d=>JL d (g ρ)
def J1 (f:FX):FX:=f1 zj f
variable {fa fb:FX}
theorem LJ {op} (h:FE X a fa):FE X (.BoolOp op [a] pos) fa:=Ht h
theorem LU (ha:FE X a fa) (hb:FE X (.BoolOp .And (b::rest) pos) fb):FE X (.BoolOp .And (a::b::rest) pos) (o0 fa fb):=PE.weak (IK ha hb) fun σ H Q ⟨O,ρ,E,hF⟩=>⟨O,ρ,E,(jF.bind hF).imp fun d hF x H1 s1 d1=>by
 cases d with
 | bl c =>
  refine⟨c,mJ.mp d1,?_⟩
  cases c with
  | true=>exact Gg ⟨O,ρ,E.same s1,(hF.mono s1).imp fun d q v H2 s2 d2=>q v H2 (s1.trans s2) d2⟩
  | false=>exact EZ (hF _ H1 s1 (mJ.mpr rfl))
 | _=>exact hF.elim⟩
def NM (t:aq->R Bool) (f g:FX):FX:=fun ρ=>(t ρ).bind fun c=>if c then f ρ else g ρ
end
end TG
namespace TG
open PySem PySem.Spec L2
variable [aV]
open PySem.SeqAt (EqAt RcAt RcNeAt)

mutual
def pyEq:D->D->Bool
 | .non,.non=>true
 | .bl a,.bl b=>a==b
 | .bl a,.int b=>(if a then 1 else 0)==b
 | .int a,.bl b=>a==(if b then 1 else 0)
 | .int a,.int b=>a==b
 | .str a,.str b=>a==b
 | .tup xs,.tup ys=>fZ xs ys
 | .lst xs,.lst ys=>fZ xs ys
 | .dct _ _,.dct _ _=>true
 | .obj _ _ _,.obj _ _ _=>true
 | .exc _ _ _,.exc _ _ _=>true
 | _,_=>false
def fZ:List D->List D->Bool
 | [],[]=>true
 | x::xs,y::ys=>pyEq x y && fZ xs ys
 | _,_=>false
end
mutual
theorem ji:∀ d:D,pyEq d d=true
 | .non=>by unfold pyEq; rfl
 | .bl b=>by unfold pyEq; simp
 | .int i=>by unfold pyEq; simp
 | .str x=>by unfold pyEq; simp
 | .tup xs=>by unfold pyEq; exact oE xs
 | .lst xs=>by unfold pyEq; exact oE xs
 | .dct _ _=>by unfold pyEq; rfl
 | .obj _ _ _=>by unfold pyEq; rfl
 | .exc _ _ _=>by unfold pyEq; rfl
theorem oE:∀ ds:List D,fZ ds ds=true
 | []=>by unfold fZ; rfl
 | d::ds=>by unfold fZ; rw [ji d,oE ds]; rfl
end
def Af (xs ys:List D) (j:Nat):Bool:=match xs[j]?,ys[j]? with
 | some a,some b=>pyEq a b
 | _,_=>false
theorem gZ:∀ xs ys:List D,((List.range (min xs.length ys.length)).all (Af xs ys) && xs.length==ys.length)=fZ xs ys
 | [],[]=>by unfold fZ; rfl
 | [],_::_=>by unfold fZ; simp
 | _::_,[]=>by unfold fZ; simp
 | x::xs,y::ys=>by
  have ih:=gZ xs ys
  conv=>rhs; unfold fZ
  rw [<- ih]
  have e:min (x::xs).length (y::ys).length=min xs.length ys.length+1:=by simp only [Oh]; omega
  rw [e,List.range_succ_eq_map,O5,List.all_map]
  have e2:((x::xs).length==(y::ys).length)=(xs.length==ys.length):=by simp
  rw [e2,Bool.and_assoc]
  have e3:(List.range (min xs.length ys.length)).all (Af (x::xs) (y::ys) ∘ Nat.succ)=(List.range (min xs.length ys.length)).all (Af xs ys):=by
   congr 1
  rw [e3]
  rfl
mutual
def pl:D->Bool
 | .tup xs=>m7 xs
 | .lst xs=>m7 xs
 | .dct _ _=>false
 | .obj _ _ _=>false
 | .exc _ _ _=>false
 | _=>true
def m7:List D->Bool
 | []=>true
 | x::xs=>pl x && m7 xs
end
theorem gO {ks vs:List D} (h:pl (.dct ks vs)=true):False:=by unfold pl at h; cases h
theorem gY {c:Str} {fs:List Str} {vs:List D} (h:pl (.obj c fs vs)=true):False:=by unfold pl at h; cases h
theorem g9 {c:Str} {fs:List Str} {vs:List D} (h:pl (.exc c fs vs)=true):False:=by unfold pl at h; cases h
theorem nN:∀ {xs:List D},m7 xs=true->∀ x∈xs,pl x=true
 | [],_,_,h=>nomatch h
 | x::xs,h,y,hy=>by
  unfold m7 at h
  rw [OD] at h
  rcases List.mem_cons.mp hy with z | z
  ·rw [z]; exact h.1
  ·exact nN h.2 y z
theorem oK:∀ {xs:List D},(∀ x∈xs,pl x=true)->m7 xs=true
 | [],_=>by unfold m7; rfl
 | x::xs,h=>by
  unfold m7
  rw [OD]
  exact⟨h x N4,oK fun y hy=>h y (N5 _ hy)⟩
theorem cZ {xs:List D}:pl (.tup xs)=m7 xs:=by rw [pl]
theorem fD {xs:List D}:pl (.lst xs)=m7 xs:=by rw [pl]
def dN:Nat->D->Bool
 | n+1,.tup xs=>xs.all (dN n)
 | n+1,.lst xs=>xs.all (dN n)
 | 0,.tup _=>false
 | 0,.lst _=>false
 | _,.dct _ _=>false
 | _,.obj _ _ _=>false
 | _,.exc _ _ _=>false
 | _,_=>true

section
variable {X:Cx} {pins:List (RP×Obj)} {σ:St} {H:Hp} {s:R0}
theorem Inv.not_both (I:Inv X pins σ H s) {a:RP} {xs ys:List V} (h:pR X.K H a xs) (h':oO X.K H a ys):False:=by
 obtain⟨its,_,ht,_⟩:=I.tuple h
 obtain⟨its2,_,hl,_⟩:=I.list h'
 exact absurd rfl (SeqAt.ne_of_list_tuple hl.isList (show s.heap.IsTuple a its.toArray from ht))
mutual
theorem Inv.den_inj (I:Inv X pins σ H s):∀ {a b:D} {v:V},pl a=true->pl b=true->cN X.K H a v->cN X.K H b v->a=b
 | .non,b,v,pa,pb,h,h'=>by
  rw [kU] at h; subst h
  cases b with
  | non=>rfl
  | bl _=>rw [mJ] at h'; cases h'
  | int _=>rw [fN] at h'; cases h'
  | str _=>rw [fP] at h'; cases h'
  | tup _=>rw [cB] at h'; obtain⟨_,_,e,_⟩:=h'; cases e
  | lst _=>rw [cA] at h'; obtain⟨_,_,e,_⟩:=h'; cases e
  | dct _ _=>exact(gO pb).elim
  | obj _ _ _=>exact(gY pb).elim
  | exc _ _ _=>exact(g9 pb).elim
 | .bl x,b,v,pa,pb,h,h'=>by
  rw [mJ] at h; subst h
  cases b with
  | non=>rw [kU] at h'; cases h'
  | bl _=>rw [mJ] at h'; cases h'; rfl
  | int _=>rw [fN] at h'; cases h'
  | str _=>rw [fP] at h'; cases h'
  | tup _=>rw [cB] at h'; obtain⟨_,_,e,_⟩:=h'; cases e
  | lst _=>rw [cA] at h'; obtain⟨_,_,e,_⟩:=h'; cases e
  | dct _ _=>exact(gO pb).elim
  | obj _ _ _=>exact(gY pb).elim
  | exc _ _ _=>exact(g9 pb).elim
 | .int x,b,v,pa,pb,h,h'=>by
  rw [fN] at h; subst h
  cases b with
  | non=>rw [kU] at h'; cases h'
  | bl _=>rw [mJ] at h'; cases h'
  | int _=>rw [fN] at h'; cases h'; rfl
  | str _=>rw [fP] at h'; cases h'
  | tup _=>rw [cB] at h'; obtain⟨_,_,e,_⟩:=h'; cases e
  | lst _=>rw [cA] at h'; obtain⟨_,_,e,_⟩:=h'; cases e
  | dct _ _=>exact(gO pb).elim
  | obj _ _ _=>exact(gY pb).elim
  | exc _ _ _=>exact(g9 pb).elim
 | .str x,b,v,pa,pb,h,h'=>by
  rw [fP] at h; subst h
  cases b with
  | non=>rw [kU] at h'; cases h'
  | bl _=>rw [mJ] at h'; cases h'
  | int _=>rw [fN] at h'; cases h'
  | str _=>rw [fP] at h'; cases h'; rfl
  | tup _=>rw [cB] at h'; obtain⟨_,_,e,_⟩:=h'; cases e
  | lst _=>rw [cA] at h'; obtain⟨_,_,e,_⟩:=h'; cases e
  | dct _ _=>exact(gO pb).elim
  | obj _ _ _=>exact(gY pb).elim
  | exc _ _ _=>exact(g9 pb).elim
 | .tup xs,b,v,pa,pb,h,h'=>by
  rw [cB] at h
  obtain⟨a,vs,e,h1,h2⟩:=h
  subst e
  cases b with
  | non=>rw [kU] at h'; cases h'
  | bl _=>rw [mJ] at h'; cases h'
  | int _=>rw [fN] at h'; cases h'
  | str _=>rw [fP] at h'; cases h'
  | tup ys =>
   rw [cB] at h'
   obtain⟨a',vs',e,h1',h2'⟩:=h'
   cases e
   have ev:=I.tuple_inj (pR.of h1) (pR.of h1')
   subst ev
   rw [Inv.denL_inj I (by first | rw [<- cZ]; exact pa | rw [<- fD]; exact pa) (by first | rw [<- cZ]; exact pb | rw [<- fD]; exact pb) h2 h2']
  | lst _=>rw [cA] at h'; obtain⟨_,_,e,h1',_⟩:=h'; cases e; exact(Inv.not_both I (pR.of h1) h1').elim
  | dct _ _=>exact(gO pb).elim
  | obj _ _ _=>exact(gY pb).elim
  | exc _ _ _=>exact(g9 pb).elim
 | .lst xs,b,v,pa,pb,h,h'=>by
  rw [cA] at h
  obtain⟨a,vs,e,h1,h2⟩:=h
  subst e
  cases b with
  | non=>rw [kU] at h'; cases h'
  | bl _=>rw [mJ] at h'; cases h'
  | int _=>rw [fN] at h'; cases h'
  | str _=>rw [fP] at h'; cases h'
  | lst ys =>
   rw [cA] at h'
   obtain⟨a',vs',e,h1',h2'⟩:=h'
   cases e
   have ev:=I.list_inj h1 h1'
   subst ev
   rw [Inv.denL_inj I (by first | rw [<- cZ]; exact pa | rw [<- fD]; exact pa) (by first | rw [<- cZ]; exact pb | rw [<- fD]; exact pb) h2 h2']
  | tup _=>rw [cB] at h'; obtain⟨_,_,e,h1',_⟩:=h'; cases e; exact(Inv.not_both I (pR.of h1') h1).elim
  | dct _ _=>exact(gO pb).elim
  | obj _ _ _=>exact(gY pb).elim
  | exc _ _ _=>exact(g9 pb).elim
 | .dct _ _,_,_,pa,_,_,_=>(gO pa).elim
 | .obj _ _ _,_,_,pa,_,_,_=>(gY pa).elim
 | .exc _ _ _,_,_,pa,_,_,_=>(g9 pa).elim
theorem Inv.denL_inj (I:Inv X pins σ H s):∀ {as bs:List D} {vs:List V},m7 as=true->m7 bs=true->aZ X.K H as vs->aZ X.K H bs vs->as=bs
 | [],bs,vs,pa,pb,h,h'=>by
  rw [dh] at h; subst h
  cases bs with
  | nil=>rfl
  | cons b bs=>rw [bz] at h'; obtain⟨_,_,e,_⟩:=h'; cases e
 | a::as,bs,vs,pa,pb,h,h'=>by
  rw [bz] at h
  obtain⟨v,r,e,h1,h2⟩:=h
  subst e
  cases bs with
  | nil=>rw [dh] at h'; cases h'
  | cons b bs =>
   rw [bz] at h'
   obtain⟨v',r',e,h1',h2'⟩:=h'
   cases e
   unfold m7 at pa pb
   rw [OD] at pa pb
   rw [Inv.den_inj I pa.1 pb.1 h1 h1',Inv.denL_inj I pa.2 pb.2 h2 h2']
end

def om:D->Option V
 | .non=>some .non
 | .bl b=>some (.bl b)
 | .int i=>some (.int i)
 | .str x=>some (.str x)
 | _=>none
theorem qo {K:QN} {d:D} {v x:V} (h:om d=some x) (hd:cN K H d v):v=x/\Dk x=true:=by
 cases d with
 | non=>cases h; exact⟨kU.mp hd,rfl⟩
 | bl b=>cases h; exact⟨mJ.mp hd,rfl⟩
 | int i=>cases h; exact⟨fN.mp hd,rfl⟩
 | str y=>cases h; exact⟨fP.mp hd,rfl⟩
 | _=>cases h
theorem Fc {a b:D} {x y:V} (ha:om a=some x) (hb:om b=some y):L5 x y=pyEq a b:=by
 cases a <;> cases ha <;> cases b <;> cases hb <;> (unfold pyEq L5; rfl)
theorem x5 {a:D} {x:V} (n:Nat) (h:om a=some x):dN n a=true:=by
 cases a with
 | tup _=>cases h
 | lst _=>cases h
 | dct _ _=>cases h
 | obj _ _ _=>cases h
 | exc _ _ _=>cases h
 | _=>cases n <;> rfl
theorem x8 {a:D} (h:om a=none):dN 0 a=false:=by
 cases a with
 | tup _=>rfl
 | lst _=>rfl
 | dct _ _=>rfl
 | obj _ _ _=>rfl
 | exc _ _ _=>rfl
 | _=>cases h
theorem in1_units (A:RZ):A.in1.units=A.units+1:=rfl
theorem oW {vs:List V} {us:List RM} (r:Vals vs us) {j:Nat} (h:j < us.toArray.size):∃ x,vs[j]?=some x/\RelV x us.toArray[j]:=by
 have hj:j < us.length:=by simpa using h
 have hl:=r.length
 have hv:j < vs.length:=by omega
 obtain⟨u,e,ru⟩:=r.get (i:=j) (x:=vs[j]) (by simp [hv])
 refine⟨vs[j],by simp [hv],?_⟩
 have e2:us.toArray[j]=u:=by
  rw [O6 hj] at e
  simpa using Option.some.inj e
 rw [e2]; exact ru
theorem oX {K:QN} {ds:List D} {vs:List V} (h:aZ K H ds vs) {j:Nat} {x:V} (e:vs[j]?=some x):∃ d,ds[j]?=some d/\cN K H d x:=by
 have hj:j < vs.length:=(List.getElem?_eq_some_iff.mp e).1
 have hl:=h.length
 have hd:j < ds.length:=by omega
 obtain⟨v,e1,e2⟩:=h.get (i:=j) (d:=ds[j]) (by simp [hd])
 rw [e] at e1; cases e1
 exact⟨ds[j],by simp [hd],e2⟩

theorem C3 (I:Inv X pins σ H s):∀ (n:Nat) (a b:D) (x y:V) (u v:RM) (A:RZ),pl a=true->pl b=true->(dN n a=true\/dN n b=true)->cN X.K H a x->cN X.K H b y->RelV x u->RelV y v->A.units+n < Sy->EqAt A s u v (pyEq a b):=by
 intro n
 induction n with
 | zero =>
  intro a b x y u v A pa pb hd ha hb ru rv hA
  have hu:A.units < Sy:=hA
  cases ha':om a with
  | some x' =>
   obtain⟨e,f⟩:=qo ha' ha
   subst e
   cases hb':om b with
   | some y' =>
    obtain⟨e,f'⟩:=qo hb' hb
    subst e
    rw [<- Fc ha' hb']
    exact HD ru rv f f'
   | none =>
    cases b with
    | tup ys =>
     rw [cB] at hb
     obtain⟨p,vs,e,h1,h2⟩:=hb
     subst e
     cases rv
     obtain⟨its,_,ht,_⟩:=I.tuple (pR.of h1)
     have ht':s.heap.IsTuple p its.toArray:=ht
     cases a with
     | non=>cases ha'; cases ru; unfold pyEq; exact .none_tuple ht' hu
     | bl z=>cases ha'; cases ru; unfold pyEq; exact .bool_tuple z ht' hu
     | int z=>cases ha'; obtain⟨t,rfl⟩:=ru; unfold pyEq; exact .int_tuple z t ht' hu
     | str z=>cases ha'; obtain⟨t,rfl⟩:=ru; unfold pyEq; exact .str_tuple z t ht' hu
     | _=>cases ha'
    | lst ys =>
     rw [cA] at hb
     obtain⟨p,vs,e,h1,h2⟩:=hb
     subst e
     cases rv
     obtain⟨its,_,ht,_⟩:=I.list h1
     have ht':s.heap.IsList p its.toArray:=ht.isList
     cases a with
     | non=>cases ha'; cases ru; unfold pyEq; exact .none_list ht' hu
     | bl z=>cases ha'; cases ru; unfold pyEq; exact .bool_list z ht' hu
     | int z=>cases ha'; obtain⟨t,rfl⟩:=ru; unfold pyEq; exact .int_list z t ht' hu
     | str z=>cases ha'; obtain⟨t,rfl⟩:=ru; unfold pyEq; exact .str_list z t ht' hu
     | _=>cases ha'
    | dct _ _=>exact(gO pb).elim
    | obj _ _ _=>exact(gY pb).elim
    | exc _ _ _=>exact(g9 pb).elim
    | _=>cases hb'
  | none =>
   have hdb:dN 0 b=true:=by
    rcases hd with hd | hd
    ·rw [x8 ha'] at hd; cases hd
    ·exact hd
   cases hb':om b with
   | none=>rw [x8 hb'] at hdb; cases hdb
   | some y' =>
    obtain⟨e,f'⟩:=qo hb' hb
    subst e
    cases a with
    | tup xs =>
     rw [cB] at ha
     obtain⟨p,vs,e,h1,h2⟩:=ha
     subst e
     cases ru
     obtain⟨its,_,ht,_⟩:=I.tuple (pR.of h1)
     have ht':s.heap.IsTuple p its.toArray:=ht
     cases b with
     | non=>cases hb'; cases rv; unfold pyEq; exact .tuple_none ht' hu
     | bl z=>cases hb'; cases rv; unfold pyEq; exact .tuple_bool z ht' hu
     | int z=>cases hb'; obtain⟨t,rfl⟩:=rv; unfold pyEq; exact .tuple_int z t ht' hu
     | str z=>cases hb'; obtain⟨t,rfl⟩:=rv; unfold pyEq; exact .tuple_str z t ht' hu
     | _=>cases hb'
    | lst xs =>
     rw [cA] at ha
     obtain⟨p,vs,e,h1,h2⟩:=ha
     subst e
     cases ru
     obtain⟨its,_,ht,_⟩:=I.list h1
     have ht':s.heap.IsList p its.toArray:=ht.isList
     cases b with
     | non=>cases hb'; cases rv; unfold pyEq; exact .list_none ht' hu
     | bl z=>cases hb'; cases rv; unfold pyEq; exact .list_bool z ht' hu
     | int z=>cases hb'; obtain⟨t,rfl⟩:=rv; unfold pyEq; exact .list_int z t ht' hu
     | str z=>cases hb'; obtain⟨t,rfl⟩:=rv; unfold pyEq; exact .list_str z t ht' hu
     | _=>cases hb'
    | dct _ _=>exact(gO pa).elim
    | obj _ _ _=>exact(gY pa).elim
    | exc _ _ _=>exact(g9 pa).elim
    | _=>cases ha'
 | succ n ih =>
  intro a b x y u v A pa pb hd ha hb ru rv hA
  have hu:A.units < Sy:=by omega
  have flatWay:(∀ xs ys,¬ (a=.tup xs/\b=.tup ys))->(∀ xs ys,¬ (a=.lst xs/\b=.lst ys))->EqAt A s u v (pyEq a b):=by
   intro n1 n2
   cases ha':om a with
   | some x'=>exact ih a b x y u v A pa pb (.inl (x5 n ha')) ha hb ru rv ‹0›
   | none =>
    cases hb':om b with
    | some y'=>exact ih a b x y u v A pa pb (.inr (x5 n hb')) ha hb ru rv ‹0›
    | none =>
     cases a with
     | tup xs =>
      cases b with
      | tup ys=>exact absurd ⟨rfl,rfl⟩ (n1 xs ys)
      | lst ys =>
       rw [cB] at ha
       obtain⟨p,vs,e,h1,h2⟩:=ha
       subst e
       rw [cA] at hb
       obtain⟨p',vs',e,h1',h2'⟩:=hb
       subst e
       cases ru
       cases rv
       obtain⟨its,_,ht,_⟩:=I.tuple (pR.of h1)
       obtain⟨its2,_,ht2,_⟩:=I.list h1'
       unfold pyEq
       exact .tuple_list (show s.heap.IsTuple p its.toArray from ht) ht2.isList hu
      | dct _ _=>exact(gO pb).elim
      | obj _ _ _=>exact(gY pb).elim
      | exc _ _ _=>exact(g9 pb).elim
      | _=>cases hb'
     | lst xs =>
      cases b with
      | lst ys=>exact absurd ⟨rfl,rfl⟩ (n2 xs ys)
      | tup ys =>
       rw [cA] at ha
       obtain⟨p,vs,e,h1,h2⟩:=ha
       subst e
       rw [cB] at hb
       obtain⟨p',vs',e,h1',h2'⟩:=hb
       subst e
       cases ru
       cases rv
       obtain⟨its,_,ht,_⟩:=I.list h1
       obtain⟨its2,_,ht2,_⟩:=I.tuple (pR.of h1')
       unfold pyEq
       exact .list_tuple ht.isList (show s.heap.IsTuple p' its2.toArray from ht2) hu
      | dct _ _=>exact(gO pb).elim
      | obj _ _ _=>exact(gY pb).elim
      | exc _ _ _=>exact(g9 pb).elim
      | _=>cases hb'
     | dct _ _=>exact(gO pa).elim
     | obj _ _ _=>exact(gY pa).elim
     | exc _ _ _=>exact(g9 pa).elim
     | _=>cases ha'
  have items:∀ (xs ys:List D) (vs vs':List V) (its its':List RM),m7 xs=true->m7 ys=true->(dN (n+1) (.tup xs)=true\/dN (n+1) (.tup ys)=true)->aZ X.K H xs vs->aZ X.K H ys vs'->Vals vs its->Vals vs' its' ->
    ∀ j (h1:j < its.toArray.size) (h2:j < its'.toArray.size),EqAt A.in1 s its.toArray[j] its'.toArray[j] (Af xs ys j):=by
   intro xs ys vs vs' its its' px py hdd hx hy rx ry j h1 h2
   obtain⟨w1,e1,r1⟩:=oW rx h1
   obtain⟨w2,e2,r2⟩:=oW ry h2
   obtain⟨d1,f1,g1⟩:=oX hx e1
   obtain⟨d2,f2,g2⟩:=oX hy e2
   have e3:Af xs ys j=pyEq d1 d2:=by unfold Af; rw [f1,f2]
   rw [e3]
   refine ih d1 d2 w1 w2 _ _ A.in1 (nN px _ (Oz f1)) (nN py _ (Oz f2)) ?_ g1 g2 r1 r2 (by rw [in1_units]; omega)
   rcases hdd with hdd | hdd
   ·exact .inl (List.all_eq_true.mp hdd d1 (Oz f1))
   ·exact .inr (List.all_eq_true.mp hdd d2 (Oz f2))
  by_cases hT:∃ xs ys,a=.tup xs/\b=.tup ys
  ·obtain⟨xs,ys,rfl,rfl⟩:=hT
   have da:=ha
   have db:=hb
   rw [cB] at ha hb
   obtain⟨p,vs,e,h1,h2⟩:=ha
   subst e
   obtain⟨p',vs',e,h1',h2'⟩:=hb
   subst e
   cases ru
   cases rv
   by_cases hp:p=p'
   ·subst hp
    have e:=Inv.den_inj I pa pb da db
    rw [e,ji]
    exact EqAt.same _
   ·obtain⟨its,rv1,ht,_⟩:=I.tuple (pR.of h1)
    obtain⟨its2,rv2,ht2,_⟩:=I.tuple (pR.of h1')
    refine EqAt.of_refs hp ?_
    have q:=RcAt.tuples (e:=Af xs ys) (show s.heap.IsTuple p its.toArray from ht) (show s.heap.IsTuple p' its2.toArray from ht2) hu (items xs ys vs vs' its its2 (by first | rw [<- cZ]; exact pa | rw [<- fD]; exact pa) (by first | rw [<- cZ]; exact pb | rw [<- fD]; exact pb) hd h2 h2' rv1 rv2)
    have z1:its.toArray.size=xs.length:=by rw [Of,<- rv1.length,<- h2.length]
    have z2:its2.toArray.size=ys.length:=by rw [Of,<- rv2.length,<- h2'.length]
    rw [z1,z2,gZ] at q
    unfold pyEq
    exact q
  ·by_cases hL:∃ xs ys,a=.lst xs/\b=.lst ys
   ·obtain⟨xs,ys,rfl,rfl⟩:=hL
    have da:=ha
    have db:=hb
    rw [cA] at ha hb
    obtain⟨p,vs,e,h1,h2⟩:=ha
    subst e
    obtain⟨p',vs',e,h1',h2'⟩:=hb
    subst e
    cases ru
    cases rv
    by_cases hp:p=p'
    ·subst hp
     have e:=Inv.den_inj I pa pb da db
     rw [e,ji]
     exact EqAt.same _
    ·obtain⟨its,rv1,ht,_⟩:=I.list h1
     obtain⟨its2,rv2,ht2,_⟩:=I.list h1'
     refine EqAt.of_refs hp ?_
     have z1:its.toArray.size=xs.length:=by rw [Of,<- rv1.length,<- h2.length]
     have z2:its2.toArray.size=ys.length:=by rw [Of,<- rv2.length,<- h2'.length]
     have er:=gZ xs ys
     by_cases hz:its.toArray.size=its2.toArray.size
     ·have q:=RcAt.lists (e:=Af xs ys) ht.isList ht2.isList hz hu (items xs ys vs vs' its its2 (by first | rw [<- cZ]; exact pa | rw [<- fD]; exact pa) (by first | rw [<- cZ]; exact pb | rw [<- fD]; exact pb) hd h2 h2' rv1 rv2)
      rw [z1] at q
      have hz':xs.length=ys.length:=by omega
      rw [<- hz',O7] at er
      simp only [beq_self_eq_true,O8] at er
      rw [er] at q
      unfold pyEq
      exact q
     ·have hne:(its.toArray.size != its2.toArray.size)=true:=by simpa using hz
      have q:=RcAt.lists_lengths (A:=A) ht.isList ht2.isList hne hu
      have hz':(xs.length==ys.length)=false:=by
       rw [z1,z2] at hz
       simpa using hz
      rw [hz',OI] at er
      unfold pyEq
      rw [<- er]
      exact q
   ·exact flatWay (fun xs ys z=>hT ⟨xs,ys,z⟩) fun xs ys z=>hL ⟨xs,ys,z⟩
end
end TG
namespace TG
open PySem PySem.Spec L2
variable [aV]
open PySem.SeqAt (EqAt RcAt RcNeAt)

section
variable {X:Cx} {pins:List (RP×Obj)} {σ:St} {H:Hp} {s:R0}
theorem rL (I:Inv X pins σ H s) {n:Nat} {xs ys:List D} {vs vs':List V} {its its':List RM} {A:RZ} (px:m7 xs=true) (py:m7 ys=true) (hdd:dN (n+1) (.tup xs)=true\/dN (n+1) (.tup ys)=true) (hx:aZ X.K H xs vs) (hy:aZ X.K H ys vs') (rx:Vals vs its) (ry:Vals vs' its') (hA:A.units+n < Sy) :
  ∀ j (h1:j < its.toArray.size) (h2:j < its'.toArray.size),EqAt A s its.toArray[j] its'.toArray[j] (Af xs ys j):=by
 intro j h1 h2
 obtain⟨w1,e1,r1⟩:=oW rx h1
 obtain⟨w2,e2,r2⟩:=oW ry h2
 obtain⟨d1,f1,g1⟩:=oX hx e1
 obtain⟨d2,f2,g2⟩:=oX hy e2
 have e3:Af xs ys j=pyEq d1 d2:=by unfold Af; rw [f1,f2]
 rw [e3]
 refine C3 I n d1 d2 w1 w2 _ _ A (nN px _ (Oz f1)) (nN py _ (Oz f2)) ?_ g1 g2 r1 r2 hA
 rcases hdd with hdd | hdd
 ·exact .inl (List.all_eq_true.mp hdd d1 (Oz f1))
 ·exact .inr (List.all_eq_true.mp hdd d2 (Oz f2))
inductive Way (I:Inv X pins σ H s):D->RM->Prop where
 | non:Way I .non .none
 | bl (b:Bool):Way I (.bl b) (.bool b)
 | int (i:Int) (t:Tok):Way I (.int i) (.int i t)
 | str (x:Str) (t:Tok):Way I (.str x) (.str x t)
 | tup {xs:List D} {p:RP} {vs:List V} {its:List RM} (h:aZ X.K H xs vs) (r:Vals vs its) (t:s.heap.IsTuple p its.toArray):Way I (.tup xs) (.ref p)
 | lst {xs:List D} {p:RP} {vs:List V} {its:List RM} (h:aZ X.K H xs vs) (r:Vals vs its) (t:s.heap.IsList p its.toArray):Way I (.lst xs) (.ref p)
def top:D->Bool
 | .dct _ _=>false
 | .obj _ _ _=>false
 | .exc _ _ _=>false
 | _=>true
theorem gu {d:D} (h:pl d=true):top d=true:=by
 cases d with
 | dct _ _=>exact(gO h).elim
 | obj _ _ _=>exact(gY h).elim
 | exc _ _ _=>exact(g9 h).elim
 | _=>rfl
theorem fW (I:Inv X pins σ H s) {d:D} {v:V} {u:RM} (pd:top d=true) (h:cN X.K H d v) (r:RelV v u):Way I d u:=by
 cases d with
 | non=>rw [kU] at h; subst h; cases r; exact .non
 | bl b=>rw [mJ] at h; subst h; cases r; exact .bl b
 | int i=>rw [fN] at h; subst h; obtain⟨t,rfl⟩:=r; exact .int i t
 | str x=>rw [fP] at h; subst h; obtain⟨t,rfl⟩:=r; exact .str x t
 | tup xs =>
  rw [cB] at h
  obtain⟨p,vs,e,h1,h2⟩:=h
  subst e
  cases r
  obtain⟨its,rv,ht,_⟩:=I.tuple (pR.of h1)
  exact .tup h2 rv ht
 | lst xs =>
  rw [cA] at h
  obtain⟨p,vs,e,h1,h2⟩:=h
  subst e
  cases r
  obtain⟨its,rv,ht,_⟩:=I.list h1
  exact .lst h2 rv ht.isList
 | dct _ _=>cases pd
 | obj _ _ _=>cases pd
 | exc _ _ _=>cases pd
theorem Hf (I:Inv X pins σ H s) {n:Nat} {a b:D} {x y:V} {u v:RM} {A:RZ} (pa:pl a=true) (pb:pl b=true) (hd:dN (n+1) a=true\/dN (n+1) b=true) (ha:cN X.K H a x) (hb:cN X.K H b y) (ru:RelV x u) (rv:RelV y v) (hA:A.units+n+1 < Sy):RcAt A s u v (pyEq a b):=by
 have hu:A.units < Sy:=by omega
 cases fW I (gu pa) ha ru with
 | non=>cases fW I (gu pb) hb rv with
  | non=>unfold pyEq; exact .none_none
  | bl b=>unfold pyEq; exact .none_bool b
  | int i t=>unfold pyEq; exact .none_int i t
  | str x t=>unfold pyEq; exact .none_str x t
  | tup h r t=>unfold pyEq; exact .none_tuple t hu
  | lst h r t=>unfold pyEq; exact .none_list t hu
 | bl z=>cases fW I (gu pb) hb rv with
  | non=>unfold pyEq; exact .bool_none z
  | bl b=>unfold pyEq; exact .bool_bool z b
  | int i t=>unfold pyEq; exact .bool_int z i t
  | str x t=>unfold pyEq; exact .bool_str z x t
  | tup h r t=>unfold pyEq; exact .bool_tuple z t hu
  | lst h r t=>unfold pyEq; exact .bool_list z t hu
 | int z tz=>cases fW I (gu pb) hb rv with
  | non=>unfold pyEq; exact .int_none z tz
  | bl b=>unfold pyEq; exact .int_bool z tz b
  | int i t=>unfold pyEq; exact .int_int z tz i t
  | str x t=>unfold pyEq; exact .int_str z tz x t
  | tup h r t=>unfold pyEq; exact .int_tuple z tz t hu
  | lst h r t=>unfold pyEq; exact .int_list z tz t hu
 | str z tz=>cases fW I (gu pb) hb rv with
  | non=>unfold pyEq; exact .str_none z tz
  | bl b=>unfold pyEq; exact .str_bool z tz b
  | int i t=>unfold pyEq; exact .str_int z tz i t
  | str x t=>unfold pyEq; exact .str_str z tz x t
  | tup h r t=>unfold pyEq; exact .str_tuple z tz t hu
  | lst h r t=>unfold pyEq; exact .str_list z tz t hu
 | @tup xs p vs its h1 r1 t1=>cases fW I (gu pb) hb rv with
  | non=>unfold pyEq; exact .tuple_none t1 hu
  | bl b=>unfold pyEq; exact .tuple_bool b t1 hu
  | int i t=>unfold pyEq; exact .tuple_int i t t1 hu
  | str x t=>unfold pyEq; exact .tuple_str x t t1 hu
  | @tup ys p' vs' its' h2 r2 t2 =>
   have q:=RcAt.tuples (e:=Af xs ys) t1 t2 hu (rL (A:=A.in1) I (by first | rw [<- cZ]; exact pa | rw [<- fD]; exact pa) (by first | rw [<- cZ]; exact pb | rw [<- fD]; exact pb) hd h1 h2 r1 r2 (by rw [in1_units]; omega))
   have z1:its.toArray.size=xs.length:=by rw [Of,<- r1.length,<- h1.length]
   have z2:its'.toArray.size=ys.length:=by rw [Of,<- r2.length,<- h2.length]
   rw [z1,z2,gZ] at q
   unfold pyEq; exact q
  | lst h r t=>unfold pyEq; exact .tuple_list t1 t hu
 | @lst xs p vs its h1 r1 t1=>cases fW I (gu pb) hb rv with
  | non=>unfold pyEq; exact .list_none t1 hu
  | bl b=>unfold pyEq; exact .list_bool b t1 hu
  | int i t=>unfold pyEq; exact .list_int i t t1 hu
  | str x t=>unfold pyEq; exact .list_str x t t1 hu
  | tup h r t=>unfold pyEq; exact .list_tuple t1 t hu
  | @lst ys p' vs' its' h2 r2 t2 =>
   have z1:its.toArray.size=xs.length:=by rw [Of,<- r1.length,<- h1.length]
   have z2:its'.toArray.size=ys.length:=by rw [Of,<- r2.length,<- h2.length]
   have er:=gZ xs ys
   by_cases hz:its.toArray.size=its'.toArray.size
   ·have q:=RcAt.lists (e:=Af xs ys) t1 t2 hz hu (rL (A:=A.in1) I (by first | rw [<- cZ]; exact pa | rw [<- fD]; exact pa) (by first | rw [<- cZ]; exact pb | rw [<- fD]; exact pb) hd h1 h2 r1 r2 (by rw [in1_units]; omega))
    rw [z1] at q
    have hz':xs.length=ys.length:=by omega
    rw [<- hz',O7] at er
    simp only [beq_self_eq_true,O8] at er
    rw [er] at q
    unfold pyEq; exact q
   ·have q:=RcAt.lists_lengths (A:=A) t1 t2 (by simpa using hz) hu
    have hz':(xs.length==ys.length)=false:=by
     rw [z1,z2] at hz
     simpa using hz
    rw [hz',OI] at er
    unfold pyEq
    rw [<- er]; exact q
theorem Ey (I:Inv X pins σ H s) {n:Nat} {a b:D} {x y:V} {u v:RM} {A:RZ} (pa:pl a=true) (pb:pl b=true) (hd:dN (n+1) a=true\/dN (n+1) b=true) (ha:cN X.K H a x) (hb:cN X.K H b y) (ru:RelV x u) (rv:RelV y v) (hA:A.units+n+1 < Sy):RcNeAt A s u v (!pyEq a b):=by
 have hu:A.units < Sy:=by omega
 cases fW I (gu pa) ha ru with
 | non=>cases fW I (gu pb) hb rv with
  | non=>unfold pyEq; exact .none_none
  | bl b=>unfold pyEq; exact .none_bool b
  | int i t=>unfold pyEq; exact .none_int i t
  | str x t=>unfold pyEq; exact .none_str x t
  | tup h r t=>unfold pyEq; exact .none_tuple t hu
  | lst h r t=>unfold pyEq; exact .none_list t hu
 | bl z=>cases fW I (gu pb) hb rv with
  | non=>unfold pyEq; exact .bool_none z
  | bl b=>unfold pyEq; exact .bool_bool z b
  | int i t=>unfold pyEq; exact .bool_int z i t
  | str x t=>unfold pyEq; exact .bool_str z x t
  | tup h r t=>unfold pyEq; exact .bool_tuple z t hu
  | lst h r t=>unfold pyEq; exact .bool_list z t hu
 | int z tz=>cases fW I (gu pb) hb rv with
  | non=>unfold pyEq; exact .int_none z tz
  | bl b=>unfold pyEq; exact .int_bool z tz b
  | int i t=>unfold pyEq; exact .int_int z tz i t
  | str x t=>unfold pyEq; exact .int_str z tz x t
  | tup h r t=>unfold pyEq; exact .int_tuple z tz t hu
  | lst h r t=>unfold pyEq; exact .int_list z tz t hu
 | str z tz=>cases fW I (gu pb) hb rv with
  | non=>unfold pyEq; exact .str_none z tz
  | bl b=>unfold pyEq; exact .str_bool z tz b
  | int i t=>unfold pyEq; exact .str_int z tz i t
  | str x t=>unfold pyEq; exact .str_str z tz x t
  | tup h r t=>unfold pyEq; exact .str_tuple z tz t hu
  | lst h r t=>unfold pyEq; exact .str_list z tz t hu
 | @tup xs p vs its h1 r1 t1=>cases fW I (gu pb) hb rv with
  | non=>unfold pyEq; exact .tuple_none t1 hu
  | bl b=>unfold pyEq; exact .tuple_bool b t1 hu
  | int i t=>unfold pyEq; exact .tuple_int i t t1 hu
  | str x t=>unfold pyEq; exact .tuple_str x t t1 hu
  | @tup ys p' vs' its' h2 r2 t2 =>
   have q:=RcNeAt.tuples (e:=Af xs ys) t1 t2 hu (rL (A:=A.in1) I (by first | rw [<- cZ]; exact pa | rw [<- fD]; exact pa) (by first | rw [<- cZ]; exact pb | rw [<- fD]; exact pb) hd h1 h2 r1 r2 (by rw [in1_units]; omega))
   have z1:its.toArray.size=xs.length:=by rw [Of,<- r1.length,<- h1.length]
   have z2:its'.toArray.size=ys.length:=by rw [Of,<- r2.length,<- h2.length]
   rw [z1,z2,gZ] at q
   unfold pyEq; exact q
  | lst h r t=>unfold pyEq; exact .tuple_list t1 t hu
 | @lst xs p vs its h1 r1 t1=>cases fW I (gu pb) hb rv with
  | non=>unfold pyEq; exact .list_none t1 hu
  | bl b=>unfold pyEq; exact .list_bool b t1 hu
  | int i t=>unfold pyEq; exact .list_int i t t1 hu
  | str x t=>unfold pyEq; exact .list_str x t t1 hu
  | tup h r t=>unfold pyEq; exact .list_tuple t1 t hu
  | @lst ys p' vs' its' h2 r2 t2 =>
   have z1:its.toArray.size=xs.length:=by rw [Of,<- r1.length,<- h1.length]
   have z2:its'.toArray.size=ys.length:=by rw [Of,<- r2.length,<- h2.length]
   have er:=gZ xs ys
   by_cases hz:its.toArray.size=its'.toArray.size
   ·have q:=RcNeAt.lists (e:=Af xs ys) t1 t2 hz hu (rL (A:=A.in1) I (by first | rw [<- cZ]; exact pa | rw [<- fD]; exact pa) (by first | rw [<- cZ]; exact pb | rw [<- fD]; exact pb) hd h1 h2 r1 r2 (by rw [in1_units]; omega))
    rw [z1] at q
    have hz':xs.length=ys.length:=by omega
    rw [<- hz',O7] at er
    simp only [beq_self_eq_true,O8] at er
    rw [er] at q
    unfold pyEq; exact q
   ·have q:=RcNeAt.lists_lengths (A:=A) t1 t2 (by simpa using hz) hu
    have hz':(xs.length==ys.length)=false:=by
     rw [z1,z2] at hz
     simpa using hz
    rw [hz',OI] at er
    unfold pyEq
    rw [<- er]; exact q
end

section
variable {X:Cx}
def rD (K:QN) (g:D->D->Option D):R2:=fun x y H Q=>∃ O a b d,eB H O/\cN K (hid H O) a x/\cN K (hid H O) b y/\g a b=some d/\∀ v H',bj H H'->cN K (hid H' O) d v->Q v H'
theorem au {K:QN} {g:D->D->Option D}:eY K (rD K g) g:=fun a b d x y O H Q hO hg ha hb q=>⟨O,a,b,d,hO,ha,hb,hg,q⟩
theorem o6 {f : RM -> RM -> Sem RM} {g : D -> D -> Option D} (h : ∀ (pins : List (RP × Obj)) (s : R0) (σ : St) (H : Hp) (a b d : D) (x y : V) (u v : RM), Inv X pins σ H s -> cN X.K H a x -> cN X.K H b y -> RelV x u -> RelV y v -> g a b = some d ->
      ∃ c,d=.bl c/\∀ (Q:RM->R0->Prop),Q (.bool c) s->R3 (model X.prog X.w) X.A (f u v) Q X.xe s):lX X f (rD X.K g):=by
  intro pins s σ H x y u v Q I rx ry ⟨O,a,b,d,hO,ha,hb,hg,q⟩
  obtain⟨c,rfl,hq⟩:=h pins s σ H a b d x y u v I (ha.mono (aD H O)) (hb.mono (aD H O)) rx ry hg
  exact hq _ ⟨.bl c,H,I,rfl,q _ H (bj.refl H) (mJ.mpr rfl)⟩
def jD (a b:D):Option D:=if (pl a && pl b) && (dN 8 a || dN 8 b) then some (.bl (pyEq a b)) else none
def GN (a b:D):Option D:=if (pl a && pl b) && (dN 8 a || dN 8 b) then some (.bl (!pyEq a b)) else none
theorem dq (hu:X.A.units+64 < Sy):lX X (Sn .Eq) (rD X.K jD):=o6 fun pins s σ H a b d x y u v I ha hb ru rv hg=>by
 obtain⟨h1,h2⟩:=bE hg
 subst h2
 rw [OD,OD,O9] at h1
 exact⟨_,rfl,fun Q q=>Hf (n:=7) (A:=X.A) I h1.1.1 h1.1.2 h1.2 ha hb ru rv ‹0› X.prog X.w X.xe Q q⟩
theorem HM (hu:X.A.units+64 < Sy):lX X (Sn .NotEq) (rD X.K GN):=o6 fun pins s σ H a b d x y u v I ha hb ru rv hg=>by
 obtain⟨h1,h2⟩:=bE hg
 subst h2
 rw [OD,OD,O9] at h1
 exact⟨_,rfl,fun Q q=>Ey (n:=7) (A:=X.A) I h1.1.1 h1.1.2 h1.2 ha hb ru rv ‹0› X.prog X.w X.xe Q q⟩

def inD (x:D) (ys:List D):Bool:=ys.any fun y=>pyEq y x
def KP (x y:D):Option D:=match y with
 | .tup ys=>if (pl x && m7 ys) && dN 8 x then some (.bl (inD x ys)) else none
 | .lst ys=>if (pl x && m7 ys) && dN 8 x then some (.bl (inD x ys)) else none
 | _=>none
def jm (x y:D):Option D:=match y with
 | .tup ys=>if (pl x && m7 ys) && dN 8 x then some (.bl (!inD x ys)) else none
 | .lst ys=>if (pl x && m7 ys) && dN 8 x then some (.bl (!inD x ys)) else none
 | _=>none
open Classical in
theorem A6 {pins:List (RP×Obj)} {σ:St} {H:Hp} {s:R0} (I:Inv X pins σ H s) {xd:D} {x:V} {u:RM} {A:RZ} (px:pl xd=true) (hd:dN 8 xd=true) (hx:cN X.K H xd x) (ru:RelV x u) (hA:A.units+8 < Sy) {ys:List D} {vs:List V} {its:List RM} (py:m7 ys=true) (hy:aZ X.K H ys vs) (rv:Vals vs its) :
  ∃ e:RM->Bool,(∀ y,y∈its.toArray->EqAt A s y u (e y))/\its.toArray.any e=inD xd ys:=by
 let e:RM->Bool:=fun y=>decide (∃ d w,pl d=true/\cN X.K H d w/\RelV w y/\pyEq d xd=true)
 have he:∀ d w y,pl d=true->cN X.K H d w->RelV w y->e y=pyEq d xd:=fun d w y h0 h1 h2=>by
  cases hq:pyEq d xd with
  | true=>exact decide_eq_true ⟨d,w,h0,h1,h2,hq⟩
  | false =>
   refine decide_eq_false ?_
   rintro⟨d',w',g0,g1,g2,g3⟩
   have ew:=RelV.inj h2 g2
   subst ew
   rw [Inv.den_inj I h0 g0 h1 g1,g3] at hq
   cases hq
 refine⟨e,fun y hy'=>?_,?_⟩
 ·have hm:y∈its:=by simpa using hy'
  obtain⟨j,hj,rfl⟩:=Pa hm
  obtain⟨w,e1,r1⟩:=oW rv (j:=j) (by simpa using hj)
  obtain⟨d,f1,g1⟩:=oX hy e1
  have r1':RelV w its[j]:=by simpa using r1
  have pd:=nN py _ (Oz f1)
  rw [he d w _ pd g1 r1']
  exact C3 I 8 d xd w x _ u A pd px (.inr hd) g1 hx r1' ru hA
 ·unfold inD
  have go:∀ (ys:List D) (vs:List V) (its:List RM),m7 ys=true->aZ X.K H ys vs->Vals vs its->its.any e=ys.any fun y=>pyEq y xd:=by
   intro ys
   induction ys with
   | nil =>
    intro vs its py h r
    rw [dh] at h
    subst h
    cases r
    rfl
   | cons y ys ih =>
    intro vs its py h r
    unfold m7 at py
    rw [OD] at py
    rw [bz] at h
    obtain⟨v,r',e1,h1,h2⟩:=h
    subst e1
    cases r with
    | cons q1 q2=>rw [OM,OM,he y v _ py.1 h1 q1,ih _ _ py.2 h2 q2]
  rw [List.any_toArray]
  exact go ys vs its py hy rv
theorem HN (hu:X.A.units+64 < Sy):lX X (Sn .In) (rD X.K KP):=o6 fun pins s σ H a b d x y u v I ha hb ru rv hg=>by
 cases b with
 | tup ys =>
  obtain⟨h1,h2⟩:=bE hg
  subst h2
  rw [OD,OD] at h1
  rw [cB] at hb
  obtain⟨p,vs,e,g1,g2⟩:=hb
  subst e
  cases rv
  obtain⟨its,r,t,_⟩:=I.tuple (pR.of g1)
  obtain⟨e,he,ea⟩:=A6 (A:=X.A.in1) I h1.1.1 h1.2 ha ru (by rw [in1_units]; omega) h1.1.2 g2 r
  exact⟨_,rfl,fun Q q=>SeqAt.in_tupleAt e (show s.heap.IsTuple p its.toArray from t) he (by rw [ea]; exact q)⟩
 | lst ys =>
  obtain⟨h1,h2⟩:=bE hg
  subst h2
  rw [OD,OD] at h1
  rw [cA] at hb
  obtain⟨p,vs,e,g1,g2⟩:=hb
  subst e
  cases rv
  obtain⟨its,r,t,_⟩:=I.list g1
  obtain⟨e,he,ea⟩:=A6 (A:=X.A.in1) I h1.1.1 h1.2 ha ru (by rw [in1_units]; omega) h1.1.2 g2 r
  exact⟨_,rfl,fun Q q=>SeqAt.in_listAt e t.isList he (by rw [ea]; exact q)⟩
 | _=>cases hg
theorem qI (hu:X.A.units+64 < Sy):lX X (Sn .NotIn) (rD X.K jm):=o6 fun pins s σ H a b d x y u v I ha hb ru rv hg=>by
 cases b with
 | tup ys =>
  obtain⟨h1,h2⟩:=bE hg
  subst h2
  rw [OD,OD] at h1
  rw [cB] at hb
  obtain⟨p,vs,e,g1,g2⟩:=hb
  subst e
  cases rv
  obtain⟨its,r,t,_⟩:=I.tuple (pR.of g1)
  obtain⟨e,he,ea⟩:=A6 (A:=X.A.in1) I h1.1.1 h1.2 ha ru (by rw [in1_units]; omega) h1.1.2 g2 r
  exact⟨_,rfl,fun Q q=>SeqAt.notIn_tupleAt e (show s.heap.IsTuple p its.toArray from t) he (by rw [ea]; exact q)⟩
 | lst ys =>
  obtain⟨h1,h2⟩:=bE hg
  subst h2
  rw [OD,OD] at h1
  rw [cA] at hb
  obtain⟨p,vs,e,g1,g2⟩:=hb
  subst e
  cases rv
  obtain⟨its,r,t,_⟩:=I.list g1
  obtain⟨e,he,ea⟩:=A6 (A:=X.A.in1) I h1.1.1 h1.2 ha ru (by rw [in1_units]; omega) h1.1.2 g2 r
  exact⟨_,rfl,fun Q q=>SeqAt.notIn_listAt e t.isList he (by rw [ea]; exact q)⟩
 | _=>cases hg

def Hz (p:Int->Int->D) (a b:D):Option D:=match a,b with
 | .int i,.int j=>some (p i j)
 | _,_=>none
def NU:=Hz fun i j=>.bl (decide (i < j))
def NX:=Hz fun i j=>.bl (decide (i<=j))
def NW:=Hz fun i j=>.bl (decide (j < i))
def NS:=Hz fun i j=>.bl (decide (j<=i))
theorem su {K:QN} {g:Int->Int->Int}:eY K (EW fun i j=>.int (g i j)) (Hz fun i j=>.int (g i j)):=fun a b d x y O H Q hO hg ha hb q=>by
 cases a with
 | int i =>
  cases b with
  | int j=>cases hg; exact⟨i,j,fN.mp ha,fN.mp hb,q _ H (bj.refl H) (fN.mpr rfl)⟩
  | _=>cases hg
 | _=>cases hg
def Jh (c:Int->Int->Bool) (p:Int->Int->Int) (a b:D):Option D:=match a,b with
 | .int i,.int j=>if c i j then some (.int (p i j)) else none
 | _,_=>none
theorem kn {K:QN} {C:Int->Int->Prop} {c:Int->Int->Bool} {g:Int->Int->Int} (hc:∀ i j,c i j=true->C i j):eY K (rI C fun i j=>.int (g i j)) (Jh c g):=fun a b d x y O H Q hO hg ha hb q=>by
 cases a with
 | int i =>
  cases b with
  | int j =>
   obtain⟨h1,h2⟩:=bE hg
   subst h2
   exact⟨i,j,fN.mp ha,fN.mp hb,hc i j h1,q _ H (bj.refl H) (fN.mpr rfl)⟩
  | _=>cases hg
 | _=>cases hg
def Ad:=Hz fun i j=>.int (i - j)
def ph:=Jh (fun i j=>decide ((-(2 ^ 64) < i/\i < 2 ^ 64)\/(-(2 ^ 64) < j/\j < 2 ^ 64))) (·*·)
def G5 (_ j:Int):Prop:=0 < j/\j < 10 ^ 200
theorem bq:lX X (Sl .FloorDiv) (rI G5 fun i j=>.int (i / j)):=Jr fun i j _ _ _ _ _ hc q=>by
 have h1:(0:Int) < j:=hc.1
 have h2:j < 10 ^ 200:=hc.2
 refine PyProof.Rows.floordiv_int ‹0› (by rw [Oe i ‹0›]; exact q) (.inl (PyProof.noPylong_of_log2 ?_))
 have h3:j.natAbs < 10 ^ 200:=by omega
 rw [Nat.log2_lt ‹0›]
 exact OS h3 (by decide +kernel)
def dY:=Jh (fun _ j=>decide (0 < j/\j < 10 ^ 200)) (· / ·)
def cX:=Jh (fun _ j=>decide (0 < j)) (·%·)
def rg:=Jh (fun i j=>decide (0<=j/\j<=1000000/\i.natAbs < 2 ^ 64)) fun i j=>i ^ j.toNat
theorem p8 {K:QN}:eY K (EW fun i j=>.int (i - j)) Ad:=su
theorem ly {K:QN}:eY K (rI Ik fun i j=>.int (i*j)) ph:=kn fun i j h=>by have q:=of_decide_eq_true h; exact q
theorem cm {K:QN}:eY K (rI G5 fun i j=>.int (i / j)) dY:=kn fun i j h=>by have q:=of_decide_eq_true h; exact q
theorem bD {K:QN}:eY K (rI (fun _ j=>0 < j) fun i j=>.int (i%j)) cX:=kn fun _ _ h=>of_decide_eq_true h
theorem p6 {K:QN}:eY K (rI JD fun i j=>.int (i ^ j.toNat)) rg:=kn fun i j h=>by have q:=of_decide_eq_true h; exact q
def Kx (K:QN):R2:=fun x y H Q=>∃ l b xs zs,x=.ref l/\y=.ref b/\oO K H l xs/\oO K H b zs/\xs.length+zs.length<=RU/\∀ p,H p=none->Q (.ref p) (upd H p (.lst (xs++zs)))
theorem FD:lX X (Sl .Add) (Kx X.K):=by
 intro pins s σ H x y v u Q I rx ry h
 obtain⟨l,b,xs,zs,rfl,rfl,hH,hB,hz,q⟩:=h
 cases rx
 cases ry
 obtain⟨its,r,t1,_⟩:=I.list hH
 obtain⟨its2,r2,t2,_⟩:=I.list hB
 obtain⟨⟨c1,d1,dt1,sl1⟩,n1,ho,hc,hd,hdt⟩:=t1
 obtain⟨⟨c2,d2,dt2,sl2⟩,n2,ho2,hc2,hd2,hdt2⟩:=t2
 simp only at hc hd hdt hc2 hd2 hdt2
 subst hc hd hdt hc2 hd2 hdt2
 have z1:=r.length
 have z2:=r2.length
 refine SH ⟨_,ho,rfl⟩ ⟨_,ho2,rfl⟩ noFill_list_add seq_list_add F.slot_list_add F.entry_list_add (F.args_list_add_2 _ _) (PyProof.Rows.list_addW l b its.toArray its2.toArray n1 n2 none none sl1 sl2 (by rw [Of,Of]; omega)) ⟨ho,ho2,?_⟩
 have ea:its.toArray++its2.toArray=(its++its2).toArray:=by simp
 rw [ea]
 exact⟨.ref _,_,I.lnew (t':=s.toks) (r.append r2) (by rw [OA]; omega),rfl,q _ I.fresh⟩
def Hm (K:QN):R2:=fun x y H Q=>∃ a b xs ys,x=.ref a/\y=.ref b/\pR K H a xs/\pR K H b ys/\xs.length+ys.length<=RU /\
 (xs=[]->Q (.ref b) H)/\(xs≠[]->ys=[]->Q (.ref a) H)/\(xs≠[]->ys≠[]->∀ p,H p=none->Q (.ref p) (upd H p (.tup (xs++ys))))
theorem DC:lX X (Sl .Add) (Hm X.K):=by
 intro pins s σ H x y v u Q I rx ry h
 obtain⟨a,b,xs,ys,ex,ey,ha,hb,hz,q0,q1,q2⟩:=h
 by_cases hx:xs=[]
 ·subst ex ey
  cases rx
  cases ry
  obtain⟨its,r1,p1,_⟩:=I.tuple ha
  obtain⟨its2,r2,p2,_⟩:=I.tuple hb
  obtain⟨⟨cls,dd,data,sl⟩,ho,hc,n,hd⟩:=id p1
  obtain⟨⟨cls2,dd2,data2,sl2⟩,ho2,hc2,n2,hd2⟩:=id p2
  simp only at hc hd hc2 hd2
  subst hc hd hc2 hd2
  have e:its=[]:=r1.nil_iff.mpr hx
  exact SH ⟨_,ho,rfl⟩ ⟨_,ho2,rfl⟩ SJ SK F.slot_tuple_add F.entry_tuple_add (F.args_tuple_add_2 _ _)
   (PyProof.Rows.tuple_addW0 a b its.toArray its2.toArray n n2 dd dd2 sl sl2 (by rw [e]; rfl)) ⟨ho,ho2,⟨.ref b,H,I,rfl,q0 hx⟩⟩
 ·exact Fq pins s σ H x y v u Q I rx ry ⟨a,b,xs,ys,ex,ey,ha,hb,hx,hz,q1 hx,q2 hx⟩
def cq (a b:D):Option D:=match a,b with
 | .int i,.int j=>some (.int (i+j))
 | .str x,.str y=>if small (x.length+y.length) then some (.str (x++y)) else none
 | .lst xs,.lst ys=>if small (xs.length+ys.length) then some (.lst (xs++ys)) else none
 | .tup xs,.tup ys=>if small (xs.length+ys.length) then some (.tup (xs++ys)) else none
 | _,_=>none
theorem bi:lX X (Sl .Add) (rD X.K cq):=by
 intro pins s σ H x y u v Q I rx ry ⟨O,a,b,d,hO,ha,hb,hg,q⟩
 cases a with
 | int i =>
  cases b with
  | int j =>
   cases hg
   exact IQ pins s σ H x y u v Q I rx ry ⟨i,j,fN.mp ha,fN.mp hb,q _ H (bj.refl H) (fN.mpr rfl)⟩
  | _=>cases hg
 | str i =>
  cases b with
  | str j =>
   obtain⟨h1,h2⟩:=bE hg
   subst h2
   exact zg pins s σ H x y u v Q I rx ry ⟨i,j,fP.mp ha,fP.mp hb,eE h1,q _ H (bj.refl H) (fP.mpr rfl)⟩
  | _=>cases hg
 | lst xs =>
  cases b with
  | lst ys =>
   obtain⟨h1,h2⟩:=bE hg
   subst h2
   rw [cA] at ha hb
   obtain⟨p,vs,ex,g1,g2⟩:=ha
   obtain⟨p',vs',ey,g1',g2'⟩:=hb
   refine FD pins s σ H x y u v Q I rx ry ⟨p,p',vs,vs',ex,ey,(aD H O).seq g1,(aD H O).seq g1',?_,fun r hr=>?_⟩
   ·rw [<- g2.length,<- g2'.length]; exact eE h1
   ·exact q _ _ (bF hr _) (dC hO hr (g2.append g2'))
  | _=>cases hg
 | tup xs =>
  cases b with
  | tup ys =>
   obtain⟨h1,h2⟩:=bE hg
   subst h2
   have da:=ha
   have db:=hb
   rw [cB] at ha hb
   obtain⟨p,vs,ex,g1,g2⟩:=ha
   obtain⟨p',vs',ey,g1',g2'⟩:=hb
   have l1:=g2.length
   have l2:=g2'.length
   refine DC pins s σ H x y u v Q I rx ry ⟨p,p',vs,vs',ex,ey,bP (aD H O) g1,bP (aD H O) g1',?_,fun z=>?_,fun z z'=>?_,fun z z' r hr=>?_⟩
   ·rw [<- l1,<- l2]; exact eE h1
   ·have e:xs=[]:=List.length_eq_zero_iff.mp (by rw [l1,z]; rfl)
    rw [<- ey]
    refine q _ H (bj.refl H) ?_
    rw [e,Pb]; exact db
   ·have e:ys=[]:=List.length_eq_zero_iff.mp (by rw [l2,z']; rfl)
    rw [<- ex]
    refine q _ H (bj.refl H) ?_
    rw [e,Oo]; exact da
   ·exact q _ _ (bF hr _) (eW hO hr (g2.append g2'))
  | _=>cases hg
 | _=>cases hg

def bh (a b:D):Option D:=match a,b with
 | .tup xs,.int i=>pF xs i
 | .lst xs,.int i=>pF xs i
 | .str x,.int i=>if small x.length then (pF x.cps.toList i).bind fun c=>some (.str ⟨#[c]⟩) else none
 | _,_=>none
theorem As {K:QN} {H:Hp} {ds:List D} {vs:List V} {i:Int} {d:D} (h:aZ K H ds vs) (e:pF ds i=some d):∃ v,pF vs i=some v/\cN K H d v:=by
 unfold pF at e ⊢
 obtain⟨j,e1,e2⟩:=bind_some e
 rw [<- h.length,e1]
 exact h.get e2
theorem MQ:Kq X (rD X.K bh):=by
 intro value slice pins s σ H x y u v Q I rx ry ⟨O,a,b,d,hO,ha,hb,hg,q⟩ hsub
 cases a with
 | tup xs =>
  cases b with
  | int i =>
   rw [cB] at ha
   obtain⟨p,vs,ex,g1,g2⟩:=ha
   obtain⟨w,e1,e2⟩:=As g2 hg
   refine HR value slice pins s σ H x y u v Q I rx ry ?_ hsub; exact⟨p,vs,i,w,ex,fN.mp hb,bP (aD H O) g1,e1,q w H (bj.refl H) e2⟩
  | _=>cases hg
 | lst xs =>
  cases b with
  | int i =>
   rw [cA] at ha
   obtain⟨p,vs,ex,g1,g2⟩:=ha
   obtain⟨w,e1,e2⟩:=As g2 hg
   refine Fx value slice pins s σ H x y u v Q I rx ry ?_ hsub; exact⟨p,vs,i,w,ex,fN.mp hb,(aD H O).seq g1,e1,q w H (bj.refl H) e2⟩
  | _=>cases hg
 | str z =>
  cases b with
  | int i =>
   have hg':(if small z.length then (pF z.cps.toList i).bind fun c=>some (D.str ⟨#[c]⟩) else none)=some d:=hg
   cases hs:small z.length with
   | false=>rw [hs] at hg'; cases hg'
   | true =>
    rw [hs] at hg'
    obtain⟨c,e1,e2⟩:=bind_some hg'
    cases e2
    refine HW value slice pins s σ H x y u v Q I rx ry ?_ hsub; exact⟨z,i,c,fP.mp ha,fN.mp hb,eE hs,e1,q _ H (bj.refl H) (fP.mpr rfl)⟩
  | _=>cases hg
 | _=>cases hg
theorem Nt {a b:R4} {fa fb:FX} {pos:Pos} (ha:FE X a fa) (hb:FE X b fb) (hs:wO b):FE X (.Subscript a b pos) (f2 bh fa fb) :=
 PE.weak (J7 MQ ha hb hs) (xr au)

def cutD {α:Type} (xs:List α) (lo hi:Option Int):List α:=(xs.drop (HT.sIx xs.length 0 lo)).take (HT.sIx xs.length xs.length hi - HT.sIx xs.length 0 lo)
theorem uD {M:Model} {A:RZ} {E:RM->R0->Prop} {s:R0} {t:RP} {items:Array RM} {Q:Bool->R0->Prop} (ht:Rx s.heap t items) (h:Q true s):R3 M A (Builtin.Tuple.tupleIsExact (.ref t)) Q E s:=by
 unfold Builtin.Tuple.tupleIsExact
 refine Se (SV ht.typeIs ?_)
 exact Sd h
theorem iS {prog:RO} {w:RN} {A:RZ} {E:RM->R0->Prop} {s:R0} {t sl:RP} {items:Array RM} {vl vu:RM} {lo hi:Option Int} {Q:RM->R0->Prop} (ht:Rx s.heap t items) (hs:s.heap.IsSliceOf sl vl vu .none) (pl:SL vl lo) (pu:SL vu hi)
  (hw:HT.sIx items.size 0 lo=0/\HT.sIx items.size items.size hi=items.size) (h:Q (.ref t) s):R3 (model prog w) A (getItem (.ref t) (.ref sl)) Q E s:=by
 obtain⟨os,hos,hcs,hds⟩:=id hs
 have hTs:s.TypeIs (.ref sl) "slice":=⟨os,hos,hcs⟩
 unfold getItem
 try with_reducible refine SN ?_
 first | refine Se (Sd ?_) | skip
 refine Se (wpAny_sequenceKey ht.typeIs (by decide) ?_)
 refine Se (SR (name:=Str.ofString "__getitem__") ht.typeIs Rv
  (SU Rv ht.typeIs PyProof.Rows.entry_tuple_getitem ?_ (PyProof.Rows.args_tuple_getitem _ _)))
 show R3 _ _ (Builtin.Tuple.tupleItemsOf (.ref t) >>= _) _ _ s
 refine Se (PyProof.Rows.tupleItemsOf_ ht ?_)
 refine Se (SV hTs ?_)
 rw [if_pos (by decide)]
 refine Se (HT.qA hs pl pu ?_)
 have hyes:(((HT.sIx items.size 0 lo:Nat):Int)==0 && (1:Int)==1 && (HT.sIx items.size items.size hi - HT.sIx items.size 0 lo)==items.size)=true:=by
  rw [hw.1,hw.2]
  simp
 show R3 _ _ (if (((HT.sIx items.size 0 lo:Nat):Int)==0 && (1:Int)==1 && (HT.sIx items.size items.size hi - HT.sIx items.size 0 lo)==items.size)=true then _ else _) _ _ s
 rw [if_pos hyes]
 refine Se (uD ht ?_)
 rw [if_pos rfl]
 first
  | exact Se (S7 (Sd ⟨_,rfl,Sd h⟩))
  | exact Se (S7 (Se (Sd (Sd ⟨_,rfl,Sd h⟩))))
def tE (a:D) (lo hi:Option Int):Option D:=match a with
 | .lst xs=>some (.lst (cutD xs lo hi))
 | .tup xs=>some (.tup (cutD xs lo hi))
 | .str x=>if small x.length then some (.str ⟨(cutD x.cps.toList lo hi).toArray⟩) else none
 | _=>none
theorem G9 (v:Option Int) (d n:Nat) (hd:d<=n):(match v with | none=>(d:Int) | some i=>if (1:Int) > 0 then max 0 (min (if i < 0 then i+(n:Int) else i) (n:Int)) else max (-1) (min (if i < 0 then i+(n:Int) else i) ((n:Int) - 1)))=((HT.sIx n d v:Nat):Int):=by
 cases v with
 | none=>rfl
 | some i =>
  show (if (1:Int) > 0 then max 0 (min (if i < 0 then i+(n:Int) else i) (n:Int)) else max (-1) (min (if i < 0 then i+(n:Int) else i) ((n:Int) - 1)))=(((if i < 0 then (i+(n:Int)).toNat else min i.toNat n):Nat):Int)
  rw [if_pos (by decide)]
  by_cases h:i < 0
  ·rw [if_pos h,if_pos h]; omega
  ·rw [if_neg h,if_neg h]; omega
theorem Dv (lo hi:Option Int) (n:Nat):Builtin.Str.strSliceIndices lo hi 1 n=(List.range (HT.sIx n n hi - HT.sIx n 0 lo)).map fun k=>HT.sIx n 0 lo+k:=by
 have e1:=G9 lo 0 n (Om _)
 have e2:=G9 hi n n (Oa _)
 have e:Builtin.Str.strSliceIndices lo hi 1 n=sliceRange ((HT.sIx n 0 lo:Nat):Int) ((HT.sIx n n hi:Nat):Int) 1:=by
  rw [<- e1,<- e2]
  cases lo <;> cases hi <;> rfl
 rw [e]
 unfold sliceRange
 dsimp only
 rw [if_pos (by decide:(1:Int) > 0)]
 have e3:(if ((HT.sIx n 0 lo:Nat):Int) < ((HT.sIx n n hi:Nat):Int) then (((HT.sIx n n hi:Nat):Int) - ((HT.sIx n 0 lo:Nat):Int)+1 - 1) / 1 else 0:Int).toNat=HT.sIx n n hi - HT.sIx n 0 lo:=by
  rw [Int.ediv_one]
  split <;> omega
 rw [e3]
 refine Ph fun k _=>?_
 omega
theorem Du {α:Type} (l:List α) (a:Nat):∀ n:Nat,((List.range n).map fun k=>a+k).filterMap (fun i=>l[i]?)=(l.drop a).take n
 | 0=>by simp
 | n+1=>by
  rw [List.range_succ,Pj,List.filterMap_append,Du l a n,List.take_add_one,List.getElem?_drop]
  cases e:l[a+n]? <;> simp [e]
theorem BX (x:Str) (lo hi:Option Int):Txt.slice x lo hi=⟨(cutD x.cps.toList lo hi).toArray⟩:=by
 have hl:x.cps.toList.length=x.length:=by simp [Str.length]
 have pick:(Builtin.Str.strSliceIndices lo hi 1 x.length).filterMap (x.cps[·]?)=cutD x.cps.toList lo hi:=by
  rw [Dv]
  have q:=Du x.cps.toList (HT.sIx x.length 0 lo) (HT.sIx x.length x.length hi - HT.sIx x.length 0 lo)
  unfold cutD
  rw [hl,<- q]
  congr 1
  funext i
  simp
 unfold Txt.slice
 split
 ·rename_i h
  have h':(Builtin.Str.strSliceIndices lo hi 1 x.length).length=x.length:=by simpa using h
  rw [Dv,Oj,Pk] at h'
  have h1:=HT.HU x.length x.length (Oa _) hi
  have z1:HT.sIx x.length 0 lo=0\/x.length=0:=by omega
  have e:cutD x.cps.toList lo hi=x.cps.toList:=by
   unfold cutD
   rw [hl,h']
   rcases z1 with z1 | z1
   ·rw [z1,O2,<- hl,Pl]
   ·have:x.cps.toList=[]:=List.length_eq_zero_iff.mp (by rw [hl]; exact z1)
    rw [this]; simp
  rw [e]
 ·rw [pick]
def L7 (K:QN):V->Option Int->Option Int->Hp->VK->Prop:=fun x lo hi H Q=>∃ O a d,eB H O/\cN K (hid H O) a x/\tE a lo hi=some d/\∀ v H',bj H H'->cN K (hid H' O) d v->Q v H'
theorem aZ.cut {K:QN} {H:Hp} {ds:List D} {vs:List V} (h:aZ K H ds vs) (lo hi:Option Int):aZ K H (cutD ds lo hi) (yN vs lo hi):=by
 unfold cutD yN
 rw [h.length]
 exact(h.drop _).take _
theorem Lv:KC X (L7 X.K):=by
 intro pins s σ H x v vl vu lo hi sl Q I rx hs pl pu ⟨O,a,d,hO,ha,hg,q⟩
 cases a with
 | lst xs =>
  cases hg
  rw [cA] at ha
  obtain⟨p,vs,ex,g1,g2⟩:=ha
  exact FV pins s σ H x v vl vu lo hi sl Q I rx hs pl pu ⟨p,vs,ex,(aD H O).seq g1,fun r hr=>q _ _ (bF hr _) (dC hO hr (g2.cut lo hi))⟩
 | tup xs =>
  cases hg
  have da:=ha
  rw [cB] at ha
  obtain⟨p,vs,ex,g1,g2⟩:=ha
  by_cases hw:HT.sIx vs.length 0 lo=0/\HT.sIx vs.length vs.length hi=vs.length
  ·subst ex
   cases rx
   obtain⟨its,r,ht,hz⟩:=I.tuple (bP (aD H O) g1)
   have hlen:its.toArray.size=vs.length:=by rw [Of]; exact r.length.symm
   refine⟨"tuple",_,PyProof.Rows.slot_tuple_getitem.lookup,ht.typeIs,iS ht hs pl pu (by rw [hlen]; exact hw) ⟨.ref p,H,I,rfl,q _ H (bj.refl H) ?_⟩⟩
   have e:cutD xs lo hi=xs:=by
    unfold cutD
    rw [g2.length,hw.1,hw.2,Pm,O2,<- g2.length,Pl]
   rw [e]; exact da
  ·exact Hl pins s σ H x v vl vu lo hi sl Q I rx hs pl pu ⟨p,vs,ex,bP (aD H O) g1,hw,fun r hr=>q _ _ (bF hr _) (eW hO hr (g2.cut lo hi))⟩
 | str z =>
  obtain⟨h1,h2⟩:=bE hg
  subst h2
  rw [fP] at ha
  subst ha
  obtain⟨t,rfl⟩:=rx
  have fin:∀ t' tk,EP X pins σ Q (.str (Txt.slice z lo hi) t') { s with toks:=tk }:=fun t' tk=>by
   rw [BX]
   exact⟨.str _,H,I.tok _,⟨_,rfl⟩,q _ H (bj.refl H) (fP.mpr rfl)⟩
  obtain⟨os,hos,hcs,hds⟩:=id hs
  have hz:=eE h1
  refine⟨"str",_,F.slot_str_getitem.lookup,typeIs_str _ _ _,?_⟩
  cases pl with
  | none =>
   cases pu with
   | none=>exact S8 (l:=none) (u:=none) (st:=none) ⟨os,hos,hcs,hds⟩ rfl (S9 ⟨N1 (Txt.slice_le z _ _) hz,fun t' k=>fin t' k⟩)
   | int j tj=>exact S8 (l:=none) (u:=some (j,tj)) (st:=none) ⟨os,hos,hcs,hds⟩ rfl (S9 ⟨N1 (Txt.slice_le z _ _) hz,fun t' k=>fin t' k⟩)
  | int i ti =>
   cases pu with
   | none=>exact S8 (l:=some (i,ti)) (u:=none) (st:=none) ⟨os,hos,hcs,hds⟩ rfl (S9 ⟨N1 (Txt.slice_le z _ _) hz,fun t' k=>fin t' k⟩)
   | int j tj=>exact S8 (l:=some (i,ti)) (u:=some (j,tj)) (st:=none) ⟨os,hos,hcs,hds⟩ rfl (S9 ⟨N1 (Txt.slice_le z _ _) hz,fun t' k=>fin t' k⟩)
 | _=>cases hg
def bA:aq->R (Option Int):=fun _=>.ok none
def zA:D->Option (Option Int)
 | .int i=>some (some i)
 | _=>none
def cM (f:FX):aq->R (Option Int):=fun ρ=>(f ρ).bind fun d=>rO (zA d)
def NQ (X:Cx) (F:aq->R (Option Int)):TO:=fun σ H Q=>∃ O ρ,dZ X.K O H ρ σ/\jF X σ O H (F ρ) fun o=>∀ H',bj H H'->Q o H'
def FO (X:Cx) (e:Option R4) (F:aq->R (Option Int)):Prop:=PO X e (NQ X F)
theorem KN:FO X none bA:=fun pins s σ H Q I ⟨O,ρ,E,q⟩=>GJ pins s σ H Q I (q H (bj.refl H))
theorem Lb {e:R4} {f:FX} (h:FE X e f):FO X (some e) (cM f):=fun pins s σ H Q I ⟨O,ρ,E,hF⟩ =>
 FL h pins s σ H Q I ⟨O,ρ,E,(jF.bind hF).imp fun d hF v H1 s1 d1=>by
  obtain⟨o,e,q⟩:=jF.rO hF
  cases d with
  | int i =>
   cases e
   exact⟨i,fN.mp d1,q H1 s1⟩
  | _=>cases e⟩
def bN (f:FX) (l h:aq->R (Option Int)):FX:=fun ρ=>(f ρ).bind fun a=>(l ρ).bind fun lo=>(h ρ).bind fun hi=>rO (tE a lo hi)
theorem Ko {e:R4} {f:FX} {l h:aq->R (Option Int)} {lo hi:Option R4} {p2 pos:Pos} (he:FE X e f) (hl:FO X lo l) (hh:FO X hi h):FE X (.Subscript e (.Slice lo hi none p2) pos) (bN f l h) :=
 PE.weak (D6 Lv he hl hh) fun σ H Q ⟨O,ρ,E,hF⟩=>⟨O,ρ,E,(jF.bind hF).imp fun a hF x H1 s1 d1=>⟨O,ρ,E.same s1,((jF.bind hF).mono s1).imp fun lo' hF H2 s2=>⟨O,ρ,E.same (s1.trans s2),((jF.bind hF).mono (s1.trans s2)).imp fun hi' hF H3 s3=>by
  obtain⟨d,e,q⟩:=jF.rO hF
  exact⟨O,a,d,E.all.same ((s1.trans s2).trans s3),d1.mono (bX (s2.trans s3)),e,fun v H4 s4 d4=>q v H4 (((s1.trans s2).trans s3).trans s4) d4⟩⟩⟩⟩
end
end TG
namespace TG
open PySem PySem.Spec L2
variable [aV]

def yD (K:QN) (g:List D->Option D):List V->Hp->VK->Prop:=fun xs H Q=>∃ O ds d,eB H O/\aZ K (hid H O) ds xs/\g ds=some d/\∀ v H',bj H H'->cN K (hid H' O) d v->Q v H'
theorem t6 {K:QN} {g:List D->Option D}:A3 K (yD K g) g:=fun ds d xs O H Q hO hg hd q=>⟨O,ds,d,hO,hd,hg,q⟩
section
variable {X:Cx} {x:Str} {p pos:Pos} {e:R4} {es:List R4} {id T:String} {g:List D->Option D} {f:aq->R (List D)}
theorem J3 (hc:dQ X (.builtin id) (yD X.K g)) (hg:Gl X x) (hm:X.mg x=none) (hv:RY x=some (.builtin id)) (ha:FA X (e::es) f) (hn:x ≠ "__name__":=by decide) (hdb:(x==("__debug__":Str))=false:=by decide)
  (hns:(e::es).all noStar=true:=by rfl):FE X (.Call (.Name x p) (e::es) [] pos) (fL g f) :=
 PE.weak (yu hc hg hm hv ha hn hdb (dj (OD _ _ ▸ hns).1) (gz (OD _ _ ▸ hns).2)) (Eh t6)
theorem Jc (hc:dQ X (.type T) (yD X.K g)) (hg:Gl X x) (hm:X.mg x=none) (hv:RY x=some (.type T)) (ha:FA X (e::es) f) (hn:x ≠ "__name__":=by decide) (hdb:(x==("__debug__":Str))=false:=by decide)
  (hns:(e::es).all noStar=true:=by rfl):FE X (.Call (.Name x p) (e::es) [] pos) (fL g f) :=
 PE.weak (vG hc hg hm hv ha hn hdb (dj (OD _ _ ▸ hns).1) (gz (OD _ _ ▸ hns).2)) (Eh t6)

def iy:List D->Option D
 | [.lst xs]=>some (.int xs.length)
 | [.tup xs]=>some (.int xs.length)
 | [.str x]=>if small x.length then some (.int x.length) else none
 | _=>none
theorem bW:dQ X (.builtin "len") (yD X.K iy):=by
 intro pins s σ H xs us Q I r ⟨O,ds,d,hO,hd,hg,q⟩
 unfold iy at hg
 split at hg
 ·rename_i ys
  cases hg
  obtain⟨v,ev,h1⟩:=hd.one
  rw [cA] at h1
  obtain⟨p,vs,ep,g1,g2⟩:=h1
  exact pC pins s σ H xs us Q I r ⟨p,vs,by rw [ev,ep],.inl ((aD H O).seq g1),q _ H (bj.refl H) (fN.mpr (by rw [g2.length]))⟩
 ·rename_i ys
  cases hg
  obtain⟨v,ev,h1⟩:=hd.one
  rw [cB] at h1
  obtain⟨p,vs,ep,g1,g2⟩:=h1
  exact pC pins s σ H xs us Q I r ⟨p,vs,by rw [ev,ep],.inr (bP (aD H O) g1),q _ H (bj.refl H) (fN.mpr (by rw [g2.length]))⟩
 ·rename_i z
  obtain⟨h1,h2⟩:=bE hg
  subst h2
  obtain⟨v,ev,h1'⟩:=hd.one
  exact we pins s σ H xs us Q I r ⟨z,by rw [ev,fP.mp h1'],eE h1,q _ H (bj.refl H) (fN.mpr rfl)⟩
 ·cases hg
def cy:List D->Option D
 | [.lst xs]=>some (.tup xs)
 | [.tup xs]=>some (.tup xs)
 | _=>none
theorem cj:dQ X (.type "tuple") (yD X.K cy):=by
 intro pins s σ H xs us Q I r ⟨O,ds,d,hO,hd,hg,q⟩
 unfold cy at hg
 split at hg
 ·rename_i ys
  cases hg
  obtain⟨v,ev,h1⟩:=hd.one
  rw [cA] at h1
  obtain⟨p,vs,ep,g1,g2⟩:=h1
  exact oo pins s σ H xs us Q I r ⟨p,vs,by rw [ev,ep],.inl ⟨(aD H O).seq g1,fun l hl=>q _ _ (bF hl _) (eW hO hl g2)⟩⟩
 ·rename_i ys
  cases hg
  obtain⟨v,ev,h1⟩:=hd.one
  have h0:=h1
  rw [cB] at h1
  obtain⟨p,vs,ep,g1,g2⟩:=h1
  rw [ep] at h0
  exact oo pins s σ H xs us Q I r ⟨p,vs,by rw [ev,ep],.inr ⟨bP (aD H O) g1,q _ H (bj.refl H) h0⟩⟩
 ·cases hg
def pq:List D->Option D
 | [.lst xs]=>some (.lst xs)
 | [.tup xs]=>some (.lst xs)
 | _=>none
theorem zX:dQ X (.type "list") (yD X.K pq):=by
 intro pins s σ H xs us Q I r ⟨O,ds,d,hO,hd,hg,q⟩
 unfold pq at hg
 split at hg
 ·rename_i ys
  cases hg
  obtain⟨v,ev,h1⟩:=hd.one
  rw [cA] at h1
  obtain⟨p,vs,ep,g1,g2⟩:=h1
  exact lA pins s σ H xs us Q I r ⟨p,vs,by rw [ev,ep],.inl ((aD H O).seq g1),fun l hl=>q _ _ (bF hl _) (dC hO hl g2)⟩
 ·rename_i ys
  cases hg
  obtain⟨v,ev,h1⟩:=hd.one
  rw [cB] at h1
  obtain⟨p,vs,ep,g1,g2⟩:=h1
  exact lA pins s σ H xs us Q I r ⟨p,vs,by rw [ev,ep],.inr (bP (aD H O) g1),fun l hl=>q _ _ (bF hl _) (dC hO hl g2)⟩
 ·cases hg
def tG:List D->Option D
 | [.int i,.int j]=>some (.int (if j > i then j else i))
 | _=>none
def yy:List D->Option D
 | [.int i,.int j]=>some (.int (if j < i then j else i))
 | _=>none
def AC:List D->Option D
 | [.int i]=>some (.int i)
 | [.bl k]=>some (.int (if k then 1 else 0))
 | _=>none
theorem se (hc:X.calm=true):dQ X (.builtin "max") (yD X.K tG):=by
 intro pins s σ H xs us Q I r ⟨O,ds,d,hO,hd,hg,q⟩
 unfold tG at hg
 split at hg
 ·rename_i i j
  cases hg
  obtain⟨v,w,ev,h1,h2⟩:=hd.two
  exact Cm hc pins s σ H xs us Q I r ⟨i,j,by rw [ev,fN.mp h1,fN.mp h2],q _ H (bj.refl H) (fN.mpr rfl)⟩
 ·cases hg
theorem zm (hc:X.calm=true):dQ X (.builtin "min") (yD X.K yy):=by
 intro pins s σ H xs us Q I r ⟨O,ds,d,hO,hd,hg,q⟩
 unfold yy at hg
 split at hg
 ·rename_i i j
  cases hg
  obtain⟨v,w,ev,h1,h2⟩:=hd.two
  exact Bj hc pins s σ H xs us Q I r ⟨i,j,by rw [ev,fN.mp h1,fN.mp h2],q _ H (bj.refl H) (fN.mpr rfl)⟩
 ·cases hg
theorem yY:dQ X (.type "int") (yD X.K AC):=by
 intro pins s σ H xs us Q I r ⟨O,ds,d,hO,hd,hg,q⟩
 unfold AC at hg
 split at hg
 ·rename_i i
  cases hg
  obtain⟨v,ev,h1⟩:=hd.one
  exact vT pins s σ H xs us Q I r (.inl ⟨i,by rw [ev,fN.mp h1],q _ H (bj.refl H) (fN.mpr rfl)⟩)
 ·rename_i k
  cases hg
  obtain⟨v,ev,h1⟩:=hd.one
  exact vT pins s σ H xs us Q I r (.inr ⟨k,by rw [ev,mJ.mp h1],q _ H (bj.refl H) (fN.mpr rfl)⟩)
 ·cases hg

def HL:D->String
 | .non => "NoneType"
 | .bl _ => "bool"
 | .int _ => "int"
 | .str _ => "str"
 | .tup _ => "tuple"
 | .lst _ => "list"
 | .dct _ _ => "dict"
 | _ => ""
def Gm (T:String) (d:D):Bool:=match d with
 | .bl _=>T == "bool" || T == "int"
 | .non=>T == "NoneType"
 | .int _=>T == "int"
 | .str _=>T == "str"
 | .tup _=>T == "tuple"
 | .lst _=>T == "list"
 | .dct _ _=>T == "dict"
 | _=>false
def yI (K:QN) (T:String):Prop:=∀ d:D,top d=true->Q5 K (.type (HL d)) (.type T)=some (Gm T d)
def Mo (K:QN) (T:String):List V->Hp->VK->Prop:=fun xs H Q=>∃ O x d,xs=[x,.ty T]/\top d=true/\cN K (hid H O) d x/\Q (.bl (Gm T d)) H
theorem DU (ok:yI X.K T):dQ X (.builtin "isinstance") (Mo X.K T):=by
 intro pins s σ H xs us Q I r ⟨O,x,d,ex,td,hd,q⟩
 subst ex
 obtain⟨u,w',rfl,rx,rt⟩:=vals2 r
 cases rt
 have e:=ok d td
 have fin:∀ tk,EP X pins σ Q (.bool (Gm T d)) { s with toks:=tk }:=fun tk=>⟨.bl _,H,I.tok _,rfl,q⟩
 cases fW I td (hd.mono (aD H O)) rx with
 | non=>exact Q6 PySem.W.kitx_none I.kIn True.intro e (fun z=>nomatch z) fin
 | bl b=>exact Q6 PySem.W.kitx_bool I.kIn True.intro e (fun z=>nomatch z) fin
 | int i t=>exact Q6 PySem.W.kitx_int I.kIn True.intro e (fun z=>nomatch z) fin
 | str y t=>exact Q6 PySem.W.kitx_str I.kIn True.intro e (fun z=>nomatch z) fin
 | tup h rv t =>
  obtain⟨o,h1,h2,_⟩:=t
  exact Q6 PySem.W.kitx_tuple I.kIn ⟨o,h1,h2⟩ e (fun z=>nomatch z) fin
 | lst h rv t =>
  obtain⟨o,h1,h2,_⟩:=t
  exact Q6 PySem.W.kitx_list I.kIn ⟨o,h1,h2⟩ e (fun z=>nomatch z) fin
theorem Eu:RY "isinstance"=some (.builtin "isinstance"):=by first | rfl | decide +kernel
def oS (T:String) (d:D):Option D:=if top d then some (.bl (Gm T d)) else none
def rp (T:String) (f:FX):FX:=f1 (oS T) f
theorem Mb {f:FX} {xT:Str} {p2:Pos} (ok:yI X.K T) (hg:Gl X "isinstance") (hm:X.mg "isinstance"=none) (hgT:Gl X xT) (hmT:X.mg xT=none) (hvT:RY xT=some (.type T)) (he:FE X e f)
  (hn2:xT ≠ "__name__":=by decide) (hd2:(xT==("__debug__":Str))=false:=by decide)
  (hns:noStar e=true:=by rfl) :
  FE X (.Call (.Name "isinstance" p) [e,.Name xT p2] [] pos) (rp T f) :=
 PE.weak (yu (DU ok) hg hm Eu (kY he (kY (FZ (v:=.ty T) hgT hmT hvT rfl hn2 hd2) qz (dj rfl)) (dj hns)) (by decide) (by decide) (dj hns) (gz rfl)) fun σ H Q ⟨O,ρ,E,hF⟩=>⟨O,ρ,E,(jF.bind hF).imp fun a hF v H1 s1 d1=>by
  obtain⟨d,e,q⟩:=jF.rO hF
  obtain⟨h1,h2⟩:=bE e
  subst h2
  exact⟨O,v,a,rfl,h1,d1,q _ H1 s1 (mJ.mpr rfl)⟩⟩
end

section
variable {X:Cx} {a:R4} {f:FX} {pos:Pos}
def isNon:D->Bool
 | .non=>true
 | _=>false
def LA (d:D):Option D:=some (.bl (isNon d))
def JR (d:D):Option D:=some (.bl (!isNon d))
def MC (f:FX):FX:=f1 LA f
def Kp (f:FX):FX:=f1 JR f
theorem Kj (h:FE X a f) (he:∀ whole,isTrue a X.env whole=(do let v <- whole; standAt a.pos; holding [v] (truthy v)):=by intro _; rfl):FT X a (iN f):=PT.weak (Dy h he) fun σ H Q ⟨O,ρ,E,hF⟩=>⟨O,ρ,E,(jF.bind hF).imp fun d hF x H1 s1 d1=>by
 obtain⟨r,hF,q⟩:=jF.rO hF
 refine⟨r,?_,q H1 s1⟩
 cases d with
 | non=>cases hF; rw [kU.mp d1]; rfl
 | bl b=>cases hF; rw [mJ.mp d1]; rfl
 | int i=>cases hF; rw [fN.mp d1]; rfl
 | str y =>
  obtain⟨hz,e⟩:=bE hF
  subst e
  rw [fP.mp d1]
  refine⟨eE hz,?_⟩
  show (y.length != 0)=((y.length:Int) != 0)
  cases y.length <;> rfl
 | tup xs =>
  cases hF
  obtain⟨p,vs,e,g1,g2⟩:=cB.mp d1
  rw [e]
  refine .inr (.inl ⟨vs,bP (aD H1 O) g1,?_⟩)
  have l:=g2.length
  cases xs <;> cases vs <;> first | rfl | (simp at l)
 | lst xs =>
  cases hF
  obtain⟨p,vs,e,g1,g2⟩:=cA.mp d1
  rw [e]
  refine .inl ⟨vs,(aD H1 O).seq g1,?_⟩
  have l:=g2.length
  cases xs <;> cases vs <;> first | rfl | (simp at l)
 | _=>cases hF⟩
end

def Walk (K:QN) (Hd:Hp) (J:It) (ds:List D):Prop :=
 ∀ (Hn:Hp) (O':List RP) (i:Nat),eB Hn O'->bj Hd (hid Hn O')->(∀ d,ds[i]?=some d->J.go i Hn/\∀ x H2,J.yld i Hn x H2->bj Hn H2/\cN K (hid H2 O') d x)/\(i=ds.length->J.stop i Hn)
def LI (X:Cx) (G:aq->R (List D)):TI:=fun σ H RR=>∃ O ρ,dZ X.K O H ρ σ/\jF X σ O H (G ρ) fun ds=>∀ J H1,bj H H1->Walk X.K (hid H1 O) J ds->RR J H1
def FI (X:Cx) (tg iter:R4) (G:aq->R (List D)):Prop:=PI X tg iter (LI X G)
def pY:D->Option (List D)
 | .lst xs=>some xs
 | .tup xs=>some xs
 | _=>none
def bR (f:FX):aq->R (List D):=fun ρ=>(f ρ).bind fun d=>rO (pY d)
section
variable {X:Cx} {tg:R4}
theorem Bx {K:QN} {Hd:Hp} {a:RP} {ds:List D} {vs:List V} (h:oO K Hd a vs) (g:aZ K Hd ds vs):Walk K Hd (Mj K a) ds:=fun Hn O' i hO s =>
  have s':bj Hd Hn:=s.trans (aD Hn O')
  ⟨fun d e=>by
    obtain⟨v,ev,dv⟩:=g.get e
    refine⟨⟨vs,v,s'.seq h,ev⟩,fun x H2 ⟨e2,y⟩=>?_⟩
    have q:=y vs (s'.seq h)
    rw [ev] at q; cases q
    subst e2
    exact⟨bj.refl _,dv.mono s⟩,
   fun hl=>⟨vs,s'.seq h,by rw [<- g.length]; exact Ol hl.symm⟩⟩
theorem D3 {K:QN} {Hd:Hp} {a:RP} {ds:List D} {vs:List V} (h:Hd a=some (.tup vs)) (g:aZ K Hd ds vs):Walk K Hd (Ma K a) ds:=fun Hn O' i hO s =>
  have s':bj Hd Hn:=s.trans (aD Hn O')
  ⟨fun d e=>by
    obtain⟨v,ev,dv⟩:=g.get e
    refine⟨⟨vs,v,bP s' h,ev⟩,fun x H2 ⟨e2,y⟩=>?_⟩
    have q:=y vs (bP s' h)
    rw [ev] at q; cases q
    subst e2
    exact⟨bj.refl _,dv.mono s⟩,
   fun hl=>⟨vs,bP s' h,by rw [<- g.length]; exact Ol hl.symm⟩⟩
theorem MS {e:R4} {f:FX} (h:FE X e f):FI X tg e (bR f):=by
 intro pins s σ H R I ⟨O,ρ,E,hG⟩
 have hG':=jF.bind hG
 cases hf:f ρ with
 | error z=>exact Au h pins s σ H R I ⟨O,ρ,E,by rw [hf] at hG' ⊢; cases z with | none=>exact hG'.elim | some x=>exact hG'⟩
 | ok d =>
  rw [hf] at hG'
  obtain⟨ds,e1,q⟩:=jF.rO (α:=List D) (o:=pY d) hG'
  cases d with
  | lst xs =>
   cases e1
   refine Au h pins s σ H R I ⟨O,ρ,E,?_⟩
   rw [hf]
   refine fun v H1 s1 d1=>?_
   obtain⟨p,vs,ev,g1,g2⟩:=cA.mp d1
   exact⟨p,ev,⟨vs,(aD H1 O).seq g1⟩,q _ H1 s1 (Bx g1 g2)⟩
  | tup xs =>
   cases e1
   refine HK h pins s σ H R I ⟨O,ρ,E,?_⟩
   rw [hf]
   refine fun v H1 s1 d1=>?_
   obtain⟨p,vs,ev,g1,g2⟩:=cB.mp d1
   exact⟨p,ev,⟨vs,bP (aD H1 O) g1⟩,q _ H1 s1 (D3 g1 g2)⟩
  | _=>cases e1
def fG (lo:Int) (n:Nat):List D:=(List.range n).map fun (k:Nat)=>D.int (lo+(k:Int))
theorem uI (lo:Int) (n:Nat):(fG lo n).length=n:=by unfold fG; rw [Oj,Pk]
theorem sI {K:QN} {Hd:Hp} (lo:Int) (n:Nat):Walk K Hd (JQ lo n) (fG lo n):=fun Hn O' i hO s =>
  ⟨fun d e=>by
    unfold fG at e
    rw [Oy] at e
    cases hi:(List.range n)[i]? with
    | none=>rw [hi] at e; cases e
    | some k =>
      rw [hi] at e
      cases e
      have hlt:i < n:=by
        have:=(List.getElem?_eq_some_iff.mp hi).1
        rwa [Pk] at this
      have ek:k=i:=by
        rw [Pn hlt] at hi
        exact(Option.some.inj hi).symm
      subst ek
      exact⟨hlt,fun x H2 ⟨e1,e2⟩=>by subst e1; exact⟨bj.refl _,fN.mpr e2⟩⟩,
   fun hl=>by rw [uI] at hl; exact Ol hl.symm⟩
def okR (j:Int):Bool:=decide (-(2 ^ 62)<=j/\j < 2 ^ 62)
def lx:List D->Option (List D)
 | [.int j]=>if okR j then some (fG 0 j.toNat) else none
 | _=>none
def rJ:List D->Option (List D)
 | [.int i,.int j]=>if okR i && okR j then some (fG i (j - i).toNat) else none
 | _=>none
def h7 (f:aq->R (List D)):aq->R (List D):=fun ρ=>(f ρ).bind fun ds=>rO (lx ds)
def rH (f:aq->R (List D)):aq->R (List D):=fun ρ=>(f ρ).bind fun ds=>rO (rJ ds)
theorem Jg {a:R4} {f:aq->R (List D)} {p pos:Pos} (hg:Gl X "range") (hm:X.mg "range"=none) (ha:FA X [a] f) (hs:R5 [a] X.env=[(false,eval a X.env)]:=by rfl):FI X tg (.Call (.Name "range" p) [a] [] pos) (h7 f):=by
 intro pins s σ H R I ⟨O,ρ,E,hG⟩
 refine CH hg hm ha hs pins s σ H R I ⟨O,ρ,E,(jF.bind hG).imp fun es hG' vs H1 s1 d1=>?_⟩
 clear hG
 obtain⟨ds,hG,q⟩:=jF.rO hG'
 clear hG'
 unfold lx at hG
 split at hG
 ·rename_i j
  obtain⟨h1,h2⟩:=bE hG
  subst h2
  obtain⟨j1,j2⟩:=of_decide_eq_true h1
  obtain⟨v,ev,dv⟩:=d1.one
  exact⟨j,by rw [ev,fN.mp dv],j1,j2,q _ H1 s1 (sI 0 _)⟩
 ·cases hG
theorem Je {a b:R4} {f:aq->R (List D)} {p pos:Pos} (hg:Gl X "range") (hm:X.mg "range"=none) (ha:FA X [a,b] f) (hs:R5 [a,b] X.env=[(false,eval a X.env),(false,eval b X.env)]:=by rfl) (hs2:R5 [b] X.env=[(false,eval b X.env)]:=by rfl):FI X tg (.Call (.Name "range" p) [a,b] [] pos) (rH f):=by
 intro pins s σ H R I ⟨O,ρ,E,hG⟩
 refine Ct hg hm ha hs hs2 pins s σ H R I ⟨O,ρ,E,(jF.bind hG).imp fun es hG' vs H1 s1 d1=>?_⟩
 clear hG
 obtain⟨ds,hG,q⟩:=jF.rO hG'
 clear hG'
 unfold rJ at hG
 split at hG
 ·rename_i i j
  obtain⟨h1,h2⟩:=bE hG
  subst h2
  rw [OD] at h1
  obtain⟨i1,i2⟩:=of_decide_eq_true h1.1
  obtain⟨j1,j2⟩:=of_decide_eq_true h1.2
  obtain⟨v,w,ev,dv,dw⟩:=d1.two
  exact⟨i,j,by rw [ev,fN.mp dv,fN.mp dw],⟨i1,i2,j1,j2⟩,q _ H1 s1 (sI i _)⟩
 ·cases hG
end

abbrev GF:=D->aq->Option aq
def KZ (K:QN) (g:GF):TG:=fun v σ H Q=>∃ O ρ d ρ',dZ K O H ρ σ/\cN K (hid H O) d v/\g d ρ=some ρ'/\∀ σ',dZ K O H ρ' σ'->(∀ (i:Nat) x,ρ'[i]?=some (some x)->(∀ d,x≠.val d)->σ'[i]?=σ[i]?/\ρ[i]?=some (some x))->Q σ' H
def FG (X:Cx) (tg:R4) (g:GF):Prop:=PG X tg (KZ X.K g)
def setV (i:Nat) (d:D) (ρ:aq):aq:=ρ.set i (some (.val d))
theorem bf {α:Type} {l:List α} {i j:Nat} {a b:α} (h:(l.set i a)[j]?=some b):(j=i/\b=a)\/(j≠i/\l[j]?=some b):=by
 by_cases e:j=i
 ·subst e
  left
  have hj:j < (l.set j a).length:=(List.getElem?_eq_some_iff.mp h).1
  rw [List.length_set] at hj
  rw [N7 hj] at h
  exact⟨rfl,(Option.some.inj h).symm⟩
 ·right
  rw [N8 (Ne.symm e)] at h
  exact⟨e,h⟩
theorem dZ.setV {K:QN} {O:List RP} {H:Hp} {ρ:aq} {σ:St} (E:dZ K O H ρ σ) {i:Nat} {d:D} {v:V} (hi:i < σ.length) (hd:cN K (hid H O) d v):dZ K O H (setV i d ρ) (σ.set i (some v)) :=
  ⟨fun j d' e=>by
    rcases bf e with ⟨hj,eq⟩ | ⟨ne,eq⟩
    · cases eq; rw [hj]; exact⟨v,N7 hi,hd⟩
    · obtain⟨w,e1,e2⟩:=E.val j d' eq
      exact⟨w,by rw [N8 (Ne.symm ne)]; exact e1,e2⟩,
   fun j xs e=>by
    rcases bf e with ⟨_,eq⟩ | ⟨ne,eq⟩
    · cases eq
    · obtain⟨a,e1,e2⟩:=E.own j xs eq
      exact⟨a,by rw [N8 (Ne.symm ne)]; exact e1,e2⟩,
   fun j k xs ys a e1 e2 e3 e4=>by
    rcases bf e1 with ⟨_,q1⟩ | ⟨ne1,q1⟩
    · cases q1
    · rcases bf e2 with ⟨_,q2⟩ | ⟨ne2,q2⟩
      · cases q2
      · rw [N8 (Ne.symm ne1)] at e3
        rw [N8 (Ne.symm ne2)] at e4
        exact E.one j k xs ys a q1 q2 e3 e4,E.all⟩
section
variable {X:Cx} {pos:Pos}
def gN (i:Nat):GF:=fun d ρ=>some (setV i d ρ)
theorem Lf {i:Nat} {x:Str} (hN:X.N.Nodup) (hi:X.N[i]?=some x) (hx:Loc X.env.scope x) (hf:X.fn x=true\/X.env.scope.names.lookup x=some .local:=by first | exact .inl rfl | exact .inr rfl | assumption):FG X (.Name x pos) (gN i):=by
 intro pins s σ H v u Q I r ⟨O,ρ,d,ρ',E,hd,hg,q⟩
 cases hg
 have hiσ:i < σ.length:=by rw [I.len]; exact(List.getElem?_eq_some_iff.mp hi).1
 refine Fm hN hi hx hf pins s σ H v u Q I r (q _ (E.setV hiσ hd) fun j x e nv=>?_)
 rcases bf e with ⟨_,eq⟩ | ⟨ne,eq⟩
 ·cases eq; exact absurd rfl (nv _)
 ·exact⟨N8 (Ne.symm ne),eq⟩
abbrev CT:=List D->aq->Option aq
def LO (K:QN) (g:CT):GQ:=fun vs σ H Q=>∃ O ρ ds ρ',dZ K O H ρ σ/\aZ K (hid H O) ds vs/\g ds ρ=some ρ'/\∀ σ',dZ K O H ρ' σ'->(∀ (i:Nat) x,ρ'[i]?=some (some x)->(∀ d,x≠.val d)->σ'[i]?=σ[i]?/\ρ[i]?=some (some x))->Q σ' H
def Jt (X:Cx) (ts:List R4) (g:CT):Prop:=Kh X ts (LO X.K g)
def DZ:CT:=fun ds ρ=>match ds with
 | []=>some ρ
 | _=>none
def zK (g:GF) (h:CT):CT:=fun ds ρ=>match ds with
 | d::r=>(g d ρ).bind fun ρ1=>h r ρ1
 | _=>none
theorem KS:Jt X [] DZ:=by
 intro pins s σ H vs us Q I r ⟨O,ρ,ds,ρ',E,hd,hg,q⟩
 cases ds with
 | nil =>
  cases hg
  rw [dh] at hd
  exact Fw pins s σ H vs us Q I r ⟨hd,q _ E fun i x e _=>⟨rfl,e⟩⟩
 | cons _ _=>cases hg
theorem Kw {e:R4} {es:List R4} {g:GF} {h:CT} (h1:FG X e g) (h2:Jt X es h) (hs:(assignEach (e::es) X.env).map (·.2)=assign e X.env::(assignEach es X.env).map (·.2):=by rfl):Jt X (e::es) (zK g h):=by
 intro pins s σ H vs us Q I r ⟨O,ρ,ds,ρ',E,hd,hg,q⟩
 cases ds with
 | nil=>cases hg
 | cons d ds =>
  obtain⟨ρ1,e1,e2⟩:=bind_some hg
  rw [bz] at hd
  obtain⟨v,vr,ev,d1,d2⟩:=hd
  exact EF h1 h2 hs pins s σ H vs us Q I r ⟨v,vr,ev,O,ρ,d,ρ1,E,d1,e1,fun σ1 E1 k1=>⟨O,ρ1,ds,ρ',E1,d2,e2,fun σ2 E2 k2=>q σ2 E2 fun i x e nv=>by
   obtain⟨a1,a2⟩:=k2 i x e nv
   obtain⟨b1,b2⟩:=k1 i x a2 nv
   exact⟨a1.trans b1,b2⟩⟩⟩
def gT (n:Nat) (g:CT):GF:=fun d ρ=>match d with
 | .tup xs=>if xs.length=n then g xs ρ else none
 | _=>none
theorem MI {es:List R4} {k:Nat} {g:CT} {n:Nat} (hc:X.calm=true) (h:Jt X es g) (hn:(assignEach es X.env).length=n:=by rfl) (hst:(assignEach es X.env).findIdx? (·.1)=none:=by rfl):FG X (.Tuple es k pos) (gT n g):=by
 intro pins s σ H v u Q I r ⟨O,ρ,d,ρ',E,hd,hg,q⟩
 cases d with
 | tup xs =>
  obtain⟨p,vs,ev,g1,g2⟩:=cB.mp hd
  have hg':(if xs.length=n then g xs ρ else none)=some ρ':=hg
  by_cases hl:xs.length=n
  ·rw [if_pos hl] at hg'
   exact Hs hc h hn hst pins s σ H v u Q I r ⟨p,vs,ev,bP (aD H O) g1,by rw [<- g2.length]; exact hl,O,ρ,xs,ρ',E,g2,hg',q⟩
  ·rw [if_neg hl] at hg'; cases hg'
 | _=>cases hg
end

def Bo {α:Type} (r:R α):R α:=match r with
 | .ok a=>.ok a
 | .error _=>un
theorem EH {α:Type} {r:R α} {a:α} (h:Bo r=.ok a):r=.ok a:=by
 cases r with
 | ok b=>exact h
 | error z=>cases h
def inB (ix:List (Option Nat)) (ρ:aq):aq:=ix.map fun o=>match o with
 | some i=>match ρ[i]? with
  | some (some (.val d))=>some (.val d)
  | _=>none
 | none=>none
def zt (ρ:aq) (g:GF) (C:aq->R Bool) (Fe:FX):List D->R (List D)
 | []=>.ok []
 | d::ds=>(rO (g d ρ)).bind fun ρ1=>(Bo (C ρ1)).bind fun c=>if c then (Bo (Fe ρ1)).bind fun v=>(zt ρ g C Fe ds).bind fun r=>.ok (v::r) else zt ρ g C Fe ds
theorem mh (ρ:aq) (g:GF) (C:aq->R Bool) (Fe:FX) (d:D) (ds:List D):zt ρ g C Fe (d::ds)=(rO (g d ρ)).bind fun ρ1=>(Bo (C ρ1)).bind fun c=>if c then (Bo (Fe ρ1)).bind fun v=>(zt ρ g C Fe ds).bind fun r=>.ok (v::r) else zt ρ g C Fe ds:=rfl
def jV (ix:List (Option Nat)) (G:aq->R (List D)) (g:GF) (C:aq->R Bool) (Fe:FX):FX:=fun ρ=>(G ρ).bind fun ds=>if small ds.length then Bo ((zt (inB ix ρ) g C Fe ds).bind fun r=>.ok (.lst r)) else un
def KR (X:Cx) (ifs:List R4) (F:aq->R Bool):Prop:=Hh X ifs (Ky X F)
def fA:aq->R Bool:=fun _=>.ok true
theorem KI {X:Cx}:KR X [] fA:=fun pins s σ H Q I ⟨O,ρ,E,q⟩=>Fg pins s σ H Q I (q H (bj.refl H))
theorem KO {X:Cx} {c:R4} {F:aq->R Bool} (h:FT X c F):KR X [c] F:=Gj h
theorem oU {ix:List (Option Nat)} {ρ:aq} {j:Nat} {x:S} (e:(inB ix ρ)[j]?=some (some x)):∃ i d,ix[j]?=some (some i)/\ρ[i]?=some (some (.val d))/\x=.val d:=by
 unfold inB at e
 rw [Oy] at e
 cases q:ix[j]? with
 | none=>rw [q] at e; cases e
 | some o =>
  rw [q] at e
  cases o with
  | none=>cases e
  | some i =>
   have e':(match ρ[i]? with | some (some (.val d))=>some (S.val d) | _=>none)=some x:=Option.some.inj e
   split at e'
   ·rename_i d hd
    cases e'
    exact⟨i,d,rfl,hd,rfl⟩
   ·cases e'
theorem FR {K:QN} {O:List RP} {H:Hp} {ρ:aq} {σ:St} (ix:List (Option Nat)) (E:dZ K O H ρ σ):dZ K O H (inB ix ρ) (inBlock ix σ):=by
 refine⟨fun j d e=>?_,fun j xs e=>?_,fun j k xs ys a e=>?_,E.all⟩
 ·obtain⟨i,d',q1,q2,q3⟩:=oU e
  cases q3
  obtain⟨v,e1,e2⟩:=E.val i d q2
  refine⟨v,?_,e2⟩
  unfold inBlock
  rw [Oy,q1]
  show some ((σ[i]?).getD none)=some (some v)
  rw [e1]; rfl
 ·obtain⟨_,_,_,_,q3⟩:=oU e
  cases q3
 ·obtain⟨_,_,_,_,q3⟩:=oU e
  cases q3
theorem sf {H:Hp} {O:List RP} {p:RP} {o:HO} (hp:H p=none):bj (hid H O) (hid (upd H p o) (p::O)):=fun b u h=>by
 unfold hid at h ⊢
 by_cases hb:b∈O
 ·rw [if_pos hb] at h; cases h
 ·rw [if_neg hb] at h
  have ne:=aX h hp
  rw [if_neg (by intro z; rcases List.mem_cons.mp z with z | z; exact ne z; exact hb z),aE ne]; exact h
theorem dZ.hideNew {K:QN} {O:List RP} {H:Hp} {ρ:aq} {σ:St} {p:RP} {o:HO} (m:tH o) (E:dZ K O H ρ σ) (hp:H p=none):dZ K (p::O) (upd H p o) ρ σ:=by
 have s:bj (hid H O) (hid (upd H p o) (p::O)):=sf hp
 refine⟨fun i d e=>let ⟨v,a,b⟩:=E.val i d e; ⟨v,a,b.mono s⟩,fun i xs e=>?_,E.one,(E.all.same (bF hp o)).cons aL m⟩
 obtain⟨a,e1,e2,e3⟩:=E.own i xs e
 obtain⟨u,hu⟩:=e3.some
 exact⟨a,e1,N5 _ e2,e3.mono (by rw [aE (aX hu hp)]) s⟩
theorem dZ.rewrite {K:QN} {O:List RP} {H:Hp} {ρ:aq} {σ:St} {p:RP} {o:HO} (m:tH o) (E:dZ K O H ρ σ) (hp:p∈O) (hs:∀ (i:Nat) xs,ρ[i]?=some (some (.own xs))->σ[i]?≠some (some (.ref p))):dZ K O (upd H p o) ρ σ:=by
 have s:bj (hid H O) (hid (upd H p o) O):=ia hp
 refine⟨fun i d e=>let ⟨v,a,b⟩:=E.val i d e; ⟨v,a,b.mono s⟩,fun i xs e=>?_,E.one,E.all.upd hp m⟩
 obtain⟨a,e1,e2,e3⟩:=E.own i xs e
 have ne:a≠p:=fun z=>hs i xs e (by rw [<- z]; exact e1)
 exact⟨a,e1,e2,e3.mono (by rw [aE ne]) s⟩
theorem dZ.forget {K:QN} {O:List RP} {H:Hp} {ρ ρ':aq} {σ:St} (E:dZ K O H ρ σ) (h:∀ (i:Nat) x,ρ'[i]?=some (some x)->ρ[i]?=some (some x)):dZ K O H ρ' σ :=
 ⟨fun i d e=>E.val i d (h i _ e),fun i xs e=>E.own i xs (h i _ e),fun i j xs ys a e1 e2=>E.one i j xs ys a (h i _ e1) (h j _ e2),E.all⟩

def Fills (ρ:aq) (g:GF):Prop:=∀ d ρ1,g d ρ=some ρ1->∀ (i:Nat) x,ρ[i]?=some (some x)->ρ1[i]?=some (some x)
theorem uT (ix:List (Option Nat)) (ρ:aq):∀ (i:Nat) xs,(inB ix ρ)[i]?≠some (some (.own xs)):=by
 intro j xs e
 obtain⟨_,_,_,_,q3⟩:=oU e
 cases q3
theorem Km {α:Type} {o:Option α} {a:α} (h:rO o=.ok a):o=some a:=by
 cases o with
 | none=>cases h
 | some b=>cases h; rfl

end TG
namespace TG
open PySem PySem.Spec L2
variable [aV]

section
variable {X:Cx} {elt tg iter:R4} {ifs:List R4} {scope:R1} {pos:Pos} {N:List Str} {ix:List (Option Nat)} {G:aq->R (List D)} {g:GF} {C:aq->R Bool} {Fe:FX}
structure rh (ix:List (Option Nat)) (g:GF):Prop where
 fill:∀ ρ,Fills (inB ix ρ) g
 own:∀ ρ d ρ1,g d (inB ix ρ)=some ρ1->∀ (i:Nat) xs,ρ1[i]?≠some (some (.own xs))
theorem x3 {ρ:aq} {i:Nat} (h:ix[i]?=some none):∀ x,(inB ix ρ)[i]?≠some (some x):=fun x e=>by
 obtain⟨_,_,q,_⟩:=oU e
 rw [h] at q; cases q
theorem eG {i:Nat} (h:ix[i]?=some none):rh ix (gN i) :=
  ⟨fun ρ d ρ1 e j x q=>by
    cases e
    by_cases z:j=i
    · subst z; exact absurd q (x3 h x)
    · unfold setV; rw [N8 (Ne.symm z)]; exact q,
   fun ρ d ρ1 e j xs q=>by
    cases e
    rcases bf q with ⟨_,z⟩ | ⟨_,z⟩
    · cases z
    · exact uT ix ρ j xs z⟩
def Gw (ix:List (Option Nat)) (is:List Nat):Bool:=is.all fun i=>match ix[i]? with
 | some none=>true
 | _=>false
def oA:List Nat->CT
 | []=>DZ
 | i::is=>zK (gN i) (oA is)
theorem AB:∀ (is:List Nat) (ds:List D) (ρ ρ1:aq),oA is ds ρ=some ρ1->∀ (k:Nat) (x:S),ρ1[k]?=some (some x)->(k∈is/\∃ d,x=.val d)\/ρ[k]?=some (some x)
 | [],ds,ρ,ρ1,h,k,x,e=>by
  cases ds with
  | nil=>cases h; exact .inr e
  | cons _ _=>cases h
 | i::is,ds,ρ,ρ1,h,k,x,e=>by
  cases ds with
  | nil=>cases h
  | cons d ds =>
   rcases AB is ds (setV i d ρ) ρ1 h k x e with ⟨a,b⟩ | q
   ·exact .inl ⟨N5 _ a,b⟩
   ·rcases bf q with ⟨z,w⟩ | ⟨_,w⟩
    ·exact .inl ⟨by rw [z]; exact N4,d,Option.some.inj w⟩
    ·exact .inr w
theorem yL:∀ (is:List Nat) (ds:List D) (ρ ρ1:aq),oA is ds ρ=some ρ1->∀ (k:Nat) (x:S),k∉is->ρ[k]?=some (some x)->ρ1[k]?=some (some x)
 | [],ds,ρ,ρ1,h,k,x,_,e=>by
  cases ds with
  | nil=>cases h; exact e
  | cons _ _=>cases h
 | i::is,ds,ρ,ρ1,h,k,x,n,e=>by
  cases ds with
  | nil=>cases h
  | cons d ds =>
   refine yL is ds (setV i d ρ) ρ1 h k x (fun z=>n (N5 _ z)) ?_
   unfold setV
   rw [N8 (fun z=>n (by rw [z]; exact N4))]; exact e
theorem gQ {is:List Nat} {n:Nat} (h:Gw ix is=true):rh ix (gT n (oA is)):=by
 have hn:∀ i∈is,ix[i]?=some none:=fun i hi=>by
  have:=List.all_eq_true.mp h i hi
  cases e:ix[i]? with
  | none=>rw [e] at this; cases this
  | some o=>cases o with
   | none=>rfl
   | some _=>rw [e] at this; cases this
 have shape:∀ ρ d ρ1,gT n (oA is) d ρ=some ρ1->∃ ds,oA is ds ρ=some ρ1:=fun ρ d ρ1 e=>by
  cases d with
  | tup xs =>
   have e':(if xs.length=n then oA is xs ρ else none)=some ρ1:=e
   by_cases hl:xs.length=n
   ·rw [if_pos hl] at e'; exact⟨xs,e'⟩
   ·rw [if_neg hl] at e'; cases e'
  | _=>cases e
 refine⟨fun ρ d ρ1 e k x q=>?_,fun ρ d ρ1 e k xs q=>?_⟩
 ·obtain⟨ds,e⟩:=shape _ d ρ1 e
  exact yL is ds _ ρ1 e k x (fun z=>x3 (hn k z) x q) q
 ·obtain⟨ds,e⟩:=shape _ d ρ1 e
  rcases AB is ds _ ρ1 e k _ q with ⟨_,d,z⟩ | z
  ·cases z
  ·exact uT ix ρ k xs z
structure i3 (X:Cx) (scope:R1) (N:List Str) (ix:List (Option Nat)):Prop where
 cell:∀ y∈scope.names,y.2≠.cell
 kind:scope.kind=.function
 names:∀ y∈scope.names,y.2=.local->scope.names.lookup y.1=some .local
 free:∀ y∈scope.names,y.2=.free->X.env.scope.names.lookup y.1=some .cell\/X.env.scope.names.lookup y.1=some .free
 ix:xh X.N N scope.names ix=true
def Az (XS:List (Str×SF)) (XN:List Str) (scope:R1) (N:List Str) (ix:List (Option Nat)):Bool :=
 scope.names.all (fun y=>decide (y.2≠.cell)) && decide (scope.kind=.function) && scope.names.all (fun y=>decide (y.2≠.local) || decide (scope.names.lookup y.1=some .local)) &&
  scope.names.all (fun y=>decide (y.2≠.free) || (decide (XS.lookup y.1=some .cell) || decide (XS.lookup y.1=some .free))) && xh XN N scope.names ix
theorem i3.of (h:Az X.env.scope.names X.N scope N ix=true):i3 X scope N ix:=by
 unfold Az at h
 simp only [OD] at h
 obtain⟨⟨⟨⟨h1,h2⟩,h3⟩,h4⟩,h5⟩:=h
 refine⟨fun y hy=>of_decide_eq_true (List.all_eq_true.mp h1 y hy),of_decide_eq_true h2,fun y hy e=>?_,fun y hy e=>?_,h5⟩
 ·rcases O9 _ _ ▸ List.all_eq_true.mp h3 y hy with q | q
  ·exact absurd e (of_decide_eq_true q)
  ·exact of_decide_eq_true q
 ·rcases O9 _ _ ▸ List.all_eq_true.mp h4 y hy with q | q
  ·exact absurd e (of_decide_eq_true q)
  ·rcases O9 _ _ ▸ q with q | q
   ·exact .inl (of_decide_eq_true q)
   ·exact .inr (of_decide_eq_true q)
def IZ (X:Cx) (scope:R1) (N:List Str) (tg elt:R4) (ifs:List R4) (g:GF) (C:aq->R Bool) (Fe:FX):Prop :=
 ∀ cl C' fp s H E,FG (cJ X scope N cl C' fp s H E) tg g/\KR (cJ X scope N cl C' fp s H E) ifs C/\FE (cJ X scope N cl C' fp s H E) elt Fe
def Iw (K:QN) (F:aq->R Bool):TT:=fun σ H Q=>∃ O ρ b,dZ K O H ρ σ/\F ρ=.ok b/\∀ H',bj H H'->Q b H'
def Ln (K:QN) (F:FX):TE:=fun σ H Q=>∃ O ρ d,dZ K O H ρ σ/\F ρ=.ok d/\∀ v H',bj H H'->cN K (hid H' O) d v->Q v H'
theorem IZ.k (hb:IZ X scope N tg elt ifs g C Fe):∀ cl C' fp s H E,PG (cJ X scope N cl C' fp s H E) tg (KZ X.K g)/\Hh (cJ X scope N cl C' fp s H E) ifs (Iw X.K C)/\PE (cJ X scope N cl C' fp s H E) elt (Ln X.K Fe):=fun cl C' fp s H E=>by
 obtain⟨h1,h2,h3⟩:=hb cl C' fp s H E
 refine⟨h1,fun pins s σ H Q I ⟨O,ρ,b,e1,e2,q⟩=>h2 pins s σ H Q I ⟨O,ρ,e1,by rw [e2]; exact q⟩,fun pins s σ H Q I ⟨O,ρ,d,e1,e2,q⟩=>h3 pins s σ H Q I ⟨O,ρ,e1,by rw [e2]; exact q⟩⟩
def L6 (X:Cx) (F:FX):TE:=fun σ H Q=>∃ O ρ,dZ X.K O H ρ σ/\jF X σ O H (F ρ) fun d=>∀ D H' total acc,d=.lst total->bj H H'->H D=none->H' D=some (.lst acc)->aZ X.K (hid H' (D::O)) total acc->Q (.ref D) H'
theorem Ms {F:FX}:∀ σ H Q,tF X F σ H Q->L6 X F σ H Q:=fun σ H Q ⟨O,ρ,E,hF⟩=>⟨O,ρ,E,hF.imp fun d q D H' total acc e sm hD hD' dn=>by
 subst e
 have DO:D∉O:=E.all.not hD
 exact q _ H' sm (cA.mpr ⟨D,acc,rfl,oO.of (by rw [jX DO]; exact hD'),dn.mono (iD fun a ha=>N5 _ ha)⟩)⟩
theorem Dt (tk:rh ix g):∀ σ H Q,L6 X (jV ix G g C Fe) σ H Q->KQ (LI X G) (KZ X.K g) (Iw X.K C) (Ln X.K Fe) ix σ H Q:=fun σ H Q ⟨O,ρ,E,hF⟩=>by
 refine⟨O,ρ,E,(jF.bind hF).imp fun ds hF=>?_⟩
 have hz:small ds.length=true:=by
  cases e:small ds.length with
  | true=>rfl
  | false=>rw [e] at hF; exact hF.elim
 rw [hz,if_pos rfl] at hF
 cases hL:zt (inB ix ρ) g C Fe ds with
 | error z=>rw [hL] at hF; exact hF.elim
 | ok total =>
 rw [hL] at hF
 have q:∀ D H' total' acc,TG.D.lst total=.lst total'->bj H H'->H D=none->H' D=some (.lst acc)->aZ X.K (hid H' (D::O)) total' acc->Q (.ref D) H':=hF
 have e2:=hL
 have hfill:=tk.fill
 have hown:=tk.own
 refine fun J H1 s1 wk D hD=>?_
 have E1:dZ X.K (D::O) (upd H1 D (.lst [])) (inB ix ρ) (inBlock ix σ):=((FR ix E).same s1).hideNew trivial hD
 have DO:D∉O:=(E.all.same s1).not hD
 refine⟨fun i m σ' H'=>m=ds.length - i/\i<=ds.length/\bj H1 H'/\dZ X.K (D::O) H' (inB ix ρ) σ'/\∃ acc dn rest,H' D=some (.lst acc)/\acc.length<=i/\aZ X.K (hid H' (D::O)) dn acc/\zt (inB ix ρ) g C Fe (ds.drop i)=.ok rest/\dn++rest=total,
  ⟨ds.length,by rw [Pm],Om _,bF hD _,E1,[],[],total,aL,Oa _,dh.mpr rfl,by rw [O2]; exact e2,rfl⟩,?_⟩
 rintro i m σ' H' ⟨rfl,hi,sm,E',acc,dn,rest,hacc,hlen,hdn,hrest,htot⟩
 have sH:bj (hid H1 O) (hid H' (D::O)):=fun b o h=>by
  have h2:=sm b o (aD H1 O b o h)
  unfold hid at h ⊢
  by_cases hb:b∈O
  ·rw [if_pos hb] at h; cases h
  ·rw [if_neg hb] at h
   have ne:b≠D:=aX h hD
   rw [if_neg (by intro z; rcases List.mem_cons.mp z with z | z; exact ne z; exact hb z)]; exact h2
 by_cases hlt:i < ds.length
 ·right
  obtain⟨go,yl⟩:=(wk H' (D::O) i E'.all sH).1 ds[i] (by simp [hlt])
  refine⟨go,fun x H2 y=>?_⟩
  obtain⟨s2,dx'⟩:=yl x H2 y
  have E':=E'.same s2
  have sm:=sm.trans s2
  have hacc:=s2 _ _ hacc
  have hdn:=hdn.mono (bX s2)
  rw [Pp hlt,mh] at hrest
  obtain⟨ρ1,g1,hrest⟩:=rN hrest
  have g1:=Km g1
  obtain⟨c,c1,hrest⟩:=rN hrest
  have c1:=EH c1
  refine⟨D::O,inB ix ρ,ds[i],ρ1,E',dx',g1,fun σ3 E3 _=>?_⟩
  refine⟨D::O,ρ1,c,E3,c1,fun H4 s4=>?_⟩
  have E4:=E3.same s4
  have back:∀ {H5:Hp},dZ X.K (D::O) H5 ρ1 σ3->dZ X.K (D::O) H5 (inB ix ρ) σ3:=fun z=>z.forget fun j x e=>hfill ρ _ _ g1 j x e
  cases c with
  | true =>
   refine Gg ?_
   rw [if_pos rfl] at hrest
   obtain⟨v,v1,hrest⟩:=rN hrest
   have v1:=EH v1
   obtain⟨r,r1,hrest⟩:=rN hrest
   cases hrest
   refine⟨D::O,ρ1,v,E4,v1,fun w H5 s5 dw=>?_⟩
   have s45:=s4.trans s5
   have ha5:H5 D=some (.lst acc):=s45 _ _ hacc
   have hzl:ds.length < RU:=Pq (of_decide_eq_true hz) (by decide)
   refine⟨acc,ha5,by omega,ds.length - (i+1),by omega,rfl,hlt,?_,?_,acc++[w],dn++[v],r,aL,by rw [OA,OH]; omega,?_,r1,by rw [Pr]; exact htot⟩
   ·intro b o h
    rw [aE (aX h hD)]; exact s45 _ _ (sm _ _ h)
   ·exact back ((E3.same s45).rewrite trivial N4 fun j xs e=>absurd e (hown ρ _ _ g1 j xs))
   ·have s6:bj (hid H5 (D::O)) (hid (upd H5 D (.lst (acc++[w]))) (D::O)):=ia N4
    exact(hdn.mono ((bX s45).trans s6)).snoc (dw.mono s6)
  | false =>
   refine EZ ?_
   rw [if_neg Og] at hrest
   exact⟨ds.length - (i+1),by omega,rfl,hlt,sm.trans s4,back E4,acc,dn,rest,s4 _ _ hacc,by omega,hdn.mono (bX s4),hrest,htot⟩
 ·left
  have ei:i=ds.length:=by omega
  subst ei
  refine⟨(wk H' (D::O) ds.length E'.all sH).2 rfl,?_⟩
  rw [Pt] at hrest
  cases hrest
  rw [Oo] at htot
  subst htot
  exact q D H' _ acc rfl (s1.trans sm) (s1.free hD) hacc hdn
theorem He (tk:rh ix g):∀ σ H Q,tF X (jV ix G g C Fe) σ H Q->KQ (LI X G) (KZ X.K g) (Iw X.K C) (Ln X.K Fe) ix σ H Q:=fun σ H Q h=>Dt tk σ H Q (Ms σ H Q h)
theorem Ni (hc:X.calm=true) (ok:i3 X scope N ix) (tk:rh ix g) (hi:FI X tg iter G) (hb:IZ X scope N tg elt ifs g C Fe)
  (hs:∀ x,Si iter X.env x=pure x:=by intro _; rfl):FE X (.ListComp elt [⟨tg,iter,ifs,0⟩] scope pos) (jV ix G g C Fe) :=
 PE.weak (GW hc ok.cell ok.kind ok.names ok.free ok.ix hi hb.k hs) (He tk)
end

structure Ks where
 nx:aq->R D
 bk:aq->R D:=fun _=>un
 ct:aq->R D:=fun _=>un
 ex:Ex->aq->R D:=fun x _=>.error (some x)
abbrev cn:=Ks->aq->R D
def uj {α:Type} (r:R α) (k:Ks) (ρ:aq) (f:α->R D):R D:=match r with
 | .ok a=>f a
 | .error (some x)=>k.ex x ρ
 | .error none=>un
structure Base (Hb:Hp) (Ob:List RP) (H:Hp) (O:List RP):Prop where
 same:bj Hb H
 sub:∀ a∈Ob,a∈O
 new:∀ a∈O,a∈Ob\/Hb a=none
def mq (K:QN) (H:Hp) (O:List RP):List RP->List D->Prop
 | [],[]=>True
 | b::bs,x::xs=>dD K H O b x/\mq K H O bs xs
 | _,_=>False
def ya (K:QN) (H:Hp) (O:List RP) (a:RP) (bs:List RP) (d:D):Prop :=
 ∃ xs,mq K H O bs xs/\((d=.lst xs/\H a=some (.lst (bs.map .ref)))\/(∃ kvs:List (List Key×V),d=.dct (kvs.map fun p=>.tup (p.1.map bu)) xs/\H a=some (.dT kvs)/\kvs.map (·.2)=bs.map .ref)\/(d=.dct [] xs/\bs=[]/\H a=some (.dK [])))
def Ba (K:QN) (Hb:Hp) (Ob O:List RP) (H:Hp) (ρ:aq) (σ:St) (i:Nat) (d:D):Prop :=
 ∃ a bs,σ[i]?=some (some (.ref a))/\ya K H O a bs d/\(a::bs).Nodup/\(∀ b∈a::bs,b∈O/\Hb b=none/\b∉Ob/\∀ (j:Nat) d',ρ[j]?=some (some (.own d'))->σ[j]?≠some (some (.ref b)))/\∀ (j:Nat) d',ρ[j]?=some (some (.nest d'))->j=i
theorem mq.mono {K:QN} {H H':Hp} {O O':List RP} (s:bj (hid H O) (hid H' O')):∀ {bs:List RP} {xs:List D},mq K H O bs xs->(∀ b∈bs,(∃ o,H b=some o)->H' b=H b)->mq K H' O' bs xs
 | [],[],_,_=>trivial
 | b::bs,x::xs,h,e=>⟨h.1.mono (e b N4 h.1.some).symm s,mq.mono s h.2 fun b' hb=>e b' (N5 _ hb)⟩
 | [],_::_,h,_=>h.elim
 | _::_,[],h,_=>h.elim
theorem mq.some {K:QN} {H:Hp} {O:List RP}:∀ {bs:List RP} {xs:List D},mq K H O bs xs->∀ b∈bs,∃ o,H b=some o
 | [],_,_,_,hb=>nomatch hb
 | b::bs,x::xs,h,b',hb=>by
  rcases List.mem_cons.mp hb with z | z
  ·rw [z]; exact h.1.some
  ·exact mq.some h.2 b' z
 | _::_,[],h,_,_=>h.elim
theorem ya.some {K:QN} {H:Hp} {O:List RP} {a:RP} {bs:List RP} {d:D} (h:ya K H O a bs d):∀ b∈a::bs,∃ o,H b=some o:=fun b hb=>by
 obtain⟨xs,h1,h2⟩:=h
 rcases List.mem_cons.mp hb with z | z
 ·rw [z]
  rcases h2 with ⟨_,q⟩ | ⟨_,_,q,_⟩ | ⟨_,_,q⟩ <;> exact⟨_,q⟩
 ·exact h1.some b z
theorem ya.mono {K:QN} {H H':Hp} {O O':List RP} {a:RP} {bs:List RP} {d:D} (h:ya K H O a bs d) (s:bj (hid H O) (hid H' O')) (e:∀ b∈a::bs,(∃ o,H b=Option.some o)->H' b=H b):ya K H' O' a bs d:=by
 have ea:=e a N4 (h.some a N4)
 obtain⟨xs,h1,h2⟩:=h
 refine⟨xs,h1.mono s fun b hb=>e b (N5 _ hb),?_⟩
 rw [ea]; exact h2
theorem Ba.to {K:QN} {Hb Hb':Hp} {Ob O O':List RP} {H H':Hp} {ρ ρ':aq} {σ σ':St} {i:Nat} {d:D} (h:Ba K Hb Ob O H ρ σ i d) (hσ:σ'[i]?=σ[i]?) (s:bj (hid H O) (hid H' O'))
  (k:∀ b,b∈O->Hb b=none->b∉Ob->(∀ (j:Nat) d',ρ[j]?=some (some (.own d'))->σ[j]?≠some (some (.ref b)))->(∃ o,H b=some o)->H' b=H b/\b∈O'/\Hb' b=none/\∀ (j:Nat) d',ρ'[j]?=some (some (.own d'))->σ'[j]?≠some (some (.ref b)))
  (n:∀ (j:Nat) d',ρ'[j]?=some (some (.nest d'))->∃ d2,ρ[j]?=some (some (.nest d2))):Ba K Hb' Ob O' H' ρ' σ' i d:=by
 obtain⟨a,bs,h1,h2,h3,h4,h5⟩:=h
 refine⟨a,bs,hσ.trans h1,h2.mono s fun b hb ho=>?_,h3,fun b hb=>?_,fun j d' q=>?_⟩
 ·obtain⟨q1,q2,q3,q4⟩:=h4 b hb
  exact(k b q1 q2 q3 q4 ho).1
 ·obtain⟨q1,q2,q3,q4⟩:=h4 b hb
  obtain⟨_,w2,w3,w4⟩:=k b q1 q2 q3 q4 (h2.some b hb)
  exact⟨w2,w3,q3,w4⟩
 ·obtain⟨d2,q⟩:=n j d' q
  exact h5 j d2 q
structure eS (K:QN) (Hb:Hp) (Ob O:List RP) (H:Hp) (ρ:aq) (σ:St):Prop where
 env:dZ K O H ρ σ
 base:Base Hb Ob H O
 mine:∀ (i:Nat) xs a,ρ[i]?=some (some (.own xs))->σ[i]?=some (some (.ref a))->Hb a=none/\a∉Ob
 nst:∀ (i:Nat) d,ρ[i]?=some (some (.nest d))->Ba K Hb Ob O H ρ σ i d
theorem Base.same' {Hb:Hp} {Ob:List RP} {H H':Hp} {O:List RP} (b:Base Hb Ob H O) (s:bj H H'):Base Hb Ob H' O:=⟨b.same.trans s,b.sub,b.new⟩
theorem eS.same {K:QN} {Hb:Hp} {Ob O:List RP} {H H':Hp} {ρ:aq} {σ:St} (h:eS K Hb Ob O H ρ σ) (s:bj H H'):eS K Hb Ob O H' ρ σ:=⟨h.env.same s,h.base.same' s,h.mine,fun i d q=>(h.nst i d q).to rfl (bX s) (fun b q1 q2 q3 q4 ⟨o,ho⟩=>⟨by rw [ho,s _ _ ho],q1,q2,q4⟩) fun j d' z=>⟨d',z⟩⟩
theorem eS.after {K:QN} {Hb:Hp} {Ob O:List RP} {H:Hp} {ρ ρ':aq} {σ σ':St} (S:eS K Hb Ob O H ρ σ) (E':dZ K O H ρ' σ') (own:∀ (i:Nat) x,ρ'[i]?=some (some x)->(∀ d,x≠.val d)->σ'[i]?=σ[i]?/\ρ[i]?=some (some x)):eS K Hb Ob O H ρ' σ' :=
 ⟨E',S.base,fun i xs a q1 q2=>by
  obtain⟨w1,w2⟩:=own i _ q1 (fun _ z=>nomatch z)
  rw [w1] at q2
  exact S.mine i xs a w2 q2,fun i d q=>by
  obtain⟨w1,w2⟩:=own i _ q (fun _ z=>nomatch z)
  refine(S.nst i d w2).to w1 (fun _ _ z=>z) (fun b q1 q2 q3 q4 _=>⟨rfl,q1,q2,fun l d' w=>?_⟩) fun l d' w=>⟨d',(own l _ w (fun _ z=>nomatch z)).2⟩
  obtain⟨z1,z2⟩:=own l _ w (fun _ z=>nomatch z)
  rw [z1]; exact q4 l d' z2⟩
structure KW (X:Cx) (Hb:Hp) (Ob:List RP) (E:Ends) (k:Ks) (r:R D):Prop where
 ne:r≠un
 nx:∀ O ρ σ H,eS X.K Hb Ob O H ρ σ->k.nx ρ=r->E.nx σ H
 bk:∀ O ρ σ H,eS X.K Hb Ob O H ρ σ->k.bk ρ=r->E.bk σ H
 ct:∀ O ρ σ H,eS X.K Hb Ob O H ρ σ->k.ct ρ=r->E.ct σ H
 rt:∀ d O v H,r=.ok d->Base Hb Ob H O->cN X.K (hid H O) d v->E.rt v H
 ex:∀ O ρ σ H x,eS X.K Hb Ob O H ρ σ->k.ex x ρ=r->Jf X σ O H x
def MD (X:Cx) (Hb:Hp) (Ob:List RP) (F:cn):TS:=fun E σ H=>∃ O ρ k r,eS X.K Hb Ob O H ρ σ/\F k ρ=r/\KW X Hb Ob E k r
def FS (X:Cx) (st:R6) (F:cn):Prop:=∀ Hb Ob,PS X st (MD X Hb Ob F)
def yT (X:Cx) (st:List R6) (F:cn):Prop:=∀ Hb Ob,x4 X st (MD X Hb Ob F)
theorem jF.on {X:Cx} {Hb:Hp} {Ob O:List RP} {H:Hp} {ρ:aq} {σ:St} {E:Ends} {k:Ks} {r:R D} {α:Type} {fr:R α} {G:α->R D} {Q:α->Prop} (h:uj fr k ρ G=r) (hk:KW X Hb Ob E k r) (S:eS X.K Hb Ob O H ρ σ) (q:∀ a,G a=r->Q a):jF X σ O H fr Q:=by
 match fr,h with
 | .ok a,h=>exact q a h
 | .error (some x),h=>exact hk.ex O ρ σ H x S h
 | .error none,h=>exact absurd h.symm hk.ne
section
variable {X:Cx} {st:R6} {rest body:List R6} {pos:Pos}
def cW:cn:=fun k ρ=>k.nx ρ
def aM (F1 F2:cn):cn:=fun k ρ=>F1 { k with nx:=F2 k } ρ
theorem KY:yT X [] cW:=fun Hb Ob=>x4.weak FH fun E σ H ⟨O,ρ,k,r,S,hF,hk⟩=>hk.nx O ρ σ H S hF
theorem JH {F1 F2:cn} (h1:FS X st F1) (h2:yT X rest F2):yT X (st::rest) (aM F1 F2):=fun Hb Ob=>x4.weak (Ec (h1 Hb Ob) (h2 Hb Ob)) fun E σ H ⟨O,ρ,k,r,S,hF,hk⟩ =>
 ⟨O,ρ,{ k with nx:=F2 k },r,S,hF,hk.ne,fun O' ρ' σ' H' S' e=>⟨O',ρ',k,r,S',e,hk⟩,hk.bk,hk.ct,hk.rt,hk.ex⟩
theorem K3 {F1:cn} (h1:FS X st F1):yT X [st] F1:=fun Hb Ob=>A4 (h1 Hb Ob)
def bQ (f:FX):cn:=fun k ρ=>uj (f ρ) k ρ .ok
theorem MR {e:R4} {f:FX} (h:FE X e f):FS X (.Return (some e) pos) (bQ f):=fun Hb Ob=>PS.weak (IM h) fun E σ H ⟨O,ρ,k,r,S,hF,hk⟩ =>
 ⟨O,ρ,S.env,jF.on hF hk S fun d e v H' s' d'=>hk.rt d O v H' e.symm (S.base.same' s') d'⟩
def JP:cn:=fun _ _=>.ok .non
def n9 (c:aq->R Bool) (A B:cn):cn:=fun k ρ=>uj (c ρ) k ρ fun b=>if b then A k ρ else B k ρ
theorem Nq {c:R4} {a b:List R6} {tc:aq->R Bool} {A B:cn} (hc:FT X c tc) (ha:yT X a A) (hb:yT X b B):FS X (.If c a b pos) (n9 tc A B):=fun Hb Ob=>PS.weak (J4 hc (ha Hb Ob) (hb Hb Ob)) fun E σ H ⟨O,ρ,k,r,S,hF,hk⟩ =>
 ⟨O,ρ,S.env,jF.on hF hk S fun z e H1 s1=>by
  cases z with
  | true=>exact Gg ⟨O,ρ,k,r,S.same s1,e,hk⟩
  | false=>exact EZ ⟨O,ρ,k,r,S.same s1,e,hk⟩⟩
def bU (i:Nat) (f:FX):cn:=fun k ρ=>uj (f ρ) k ρ fun d=>k.nx (setV i d ρ)
theorem eS.setV {K:QN} {Hb:Hp} {Ob O:List RP} {H:Hp} {ρ:aq} {σ:St} (E:eS K Hb Ob O H ρ σ) {i:Nat} {d:D} {v:V} (hi:i < σ.length) (hd:cN K (hid H O) d v):eS K Hb Ob O H (setV i d ρ) (σ.set i (some v)) :=
  ⟨E.env.setV hi hd,E.base,fun j xs a e1 e2=>by
    rcases bf e1 with ⟨_,q⟩ | ⟨ne,q⟩
    · cases q
    · rw [N8 (Ne.symm ne)] at e2
      exact E.mine j xs a q e2,
   fun j dn e=>by
    rcases bf e with ⟨_,q⟩ | ⟨ne,q⟩
    · cases q
    · refine(E.nst j dn q).to (N8 (Ne.symm ne)) (fun _ _ z=>z) (fun b q1 q2 q3 q4 _=>⟨rfl,q1,q2,fun l d' w=>?_⟩) fun l d' w=>?_
      · rcases bf w with ⟨_,z⟩ | ⟨nl,z⟩
        · cases z
        · rw [N8 (Ne.symm nl)]; exact q4 l d' z
      · rcases bf w with ⟨_,z⟩ | ⟨_,z⟩
        · cases z
        · exact⟨d',z⟩⟩
theorem uY {f:FX} {i:Nat} (hi:i < X.N.length) (h:PS X st (GK (tF X f) (vD i))):FS X st (bU i f):=fun Hb Ob pins s σ H E I ⟨O,ρ,k,r,S,hF,hk⟩ =>
 h pins s σ H E I ⟨O,ρ,S.env,jF.on hF hk S fun d e v H1 s1 d1=>hk.nx O _ _ H1 ((S.same s1).setV (by rw [I.len]; exact hi) d1) e⟩
theorem Mh {i:Nat} {x:Str} {e:R4} {f:FX} {pos':Pos} (hN:X.N.Nodup) (hi:X.N[i]?=some x) (hx:Loc X.env.scope x) (he:FE X e f) (hs:swapsWith e (some (.Name x pos')) pos.line X.env=pure false:=by rfl) (hf:X.fn x=true\/X.env.scope.names.lookup x=some .local:=by first | exact .inl rfl | exact .inr rfl | assumption) :
  FS X (.Assign [.Name x pos'] e pos) (bU i f):=uY (List.getElem?_eq_some_iff.mp hi).1 (zq hN hi hx he hs hf)
theorem Nu {elt tg iter:R4} {ifs:List R4} {scope:R1} {N:List Str} {ix:List (Option Nat)} {G:aq->R (List D)} {g:GF} {C:aq->R Bool} {Fe:FX} {i:Nat} {y:Str} {lpos py spos:Pos} (hN:X.N.Nodup) (hi':X.N[i]?=some y) (hx:Loc X.env.scope y)
  (hc:X.calm=true) (ok:i3 X scope N ix) (tk:rh ix g) (hi:FI X tg iter G) (hb:IZ X scope N tg elt ifs g C Fe)
  (hsw:swapsWith (.ListComp elt [⟨tg,iter,ifs,0⟩] scope lpos) (some (.Name y py)) spos.line X.env=pure true:=by rfl)
  (hs:∀ x,Si iter X.env x=pure x:=by intro _; rfl)
  (hf:X.fn y=true\/X.env.scope.names.lookup y=some .local:=by first | exact .inl rfl | exact .inr rfl | assumption) :
  FS X (.Assign [.Name y py] (.ListComp elt [⟨tg,iter,ifs,0⟩] scope lpos) spos) (bU i (jV ix G g C Fe)) :=
 uY (List.getElem?_eq_some_iff.mp hi').1 (PS.weak (GX hN hi' hx hc ok.cell ok.kind ok.names ok.free ok.ix hi hb.k hsw hs hf) fun E σ H q=>He tk σ H _ q)
def DA:cn:=fun _ _=>un
theorem K1:FS X st DA:=fun Hb Ob pins s σ H E I ⟨O,ρ,k,r,S,hF,hk⟩=>absurd hF.symm hk.ne
def kill (is:List Nat) (ρ:aq):aq:=is.foldl (fun ρ i=>ρ.set i none) ρ
theorem kD:∀ (is:List Nat) (ρ:aq) (i:Nat) (x:S),(kill is ρ)[i]?=some (some x)->ρ[i]?=some (some x)
 | [],ρ,i,x,e=>e
 | j::is,ρ,i,x,e=>by
  rcases bf (kD is (ρ.set j none) i x e) with ⟨_,q⟩ | ⟨_,q⟩
  ·cases q
  ·exact q
theorem eS.kill {K:QN} {Hb:Hp} {Ob O:List RP} {H:Hp} {ρ:aq} {σ:St} (E:eS K Hb Ob O H ρ σ) (is:List Nat):eS K Hb Ob O H (kill is ρ) σ :=
 ⟨E.env.forget (kD is ρ),E.base,fun i xs a e1 e2=>E.mine i xs a (kD is ρ i _ e1) e2,fun i d q=>(E.nst i d (kD is ρ i _ q)).to rfl (fun _ _ z=>z) (fun b q1 q2 q3 q4 _=>⟨rfl,q1,q2,fun l d' w=>q4 l d' (kD is ρ l _ w)⟩) fun l d' w=>⟨d',kD is ρ l _ w⟩⟩
def eR (is:List Nat) (F:cn):cn:=fun k ρ=>F k (kill is ρ)
theorem JF {st:List R6} {F:cn} (is:List Nat) (h:yT X st F):yT X st (eR is F):=fun Hb Ob=>x4.weak (h Hb Ob) fun E σ H ⟨O,ρ,k,r,S,hF,hk⟩=>⟨O,TG.kill is ρ,k,r,S.kill is,hF,hk⟩
end
def hV (g:GF) (B:cn) (k:Ks):List D->aq->R D
 | [],ρ=>k.nx ρ
 | d::ds,ρ=>(rO (g d ρ)).bind fun ρ1=>B ⟨hV g B k ds,k.nx,hV g B k ds,k.ex⟩ ρ1
def jS (G:aq->R (List D)) (g:GF) (B:cn):cn:=fun k ρ=>uj (G ρ) k ρ fun ds=>hV g B k ds ρ
def lb (H:Hp) (O Ob:List RP):Hp:=fun b=>if b∈O/\b∉Ob then none else H b
theorem v9 {H:Hp} {O Ob:List RP} {b:RP} (h1:b∈O) (h2:b∉Ob):lb H O Ob b=none:=by unfold lb; rw [if_pos ⟨h1,h2⟩]
theorem Gk {H:Hp} {O Ob:List RP} {b:RP} {o:HO} (h:lb H O Ob b=some o):H b=some o/\¬ (b∈O/\b∉Ob):=by
 unfold lb at h
 split at h
 ·cases h
 ·rename_i n; exact⟨h,n⟩
theorem Dj {H:Hp} {O Ob:List RP} {b:RP} {o:HO} (h:H b=some o) (n:¬ (b∈O/\b∉Ob)):lb H O Ob b=some o:=by unfold lb; rw [if_neg n]; exact h
theorem Base.loop {Hb:Hp} {Ob:List RP} {H:Hp} {O:List RP} (b:Base Hb Ob H O):Base (lb H O Ob) Ob H O :=
 ⟨fun c o h=>(Gk h).1,b.sub,fun a ha=>by
  by_cases h:a∈Ob
  ·exact .inl h
  ·exact .inr (v9 ha h)⟩
theorem Base.back {Hb:Hp} {Ob:List RP} {H H':Hp} {O O':List RP} (b:Base Hb Ob H O) (b':Base (lb H O Ob) Ob H' O'):Base Hb Ob H' O':=by
 have up:bj Hb (lb H O Ob):=fun c o h=>Dj (b.same c o h) fun ⟨z1,z2⟩=>by
  rcases b.new c z1 with z | z
  ·exact z2 z
  ·rw [z] at h; cases h
 exact⟨up.trans b'.same,b'.sub,fun a ha=>(b'.new a ha).imp id up.free⟩
theorem eS.loop {K:QN} {Hb:Hp} {Ob O:List RP} {H:Hp} {ρ:aq} {σ:St} (E:eS K Hb Ob O H ρ σ):eS K (lb H O Ob) Ob O H ρ σ :=
 ⟨E.env,E.base.loop,fun i xs a e1 e2=>by
  obtain⟨_,n⟩:=E.mine i xs a e1 e2
  obtain⟨a',e3,e4,_⟩:=E.env.own i xs e1
  rw [e2] at e3; cases e3
  exact⟨v9 e4 n,n⟩,fun i d q=>(E.nst i d q).to rfl (fun _ _ z=>z) (fun b q1 q2 q3 q4 _=>⟨rfl,q1,v9 q1 q3,q4⟩) fun l d' w=>⟨d',w⟩⟩
theorem eS.back {K:QN} {Hb:Hp} {Ob O O':List RP} {H H':Hp} {ρ':aq} {σ':St} (b:Base Hb Ob H O) (E:eS K (lb H O Ob) Ob O' H' ρ' σ'):eS K Hb Ob O' H' ρ' σ' :=
 have up:bj Hb (lb H O Ob):=fun c o h=>Dj (b.same c o h) fun ⟨z1,z2⟩=>by
  rcases b.new c z1 with z | z
  ·exact z2 z
  ·rw [z] at h; cases h
 ⟨E.env,b.back E.base,fun i xs a e1 e2=>by
  obtain⟨z,n⟩:=E.mine i xs a e1 e2
  exact⟨up.free z,n⟩,fun i d q=>(E.nst i d q).to rfl (fun _ _ z=>z) (fun b q1 q2 q3 q4 _=>⟨rfl,q1,up.free q2,q4⟩) fun l d' w=>⟨d',w⟩⟩
theorem Ek {Hb:Hp} {Ob O O':List RP} {H H':Hp} (b:Base Hb Ob H O) (b':Base (lb H O Ob) Ob H' O'):bj (hid H O) (hid H' O'):=fun c o h=>by
 unfold hid at h ⊢
 by_cases hc:c∈O
 ·rw [if_pos hc] at h; cases h
 ·rw [if_neg hc] at h
  have h1:lb H O Ob c=some o:=Dj h fun z=>hc z.1
  rw [if_neg]
  ·exact b'.same _ _ h1
  ·intro z
   rcases b'.new c z with z | z
   ·exact hc (b.sub c z)
   ·rw [h1] at z; cases z
theorem KW.loop {X:Cx} {Hb:Hp} {Ob O:List RP} {H:Hp} {E E':Ends} {k k':Ks} {r:R D} (hk:KW X Hb Ob E k r) (b:Base Hb Ob H O) (hn:∀ O' ρ' σ' H',eS X.K (lb H O Ob) Ob O' H' ρ' σ'->k'.nx ρ'=r->E'.nx σ' H') (hc:∀ O' ρ' σ' H',eS X.K (lb H O Ob) Ob O' H' ρ' σ'->k'.ct ρ'=r->E'.ct σ' H')
    (eb:k'.bk=k.nx) (ee:k'.ex=k.ex) (Eb:E'.bk=E.nx) (Er:E'.rt=E.rt):KW X (lb H O Ob) Ob E' k' r :=
  ⟨hk.ne,hn,fun O' ρ' σ' H' S e=>by rw [Eb]; exact hk.nx O' ρ' σ' H' (S.back b) (by rw [<- eb]; exact e),hc,fun d O' v H' e b' dv=>by rw [Er]; exact hk.rt d O' v H' e (b.back b') dv,
   fun O' ρ' σ' H' x S e=>hk.ex O' ρ' σ' H' x (S.back b) (by rw [<- ee]; exact e)⟩
section
variable {X:Cx} {st:R6} {rest body:List R6} {pos:Pos}
theorem M9 {tg iter:R4} {G:aq->R (List D)} {g:GF} {B:cn} (hp:Sg (model X.prog X.w) X.A X.env X.xe) (hc:X.calm=true) (hi:FI X tg iter G) (hg:FG X tg g) (hb:yT X body B)
  (hs:∀ x,Si iter X.env x=pure x:=by intro _; rfl):FS X (.For tg iter body [] pos) (jS G g B):=fun Hb Ob pins s σ H E I ⟨O,ρ,k,r,S,hF,hk⟩=>by
 have hall:x4 X body (fun E σ H=>∃ Hb',MD X Hb' Ob B E σ H):=fun pins s σ H E I ⟨Hb',q⟩=>hb Hb' Ob pins s σ H E I q
 refine HC hp hc hi hg hall hs pins s σ H E I ⟨O,ρ,S.env,jF.on hF hk S fun ds hF J H1 s1 wk=>?_⟩
 have E1:=S.same s1
 refine⟨fun i m σ H=>m=ds.length - i/\i<=ds.length/\∃ O' ρ',eS X.K (lb H1 O Ob) Ob O' H ρ' σ/\hV g B k (ds.drop i) ρ'=r,
  ⟨ds.length,by rw [Pm],Om _,O,ρ,E1.loop,by rw [O2]; exact hF⟩,?_⟩
 rintro i m σ' H' ⟨rfl,hi',O',ρ',E',hr⟩
 have sD:=Ek E1.base E'.base
 by_cases hlt:i < ds.length
 ·right
  obtain⟨go,yl⟩:=(wk H' O' i E'.env.all sD).1 ds[i] (by simp [hlt])
  refine⟨go,fun σ2 H2=>ds.length - (i+1)=ds.length - (i+1)/\i+1<=ds.length/\∃ O' ρ',eS X.K (lb H1 O Ob) Ob O' H2 ρ' σ2/\hV g B k (ds.drop (i+1)) ρ'=r,fun σ2 H2 z=>⟨ds.length - (i+1),by omega,z⟩,fun x H2 y=>?_⟩
  obtain⟨s2,dx⟩:=yl x H2 y
  have E':=E'.same s2
  rw [Pp hlt] at hr
  cases hg':g ds[i] ρ' with
  | none =>
   have hr':(rO (g ds[i] ρ')).bind (fun ρ1=>B ⟨hV g B k (ds.drop (i+1)),k.nx,hV g B k (ds.drop (i+1)),k.ex⟩ ρ1)=r:=hr
   rw [hg'] at hr'
   exact absurd hr'.symm hk.ne
  | some ρ1 =>
   have hr':(rO (g ds[i] ρ')).bind (fun ρ1=>B ⟨hV g B k (ds.drop (i+1)),k.nx,hV g B k (ds.drop (i+1)),k.ex⟩ ρ1)=r:=hr
   rw [hg'] at hr'
   refine⟨O',ρ',ds[i],ρ1,E'.env,dx,hg',fun σ3 E3 own=>?_⟩
   have E3':eS X.K (lb H1 O Ob) Ob O' H2 ρ1 σ3:=E'.after E3 own
   exact⟨lb H1 O Ob,O',ρ1,⟨hV g B k (ds.drop (i+1)),k.nx,hV g B k (ds.drop (i+1)),k.ex⟩,r,E3',hr',hk.loop E1.base (fun O4 ρ4 σ4 H4 E4 z=>⟨rfl,hlt,O4,ρ4,E4,z⟩) (fun O4 ρ4 σ4 H4 E4 z=>⟨rfl,hlt,O4,ρ4,E4,z⟩) rfl rfl rfl rfl⟩
 ·left
  have ei:i=ds.length:=by omega
  subst ei
  refine⟨(wk H' O' ds.length E'.env.all sD).2 rfl,?_⟩
  rw [Pt] at hr
  exact hk.nx O' ρ' σ' H' (E'.back E1.base) hr
end
end TG
namespace TG
open PySem PySem.Spec L2
variable [aV]

theorem eS.setO {K:QN} {Hb:Hp} {Ob O:List RP} {H:Hp} {ρ:aq} {σ:St} (E:eS K Hb Ob O H ρ σ) {i:Nat} {d d':D} {a:RP} {o:HO} (hi:ρ[i]?=some (some (.own d))) (ha:σ[i]?=some (some (.ref a))) (m:tH o) (new:dD K (upd H a o) O a d') :
  eS K Hb Ob O (upd H a o) (ρ.set i (some (.own d'))) σ:=by
 obtain⟨a',ha',haO,hat⟩:=E.env.own i d hi
 rw [ha] at ha'; cases ha'
 obtain⟨m1,m2⟩:=E.mine i d a hi ha
 have s:bj (hid H O) (hid (upd H a o) O):=ia haO
 have own:∀ (j:Nat) ys,(ρ.set i (some (.own d')))[j]?=some (some (.own ys))->∃ ys',ρ[j]?=some (some (.own ys')):=fun j ys q=>by
  rcases bf q with ⟨hj,_⟩ | ⟨_,q⟩
  ·rw [hj]; exact⟨d,hi⟩
  ·exact⟨ys,q⟩
 refine⟨⟨fun j d1 e=>?_,fun j ys e=>?_,fun j l ys zs b q1 q2 q3 q4=>?_,E.env.all.upd haO m⟩,⟨fun b u h=>?_,E.base.sub,E.base.new⟩,fun j ys b q1 q2=>?_,fun j dn q=>?_⟩
 ·rcases bf e with ⟨_,q⟩ | ⟨ne,q⟩
  ·cases q
  ·obtain⟨w,q1,q2⟩:=E.env.val j d1 q
   exact⟨w,q1,q2.mono s⟩
 ·rcases bf e with ⟨hj,q⟩ | ⟨ne,q⟩
  ·cases q
   rw [hj]
   exact⟨a,ha,haO,new⟩
  ·obtain⟨b,q1,q2,q3⟩:=E.env.own j ys q
   have nb:b≠a:=fun z=>ne (E.env.one j i ys d a q hi (by rw [<- z]; exact q1) ha)
   exact⟨b,q1,q2,q3.mono (by rw [aE nb]) s⟩
 ·obtain⟨_,q1'⟩:=own j ys q1
  obtain⟨_,q2'⟩:=own l zs q2
  exact E.env.one j l _ _ b q1' q2' q3 q4
 ·have nb:b≠a:=fun z=>by rw [z,m1] at h; cases h
  rw [aE nb]; exact E.base.same b u h
 ·obtain⟨ys',q⟩:=own j ys q1
  exact E.mine j ys' b q q2
 ·have q:ρ[j]?=some (some (.nest dn)):=by
   rcases bf q with ⟨_,z⟩ | ⟨_,z⟩
   ·cases z
   ·exact z
  refine(E.nst j dn q).to rfl s (fun b q1 q2 q3 q4 _=>⟨aE fun z=>q4 i d hi (by rw [z]; exact ha),q1,q2,fun l d1 w=>?_⟩) fun l d1 w=>?_
  ·obtain⟨_,w'⟩:=own l d1 w
   exact q4 l _ w'
  ·rcases bf w with ⟨_,z⟩ | ⟨_,z⟩
   ·cases z
   ·exact⟨d1,z⟩
theorem eS.setNew {K:QN} {Hb:Hp} {Ob O:List RP} {H H':Hp} {ρ:aq} {σ:St} (E:eS K Hb Ob O H ρ σ) {i:Nat} {d:D} {p:RP} (hi:i < σ.length) (sm:bj H H') (hp:H p=none) (m:∃ o,H' p=some o/\tH o) (new:dD K H' (p::O) p d) :
  eS K Hb Ob (p::O) H' (ρ.set i (some (.own d))) (σ.set i (some (.ref p))):=by
 have hpO:p∉O:=E.env.all.not hp
 have s:bj (hid H O) (hid H' (p::O)):=fun b o h=>by
  unfold hid at h ⊢
  by_cases hb:b∈O
  ·rw [if_pos hb] at h; cases h
  ·rw [if_neg hb] at h
   have ne:=aX h hp
   rw [if_neg (by intro z; rcases List.mem_cons.mp z with z | z; exact ne z; exact hb z)]; exact sm _ _ h
 have other:∀ (j:Nat) xs,ρ[j]?=some (some (.own xs))->σ[j]?≠some (some (.ref p)):=fun j xs e z=>by
  obtain⟨a,e1,e2,e3⟩:=E.env.own j xs e
  rw [z] at e1; cases e1
  obtain⟨o,e3⟩:=e3.some
  rw [hp] at e3; cases e3
 refine⟨⟨fun j d' e=>?_,fun j xs e=>?_,fun j k xs ys a e1 e2 e3 e4=>?_,⟨(E.env.all.same sm).1,fun a ha=>?_⟩⟩,⟨E.base.same.trans sm,fun a ha=>N5 _ (E.base.sub a ha),fun a ha=>?_⟩,fun j xs a e1 e2=>?_,fun j dn e=>?_⟩
 ·rcases bf e with ⟨_,q⟩ | ⟨ne,q⟩
  ·cases q
  ·obtain⟨v,q1,q2⟩:=E.env.val j d' q
   exact⟨v,by rw [N8 (Ne.symm ne)]; exact q1,q2.mono s⟩
 ·rcases bf e with ⟨hj,q⟩ | ⟨ne,q⟩
  ·cases q
   rw [hj]
   exact⟨p,N7 hi,N4,new⟩
  ·obtain⟨a,q1,q2,q3⟩:=E.env.own j xs q
   obtain⟨o,ho⟩:=q3.some
   exact⟨a,by rw [N8 (Ne.symm ne)]; exact q1,N5 _ q2,q3.mono (rR sm ho) s⟩
 ·rcases bf e1 with ⟨hj,q1⟩ | ⟨nj,q1⟩
  ·rcases bf e2 with ⟨hk,q2⟩ | ⟨nk,q2⟩
   ·exact hj.trans hk.symm
   ·rw [hj,N7 hi] at e3
    cases e3
    rw [N8 (Ne.symm nk)] at e4
    exact absurd e4 (other k ys q2)
  ·rcases bf e2 with ⟨hk,q2⟩ | ⟨nk,q2⟩
   ·rw [hk,N7 hi] at e4
    cases e4
    rw [N8 (Ne.symm nj)] at e3
    exact absurd e3 (other j xs q1)
   ·rw [N8 (Ne.symm nj)] at e3
    rw [N8 (Ne.symm nk)] at e4
    exact E.env.one j k xs ys a q1 q2 e3 e4
 ·rcases List.mem_cons.mp ha with rfl | ha
  ·exact m
  ·exact(E.env.all.same sm).2 a ha
 ·rcases List.mem_cons.mp ha with rfl | ha
  ·exact .inr (E.base.same.free hp)
  ·exact E.base.new a ha
 ·rcases bf e1 with ⟨hj,q1⟩ | ⟨nj,q1⟩
  ·rw [hj,N7 hi] at e2
   cases e2
   exact⟨E.base.same.free hp,fun z=>hpO (E.base.sub p z)⟩
  ·rw [N8 (Ne.symm nj)] at e2
   exact E.mine j xs a q1 e2
 ·rcases bf e with ⟨_,q⟩ | ⟨ne,q⟩
  ·cases q
  ·refine(E.nst j dn q).to (N8 (Ne.symm ne)) s (fun b q1 q2 q3 q4 ⟨o,ho⟩=>⟨by rw [ho,sm _ _ ho],N5 _ q1,q2,fun l d1 w=>?_⟩) fun l d1 w=>?_
   ·rcases bf w with ⟨hl,z⟩ | ⟨nl,z⟩
    ·rw [hl,N7 hi]
     intro z
     cases z
     rw [hp] at ho; cases ho
    ·rw [N8 (Ne.symm nl)]; exact q4 l d1 z
   ·rcases bf w with ⟨_,z⟩ | ⟨_,z⟩
    ·cases z
    ·exact⟨d1,z⟩
def L1 (X:Cx) (F:FX):TE:=fun σ H Q=>∃ O ρ,dZ X.K O H ρ σ/\jF X σ O H (F ρ) fun d=>∀ p H',bj H H'->H p=none->(∃ o,H' p=some o/\tH o)->dD X.K H' (p::O) p d->Q (.ref p) H'
def FN (X:Cx) (e:R4) (F:FX):Prop:=PE X e (L1 X F)
section
variable {X:Cx} {pos:Pos}
theorem mw {K:QN} {H:Hp} {O:List RP} {p:RP} {ds:List D} {vs:List V} (hp:H p=none) (d:aZ K (hid H O) ds vs):dD K (upd H p (.lst vs)) (p::O) p (.lst ds):=⟨_,vs,aL,rfl,d.mono (sf hp)⟩
theorem Nc {es:List R4} {g:aq->R (List D)} (h:FA X es g):FN X (.List es pos) (jp g) :=
 PE.weak (zF h) fun σ H Q ⟨O,ρ,E,hF⟩=>⟨O,ρ,E,(jF.bind hF).imp fun xs hF vs H1 s1 d1=>by
  obtain⟨d,e,q⟩:=jF.rO hF
  obtain⟨hz,e⟩:=bE e
  subst e
  refine⟨by rw [<- d1.length]; exact eE hz,fun p hp=>?_⟩
  exact q p _ (s1.trans (bF hp _)) (s1.free hp) ⟨_,aL,trivial⟩ (mw hp d1)⟩
theorem K4 {x:Str} {p:Pos} {e:R4} {f:aq->R (List D)} (hg:Gl X x) (hm:X.mg x=none) (hv:RY x=some (.type "list")) (ha:FA X [e] f) (hn:x ≠ "__name__":=by decide) (hdb:(x==("__debug__":Str))=false:=by decide)
  (hns:noStar e=true:=by rfl):FN X (.Call (.Name x p) [e] [] pos) (fL pq f) :=
 PE.weak (vG (lA) hg hm hv ha hn hdb (dj hns) (gz rfl)) fun σ H Q ⟨O,ρ,E,hF⟩=>⟨O,ρ,E,(jF.bind hF).imp fun ds hF vs H1 s1 d1=>by
  obtain⟨d,hg,q⟩:=jF.rO hF
  unfold pq at hg
  split at hg
  ·rename_i ys
   cases hg
   obtain⟨v,ev,h1⟩:=d1.one
   rw [cA] at h1
   obtain⟨p,ws,ep,g1,g2⟩:=h1
   exact⟨p,ws,by rw [ev,ep],.inl ((aD H1 O).seq g1),fun l hl=>q l _ (s1.trans (bF hl _)) (s1.free hl) ⟨_,aL,trivial⟩ (mw hl g2)⟩
  ·rename_i ys
   cases hg
   obtain⟨v,ev,h1⟩:=d1.one
   rw [cB] at h1
   obtain⟨p,ws,ep,g1,g2⟩:=h1
   exact⟨p,ws,by rw [ev,ep],.inr (bP (aD H1 O) g1),fun l hl=>q l _ (s1.trans (bF hl _)) (s1.free hl) ⟨_,aL,trivial⟩ (mw hl g2)⟩
  ·cases hg⟩
def vM:FX:=fun _=>.ok (.dct [] [])
theorem CV:FN X (.Dict [] [] pos) vM:=PE.weak C1 fun σ H Q ⟨O,ρ,E,q⟩ p hp=>q p _ (bF hp _) hp ⟨_,aL,trivial⟩ ⟨_,[],aL,dh.mpr rfl,.inr ⟨[],rfl,rfl,rfl⟩⟩
def lW (i:Nat) (f:FX):cn:=fun k ρ=>uj (f ρ) k ρ fun d=>k.nx (ρ.set i (some (.own d)))
theorem vj {st:R6} {f:FX} {i:Nat} (hi:i < X.N.length) (h:PS X st (GK (L1 X f) (vD i))):FS X st (lW i f):=fun Hb Ob pins s σ H E I ⟨O,ρ,k,r,S,hF,hk⟩ =>
 h pins s σ H E I ⟨O,ρ,S.env,jF.on hF hk S fun d e p H1 s1 hp m o=>hk.nx _ _ _ H1 (S.setNew (by rw [I.len]; exact hi) s1 hp m o) e⟩
theorem LK {i:Nat} {x:Str} {e:R4} {f:FX} {pos':Pos} (hN:X.N.Nodup) (hi:X.N[i]?=some x) (hx:Loc X.env.scope x) (he:FN X e f) (hs:swapsWith e (some (.Name x pos')) pos.line X.env=pure false:=by rfl) (hf:X.fn x=true\/X.env.scope.names.lookup x=some .local:=by first | exact .inl rfl | exact .inr rfl | assumption) :
  FS X (.Assign [.Name x pos'] e pos) (lW i f):=vj (List.getElem?_eq_some_iff.mp hi).1 (zq hN hi hx he hs hf)
end
theorem G8 {X:Cx} {F:FX}:∀ σ H Q,L1 X F σ H Q->L6 X F σ H Q:=fun σ H Q ⟨O,ρ,E,hF⟩=>⟨O,ρ,E,hF.imp fun d q D H' total acc e sm hD hD' dn=>by
 subst e
 exact q D H' sm hD ⟨_,hD',trivial⟩ ⟨_,acc,hD',rfl,dn⟩⟩
theorem Jw {X:Cx} {elt tg iter:R4} {ifs:List R4} {scope:R1} {N:List Str} {ix:List (Option Nat)} {G:aq->R (List D)} {g:GF} {C:aq->R Bool} {Fe:FX} {i:Nat} {y:Str} {lpos py spos:Pos} (hN:X.N.Nodup) (hi':X.N[i]?=some y) (hx:Loc X.env.scope y)
  (hc:X.calm=true) (ok:i3 X scope N ix) (tk:rh ix g) (hi:FI X tg iter G) (hb:IZ X scope N tg elt ifs g C Fe)
  (hsw:swapsWith (.ListComp elt [⟨tg,iter,ifs,0⟩] scope lpos) (some (.Name y py)) spos.line X.env=pure true:=by rfl)
  (hs:∀ x,Si iter X.env x=pure x:=by intro _; rfl)
  (hf:X.fn y=true\/X.env.scope.names.lookup y=some .local:=by first | exact .inl rfl | exact .inr rfl | assumption) :
  FS X (.Assign [.Name y py] (.ListComp elt [⟨tg,iter,ifs,0⟩] scope lpos) spos) (lW i (jV ix G g C Fe)) :=
 vj (List.getElem?_eq_some_iff.mp hi').1 (PS.weak (GX hN hi' hx hc ok.cell ok.kind ok.names ok.free ok.ix hi hb.k hsw hs hf) fun E σ H q=>Dt tk σ H _ (G8 σ H _ q))
theorem Nh {X:Cx} {elt tg iter:R4} {ifs:List R4} {scope:R1} {pos:Pos} {N:List Str} {ix:List (Option Nat)} {G:aq->R (List D)} {g:GF} {C:aq->R Bool} {Fe:FX} (hc:X.calm=true) (ok:i3 X scope N ix) (tk:rh ix g) (hi:FI X tg iter G) (hb:IZ X scope N tg elt ifs g C Fe)
  (hs:∀ x,Si iter X.env x=pure x:=by intro _; rfl):FN X (.ListComp elt [⟨tg,iter,ifs,0⟩] scope pos) (jV ix G g C Fe) :=
 PE.weak (GW hc ok.cell ok.kind ok.names ok.free ok.ix hi hb.k hs) fun σ H Q q=>Dt tk σ H _ (G8 σ H _ q)
def yV (i:Nat) (u:List D->List D->Option (List D)) (f:aq->R (List D)):cn:=fun k ρ=>match ρ[i]? with
 | some (some (.own (.lst xs)))=>uj (f ρ) k ρ fun ds=>(rO (u xs ds)).bind fun ys=>k.nx (ρ.set i (some (.own (.lst ys))))
 | _=>un
def DB (K:QN) (r:V->List V->Hp->VK->Prop) (u:List D->List D->Option (List D)):Prop :=
 ∀ (H:Hp) (O:List RP) (a:RP) (xs ys as:List D) (ws vs:List V) (Q:VK),eB H O->a∈O->H a=some (.lst ws)->aZ K (hid H O) xs ws->aZ K (hid H O) as vs->u xs as=some ys->(∀ ws' v,aZ K (hid H O) ys ws'->Q v (upd H a (.lst ws')))->r (.ref a) vs H Q
theorem qV {K:QN} {H:Hp} {O:List RP} {a:RP} {ys:List D} {ws:List V} (ha:a∈O) (h:aZ K (hid H O) ys ws):dD K (upd H a (.lst ws)) O a (.lst ys):=⟨_,ws,aL,rfl,h.mono (ia ha)⟩
theorem Np {X:Cx} {i:Nat} {x m:Str} {id:String} {r:V->List V->Hp->VK->Prop} {u:List D->List D->Option (List D)} {e:R4} {es:List R4} {f:aq->R (List D)} {npos apos cpos pos:Pos} (slot:Slot "list" m id) (hty:typeOf (.builtin id)=pure (.type "method_descriptor")) (hm:JA X id r) (ok:DB X.K r u) (hx:PE X (.Name x npos) (tJ i)) (he:FA X (e::es) f)
  (hbase:Su (.Name x npos) m X.env (eval (.Name x npos) X.env)=eval (.Name x npos) X.env:=by rfl)
  (hfew:((backTo cpos (R5 (e::es) X.env)).all (fun x=>!x.1) && (backToKw cpos (Sw [] X.env)).all (fun x=>x.1.isSome)
   && decide ((e::es:List R4).length+([]:List S3).length+(if ([]:List S3).isEmpty then 0 else 1) < 30))=true:=by rfl)
  (hline:(apos.endLine==cpos.line)=true:=by rfl) (hs:R5 (e::es) X.env=(false,eval e X.env)::R5 es X.env:=by rfl) (hplain:(backTo cpos (R5 es X.env)).any (·.1)=false:=by rfl)
  (hsw:swapsWith (.Call (.Attribute (.Name x npos) m apos) (e::es) [] cpos) none pos.line X.env=pure false:=by rfl) :
  FS X (.Expr (.Call (.Attribute (.Name x npos) m apos) (e::es) [] cpos) pos) (yV i u f):=fun Hb Ob pins s σ H E I ⟨O,ρ,k,rr,S,hF,hk⟩=>by
 unfold yV at hF
 split at hF
 ·rename_i xs hxs
  obtain⟨a,ha,haO,hat⟩:=S.env.own i _ hxs
  obtain⟨o,vs0,ho,eo,dn⟩:=hat
  subst eo
  refine xj (A1 F.plainAttrs_list slot hty hm hx he hbase hfew hline hs hplain) hsw pins s σ H E I ⟨.ref a,ha,.inl ⟨rfl,vs0,oO.of ho⟩,O,ρ,S.env,jF.on hF hk S fun ds hr vs H1 s1 d1=>?_⟩
  have S1:=S.same s1
  cases hu1:u xs ds with
  | none=>rw [hu1] at hr; exact absurd hr.symm hk.ne
  | some ys =>
   rw [hu1] at hr
   exact ok H1 O a xs ys ds vs0 vs _ S1.env.all haO (s1 _ _ ho) (dn.mono (bX s1)) d1 hu1 fun ws' v new=>hk.nx O _ σ _ (S1.setO hxs ha trivial (qV haO new)) hr
 ·exact absurd hF.symm hk.ne
def fT (xs:List D) (ds:List D):Option (List D):=match ds with
 | [y]=>if small (xs.length+1) then some (xs++[y]) else none
 | _=>none
theorem fj {K:QN}:DB K xo fT:=fun H O a xs ys as ws vs Q hO haO ha dx da hu q=>by
 unfold fT at hu
 split at hu
 ·rename_i y
  obtain⟨h1,h2⟩:=bE hu
  subst h2
  obtain⟨v,rfl,dv⟩:=da.one
  have:=eE h1
  rw [dx.length] at this
  exact⟨a,ws,v,rfl,rfl,ha,by omega,q _ _ (dx.snoc dv)⟩
 ·cases hu
def frz (i:Nat) (ρ:aq):aq:=match ρ[i]? with
 | some (some (.own d))=>setV i d ρ
 | _=>ρ
theorem dZ.frz {K:QN} {O:List RP} {H:Hp} {ρ:aq} {σ:St} (E:dZ K O H ρ σ) (i:Nat):∃ O',dZ K O' H (frz i ρ) σ/\(∀ b∈O',b∈O)/\∀ b∈O,b∉O'->∃ d,ρ[i]?=some (some (.own d))/\σ[i]?=some (some (.ref b)):=by
 unfold TG.frz
 split
 ·rename_i d hd
  obtain⟨a,ha,haO,hat⟩:=E.own i d hd
  have sub:∀ b∈O.filter (fun b=>decide (b≠a)),b∈O:=fun b hb=>(List.mem_filter.mp hb).1
  have s:bj (hid H O) (hid H (O.filter fun b=>decide (b≠a))):=iD sub
  have na:a∉O.filter fun b=>decide (b≠a):=fun z=>absurd rfl (of_decide_eq_true (List.mem_filter.mp z).2)
  refine⟨O.filter fun b=>decide (b≠a),⟨fun j d' e=>?_,fun j ys e=>?_,fun j l ys zs b q1 q2 q3 q4=>?_,⟨E.all.1,fun b hb=>E.all.2 b (sub b hb)⟩⟩,sub,fun b hb nb=>?_⟩
  ·rcases bf e with ⟨hj,q⟩ | ⟨ne,q⟩
   ·cases q
    rw [hj]
    exact⟨.ref a,ha,hat.den s na⟩
   ·obtain⟨w,q1,q2⟩:=E.val j d' q
    exact⟨w,q1,q2.mono s⟩
  ·rcases bf e with ⟨_,q⟩ | ⟨ne,q⟩
   ·cases q
   ·obtain⟨b,q1,q2,q3⟩:=E.own j ys q
    have nb:b≠a:=fun z=>ne (E.one j i ys d a q hd (by rw [<- z]; exact q1) ha)
    exact⟨b,q1,List.mem_filter.mpr ⟨q2,decide_eq_true nb⟩,q3.mono rfl s⟩
  ·rcases bf q1 with ⟨_,q⟩ | ⟨_,q⟩
   ·cases q
   ·rcases bf q2 with ⟨_,q'⟩ | ⟨_,q'⟩
    ·cases q'
    ·exact E.one j l ys zs b q q' q3 q4
  ·by_cases z:b=a
   ·exact⟨d,hd,by rw [z]; exact ha⟩
   ·exact absurd (List.mem_filter.mpr ⟨hb,decide_eq_true z⟩) nb
 ·exact⟨O,E,fun _ z=>z,fun b hb nb=>absurd hb nb⟩
theorem eS.frz {K:QN} {Hb:Hp} {Ob O:List RP} {H:Hp} {ρ:aq} {σ:St} (E:eS K Hb Ob O H ρ σ) (i:Nat):∃ O',eS K Hb Ob O' H (frz i ρ) σ:=by
 obtain⟨O',E',sub,gone⟩:=E.env.frz i
 refine⟨O',E',⟨E.base.same,fun a ha=>?_,fun a ha=>E.base.new a (sub a ha)⟩,fun j xs a q1 q2=>?_,fun j dn q1=>?_⟩
 ·by_cases z:a∈O'
  ·exact z
  ·obtain⟨d,e1,e2⟩:=gone a (E.base.sub a ha) z
   exact absurd ha (E.mine i d a e1 e2).2
 ·have q:ρ[j]?=some (some (.own xs)):=by
   unfold TG.frz at q1
   split at q1
   ·rcases bf q1 with ⟨_,q⟩ | ⟨_,q⟩
    ·cases q
    ·exact q
   ·exact q1
  exact E.mine j xs a q q2
 ·have bk:∀ (l:Nat) x,(TG.frz i ρ)[l]?=some (some x)->(∀ d,x≠.val d)->ρ[l]?=some (some x):=fun l x e nv=>by
   unfold TG.frz at e
   split at e
   ·rcases bf e with ⟨_,q⟩ | ⟨_,q⟩
    ·cases q; exact absurd rfl (nv _)
    ·exact q
   ·exact e
  refine(E.nst j dn (bk j _ q1 (fun _ z=>nomatch z))).to rfl (iD sub) (fun b w1 w2 w3 w4 _=>⟨rfl,?_,w2,fun l d1 w=>w4 l d1 (bk l _ w (fun _ z=>nomatch z))⟩) fun l d1 w=>⟨d1,bk l _ w (fun _ z=>nomatch z)⟩
  by_cases z:b∈O'
  ·exact z
  ·obtain⟨d,e1,e2⟩:=gone b w1 z
   exact absurd e2 (w4 i d e1)
def iO (i:Nat) (F:cn):cn:=fun k ρ=>F k (frz i ρ)
theorem K6 {X:Cx} {st:List R6} {F:cn} (i:Nat) (h:yT X st F):yT X st (iO i F):=fun Hb Ob=>x4.weak (h Hb Ob) fun E σ H ⟨O,ρ,k,r,S,hF,hk⟩=>by
 obtain⟨O',S'⟩:=S.frz i
 exact⟨O',TG.frz i ρ,k,r,S',hF,hk⟩
def frzs (is:List Nat) (ρ:aq):aq:=is.foldl (fun ρ i=>frz i ρ) ρ
theorem dZ.frzs {K:QN} {H:Hp} {σ:St}:∀ (is:List Nat) {O:List RP} {ρ:aq},dZ K O H ρ σ->∃ O',dZ K O' H (frzs is ρ) σ
 | [],O,_,E=>⟨O,E⟩
 | i::is,_,_,E=>by
  obtain⟨O',E',_⟩:=E.frz i
  exact dZ.frzs is E'
def kP (is:List Nat) (f:aq->R Bool):aq->R Bool:=fun ρ=>Bo (f (frzs is ρ))
theorem K7 {X:Cx} {e:R4} {f:aq->R Bool} (is:List Nat) (h:FT X e f):FT X e (kP is f):=PT.weak h fun σ H Q ⟨O,ρ,E,hF⟩=>by
 obtain⟨O',E'⟩:=E.frzs is
 refine⟨O',TG.frzs is ρ,E',?_⟩
 unfold kP at hF
 cases hf:f (TG.frzs is ρ) with
 | error z=>rw [hf] at hF; exact hF.elim
 | ok d=>rw [hf] at hF; exact hF
end TG
namespace TG
open PySem PySem.Spec L2
variable [aV]

def CQ (K:QN) (n:Nat) (g:List D->R D):Sp:=fun vs H Q E=>∃ O ds,vs.length=n/\eB H O/\aZ K (hid H O) ds vs/\match g ds with
 | .ok d=>∀ v H',bj H H'->cN K (hid H' O) d v->Q v H'
 | .error (some x)=>Nb K H O x E
 | .error none=>False
section
variable {X:Cx} {k:Nat} {f C:RP} {fd:Sz} {ps:List Str} {sp:Sp} {x m:Str} {p pos apos:Pos} {e o:R4} {es:List R4} {ta:TE} {t:TA}
theorem AU {pins:List (RP×Obj)} {σ:St} {H:Hp} {s:R0} {Q:VK} {E:XK} {us:List RM} {vs:List V} (F:jE X.prog X.w X.K X.mg X.base (oa X.prog X.w) k f fd ps sp) (hr:fX k X.A) (hb:Binds X.K fd ps []) (hx:mF (oa X.prog X.w) X σ E)
  (I:Inv X pins σ H s) (r:Vals vs us) (h:sp vs H Q E):R3 (model X.prog X.w) X.A (call (.ref f) us) (EP X pins σ Q) X.xe s:=by
 have hl:(us++[]).length=ps.length:=by rw [Oo,<- r.length]; exact F.len _ _ _ _ h
 have hb':=hb s us I.kIn hl
 rw [Oo] at hb'
 refine wpAny_call (SD (F.run X.A X.stack s H ⟨us,[]⟩ us vs Q E hr I.env0 hb' r h) fun r s' hq=>?_)
 cases r with
 | error e=>exact hx pins H s e s' I hq
 | ok fl =>
  cases fl with
  | ret u=>exact I.after hq
  | next=>exact False.elim hq
  | brk=>exact False.elim hq
  | cont=>exact False.elim hq
def EI (X:Cx) (sp:Sp) (t:TA):TE:=fun σ H Q=>t σ H fun vs H1=>∃ E,mF (oa X.prog X.w) X σ E/\sp vs H1 Q E
theorem DR (F:jE X.prog X.w X.K X.mg X.base (oa X.prog X.w) k f fd ps sp) (hr:fX k X.A) (hg:Gl X x) (hm:X.mg x=some (.ref f)) (hk:QZ X.K (.ref f)=true) (hb:Binds X.K fd ps [])
  (ha:PA X (e::es) t) (hdb:(x==("__debug__":Str))=false:=by decide) (he:R5 (e::es) X.env=(false,eval e X.env)::R5 es X.env:=by rfl) (hpl:(backTo pos (R5 es X.env)).any (·.1)=false:=by rfl) :
  PE X (.Call (.Name x p) (e::es) [] pos) (EI X sp t):=by
 intro pins s σ H Q I h
 refine SE (A5 I hg hm ?_ hdb)
 refine Q0 (h₀:=X.base) I.ok.mod.kin hk (eX (ha pos pins s σ H _ I h) fun us s1 ⟨vs,H1,I1,r,E,hx,q⟩=>⟨I1.kIn,?_⟩) he hpl
 exact AU F hr hb hx I1 r q
theorem B6 {n:Nat} {g:List D->R D} {f:aq->R (List D)} (hn:∀ ds,g ds≠un->ds.length=n):∀ σ H Q,tF X (fR g f) σ H Q->EI X (CQ X.K n g) (K9 X f) σ H Q:=fun σ H Q ⟨O,ρ,E,hF⟩ =>
 ⟨O,ρ,E,(jF.bind hF).imp fun ds hF vs H1 s1 d1=>by
  cases hg:g ds with
  | ok d =>
   rw [hg] at hF
   refine⟨E0,A2,O,ds,by rw [<- d1.length]; exact hn ds (by rw [hg]; intro z; cases z),E.all.same s1,d1,?_⟩
   rw [hg]
   exact fun v H2 s2 d2=>hF v H2 (s1.trans s2) d2
  | error z =>
   rw [hg] at hF
   cases z with
   | none=>exact hF.elim
   | some x =>
    refine⟨Bc X O H1 x,AY (Jf.mono hF s1),O,ds,by rw [<- d1.length]; exact hn ds (by rw [hg]; intro z; cases z),E.all.same s1,d1,?_⟩
    rw [hg]
    exact yk⟩
end
def Callee (P:RO) (w:RN) (K:QN) (mg:Str->Option RM) (base:RT) (k:Nat) (x:Str) (ps:List Str) (g:List D->R D):Prop :=
 ∃ f fd,jE P w K mg base (oa P w) k f fd ps (CQ K ps.length g)/\Binds K fd ps []/\QZ K (.ref f)=true/\mg x=some (.ref f)
def Ar (n:Nat) (g:List D->R D):Prop:=∀ ds,g ds≠un->ds.length=n
theorem Jb {X:Cx} {k k':Nat} {ps:List Str} {g:List D->R D} {h:aq->R (List D)} {x:Str} {p pos:Pos} {e:R4} {es:List R4}
  (C:Callee X.prog X.w X.K X.mg X.base k x ps g) (hn:Ar ps.length g) (hr:fX k' X.A) (hk:k<=k') (ha:FA X (e::es) h) (hg:Gl X x:=by rfl)
  (hdb:(x==("__debug__":Str))=false:=by decide) (hns:(e::es).all noStar=true:=by rfl) :
  FE X (.Call (.Name x p) (e::es) [] pos) (fR g h):=by
 obtain⟨f,fd,F,b,kp,m⟩:=C
 exact PE.weak (DR F (hr.mono hk) hg m kp b ha hdb (dj (OD _ _ ▸ hns).1) (gz (OD _ _ ▸ hns).2)) (B6 hn)
def K0:Ks:={ nx:=fun _=>.ok .non }
def env0 (n:Nat) (ds:List D):aq:=ds.map (fun d=>some (.val d))++List.replicate (n - ds.length) none
def aN (B:cn) (np n:Nat):List D->R D:=fun ds=>if ds.length=np then B K0 (env0 n ds) else un
theorem aJ {B:cn} {np n:Nat}:Ar np (aN B np n):=fun ds h=>by
 unfold aN at h
 split at h
 ·assumption
 ·exact absurd rfl h
theorem jt {n:Nat} {ds:List D} (i:Nat) (x:S) (e:(env0 n ds)[i]?=some (some x)):∃ d,ds[i]?=some d/\x=.val d:=by
 unfold env0 at e
 by_cases hi:i < ds.length
 ·rw [Ox (by rw [Oj]; exact hi),Oy,O6 hi] at e
  have e':some (S.val ds[i])=some x:=Option.some.inj e
  exact⟨ds[i],by rw [O6 hi],(Option.some.inj e').symm⟩
 ·rw [Ov (by rw [Oj]; omega),Oj,Ow] at e
  split at e
  ·cases e
  ·cases e
theorem sM {K:QN} {O:List RP} {H:Hp} {N:List Str} {ds:List D} {vs:List V} (hO:eB H O) (h:aZ K (hid H O) ds vs):dZ K O H (env0 N.length ds) (L2.start N vs):=by
 refine⟨fun i d e=>?_,fun i xs e=>?_,fun i j xs ys a e=>?_,hO⟩
 ·obtain⟨d',e1,e2⟩:=jt i _ e
  cases e2
  obtain⟨v,e3,e4⟩:=h.get e1
  refine⟨v,?_,e4⟩
  unfold L2.start
  have hi:i < vs.length:=(List.getElem?_eq_some_iff.mp e3).1
  rw [Ox (by rw [Oj]; exact hi),Oy,e3]; rfl
 ·obtain⟨d',_,e2⟩:=jt i _ e
  cases e2
 ·obtain⟨d',_,e2⟩:=jt i _ e
  cases e2
section
variable {P:RO} {w:RN} {K:QN} {mg:Str->Option RM} {base:RT}
structure BodyOk (P:RO) (w:RN) (K:QN) (mg:Str->Option RM) (base:RT) (k:Nat) (N:List Str) (qual:Str) (st:R6) (f:RP) (B:cn):Prop where
 h:∀ (cdv:RM) (A:RZ) (outer:List Env) (s:R0) (H:Hp) (E:XK),fX k (A.deeper (Rw qual (ax st) s.heap.objs.size f cdv))->Sg (model P w) (A.deeper (Rw qual (ax st) s.heap.objs.size f cdv)) (Rw qual (ax st) s.heap.objs.size f cdv) (jW (oa P w) P w K mg base N qual (ax st) f cdv A outer s H E).xe ->
  yT (jW (oa P w) P w K mg base N qual (ax st) f cdv A outer s H E) (fg st) B
theorem L9 {x qual:Str} {st:R6} {f:RP} {fd:Sz} {N ps:List Str} {k:Nat} {sp:Sp} {CX:zy} (F:wj K x qual st f fd) (S:aU N ps (ax st)) (len:∀ vs H Q E,sp vs H Q E->vs.length=ps.length)
  (hbody:∀ (cdv:RM) (A:RZ) (outer:List Env) (s:R0) (H:Hp) (vs:List V) (Q:VK) (E:XK),fX k (A.deeper (Rw qual (ax st) s.heap.objs.size f cdv))->sp vs H Q E ->
   ∃ t,x4 (jW CX P w K mg base N qual (ax st) f cdv A outer s H E) (fg st) t/\t { nx:=fun _ H'=>Q .non H',rt:=Q } (L2.start N vs) H):jE P w K mg base CX (k+1) f fd ps sp:=by
 obtain⟨oc,od,kV,doc,pm,an,cdv,ct,osl,rfl,lk,hcd⟩:=F.ex
 exact Et lk hcd S len fun A outer s H vs Q E hr hsp=>hbody cdv A outer s H vs Q E hr hsp
theorem jE.any {CX:zy} {k:Nat} {f:RP} {fd:Sz} {ps:List Str} {sp:Sp} (F:jE P w K mg base K8 k f fd ps sp):jE P w K mg base CX k f fd ps sp :=
 ⟨F.len,fun A outer s H args us vs Q E hr he hb hv hs=>SD (F.run A outer s H args us vs Q E hr he hb hv hs) fun r s' h=>by
  cases r with
  | error e=>exact False.elim h
  | ok fl=>cases fl <;> exact h⟩
theorem xi {x qual:Str} {st:R6} {f:RP} {fd:Sz} {N ps:List Str} {k:Nat} {B:cn} (F:wj K x qual st f fd) (SC:aU N ps (ax st)) (hb:BodyOk P w K mg base k N qual st f B) :
  jE P w K mg base (oa P w) (k+1) f fd ps (CQ K ps.length (aN B ps.length N.length)):=by
 refine L9 F SC (fun vs H Q E h=>?_) fun cdv A outer s H vs Q E hr h=>?_
 ·obtain⟨O,ds,h1,_⟩:=h
  exact h1
 ·obtain⟨O,ds,h1,h2,h3,h4⟩:=h
  have hl:ds.length=ps.length:=h3.length.trans h1
  have e4:aN B ps.length N.length ds=B K0 (env0 N.length ds):=by unfold aN; rw [if_pos hl]
  rw [e4] at h4
  refine⟨_,hb.h cdv A outer s H E hr PassesOwn.leaving H O,O,env0 N.length ds,K0,_,⟨sM h2 h3,⟨bj.refl H,fun _ z=>z,fun a z=>.inl z⟩,fun i xs a e=>?_,fun i d e=>by obtain⟨d',_,e2⟩:=jt i _ e; cases e2⟩,rfl,?_⟩
  ·obtain⟨d',_,e2⟩:=jt i _ e
   cases e2
  ·generalize B K0 (env0 N.length ds)=r at h4
   refine⟨fun z=>by rw [z] at h4; exact h4,fun O' ρ' σ' H' S e=>?_,fun O' ρ' σ' H' S e=>?_,fun O' ρ' σ' H' S e=>?_,fun d O' v H' e b dv=>?_,fun O' ρ' σ' H' x S e=>?_⟩
   ·have e:(.ok .non:R D)=r:=e
    subst e
    exact h4 .non H' S.base.same (kU.mpr rfl)
   ·have e:(un:R D)=r:=e
    subst e
    exact h4.elim
   ·have e:(un:R D)=r:=e
    subst e
    exact h4.elim
   ·subst e
    exact h4 v H' b.same (dv.mono (iD b.sub))
   ·have e:(.error (some x):R D)=r:=e
    subst e
    exact En h4 S.base.same S.base.sub
theorem bn {x qual:Str} {st:R6} {f:RP} {fd:Sz} {N ps:List Str} {k:Nat} {B:cn} (F:wj K x qual st f fd) (b:Binds K fd ps []) (m:mg x=some (.ref f)) (SC:aU N ps (ax st)) (hb:BodyOk P w K mg base k N qual st f B) :
  Callee P w K mg base (k+1) x ps (aN B ps.length N.length):=⟨f,fd,xi F SC hb,b,F.kp,m⟩
theorem fY {x qual:Str} {st:R6} {f:RP} {fd:Sz} {ps:List Str} (k:Nat) (F:wj K x qual st f fd) (b:Binds K fd ps []) (m:mg x=some (.ref f)):Callee P w K mg base k x ps (fun _=>un):=by
 have no:∀ vs H Q E,¬ CQ K ps.length (fun _=>un) vs H Q E:=fun vs H Q E ⟨O,ds,_,_,_,e⟩=>e
 exact⟨f,fd,⟨fun vs H Q E h=>absurd h (no vs H Q E),fun A outer s H args us vs Q E _ _ _ _ h=>absurd h (no vs H Q E)⟩,b,F.kp,m⟩
end
theorem rS {K:QN} {T:String} (h1:Q5 K (.type "NoneType") (.type T)=some (T == "NoneType")) (h2:Q5 K (.type "bool") (.type T)=some (T == "bool" || T == "int")) (h3:Q5 K (.type "int") (.type T)=some (T == "int")) (h4:Q5 K (.type "str") (.type T)=some (T == "str"))
  (h5:Q5 K (.type "tuple") (.type T)=some (T == "tuple")) (h6:Q5 K (.type "list") (.type T)=some (T == "list")):yI K T:=fun d hd=>by
 cases d with
 | dct _ _=>cases hd
 | obj _ _ _=>cases hd
 | exc _ _ _=>cases hd
 | non=>exact h1
 | bl _=>exact h2
 | int _=>exact h3
 | str _=>exact h4
 | tup _=>exact h5
 | lst _=>exact h6
theorem yt {K:QN}:yI K "int":=rS rfl rfl rfl rfl rfl rfl
theorem n5 {K:QN}:yI K "bool":=rS rfl rfl rfl rfl rfl rfl
theorem yd {K:QN}:yI K "str":=rS rfl rfl rfl rfl rfl rfl
theorem yU {K:QN}:yI K "tuple":=rS rfl rfl rfl rfl rfl rfl
end TG
namespace TG
open PySem PySem.Spec L2
variable [aV]

section
variable {X:Cx} {a b c:R4} {fa fb fc:FX} {pos:Pos}
theorem IX {r:V->Hp->VK->Prop} {g:D->Option D} (s:Fs X.K r g):∀ σ H Q,tF X (f1 g fa) σ H Q->Nx r (tF X fa) σ H Q:=fun σ H Q ⟨O,ρ,E,hF⟩=>⟨O,ρ,E,(jF.bind hF).imp fun a hF x H1 s1 d1=>by
 obtain⟨d,e,q⟩:=jF.rO hF
 exact s a d x O H1 Q (E.all.same s1) e d1 fun v H2 s2 d2=>q v H2 (s1.trans s2) d2⟩
def Ia (g g':D->D->Option D) (fa fb fc:FX):FX:=fun ρ=>(fa ρ).bind fun x=>(fb ρ).bind fun y=>(rO (g x y)).bind fun z=>zi z ((fc ρ).bind fun w=>rO (g' y w))
def IU:D->Option D
 | .int i=>some (.int (-i))
 | _=>none
def zI (f:FX):FX:=f1 IU f
theorem ME (ha:FE X a fa):FE X (.UnaryOp .USub a pos) (zI fa):=PE.weak (JI Hg ha) (IX fun x d v O H Q _ e dv q=>by
 cases x with
 | int i=>cases e; exact⟨i,fN.mp dv,q _ H (bj.refl H) (fN.mpr rfl)⟩
 | _=>cases e)
def DW:D->Option D
 | .str x=>if small x.length then some (.str (Txt.upper x)) else none
 | _=>none
def HY (f:FX):FX:=f1 DW f
def HE:D->Option D
 | .lst xs=>some (.lst xs.reverse)
 | .tup xs=>some (.tup xs.reverse)
 | _=>none
def M5 (f:FX):FX:=f1 HE f
end

end TG
namespace ZI
open PySem PySem.Spec PyProof.Rows
section
variable {prog:RO} {w:RN} {A:RZ} {E:RM->R0->Prop} {s:R0}
theorem zc {it t:RP} {i:Nat} {its:Array RM} {x:RM} {Q:RM->R0->Prop} (hit:s.heap.IsTupleIter it t i) (ht:s.heap.IsTuple t its) (hx:its[i]?=some x)
  (hQ:∀ g,g.IsTupleIter it t (i+1)->Rj it s.heap g->Q x { s with heap:=g }):R3 (model prog w) A (Builtin.SmallTypes.nextOf (.ref it)) Q E s:=by
 obtain⟨ob,h1,h2,h3⟩:=id hit
 obtain⟨ol,g1,_,n,g2⟩:=ht
 unfold Builtin.SmallTypes.nextOf
 refine Se (SR (name:=Str.ofString "__next__") hit.typeIs F.slot_tuple_iterator_next (SU F.slot_tuple_iterator_next hit.typeIs F.entry_tuple_iterator_next ?_ (F.args_tuple_iterator_next_1 _)))
 show R3 _ _ (field (.ref it) 0 >>= _) _ _ s; refine Se (SM h1 h3 (x:=.ref t) rfl ?_)
 show R3 _ _ (if (Value.ref t==Value.none)=true then _ else _) _ _ s; rw [if_neg (show ¬ ((Value.ref t==Value.none)=true) from fun z=>Og z)]
 show R3 _ _ (field (.ref it) 1 >>= _) _ _ s; refine Se (SM h1 h3 (x:=.int i 0) rfl ?_)
 show R3 _ _ (seqItems? (.ref t) >>= _) _ _ s; refine Se (Ta g1 g2 ?_)
 simp only [OB,hx]
 refine Se (Tb h1 h3 (by simp) (Sd ⟨x,rfl,Sd (hQ _ ⟨_,Ro _ h1 (Obj.isFreed_of_fields (Obj.data_mapFields h3 _)),(Obj.cls_mapFields ..).trans h2,by rw [Obj.data_mapFields h3]; simp [rawInt]⟩ (Heap.SameBut.update ..))⟩))
theorem Cq {it t:RP} {i:Nat} {its:Array RM} {Q:RM->R0->Prop} (hh:A.handled=none) (hit:s.heap.IsTupleIter it t i) (ht:s.heap.IsTuple t its) (hx:its[i]?=none)
  (hE:∀ g e,Rp it s.heap g->(∃ o,g.get? e=some o/\o.cls=.type "StopIteration")->E (.ref e) { s with heap:=g }):R3 (model prog w) A (Builtin.SmallTypes.nextOf (.ref it)) Q E s:=by
 obtain⟨ob,h1,h2,h3⟩:=id hit
 obtain⟨ol,g1,_,n,g2⟩:=ht
 unfold Builtin.SmallTypes.nextOf
 refine Se (SR (name:=Str.ofString "__next__") hit.typeIs F.slot_tuple_iterator_next (SU F.slot_tuple_iterator_next hit.typeIs F.entry_tuple_iterator_next ?_ (F.args_tuple_iterator_next_1 _)))
 show R3 _ _ (field (.ref it) 0 >>= _) _ _ s; refine Se (SM h1 h3 (x:=.ref t) rfl ?_)
 show R3 _ _ (if (Value.ref t==Value.none)=true then _ else _) _ _ s; rw [if_neg (show ¬ ((Value.ref t==Value.none)=true) from fun z=>Og z)]
 show R3 _ _ (field (.ref it) 1 >>= _) _ _ s; refine Se (SM h1 h3 (x:=.int i 0) rfl ?_)
 show R3 _ _ (seqItems? (.ref t) >>= _) _ _ s; refine Se (Ta g1 g2 ?_)
 simp only [OB,hx]; refine Se (S7 (Se (Tb h1 h3 (by simp) ?_)))
 show R3 _ _ (newExc (.type "StopIteration") [] >>= _) _ _ _; refine Se ?_
 simp only [newExc,newTuple]; refine Se (SW ?_ (by size_fits))
 refine Se (m:=firstArgMember _ _) (wpAny_of_eq (a:=Value.none) (by first | rfl | (simp only [firstArgMember]; rfl)) ?_); refine SW ?_ (by size_fits)
 simp only [raiseNew]; refine Se (Tc ?_)
 first | rw [show A.in1.handled=none from hh] | rw [hh]
 refine Se (Sd (wpAny_throw ?_)); exact hE _ _ (((Heap.SameBut.update ..).extBut.push _).push _) ⟨_,Rm _ rfl,rfl⟩
end
theorem Iu {prog:RO} {w:RN} {A:RZ} (hh:A.handled=none) (it t:RP) (hne:t≠it) (its:Array RM):Draws prog w A it [it,t] its.size (fun i v=>its[i]?=some v) (fun i h=>h.IsTupleIter it t i/\h.IsTuple t its) where
 live:=fun i h ⟨⟨o,e,_⟩,_⟩=>⟨o,e⟩
 frame:=fun i h h' ⟨x,y⟩ k=>⟨x.at fun o e=>k it (by simp) o e,let ⟨o,e,r⟩:=y; ⟨o,k t (by simp) o e,r⟩⟩
 item:=fun i s Q E hi ⟨x,y⟩ hQ=>zc x y (Array.getElem?_eq_getElem hi) fun g hg hs=>hQ _ g s.toks (Array.getElem?_eq_getElem hi) ⟨hg,let ⟨o,e,r⟩:=y; ⟨o,(hs.2 t hne).trans e,r⟩⟩ hs
 done:=fun s Q E ⟨x,y⟩ hE=>Cq hh x y (by simp) hE

structure Apart (z TI TO i1 i2:RP) (fp1 fp2:List RP):Prop where
 a1:TI≠z
 a2:TO≠z
 a3:TI≠TO
 b1:z∉fp1
 b2:TO∉fp1
 b3:i2∉fp1
 c1:z∉fp2
 c2:TO∉fp2
 c3:i1∉fp2
 d1:TI≠i1
 d2:TI≠i2
 e1:i1∈fp1
 e2:i2∈fp2
section
variable {prog:RO} {w:RN} {A:RZ} {E:RM->R0->Prop} {s:R0} {z TI TO i1 i2:RP} {fp1 fp2:List RP} {n1 n2 i:Nat} {P1 P2:Nat->RM->Prop} {S1 S2:Nat->RT->Prop} {a b:RM}
theorem next_item {Q:RM->R0->Prop} (Ap:Apart z TI TO i1 i2 fp1 fp2) (D1:Draws prog w A i1 fp1 n1 P1 S1) (D2:Draws prog w A i2 fp2 n2 P2 S2) (hz:Td s.heap z TI TO .none) (hTI:Te s.heap TI (.ref i1) (.ref i2)) (hTO:Te s.heap TO a b) (st1:S1 i s.heap) (st2:S2 i s.heap) (l1:i < n1) (l2:i < n2)
  (hQ:∀ x y g tk,P1 i x->P2 i y->Td g z TI TO (rawInt s.heap.objs.size)->Te g TO x y->S1 (i+1) g->S2 (i+1) g->Te g s.heap.objs.size x y->g.objs.size=s.heap.objs.size+1 ->
   (∀ c o,c≠z->c≠TO->c≠i1->c≠i2->s.heap.get? c=some o->g.get? c=some o)->Q (.ref s.heap.objs.size) { s with heap:=g,toks:=tk }) :
  R3 (model prog w) A (Builtin.«zip.__next__» ⟨[.ref z],[]⟩) (fun fin s'=>∃ v,fin=.done (.ret v)/\Q v s') E s:=by
 have n1z:i1≠z:=fun e=>Ap.b1 (e ▸ Ap.e1)
 have n2z:i2≠z:=fun e=>Ap.c1 (e ▸ Ap.e2)
 have n1T:i1≠TO:=fun e=>Ap.b2 (e ▸ Ap.e1)
 have n2T:i2≠TO:=fun e=>Ap.c2 (e ▸ Ap.e2)
 show R3 _ _ (field (.ref z) 2 >>= _) _ _ _; refine Se (SM hz rfl (x:=.bool false) rfl ?_)
 show R3 _ _ (field (.ref z) 3 >>= _) _ _ _; refine Se (SM hz rfl (x:=.ref TI) rfl ?_); refine Se (Ta hTI rfl ?_)
 show R3 _ _ (Builtin.SmallTypes.ownedTupleIsFree (.ref z) >>= _) _ _ _; refine Se ?_
 unfold Builtin.SmallTypes.ownedTupleIsFree; refine Se (SM hz rfl (x:=.none) rfl (Sd ?_))
 simp only [if_true]; refine Se (S7 ?_); refine Se (SM hz rfl (x:=.ref TO) rfl ?_)
 refine Se (Tf hz (by simp) fun g1 hz1 k1=>?_)
 have hz1:Td g1 z TI TO .ellipsis:=hz1
 refine Se ?_; simp only [List.zipIdx_cons,List.zipIdx_nil,OV,List.forIn_nil]
 refine Se (Se (Tg ?_)); show R3 _ _ (Builtin.SmallTypes.nextOf (.ref i1) >>= _) _ _ _
 have q1:S1 i g1:=D1.frame _ _ _ st1 fun b hb o e=>k1.extBut _ _ (fun z'=>Ap.b1 (z' ▸ hb)) e
 refine Se (D1.item i { s with heap:=g1 } _ _ l1 q1 fun x g2 tk2 p1 q2 k2=>Sd ?_)
 have t2:Te g2 TO a b:=k2.extBut _ _ n1T.symm (k1.extBut _ _ Ap.a2 hTO)
 refine Se (Ta t2 rfl ?_); refine Se (Th t2 fun g3 t3 k3=>?_)
 have t3:Te g3 TO x b:=t3
 refine Se (Ti (Sd ?_)); refine Se (Se (Tg ?_)); show R3 _ _ (Builtin.SmallTypes.nextOf (.ref i2) >>= _) _ _ _
 have q3:S2 i g3:=D2.frame _ _ _ st2 fun b hb o e=>k3.extBut _ _ (fun z'=>Ap.c2 (z' ▸ hb)) (k2.extBut _ _ (fun z'=>Ap.c3 (z' ▸ hb)) (k1.extBut _ _ (fun z'=>Ap.c1 (z' ▸ hb)) e))
 refine Se (D2.item i { s with heap:=g3,toks:=tk2 } _ _ l2 q3 fun y g4 tk4 p2 q4 k4=>Sd ?_)
 have t4:Te g4 TO x b:=k4.extBut _ _ n2T.symm t3
 refine Se (Ta t4 rfl ?_); refine Se (Th t4 fun g5 t5 k5=>?_)
 have t5:Te g5 TO x y:=t5
 refine Se (Ti (Sd (Sd ?_))); refine Se (Ta t5 rfl ?_); refine Se (Tj ?_)
 have hsz:g5.objs.size=s.heap.objs.size:=by rw [k5.1,k4.1,k3.1,k2.1,k1.1]
 have hz5:Td g5 z TI TO .ellipsis:=k5.extBut _ _ Ap.a2.symm (k4.extBut _ _ n2z.symm (k3.extBut _ _ Ap.a2.symm (k2.extBut _ _ n1z.symm hz1)))
 have k15:∀ c o,c≠z->c≠TO->c≠i1->c≠i2->s.heap.get? c=some o->g5.get? c=some o:=fun c o c1 c2 c3 c4 e=>k5.extBut _ _ c2 (k4.extBut _ _ c4 (k3.extBut _ _ c2 (k2.extBut _ _ c3 (k1.extBut _ _ c1 e))))
 have r1:S1 (i+1) g5:=D1.frame _ _ _ q2 fun b hb o e=>k5.extBut _ _ (fun z'=>Ap.b2 (z' ▸ hb)) (k4.extBut _ _ (fun z'=>Ap.b3 (z' ▸ hb)) (k3.extBut _ _ (fun z'=>Ap.b2 (z' ▸ hb)) e))
 have r2:S2 (i+1) g5:=D2.frame _ _ _ q4 fun b hb o e=>k5.extBut _ _ (fun z'=>Ap.c2 (z' ▸ hb)) e
 have lz:z < g5.objs.size:=Rh hz5
 show R3 _ _ (Builtin.SmallTypes.ownedTupleHandOut (.ref z) (.ref g5.objs.size) >>= _) _ _ _; refine Se ?_
 unfold Builtin.SmallTypes.ownedTupleHandOut
 have hz6:Td (g5.push { cls:=.type "tuple",data:=.seq #[x,y] }) z TI TO .ellipsis:=Rl _ hz5
 refine Se (Tf hz6 (by simp) fun g7 hz7 k7=>?_)
 have hz7:Td g7 z TI TO (rawInt g5.objs.size):=hz7
 refine Tf hz7 (by simp) fun g8 hz8 k8=>?_
 have hz8:Td g8 z TI TO (rawInt g5.objs.size):=hz8
 have up:∀ c o,c≠z->g5.get? c=some o->g8.get? c=some o:=fun c o c1 e=>k8.extBut _ _ c1 (k7.extBut _ _ c1 (Rl _ e))
 have t8:Te g8 g5.objs.size x y:=k8.extBut _ _ (N9 lz) (k7.extBut _ _ (N9 lz) (Rm _ rfl))
 have s8:g8.objs.size=g5.objs.size+1:=by rw [k8.1,k7.1,Rn]
 rw [hsz] at hz8 t8 s8
 refine Sd ⟨_,rfl,?_⟩
 show Q (.ref g5.objs.size) _
 rw [hsz]
 exact hQ x y g8 tk4 p1 p2 hz8 (up _ _ Ap.a2 t5) (D1.frame _ _ _ r1 fun b hb o e=>up b o (fun z'=>Ap.b1 (z' ▸ hb)) e) (D2.frame _ _ _ r2 fun b hb o e=>up b o (fun z'=>Ap.c1 (z' ▸ hb)) e) t8 s8 fun c o c1 c2 c3 c4 e=>up c o c1 (k15 c o c1 c2 c3 c4 e)
theorem next_end {Q:Fin->R0->Prop} (Ap:Apart z TI TO i1 i2 fp1 fp2) (D1:Draws prog w A i1 fp1 n1 P1 S1) (D2:Draws prog w A i2 fp2 n2 P2 S2) (hz:Td s.heap z TI TO .none) (hTI:Te s.heap TI (.ref i1) (.ref i2)) (hTO:Te s.heap TO a b) (st1:S1 i s.heap) (st2:S2 i s.heap) (hend:i=n1\/(i < n1/\i=n2))
  (hE:∀ g e tk,(∀ c o,c≠z->c≠TO->c≠i1->c≠i2->s.heap.get? c=some o->g.get? c=some o)->(∃ o,g.get? e=some o/\o.cls=.type "StopIteration")->E (.ref e) { s with heap:=g,toks:=tk }) :
  R3 (model prog w) A (Builtin.«zip.__next__» ⟨[.ref z],[]⟩) Q E s:=by
 have n1z:i1≠z:=fun e=>Ap.b1 (e ▸ Ap.e1)
 have n2z:i2≠z:=fun e=>Ap.c1 (e ▸ Ap.e2)
 have n1T:i1≠TO:=fun e=>Ap.b2 (e ▸ Ap.e1)
 show R3 _ _ (field (.ref z) 2 >>= _) _ _ _; refine Se (SM hz rfl (x:=.bool false) rfl ?_)
 show R3 _ _ (field (.ref z) 3 >>= _) _ _ _; refine Se (SM hz rfl (x:=.ref TI) rfl ?_); refine Se (Ta hTI rfl ?_)
 show R3 _ _ (Builtin.SmallTypes.ownedTupleIsFree (.ref z) >>= _) _ _ _; refine Se ?_
 unfold Builtin.SmallTypes.ownedTupleIsFree; refine Se (SM hz rfl (x:=.none) rfl (Sd ?_))
 simp only [if_true]; refine Se (S7 ?_); refine Se (SM hz rfl (x:=.ref TO) rfl ?_)
 refine Se (Tf hz (by simp) fun g1 hz1 k1=>?_)
 have hz1:Td g1 z TI TO .ellipsis:=hz1
 refine Se ?_; simp only [List.zipIdx_cons,List.zipIdx_nil,OV,List.forIn_nil]
 refine Se (Se (Tg ?_)); show R3 _ _ (Builtin.SmallTypes.nextOf (.ref i1) >>= _) _ _ _
 have q1:S1 i g1:=D1.frame _ _ _ st1 fun b hb o e=>k1.extBut _ _ (fun z'=>Ap.b1 (z' ▸ hb)) e
 rcases hend with hend | ⟨l1,hend⟩
 ·subst hend
  refine Se (D1.done { s with heap:=g1 } _ _ q1 fun g2 e k2 he=>?_)
  obtain⟨oe,hoe,hce⟩:=he
  have hz2:Td g2 z TI TO .ellipsis:=k2 _ _ n1z.symm hz1
  have hez:e≠z:=fun x=>by rw [x,hz2] at hoe; cases hoe; simp at hce
  exact Tf hz2 (by simp) fun g3 _ k3=>hE g3 e s.toks (fun c o c1 _ c3 _ x=>k3.extBut _ _ c1 (k2 _ _ c3 (k1.extBut _ _ c1 x))) ⟨oe,k3.extBut _ _ hez hoe,hce⟩
 ·refine Se (D1.item i { s with heap:=g1 } _ _ l1 q1 fun x g2 tk2 p1 q2 k2=>Sd ?_)
  have t2:Te g2 TO a b:=k2.extBut _ _ n1T.symm (k1.extBut _ _ Ap.a2 hTO)
  refine Se (Ta t2 rfl ?_); refine Se (Th t2 fun g3 t3 k3=>?_)
  refine Se (Ti (Sd ?_)); refine Se (Se (Tg ?_)); show R3 _ _ (Builtin.SmallTypes.nextOf (.ref i2) >>= _) _ _ _
  have q3:S2 i g3:=D2.frame _ _ _ st2 fun b hb o e=>k3.extBut _ _ (fun z'=>Ap.c2 (z' ▸ hb)) (k2.extBut _ _ (fun z'=>Ap.c3 (z' ▸ hb)) (k1.extBut _ _ (fun z'=>Ap.c1 (z' ▸ hb)) e))
  subst hend
  refine Se (D2.done { s with heap:=g3,toks:=tk2 } _ _ q3 fun g4 e k4 he=>?_)
  obtain⟨oe,hoe,hce⟩:=he
  have hz4:Td g4 z TI TO .ellipsis:=k4 _ _ n2z.symm (k3.extBut _ _ Ap.a2.symm (k2.extBut _ _ n1z.symm hz1))
  have hez:e≠z:=fun x=>by rw [x,hz4] at hoe; cases hoe; simp at hce
  exact Tf hz4 (by simp) fun g5 _ k5=>hE g5 e tk2 (fun c o c1 c2 c3 c4 x=>k5.extBut _ _ c1 (k4 _ _ c4 (k3.extBut _ _ c2 (k2.extBut _ _ c3 (k1.extBut _ _ c1 x))))) ⟨oe,k5.extBut _ _ hez hoe,hce⟩
end
def SQ (b:Bool) (h:RT) (l:RP) (xs:Array RM):Prop:=if b then h.IsList l xs else h.IsTuple l xs
def SI (b:Bool) (h:RT) (i l:RP) (k:Nat):Prop:=if b then h.IsListIter i l k else h.IsTupleIter i l k
def Ld (b:Bool):String:=if b then "list_iterator" else "tuple_iterator"
theorem SQ.keep {b:Bool} {h h':RT} {l:RP} {xs:Array RM} (x:SQ b h l xs) (k:∀ o,h.get? l=some o->h'.get? l=some o):SQ b h' l xs:=by
 cases b with
 | true=>exact Heap.IsList.at x k
 | false=>obtain⟨o,e,r⟩:=(show h.IsTuple l xs from x); exact(show h'.IsTuple l xs from ⟨o,k o e,r⟩)
theorem SI.keep {b:Bool} {h h':RT} {i l:RP} {n:Nat} (x:SI b h i l n) (k:∀ o,h.get? i=some o->h'.get? i=some o):SI b h' i l n:=by
 cases b with
 | true=>exact Heap.IsListIter.at x k
 | false=>exact Heap.IsTupleIter.at x k
theorem SQ.lt {b:Bool} {h:RT} {l:RP} {xs:Array RM} (x:SQ b h l xs):l < h.objs.size:=by
 cases b with
 | true=>obtain⟨o,e,_⟩:=(show h.IsList l xs from x); exact Rh e
 | false=>obtain⟨o,e,_⟩:=(show h.IsTuple l xs from x); exact Rh e
theorem SI.get {b:Bool} {h:RT} {i l:RP} {n:Nat} (x:SI b h i l n):∃ o,h.get? i=some o/\∀ v,o.data≠.cell v:=by
 cases b with
 | true=>obtain⟨o,e,_,d⟩:=(show h.IsListIter i l n from x); exact⟨o,e,fun v z=>by rw [d] at z; cases z⟩
 | false=>obtain⟨o,e,_,d⟩:=(show h.IsTupleIter i l n from x); exact⟨o,e,fun v z=>by rw [d] at z; cases z⟩
theorem SI.new {b:Bool} {h:RT} {l:RP}:SI b (h.push { cls:=.type (Ld b),data:=.fields #[.ref l,.int 0 0] }) h.objs.size l 0:=by
 cases b with
 | true=>exact⟨_,Rm _ rfl,rfl,rfl⟩
 | false=>exact⟨_,Rm _ rfl,rfl,rfl⟩
theorem sZ {b:Bool} {prog:RO} {w:RN} {A:RZ} {E:RM->R0->Prop} {s:R0} {l:RP} {xs:Array RM} {Q:RM->R0->Prop} (h:SQ b s.heap l xs)
  (hQ:Q (.ref s.heap.objs.size) { s with heap:=s.heap.push { cls:=.type (Ld b),data:=.fields #[.ref l,.int 0 0] } }):R3 (model prog w) A (pyIter (.ref l)) Q E s:=by
 cases b with
 | true=>exact Sf h hQ
 | false=>exact wpAny_pyIter_tuple h hQ
theorem nX {prog:RO} {w:RN} {A:RZ} (b:Bool) (hh:A.handled=none) (it l:RP) (hne:l≠it) (its:Array RM):Draws prog w A it [it,l] its.size (fun i v=>its[i]?=some v) (fun i h=>SI b h it l i/\SQ b h l its):=by
 cases b with
 | true=>exact Draws.list hh it l hne its
 | false=>exact Iu hh it l hne its
abbrev CU (b1:Bool) (h:RT) (l1:RP):RT:=h.push { cls:=.type (Ld b1),data:=.fields #[.ref l1,.int 0 0] }
abbrev Kk (b1 b2:Bool) (h:RT) (l1 l2:RP):RT:=(CU b1 h l1).push { cls:=.type (Ld b2),data:=.fields #[.ref l2,.int 0 0] }
abbrev Lg (b1 b2:Bool) (h:RT) (l1 l2:RP):RT:=(Kk b1 b2 h l1 l2).push { cls:=.type "tuple",data:=.seq #[.ref h.objs.size,.ref (CU b1 h l1).objs.size] }
abbrev Le (b1 b2:Bool) (h:RT) (l1 l2:RP):RT:=(Lg b1 b2 h l1 l2).push { cls:=.type "tuple",data:=.seq #[.none,.none] }
abbrev Ha (b1 b2:Bool) (h:RT) (l1 l2:RP):RT:=(Le b1 b2 h l1 l2).push { cls:=.type "zip",data:=.fields #[.none,.bool false,.bool false,.ref (Kk b1 b2 h l1 l2).objs.size,.ref (Lg b1 b2 h l1 l2).objs.size] }
theorem Ew (b1 b2:Bool) (l1 l2:RP) (xs ys:Array RM):Meets (Builtin.«zip.__new__» ⟨[.type "zip",.ref l1,.ref l2],[]⟩) (fun _ R s=>SQ b1 s.heap l1 xs/\SQ b2 s.heap l2 ys/\R (.ok (.ret (.ref (Le b1 b2 s.heap l1 l2).objs.size))) { s with heap:=Ha b1 b2 s.heap l1 l2 }) :=
 .of_wp fun prog w A R s h=>by
  obtain⟨hp,g,d,tk,os⟩:=s
  obtain⟨q1,q2,h⟩:=h
  have hsub:=sub_zip
  have e1:SQ b1 (Shared.heap ⟨hp,g,d,tk,os⟩) l1 xs:=q1
  have e2:SQ b2 (Shared.heap ⟨CU b1 hp l1,g,d,tk,os⟩) l2 ys:=q2.keep fun o e=>Rl _ e
  wp_walk using sZ e1,sZ e2
  exact⟨_,rfl,h⟩
theorem De {prog:RO} {w:RN} {A:RZ} {E:RM->R0->Prop} {s:R0} {b1 b2:Bool} {l1 l2:RP} {xs ys:Array RM} {Q:RM->R0->Prop} (h1:SQ b1 s.heap l1 xs) (h2:SQ b2 s.heap l2 ys)
  (h:∀ g,Td g (s.heap.objs.size+4) (s.heap.objs.size+2) (s.heap.objs.size+3) .none->Te g (s.heap.objs.size+2) (.ref s.heap.objs.size) (.ref (s.heap.objs.size+1))->Te g (s.heap.objs.size+3) .none .none->SI b1 g s.heap.objs.size l1 0->SI b2 g (s.heap.objs.size+1) l2 0 ->
   (∀ c o,s.heap.get? c=some o->g.get? c=some o)->Q (.ref (s.heap.objs.size+4)) { s with heap:=g }):R3 (model prog w) A (call (.type "zip") [.ref l1,.ref l2]) Q E s:=by
 refine callType_new F.called_zip (by decide) (F.typeCall_zip_2 _ _) (F.newCall_zip_2 _ _) (fun obj=>F.args_object_init_3 obj _ _) F.entry_zip_new (Ew b1 b2 l1 l2 xs ys) ⟨h1,h2,?_⟩
 have z1:(CU b1 s.heap l1).objs.size=s.heap.objs.size+1:=Rn ..
 have z2:(Kk b1 b2 s.heap l1 l2).objs.size=s.heap.objs.size+2:=by rw [Rn,z1]
 have z3:(Lg b1 b2 s.heap l1 l2).objs.size=s.heap.objs.size+3:=by rw [Rn,z2]
 have z4:(Le b1 b2 s.heap l1 l2).objs.size=s.heap.objs.size+4:=by rw [Rn,z3]
 have u1:∀ c o,(CU b1 s.heap l1).get? c=some o->(Ha b1 b2 s.heap l1 l2).get? c=some o:=fun c o e=>Rl _ (Rl _ (Rl _ (Rl _ e)))
 have u2:∀ c o,(Kk b1 b2 s.heap l1 l2).get? c=some o->(Ha b1 b2 s.heap l1 l2).get? c=some o:=fun c o e=>Rl _ (Rl _ (Rl _ e))
 have g5:(Ha b1 b2 s.heap l1 l2).get? (Le b1 b2 s.heap l1 l2).objs.size=some _:=Rm _ rfl
 have g4:(Ha b1 b2 s.heap l1 l2).get? (Lg b1 b2 s.heap l1 l2).objs.size=some _:=Rl _ (Rm _ rfl)
 have g3:(Ha b1 b2 s.heap l1 l2).get? (Kk b1 b2 s.heap l1 l2).objs.size=some _:=Rl _ (Rl _ (Rm _ rfl))
 have g2:SI b2 (Ha b1 b2 s.heap l1 l2) (CU b1 s.heap l1).objs.size l2 0:=SI.keep (SI.new (h:=CU b1 s.heap l1)) fun o e=>u2 _ o e
 have g1:SI b1 (Ha b1 b2 s.heap l1 l2) s.heap.objs.size l1 0:=SI.keep SI.new fun o e=>u1 _ o e
 show _/\_
 rw [z2,z3,z4] at g5
 rw [z1,z2] at g3
 rw [z3] at g4
 rw [z1] at g2
 rw [z4]
 exact⟨⟨_,g5,rfl⟩,h _ g5 g3 g4 g1 g2 fun c o e=>u1 c o (Rl _ e)⟩
theorem B5 (b : Bool) (l : RP) (xs : Array RM) : Meets (Builtin.«enumerate.__new__» ⟨[.type "enumerate", .ref l], []⟩) (fun _ R s => SQ b s.heap l xs /\
      R (.ok (.ret (.ref (CU b s.heap l).objs.size))) { s with heap:=(CU b s.heap l).push { cls:=.type "enumerate",data:=.fields #[.none,.bool false,.ref s.heap.objs.size,rawInt 0,.none,.none] } }) :=
  .of_wp fun prog w A R s h=>by
    obtain⟨hp,g,d,tk,os⟩:=s
    obtain⟨q1,h⟩:=h
    have hsub:=sub_enumerate
    have e1:SQ b (Shared.heap ⟨hp,g,d,tk,os⟩) l xs:=q1
    wp_walk using sZ e1
    refine wpAny_stack_any fun st=>Sd ?_
    split
    · rename_i c _ _ _ _ _
      cases (c==Value.type "enumerate") <;> (wp_walk using sZ e1; exact⟨_,rfl,h⟩)
    · wp_walk using sZ e1
      exact⟨_,rfl,h⟩
end ZI
namespace TG
open PySem PySem.Spec L2 ZI
variable [aV]
section
variable {X:Cx} {pins:List (RP×Obj)} {σ:St} {H:Hp} {s:R0} {h':RT}
theorem Inv.turnedL {ch:List RP} {p:RP} {o:HO} {t':Nat} (I:Inv X pins σ H s) (hf:∀ b∈ch,uB X pins H b) (k:∀ b u,b∉ch->s.heap.get? b=some u->h'.get? b=some u) (hp:s.heap.objs.size<=p) (new:cC X.prog X.w (upd H p o) h' p o) :
  Inv X pins σ (upd H p o) { s with heap:=h',toks:=t' }:=by
 have hn:=I.hok.fresh hp
 have nch:∀ b u,H b=some u->b∉ch:=fun b u e z=>by rw [(hf b z).1] at e; cases e
 refine I.step (g':=s.gens) (d':=s.drawn) (ch:=ch) (fun b hb=>?_) (fun b o _ _ hc e _=>k b o hc e) (fun b o _ _ hc e _=>⟨o.slots,k b o hc e⟩) (fun b u _ q n=>by rw [aE (N0 (NY (Rh q) hp))]; exact n)
  (fun b o hc e=>⟨o,k b o hc e⟩) (fun b xs q=>by rw [aE (aX q hn)]; exact q) (fun b u xs q=>by rw [aE (aX q hn)]; exact q) (fun b ps q=>⟨#[],by rw [aE (aX q hn),q]; simp⟩) (fun m hm=>?_) (fun b u e=>?_) I.bare
 ·obtain⟨_,f1,_,f3,f4,f5⟩:=hf b hb
  exact⟨f3,f1,f4,f5⟩
 ·obtain⟨o,es,ep,ho,r⟩:=hm
  exact⟨o,es,ep,k _ o (fun z=>(hf _ z).2.1 rfl) ho,r⟩
 ·by_cases hb:b=p
  ·subst hb; rw [aL] at e; cases e; exact new
  ·rw [aE hb] at e
   refine(I.hok b u e).stay (fun c v hc q=>k c v ?_ q) (fun c q=>by rw [aE (aX q hn)]; exact q) fun c xs q=>by rw [aE (aX q hn)]; exact q
   rcases hc with z | z
   ·rw [z]; exact nch b u e
   ·exact nch c _ z
theorem Inv.turned0 {ch:List RP} {t':Nat} (I:Inv X pins σ H s) (hf:∀ b∈ch,uB X pins H b) (k:∀ b u,b∉ch->s.heap.get? b=some u->h'.get? b=some u):Inv X pins σ H { s with heap:=h',toks:=t' }:=by
 have nch:∀ b u,H b=some u->b∉ch:=fun b u e z=>by rw [(hf b z).1] at e; cases e
 refine I.step (g':=s.gens) (d':=s.drawn) (ch:=ch) (fun b hb=>?_) (fun b o _ _ hc e _=>k b o hc e) (fun b o _ _ hc e _=>⟨o.slots,k b o hc e⟩) (fun _ _ _ _ n=>n)
  (fun b o hc e=>⟨o,k b o hc e⟩) (fun _ _ e=>e) (fun _ _ _ e=>e) (fun b ps e=>⟨#[],by rw [e]; simp⟩) (fun m hm=>?_) (fun b u e=>?_) I.bare
 ·obtain⟨_,f1,_,f3,f4,f5⟩:=hf b hb
  exact⟨f3,f1,f4,f5⟩
 ·obtain⟨o,es,ep,ho,r⟩:=hm
  exact⟨o,es,ep,k _ o (fun z=>(hf _ z).2.1 rfl) ho,r⟩
 ·refine(I.hok b u e).stay (fun c v hc q=>k c v ?_ q) (fun _ q=>q) fun _ _ q=>q
  rcases hc with z | z
  ·rw [z]; exact nch b u e
  ·exact nch c _ z
end
def SX (K:QN) (b:Bool) (H:Hp) (a:RP) (xs:List V):Prop:=if b then oO K H a xs else pR K H a xs
theorem SX.same {K:QN} {b:Bool} {H H':Hp} {a:RP} {xs:List V} (e:bj H H') (h:SX K b H a xs):SX K b H' a xs:=by
 cases b with
 | true=>exact e.seq (show oO K H a xs from h)
 | false=>exact CC e (show pR K H a xs from h)
section
variable {X:Cx} {pins:List (RP×Obj)} {σ:St} {H:Hp} {s:R0}
theorem Inv.sx (I:Inv X pins σ H s) {b:Bool} {a:RP} {xs:List V} (h:SX X.K b H a xs):∃ its:List RM,Vals xs its/\SQ b s.heap a its.toArray/\xs.length<=RU:=by
 cases b with
 | true=>obtain⟨its,r,p,z⟩:=I.list (show oO X.K H a xs from h); exact⟨its,r,p.isList,z⟩
 | false=>obtain⟨its,r,p,z⟩:=I.tuple (show pR X.K H a xs from h); exact⟨its,r,p,z⟩
theorem Inv.sx_inj (I:Inv X pins σ H s) {b:Bool} {a:RP} {xs ys:List V} (h:SX X.K b H a xs) (h':SX X.K b H a ys):xs=ys:=by
 cases b with
 | true=>exact I.list_inj h h'
 | false=>exact I.tuple_inj h h'
end
def Nj (K:QN) (b1 b2:Bool) (a1 a2:RP):It :=
  ⟨fun i H=>∃ xs ys,SX K b1 H a1 xs/\SX K b2 H a2 ys/\i < xs.length/\i < ys.length,
   fun i H v H'=>∃ p x y,v=.ref p/\H p=none/\H'=upd H p (.tup [x,y])/\(∀ xs,SX K b1 H a1 xs->xs[i]?=some x)/\∀ ys,SX K b2 H a2 ys->ys[i]?=some y,
   fun i H=>∃ xs ys,SX K b1 H a1 xs/\SX K b2 H a2 ys/\(i=xs.length\/(i < xs.length/\i=ys.length))⟩
theorem DH {P:RO} {w:RN} {K:QN} {es:List R4} {k:Nat} {pos:Pos} {b1 b2:Bool} {a1 a2 z TI TO i1 i2:RP} (Ap:Apart z TI TO i1 i2 [i1,a1] [i2,a2]) (n1:a1≠i1) (n2:a2≠i2) (n3:z≠i1) (n4:z≠i2):Turn P w K (.Tuple es k pos) (Nj K b1 b2 a1 a2) [z,TI,TO,i1,i2] z
  (fun i h=>Td h z TI TO .none/\Te h TI (.ref i1) (.ref i2)/\(∃ a b,Te h TO a b)/\SI b1 h i1 a1 i/\SI b2 h i2 a2 i) where
 mem:=by simp
 obj:=fun i h ⟨hz,hI,⟨a,b,hO⟩,s1,s2⟩ c hc=>by
  simp only [Pu,Pw,or_false] at hc
  rcases hc with rfl | rfl | rfl | rfl | rfl
  ·exact⟨_,hz,fun v q=>by cases q⟩
  ·exact⟨_,hI,fun v q=>by cases q⟩
  ·exact⟨_,hO,fun v q=>by cases q⟩
  ·exact s1.get
  ·exact s2.get
 keep:=fun i h h' ⟨hz,hI,⟨a,b,hO⟩,s1,s2⟩ kp=>⟨kp z (by simp) _ hz,kp TI (by simp) _ hI,⟨a,b,kp TO (by simp) _ hO⟩,s1.keep fun o e=>kp i1 (by simp) o e,s2.keep fun o e=>kp i2 (by simp) o e⟩
 item:=by
  intro X hP hw hK hc i pins s σ H E I hf ⟨hz,hI,⟨a,b,hO⟩,s1,s2⟩ hg
  subst hP hw hK
  obtain⟨xs,ys,g1,g2,l1,l2⟩:=hg
  obtain⟨its1,r1,q1,z1⟩:=Inv.sx I g1
  obtain⟨its2,r2,q2,z2⟩:=Inv.sx I g2
  have hh:X.A.in1.handled=none:=I.ok.hd hc
  have hT:s.TypeIs (.ref z) "zip":=⟨_,hz,rfl⟩
  unfold pyNext
  refine Se (Tl (SR (name:=Str.ofString "__next__") hT F.slot_zip_next (SU F.slot_zip_next hT F.entry_zip_next
   (next_item Ap (nX (A:=X.A.in1) b1 hh i1 a1 n1 its1.toArray) (nX (A:=X.A.in1) b2 hh i2 a2 n2 its2.toArray) hz hI hO ⟨s1,q1⟩ ⟨s2,q2⟩ (by rw [Of,<- r1.length]; exact l1) (by rw [Of,<- r2.length]; exact l2) fun u v g tk p1 p2 hz' hO' t1 t2 hp sz kp=>?_) (F.args_zip_next_1 _))))
  have e1:its1[i]?=some u:=by simpa using p1
  have e2:its2[i]?=some v:=by simpa using p2
  have hx:∃ x,xs[i]?=some x/\RelV x u:=by
   obtain⟨u',hu,ru⟩:=r1.get (i:=i) (x:=xs[i]) (by simp [l1])
   rw [e1] at hu; cases hu
   exact⟨xs[i],by simp [l1],ru⟩
  have hy:∃ y,ys[i]?=some y/\RelV y v:=by
   obtain⟨u',hu,ru⟩:=r2.get (i:=i) (x:=ys[i]) (by simp [l2])
   rw [e2] at hu; cases hu
   exact⟨ys[i],by simp [l2],ru⟩
  obtain⟨x,ex,rx⟩:=hx
  obtain⟨y,ey,ry⟩:=hy
  refine Sd ⟨_,rfl,?_⟩
  refine wpAny_letOwnedTupleGo_zip hz' fun g' hz2 sb=>?_
  have hpz:s.heap.objs.size≠z:=N9 (Rh hz)
  have hp':Te g' s.heap.objs.size u v:=sb.extBut _ _ hpz hp
  have I':Inv X pins σ (upd H s.heap.objs.size (.tup [x,y])) { s with heap:=g',toks:=tk }:=Inv.turnedL (ch:=[z,TI,TO,i1,i2]) I hf (fun c o hc e=>by
   simp only [Pu,Pw,or_false,not_or] at hc
   exact sb.extBut _ _ hc.1 (kp c o hc.1 hc.2.2.1 hc.2.2.2.1 hc.2.2.2.2 e)) (Oa _) ⟨by show 2<=RU; decide,[u,v],.cons rx (.cons ry .nil),_,hp',rfl,_,rfl⟩
  have fr:H s.heap.objs.size=none:=I.fresh
  have ne:∀ c∈[z,TI,TO,i1,i2],c≠s.heap.objs.size:=fun c hc e=>by
   simp only [Pu,Pw,or_false] at hc
   rcases hc with rfl | rfl | rfl | rfl | rfl
   ·exact hpz e.symm
   ·exact absurd (Rh hI) (by rw [e]; exact NZ _)
   ·exact absurd (Rh hO) (by rw [e]; exact NZ _)
   ·obtain⟨o,q,_⟩:=s1.get; exact absurd (Rh q) (by rw [e]; exact NZ _)
   ·obtain⟨o,q,_⟩:=s2.get; exact absurd (Rh q) (by rw [e]; exact NZ _)
  refine⟨.ref s.heap.objs.size,_,I',rfl,⟨_,x,y,rfl,fr,rfl,fun xs' h=>by rw [Inv.sx_inj I h g1]; exact ex,fun ys' h=>by rw [Inv.sx_inj I h g2]; exact ey⟩,⟨hz2,?_,⟨u,v,sb.extBut _ _ Ap.a2 hO'⟩,?_,?_⟩,fun c hc=>by rw [aE (ne c hc)]; exact(hf c hc).1⟩
  ·exact sb.extBut _ _ Ap.a1 (kp TI _ Ap.a1 Ap.a3 Ap.d1 Ap.d2 hI)
  ·exact t1.1.keep fun o e=>sb.extBut _ _ n3.symm e
  ·exact t2.1.keep fun o e=>sb.extBut _ _ n4.symm e
 done:=by
  intro X hP hw hK hc i pins s σ H E I hf ⟨hz,hI,⟨a,b,hO⟩,s1,s2⟩ hg
  subst hP hw hK
  obtain⟨xs,ys,g1,g2,hl⟩:=hg
  obtain⟨its1,r1,q1,z1⟩:=Inv.sx I g1
  obtain⟨its2,r2,q2,z2⟩:=Inv.sx I g2
  have hh:X.A.in1.handled=none:=I.ok.hd hc
  have hT:s.TypeIs (.ref z) "zip":=⟨_,hz,rfl⟩
  unfold pyNext
  refine Se (Tl (SR (name:=Str.ofString "__next__") hT F.slot_zip_next (SU F.slot_zip_next hT F.entry_zip_next
   (next_end (i:=i) Ap (nX (A:=X.A.in1) b1 hh i1 a1 n1 its1.toArray) (nX (A:=X.A.in1) b2 hh i2 a2 n2 its2.toArray) hz hI hO ⟨s1,q1⟩ ⟨s2,q2⟩ (by rw [Of,Of,<- r1.length,<- r2.length]; exact hl) fun g e tk kp he=>?_) (F.args_zip_next_1 _))))
  obtain⟨o,ho,hce⟩:=he
  refine Se (Tn (T := "StopIteration") (b:=true) ⟨o,ho,hce⟩ To ?_)
  refine Sd ⟨rfl,Inv.turned0 (ch:=[z,TI,TO,i1,i2]) I hf fun c o hc e=>?_⟩
  simp only [Pu,Pw,or_false,not_or] at hc
  exact kp c o hc.1 hc.2.2.1 hc.2.2.2.1 hc.2.2.2.2 e
 self:=fun _ _ _ _ _ ⟨hz,_⟩ h=>wpAny_pyIter_zip hz h
def Fj:D->Option (Bool×List D)
 | .lst xs=>some (true,xs)
 | .tup xs=>some (false,xs)
 | _=>none
theorem sA {K:QN} {H:Hp} {d:D} {b:Bool} {xs:List D} {v:V} (e:Fj d=some (b,xs)) (h:cN K H d v):∃ a vs,v=.ref a/\SX K b H a vs/\aZ K H xs vs:=by
 cases d with
 | lst ys=>cases e; exact cA.mp h
 | tup ys=>cases e; obtain⟨a,vs,e1,e2,e3⟩:=cB.mp h; exact⟨a,vs,e1,pR.of e2,e3⟩
 | _=>cases e
def pD:List D->List D->List D
 | x::xs,y::ys=>.tup [x,y]::pD xs ys
 | _,_=>[]
theorem qO:∀ xs ys:List D,(pD xs ys).length=min xs.length ys.length
 | [],_=>by simp [pD]
 | _::_,[]=>by simp [pD]
 | x::xs,y::ys=>by
  rw [pD,Oh,qO xs ys,Oh,Oh]; omega
theorem xN:∀ {xs ys:List D} {i:Nat} {d:D},(pD xs ys)[i]?=some d->∃ x y,xs[i]?=some x/\ys[i]?=some y/\d=.tup [x,y]
 | [],_,i,d,h=>by simp [pD] at h
 | _::_,[],i,d,h=>by simp [pD] at h
 | x::xs,y::ys,0,d,h=>by
  rw [pD,Px] at h
  cases h
  exact⟨x,y,rfl,rfl,rfl⟩
 | x::xs,y::ys,i+1,d,h=>by
  rw [pD,Py] at h
  obtain⟨a,b,h1,h2,h3⟩:=xN h
  exact⟨a,b,by rw [Py]; exact h1,by rw [Py]; exact h2,h3⟩
theorem D4 {K:QN} {Hd:Hp} {b1 b2:Bool} {a1 a2:RP} {ds es:List D} {vs ws:List V} (h1:SX K b1 Hd a1 vs) (g1:aZ K Hd ds vs) (h2:SX K b2 Hd a2 ws) (g2:aZ K Hd es ws):Walk K Hd (Nj K b1 b2 a1 a2) (pD ds es):=fun Hn O' i hO sm =>
  have s':bj Hd Hn:=sm.trans (aD Hn O')
  ⟨fun d e=>by
    obtain⟨x,y,e1,e2,rfl⟩:=xN e
    have l1:i < ds.length:=(List.getElem?_eq_some_iff.mp e1).1
    have l2:i < es.length:=(List.getElem?_eq_some_iff.mp e2).1
    obtain⟨v,ev,dv⟩:=g1.get e1
    obtain⟨w,ew,dw⟩:=g2.get e2
    refine⟨⟨vs,ws,h1.same s',h2.same s',by rw [<- g1.length]; exact l1,by rw [<- g2.length]; exact l2⟩,fun u H2 ⟨p,x',y',eu,hp,eH,q1,q2⟩=>?_⟩
    have z1:=q1 vs (h1.same s')
    rw [ev] at z1; cases z1
    have z2:=q2 ws (h2.same s')
    rw [ew] at z2; cases z2
    subst eH eu
    exact⟨bF hp _,eW hO hp (bz.mpr ⟨v,_,rfl,dv.mono sm,bz.mpr ⟨w,_,rfl,dw.mono sm,dh.mpr rfl⟩⟩)⟩,
   fun hl=>by
    rw [qO] at hl
    refine⟨vs,ws,h1.same s',h2.same s',?_⟩
    rw [<- g1.length,<- g2.length]
    omega⟩
def BO:List D->Option (List D)
 | [a,b]=>(Fj a).bind fun x=>(Fj b).bind fun y=>some (pD x.2 y.2)
 | _=>none
def EX (f:aq->R (List D)):aq->R (List D):=fun ρ=>(f ρ).bind fun ds=>rO (BO ds)
section
variable {X:Cx}
theorem HB {a b c:RP} (h1:a≠b) (h2:a≠c):a∉[b,c]:=fun h=>by
 rcases List.mem_cons.mp h with z | z
 ·exact h1 z
 ·exact h2 (List.mem_singleton.mp z)
theorem Bp {n a1 a2:RP} (h1:a1 < n) (h2:a2 < n):Apart (n+4) (n+2) (n+3) n (n+1) [n,a1] [n+1,a2]:=by
 have lt:∀ {a b:Nat},a < b->(b:RP)≠(a:RP):=fun h=>N9 h
 have lt':∀ {a b:Nat},a < b->(a:RP)≠(b:RP):=fun h=>N0 h
 have g:∀ k:Nat,a1 < n+k:=fun k=>NY h1 (Pz _ _)
 have g':∀ k:Nat,a2 < n+k:=fun k=>NY h2 (Pz _ _)
 have p:∀ {j k:Nat},j < k->n+j < n+k:=fun h=>PB h n
 have p0:∀ {k:Nat},0 < k->n < n+k:=fun h=>PC h
 exact⟨lt' (p (by decide)),lt' (p (by decide)),lt' (p (by decide)),HB (lt (p0 (by decide))) (lt (g 4)),HB (lt (p0 (by decide))) (lt (g 3)),HB (lt (p0 (by decide))) (lt (g 1)),
  HB (lt (p (by decide))) (lt (g' 4)),HB (lt (p (by decide))) (lt (g' 3)),HB (lt' (p0 (by decide))) (lt h2),lt (p0 (by decide)),lt (p (by decide)),N4,N4⟩
theorem IP {pins:List (RP×Obj)} {s:R0} {σ:St} {H:Hp} {O:List RP} {es:List R4} {k:Nat} {tpos:Pos} {ds r:List D} {vs:List V} {us:List RM} {RR:It->Hp->Prop} (I:Inv X pins σ H s) (hc:BO ds=some r) (d1:aZ X.K (hid H O) ds vs) (rv:Vals vs us) (q:∀ J,Walk X.K (hid H O) J r->RR J H) :
  R3 (model X.prog X.w) X.A (call (.type "zip") us) (fun v s1=>R3 (model X.prog X.w) X.A (pyIter v) (PIE X pins σ (.Tuple es k tpos) RR) X.xe s1) X.xe s:=by
 unfold BO at hc
 split at hc
 ·rename_i a b
  obtain⟨⟨b1,xs⟩,e1,hc⟩:=bind_some hc
  obtain⟨⟨b2,ys⟩,e2,hc⟩:=bind_some hc
  cases hc
  obtain⟨va,vb,rfl,da,db⟩:=d1.two
  obtain⟨u1,u2,rfl,r1,r2⟩:=vals2 rv
  obtain⟨a1,ws1,rfl,x1,y1⟩:=sA e1 da
  obtain⟨a2,ws2,rfl,x2,y2⟩:=sA e2 db
  cases r1
  cases r2
  obtain⟨its1,rr1,q1,_⟩:=Inv.sx I (x1.same (aD H O))
  obtain⟨its2,rr2,q2,_⟩:=Inv.sx I (x2.same (aD H O))
  refine De q1 q2 fun g hz hI hO s1 s2 kp=>wpAny_pyIter_zip hz ?_
  have Ap:=Bp q1.lt q2.lt
  refine⟨_,_,_,_,H,rfl,I.kept (t':=s.toks) kp,DH (b1:=b1) (b2:=b2) Ap (N0 q1.lt) (N0 (NY q2.lt (Pz _ 1))) (N9 (PC (by decide))) (N9 (PB (by decide) _)),⟨hz,hI,⟨_,_,hO⟩,s1,s2⟩,fun b hb=>?_,q _ (D4 x1 y1 x2 y2)⟩
  have le:s.heap.objs.size<=b:=by
   simp only [Pu,Pw,or_false] at hb
   rcases hb with rfl | rfl | rfl | rfl | rfl
   ·exact Pz _ _
   ·exact Pz _ _
   ·exact Pz _ _
   ·exact Oa _
   ·exact Pz _ _
  exact I.fpOk le (I.hok.fresh le)
 ·cases hc
theorem MH {a b:R4} {es:List R4} {k:Nat} {tpos:Pos} {f:aq->R (List D)} {p pos:Pos} (hg:Gl X "zip") (hm:X.mg "zip"=none) (ha:FA X [a,b] f) (hs:R5 [a,b] X.env=(false,eval a X.env)::R5 [b] X.env:=by rfl) (hpl:(backTo pos (R5 [b] X.env)).any (·.1)=false:=by rfl):FI X (.Tuple es k tpos) (.Call (.Name "zip" p) [a,b] [] pos) (EX f):=by
 intro pins s σ H RR I ⟨O,ρ,E,hG⟩
 have hA:=ha pos pins s σ H (fun vs H1=>∃ ds r,BO ds=some r/\aZ X.K (hid H1 O) ds vs/\∀ J,Walk X.K (hid H1 O) J r->RR J H1) I ⟨O,ρ,E,(jF.bind hG).imp fun ds hG vs H1 s1 d1=>by
  obtain⟨r,e,q⟩:=jF.rO hG
  exact⟨ds,r,e,d1,fun J wk=>q J H1 s1 wk⟩⟩
 refine Ry (mj I hg hm PyProof.Rows.boot_zip (Ru (eX hA fun us s1 ⟨vs,H1,I1,r1,ds,r,er,d1,q⟩=>?_) hs hpl))
 exact IP I1 er d1 r1 q
end
def Nm (K:QN) (b:Bool) (a:RP):It :=
  ⟨fun i H=>∃ xs,SX K b H a xs/\i < xs.length,
   fun i H v H'=>∃ p x,v=.ref p/\H p=none/\H'=upd H p (.tup [.int i,x])/\∀ xs,SX K b H a xs->xs[i]?=some x,
   fun i H=>∃ xs,SX K b H a xs/\i=xs.length⟩
theorem Ce {P:RO} {w:RN} {K:QN} {es:List R4} {k:Nat} {pos:Pos} {b:Bool} {a e it:RP} (n1:a≠it) (n2:e≠it) (n3:e≠a):Turn P w K (.Tuple es k pos) (Nm K b a) [e,it] e (fun i h=>(∃ old,IsEnum h e it i old)/\SI b h it a i) where
 mem:=by simp
 obj:=fun i h ⟨⟨old,he⟩,s1⟩ c hc=>by
  simp only [Pu,Pw,or_false] at hc
  rcases hc with rfl | rfl
  ·exact⟨_,he,fun v q=>by cases q⟩
  ·exact s1.get
 keep:=fun i h h' ⟨⟨old,he⟩,s1⟩ kp=>⟨⟨old,kp e (by simp) _ he⟩,s1.keep fun o q=>kp it (by simp) o q⟩
 item:=by
  intro X hP hw hK hc i pins s σ H E I hf ⟨⟨old,he⟩,s1⟩ hg
  subst hP hw hK
  obtain⟨xs,g1,l1⟩:=hg
  obtain⟨its,r1,q1,z1⟩:=Inv.sx I g1
  have hh:X.A.in1.handled=none:=I.ok.hd hc
  refine wpAny_pyNext_enum_itemD (nX (A:=X.A.in1) b hh it a n1 its.toArray) he ⟨s1,q1⟩ (by rw [Of,<- r1.length]; exact l1) n2 (HB n2 n3) fun u g tk p1 ho t1 hp sz kp=>?_
  have e1:its[i]?=some u:=by simpa using p1
  obtain⟨u',hu,ru⟩:=r1.get (i:=i) (x:=xs[i]) (by simp [l1])
  rw [e1] at hu; cases hu
  refine⟨_,rfl,wpAny_letOwnedTupleGo_enum ho fun g' he' sb=>?_⟩
  have hpe:s.heap.objs.size≠e:=N9 (Rh he)
  have hp':=sb.extBut _ _ hpe hp
  have I':Inv X pins σ (upd H s.heap.objs.size (.tup [.int i,xs[i]])) { s with heap:=g',toks:=tk+1 }:=Inv.turnedL (ch:=[e,it]) I hf (fun c o hc q=>by
   simp only [Pu,Pw,or_false,not_or] at hc
   exact sb.extBut _ _ hc.1 (kp c o hc.1 hc.2 q)) (Oa _) ⟨by show 2<=RU; decide,[.int i tk,u],.cons ⟨_,rfl⟩ (.cons ru .nil),_,hp',rfl,_,rfl⟩
  have ne:∀ c∈[e,it],c≠s.heap.objs.size:=fun c hc q=>by
   simp only [Pu,Pw,or_false] at hc
   rcases hc with rfl | rfl
   ·exact hpe q.symm
   ·obtain⟨o,q',_⟩:=s1.get; exact absurd (Rh q') (by rw [q]; exact NZ _)
  refine⟨.ref s.heap.objs.size,_,I',rfl,⟨_,xs[i],rfl,I.fresh,rfl,fun xs' h=>by rw [Inv.sx_inj I h g1]; simp [l1]⟩,⟨⟨u,?_⟩,t1.1.keep fun o q=>sb.extBut _ _ n2.symm q⟩,fun c hc=>by rw [aE (ne c hc)]; exact(hf c hc).1⟩
  have ei:((i+1:Nat):Int)=(i:Int)+1:=by omega
  rw [ei]; exact he'
 done:=by
  intro X hP hw hK hc i pins s σ H E I hf ⟨⟨old,he⟩,s1⟩ hg
  subst hP hw hK
  obtain⟨xs,g1,l1⟩:=hg
  obtain⟨its,r1,q1,z1⟩:=Inv.sx I g1
  have hh:X.A.in1.handled=none:=I.ok.hd hc
  have el:i=its.toArray.size:=by rw [Of,<- r1.length]; exact l1
  refine wpAny_pyNext_enum_endD (nX (A:=X.A.in1) b hh it a n1 its.toArray) he ⟨by rw [<- el]; exact s1,q1⟩ fun g kp=>⟨rfl,Inv.turned0 (ch:=[e,it]) I hf fun c o hc q=>?_⟩
  simp only [Pu,Pw,or_false,not_or] at hc
  exact kp c o hc.2 q
 self:=fun _ _ _ _ _ ⟨⟨old,he⟩,_⟩ h=>wpAny_pyIter_enum he h
def gJ (i:Nat):List D->List D
 | []=>[]
 | x::xs=>.tup [.int i,x]::gJ (i+1) xs
theorem lH:∀ (i:Nat) (xs:List D),(gJ i xs).length=xs.length
 | _,[]=>rfl
 | i,x::xs=>by rw [gJ,Oh,lH (i+1) xs,Oh]
theorem uR:∀ {xs:List D} {k i:Nat} {d:D},(gJ k xs)[i]?=some d->∃ x,xs[i]?=some x/\d=.tup [.int ((k+i:Nat):Int),x]
 | [],k,i,d,h=>by simp [gJ] at h
 | x::xs,k,0,d,h=>by
  rw [gJ,Px] at h
  cases h
  exact⟨x,rfl,rfl⟩
 | x::xs,k,i+1,d,h=>by
  rw [gJ,Py] at h
  obtain⟨y,h1,h2⟩:=uR h
  refine⟨y,by rw [Py]; exact h1,?_⟩
  rw [h2]
  congr 4
  omega
theorem Ci {K:QN} {Hd:Hp} {b:Bool} {a:RP} {ds:List D} {vs:List V} (h1:SX K b Hd a vs) (g1:aZ K Hd ds vs):Walk K Hd (Nm K b a) (gJ 0 ds):=fun Hn O' i hO sm =>
  have s':bj Hd Hn:=sm.trans (aD Hn O')
  ⟨fun d e=>by
    obtain⟨x,e1,rfl⟩:=uR e
    have l1:i < ds.length:=(List.getElem?_eq_some_iff.mp e1).1
    obtain⟨v,ev,dv⟩:=g1.get e1
    refine⟨⟨vs,h1.same s',by rw [<- g1.length]; exact l1⟩,fun u H2 ⟨p,x',eu,hp,eH,q1⟩=>?_⟩
    have z1:=q1 vs (h1.same s')
    rw [ev] at z1; cases z1
    subst eH eu
    rw [PD]
    exact⟨bF hp _,eW hO hp (bz.mpr ⟨.int i,_,rfl,fN.mpr rfl,bz.mpr ⟨v,_,rfl,dv.mono sm,dh.mpr rfl⟩⟩)⟩,
   fun hl=>by
    rw [lH] at hl
    exact⟨vs,h1.same s',by rw [<- g1.length]; exact hl⟩⟩
def vU:List D->Option (List D)
 | [a]=>(Fj a).bind fun x=>some (gJ 0 x.2)
 | _=>none
def e7 (f:aq->R (List D)):aq->R (List D):=fun ρ=>(f ρ).bind fun ds=>rO (vU ds)
section
variable {X:Cx}
theorem Cj {prog:RO} {w:RN} {A:RZ} {E:RM->R0->Prop} {s:R0} {b:Bool} {l:RP} {xs:Array RM} {Q:RM->R0->Prop} (h1:SQ b s.heap l xs)
  (h:∀ g,IsEnum g (s.heap.objs.size+1) s.heap.objs.size 0 .none->SI b g s.heap.objs.size l 0->(∀ c o,s.heap.get? c=some o->g.get? c=some o)->Q (.ref (s.heap.objs.size+1)) { s with heap:=g }):R3 (model prog w) A (call (.type "enumerate") [.ref l]) Q E s:=by
 refine callType_new F.called_enumerate (by decide) (F.typeCall_enumerate_1 _) (F.newCall_enumerate_1 _) (fun obj=>F.args_object_init_2 obj _) F.entry_enumerate_new (B5 b l xs) ⟨h1,?_⟩
 have z1:(CU b s.heap l).objs.size=s.heap.objs.size+1:=Rn ..
 have g2:=Rm (CU b s.heap l) (o:={ cls:=.type "enumerate",data:=.fields #[.none,.bool false,.ref s.heap.objs.size,rawInt 0,.none,.none] }) rfl
 have g1:SI b ((CU b s.heap l).push { cls:=.type "enumerate",data:=.fields #[.none,.bool false,.ref s.heap.objs.size,rawInt 0,.none,.none] }) s.heap.objs.size l 0:=SI.keep SI.new fun o e=>Rl _ e
 show _/\_
 rw [z1] at g2 ⊢
 exact⟨⟨_,g2,rfl⟩,h _ g2 g1 fun c o e=>Rl _ (Rl _ e)⟩
theorem FC {pins:List (RP×Obj)} {s:R0} {σ:St} {H:Hp} {O:List RP} {es:List R4} {k:Nat} {tpos:Pos} {ds r:List D} {vs:List V} {us:List RM} {RR:It->Hp->Prop} (I:Inv X pins σ H s) (hc:vU ds=some r) (d1:aZ X.K (hid H O) ds vs) (rv:Vals vs us) (q:∀ J,Walk X.K (hid H O) J r->RR J H) :
  R3 (model X.prog X.w) X.A (call (.type "enumerate") us) (fun v s1=>R3 (model X.prog X.w) X.A (pyIter v) (PIE X pins σ (.Tuple es k tpos) RR) X.xe s1) X.xe s:=by
 unfold vU at hc
 split at hc
 ·rename_i a
  obtain⟨⟨b1,xs⟩,e1,hc⟩:=bind_some hc
  cases hc
  obtain⟨va,rfl,da⟩:=d1.one
  obtain⟨u1,rfl,r1⟩:=vals1 rv
  obtain⟨a1,ws1,rfl,x1,y1⟩:=sA e1 da
  cases r1
  obtain⟨its1,rr1,q1,_⟩:=Inv.sx I (x1.same (aD H O))
  refine Cj q1 fun g he s1 kp=>wpAny_pyIter_enum he ?_
  refine⟨_,_,_,_,H,rfl,I.kept (t':=s.toks) kp,Ce (b:=b1) (N0 q1.lt) (N9 (PC (by decide))) (N9 (NY q1.lt (Pz _ 1))),⟨⟨_,he⟩,s1⟩,fun b hb=>?_,q _ (Ci x1 y1)⟩
  have le:s.heap.objs.size<=b:=by
   simp only [Pu,Pw,or_false] at hb
   rcases hb with rfl | rfl
   ·exact Pz _ _
   ·exact Oa _
  exact I.fpOk le (I.hok.fresh le)
 ·cases hc
theorem FK {a:R4} {es:List R4} {k:Nat} {tpos:Pos} {f:aq->R (List D)} {p pos:Pos} (hg:Gl X "enumerate") (hm:X.mg "enumerate"=none) (ha:FA X [a] f) (hs:R5 [a] X.env=(false,eval a X.env)::R5 [] X.env:=by rfl) (hpl:(backTo pos (R5 [] X.env)).any (·.1)=false:=by rfl):FI X (.Tuple es k tpos) (.Call (.Name "enumerate" p) [a] [] pos) (e7 f):=by
 intro pins s σ H RR I ⟨O,ρ,E,hG⟩
 have hA:=ha pos pins s σ H (fun vs H1=>∃ ds r,vU ds=some r/\aZ X.K (hid H1 O) ds vs/\∀ J,Walk X.K (hid H1 O) J r->RR J H1) I ⟨O,ρ,E,(jF.bind hG).imp fun ds hG vs H1 s1 d1=>by
  obtain⟨r,e,q⟩:=jF.rO hG
  exact⟨ds,r,e,d1,fun J wk=>q J H1 s1 wk⟩⟩
 refine Ry (mj I hg hm PyProof.Rows.boot_enumerate (Ru (eX hA fun us s1 ⟨vs,H1,I1,r1,ds,r,er,d1,q⟩=>?_) hs hpl))
 exact FC I1 er d1 r1 q
end
end TG
namespace TG
open PySem PySem.Spec L2
variable [aV]

theorem uQ {K:QN} {c:Str} {C C':RP} (h:clsAt K c C) (h':clsAt K c C'):C=C':=by
 unfold clsAt at h h'
 rw [h] at h'
 cases h'; rfl
theorem tq {K:QN} {H:Hp} {f:Str}:∀ {fs:List Str} {ds:List D} {vs:List V} {d:D},aZ K H ds vs->(fs.zip ds).lookup f=some d->∃ v,(fs.zip vs).lookup f=some v/\cN K H d v
 | [],_,_,_,_,e=>by simp at e
 | _::_,[],_,_,_,e=>by simp at e
 | g::fs,x::ds,vs,d,h,e=>by
  rw [bz] at h
  obtain⟨v,r,rfl,h1,h2⟩:=h
  rw [PF,OU] at e ⊢
  cases hg:f==g with
  | true=>rw [hg] at e; cases e; exact⟨v,rfl,h1⟩
  | false=>rw [hg] at e; exact tq h2 e
theorem vx {f:Str}:∀ {fs:List Str} {vs:List V},fs.contains f=false->(fs.zip vs).lookup f=none
 | [],_,_=>by simp
 | _::_,[],_=>by simp
 | g::fs,x::vs,h=>by
  rw [PH,PJ] at h
  rw [PF,OU,h.1]
  exact vx h.2
def GC (f:Str) (cs:List Str) (d:D):Option D:=match d with
 | .obj c fs vs=>if cs.contains c then (fs.zip vs).lookup f else none
 | _=>none
def AX (K:QN) (f:Str) (cs:List Str):Prop:=∀ c∈cs,∀ C,clsAt K c C->yX K C/\lm K C f
section
variable {X:Cx} {a o e:R4} {es:List R4} {fa fo:FX} {fas:aq->R (List D)} {f m x:Str} {cs:List Str} {pos apos p:Pos} {k k':Nat} {ps:List Str}
theorem LD (ok:AX X.K f cs) (h:FE X a fa) (hb:Su a f X.env (eval a X.env)=eval a X.env:=by rfl):FE X (.Attribute a f pos) (f1 (GC f cs) fa) :=
 PE.weak (IR h hb) fun σ H Q ⟨O,ρ,E,hF⟩=>⟨O,ρ,E,(jF.bind hF).imp fun d hF v H1 s1 d1=>by
  obtain⟨r,e,q⟩:=jF.rO hF
  cases d with
  | obj c fs vs =>
   have e':(if cs.contains c then (fs.zip vs).lookup f else none)=some r:=e
   cases hc:cs.contains c with
   | false=>rw [hc] at e'; cases e'
   | true =>
    rw [hc] at e'
    obtain⟨a,ws,ev,g1,g2,C,dx,g3,g4⟩:=KJ.mp d1
    obtain⟨w,l1,l2⟩:=tq g1 e'
    obtain⟨cl,na⟩:=ok c (List.contains_iff_mem.mp hc) C g3
    exact⟨a,C,dx,_,w,ev,aD H1 O _ _ g4,cl,na,l1,q w H1 s1 l2⟩
  | _=>cases e⟩
def MethAt (P:RO) (w:RN) (K:QN) (mg:Str->Option RM) (base:RT) (k:Nat) (c m:Str) (ps:List Str) (g:List D->R D):Prop :=
 ∃ C f fd,clsAt K c C/\yX K C/\Meth K C m f/\jE P w K mg base (oa P w) k f fd ps (CQ K ps.length g)/\Binds K fd ps []
def dR (m:Str) (tbl:List (Str×(List D->R D))) (fo:FX) (fas:aq->R (List D)):FX:=fun ρ=>(fo ρ).bind fun o=>match o with
 | .obj c fs vs=>match tbl.lookup c with
  | some g=>if fs.contains m then un else (fas ρ).bind fun as=>g (o::as)
  | none=>un
 | _=>un
def eO (P:RO) (w:RN) (K:QN) (mg:Str->Option RM) (base:RT) (k:Nat) (m:Str) (ps:List Str) (tbl:List (Str×(List D->R D))):Prop :=
 ∀ c g,tbl.lookup c=some g->MethAt P w K mg base k c m ps g/\Ar ps.length g
theorem iV {P:RO} {w:RN} {K:QN} {mg:Str->Option RM} {base:RT}:eO P w K mg base k m ps []:=fun _ _ h=>nomatch h
theorem cF {P:RO} {w:RN} {K:QN} {mg:Str->Option RM} {base:RT} {c:Str} {g:List D->R D} {tbl:List (Str×(List D->R D))} (h:MethAt P w K mg base k c m ps g) (hn:Ar ps.length g) (t:eO P w K mg base k m ps tbl):eO P w K mg base k m ps ((c,g)::tbl):=fun c' g' e=>by
 rw [OU] at e
 cases hc:c'==c with
 | true =>
  rw [hc] at e
  cases e
  have:c'=c:=by simpa using hc
  subst this
  exact⟨h,hn⟩
 | false=>rw [hc] at e; exact t c' g' e
theorem MethAt.mono {P:RO} {w:RN} {K:QN} {mg:Str->Option RM} {base:RT} {c:Str} {g:List D->R D} (h:MethAt P w K mg base k c m ps g) (hk:k<=k'):MethAt P w K mg base k' c m ps g:=by
 obtain⟨C,f,fd,h1,h2,h3,h4,h5⟩:=h
 exact⟨C,f,fd,h1,h2,h3,h4.mono hk,h5⟩
theorem Ds {tbl:List (Str×(List D->R D))} {args:List R4} {pl:Sem Bool} (tb:eO X.prog X.w X.K X.mg X.base k m ps tbl) (hr:fX k X.A) (ho:FE X o fo)
  (hc:∀ (pins:List (RP×Obj)) (s1:R0) (σ:St) (H1:Hp) (O:List RP) (ρ:aq) (a f:RP) (od:D) (Q:VK) (g:List D->R D) (fd:Sz) (w0:V),QZ X.K (.ref f)=true->jE X.prog X.w X.K X.mg X.base (oa X.prog X.w) k f fd ps (CQ X.K ps.length g)->Binds X.K fd ps []->Ar ps.length g->Inv X pins σ H1 s1->dZ X.K O H1 ρ σ->cN X.K (hid H1 O) od (.ref a) ->
   (jF X σ O H1 ((fas ρ).bind fun as=>g (od::as)) fun d=>∀ v H',bj H1 H'->cN X.K (hid H' O) d v->Q v H') ->
   R3 (model X.prog X.w) X.A (Sv pos (.ref f) [.ref a] (backTo pos (R5 args X.env)) (backToKw pos (Sw [] X.env))) (EP X pins σ Q) X.xe s1)
  (ht:eval (.Call (.Attribute o m apos) args [] pos) X.env=(do
   let ov <- eval o X.env
   standAt apos.atName
   let (f,first) <- holding [ov] (getMethod ov m pl)
   Sv pos f first (backTo pos (R5 args X.env)) (backToKw pos (Sw [] X.env)))) :
  FE X (.Call (.Attribute o m apos) args [] pos) (dR m tbl fo fas):=by
 intro pins s σ H Q I ⟨O,ρ,E,hF⟩
 refine yz ho I ?_ ht
 refine⟨O,ρ,E,(jF.bind hF).imp fun d hF v H1 s1 d1=>?_⟩
 cases d with
 | obj c fs vs =>
  have hF':jF X σ O H (match tbl.lookup c with | some g=>if fs.contains m then un else (fas ρ).bind fun as=>g (.obj c fs vs::as) | none=>un) _:=hF
  cases hg:tbl.lookup c with
  | none=>rw [hg] at hF'; exact hF'.elim
  | some g =>
   rw [hg] at hF'
   have hF2:jF X σ O H (if fs.contains m then un else (fas ρ).bind fun as=>g (.obj c fs vs::as)) _:=hF'
   cases hm:fs.contains m with
   | true=>rw [hm] at hF2; exact hF2.elim
   | false =>
    rw [hm] at hF2
    have hF3:jF X σ O H ((fas ρ).bind fun as=>g (.obj c fs vs::as)) _:=hF2
    have d0:=d1
    obtain⟨a,ws,ev,g1,g2,C,dx,g3,g4⟩:=KJ.mp d1
    obtain⟨⟨C',f,fd,m1,m2,m3,m4,m5⟩,ar⟩:=tb c g hg
    have eC:=uQ g3 m1
    subst eC
    subst ev
    refine⟨a,C,dx,_,f,rfl,aD H1 O _ _ g4,m2,m3,vx hm,fun s2 I2=>?_⟩
    exact hc pins s2 σ H1 O ρ a f _ Q g fd (.ref a) m3.kp m4 m5 ar I2 (E.same s1) d0 ((hF3.mono s1).imp fun d q v H2 s2 d2=>q v H2 (s1.trans s2) d2)
 | _=>exact hF.elim
theorem Ag {σ:St} {O:List RP} {H:Hp} {g:List D->R D} {ds:List D} {vs:List V} {Q:VK} {n:Nat} (ar:Ar n g) (hO:eB H O) (d1:aZ X.K (hid H O) ds vs) (h:jF X σ O H (g ds) fun d=>∀ v H',bj H H'->cN X.K (hid H' O) d v->Q v H'):∃ E,mF (oa X.prog X.w) X σ E/\CQ X.K n g vs H Q E:=by
 cases hg:g ds with
 | ok d =>
  rw [hg] at h
  refine⟨E0,A2,O,ds,by rw [<- d1.length]; exact ar ds (by rw [hg]; intro z; cases z),hO,d1,?_⟩
  rw [hg]; exact h
 | error z =>
  rw [hg] at h
  cases z with
  | none=>exact h.elim
  | some x =>
   refine⟨Bc X O H x,AY h,O,ds,by rw [<- d1.length]; exact ar ds (by rw [hg]; intro z; cases z),hO,d1,?_⟩
   rw [hg]; exact yk
theorem Lc {tbl:List (Str×(List D->R D))} {pl:Sem Bool} (tb:eO X.prog X.w X.K X.mg X.base k m ps tbl) (hr:fX k' X.A) (hk:k<=k') (ho:FE X o fo) (ha:FA X (e::es) fas)
  (hns:(e::es).all noStar=true:=by rfl)
  (ht:eval (.Call (.Attribute o m apos) (e::es) [] pos) X.env=(do
   let ov <- eval o X.env
   standAt apos.atName
   let (f,first) <- holding [ov] (getMethod ov m pl)
   Sv pos f first (backTo pos (R5 (e::es) X.env)) (backToKw pos (Sw [] X.env))):=by rfl) :
  FE X (.Call (.Attribute o m apos) (e::es) [] pos) (dR m tbl fo fas) :=
 Ds tb (hr.mono hk) ho (fun pins s1 σ H1 O ρ a f od Q g fd _ kp F b ar I1 E1 dO hP=>by
  refine Q0 (first:=[.ref a]) (h₀:=X.base) I1.ok.mod.kin kp (eX (ha pos pins s1 σ H1 _ I1 ⟨O,ρ,E1,(jF.bind hP).imp fun as hP vs H2 s2 d2=>Ag (vs:=.ref a::vs) ar (E1.all.same s2) (bz.mpr ⟨_,_,rfl,dO.mono (bX s2),d2⟩) ((hP.mono s2).imp fun d q v H3 s3 d3=>q v H3 (s2.trans s3) d3)⟩) fun us s2 ⟨vs,H2,I2,r,Ex,hx,q2⟩=>⟨I2.kIn,?_⟩) (dj (OD _ _ ▸ hns).1) (gz (OD _ _ ▸ hns).2)
  exact AU (us:=.ref a::us) (vs:=.ref a::vs) F (hr.mono hk) b hx I2 (.cons rfl r) q2) ht
theorem ce {P:RO} {w:RN} {K:QN} {mg:Str->Option RM} {base:RT} {c y qual:Str} {C f:RP} {fd:Sz} {st:R6} {N:List Str} {B:cn} (h1:clsAt K c C) (h2:yX K C) (h3:Meth K C m f) (F:wj K y qual st f fd) (b:Binds K fd ps []) (SC:aU N ps (ax st)) (hb:BodyOk P w K mg base k N qual st f B) :
  MethAt P w K mg base (k+1) c m ps (aN B ps.length N.length):=⟨C,f,fd,h1,h2,h3,xi F SC hb,b⟩
def NN (C:RP) (fs:List Str):Sp:=fun vs H Q _=>∃ x dx as,vs=.ref x::as/\as.length=fs.length/\H x=some (.ins C dx [])/\Q .non (upd H x (.ins C dx (fs.zip as)))
def tD (P:RO) (w:RN) (K:QN) (mg:Str->Option RM) (base:RT) (k:Nat) (c:Str) (ps fs:List Str):Prop :=
 ∃ C f fd,clsAt K c C/\Mk K C f/\jE P w K mg base (oa P w) k f fd ps (NN C fs)/\Binds K fd ps []/\mg c=some (.ref C)
def fNew (c:Str) (fs:List Str) (fas:aq->R (List D)):FX:=fun ρ=>(fas ρ).bind fun as=>if as.length=fs.length then .ok (.obj c fs as) else un
theorem ye {K:QN} {H1:Hp} {O:List RP} {c:Str} {fs:List Str} {as:List D} {vs:List V} {C x dx:RP} (hc:clsAt K c C) (hl:as.length=fs.length) (d1:aZ K (hid H1 O) as vs) (hO:eB H1 O) (hx:H1 x=none) (hd:H1 dx=none) (ne:dx≠x) :
  bj H1 (upd (upd (upd H1 dx (.own x)) x (.ins C dx [])) x (.ins C dx (fs.zip vs)))/\cN K (hid (upd (upd (upd H1 dx (.own x)) x (.ins C dx [])) x (.ins C dx (fs.zip vs))) O) (.obj c fs as) (.ref x):=by
 have sm:bj H1 (upd (upd (upd H1 dx (.own x)) x (.ins C dx [])) x (.ins C dx (fs.zip vs))):=fun b o h=>by
  have n1:=aX h hx
  have n2:=aX h hd
  rw [aE n1,aE n1,aE n2]; exact h
 exact⟨sm,KJ.mpr ⟨x,vs,rfl,d1.mono (bX sm),by rw [<- d1.length,hl],C,dx,hc,by rw [jX (hO.not hx),aL]⟩⟩
theorem JV {X:Cx}:zM (oa X.prog X.w) X E0:=fun _ _ _ _ _ _ _ h=>by
 obtain⟨_,_,_,_,_,_,_,_,_,_,_,_,_,z⟩:=h
 exact z.elim
theorem M1 {c:Str} {fs:List Str} (IA:tD X.prog X.w X.K X.mg X.base k c ps fs) (hr:fX k' X.A) (hk:k+1<=k') (hg:Gl X c) (ha:FA X (e::es) fas) (hdb:(c==("__debug__":Str))=false:=by decide)
  (hns:(e::es).all noStar=true:=by rfl):FE X (.Call (.Name c p) (e::es) [] pos) (fNew c fs fas):=by
 obtain⟨C,f,fd,h1,h2,h3,h4,h5⟩:=IA
 refine PE.weak (Fd (dvs:=[]) (E:=E0) h2 h3 (hr.mono hk) hg h5 h4 .nil JV ha hdb (dj (OD _ _ ▸ hns).1) (gz (OD _ _ ▸ hns).2)) fun σ H Q ⟨O,ρ,E,hF⟩=>⟨O,ρ,E,(jF.bind hF).imp fun as hF vs H1 s1 d1 x dx hx hd ne=>?_⟩
 by_cases hl:as.length=fs.length
 ·rw [if_pos hl] at hF
  rw [Oo]
  refine⟨x,dx,vs,rfl,by rw [<- d1.length,hl],by rw [aL],rfl,?_⟩
  obtain⟨sm,dn⟩:=ye h1 hl d1 (E.all.same s1) hx hd ne
  exact hF _ _ (s1.trans sm) dn
 ·rw [if_neg hl] at hF; exact hF.elim
theorem xI (f:Str) (v:V):∀ {fs:List (Str×V)},(fs.map (·.1)).contains f=false->lU f v fs=fs++[(f,v)]
 | [],_=>rfl
 | (g,w)::fs,h=>by
  rw [Oi,PH,PJ] at h
  have ne:¬ g=f:=fun z=>by
   have:=h.1
   rw [z] at this
   simp at this
  have:=xI f v (fs:=fs) h.2
  unfold lU
  simp only [ne,if_false,this,OY]
def GV (X:Cx) (cs:List Str) (body:List R6) (fs:List Str) (i:Nat):Prop :=
 ∃ t,x4 X body t/\∀ (D:Ends) (σ:St) (H:Hp) (x dx C:RP) (done:List (Str×V)) (as:List V),σ[0]?=some (some (.ref x))->(∀ j v,as[j]?=some v->σ[i+j]?=some (some v))->as.length=fs.length->yX X.K C->(∀ f∈fs,lm X.K C f)->done.length+fs.length < 1000->(done.map (·.1)++fs).Nodup->H x=some (.ins C dx done) ->
  D.nx σ (upd H x (.ins C dx (done++fs.zip as)))->t D σ H
theorem CO {st:R6} {f:Str} {i:Nat} {o v:R4} {p1 p2:Pos} (hst:st=.Assign [.Attribute o f p1] v p2) (ho:PE X o (tJ 0)) (hv:PE X v (tJ i)) (hs:swapsWith v (some (.Attribute o f p1)) p2.line X.env=pure false):GV X cs [st] [f] i:=by
 subst hst
 refine⟨_,A4 (Ij ho hv hs),fun D σ H x dx C done as h0 ha hl cl na hz nd hx q=>?_⟩
 obtain⟨a,rfl⟩:∃ a,as=[a]:=by
  match as,hl with
  | [a],_=>exact⟨a,rfl⟩
 refine⟨a,ha 0 a rfl,.ref x,h0,x,C,dx,done,rfl,hx,cl,na f (List.mem_singleton.mpr rfl),by simp at hz; omega,?_⟩
 rw [xI f a (by
  have:=nd
  rw [PK] at this
  have h3:=this.2.2
  cases hc:(done.map (·.1)).contains f with
  | false=>rfl
  | true=>exact absurd rfl (h3 f (List.contains_iff_mem.mp hc) f (List.mem_singleton.mpr rfl)))]
 exact q
theorem Bw {P:RO} {w:RN} {K:QN} {mg:Str->Option RM} {base:RT} {c qual:Str} {C f:RP} {fd:Sz} {st:R6} {fs:List Str} (h1:clsAt K c C) (hM:Mk K C f) (cl:yX K C) (na:∀ g∈fs,lm K C g) (F:wj K "__init__" qual st f fd) (b:Binds K fd ps []) (hmg:mg c=some (.ref C)) (SC:aU ps ps (ax st)) (hps:ps.length=fs.length+1) (hnd:fs.Nodup) (hlen:fs.length < 1000)
  (hb:∀ (cdv:RM) (A:RZ) (outer:List Env) (s:R0) (H:Hp) (E:XK),GV (jW K8 P w K mg base ps qual (ax st) f cdv A outer s H E).nox [] (fg st) fs 1):tD P w K mg base (k+1) c ps fs:=by
 refine⟨C,f,fd,h1,hM,?_,b,hmg⟩
 refine jE.any (F.ok SC (fun vs H Q E h=>?_) fun cdv A outer s H vs Q E hr h=>?_)
 ·obtain⟨x,dx,as,rfl,hl,_⟩:=h
  rw [Oh,hl,hps]
 ·obtain⟨t,ht,hq⟩:=hb cdv A outer s H E
  obtain⟨x,dx,as,rfl,hl,hx,q⟩:=h
  have hst:L2.start ps (.ref x::as)=(.ref x::as).map some:=by
   unfold L2.start
   rw [Oh,hl,hps,PL,PN,Oo]
  refine⟨t,ht,hq _ _ H x dx C [] as (by rw [hst]; rfl) (fun j v e=>?_) hl cl na (by simpa using hlen) (by simpa using hnd) hx q⟩
  rw [hst,Nat.add_comm,Oi,Py,Oy,e]; rfl
end
end TG
namespace TG
open PySem PySem.Spec L2
variable [aV]
section
variable {X:Cx}
def NB:D->Option Str
 | .str z=>some z
 | _=>none
def Lr (a b:D):Option D:=match a,b with
 | .bl c,.bl d=>some (.bl (c==d))
 | _,_=>none
def jR (a b:D):Option D:=match a,b with
 | .bl c,.bl d=>some (.bl (!(c==d)))
 | _,_=>none
theorem n0:lX X (Sn .IsNot) (rD X.K jR):=by
 intro pins s σ H x y u v Q I rx ry ⟨O,a,b,d,hO,ha,hb,hg,q⟩
 cases a with
 | bl i =>
  cases b with
  | bl j =>
   cases hg
   rw [mJ.mp ha] at rx
   rw [mJ.mp hb] at ry
   cases rx
   cases ry
   exact PyProof.Rows.isnot_bool ⟨.bl _,H,I,rfl,q _ H (bj.refl H) (mJ.mpr rfl)⟩
  | _=>cases hg
 | _=>cases hg
end
section
variable {X:Cx} {C:RP} {pins:List (RP×Obj)} {σ:St} {H:Hp} {s:R0} {Q:VK}
end
end TG
namespace TG
open PySem PySem.Spec PyProof.Rows L2
variable [aV]
def eI:List D->List D->Option Bool
 | [],[]=>some false
 | [],_::_=>some true
 | _::_,[]=>some false
 | a::as,b::bs=>match a,b with
  | .int i,.int j=>if i=j then eI as bs else some (decide (i < j))
  | .str x,.str y=>if x=y then eI as bs else some (decide (x.cps.toList < y.cps.toList))
  | _,_=>none
inductive gI:List RM->List D->Prop where
 | nil:gI [] []
 | int (i:Int) (t:Tok) {vs:List RM} {ds:List D} (h:gI vs ds):gI (.int i t::vs) (.int i::ds)
 | str (x:Str) (t:Tok) {vs:List RM} {ds:List D} (h:gI vs ds):gI (.str x t::vs) (.str x::ds)
theorem gI.length:∀ {vs:List RM} {ds:List D},gI vs ds->vs.length=ds.length
 | _,_,.nil=>rfl
 | _,_,.int _ _ h=>by rw [Oh,Oh,h.length]
 | _,_,.str _ _ h=>by rw [Oh,Oh,h.length]
theorem G6 (A:RZ) (s:R0) (a:Int) (t:Tok) (c:Int) (u:Tok):∃ e,SeqAt.EqAt A s (.int a t) (.int c u) e/\(e=true↔a=c) :=
 ⟨(a==c),SeqAt.EqAt.int_int a t c u,by simp⟩
theorem G1 (A:RZ) (s:R0) (a:Str) (t:Tok) (c:Str) (u:Tok):∃ e,SeqAt.EqAt A s (.str a t) (.str c u) e/\(e=true↔a=c) :=
 ⟨(a==c),SeqAt.EqAt.str_str a t c u,by simp⟩
theorem Kr (A:RZ) (s:R0) (a:Str) (t:Tok) (c:Str) (u:Tok) (prog:RO) (w:RN) (E:RM->R0->Prop) (Q:RM->R0->Prop) (h:Q (.bool (decide (a.cps.toList < c.cps.toList))) s) :
  R3 (model prog w) A (richCompare .Lt (.str a t) (.str c u)) Q E s :=
 (PySem.P.lt_str h:R3 (model prog w) A (Sn .Lt (.str a t) (.str c u)) Q E s)
section
open PySem.SeqAt
open PySem.AutoSeq1 (wpAny_loadPart')
open PySem.MeetsSeq PySem.MeetsSeq2 PySem.MeetsSeq3
set_option maxHeartbeats 1000000 in
theorem ur (l b:RP) (items items2:Array RM) (n n2:Nat) (dd dd2:Option RP) (sl sl2:Array (Option RM)) (ns ms:List D) (r:Bool) (hi:gI items.toList ns) (hj:gI items2.toList ms) (hr:eI ns ms=some r) :
  Meets (Builtin.«tuple.__lt__» ⟨[.ref l,.ref b],[]⟩)
   (fun _ R s=>s.heap.get? l=some { cls:=.type "tuple",dict:=dd,data:=.seq items n,slots:=sl }/\s.heap.get? b=some { cls:=.type "tuple",dict:=dd2,data:=.seq items2 n2,slots:=sl2 } /\
    R (.ok (.ret (.bool r))) s) :=
 .of_wp fun prog w A R s h=>by
  obtain⟨hp,g,d,tk,os⟩:=s; obtain⟨hl,hb,h⟩:=h
  have f2:=AutoSeq1.sub_tuple_tuple
  have z1:items.size=ns.length:=by rw [<- hi.length]; simp
  have z2:items2.size=ms.length:=by rw [<- hj.length]; simp
  wp_walk using wpAny_loadPart' hl,wpAny_loadPart' hb,wpAny_forIn_list _ (fun rest b s'=>b.1=none/\s'=⟨hp,g,d,tk,os⟩/\∃ (vs ws:List RM) (ns' ms':List D),rest=vs.zip ws /\
   gI vs ns'/\gI ws ms'/\ns'.length+items2.size=ms'.length+items.size/\eI ns' ms'=some r/\R (.ok (.ret (.bool r))) ⟨hp,g,d,tk,os⟩) _
  case turn =>
   rintro⟨y,x⟩ rest b s' ⟨hb',rfl,vs,ws,ns',ms',hz,hvi,hwi,hlen,hL,hR⟩
   cases hvi with
   | nil=>rw [List.zip_nil_left] at hz; cases hz
   | int a t hvi' =>
    cases hwi with
    | nil=>rw [PP] at hz; cases hz
    | str c u hwi'=>cases hL
    | int c u hwi' =>
     rw [PF] at hz
     injection hz with hyx hrest
     injection hyx with hy hx
     subst hy hx
     have hL':(if a=c then eI _ _ else some (decide (a < c)))=some r:=hL
     simp only [Oh] at hlen
     obtain⟨e,he,hiff⟩:=G6 A.in1 ⟨hp,g,d,tk,os⟩ a t c u
     refine Se (he prog w _ _ ?_)
     cases e with
     | true =>
      rw [if_pos (hiff.mp rfl)] at hL'
      wp_walk
      exact⟨rfl,rfl,_,_,_,_,hrest,hvi',hwi',by omega,hL',hR⟩
     | false =>
      rw [if_neg (fun q=>absurd (hiff.mpr q) Og)] at hL'
      cases hL'
      have hri:=HT.Kf A.in1 ⟨hp,g,d,tk,os⟩ a t c u prog w
      wp_walk using hri
      exact⟨_,rfl,by simpa using hR⟩
   | str a t hvi' =>
    cases hwi with
    | nil=>rw [PP] at hz; cases hz
    | int c u hwi'=>cases hL
    | str c u hwi' =>
     rw [PF] at hz
     injection hz with hyx hrest
     injection hyx with hy hx
     subst hy hx
     have hL':(if a=c then eI _ _ else some (decide (a.cps.toList < c.cps.toList)))=some r:=hL
     simp only [Oh] at hlen
     obtain⟨e,he,hiff⟩:=G1 A.in1 ⟨hp,g,d,tk,os⟩ a t c u
     refine Se (he prog w _ _ ?_)
     cases e with
     | true =>
      rw [if_pos (hiff.mp rfl)] at hL'
      wp_walk
      exact⟨rfl,rfl,_,_,_,_,hrest,hvi',hwi',by omega,hL',hR⟩
     | false =>
      rw [if_neg (fun q=>absurd (hiff.mpr q) Og)] at hL'
      cases hL'
      have hri:=Kr A.in1 ⟨hp,g,d,tk,os⟩ a t c u prog w
      wp_walk using hri
      exact⟨_,rfl,by simpa using hR⟩
  case fin =>
   rintro⟨b1,b2⟩ s' ⟨hb',rfl,vs,ws,ns',ms',hz,hvi,hwi,hlen,hL,hR⟩
   simp only at hb'
   subst hb'
   have hv:r=decide (items.size < items2.size):=by
    have l1:=hvi.length
    have l2:=hwi.length
    cases ns' with
    | nil =>
     cases ms' with
     | nil =>
      simp only [OO] at hlen
      cases hL
      exact(decide_eq_false ‹0›).symm
     | cons c u =>
      simp only [OO,Oh] at hlen
      cases hL
      exact(decide_eq_true ‹0›).symm
    | cons a t =>
     cases ms' with
     | nil =>
      simp only [OO,Oh] at hlen
      cases hL
      exact(decide_eq_false ‹0›).symm
     | cons c u =>
      have:=congrArg List.length hz
      simp only [OO,List.length_zip,l1,l2,Oh] at this
      omega
   rw [hv] at hR
   wp_walk
   exact⟨_,rfl,by simpa [Builtin.Tuple.tupleCompareSizes] using hR⟩
  case h =>
   exact⟨rfl,rfl,items.toList,items2.toList,ns,ms,rfl,hi,hj,by omega,hr,h⟩
end
section
variable {X:Cx}
theorem vP {α:Type} {c:Bool} {o:Option α} {a:α} (h:(if c then o else none)=some a):c=true/\o=some a:=by
 cases c with
 | true=>exact⟨rfl,h⟩
 | false=>cases h
theorem zH {prog:RO} {w:RN} {A:RZ} {E:RM->R0->Prop} {s:R0} {l b:RP} {items items2:Array RM} {ns ms:List D} {r:Bool} {Q:RM->R0->Prop} (hl:RV s.heap l items) (hb:RV s.heap b items2) (hi:gI items.toList ns) (hj:gI items2.toList ms) (hr:eI ns ms=some r)
  (hu:A.units < Sy) (h:Q (.bool r) s):R3 (model prog w) A (Sn .Lt (.ref l) (.ref b)) Q E s:=by
 obtain⟨⟨cls,dd,data,sl⟩,ho,hc,n,hd⟩:=id hl
 obtain⟨⟨cls2,dd2,data2,sl2⟩,ho2,hc2,n2,hd2⟩:=id hb
 simp only at hc hd hc2 hd2
 subst hc hd hc2 hd2
 exact richCompare_meets_room (op:=.Lt) ⟨_,ho,rfl⟩ ⟨_,ho2,rfl⟩ PySem.F.slot_tuple_lt PySem.F.entry_tuple_lt (PySem.F.args_tuple_lt_2 _ _) (ur l b items items2 n n2 dd dd2 sl sl2 ns ms r hi hj hr)
  ⟨ho,ho2,show Value.bool r≠Value.notImplemented/\Q (.bool r) s from ⟨(fun x=>nomatch x),h⟩⟩ hu
def qP:List D->Bool
 | []=>true
 | .int _::r=>qP r
 | .str _::r=>qP r
 | _=>false
theorem kI {K:QN} {H:Hp}:∀ {ds:List D} {vs:List V} {us:List RM},qP ds=true->aZ K H ds vs->Vals vs us->gI us ds
 | [],vs,us,_,h,r=>by
  rw [dh] at h
  subst h
  cases r
  exact .nil
 | d::ds,vs,us,hf,h,r=>by
  obtain⟨v,r',e,h1,h2⟩:=bz.mp h
  subst e
  cases r with
  | cons q1 q2 =>
   cases d with
   | int i =>
    rw [fN] at h1
    subst h1
    obtain⟨t,rfl⟩:=q1
    exact .int i t (kI hf h2 q2)
   | str x =>
    rw [fP] at h1
    subst h1
    obtain⟨t,rfl⟩:=q1
    exact .str x t (kI hf h2 q2)
   | _=>cases hf
def wA (a b:D):Option D:=match a,b with
 | .int i,.int j=>some (.bl (decide (i < j)))
 | .str x,.str y=>some (.bl (decide (x.cps.toList < y.cps.toList)))
 | .tup xs,.tup ys=>if qP xs && qP ys then (eI xs ys).bind fun r=>some (.bl r) else none
 | _,_=>none
theorem ud (hu:X.A.units+64 < Sy):lX X (Sn .Lt) (rD X.K wA):=by
 intro pins s σ H x y u v Q I rx ry ⟨O,a,b,d,hO,ha,hb,hg,q⟩
 cases a with
 | int i =>
  cases b with
  | int j =>
   cases hg
   exact Ka pins s σ H x y u v Q I rx ry ⟨i,j,fN.mp ha,fN.mp hb,q _ H (bj.refl H) (mJ.mpr rfl)⟩
  | _=>cases hg
 | str i =>
  cases b with
  | str j =>
   cases hg
   exact CJ pins s σ H x y u v Q I rx ry ⟨i,j,fP.mp ha,fP.mp hb,q _ H (bj.refl H) (mJ.mpr rfl)⟩
  | _=>cases hg
 | tup xs =>
  cases b with
  | tup ys =>
   obtain⟨h1,h2⟩:=vP hg
   obtain⟨r,e1,e2⟩:=bind_some h2
   cases e2
   rw [OD] at h1
   obtain⟨p,vs,ex,g1,g2⟩:=cB.mp ha
   obtain⟨p',vs',ey,g1',g2'⟩:=cB.mp hb
   subst ex ey
   cases rx
   cases ry
   obtain⟨its,r1,t1,_⟩:=I.tuple (bP (aD H O) g1)
   obtain⟨its2,r2,t2,_⟩:=I.tuple (bP (aD H O) g1')
   exact zH t1 t2 (kI h1.1 g2 r1) (kI h1.2 g2' r2) e1 ‹0› (DF I (q _ H (bj.refl H) (mJ.mpr rfl)) rfl)
  | _=>cases hg
 | _=>cases hg
end
end TG
namespace TG
open PySem PySem.Spec L2
variable [aV]
def lV (x:Str) (n:Int):Str:=if (n==1 || x.length==0)=true then x else ⟨(List.replicate n.toNat x.cps).foldl (·++·) #[]⟩
theorem foldl_size:∀ (n:Nat) (c a:Array Nat),((List.replicate n c).foldl (·++·) a).size=a.size+n*c.size
 | 0,_,a=>by simp
 | n+1,c,a=>by
  rw [PQ,PR,foldl_size n c,Array.size_append,Nat.succ_mul]; omega
theorem yH {x:Str} {n:Int} (h:1<=n):(lV x n).length=n.toNat*x.length:=by
 unfold lV
 split
 ·rename_i q
  rw [O9] at q
  rcases q with q | q
  ·have:n=1:=by simpa using q
   rw [this]; simp
  ·have:x.length=0:=by simpa using q
   rw [this]; simp
 ·show ((List.replicate n.toNat x.cps).foldl (·++·) #[]).size=n.toNat*x.cps.size
  rw [foldl_size]; simp
def yS (a b:D):Option D:=match a,b with
 | .int i,.int j=>ph (.int i) (.int j)
 | .str x,.int n=>if decide (1<=n/\n<=1000/\x.length<=1000) then some (.str (lV x n)) else none
 | _,_=>none
section
variable {X:Cx}
theorem wU:lX X (Sl .Mult) (rD X.K yS):=by
 intro pins s σ H x y u v Q I rx ry ⟨O,a,b,d,hO,ha,hb,hg,q⟩
 cases a with
 | int i =>
  cases b with
  | int j=>exact li pins s σ H x y u v Q I rx ry (ly (.int i) (.int j) d x y O H Q hO hg ha hb q)
  | _=>cases hg
 | str z =>
  cases b with
  | int n =>
   obtain⟨h1,h2⟩:=bE hg
   subst h2
   obtain⟨n1,n2,zl⟩:=of_decide_eq_true h1
   rw [fP] at ha
   rw [fN] at hb
   subst ha hb
   obtain⟨t,rfl⟩:=rx
   obtain⟨t',rfl⟩:=ry
   have zn:z.length*n.toNat<=1000*1000:=Nat.mul_le_mul zl ‹0›
   refine P.mul_str (by rw [decide_eq_false ‹0›,decide_eq_false ‹0›]; rfl) (fun _ _=>?_) (fun _ _=>?_) ?_
   ·have:(2 ^ 63 - 1:Int) / n>=(2 ^ 63 - 1) / 1000:=by
     rw [ge_iff_le,Int.le_ediv_iff_mul_le ‹0›]
     have h3:(2 ^ 63 - 1:Int) / 1000*n<=(2 ^ 63 - 1) / 1000*1000:=Int.mul_le_mul_of_nonneg_left n2 (by decide)
     have h4:(2 ^ 63 - 1:Int) / 1000*1000<=2 ^ 63 - 1:=by decide
     omega
    have h5:(2 ^ 63 - 1:Int) / 1000=9223372036854775:=by decide
    omega
   ·unfold Builtin.Str.tooLong
    rw [decide_eq_false]
    rw [Sr]; omega
   ·rw [if_neg ‹0›]
    have fin:∀ tk,EP X pins σ Q (.str (lV z n) tk) { s with toks:=s.toks+1 }/\EP X pins σ Q (.str (lV z n) tk) s:=fun tk=>⟨⟨.str (lV z n),H,I.tok _,⟨_,rfl⟩,q _ H (bj.refl H) (fP.mpr rfl)⟩,⟨.str (lV z n),H,I,⟨_,rfl⟩,q _ H (bj.refl H) (fP.mpr rfl)⟩⟩
    by_cases e:(n==1 || z.length==0)=true
    ·rw [if_pos e]
     have:lV z n=z:=by unfold lV; rw [if_pos e]
     rw [this] at fin
     exact(fin t).2
    ·rw [if_neg e]
     have e2:lV z n=⟨(List.replicate n.toNat z.cps).foldl (·++·) #[]⟩:=by unfold lV; rw [if_neg e]
     rw [e2] at fin
     refine⟨?_,(fin _).1⟩
     have rl:=yH (x:=z) (n:=n) ‹0›
     rw [e2] at rl
     rw [rl,Sr,Nat.mul_comm]; omega
  | _=>cases hg
 | _=>cases hg
end
end TG
namespace TG
open PySem PySem.Spec PyProof.Rows PySem.W L2
variable [aV]
theorem sr:∀ a:List Nat,¬ a < a
 | []=>PV _
 | x::xs=>fun h=>by
  rcases List.cons_lt_cons_iff.mp h with h | ⟨_,h⟩
  ·omega
  ·exact sr xs h
theorem mi:∀ {a b c:List Nat},a < b->b < c->a < c
 | _,_,[],_,h=>absurd h (PV _)
 | _,[],_::_,h,_=>absurd h (PV _)
 | [],_::_,_::_,_,_=>PX _ _
 | x::xs,y::ys,z::zs,h,h'=>by
  rw [PY] at h h' ⊢
  rcases h with h | ⟨e,h⟩ <;> rcases h' with h' | ⟨e',h'⟩
  ·exact .inl ‹0›
  ·exact .inl ‹0›
  ·exact .inl ‹0›
  ·exact .inr ⟨by omega,mi h h'⟩
theorem El:∀ a b:List Nat,a < b\/a=b\/b < a
 | [],[]=>.inr (.inl rfl)
 | [],_::_=>.inl (PX _ _)
 | _::_,[]=>.inr (.inr (PX _ _))
 | x::xs,y::ys=>by
  rw [PY,PY]
  rcases Nat.lt_trichotomy x y with h | h | h
  ·exact .inl (.inl h)
  ·rcases El xs ys with q | q | q
   ·exact .inl (.inr ⟨h,q⟩)
   ·exact .inr (.inl (by rw [h,q]))
   ·exact .inr (.inr (.inr ⟨h.symm,q⟩))
  ·exact .inr (.inr (.inl h))
theorem Do {x y:Str} (h:x.cps.toList=y.cps.toList):x=y:=by
 cases x; cases y
 congr 1
 exact Array.toList_inj.mp h
inductive Sh:List Bool->List D->Prop where
 | nil:Sh [] []
 | int (i:Int) {bs:List Bool} {ds:List D} (h:Sh bs ds):Sh (true::bs) (.int i::ds)
 | str (x:Str) {bs:List Bool} {ds:List D} (h:Sh bs ds):Sh (false::bs) (.str x::ds)
theorem Sh.length:∀ {σ:List Bool} {a:List D},Sh σ a->a.length=σ.length
 | _,_,.nil=>rfl
 | _,_,.int _ h=>by rw [Oh,Oh,h.length]
 | _,_,.str _ h=>by rw [Oh,Oh,h.length]
theorem rP:∀ {σ:List Bool} {a:List D},Sh σ a->qP a=true
 | _,_,.nil=>rfl
 | _,_,.int i h=>by
  unfold qP; exact rP h
 | _,_,.str i h=>by
  unfold qP; exact rP h
theorem o3 (i j:Int) (as bs:List D):eI (.int i::as) (.int j::bs)=if i=j then eI as bs else some (decide (i < j)):=by rw [eI]
theorem o7 (x y:Str) (as bs:List D):eI (.str x::as) (.str y::bs)=if x=y then eI as bs else some (decide (x.cps.toList < y.cps.toList)):=by rw [eI]
theorem DX:eI [] []=some false:=by rw [eI]
theorem lR:∀ {σ:List Bool} {a:List D},Sh σ a->eI a a=some false
 | _,_,.nil=>DX
 | _,_,.int i h=>by rw [o3,if_pos rfl]; exact lR h
 | _,_,.str x h=>by rw [o7,if_pos rfl]; exact lR h
theorem mU:∀ {σ:List Bool} {a b:List D},Sh σ a->Sh σ b->(eI a b=some true/\eI b a=some false/\a≠b)\/a=b\/(eI b a=some true/\eI a b=some false/\a≠b)
 | _,_,_,.nil,.nil=>.inr (.inl rfl)
 | _,_,_,.int i h,.int j h'=>by
  rw [o3,o3]
  by_cases e:i=j
  ·subst e
   rw [if_pos rfl,if_pos rfl]
   rcases mU h h' with ⟨q1,q2,q3⟩ | q | ⟨q1,q2,q3⟩
   ·exact .inl ⟨q1,q2,fun z=>q3 (by injection z)⟩
   ·exact .inr (.inl (by rw [q]))
   ·exact .inr (.inr ⟨q1,q2,fun z=>q3 (by injection z)⟩)
  ·rw [if_neg e,if_neg (fun z=>e z.symm)]
   rcases Int.lt_or_gt_of_ne e with q | q
   ·exact .inl ⟨by rw [decide_eq_true q],by rw [decide_eq_false ‹0›],fun z=>e (by injection z with z1; injection z1)⟩
   ·exact .inr (.inr ⟨by rw [decide_eq_true q],by rw [decide_eq_false ‹0›],fun z=>e (by injection z with z1; injection z1)⟩)
 | _,_,_,.str x h,.str y h'=>by
  rw [o7,o7]
  by_cases e:x=y
  ·subst e
   rw [if_pos rfl,if_pos rfl]
   rcases mU h h' with ⟨q1,q2,q3⟩ | q | ⟨q1,q2,q3⟩
   ·exact .inl ⟨q1,q2,fun z=>q3 (by injection z)⟩
   ·exact .inr (.inl (by rw [q]))
   ·exact .inr (.inr ⟨q1,q2,fun z=>q3 (by injection z)⟩)
  ·rw [if_neg e,if_neg (fun z=>e z.symm)]
   rcases El x.cps.toList y.cps.toList with q | q | q
   ·exact .inl ⟨by rw [decide_eq_true q],by rw [decide_eq_false fun z=>sr _ (mi q z)],fun z=>e (by injection z with z1; injection z1)⟩
   ·exact absurd (Do q) e
   ·exact .inr (.inr ⟨by rw [decide_eq_true q],by rw [decide_eq_false fun z=>sr _ (mi q z)],fun z=>e (by injection z with z1; injection z1)⟩)
theorem m9:∀ {σ:List Bool} {a b c:List D},Sh σ a->Sh σ b->Sh σ c->eI a b=some true->eI b c=some true->eI a c=some true
 | _,_,_,_,.nil,.nil,.nil,h,_=>by rw [DX] at h; cases h
 | _,_,_,_,.int i h,.int j h',.int k h'',q,q'=>by
  rw [o3] at q q' ⊢
  by_cases e:i=j
  ·subst e
   rw [if_pos rfl] at q
   by_cases e':i=k
   ·subst e'
    rw [if_pos rfl] at q' ⊢
    exact m9 h h' h'' q q'
   ·rw [if_neg e'] at q' ⊢
    exact q'
  ·rw [if_neg e] at q
   have q1:=of_decide_eq_true (Option.some.inj q)
   by_cases e':j=k
   ·subst e'
    rw [if_neg e,decide_eq_true q1]
   ·rw [if_neg e'] at q'
    have q2:=of_decide_eq_true (Option.some.inj q')
    rw [if_neg ‹0›,decide_eq_true ‹0›]
 | _,_,_,_,.str i h,.str j h',.str k h'',q,q'=>by
  rw [o7] at q q' ⊢
  by_cases e:i=j
  ·subst e
   rw [if_pos rfl] at q
   by_cases e':i=k
   ·subst e'
    rw [if_pos rfl] at q' ⊢
    exact m9 h h' h'' q q'
   ·rw [if_neg e'] at q' ⊢
    exact q'
  ·rw [if_neg e] at q
   have q1:=of_decide_eq_true (Option.some.inj q)
   by_cases e':j=k
   ·subst e'
    rw [if_neg e,decide_eq_true q1]
   ·rw [if_neg e'] at q'
    have q2:=of_decide_eq_true (Option.some.inj q')
    rw [if_neg (show ¬ i=k from fun z=>by rw [z] at q1; exact sr _ (mi q1 q2)),decide_eq_true (mi q1 q2)]
theorem xO {σ:List Bool} {a b:List D} (h:Sh σ a) (h':Sh σ b) (q:eI a b=some true):eI b a=some false:=by
 rcases mU h h' with ⟨_,q2,_⟩ | e | ⟨_,q2,_⟩
 ·exact q2
 ·subst e; rw [lR h] at q; cases q
 ·rw [q2] at q; cases q
def kLt (a b:List D):Bool:=eI a b==some true
theorem Ge {a b:List D}:kLt a b=true↔eI a b=some true:=by unfold kLt; simp
section
variable {α:Type}
def BI (key:α->List D) (x:α):List α->List α
 | []=>[x]
 | y::ys=>if kLt (key x) (key y) then x::y::ys else y::BI key x ys
def iR (key:α->List D):List α->List α
 | []=>[]
 | x::xs=>BI key x (iR key xs)
theorem pQ (key:α->List D) (x:α):∀ ys:List α,(BI key x ys).Perm (x::ys)
 | []=>.refl _
 | y::ys=>by
  unfold BI
  split
  ·exact .refl _
  ·exact(List.Perm.cons y (pQ key x ys)).trans (.swap x y ys)
theorem fS (key:α->List D):∀ xs:List α,(iR key xs).Perm xs
 | []=>.refl _
 | x::xs=>(pQ key x _).trans (.cons x (fS key xs))
def yK (key:α->List D) (xs:List α):Prop:=xs.Pairwise fun x y=>eI (key x) (key y)=some true
theorem yO {key:α->List D} {σ:List Bool} {x:α} (hx:Sh σ (key x)):∀ {ys:List α},(∀ y∈ys,Sh σ (key y)/\key x≠key y)->yK key ys->yK key (BI key x ys)
 | [],_,_=>PZ _ _
 | y::ys,h,p=>by
  have p':=List.pairwise_cons.mp p
  obtain⟨hy,ne⟩:=h y N4
  unfold BI
  split
  ·rename_i q
   have q:=Ge.mp q
   refine List.pairwise_cons.mpr ⟨fun z hz=>?_,p⟩
   rcases List.mem_cons.mp hz with rfl | hz
   ·exact q
   ·exact m9 hx hy (h z (N5 _ hz)).1 q (p'.1 z hz)
  ·rename_i q
   have q:eI (key y) (key x)=some true:=by
    rcases mU hx hy with ⟨z,_⟩ | z | ⟨z,_⟩
    ·exact absurd (Ge.mpr z) q
    ·exact absurd z ne
    ·exact z
   refine List.pairwise_cons.mpr ⟨fun z hz=>?_,yO hx (fun z hz=>h z (N5 _ hz)) p'.2⟩
   rcases List.mem_cons.mp ((pQ key x ys).mem_iff.mp hz) with rfl | hz
   ·exact q
   ·exact p'.1 z hz
theorem nU {key:α->List D} {σ:List Bool}:∀ {xs:List α},(∀ x∈xs,Sh σ (key x))->xs.Pairwise (fun x y=>key x≠key y)->yK key (iR key xs)
 | [],_,_=>List.Pairwise.nil
 | x::xs,h,p=>by
  have p':=List.pairwise_cons.mp p
  refine yO (h x N4) (fun y hy=>?_) (nU (fun y hy=>h y (N5 _ hy)) p'.2)
  have hy:=(fS key xs).mem_iff.mp hy
  exact⟨h y (N5 _ hy),p'.1 y hy⟩
theorem AD {key:α->List D} {σ:List Bool}:∀ {xs ys:List α},(∀ x∈xs,Sh σ (key x))->yK key xs->yK key ys->xs.Perm ys->xs=ys
 | [],ys,_,_,_,e=>(List.perm_nil.mp e.symm).symm
 | x::xs,[],_,_,_,e=>List.perm_nil.mp e
 | x::xs,y::ys,h,p,q,e=>by
  have p':=List.pairwise_cons.mp p
  have q':=List.pairwise_cons.mp q
  have exy:x=y:=by
   rcases List.mem_cons.mp (e.mem_iff.mp N4) with z | z
   ·exact z
   ·have w1:=q'.1 x z
    rcases List.mem_cons.mp (e.symm.mem_iff.mp N4) with z' | z'
    ·exact z'.symm
    ·have w2:=p'.1 y z'
     have:=xO (h x N4) (h y (N5 _ z')) w2
     rw [w1] at this; cases this
  subst exy
  rw [AD (fun z hz=>h z (N5 _ hz)) p'.2 q'.2 (List.Perm.cons_inv e)]
theorem mC {key:α->List D} {σ:List Bool} {xs ys:List α} (h:∀ x∈xs,Sh σ (key x)) (p:xs.Pairwise fun x y=>key x≠key y) (q:yK key ys) (e:ys.Perm xs):iR key xs=ys :=
 AD (fun x hx=>h x ((fS key xs).mem_iff.mp hx)) (nU h p) q ((fS key xs).trans e.symm)
def rank (ks:List (List D)) (i:Nat):Nat:=(ks.filter fun k=>kLt k (ks.getD i [])).length
theorem rA {ks:List (List D)} {σ:List Bool} (h:∀ k∈ks,Sh σ k) {i j:Nat} (hi:i < ks.length) (hj:j < ks.length):decide (rank ks i < rank ks j)=kLt (ks.getD i []) (ks.getD j []):=by
 have gi:ks.getD i []=ks[i]:=by simp [hi]
 have gj:ks.getD j []=ks[j]:=by simp [hj]
 have mono:∀ a b:List D,Sh σ a->Sh σ b->eI a b=some true->∀ l:List (List D),(∀ k∈l,Sh σ k)->(l.filter fun k=>kLt k a).length<=(l.filter fun k=>kLt k b).length/\(a∈l->(l.filter fun k=>kLt k a).length < (l.filter fun k=>kLt k b).length):=by
  intro a b ha hb hab l
  induction l with
  | nil=>exact fun _=>⟨Oa _,fun z=>nomatch z⟩
  | cons k l ih =>
   intro hl
   obtain⟨i1,i2⟩:=ih fun z hz=>hl z (N5 _ hz)
   have hk:=hl k N4
   by_cases q:kLt k a=true
   ·have q':kLt k b=true:=Ge.mpr (m9 hk ha hb (Ge.mp q) hab)
    rw [P0 (p:=fun k=>kLt k a) q,P0 (p:=fun k=>kLt k b) q',Oh,Oh]
    refine⟨by omega,fun z=>?_⟩
    rcases List.mem_cons.mp z with rfl | z
    ·rw [Ge,lR ha] at q; cases q
    ·have:=i2 z; omega
   ·rw [P4 (p:=fun k=>kLt k a) q]
    by_cases q':kLt k b=true
    ·rw [P0 (p:=fun k=>kLt k b) q',Oh]
     exact⟨by omega,fun _=>by omega⟩
    ·rw [P4 (p:=fun k=>kLt k b) q']
     refine⟨i1,fun z=>?_⟩
     rcases List.mem_cons.mp z with rfl | z
     ·exact absurd (Ge.mpr hab) q'
     ·exact i2 z
 unfold rank
 rw [gi,gj]
 have hi':=h _ (P5 hi)
 have hj':=h _ (P5 hj)
 rcases mU hi' hj' with ⟨z,_⟩ | z | ⟨z,z',_⟩
 ·rw [Ge.mpr z]
  exact decide_eq_true ((mono _ _ hi' hj' z ks h).2 (P5 hi))
 ·rw [z]
  have:kLt ks[j] ks[j]=false:=by unfold kLt; rw [lR hj']; rfl
  rw [this]
  exact decide_eq_false (NZ _)
 ·have e:kLt ks[i] ks[j]=false:=by unfold kLt; rw [z']; rfl
  rw [e]
  exact decide_eq_false (Nat.not_lt.mpr (mono _ _ hj' hi' z ks h).1)
end
section
variable {cmp:Nat->Nat->(Bool->R0->Prop)->R0->Prop} {r:Nat->Nat} {N:Nat}
def mr (cmp:Nat->Nat->(Bool->R0->Prop)->R0->Prop) (r:Nat->Nat) (N:Nat) (s:R0):Prop:=∀ (i j:Nat) (C:Bool->R0->Prop),i < N->j < N->C (decide (r i < r j)) s->cmp i j C s
def PM (N:Nat) (p:Array Nat):Prop:=p.Perm (List.toArray (List.range N))
theorem PM.size {p:Array Nat} (h:PM N p):p.size=N:=by
 have:=h.size_eq; simpa using this
theorem PM.lt {p:Array Nat} (h:PM N p) {i:Nat} (hi:i < N):p.getD i 0 < N:=by
 have hs:=h.size
 have e:p.getD i 0=p[i]'‹0›:=by simp [Array.getD,hs,hi]
 rw [e]
 have m:p[i]'‹0›∈p:=Array.getElem_mem _
 have:=(h.mem_iff (a:=p[i]'‹0›)).mp m
 simpa using this
theorem PM.rev {p:Array Nat} (h:PM N p) (i j:Nat):PM N (kas_rev p i j):=(mirror_perm p i j _).trans h
abbrev Rk (r:Nat->Nat) (p:Array Nat) (i:Nat):Nat:=r (p.getD i 0)
theorem wF {p:Array Nat} {i j:Nat} (hj:j<=p.size) (k:Nat):Rk r (kas_rev p i j) k=if i<=k/\k < j then Rk r p (i+j - 1 - k) else Rk r p k:=by
 have e:=getElem?_mirror_all (xs:=p) (i:=i) (j:=j) hj k
 have g:∀ (q:Array Nat) (k:Nat),q.getD k 0=(q[k]?).getD 0:=fun q k=>by simp
 show r ((kas_rev p i j).getD k 0)=_
 rw [g]
 show r (((mirror p i j ((j - i) / 2))[k]?).getD 0)=_
 rw [e]
 split
 ·show _=r (p.getD _ 0); rw [g]
 ·show _=r (p.getD _ 0); rw [g]
theorem Ea {p:Array Nat} {src d:Nat} (hs:src < p.size) (hd:d<=src) (k:Nat):Rk r (bubble p src d) k=if k=src - d then Rk r p src else if src - d < k/\k<=src then Rk r p (k - 1) else Rk r p k:=by
 have e:=getElem?_bubble (xs:=p) hs d hd k
 have g:∀ (q:Array Nat) (k:Nat),q.getD k 0=(q[k]?).getD 0:=fun q k=>by simp
 show r ((bubble p src d).getD k 0)=_
 rw [g,e]
 split
 ·show _=r (p.getD _ 0); rw [g]
 ·split
  ·show _=r (p.getD _ 0); rw [g]
  ·show _=r (p.getD _ 0); rw [g]
def Up (r:Nat->Nat) (p:Array Nat) (k:Nat):Prop:=∀ i j,i<=j->j < k->Rk r p i<=Rk r p j
def Dn (r:Nat->Nat) (p:Array Nat) (k:Nat):Prop:=∀ i j,i<=j->j < k->Rk r p j<=Rk r p i
variable {s:R0}
theorem zC (hc:mr cmp r N s) {p:Array Nat} (hp:PM N p) {G:Nat->R0->Prop}:∀ (f n:Nat),1<=n->n+f<=N->Up r p n->(∀ m,n<=m->m<=n+f->Up r p m->(m=n+f\/Rk r p m < Rk r p (m - 1))->G m s)->(kas_asc p f n).kasWp cmp G s
 | 0,n,_,_,u,h=>h n (Oa _) (Oa _) u (.inl rfl)
 | f+1,n,h1,h2,u,h=>by
  refine hc _ _ _ (hp.lt ‹0›) (hp.lt ‹0›) ?_
  by_cases q:Rk r p n < Rk r p (n - 1)
  ·rw [decide_eq_true q]; dsimp only; rw [if_pos rfl]
   exact h n (Oa _) ‹0› u (.inr q)
  ·rw [decide_eq_false q]; dsimp only; rw [if_neg Og]
   refine zC hc hp f (n+1) ‹0› ‹0› (fun i j hij hj=>?_) fun m a b=>?_
   ·by_cases hjn:j < n
    ·exact u i j hij hjn
    ·have ej:j=n:=by omega
     subst ej
     by_cases ei:i=j
     ·subst ei; exact Oa _
     ·have:=u i (j - 1) ‹0› ‹0›
      omega
   ·intro um hm
    exact h m ‹0› ‹0› um (by rcases hm with z | z; exact .inl ‹0›; exact .inr z)
theorem Dl {p:Array Nat} {n q:Nat} (hn:n<=p.size) (hq:q+1<=n) (he:∀ i,n - (q+1)<=i->i < n->Rk r p i=Rk r p (n - 1)) (k:Nat):Rk r (kas_rev p (n - (q+1)) n) k=Rk r p k:=by
 rw [wF hn]
 split
 ·rename_i h
  rw [he _ ‹0› ‹0›,he k h.1 h.2]
 ·rfl
theorem rE (hc:mr cmp r N s) {G:Array Nat×Nat×Nat->R0->Prop}:∀ (f:Nat) (p:Array Nat) (n q:Nat),PM N p->1<=n->n+f<=N->Dn r p n->q+1<=n->(∀ i,n - (q+1)<=i->i < n->Rk r p i=Rk r p (n - 1)) ->
  (∀ p' m q',PM N p'->n<=m->m<=n+f->Dn r p' m->q'+1<=m->(∀ i,m - (q'+1)<=i->i < m->Rk r p' i=Rk r p' (m - 1))->G (p',m,q') s)->(kas_desc f p n q).kasWp cmp G s
 | 0,p,n,q,hp,_,_,d,hq,he,h=>h p n q hp (Oa _) (Oa _) d hq he
 | f+1,p,n,q,hp,h1,h2,d,hq,he,h=>by
  have hs:=hp.size
  have step:∀ p',(∀ k,Rk r p' k=Rk r p k)->Rk r p n<=Rk r p (n - 1)->Dn r p' (n+1):=fun p' hk hl i j hij hj=>by
   rw [hk,hk]
   by_cases hjn:j < n
   ·exact d i j hij hjn
   ·have ej:j=n:=by omega
    subst ej
    by_cases ei:i=j
    ·subst ei; exact Oa _
    ·have:=d i (j - 1) ‹0› ‹0›
     omega
  refine hc _ _ _ (hp.lt ‹0›) (hp.lt ‹0›) ?_
  by_cases q1:Rk r p n < Rk r p (n - 1)
  ·rw [decide_eq_true q1]; dsimp only; rw [if_pos rfl]
   by_cases hq0:q > 0
   ·rw [if_pos hq0]
    refine rE hc f _ (n+1) 0 (hp.rev _ _) ‹0› ‹0› (step _ (Dl ‹0› hq he) ‹0›) ‹0› (fun i a b=>by rw [show i=n+1 - 1 by omega]) fun p' m q' a b c=>h p' m q' a ‹0› ‹0›
   ·rw [if_neg hq0]
    refine rE hc f _ (n+1) 0 hp ‹0› ‹0› (step _ (fun _=>rfl) ‹0›) ‹0› (fun i a b=>by rw [show i=n+1 - 1 by omega]) fun p' m q' a b c=>h p' m q' a ‹0› ‹0›
  ·rw [decide_eq_false q1]; dsimp only; rw [if_neg Og]
   refine hc _ _ _ (hp.lt ‹0›) (hp.lt ‹0›) ?_
   by_cases q2:Rk r p (n - 1) < Rk r p n
   ·rw [decide_eq_true q2]; dsimp only; rw [if_pos rfl]
    exact h p n q hp (Oa _) ‹0› d hq he
   ·rw [decide_eq_false q2]; dsimp only; rw [if_neg Og]
    refine rE hc f _ (n+1) (q+1) hp ‹0› ‹0› (step _ (fun _=>rfl) ‹0›) ‹0› (fun i a b=>?_) fun p' m q' a b c=>h p' m q' a ‹0› ‹0›
    rw [show n+1 - 1=n by omega]
    by_cases ei:i=n
    ·subst ei; rfl
    ·have:=he i ‹0› ‹0›
     omega
theorem yR (hc:mr cmp r N s) {p:Array Nat} (hp:PM N p) {n:Nat} (h1:1<=n) (hn:n<=N) (d:Dn r p n) {G:Nat×Array Nat->R0->Prop} (h:∀ m p',PM N p'->1<=m->m<=N->Up r p' m->G (m,p') s):(kas_tail3 n N p).kasWp cmp G s:=by
 unfold kas_tail3
 rw [KasT.kasWp_bind]
 have hs:=hp.size
 refine zC hc (hp.rev 0 n) _ _ h1 ‹0› (fun i j hij hj=>?_) fun m a b u _=>h m _ (hp.rev 0 n) ‹0› ‹0› u
 rw [wF ‹0›,wF ‹0›,if_pos ‹0›,if_pos ‹0›]
 exact d _ _ ‹0› ‹0›
theorem qW (hc:mr cmp r N s) {p:Array Nat} (hp:PM N p) {n:Nat} (hn:n+1<=N) (d:Dn r p (n+1)) {G:Nat×Array Nat->R0->Prop} (h:∀ m p',PM N p'->1<=m->m<=N->Up r p' m->G (m,p') s):(kas_descPart n N p).kasWp cmp G s:=by
 unfold kas_descPart
 rw [KasT.kasWp_bind]
 refine rE hc _ _ _ _ hp ‹0› ‹0› d ‹0› (fun i a b=>by rw [show i=n+1 - 1 by omega]) fun p' m q' hp' a b d' hq he=>?_
 have hs:=hp'.size
 dsimp only
 by_cases hq0:q' > 0
 ·rw [if_pos hq0]
  refine yR hc (hp'.rev _ _) ‹0› ‹0› (fun i j hij hj=>?_) h
  rw [Dl ‹0› hq he,Dl ‹0› hq he]
  exact d' i j hij hj
 ·rw [if_neg hq0]
  exact yR hc hp' ‹0› ‹0› d' h
theorem C0 (hc:mr cmp r N s) (h1:1<=N) {p:Array Nat} (hp:PM N p) {G:Nat×Array Nat->R0->Prop} (h:∀ m p',PM N p'->1<=m->m<=N->Up r p' m->G (m,p') s):(kas_count N p).kasWp cmp G s:=by
 unfold kas_count
 rw [KasT.kasWp_bind]
 have hs:=hp.size
 refine zC hc hp _ _ (Oa _) ‹0› (fun i j hij hj=>by rw [show i=j by omega]; exact Oa _) fun n a b u hor=>?_
 by_cases hn:n=N
 ·rw [if_pos (by simpa using hn)]
  exact h n p hp a ‹0› u
 ·rw [if_neg (by simpa using hn)]
  have hlt:Rk r p n < Rk r p (n - 1):=by
   rcases hor with z | z
   ·omega
   ·exact z
  by_cases hg:n > 1
  ·rw [if_pos hg]
   refine hc _ _ _ (hp.lt ‹0›) (hp.lt ‹0›) ?_
   by_cases q:Rk r p 0 < Rk r p (n - 1)
   ·rw [decide_eq_true q]; dsimp only; rw [if_pos rfl]
    exact h n p hp a ‹0› u
   ·rw [decide_eq_false q]; dsimp only; rw [if_neg Og]
    have hall:∀ k,k < n->Rk r p k=Rk r p (n - 1):=fun k hk=>by
     have a1:=u 0 k ‹0› hk
     have a2:=u k (n - 1) ‹0› ‹0›
     omega
    have hr:∀ k,Rk r (kas_rev p 0 n) k=Rk r p k:=fun k=>by
     rw [wF ‹0›]
     split
     ·rename_i z
      rw [hall _ ‹0›,hall k z.2]
     ·rfl
    refine qW hc (hp.rev _ _) ‹0› (fun i j hij hj=>?_) h
    rw [hr,hr]
    by_cases hjn:j < n
    ·rw [hall i ‹0›,hall j hjn]; exact Oa _
    ·have ej:j=n:=by omega
     subst ej
     by_cases ei:i=j
     ·subst ei; exact Oa _
     ·rw [hall i ‹0›]; omega
  ·rw [if_neg hg]
   have en:n=1:=by omega
   subst en
   refine qW hc hp ‹0› (fun i j hij hj=>?_) h
   by_cases ei:i=j
   ·subst ei; exact Oa _
   ·have e0:i=0:=by omega
    have e1:j=1:=by omega
    subst e0 e1
    exact N2 hlt
theorem sW (hc:mr cmp r N s) {p:Array Nat} (hp:PM N p) {k:Nat} (hk:k < N) (u:Up r p k) {G:Nat->R0->Prop} (h:∀ l,l<=k->(∀ i,i < l->Rk r p i<=Rk r p k)->(∀ i,l<=i->i < k->Rk r p k < Rk r p i)->G l s) :
  ∀ (f l t:Nat),t - l<=f->l<=t->t<=k->(∀ i,i < l->Rk r p i<=Rk r p k)->(∀ i,t<=i->i < k->Rk r p k < Rk r p i)->(kas_place p k f l t).kasWp cmp G s
 | 0,l,t,a,b,c,d,e=>h l ‹0› d fun i x y=>e i ‹0› y
 | f+1,l,t,a,b,c,d,e=>by
  unfold kas_place
  by_cases hl:l>=t
  ·rw [if_pos hl]
   exact h l ‹0› d fun i x y=>e i ‹0› y
  ·rw [if_neg hl]
   refine hc _ _ _ (hp.lt hk) (hp.lt ‹0›) ?_
   by_cases q:Rk r p k < Rk r p ((l+t) / 2)
   ·rw [decide_eq_true q]; dsimp only; rw [if_pos rfl]
    refine sW hc hp hk u h f l ((l+t) / 2) ‹0› ‹0› ‹0› d fun i x y=>?_
    have:=u ((l+t) / 2) i x y
    omega
   ·rw [decide_eq_false q]; dsimp only; rw [if_neg Og]
    refine sW hc hp hk u h f ((l+t) / 2+1) t ‹0› ‹0› ‹0› (fun i x=>?_) e
    have:=u i ((l+t) / 2) ‹0› ‹0›
    omega
theorem Dm (hc:mr cmp r N s) {G:Array Nat->R0->Prop} (h:∀ p,PM N p->Up r p N->G p s):∀ (f:Nat) (p:Array Nat) (k:Nat),PM N p->k+f=N->Up r p k->(kas_bin f p k).kasWp cmp G s
 | 0,p,k,hp,e,u=>h p hp (by rw [<- e]; exact u)
 | f+1,p,k,hp,e,u=>by
  unfold kas_bin
  rw [KasT.kasWp_bind]
  have hs:=hp.size
  refine sW hc hp ‹0› u (fun l hl d e'=>?_) k 0 k ‹0› (Om _) (Oa _) (fun i x=>by omega) fun i x y=>by omega
  refine Dm hc h f _ (k+1) ((bubble_perm p k _).trans hp) ‹0› fun i j hij hj=>?_
  rw [Ea ‹0› ‹0›,Ea ‹0› ‹0›,show k - (k - l)=l by omega]
  have U:=u
  by_cases i1:i=l
  ·rw [if_pos i1]
   by_cases j1:j=l
   ·rw [if_pos j1]; exact Oa _
   ·rw [if_neg j1,if_pos ‹0›]
    exact N2 (e' (j - 1) ‹0› ‹0›)
  ·rw [if_neg i1]
   by_cases i2:l < i/\i<=k
   ·rw [if_pos i2,if_neg ‹0›,if_pos ‹0›]
    exact U _ _ ‹0› ‹0›
   ·rw [if_neg i2]
    by_cases j1:j=l
    ·rw [if_pos j1]; exact d i ‹0›
    ·rw [if_neg j1]
     by_cases j2:l < j/\j<=k
     ·rw [if_pos j2]
      exact U _ _ ‹0› ‹0›
     ·rw [if_neg j2]
      exact U _ _ hij ‹0›
theorem A0 (hc:mr cmp r N s) (h2:1<=N) {G:Array Nat->R0->Prop} (h:∀ p,PM N p->Up r p N->G p s):(kas_sort N).kasWp cmp G s:=by
 unfold kas_sort
 rw [KasT.kasWp_bind]
 refine C0 hc h2 (Array.Perm.refl _) fun m p' hp a b u=>?_
 dsimp only
 by_cases hm:m < N
 ·rw [if_pos hm,show max m 1=m by omega]
  exact Dm hc h _ p' m hp ‹0› u
 ·rw [if_neg hm]
  exact h p' hp (by rw [show N=m by omega]; exact u)
end
section
variable {prog:RO} {w:RN} {A:RZ} {E:RM->R0->Prop} {s:R0}
theorem uk {a:RP} {vs:List RM} {n:Nat} {P:PySem.Fin->R0->Prop} {κ:Tp} {r:Nat->Nat} (ho:s.heap.get? a=some (seqObj "list" vs.toArray n)) (h64:vs.length < 64)
  (hk:2<=vs.length->∀ h':RT,(∀ b o,b≠a->s.heap.get? b=some o->h'.get? b=some o)->∀ (Q:Tp->R0->Prop),Q κ { s with heap:=h' }->R3 (model prog w) A (keyKind' vs.toArray) Q E { s with heap:=h' })
  (hr:2<=vs.length->∀ h':RT,(∀ b o,b≠a->s.heap.get? b=some o->h'.get? b=some o)->mr (Tq prog w A κ vs) r vs.length { s with heap:=h' })
  (h:∀ p:Array Nat,PM vs.length p->Up r p vs.length->P (.done (.ret .none)) { s with heap:=sortedHeap s.heap a vs (List.toArray (p.toList.map fun i=>vs.getD i Value.none)) }) :
  R3 (model prog w) A (Builtin.«list.sort» ⟨[.ref a],[]⟩) P E s:=by
 rw [list_sort_plain]
 have ha:a < s.heap.objs.size:=Rh ho
 refine Se (listItems_at ho rfl ?_)
 refine Se (Tr ho rfl ?_ (by rw [Of,Sr]; omega) (Om _))
 obtain⟨e1,ho1⟩:∃ e1,(s.heap.update a (Obj.mapSeq fun _=>(#[]:Array RM))).get? a=some (seqObj "list" #[] e1):=⟨_,Ts ho (fun _=>#[])⟩
 refine Se (Tt ho1 rfl ?_)
 refine Se (Tj ?_ (by show vs.length<=_; rw [Sr]; omega))
 refine Se (Tu ?_ (Om _))
 refine SN ?_
 have ho6:(((s.heap.update a (Obj.mapSeq fun _=>(#[]:Array RM))).push (seqObj "tuple" vs.toArray 0)).push (seqObj "list" #[] 0)).get? a=some (seqObj "list" #[] e1):=by
  rw [Rq _ _ _ (by rw [size_push',Rr]; exact N0 (OX ha)),Rq _ _ _ (by rw [Rr]; exact N0 ha)]
  exact ho1
 have kept:∀ b o,b≠a->s.heap.get? b=some o->(((s.heap.update a (Obj.mapSeq fun _=>(#[]:Array RM))).push (seqObj "tuple" vs.toArray 0)).push (seqObj "list" #[] 0)).get? b=some o:=fun b o hb e =>
  Rl _ (Rl _ (by rw [Rt _ _ _ _ hb]; exact e))
 show R3 (model prog w) A _ P E { s with heap:=((s.heap.update a (Obj.mapSeq fun _=>(#[]:Array RM))).push (seqObj "tuple" vs.toArray 0)).push (seqObj "list" #[] 0) }
 dsimp only
 have hsz:vs.toArray.size=vs.length:=by simp
 by_cases h2:vs.toArray.size < 2
 ·rw [if_pos h2,if_pos h2]
  refine Se (Sd ?_)
  rw [StateT.run_pure]
  refine Se (Sd ?_)
  dsimp only
  refine Se (Tt ho6 rfl ?_)
  have hout:(arrOf (SortSt.mk' general' (vs.toArray.zip vs.toArray) #[] 7 none)).map (·.2)=List.toArray ((List.toArray (List.range vs.length)).toList.map fun i=>vs.getD i Value.none):=by
   refine kat_snds rfl ?_
   show vs.toArray.zip vs.toArray=_
   have e:=kas_range (vs.toArray.zip vs.toArray)
   rw [show (vs.toArray.zip vs.toArray).size=vs.length by simp] at e
   exact e.symm
  rw [hout]
  refine Se (Tr ho6 rfl ?_ (Om _) (by rw [Of,Oj,Sr]; simp; omega))
  simp only [bne_self_eq_false,OW,if_false]
  refine Sd (h _ (Array.Perm.refl _) fun i j hij hj=>?_)
  have:i=j:=by omega
  subst this; exact Oa _
 ·rw [if_neg h2,if_neg h2]
  have h2':2<=vs.length:=by omega
  refine Se (hk h2' _ kept _ ?_)
  refine Se (R7 (kat_run (Q:=fun st' s'=>∃ p:Array Nat,arrOf st'=p.map (kas_item (vs.toArray.zip vs.toArray))/\failedOf st'=none/\PM vs.length p/\Up r p vs.length/\s'={ s with heap:=((s.heap.update a (Obj.mapSeq fun _=>(#[]:Array RM))).push (seqObj "tuple" vs.toArray 0)).push (seqObj "list" #[] 0) })
   (G:=fun p s'=>PM vs.length p/\Up r p vs.length/\s'={ s with heap:=((s.heap.update a (Obj.mapSeq fun _=>(#[]:Array RM))).push (seqObj "tuple" vs.toArray 0)).push (seqObj "list" #[] 0) })
   rfl h2' h64 (fun p' st' s' a1 a2 a3 a4=>⟨p',a2,a3,a4.1,a4.2.1,a4.2.2⟩) (A0 (hr h2' _ kept) ‹0› fun p hp hu=>⟨hp,hu,rfl⟩)) ?_ fun _ _ e=>e)
  rintro⟨⟨⟩,st'⟩ s' ⟨p,har,hf,hp,hu,rfl⟩
  dsimp only
  refine Se (Tt ho6 rfl ?_)
  have hout:=kat_snds rfl har
  rw [hout]
  refine Se (Tr ho6 rfl ?_ (Om _) (by rw [Of,Oj,Array.length_toList,hp.size,Sr]; omega))
  rw [hf]
  simp only [bne_self_eq_false,OW,if_false]
  exact Sd (h p hp hu)
theorem sC {src:RM} {vs:List RM} {Q:RM->R0->Prop} {κ:Tp} {r:Nat->Nat} (h64:vs.length < 64)
  (hcol:∀ (Q':List RM->R0->Prop),(∀ h' tk,(∀ b o,s.heap.get? b=some o->h'.get? b=some o)->Q' vs { s with heap:=h',toks:=tk })->R3 (model prog w) A.in1 (collect src) Q' E s)
  (hk:2<=vs.length->∀ (h':RT) (tk:Nat),(∀ b o,s.heap.get? b=some o->h'.get? b=some o)->∀ (Q:Tp->R0->Prop),Q κ { s with heap:=h',toks:=tk }->R3 (model prog w) A.in1.in1 (keyKind' vs.toArray) Q E { s with heap:=h',toks:=tk })
  (hr:2<=vs.length->∀ (h':RT) (tk:Nat),(∀ b o,s.heap.get? b=some o->h'.get? b=some o)->mr (Tq prog w A.in1.in1 κ vs) r vs.length { s with heap:=h',toks:=tk })
  (h:∀ (p:Array Nat) (h1 h':RT) (l:RP) (e tk:Nat),PM vs.length p->Up r p vs.length->(∀ b o,s.heap.get? b=some o->h1.get? b=some o)->(∀ b o,h1.get? b=some o->h'.get? b=some o)->h1.objs.size<=l->h'.get? l=some (seqObj "list" (List.toArray (p.toList.map fun i=>vs.getD i Value.none)) e)->Q (.ref l) { s with heap:=h',toks:=tk }) :
  R3 (model prog w) A (call (.builtin "sorted") [src]) Q E s:=by
 refine Calls.call_function_entry kind_sorted plain_sorted entry_sorted (args_sorted1 _) ?_
 unfold Builtin.«sorted»
 refine Se (m:=checkCount "sorted" 1 1 _) (Sd ?_)
 refine Se (hcol _ fun h1 tk k1=>?_)
 refine Se (Tu ?_ (by rw [Sr]; omega))
 have hoL:(h1.push (seqObj "list" vs.toArray 0)).get? h1.objs.size=some (seqObj "list" vs.toArray 0):=Rm _ rfl
 have k2:∀ b o,s.heap.get? b=some o->(h1.push (seqObj "list" vs.toArray 0)).get? b=some o:=fun b o e=>Rl _ (k1 b o e)
 have ne:∀ b o,s.heap.get? b=some o->b≠h1.objs.size:=fun b o e=>N0 (Rh (k1 b o e))
 refine Se (SN (SU slot_list_sort ⟨_,hoL,rfl⟩ entry_list_sort (uk (s:={ s with heap:=h1.push (seqObj "list" vs.toArray 0),toks:=tk }) (r:=r) (κ:=κ) hoL h64
  (fun h2 h' k=>hk h2 h' tk fun b o e=>k b o (ne b o e) (k2 b o e)) (fun h2 h' k=>hr h2 h' tk fun b o e=>k b o (ne b o e) (k2 b o e)) fun p hp hu=>⟨_,rfl,?_⟩) (args_list_sort _)))
 refine Sd ⟨_,rfl,?_⟩
 obtain⟨e,he⟩:=sortedHeap_at (vs:=vs) (out:=List.toArray (p.toList.map fun i=>vs.getD i Value.none)) hoL
 exact h p h1 _ h1.objs.size e tk hp hu k1 (fun b o q=>by rw [sortedHeap_old (N0 (Rh q)) (by rw [size_push']; exact OX (Rh q))]; exact Rl _ q) (Oa _) he
end
def dS:D->List D
 | .tup ks=>ks
 | _=>[]
def oneOf (d:D):List D:=[d]
def Ib (xs:List D):Prop:=xs.length < 64/\∃ σ:List Bool,σ≠[]/\(∀ x∈xs,∃ k,x=.tup k/\Sh σ k)/\xs.Pairwise fun x y=>dS x≠dS y
def Jl (xs:List D):Prop:=xs.length < 64/\∃ b:Bool,(∀ x∈xs,Sh [b] [x])/\xs.Pairwise fun x y=>oneOf x≠oneOf y
open Classical in
noncomputable def qT (xs:List D):Option D:=if Ib xs then some (.lst (iR dS xs)) else if Jl xs then some (.lst (iR oneOf xs)) else none
noncomputable def fJ:List D->Option D
 | [.lst xs]=>qT xs
 | [.tup xs]=>qT xs
 | _=>none
theorem jN {prog:RO} {w:RN} {A:RZ} {s:R0} {Q:Bool->R0->Prop} {fin:Bool} (hf:fin=false):∀ {σ:List Bool} {ns ms:List D} {xs ys:List RM} {i:Nat},Sh σ ns->Sh σ ms->gI xs ns->gI ys ms->Q (kLt ns ms) s->KatLex prog w A true fin Q (xs.zip ys) i s
 | _,_,_,_,_,i,.nil,.nil,.nil,.nil,h=>by
  subst hf
  exact kat_nil (by simpa [kLt,eI] using h)
 | _,_,_,_,_,i,.int a h1,.int c h2,.int _ t f1,.int _ u f2,h=>by
  rw [PF]
  obtain⟨e,he,hiff⟩:=G6 A s a t c u
  refine kat_cons (he prog w _ _ ?_)
  cases e with
  | true =>
   have ac:=hiff.mp rfl
   refine kat_yes (jN hf h1 h2 f1 f2 ?_)
   unfold kLt at h ⊢
   rw [o3,if_pos ac] at h
   exact h
  | false =>
   have ac:¬ a=c:=fun q=>absurd (hiff.mpr q) Og
   have h':Q (decide (a < c)) s:=by
    unfold kLt at h
    rw [o3,if_neg ac] at h
    cases hd:decide (a < c) <;> rw [hd] at h <;> exact h
   refine kat_no ?_
   cases hi:(i==0) with
   | true=>exact oneLt_int h'
   | false=>exact kat_one _ _ (PySem.P.lt_int (show Q7 Q (.bool _) s from h'))
 | _,_,_,_,_,i,.str a h1,.str c h2,.str _ t f1,.str _ u f2,h=>by
  rw [PF]
  obtain⟨e,he,hiff⟩:=G1 A s a t c u
  refine kat_cons (he prog w _ _ ?_)
  cases e with
  | true =>
   have ac:=hiff.mp rfl
   refine kat_yes (jN hf h1 h2 f1 f2 ?_)
   unfold kLt at h ⊢
   rw [o7,if_pos ac] at h
   exact h
  | false =>
   have ac:¬ a=c:=fun q=>absurd (hiff.mpr q) Og
   have h':Q (decide (a.cps.toList < c.cps.toList)) s:=by
    unfold kLt at h
    rw [o7,if_neg ac] at h
    cases hd:decide (a.cps.toList < c.cps.toList) <;> rw [hd] at h <;> exact h
   refine kat_no ?_
   cases hi:(i==0) with
   | true=>exact oneLt_str h'
   | false=>exact kat_one _ _ (PySem.P.lt_str (show Q7 Q (.bool _) s from h'))
theorem ou {h:RT} {PT:RM->Prop}:∀ {its:List RM},(∀ v∈its,∃ a o xs n f,v=.ref a/\h.get? a=some o/\o.cls=.type "tuple"/\o.data=.seq xs n/\xs[0]?=some f/\PT f)->∃ fs,KatTups h its fs/\fs.length=its.length/\∀ f∈fs,PT f
 | [],_=>⟨[],.nil,rfl,fun _ h=>nomatch h⟩
 | v::its,hh=>by
  obtain⟨a,o,xs,n,f,rfl,h1,h2,h3,h4,h5⟩:=hh v N4
  obtain⟨fs,k1,k2,k3⟩:=ou (its:=its) fun u hu=>hh u (N5 _ hu)
  refine⟨f::fs,.cons h1 h2 h3 h4 k1,by rw [Oh,Oh,k2],fun g hg=>?_⟩
  rcases List.mem_cons.mp hg with rfl | z
  ·exact h5
  ·exact k3 g z
theorem gI.first {σ:List Bool} {b:Bool} {xs:List RM} {ns:List D} (f:gI xs ns) (h:Sh (b::σ) ns):∃ v,xs[0]?=some v/\typeOf v=pure (.type (if b then "int" else "str")):=by
 cases f with
 | nil=>cases h
 | int i t f=>cases h; exact⟨_,rfl,rfl⟩
 | str i t f=>cases h; exact⟨_,rfl,rfl⟩
theorem qR {key:D->List D} {σ:List Bool} {ds:List D} (h:∀ x∈ds,Sh σ (key x)) (pw:ds.Pairwise fun x y=>key x≠key y) {p:Array Nat} (hp:PM ds.length p) (hu:Up (rank (ds.map key)) p ds.length):p.toList.map (fun i=>ds.getD i .non)=iR key ds:=by
 have hr:p.toList.Perm (List.range ds.length):=by
  have:=Array.perm_iff_toList_perm.mp hp
  simpa using this
 have hmap:(List.range ds.length).map (fun i=>ds.getD i .non)=ds:=by
  apply List.ext_getElem
  ·simp
  ·intro i h1 h2
   simp at h1
   simp [h1]
 have hperm:(p.toList.map fun i=>ds.getD i .non).Perm ds:=by
  have:=hr.map (fun i=>ds.getD i .non)
  rwa [hmap] at this
 have hn:p.toList.Nodup:=hr.nodup_iff.mpr List.nodup_range
 refine(mC h pw ?_ hperm).symm
 have hl:p.toList.length=ds.length:=by rw [hr.length_eq,Pk]
 have kd:∀ i,i < ds.length->(ds.map key).getD i []=key (ds.getD i .non):=fun i hi=>by simp [hi]
 have hsh:∀ k∈ds.map key,Sh σ k:=fun k hk=>by
  obtain⟨x,hx,rfl⟩:=List.mem_map.mp hk
  exact h x hx
 unfold yK
 rw [P6,List.pairwise_iff_getElem]
 intro i j hi hj hij
 have hi':p.toList[i] < ds.length:=by simpa using hr.mem_iff.mp (P5 hi)
 have hj':p.toList[j] < ds.length:=by simpa using hr.mem_iff.mp (P5 hj)
 have ne:p.toList[i]≠p.toList[j]:=List.pairwise_iff_getElem.mp hn i j hi hj hij
 have up:=hu i j ‹0› ‹0›
 have gi:p.getD i 0=p.toList[i]:=by
  have:i < p.size:=by rw [<- Array.length_toList]; exact hi
  simp [Array.getD,this]
 have gj:p.getD j 0=p.toList[j]:=by
  have:j < p.size:=by rw [<- Array.length_toList]; exact hj
  simp [Array.getD,this]
 unfold Rk at up
 rw [gi,gj] at up
 have rl:=rA hsh (i:=p.toList[j]) (j:=p.toList[i]) (by rw [Oj]; exact hj') (by rw [Oj]; exact hi')
 rw [kd _ hj',kd _ hi',decide_eq_false ‹0›] at rl
 have ei:ds.getD p.toList[i] .non=ds[p.toList[i]]:=by rw [P7,O6 hi']; rfl
 have ej:ds.getD p.toList[j] .non=ds[p.toList[j]]:=by rw [P7,O6 hj']; rfl
 have s1:=h _ (show ds.getD p.toList[i] .non∈ds by rw [ei]; exact P5 hi')
 have s2:=h _ (show ds.getD p.toList[j] .non∈ds by rw [ej]; exact P5 hj')
 rcases mU s1 s2 with ⟨z,_⟩ | z | ⟨z,_⟩
 ·exact z
 ·exfalso
  have pw':=List.pairwise_iff_getElem.mp pw
  rw [ei,ej] at z
  rcases Nat.lt_or_gt_of_ne ne with q | q
  ·exact pw' _ _ hi' hj' q z
  ·exact pw' _ _ hj' hi' q z.symm
 ·rw [Ge.mpr z] at rl; cases rl
theorem pH {vs:List V} {us:List RM} (r:Vals vs us):∀ l:List Nat,(∀ i∈l,i < vs.length)->Vals (l.map fun i=>vs.getD i .non) (l.map fun i=>us.getD i Value.none)
 | [],_=>.nil
 | i::l,h=>by
  have hi:=h i N4
  obtain⟨u,e,q⟩:=r.get (i:=i) (x:=vs[i]) (by simp [hi])
  refine .cons ?_ (pH r l fun j hj=>h j (N5 _ hj))
  have e1:vs.getD i .non=vs[i]:=by simp [hi]
  have e2:us.getD i Value.none=u:=by simp [P7,e]
  show L2.RelV (vs.getD i .non) (us.getD i Value.none)
  rw [e1,e2]; exact q
theorem qH {K:QN} {H:Hp} {ds:List D} {vs:List V} (g:aZ K H ds vs):∀ l:List Nat,(∀ i∈l,i < ds.length)->aZ K H (l.map fun i=>ds.getD i .non) (l.map fun i=>vs.getD i .non)
 | [],_=>dh.mpr rfl
 | i::l,h=>by
  have hi:=h i N4
  obtain⟨v,e,q⟩:=g.get (i:=i) (d:=ds[i]) (by simp [hi])
  refine bz.mpr ⟨_,_,rfl,?_,qH g l fun j hj=>h j (N5 _ hj)⟩
  have e1:ds.getD i .non=ds[i]:=by simp [hi]
  have e2:vs.getD i .non=v:=by simp [P7,e]
  show cN K H (ds.getD i .non) (vs.getD i .non)
  rw [e1,e2]; exact q
section
variable {X:Cx} {pins:List (RP×Obj)} {s:R0} {σ:L2.St} {H:Hp} {O:List RP}
theorem uZ {u:RM} {ds:List D} {vs:List V} {its:List RM} {d:D} {Q:VK} (I:Inv X pins σ H s) (hO:eB H O) (dn:aZ X.K (hid H O) ds vs) (rv:Vals vs its) (hs:qT ds=some d)
  (hcol:∀ (Q':List RM->R0->Prop),(∀ h' tk,(∀ b o,s.heap.get? b=some o->h'.get? b=some o)->Q' its { s with heap:=h',toks:=tk })->R3 (model X.prog X.w) X.A.in1 (collect u) Q' X.xe s)
  (q:∀ v H',bj H H'->cN X.K (hid H' O) d v->Q v H'):R3 (model X.prog X.w) X.A (call (.builtin "sorted") [u]) (EP X pins σ Q) X.xe s:=by
 have l1:=dn.length
 have l2:=rv.length
 have fin:∀ (key:D->List D) (σ':List Bool),(∀ x∈ds,Sh σ' (key x))->ds.Pairwise (fun x y=>key x≠key y)->ds.length < 64->d=.lst (iR key ds)->∀ (p:Array Nat) (h1 h':RT) (l:RP) (e tk:Nat),PM its.length p->Up (rank (ds.map key)) p its.length->(∀ b o,s.heap.get? b=some o->h1.get? b=some o)->(∀ b o,h1.get? b=some o->h'.get? b=some o)->h1.objs.size<=l ->
   h'.get? l=some (seqObj "list" (List.toArray (p.toList.map fun i=>its.getD i Value.none)) e)->EP X pins σ Q (.ref l) { s with heap:=h',toks:=tk }:=by
  intro key σ' hsh pw h64 ed p h1 h' l e tk hp hu k1 k2 hl he
  have el:its.length=ds.length:=by omega
  rw [el] at hp hu
  have ps:=qR hsh pw hp hu
  have hr:p.toList.Perm (List.range ds.length):=by
   have:=Array.perm_iff_toList_perm.mp hp
   simpa using this
  have hlt:∀ i∈p.toList,i < ds.length:=fun i hi=>by simpa using hr.mem_iff.mp hi
  have I1:Inv X pins σ H { s with heap:=h1,toks:=tk }:=I.kept k1
  have hn:H l=none:=I1.hok.fresh hl
  have rv':=pH rv p.toList fun i hi=>by have:=hlt i hi; omega
  have dn':=qH dn p.toList hlt
  have hlen:p.toList.length=ds.length:=by rw [hr.length_eq,Pk]
  refine⟨.ref l,_,Inv.laid (s:={ s with heap:=h1,toks:=tk }) (t':=tk) I1 k2 hl (show cC X.prog X.w _ h' _ (.lst (p.toList.map fun i=>vs.getD i .non)) from ⟨by rw [Oj,hlen,Sr]; omega,_,e,rv',he⟩),rfl,?_⟩
  refine q _ _ (bF hn _) ?_
  rw [ed,<- ps]
  exact dC hO hn dn'
 unfold qT at hs
 split at hs
 ·rename_i h
  cases hs
  obtain⟨h64,σ',hσ,hsh,pw⟩:=h
  obtain⟨b,σ1,rfl⟩:∃ b σ1,σ'=b::σ1:=by
   cases σ' with
   | nil=>exact absurd rfl hσ
   | cons b σ1=>exact⟨b,σ1,rfl⟩
  have hsh':∀ x∈ds,Sh (b::σ1) (dS x):=fun x hx=>by
   obtain⟨k,rfl,hk⟩:=hsh x hx
   exact hk
  have at':∀ i (hi:i < ds.length),∃ a o xs n,its[i]?=some (.ref a)/\s.heap.get? a=some o/\o.cls=.type "tuple"/\o.data=.seq xs n/\gI xs.toList (dS ds[i]):=fun i hi=>by
   obtain⟨v,e1,dv⟩:=dn.get (i:=i) (d:=ds[i]) (by simp [hi])
   obtain⟨w,e2,rw'⟩:=rv.get e1
   obtain⟨k,ek,hk⟩:=hsh _ (P5 hi)
   rw [ek] at dv ⊢
   obtain⟨a,ws,rfl,ha,dk⟩:=cB.mp dv
   cases rw'
   obtain⟨it2,r2,⟨o,ho,hc,n,hd⟩,_⟩:=I.tuple (bP (aD H O) ha)
   exact⟨a,o,_,n,e2,ho,hc,hd,by simpa [dS] using kI (rP hk) dk r2⟩
  refine sC (κ:=tuples' true) (r:=rank (ds.map dS)) ‹0› hcol (fun h2 h' tk kp Q' hQ=>?_) (fun h2 h' tk kp i j C hi hj hC=>?_) (fin dS _ hsh' pw h64 rfl)
  ·obtain⟨fs,t1,t2,t3⟩:=ou (h:=h') (PT:=fun f=>typeOf f=pure (.type (if b then "int" else "str"))) (its:=its) fun v hv=>by
    obtain⟨i,hi,rfl⟩:=Pa hv
    obtain⟨a,o,xs,n,e1,ho,hc,hd,ff⟩:=at' i ‹0›
    obtain⟨f,ef,tf⟩:=ff.first (hsh' _ (P5 _))
    refine⟨a,o,xs,n,f,?_,kp _ _ ho,hc,hd,by simpa using ef,tf⟩
    have:=O6 hi
    rw [e1] at this
    exact(Option.some.inj this).symm
   refine kat_kind (T:=.type (if b then "int" else "str")) t1 ‹0› (fun f hf=>Looks.of_pure (t3 f hf)) (by cases b <;> rfl) ?_
   have:(Value.type (if b then "int" else "str") != Value.type "tuple")=true:=by cases b <;> rfl
   rw [this]; exact hQ
  ·obtain⟨a,o,xs,n,e1,ho,hc,hd,ff⟩:=at' i ‹0›
   obtain⟨a2,o2,xs2,n2,e2,ho2,hc2,hd2,ff2⟩:=at' j ‹0›
   unfold Tq
   have g1:its.getD i Value.none=.ref a:=by simp [P7,e1]
   have g2:its.getD j Value.none=.ref a2:=by simp [P7,e2]
   rw [g1,g2]
   have hi':i < ds.length:=by omega
   have hj':j < ds.length:=by omega
   have sh1:=hsh' _ (P5 hi')
   have sh2:=hsh' _ (P5 hj')
   have rl:=rA (ks:=ds.map dS) (σ:=b::σ1) (fun k hk=>by obtain⟨x,hx,rfl⟩:=List.mem_map.mp hk; exact hsh' x hx) (i:=i) (j:=j) (by rw [Oj]; exact hi') (by rw [Oj]; exact hj')
   have k1:(ds.map dS).getD i []=dS ds[i]:=by simp [hi']
   have k2:(ds.map dS).getD j []=dS ds[j]:=by simp [hj']
   rw [k1,k2] at rl
   rw [rl] at hC
   refine kat_lt (kp _ _ ho) hd (kp _ _ ho2) hd2 (jN ?_ sh1 sh2 ff ff2 hC)
   have z1:xs.size=(dS ds[i]).length:=by have:=ff.length; simpa using this
   have z2:xs2.size=(dS ds[j]).length:=by have:=ff2.length; simpa using this
   have z3:(dS ds[i]).length=(dS ds[j]).length:=by rw [Sh.length sh1,Sh.length sh2]
   exact decide_eq_false ‹0›
 ·split at hs
  ·rename_i _ h
   cases hs
   obtain⟨h64,b,hsh,pw⟩:=h
   have at':∀ i (hi:i < ds.length),(∃ (n:Int) (t:Tok),b=true/\its[i]?=some (.int n t)/\ds[i]=.int n)\/∃ (x:Str) (t:Tok),b=false/\its[i]?=some (.str x t)/\ds[i]=.str x:=fun i hi=>by
    obtain⟨v,e1,dv⟩:=dn.get (i:=i) (d:=ds[i]) (by simp [hi])
    obtain⟨w,e2,rw'⟩:=rv.get e1
    have hk:=hsh _ (P5 hi)
    generalize ds[i]=di at dv hk
    cases hk with
    | int n _ =>
     rw [fN] at dv; subst dv
     obtain⟨t,rfl⟩:=rw'
     exact .inl ⟨n,t,rfl,e2,rfl⟩
    | str x _ =>
     rw [fP] at dv; subst dv
     obtain⟨t,rfl⟩:=rw'
     exact .inr ⟨x,t,rfl,e2,rfl⟩
   refine sC (κ:=oneType') (r:=rank (ds.map oneOf)) ‹0› hcol (fun h2 h' tk kp Q' hQ=>?_) (fun h2 h' tk kp i j C hi hj hC=>?_) (fin oneOf [b] hsh pw h64 rfl)
   ·refine kas_kind (T:=.type (if b then "int" else "str")) h2 (fun v hv=>?_) (by cases b <;> rfl) (by cases b <;> rfl) hQ
    obtain⟨i,hi,rfl⟩:=Pa hv
    have hg:=O6 hi
    rcases at' i ‹0› with ⟨n,t,rfl,e,_⟩ | ⟨x,t,rfl,e,_⟩
    ·rw [hg] at e; rw [Option.some.inj e]; exact Looks.of_pure rfl
    ·rw [hg] at e; rw [Option.some.inj e]; exact Looks.of_pure rfl
   ·have hi':i < ds.length:=by omega
    have hj':j < ds.length:=by omega
    unfold Tq
    have rl:=rA (ks:=ds.map oneOf) (σ:=[b]) (fun k hk=>by obtain⟨x,hx,rfl⟩:=List.mem_map.mp hk; exact hsh x hx) (i:=i) (j:=j) (by rw [Oj]; exact hi') (by rw [Oj]; exact hj')
    have k1:(ds.map oneOf).getD i []=[ds[i]]:=by simp [hi',oneOf]
    have k2:(ds.map oneOf).getD j []=[ds[j]]:=by simp [hj',oneOf]
    rw [k1,k2] at rl
    rw [rl] at hC
    rcases at' i hi' with ⟨n,t,hb,e1,q1⟩ | ⟨x,t,hb,e1,q1⟩
    ·rcases at' j hj' with ⟨n2,t2,hb2,e2,q2⟩ | ⟨x2,t2,hb2,e2,q2⟩
     ·have g1:its.getD i Value.none=.int n t:=by simp [P7,e1]
      have g2:its.getD j Value.none=.int n2 t2:=by simp [P7,e2]
      rw [g1,g2,keyLt'_oneType]
      refine oneLt_int ?_
      rw [q1,q2] at hC
      unfold kLt at hC
      rw [o3] at hC
      by_cases z:n=n2
      ·rw [if_pos z] at hC
       rw [decide_eq_false ‹0›]
       exact hC
      ·rw [if_neg z] at hC
       cases hd:decide (n < n2) <;> rw [hd] at hC <;> exact hC
     ·rw [hb] at hb2; cases hb2
    ·rcases at' j hj' with ⟨n2,t2,hb2,e2,q2⟩ | ⟨x2,t2,hb2,e2,q2⟩
     ·rw [hb] at hb2; cases hb2
     ·have g1:its.getD i Value.none=.str x t:=by simp [P7,e1]
      have g2:its.getD j Value.none=.str x2 t2:=by simp [P7,e2]
      rw [g1,g2,keyLt'_oneType]
      refine oneLt_str ?_
      rw [q1,q2] at hC
      unfold kLt at hC
      rw [o7] at hC
      by_cases z:x=x2
      ·rw [if_pos z] at hC
       rw [decide_eq_false (by rw [z]; exact sr _)]
       exact hC
      ·rw [if_neg z] at hC
       cases hd:decide (x.cps.toList < x2.cps.toList) <;> rw [hd] at hC <;> exact hC
  ·cases hs
theorem lN:dQ X (.builtin "sorted") (yD X.K fJ):=by
 intro pins s σ H xs us Q I r ⟨O,ds,d,hO,hd,hg,q⟩
 unfold fJ at hg
 split at hg
 ·obtain⟨v,rfl,h1⟩:=hd.one
  obtain⟨p,ws,rfl,g1,g2⟩:=cA.mp h1
  obtain⟨u,rfl,ru⟩:=vals1 r
  cases ru
  obtain⟨its,rv,pl,hz⟩:=I.list ((aD H O).seq g1)
  have hlen:=rv.length
  obtain⟨o,ho,hc,n,hd'⟩:=pl.isList
  exact uZ I hO g2 rv hg (fun Q' hQ=>Tv p (.inl rfl) ho hc hd' (fun h' k=>by simpa using hQ h' s.toks k) (by simp only [Of] <;> omega)) q
 ·obtain⟨v,rfl,h1⟩:=hd.one
  obtain⟨p,ws,rfl,g1,g2⟩:=cB.mp h1
  obtain⟨u,rfl,ru⟩:=vals1 r
  cases ru
  obtain⟨its,rv,⟨o,ho,hc,n,hd'⟩,hz⟩:=I.tuple (bP (aD H O) g1)
  have hlen:=rv.length
  exact uZ I hO g2 rv hg (fun Q' hQ=>Tv p (.inr rfl) ho hc hd' (fun h' k=>by simpa using hQ h' s.toks k) (by simp only [Of] <;> omega)) q
 ·cases hg
end
end TG
namespace TG
open PySem PySem.Spec L2
variable [aV]
section
variable {X:Cx} {tg:R4}
end
end TG
namespace TG
open PySem PySem.Spec L2
variable [aV]

end TG
namespace TG
open PySem PySem.Spec L2
variable [aV]
end TG
namespace TG
open PySem PySem.Spec L2
variable [aV]
def keyOf:D->Option Key
 | .int i=>some (.inl i)
 | .str x=>some (.inr x)
 | _=>none
def keysOf:List D->Option (List Key)
 | []=>some []
 | d::r=>(keyOf d).bind fun k=>(keysOf r).map (k::·)
def iX:D->Option (List Key)
 | .tup ds=>keysOf ds
 | _=>none
theorem sd {d:D} {k:Key} (h:keyOf d=some k):d=bu k:=by
 cases d with
 | int i=>cases h; rfl
 | str x=>cases h; rfl
 | _=>cases h
theorem nG:∀ {ds:List D} {ks:List Key},keysOf ds=some ks->ds=ks.map bu
 | [],_,h=>by cases h; rfl
 | d::r,ks,h=>by
  unfold keysOf at h
  cases e1:keyOf d with
  | none=>rw [e1] at h; cases h
  | some k =>
   rw [e1] at h
   cases e2:keysOf r with
   | none=>rw [e2] at h; cases h
   | some ks'=>rw [e2] at h; cases h; rw [sd e1,nG e2]; rfl
theorem nH {d:D} {k:List Key} (h:iX d=some k):d=.tup (k.map bu):=by
 cases d with
 | tup ds=>rw [nG (show keysOf ds=some k from h)]
 | _=>cases h
theorem cw:∀ ks:List Key,keysOf (ks.map bu)=some ks
 | []=>rfl
 | k::r=>by
  show (keyOf (bu k)).bind _=_
  have e:keyOf (bu k)=some k:=by cases k <;> rfl
  rw [e]
  show (keysOf (r.map bu)).map (k::·)=_
  rw [cw r]; rfl
theorem tT {K:QN} {H:Hp} {k:Key} {v:V} (h:cN K H (bu k) v):v=kV k:=by
 cases k with
 | inl i=>exact fN.mp h
 | inr x=>exact fP.mp h
theorem jk {K:QN} {H:Hp}:∀ {ks:List Key} {vs:List V},aZ K H (ks.map bu) vs->vs=ks.map kV
 | [],vs,h=>by rw [OJ,dh] at h; exact h
 | k::r,vs,h=>by
  rw [Oi,bz] at h
  obtain⟨v,r',e1,h1,h2⟩:=h
  rw [e1,tT h1,jk h2]; rfl
section
variable {P:RO} {w:RN} {H H':Hp} {h:RT} {a:RP}
theorem EB (x:cC P w H h a (.dK [])):cC P w H' h a (.dT []):=by
 obtain⟨z,hd,vs,rel,o,es,ep,h1,h2,h3,h4,h5,h6⟩:=x
 have e:vs=[]:=by have:=rel.length; simpa using this.symm
 subst e
 refine⟨Om _,hd,[],.nil,o,es,ep,h1,h2,h3,?_,by simp⟩
 have:=h5.length
 simpa using this
theorem yB (x:cC P w H h a (.dT [])):cC P w H' h a (.dK []):=by
 obtain⟨z,hd,xs,rel,o,es,ep,h1,h2,h3,h4,h5⟩:=x
 have e:xs=[]:=by have:=rel.length; simpa using this.symm
 subst e
 have e2:es=#[]:=by simpa using h4
 subst e2
 exact⟨Om _,hd,[],.nil,o,#[],ep,h1,h2,h3,fun e he=>by simp at he,.nil,by simp⟩
end
section
variable {X:Cx} {pins:List (RP×Obj)} {σ:St} {H:Hp} {s:R0} {a:RP}
theorem C4 (I:Inv X pins σ H s) (h1:H a=some (.dK [])):Inv X pins σ (upd H a (.dT [])) s:=by
 have hx:=I.hok a _ h1
 have hq:∃ q,s.heap.get? a=some q:=by obtain⟨_,_,_,_,o,_,_,e,_⟩:=id hx; exact⟨o,e⟩
 exact nF (ob:=.dT []) (h':=s.heap) (t':=s.toks) I (by rw [h1]; exact trivial) ⟨rfl,fun _ _=>rfl⟩ hq (EB hx)
theorem J2 (I:Inv X pins σ H s) (h1:H a=some (.dT [])):Inv X pins σ (upd H a (.dK [])) s:=by
 have hx:=I.hok a _ h1
 have hq:∃ q,s.heap.get? a=some q:=by obtain⟨_,_,_,_,o,_,_,e,_⟩:=id hx; exact⟨o,e⟩
 exact nF (ob:=.dK []) (h':=s.heap) (t':=s.toks) I (by rw [h1]; exact trivial) ⟨rfl,fun _ _=>rfl⟩ hq (yB hx)
end
theorem Dg {H:Hp} {a:RP} {o1 o2:HO} (h:H a=some o1):upd (upd H a o2) a o1=H:=by
 funext b
 by_cases e:b=a
 ·subst e; rw [aL,h]
 ·rw [aE e,aE e]
def kH:List D->List D->Option (List (List Key×D))
 | [],[]=>some []
 | k::ks,d::ds=>(iX k).bind fun k=>(kH ks ds).map ((k,d)::·)
 | _,_=>none
abbrev encK (al:List (List Key×D)):List D:=al.map fun p=>.tup (p.1.map bu)
abbrev cO (al:List (List Key×D)):D:=.dct (encK al) (al.map (·.2))
theorem iU:∀ {ks ds:List D} {al:List (List Key×D)},kH ks ds=some al->ks=encK al/\ds=al.map (·.2)
 | [],[],_,h=>by cases h; exact⟨rfl,rfl⟩
 | k::ks,d::ds,al,h=>by
  unfold kH at h
  cases e1:iX k with
  | none=>rw [e1] at h; cases h
  | some k' =>
   rw [e1] at h
   cases e2:kH ks ds with
   | none=>rw [e2] at h; cases h
   | some al' =>
    rw [e2] at h; cases h
    obtain⟨h1,h2⟩:=iU e2
    rw [nH e1,h1,h2]; exact⟨rfl,rfl⟩
 | [],_::_,_,h=>by cases h
 | _::_,[],_,h=>by cases h
theorem jA:∀ al:List (List Key×D),kH (encK al) (al.map (·.2))=some al
 | []=>rfl
 | p::r=>by
  show (iX (.tup (p.1.map bu))).bind _=_
  have e:iX (.tup (p.1.map bu))=some p.1:=cw p.1
  rw [e]
  show (kH (encK r) (r.map (·.2))).map ((p.1,p.2)::·)=_
  rw [jA r]; rfl
theorem my:∀ {al:List (List Key×D)} {ks:List (List Key)},encK al=ks.map (fun k=>.tup (k.map bu))->al.map (·.1)=ks
 | [],[],_=>rfl
 | p::r,k::ks,h=>by
  have h:D.tup (p.1.map bu)::encK r=D.tup (k.map bu)::ks.map (fun k=>.tup (k.map bu)):=h
  injection h with h1 h2
  injection h1 with h1
  have e:some p.1=some k:=by rw [<- cw p.1,h1,cw k]
  rw [Oi,Option.some.inj e,my h2]
 | [],_::_,h=>by cases h
 | _::_,[],h=>by cases h
theorem M7 {K:QN} {H:Hp} {O:List RP} {a:RP} {al:List (List Key×D)} (h:dD K H O a (cO al)) :
  (∃ kvs:List (List Key×V),H a=some (.dT kvs)/\kvs.map (·.1)=al.map (·.1)/\aZ K (hid H O) (al.map (·.2)) (kvs.map (·.2)))\/(H a=some (.dK [])/\al=[]):=by
 obtain⟨o,vs,h1,h2,h3⟩:=h
 rcases h3 with ⟨kvs,e,e1,e2⟩ | ⟨kvs,e,e1,e2⟩
 ·subst e
  cases kvs with
  | nil =>
   refine .inr ⟨h1,?_⟩
   simpa using e1
  | cons p r =>
   cases al with
   | nil=>cases e1
   | cons q r' =>
    have e1:D.tup (q.1.map bu)::encK r'=bu p.1::r.map (fun p=>bu p.1):=e1
    injection e1 with e1 _
    rcases p with ⟨k,v⟩
    cases k <;> cases e1
 ·subst e
  refine .inl ⟨kvs,h1,?_,by rw [<- e2]; exact h2⟩
  exact(my (ks:=kvs.map (·.1)) (by rw [P8]; exact e1)).symm
theorem D9 {kvs:List (List Key×V)} {ks:List (List Key)} (e:kvs.map (·.1)=ks) (k:List Key):(jy kvs k).isSome=ks.any fun q=>decide (q=k):=by
 subst e
 induction kvs with
 | nil=>rfl
 | cons p r ih =>
  rw [Oi,OM,<- ih]
  by_cases e:p.1=k
  ·rw [kB e]; simp [e]
  ·rw [jn e]; simp [e]
def qM (ks ds:List D) (k:D):Option D:=(kH ks ds).bind fun al=>(iX k).bind fun k=>some (.bl (al.any fun p=>decide (p.1=k)))
def NC (i:Nat) (f:FX):FX:=fun ρ=>(f ρ).bind fun k=>match ρ[i]? with
 | some (some (.own (.dct ks ds)))=>rO (qM ks ds k)
 | _=>un
theorem y9 {ks ds:List D} {k d:D} (h:qM ks ds k=some d):∃ al q,ks=encK al/\ds=al.map (·.2)/\k=.tup (q.map bu)/\d=.bl (al.any fun p=>decide (p.1=q)):=by
 unfold qM at h
 cases e1:kH ks ds with
 | none=>rw [e1] at h; cases h
 | some al =>
  rw [e1] at h
  cases e2:iX k with
  | none=>rw [e2] at h; cases h
  | some q =>
   rw [e2] at h; cases h
   obtain⟨h1,h2⟩:=iU e1
   exact⟨al,q,h1,h2,nH e2,rfl⟩
def gX (al:List (List Key×D)) (k:List Key) (v:D):List (List Key×D):=if (al.any fun p=>decide (p.1=k))=true then al.map (fun p=>if p.1=k then (p.1,v) else p) else al++[(k,v)]
def vo (ks ds:List D) (k v:D):Option (List (List Key×D)):=(kH ks ds).bind fun al=>(iX k).bind fun k=>if small al.length then some (gX al k v) else none
def sE (i:Nat) (fk fv:FX):cn:=fun k ρ=>match ρ[i]? with
 | some (some (.own (.dct ks ds)))=>uj ((fv ρ).bind fun v=>(fk ρ).bind fun q=>rO (vo ks ds q v)) k ρ fun al=>k.nx (ρ.set i (some (.own (cO al))))
 | _=>un
theorem zk {ks ds:List D} {k v:D} {al':List (List Key×D)} (h:vo ks ds k v=some al'):∃ al q,ks=encK al/\ds=al.map (·.2)/\k=.tup (q.map bu)/\small al.length=true/\al'=gX al q v:=by
 unfold vo at h
 cases e1:kH ks ds with
 | none=>rw [e1] at h; cases h
 | some al =>
  rw [e1] at h
  cases e2:iX k with
  | none=>rw [e2] at h; cases h
  | some q =>
   rw [e2] at h
   obtain⟨h3,h4⟩:=bE (show (if small al.length then some (gX al q v) else none)=some al' from h)
   obtain⟨h1,h2⟩:=iU e1
   exact⟨al,q,h1,h2,nH e2,h3,h4.symm⟩
theorem yP {kvs:List (List Key×V)} {al:List (List Key×D)} (e:kvs.map (·.1)=al.map (·.1)) (k:List Key) (w:V) (d:D):(putK kvs k w).map (·.1)=(gX al k d).map (·.1):=by
 have e2:(kvs.any fun p=>decide (p.1=k))=(al.any fun p=>decide (p.1=k)):=by
  have:=congrArg (fun l=>l.any fun q=>decide (q=k)) e
  simpa [P9,Function.comp_def] using this
 unfold putK gX
 rw [e2]
 split
 ·have e3:∀ (l:List (List Key×V)),(l.map fun kv=>if kv.1=k then (kv.1,w) else kv).map (·.1)=l.map (·.1):=fun l=>by
   rw [P8]; refine Ph fun p _=>?_
   show (if p.1=k then (p.1,w) else p).1=p.1
   split <;> rfl
  have e4:∀ (l:List (List Key×D)),(l.map fun kv=>if kv.1=k then (kv.1,d) else kv).map (·.1)=l.map (·.1):=fun l=>by
   rw [P8]; refine Ph fun p _=>?_
   show (if p.1=k then (p.1,d) else p).1=p.1
   split <;> rfl
  rw [e3,e4,e]
 ·rw [Pj,Pj,e]; rfl
theorem xW {K:QN} {H:Hp} {k:List Key} {w:V} {d:D} (hw:cN K H d w):∀ {kvs:List (List Key×V)} {al:List (List Key×D)},kvs.map (·.1)=al.map (·.1)->aZ K H (al.map (·.2)) (kvs.map (·.2)) ->
  aZ K H ((al.map fun p=>if p.1=k then (p.1,d) else p).map (·.2)) ((kvs.map fun p=>if p.1=k then (p.1,w) else p).map (·.2))
 | [],[],_,h=>h
 | p::r,q::r',e,h=>by
  rw [Oi,Oi] at e
  injection e with e1 e2
  rw [Oi,Oi,bz] at h
  obtain⟨v,ws,h0,h1,h2⟩:=h
  injection h0 with h0 h0'
  subst h0 h0'
  have ih:=xW (k:=k) hw e2 h2
  rw [Oi,Oi,Oi,Oi,bz]
  refine⟨_,_,rfl,?_,ih⟩
  rw [e1]
  split
  ·exact hw
  ·exact h1
 | [],_::_,e,_=>by cases e
 | _::_,[],e,_=>by cases e
theorem Ax {K:QN} {H:Hp} {k:List Key} {w:V} {d:D} (hw:cN K H d w) {kvs:List (List Key×V)} {al:List (List Key×D)} (e:kvs.map (·.1)=al.map (·.1)) (h:aZ K H (al.map (·.2)) (kvs.map (·.2))) :
  aZ K H ((gX al k d).map (·.2)) ((putK kvs k w).map (·.2)):=by
 have e2:(kvs.any fun p=>decide (p.1=k))=(al.any fun p=>decide (p.1=k)):=by
  have:=congrArg (fun l=>l.any fun q=>decide (q=k)) e
  simpa [P9,Function.comp_def] using this
 unfold putK gX
 rw [e2]
 split
 ·exact xW hw e h
 ·rw [Pj,Pj]
  exact h.append (bz.mpr ⟨w,[],rfl,hw,dh.mpr rfl⟩)
theorem tM {kvs:List (List Key×V)} {al:List (List Key×D)} (e:kvs.map (·.1)=al.map (·.1)):encK al=kvs.map fun p=>D.tup (p.1.map bu):=by
 have:=congrArg (List.map fun k:List Key=>D.tup (k.map bu)) e
 rw [P8,P8] at this
 exact this.symm
theorem rZ {H:Hp} {a:RP} {o1 o2:HO}:upd (upd H a o1) a o2=upd H a o2:=by
 funext b
 by_cases e:b=a
 ·subst e; rw [aL,aL]
 ·rw [aE e,aE e,aE e]
def HA (td ty tv:TE):TS:=fun D σ H=>tv σ H fun v H1=>td σ H1 fun x H2=>ty σ H2 fun y H3=>∃ a k b kvs,x=.ref a/\y=.ref b/\H3 b=some (.tup (k.map kV))/\(H3 a=some (.dT kvs)\/(H3 a=some (.dK [])/\kvs=[]))/\kvs.length < RU/\D.nx σ (upd H3 a (.dT (putK kvs k v)))
section
variable {X:Cx} {o idx value:R4} {pos pos':Pos} {td ty tv:TE}
theorem Ee (hu:X.A.units+1 < Sy) (ho:PE X o td) (hi:PE X idx ty) (hv:PE X value tv) (hs:swapsWith value (some (.Subscript o idx pos')) pos.line X.env=pure false):PS X (.Assign [.Subscript o idx pos'] value pos) (HA td ty tv):=by
 intro pins s σ H D I h
 refine wpAny_Assign_Subscript (eX (hv pins s σ H _ I h) fun r s1 ⟨v,H1,I1,rv,q1⟩=>eX (ho pins s1 σ H1 _ I1 q1) fun u s2 ⟨x,H2,I2,rx,q2⟩=>eX (hi pins s2 σ H2 _ I2 q2) fun iv s3 ⟨y,H3,I3,ry,a,k,b,kvs,ex,ey,hb,ha,hl,q3⟩=>?_) hs
 subst ex ey
 obtain rfl:u=Value.ref a:=rx
 rcases ha with ha | ⟨ha,rfl⟩
 ·exact nq hu I3 (IG.t ha hb hl) ry rv fun s4 I4=>⟨σ,_,I4,q3⟩
 ·have ne:b≠a:=fun z=>by rw [z,ha] at hb; cases hb
  refine nq hu (C4 I3 ha) (IG.t aL (by rw [aE ne]; exact hb) hl) ry rv fun s4 I4=>⟨σ,_,I4,?_⟩
  rw [rZ]; exact q3
end
theorem Li {X:Cx} {i:Nat} {x:Str} {idx value:R4} {fk fv:FX} {npos tpos pos:Pos} (hu:X.A.units+64 < Sy) (hx:PE X (.Name x npos) (tJ i)) (hi:FE X idx fk) (hv:FE X value fv)
  (hs:swapsWith value (some (.Subscript (.Name x npos) idx tpos)) pos.line X.env=pure false:=by rfl) :
  FS X (.Assign [.Subscript (.Name x npos) idx tpos] value pos) (sE i fk fv):=fun Hb Ob pins s σ H E I ⟨O,ρ,k,rr,S,hF,hk⟩=>by
 unfold sE at hF
 split at hF
 ·rename_i ks ds hxs
  obtain⟨a,ha,haO,hat⟩:=S.env.own i _ hxs
  have hP:=jF.on hF hk S (Q:=fun al=>k.nx (ρ.set i (some (.own (cO al))))=rr) fun p e=>e
  refine Ee ‹0› hx hi hv hs pins s σ H E I ⟨O,ρ,S.env,(jF.bind hP).imp fun y hP v H1 s1 d1=>?_⟩
  have S1:=S.same s1
  refine⟨.ref a,ha,O,ρ,S1.env,((jF.bind hP).mono s1).imp fun j hP w H2 s2 d2=>?_⟩
  have S2:=S1.same s2
  obtain⟨al',hg,e⟩:=jF.rO hP
  obtain⟨al,q,f1,f2,f3,f4,f5⟩:=zk hg
  subst f1 f2 f3 f5
  have s12:=s1.trans s2
  obtain⟨b,ws,eb,g1,g2⟩:=cB.mp d2
  rw [jk g2] at g1
  have hat2:dD X.K H2 O a (cO al):=hat.mono (let ⟨_,z⟩:=hat.some; rR s12 z) (bX s12)
  have dv:cN X.K (hid H2 O) y v:=d1.mono (bX s2)
  have fin:∀ kvs:List (List Key×V),kvs.map (·.1)=al.map (·.1)->aZ X.K (hid H2 O) (al.map (·.2)) (kvs.map (·.2))->dD X.K (upd H2 a (.dT (putK kvs q v))) O a (cO (gX al q y)):=fun kvs k2 k3 =>
   ⟨_,_,aL,(Ax dv k2 k3).mono (ia haO),.inr ⟨putK kvs q v,rfl,tM (yP k2 q v y),rfl⟩⟩
  rcases M7 hat2 with ⟨kvs,k1,k2,k3⟩ | ⟨k1,rfl⟩
  ·have hl:kvs.length=al.length:=by have:=congrArg List.length k2; simpa using this
   exact⟨a,q,b,kvs,rfl,eb,(aD H2 O) _ _ g1,.inl k1,by rw [hl]; exact Pq (of_decide_eq_true f4) (by decide),hk.nx O _ σ _ (S2.setO hxs ha trivial (fin kvs k2 k3)) e⟩
  ·exact⟨a,q,b,[],rfl,eb,(aD H2 O) _ _ g1,.inr ⟨k1,rfl⟩,by decide,hk.nx O _ σ _ (S2.setO hxs ha trivial (fin [] rfl (dh.mpr rfl))) e⟩
 ·exact absurd hF.symm hk.ne
end TG
namespace TG
open PySem PySem.Spec L2
variable [aV]
end TG
namespace TG
open PySem PySem.Spec PySem.W PySem.Calls PyProof.Rows Builtin Builtin.ObjectAttr Builtin.Getset_descriptor
variable [aV]
end TG
namespace TG
open PySem PySem.Spec L2
variable [aV]
open PyProof.Rows (AllBare OwnCls)
end TG
namespace TG
open PySem PySem.Spec L2
variable [aV]
end TG
namespace TG
open PySem PySem.Spec L2
variable [aV]
end TG
namespace TG
open PySem PySem.Spec L2
variable [aV]
end TG
namespace TG
open PySem PySem.Spec L2
def pB (P:RP) (pos:Pos) (q:Str):(RP->Prop)->RT->Prop:=fun S h=>h.get? P=some (Q8 #[])\/∃ c,S c/\h.get? P=some (Q8 #[rawInt pos.line,rawInt pos.col,.ref c])/\h.CodeRec (.ref c) q
theorem pB.stay {P:RP} {pos:Pos} {q:Str} {S1 S2:RP->Prop} {h1 h2:RT} (x:pB P pos q S1 h1) (s:∀ b,S1 b->S2 b) (k:∀ b o,(b=P\/S1 b)->h1.get? b=some o->h2.get? b=some o):pB P pos q S2 h2:=by
 rcases x with e | ⟨c,hc,e,c',o,vs,t,ec,e1,r⟩
 ·exact .inl (k _ _ (.inl rfl) e)
 ·cases ec
  exact .inr ⟨c,s c hc,k _ _ (.inl rfl) e,c,o,vs,t,rfl,k _ _ (.inr hc) e1,r⟩
theorem pB.ok {Pg:RO} {w:RN} {H:Hp} {h:RT} {P:RP} {pos:Pos} {q:Str} (x:pB P pos q (fun b=>H b=some (.own P)) h):cC Pg w H h P (.ext (pB P pos q)) :=
 ⟨x,by rcases x with e | ⟨_,_,e,_⟩ <;> exact⟨_,e⟩,fun _ _ _ _ x s k=>x.stay s k⟩
abbrev ww (P:RP) (pos:Pos) (q:Str):aV:=⟨fun H=>H P=some (.ext (pB P pos q)),fun h e=>e _ _ h,fun {H p o o'} h hp m=>by
 rw [aE]
 ·exact h
 ·rintro rfl
  rw [h] at hp; cases hp; exact m⟩
end TG
namespace TG
open PySem PySem.Spec PyProof.Rows PySem.W L2
variable [aV]
def uC (key:List D) (h:RT) (k:RM):Prop:=∃ b o xs n,k=.ref b/\h.get? b=some o/\o.cls=.type "tuple"/\o.data=.seq xs n/\gI xs.toList key
theorem uC.keep {key:List D} {h h':RT} {k:RM} (x:uC key h k) (kp:∀ b o,h.get? b=some o->h'.get? b=some o):uC key h' k:=by
 obtain⟨b,o,xs,n,e,ho,r⟩:=x
 exact⟨b,o,xs,n,e,kp _ _ ho,r⟩
theorem uC.stay {key:List D} {h h':RT} {k:RM} {c:RP} {xs:Array RM} {n:Nat} (x:uC key h k) (hc:h.get? c=some (seqObj "list" xs n)) (kp:∀ b o,b≠c->h.get? b=some o->h'.get? b=some o):uC key h' k:=by
 obtain⟨b,o,ys,m,e,ho,hk,r⟩:=x
 refine⟨b,o,ys,m,e,kp _ _ (fun z=>?_) ho,hk,r⟩
 subst z
 rw [hc] at ho
 cases ho
 revert hk
 show ¬ (Value.type "list"=Value.type "tuple")
 simp
section
variable {prog:RO} {w:RN} {A:RZ} {E:RM->R0->Prop} {s:R0}
theorem B9 {ks:List RM} {keys:List (List D)} {σ:List Bool} {b:Bool} {Q:Tp->R0->Prop} (hl:ks.length=keys.length) (hsh:∀ k∈keys,Sh (b::σ) k) (h1:1<=ks.length)
  (hk:∀ i,i < ks.length->uC (keys.getD i []) s.heap (ks.getD i Value.none)) (h:Q (tuples' true) s):R3 (model prog w) A (keyKind' ks.toArray) Q E s:=by
 obtain⟨fs,t1,t2,t3⟩:=ou (h:=s.heap) (PT:=fun f=>typeOf f=pure (.type (if b then "int" else "str"))) (its:=ks) fun v hv=>by
  obtain⟨i,hi,rfl⟩:=Pa hv
  obtain⟨a,o,xs,n,e1,ho,hc,hd,ff⟩:=hk i hi
  have hi':i < keys.length:=by omega
  have gk:keys.getD i []=keys[i]:=by simp [hi']
  rw [gk] at ff
  obtain⟨f,ef,tf⟩:=ff.first (hsh _ (P5 hi'))
  have gv:ks.getD i Value.none=ks[i]:=by simp [hi]
  rw [gv] at e1
  exact⟨a,o,xs,n,f,e1,ho,hc,hd,by simpa using ef,tf⟩
 refine kat_kind (T:=.type (if b then "int" else "str")) t1 ‹0› (fun f hf=>Looks.of_pure (t3 f hf)) (by cases b <;> rfl) ?_
 have:(Value.type (if b then "int" else "str") != Value.type "tuple")=true:=by cases b <;> rfl
 rw [this]; exact h
theorem Ao {ks:List RM} {keys:List (List D)} {σ:List Bool} {b:Bool} (hl:ks.length=keys.length) (hsh:∀ k∈keys,Sh (b::σ) k)
  (hk:∀ i,i < ks.length->uC (keys.getD i []) s.heap (ks.getD i Value.none)):mr (Tq prog w A (tuples' true) ks) (rank keys) ks.length s:=by
 intro i j C hi hj hC
 obtain⟨a,o,xs,n,e1,ho,hc,hd,ff⟩:=hk i hi
 obtain⟨a2,o2,xs2,n2,e2,ho2,hc2,hd2,ff2⟩:=hk j hj
 unfold Tq
 rw [e1,e2]
 have hi':i < keys.length:=by omega
 have hj':j < keys.length:=by omega
 have gi:keys.getD i []=keys[i]:=by simp [hi']
 have gj:keys.getD j []=keys[j]:=by simp [hj']
 have sh1:=hsh _ (P5 hi')
 have sh2:=hsh _ (P5 hj')
 have rl:=rA (ks:=keys) hsh hi' hj'
 rw [rl] at hC
 rw [gi] at ff
 rw [gj] at ff2
 rw [gi,gj] at hC
 refine kat_lt ho hd ho2 hd2 (jN ?_ sh1 sh2 ff ff2 hC)
 have z1:xs.size=keys[i].length:=by have:=ff.length; simpa using this
 have z2:xs2.size=keys[j].length:=by have:=ff2.length; simpa using this
 have z3:keys[i].length=keys[j].length:=by rw [Sh.length sh1,Sh.length sh2]
 exact decide_eq_false ‹0›
theorem Dz {f:RM} {a:RP} {vs:List RM} {n:Nat} {keys:List (List D)} {σ:List Bool} {b:Bool} {P:PySem.Fin->R0->Prop}
  (ho:s.heap.get? a=some (seqObj "list" vs.toArray n)) (h64:vs.length < 64) (hl:keys.length=vs.length) (hsh:∀ k∈keys,Sh (b::σ) k)
  (hc:∀ (i:Nat) (v:RM) (h':RT) (tk:Nat) (Q':RM->R0->Prop),vs[i]?=some v->(∀ c o,c≠a->s.heap.get? c=some o->h'.get? c=some o) ->
   (∀ k h'' tk',(∀ c o,h'.get? c=some o->h''.get? c=some o)->uC (keys.getD i []) h'' k->Q' k { s with heap:=h'',toks:=tk' })->R3 (model prog w) A (call f [v]) Q' (fun _ _=>False) { s with heap:=h',toks:=tk })
  (h:∀ (p:Array Nat) (h':RT) (e tk:Nat),PM vs.length p->Up (rank keys) p vs.length->(∀ c o,c≠a->s.heap.get? c=some o->h'.get? c=some o)->h'.get? a=some (seqObj "list" (List.toArray (p.toList.map fun i=>vs.getD i Value.none)) e) ->
   P (.done (.ret .none)) { s with heap:=h',toks:=tk }):R3 (model prog w) A (ksk_tree a f false) P E s:=by
 have ha:a < s.heap.objs.size:=Rh ho
 obtain⟨e1,ho1⟩:∃ e1,(s.heap.update a (Obj.mapSeq fun _=>(#[]:Array RM))).get? a=some (seqObj "list" #[] e1):=⟨_,Ts ho (fun _=>#[])⟩
 unfold ksk_tree
 refine Se (listItems_at ho rfl ?_)
 refine Se (Tr ho rfl ?_ (by rw [Of,Sr]; omega) (Om _))
 refine Se (Tt ho1 rfl ?_)
 refine Se (Tj ?_ (by show vs.length<=_; rw [Sr]; omega))
 refine Se (Tu ?_ (Om _))
 refine SN ?_
 have hkS:((s.heap.update a (Obj.mapSeq fun _=>(#[]:Array RM))).push (seqObj "tuple" vs.toArray 0)).objs.size=s.heap.objs.size+1:=by rw [size_push',Rr]
 show R3 (model prog w) A (ksk_rest a f false vs.toArray e1 (.ref ((s.heap.update a (Obj.mapSeq fun _=>(#[]:Array RM))).push (seqObj "tuple" vs.toArray 0)).objs.size)) P E { s with heap:=((s.heap.update a (Obj.mapSeq fun _=>(#[]:Array RM))).push (seqObj "tuple" vs.toArray 0)).push (seqObj "list" #[] 0) }
 rw [hkS]
 have hS0:(((s.heap.update a (Obj.mapSeq fun _=>(#[]:Array RM))).push (seqObj "tuple" vs.toArray 0)).push (seqObj "list" #[] 0)).get? (s.heap.objs.size+1)=some (seqObj "list" #[] 0):=by rw [<- hkS]; exact Rm _ rfl
 have hA0:(((s.heap.update a (Obj.mapSeq fun _=>(#[]:Array RM))).push (seqObj "tuple" vs.toArray 0)).push (seqObj "list" #[] 0)).get? a=some (seqObj "list" #[] e1):=Rl _ (Rl _ ho1)
 have hK0:∀ b o,b≠a->s.heap.get? b=some o->(((s.heap.update a (Obj.mapSeq fun _=>(#[]:Array RM))).push (seqObj "tuple" vs.toArray 0)).push (seqObj "list" #[] 0)).get? b=some o:=fun b o hb e =>
  Rl _ (Rl _ (by rw [Rt _ _ _ _ hb]; exact e))
 have hne:a≠s.heap.objs.size+1:=N0 (OX ha)
 have hold:∀ c o,s.heap.get? c=some o->c≠s.heap.objs.size+1:=fun c o e=>N0 (OX (Rh e))
 generalize (((s.heap.update a (Obj.mapSeq fun _=>(#[]:Array RM))).push (seqObj "tuple" vs.toArray 0)).push (seqObj "list" #[] 0))=h0 at hS0 hA0 hK0
 generalize s.heap.objs.size+1=kS at hS0 hne hold
 unfold ksk_rest
 refine Se (S7 ?_)
 first
  | rw [List.forIn_toArray]
  | (rw [<- Array.forIn_toList]; simp only [Qa])
  | rw [<- Array.forIn_toList]
 refine Se (ksk_fold (fun i s'=>∃ (ks:List RM) (e:Nat) (h':RT) (tk:Nat),s'={ s with heap:=h',toks:=tk }/\ks.length=i/\i<=vs.length/\h'.get? kS=some (seqObj "list" (List.toArray ks) e)/\h'.get? a=some (seqObj "list" #[] e1) /\
  (∀ c o,c≠a->s.heap.get? c=some o->h'.get? c=some o)/\∀ j,j < i->uC (keys.getD j []) h' (ks.getD j Value.none)) vs 0 _ ⟨[],0,h0,s.toks,rfl,rfl,Om _,hS0,hA0,hK0,fun j hj=>absurd hj (Nat.not_lt_zero _)⟩ ?_ ?_)
 ·rintro j x s' hx ⟨ks,e,h',tk,rfl,hlen,hle,hS,hA,hK,hT⟩
  rw [PD] at hlen hle hT
  have hj:j < vs.length:=by
   rcases Qb j vs.length with z | z
   ·exact z
   ·rw [Qc z] at hx; cases hx
  refine Se (Tl (R7 (hc j x h' tk (fun k s''=>∃ h'' tk',s''={ s with heap:=h'',toks:=tk' }/\(∀ c o,h'.get? c=some o->h''.get? c=some o)/\uC (keys.getD j []) h'' k) hx hK fun k h'' tk' kp tK=>⟨h'',tk',rfl,kp,tK⟩) (fun k s'' hk=>?_) fun _ _ hF=>hF.elim))
  obtain⟨h'',tk',rfl,kp,tK⟩:=hk
  have nk:=kp _ _ hS
  have s1:∀ c o,c≠kS->h''.get? c=some o->(h''.update kS (Obj.mapSeq (·.push k))).get? c=some o:=fun c o hc' e=>by rw [Rt _ _ _ _ hc']; exact e
  have ea:(List.toArray ks).push k=List.toArray (ks++[k]):=by simp
  obtain⟨c2,hc2⟩:∃ c2,(h''.update kS (Obj.mapSeq (·.push k))).get? kS=some (seqObj "list" (List.toArray (ks++[k])) c2):=⟨_,by rw [<- ea]; exact Ts nk (·.push k)⟩
  try dsimp only
  refine Se (Tr nk rfl ?_ (by rw [Of,Sr]; omega) (N1 (Ol (Array.size_push ..)) (by rw [Of,Sr]; omega)))
  refine Sd ⟨rfl,ks++[k],c2,_,tk',rfl,by rw [OA,OH]; omega,by omega,hc2,s1 _ _ hne (kp _ _ hA),fun c o h1 h2=>s1 _ _ (hold c o h2) (kp _ _ (hK c o h1 h2)),fun i hi=>?_⟩
  refine uC.stay (c:=kS) ?_ nk s1
  by_cases z:i=j
  ·subst z
   have:(ks++[k]).getD i Value.none=k:=by simp [P7,<- hlen]
   rw [this]; exact tK
  ·have hi':i < ks.length:=by omega
   have:(ks++[k]).getD i Value.none=ks.getD i Value.none:=by simp [P7,Ox hi']
   rw [this]; exact(hT i ‹0›).keep kp
 ·rintro s' ⟨ks,e,h',tk,rfl,hlen,hle,hS,hA,hK,hT⟩
  rw [PD] at hlen hT
  try dsimp only
  refine Se (listItems_at hS rfl ?_)
  have tail:∀ (p:Array Nat) (st:SortSt),(arrOf st).map (·.2)=List.toArray (p.toList.map fun i=>vs.getD i Value.none)->failedOf st=none->PM vs.length p->Up (rank keys) p vs.length->R3 (model prog w) A (ksk_tail a false e1 (.ref kS) st) P E { s with heap:=h',toks:=tk }:=by
   intro p st hout hf hp hu
   obtain⟨ck,hck⟩:∃ ck,(h'.update kS (Obj.mapSeq fun _=>(#[]:Array RM))).get? kS=some (seqObj "list" #[] ck):=⟨_,Ts hS fun _=>#[]⟩
   have hA2:(h'.update kS (Obj.mapSeq fun _=>(#[]:Array RM))).get? a=some (seqObj "list" #[] e1):=by rw [Rt _ _ _ _ hne]; exact hA
   obtain⟨c2,hc2⟩:∃ c2,((h'.update kS (Obj.mapSeq fun _=>(#[]:Array RM))).update a (Obj.mapSeq fun _=>List.toArray (p.toList.map fun i=>vs.getD i Value.none))).get? a=some (seqObj "list" (List.toArray (p.toList.map fun i=>vs.getD i Value.none)) c2):=⟨_,Ts hA2 fun _=>List.toArray (p.toList.map fun i=>vs.getD i Value.none)⟩
   unfold ksk_tail
   try dsimp only
   rw [hout]
   refine Se (Tr hS rfl ?_ (by rw [Of,Sr]; omega) (Om _))
   refine Se (Ti ?_)
   refine Se (Tt hA2 rfl ?_)
   simp only [OW,if_false]
   refine Se (Tr hA2 rfl ?_ (Om _) (by rw [Of,Oj,Array.length_toList,hp.size,Sr]; omega))
   rw [hf]
   simp only [bne_self_eq_false,OW,if_false]
   exact Sd (h p _ c2 tk hp hu (fun c o h1 h2=>by rw [Rt _ _ _ _ h1,Rt _ _ _ _ (hold c o h2)]; exact hK c o h1 h2) hc2)
  unfold ksk_end
  try dsimp only
  simp only [OW,if_false]
  have hl2:ks.length=vs.length:=hlen
  by_cases h2:vs.toArray.size < 2
  ·rw [if_pos h2,if_pos h2]
   refine Se (Sd ?_)
   rw [StateT.run_pure]
   refine Se (Sd ?_)
   dsimp only
   refine tail (List.toArray (List.range vs.length)) _ ?_ rfl (Array.Perm.refl _) fun i j hij hj=>?_
   ·refine kat_snds hl2 ?_
    show (List.toArray ks).zip vs.toArray=_
    have e:=kas_range ((List.toArray ks).zip vs.toArray)
    rw [show ((List.toArray ks).zip vs.toArray).size=vs.length by simp [hl2]] at e
    exact e.symm
   ·have:vs.length < 2:=by simpa using h2
    have:i=j:=by omega
    subst this; exact Oa _
  ·have h2':2<=vs.length:=by
    have:¬ vs.length < 2:=by simpa using h2
    omega
   rw [if_neg h2,if_neg h2]
   refine Se (B9 (s:={ s with heap:=h',toks:=tk }) ‹0› hsh ‹0› (fun i hi=>hT i ‹0›) ?_)
   refine Se (R7 (kat_run (Q:=fun st' s'=>∃ p:Array Nat,arrOf st'=p.map (kas_item ((List.toArray ks).zip vs.toArray))/\failedOf st'=none/\PM vs.length p/\Up (rank keys) p vs.length/\s'={ s with heap:=h',toks:=tk })
    (G:=fun p s'=>PM vs.length p/\Up (rank keys) p vs.length/\s'={ s with heap:=h',toks:=tk })
    hl2 h2' h64 (fun p' st' s' a1 a2 a3 a4=>⟨p',a2,a3,a4.1,a4.2.1,a4.2.2⟩) (by
     have:=Ao (prog:=prog) (w:=w) (A:=A) (s:={ s with heap:=h',toks:=tk }) (ks:=ks) (keys:=keys) ‹0› hsh (fun i hi=>hT i ‹0›)
     rw [hl2] at this
     exact A0 this ‹0› fun p hp hu=>⟨hp,hu,rfl⟩)) ?_ fun _ _ e=>e)
   rintro⟨⟨⟩,st'⟩ s' ⟨p,har,hf,hp,hu,rfl⟩
   dsimp only
   exact tail p st' (kat_snds hl2 har) hf hp hu
theorem xB {src:RM} {f:RP} {vs:List RM} {keys:List (List D)} {σ:List Bool} {b:Bool} {Q:RM->R0->Prop} (h64:vs.length < 64) (hl:keys.length=vs.length) (hsh:∀ k∈keys,Sh (b::σ) k)
  (hcol:∀ (Q':List RM->R0->Prop),(∀ h' tk,(∀ b o,s.heap.get? b=some o->h'.get? b=some o)->Q' vs { s with heap:=h',toks:=tk })->R3 (model prog w) A.in1 (collect src) Q' E s)
  (hc:∀ (i:Nat) (v:RM) (h':RT) (tk:Nat) (Q':RM->R0->Prop),vs[i]?=some v->(∀ c o,s.heap.get? c=some o->h'.get? c=some o) ->
   (∀ k h'' tk',(∀ c o,h'.get? c=some o->h''.get? c=some o)->uC (keys.getD i []) h'' k->Q' k { s with heap:=h'',toks:=tk' })->R3 (model prog w) A.in1.in1 (call (.ref f) [v]) Q' (fun _ _=>False) { s with heap:=h',toks:=tk })
  (h:∀ (p:Array Nat) (h1 h':RT) (l:RP) (e tk:Nat),PM vs.length p->Up (rank keys) p vs.length->(∀ b o,s.heap.get? b=some o->h1.get? b=some o)->(∀ b o,h1.get? b=some o->h'.get? b=some o)->h1.objs.size<=l->h'.get? l=some (seqObj "list" (List.toArray (p.toList.map fun i=>vs.getD i Value.none)) e)->Q (.ref l) { s with heap:=h',toks:=tk }) :
  R3 (model prog w) A (call (.builtin "sorted") [src] [(Str.ofString "key",.ref f)]) Q E s:=by
 refine PyProof.Rows.call_function_entry_kw kind_sorted plain_sorted entry_sorted (ksk_s1 _ _) ?_
 unfold Builtin.«sorted»
 refine Se (m:=checkCount "sorted" 1 1 _) (Sd ?_)
 refine Se (hcol _ fun h1 tk k1=>?_)
 refine Se (Tu ?_ (by rw [Sr]; omega))
 have hoL:(h1.push (seqObj "list" vs.toArray 0)).get? h1.objs.size=some (seqObj "list" vs.toArray 0):=Rm _ rfl
 have k2:∀ b o,s.heap.get? b=some o->(h1.push (seqObj "list" vs.toArray 0)).get? b=some o:=fun b o e=>Rl _ (k1 b o e)
 have ne:∀ b o,s.heap.get? b=some o->b≠h1.objs.size:=fun b o e=>N0 (Rh (k1 b o e))
 refine Se (SN (wpAny_call_entry_kw slot_list_sort ⟨_,hoL,rfl⟩ entry_list_sort ?body (ksk_l1 _ _)))
 case body =>
  show R3 (model prog w) A.in1.in1 (Builtin.«list.sort» ⟨[.ref h1.objs.size],[(Str.ofString "key",.ref f)]⟩) _ _ _
  rw [ksk_t1]
  refine Dz (s:={ s with heap:=h1.push (seqObj "list" vs.toArray 0),toks:=tk }) hoL h64 hl hsh (fun i v h' tk' Q' hv hk hq=>hc i v h' tk' Q' hv (fun c o e=>hk c o (ne c o e) (k2 c o e)) hq) fun p h' e tk' hp hu hk he=>⟨_,rfl,?_⟩
  refine Sd ⟨_,rfl,?_⟩
  exact h p h1 h' h1.objs.size e tk' hp hu k1 (fun b o q=>hk b o (N0 (Rh q)) (Rl _ q)) (Oa _) he
end
end TG
namespace TG
open PySem PySem.Spec PyProof.Rows PySem.W L2
variable [aV]
abbrev cutE (row many:Str) (np mp p2 pos:Pos):R4:=.Subscript (.Name row np) (.Slice none (some (.Name many mp)) none p2) pos
section
variable {prog:RO} {w:RN} {A:RZ} {E:RM->R0->Prop} {s:R0}
theorem EA {env:Env} {row many:Str} {np mp p2 pos:Pos} {r c:RP} {items:Array RM} {i:Int} {t:Tok} {m:Str->Option RM} {Q:RM->R0->Prop}
  (hk:env.scope.kind=.function) (hr:env.kindOf row=some .local) (hm:env.kindOf many=some .free) (hn:s.heap.Ns env.locals m) (hrow:m row=some (.ref r)) (hc:env.cells.lookup many=some c) (hcell:s.heap.IsCell c (some (.int i t)))
  (ht:RV s.heap r items) (hz:items.size<=RU) (d1:(row==("__debug__":Str))=false) (d2:(many==("__debug__":Str))=false) (d3:(many==("__classdict__":Str))=false)
  (h:∀ b h',(∀ c o,s.heap.get? c=some o->h'.get? c=some o)->RV h' b (List.toArray (items.toList.take (HT.sIx items.size items.size (some i))))->Q (.ref b) { s with heap:=h' }) :
  R3 (model prog w) A (eval (cutE row many np mp p2 pos) env) Q E s:=by
 refine SZ (R8 (wpAny_loadName_local hk hr hn hrow ?_) d1)
 refine wpAny_Slice ?_
 rw [SY,evalPart_some]
 refine Sd (R8 (wpAny_loadName_free hk hm hc hcell ?_ d3) d2)
 refine Sd ?_
 have kp:∀ c o,s.heap.get? c=some o->(s.heap.push { cls:=.type "slice",data:=.fields #[.none,.int i t,.none] }).get? c=some o:=fun c o q=>Rl _ q
 have ht':RV (s.heap.push { cls:=.type "slice",data:=.fields #[.none,.int i t,.none] }) r items:=by
  obtain⟨o,e,q⟩:=ht
  exact⟨o,kp _ _ e,q⟩
 have hs:(s.heap.push { cls:=.type "slice",data:=.fields #[.none,.int i t,.none] }).IsSliceOf s.heap.objs.size .none (.int i t) .none:=Heap.IsSliceOf.new ..
 show R3 (model prog w) A (subscriptTail (.Name row np) (.Slice none (some (.Name many mp)) none p2) (.ref r) (.ref s.heap.objs.size)) Q E { s with heap:=s.heap.push { cls:=.type "slice",data:=.fields #[.none,.int i t,.none] } }
 refine tail_any (ops:=[.ref s.heap.objs.size,.ref r]) ht'.typeIs slot_tuple_getitem.lookup ?_ (by with_unfolding_all rfl)
 by_cases hw:HT.sIx items.size 0 none=0/\HT.sIx items.size items.size (some i)=items.size
 ·refine iS (s:={ s with heap:=s.heap.push { cls:=.type "slice",data:=.fields #[.none,.int i t,.none] } }) ht' hs .none (.int i t) hw ?_
  refine h r _ kp ?_
  rw [hw.2]
  have:items.toList.take items.size=items.toList:=Qd (by simp)
  rw [this]
  simpa using ht'
 ·refine HT.Bb (s:={ s with heap:=s.heap.push { cls:=.type "slice",data:=.fields #[.none,.int i t,.none] } }) ht' hs .none (.int i t) hw ?_ hz
  refine h _ _ (fun c o q=>Rl _ (kp c o q)) ?_
  have e0:HT.sIx items.size 0 none=0:=rfl
  rw [e0,O2,Pm]
  exact⟨_,Rm _ rfl,rfl,_,rfl⟩
theorem Ep {f c' cc r:RP} {row many qual:Str} {params:SG} {scope:R1} {np mp p2 pos:Pos} {pm ctv:RM} {items:Array RM} {i:Int} {t:Tok} {Q:RM->R0->Prop}
  (hf:s.heap.get? f=some (Tw "<lambda>" qual params (cutE row many np mp p2 pos) scope [(many,cc)] pm c' ctv)) (hcd:s.heap.CodeRec (.ref c') qual) (hroom:A.depth < Sx) (hlim:s.heap.NoLimit)
  (hbind:∀ v,bindArgs (kla_fn "<lambda>" qual params (cutE row many np mp p2 pos) scope [(many,cc)] pm (.ref c') ctv) ⟨[v],[]⟩=pure [(row,v)])
  (hco:scope.isCoroutine=false) (hgen:scope.isGenerator=false) (hk:scope.kind=.function) (hno:∀ x∈scope.names,x.2≠.cell) (hr:scope.names.lookup row=some .local) (hm:scope.names.lookup many=some .free)
  (hcell:s.heap.IsCell cc (some (.int i t))) (ht:RV s.heap r items) (hz:items.size<=RU) (d1:(row==("__debug__":Str))=false) (d2:(many==("__debug__":Str))=false) (d3:(many==("__classdict__":Str))=false)
  (h:∀ b h' tk,(∀ c o,s.heap.get? c=some o->h'.get? c=some o)->RV h' b (List.toArray (items.toList.take (HT.sIx items.size items.size (some i))))->Q (.ref b) { s with heap:=h',toks:=tk }) :
  R3 (model prog w) A (call (.ref f) [.ref r]) Q E s:=by
 refine wpAny_call (kla_callFunE hroom hf rfl hco hgen rfl hcd ?_)
 rw [hbind]
 refine Sd (wpAny_newFunctionEnv hno (fun x hx=>?_) (fun h₁ hns hsb=>⟨hlim.fresh _ hsb,?_⟩) hk)
 ·rw [Qe] at hx
  subst hx
  exact hr
 ·show Ss _ _ (.expr (cutE row many np mp p2 pos) (envX qual scope s.heap.objs.size f (.ref c') [(many,cc)])) _ _
  have hk₁:∀ b o,s.heap.get? b=some o->h₁.get? b=some o:=fun b o e=>hsb.extBut b o (N0 (Rh e)) (Rl _ e)
  refine kla_codeExpr (EA (m:=fun x=>[(row,Value.ref r)].reverse.lookup x) (r:=r) (c:=cc) (t:=t) hk hr hm hns ?_ ?_ ?_ ?_ hz d1 d2 d3 fun b h' kp tb=>h b h' _ (fun c o e=>kp c o (hk₁ c o e)) tb)
  ·simp
  ·simp
  ·obtain⟨o,e,q⟩:=hcell
   exact⟨o,hk₁ _ _ e,q⟩
  ·obtain⟨o,e,q⟩:=ht
   exact⟨o,hk₁ _ _ e,q⟩
end
end TG
namespace TG
open PySem PySem.Spec PyProof.Rows PySem.W L2
variable [aV]
def BD (mg:Str->Option RM) (base:RT) (c P:RP):Prop:=CodeHd base c P/\∃ bm ob,mg "__builtins__"=some (.ref bm)/\bm≠RX/\base.get? bm=some ob/\ob.cls=.type "module"/\ob.dict=some RX/\ob.data=.plain
section
variable {fs ex:List RP} {Pg:RO} {w:RN} {H:Hp} {h h':RT} {P c':RP} {φ:(RP->Prop)->RT->Prop}
theorem IT (hP:H P=some (.ext φ)) (k:∀ b o,b≠P->h.get? b=some o->h'.get? b=some o) (hp:∃ o,h'.get? P=some o) (hc:h.objs.size<=c') (hn:H c'=none):Un fs ex H (upd H c' (.own P)) h h' where
 keep:=fun b u q n _ _=>k b u (fun z=>by rw [z,hP] at n; cases n) q
 slot:=fun b u q n _ _=>⟨u.slots,k b u (fun z=>by rw [z,hP] at n; cases n) q⟩
 free:=fun b u q n _=>by rw [aE (N0 (NY (Rh q) hc))]; exact n
 there:=fun b u q _=>by
  by_cases z:b=P
  ·rw [z]; exact hp
  ·exact⟨u,k b u z q⟩
 tups:=fun b xs q=>by rw [aE (aX q hn)]; exact q
 frzs:=fun b u xs q=>by rw [aE (aX q hn)]; exact q
 tbls:=fun b ps q=>⟨#[],by rw [aE (aX q hn),q]; simp⟩
theorem E7 (x:oT Pg w H h) (hP:H P=some (.ext φ)) (k:∀ b o,b≠P->h.get? b=some o->h'.get? b=some o) (hc:h.objs.size<=c') (ho:∃ o,h'.get? c'=some o) (new:cC Pg w (upd H c' (.own P)) h' P (.ext φ)):oT Pg w (upd H c' (.own P)) h':=fun b u e=>by
 have hn:=x.fresh hc
 by_cases hb:b=c'
 ·subst hb; rw [aL] at e; cases e; exact ho
 ·rw [aE hb] at e
  by_cases hb2:b=P
  ·subst hb2; rw [hP] at e; cases e; exact new
  ·refine(x b u e).stay (fun c v hc' q=>k c v ?_ q) (fun c q=>by rw [aE (aX q hn)]; exact q) fun c xs q=>by rw [aE (aX q hn)]; exact q
   rcases hc' with rfl | hc'
   ·exact hb2
   ·rintro rfl
    rw [hP] at hc'; cases hc'
end
theorem BD.blt {mg:Str->Option RM} {base h:RT} {c P:RP} {m:Str->Option RM} (B:BD mg base c P) (kp:∀ b o,base.get? b=some o->h.get? b=some o) (hP:base.get? P=none) (hg:base.Ns RW m):h.BuiltinsAt mg P:=by
 obtain⟨_,bm,ob,b1,b2,b3,b4,b5,b6⟩:=B
 refine⟨bm,ob,b1,b2,fun z=>?_,fun z=>?_,kp _ _ b3,b4,b5,b6⟩
 ·subst z
  obtain⟨o,es,ep,e,hd,_⟩:=hg
  rw [e] at b3; cases b3; rw [hd] at b6; cases b6
 ·subst z
  rw [hP] at b3; cases b3
section
variable {X:Cx} {pins:List (RP×Obj)} {s:R0} {σ:L2.St} {H:Hp} {E:RM->R0->Prop}
theorem Dw {c P:RP} {lpos:Pos} {params:SG} {body:R4} {scope:R1} {clos:List (Str×RP)} {Q:RM->R0->Prop} (I:Inv X pins σ H s) (B:BD X.mg X.base c P) (hcode:X.env.code=.ref c) (hP:H P=some (.ext (pB P lpos (X.env.qual ++ "<lambda>"))))
  (hdef:defaultsOf params X.env=([],[])) (hcl:closureFor scope X.env=pure clos)
  (h:∀ f c' ctv s' H',Inv X pins σ H' s'->bj H H'->s'.heap.get? f=some (Tw "<lambda>" (X.env.qual ++ "<lambda>") params body scope clos ((X.mg "__name__").getD .none) c' ctv)->s'.heap.CodeRec (.ref c') (X.env.qual ++ "<lambda>")->Q (.ref f) s') :
  R3 (model X.prog X.w) X.A (eval (.Lambda params body scope lpos) X.env) Q E s:=by
 have hg:s.heap.Ns RW X.mg:=I.mod.glob.keeps I.bk
 have hPn:X.base.get? P=none:=by
  cases q:X.base.get? P with
  | none=>rfl
  | some o=>have:=(I.bs P o q).2; rw [hP] at this; cases this
 have hgP:RW≠P:=fun z=>by
  obtain⟨o,es,ep,e,_⟩:=I.mod.glob
  rw [z,hPn] at e; cases e
 have hb:=B.blt I.bk hPn I.mod.glob
 have C:=B.1.keeps I.bk
 obtain⟨tb,_,_⟩:=I.hok P _ hP
 refine kla_eval hdef ?_
 rcases tb with e | ⟨c',hc',e,hrec⟩
 ·refine kla_makeFunction hcl I.ok.glob hg hcode C e trivial rfl hgP hb fun c' ctv h' tk hx hge hlt hrec htb=>?_
  have hn:=I.hok.fresh hge
  have htb':h'.get? P=some (tabObj #[rawInt lpos.line,rawInt lpos.col,.ref c']):=by simpa using htb
  have kp:∀ b o,b≠P->s.heap.get? b=some o->(h'.push (Tw "<lambda>" (X.env.qual ++ "<lambda>") params body scope clos ((X.mg "__name__").getD .none) c' ctv)).get? b=some o:=fun b o hb' q=>Rl _ (hx b o hb' q)
  have hrec':(h'.push (Tw "<lambda>" (X.env.qual ++ "<lambda>") params body scope clos ((X.mg "__name__").getD .none) c' ctv)).CodeRec (.ref c') (X.env.qual ++ "<lambda>"):=by
   obtain⟨c2,oc,vs,t,ec,eo,r⟩:=hrec
   exact⟨c2,oc,vs,t,ec,Rl _ eo,r⟩
  have hco:∃ o,(h'.push (Tw "<lambda>" (X.env.qual ++ "<lambda>") params body scope clos ((X.mg "__name__").getD .none) c' ctv)).get? c'=some o:=by
   obtain⟨c2,oc,vs,t,ec,eo,r⟩:=hrec
   cases ec
   exact⟨oc,Rl _ eo⟩
  refine h _ c' ctv _ (upd H c' (.own P)) (I.un (IT hP kp ⟨_,Rl _ htb'⟩ hge hn) (E7 I.hok hP kp hge hco (pB.ok (.inr ⟨c',aL,Rl _ htb',hrec'⟩)))) (bF hn _) (Rm _ rfl) hrec'
 ·refine kla_makeFunctionHit (cv:=.ref c') hcl I.ok.glob hg hcode C e trivial ?_ hb fun ctv h' tk hk hsz=>?_
  ·show (if ((lpos.line:Int)==(lpos.line:Int) && (lpos.col:Int)==(lpos.col:Int))=true then some (Value.ref c') else _)=_
   simp
  ·have kp:∀ b o,s.heap.get? b=some o->(h'.push (Tw "<lambda>" (X.env.qual ++ "<lambda>") params body scope clos ((X.mg "__name__").getD .none) c' ctv)).get? b=some o:=fun b o q=>Rl _ (hk b o q)
   refine h _ c' ctv _ H (I.kept kp) (bj.refl H) (Rm _ rfl) ?_
   obtain⟨c2,oc,vs,t,ec,eo,r⟩:=hrec
   exact⟨c2,oc,vs,t,ec,kp _ _ eo,r⟩
end
def uo (m:Nat):D->List D
 | .tup ks=>ks.take m
 | _=>[]
def JC (m:Nat) (xs:List D):Prop:=xs.length < 64/\∃ σ:List Bool,σ≠[]/\(∀ x∈xs,∃ k,x=.tup k/\Sh σ (k.take m))/\xs.Pairwise fun x y=>uo m x≠uo m y
open Classical in
noncomputable def sO (m:Nat) (xs:List D):Option D:=if JC m xs then some (.lst (iR (uo m) xs)) else none
noncomputable def qg:D->D->Option D
 | .lst xs,.int i=>if 0<=i then sO i.toNat xs else none
 | .tup xs,.int i=>if 0<=i then sO i.toNat xs else none
 | _,_=>none
theorem uU:∀ {vs:List V} {us:List RM} (n:Nat),Vals vs us->Vals (vs.take n) (us.take n)
 | _,_,0,_=>by rw [OZ,OZ]; exact .nil
 | _,_,_+1,.nil=>.nil
 | _,_,n+1,.cons r t=>by rw [O1,O1]; exact .cons r (uU n t)
theorem GA {i:Int} (h:0<=i) (n:Nat):HT.sIx n n (some i)=min i.toNat n:=by
 show (if i < 0 then _ else _)=_
 rw [if_neg ‹0›]
theorem iT:RY "sorted"=some (.builtin "sorted"):=by first | rfl | decide +kernel
section
variable {X:Cx} {pins:List (RP×Obj)} {s:R0} {σ:L2.St} {H:Hp} {O:List RP}
theorem zD {u:RM} {ds:List D} {vs:List V} {its:List RM} {d:D} {i:Int} {t:Tok} {c' cc f:RP} {row many qual:Str} {params:SG} {scope:R1} {np mp p2 pos:Pos} {pm ctv:RM} {Q:VK}
  (I:Inv X pins σ H s) (hO:eB H O) (dn:aZ X.K (hid H O) ds vs) (rv:Vals vs its) (h0:0<=i) (hs:sO i.toNat ds=some d)
  (hf:s.heap.get? f=some (Tw "<lambda>" qual params (cutE row many np mp p2 pos) scope [(many,cc)] pm c' ctv)) (hcd:s.heap.CodeRec (.ref c') qual) (hroom:X.A.depth < Sx)
  (hbind:∀ v,bindArgs (kla_fn "<lambda>" qual params (cutE row many np mp p2 pos) scope [(many,cc)] pm (.ref c') ctv) ⟨[v],[]⟩=pure [(row,v)])
  (hco:scope.isCoroutine=false) (hgen:scope.isGenerator=false) (hk:scope.kind=.function) (hno:∀ x∈scope.names,x.2≠.cell) (hr:scope.names.lookup row=some .local) (hm:scope.names.lookup many=some .free)
  (hcell:s.heap.IsCell cc (some (.int i t))) (d1:(row==("__debug__":Str))=false) (d2:(many==("__debug__":Str))=false) (d3:(many==("__classdict__":Str))=false)
  (hcol:∀ (Q':List RM->R0->Prop),(∀ h' tk,(∀ b o,s.heap.get? b=some o->h'.get? b=some o)->Q' its { s with heap:=h',toks:=tk })->R3 (model X.prog X.w) X.A.in1 (collect u) Q' X.xe s)
  (q:∀ v H',bj H H'->cN X.K (hid H' O) d v->Q v H'):R3 (model X.prog X.w) X.A (call (.builtin "sorted") [u] [(Str.ofString "key",.ref f)]) (EP X pins σ Q) X.xe s:=by
 have l1:=dn.length
 have l2:=rv.length
 unfold sO at hs
 split at hs
 ·rename_i hS
  cases hs
  obtain⟨h64,σ',hσ,hsh,pw⟩:=hS
  obtain⟨b,σ1,rfl⟩:∃ b σ1,σ'=b::σ1:=by
   cases σ' with
   | nil=>exact absurd rfl hσ
   | cons b σ1=>exact⟨b,σ1,rfl⟩
  have hsh':∀ x∈ds,Sh (b::σ1) (uo i.toNat x):=fun x hx=>by
   obtain⟨k,rfl,hk⟩:=hsh x hx
   exact hk
  refine xB (keys:=ds.map (uo i.toNat)) (σ:=σ1) (b:=b) ‹0› (by rw [Oj]; omega) (fun k hk=>by obtain⟨x,hx,rfl⟩:=List.mem_map.mp hk; exact hsh' x hx) hcol (fun j v h' tk Q' hv kp hq=>?_) fun p h1 h' l e tk hp hu k1 k2 hl he=>?_
  ·have hj:j < its.length:=by
    rcases Qb j its.length with z | z
    ·exact z
    ·rw [Qc z] at hv; cases hv
   have hj':j < ds.length:=by omega
   obtain⟨v0,e1,dv⟩:=dn.get (i:=j) (d:=ds[j]) (by simp [hj'])
   obtain⟨w,e2,rw'⟩:=rv.get e1
   rw [hv] at e2
   cases e2
   obtain⟨k,ek,hk'⟩:=hsh _ (P5 hj')
   have ekey:(ds.map (uo i.toNat)).getD j []=k.take i.toNat:=by
    have:(ds.map (uo i.toNat)).getD j []=uo i.toNat ds[j]:=by simp [hj']
    rw [this,ek]; rfl
   rw [ekey] at hq
   rw [ek] at dv
   obtain⟨a,ws,rfl,ha,dk⟩:=cB.mp dv
   cases rw'
   obtain⟨it2,r2,ht,hz⟩:=I.tuple (bP (aD H O) ha)
   have hz':it2.toArray.size<=RU:=by rw [Of,<- r2.length]; exact hz
   refine Ep (s:={ s with heap:=h',toks:=tk }) (i:=i) (t:=t) (kp _ _ hf) ?_ hroom (I.nolimit.keeps kp) hbind hco hgen hk hno hr hm ?_ (items:=it2.toArray) ?_ hz' d1 d2 d3 fun b2 h'' tk' kp2 tb=>?_
   ·obtain⟨c2,oc,vs',t',ec,eo,r⟩:=hcd
    exact⟨c2,oc,vs',t',ec,kp _ _ eo,r⟩
   ·obtain⟨o,e,q⟩:=hcell
    exact⟨o,kp _ _ e,q⟩
   ·obtain⟨o,e,q⟩:=ht
    exact⟨o,kp _ _ e,q⟩
   ·refine hq _ h'' tk' kp2 ?_
    obtain⟨o,eo,hc,n,hd⟩:=tb
    refine⟨b2,o,_,n,rfl,eo,hc,hd,?_⟩
    have e3:(List.toArray (it2.toArray.toList.take (HT.sIx it2.toArray.size it2.toArray.size (some i)))).toList=it2.take i.toNat:=by
     rw [GA h0]
     simp only [Of,Qa]
     rcases Qf i.toNat it2.length with z | z
     ·rw [Qg z]
     ·rw [Qh z,Qd (Oa _),Qd z]
    rw [e3]
    exact kI (rP hk') (dk.take i.toNat) (uU i.toNat r2)
  ·have el:its.length=ds.length:=by omega
   rw [el] at hp hu
   have ps:=qR (key:=uo i.toNat) hsh' pw hp hu
   have hr:p.toList.Perm (List.range ds.length):=by
    have:=Array.perm_iff_toList_perm.mp hp
    simpa using this
   have hlt:∀ i∈p.toList,i < ds.length:=fun i hi=>by simpa using hr.mem_iff.mp hi
   have I1:Inv X pins σ H { s with heap:=h1,toks:=tk }:=I.kept k1
   have hn:H l=none:=I1.hok.fresh hl
   have rv':=pH rv p.toList fun i hi=>by have:=hlt i hi; omega
   have dn':=qH dn p.toList hlt
   have hlen:p.toList.length=ds.length:=by rw [hr.length_eq,Pk]
   refine⟨.ref l,_,Inv.laid (s:={ s with heap:=h1,toks:=tk }) (t':=tk) I1 k2 hl (show cC X.prog X.w _ h' _ (.lst (p.toList.map fun i=>vs.getD i .non)) from ⟨by rw [Oj,hlen,Sr]; omega,_,e,rv',he⟩),rfl,?_⟩
   refine q _ _ (bF hn _) ?_
   rw [<- ps]
   exact dC hO hn dn'
 ·cases hs
theorem JX {f:FX} {j:Nat} {k:Nat} {c P cc:RP} {e:R4} {p lpos kp pos np mp p2 spos:Pos} {row many:Str} {params:SG} {scope:R1}
  (hr:fX k X.A) (hg:Gl X "sorted") (hm:X.mg "sorted"=none) (B:BD X.mg X.base c P) (hcode:X.env.code=.ref c) (hT:∀ H,aV.tab H->H P=some (.ext (pB P lpos (X.env.qual ++ "<lambda>"))))
  (he:FE X e f) (hN:X.N[j]?=some many) (hkm:X.env.kindOf many=some .cell) (hv:Hq X.env.scope many) (hcc:X.env.cells.lookup many=some cc) (hcl:closureFor scope X.env=pure [(many,cc)]) (hdef:defaultsOf params X.env=([],[]))
  (hbind:∀ cdv ctv v,bindArgs (Q9 "<lambda>" (X.env.qual ++ "<lambda>") params (cutE row many np mp p2 spos) scope [(many,cc)] ((X.mg "__name__").getD .none) cdv ctv) ⟨[v],[]⟩=pure [(row,v)])
  (hco:scope.isCoroutine=false) (hgen:scope.isGenerator=false) (hk:scope.kind=.function) (hno:∀ x∈scope.names,x.2≠.cell) (hlr:scope.names.lookup row=some .local) (hlm:scope.names.lookup many=some .free)
  (d1:(row==("__debug__":Str))=false) (d2:(many==("__debug__":Str))=false) (d3:(many==("__classdict__":Str))=false) (hns:noStar e=true:=by rfl) :
  FE X (.Call (.Name "sorted" p) [e] [⟨some "key",.Lambda params (cutE row many np mp p2 spos) scope lpos,kp⟩] pos) (f2 qg f (ah j)):=by
 intro pins s σ H Q I ⟨O,ρ,E,hF⟩
 refine SE (mj I hg hm iT ?_)
 have st:backTo pos (R5 [e] X.env)=(false,eval e X.env)::backTo pos (R5 [] X.env):=by rw [dj hns]; rfl
 refine PyProof.Rows.callWith_kw ?_ ?_ (gz (by rw [O5,hns]; rfl))
 ·refine eX (kY he qz (dj hns) pos pins s σ H (fun vs H1=>∃ v d a m,vs=[v]/\bj H H1/\ρ[j]?=some (some (.val m))/\qg a m=some d/\cN X.K (hid H1 O) a v/\∀ v H',bj H H'->cN X.K (hid H' O) d v->Q v H') I ⟨O,ρ,E,(jF.bind hF).imp fun a hF v H1 s1 d1=>?_⟩) fun us s1 ⟨vs,H1,I1,rv,v,d,a,m,ev,s1',em,hd,dn,q⟩=>?_
  ·obtain⟨m,em,hF⟩:=vJ (jF.bind hF)
   obtain⟨d,e,q⟩:=jF.rO hF
   exact⟨v,d,a,m,rfl,s1,em,e,d1,q⟩
  ·subst ev
   obtain⟨u,eu,ru⟩:=vals1 rv
   subst eu
   have E1:=E.same s1'
   show R3 _ _ (evalAll ((do let v <- eval (.Lambda params (cutE row many np mp p2 spos) scope lpos) X.env; standAt pos; pure v)::[])) _ _ s1
   refine wpAny_evalAll_cons (Se (Dw I1 B hcode (hT _ E1.all.1) hdef hcl fun fa c' ctv s2 H2 I2 s2' hfa hcr=>Se (S5 (Sd (wpAny_evalAll_nil ?_)))))
   show R3 (model X.prog X.w) X.A (call (.builtin "sorted") [u] [(Str.ofString "key",.ref fa)]) (EP X pins σ Q) X.xe s2
   have E2:=E1.same s2'
   obtain⟨vm,e3,dm⟩:=E2.val j m em
   have core:∀ (i:Int) (xs:List D),m=.int i->0<=i->sO i.toNat xs=some d->∀ (ys:List V) (its:List RM),aZ X.K (hid H2 O) xs ys->Vals ys its ->
     (∀ (Q':List RM->R0->Prop),(∀ h' tk,(∀ b o,s2.heap.get? b=some o->h'.get? b=some o)->Q' its { s2 with heap:=h',toks:=tk })->R3 (model X.prog X.w) X.A.in1 (collect u) Q' X.xe s2) ->
     R3 (model X.prog X.w) X.A (call (.builtin "sorted") [u] [(Str.ofString "key",.ref fa)]) (EP X pins σ Q) X.xe s2:=by
    intro i xs ei h0 hs ys its dl ri hcol
    subst ei
    rw [fN] at dm
    subst dm
    obtain⟨mm,hns',hl⟩:=I2.loc
    obtain⟨uv,ruv,lk⟩:=hl j many (.int i) hN e3 hv
    obtain⟨t,rfl⟩:=ruv
    have hcell:s2.heap.IsCell cc (some (.int i t)):=by
     rcases lk with ⟨z,_⟩ | ⟨_,c2,ec,hc2⟩
     ·rw [hkm] at z; cases z
     ·rw [hcc] at ec; cases ec; exact hc2
    have dp:=hr.dp
    exact zD I2 E2.all dl ri h0 hs hfa hcr ‹0› (fun v=>hbind (.ref c') ctv v) hco hgen hk hno hlr hlm hcell d1 d2 d3 hcol fun v H' sm dd=>q v H' ((s1'.trans s2').trans sm) dd
   have dn2:=dn.mono (bX (O:=O) s2')
   unfold qg at hd
   split at hd
   ·rename_i xs i
    split at hd
    ·rename_i h0
     obtain⟨l,ys,el,g1,g2⟩:=cA.mp dn2
     subst el
     cases ru
     obtain⟨its,ri,pl,hz⟩:=I2.list ((aD H2 O).seq g1)
     have hlen:=ri.length
     obtain⟨o,ho,hc,n,hd'⟩:=pl.isList
     exact core i xs rfl h0 hd ys its g2 ri fun Q' hQ=>Tv l (.inl rfl) ho hc hd' (fun h' k=>by simpa using hQ h' s2.toks k) (by simp only [Of] <;> omega)
    ·cases hd
   ·rename_i xs i
    split at hd
    ·rename_i h0
     obtain⟨l,ys,el,g1,g2⟩:=cB.mp dn2
     subst el
     cases ru
     obtain⟨its,ri,⟨o,ho,hc,n,hd'⟩,hz⟩:=I2.tuple (bP (aD H2 O) g1)
     have hlen:=ri.length
     exact core i xs rfl h0 hd ys its g2 ri fun Q' hQ=>Tv l (.inr rfl) ho hc hd' (fun h' k=>by simpa using hQ h' s2.toks k) (by simp only [Of] <;> omega)
    ·cases hd
   ·cases hd
 ·exact st
end
end TG
namespace TG
open PySem PySem.Spec PyProof.Rows PySem.W L2
section
variable [aV] {P:RO} {w:RN} {K:QN} {mg:Str->Option RM} {base:RT}
def vy (K:QN) (f:RP) (cdv:RM):Prop:=∃ oc od fd sl,K.lookup f=some ⟨oc,od,.func fd,sl⟩/\fd.code=cdv
theorem vy.one {f:RP} {a b:RM} (h:vy K f a) (h':vy K f b):a=b:=by
 obtain⟨oc,od,fd,sl,e,r⟩:=h
 obtain⟨oc',od',fd',sl',e',r'⟩:=h'
 rw [e] at e'
 cases e'
 rw [<- r,<- r']
structure wB (P:RO) (w:RN) (K:QN) (mg:Str->Option RM) (base:RT) (k:Nat) (N:List Str) (qual:Str) (st:R6) (f:RP) (B:cn):Prop where
 h:∀ (cdv:RM) (A:RZ) (outer:List Env) (s:R0) (H:Hp) (E:XK),vy K f cdv->fX k (A.deeper (envOfC qual (ax st) s.heap.objs.size f cdv))->Sg (model P w) (A.deeper (envOfC qual (ax st) s.heap.objs.size f cdv)) (envOfC qual (ax st) s.heap.objs.size f cdv) (jW (oa P w) P w K mg base N qual (ax st) f cdv A outer s H E).xe ->
  yT (jW (oa P w) P w K mg base N qual (ax st) f cdv A outer s H E) (fg st) B
theorem Eg {x qual:Str} {st:R6} {f:RP} {fd:Sz} {N ps:List Str} {k:Nat} {B:cn} (F:wj K x qual st f fd) (SC:aU N ps (ax st)) (hb:wB P w K mg base k N qual st f B) :
  jE P w K mg base (oa P w) (k+1) f fd ps (CQ K ps.length (aN B ps.length N.length)):=by
 obtain⟨oc,od,kV,doc,pm,an,cd,ct,osl,rfl,lk,hcd⟩:=F.ex
 refine Et lk hcd SC (fun vs H Q E h=>?_) fun A outer s H vs Q E hr h=>?_
 ·obtain⟨O,ds,h1,_⟩:=h
  exact h1
 ·obtain⟨O,ds,h1,h2,h3,h4⟩:=h
  have hl:ds.length=ps.length:=h3.length.trans h1
  have e4:aN B ps.length N.length ds=B K0 (env0 N.length ds):=by unfold aN; rw [if_pos hl]
  rw [e4] at h4
  refine⟨_,hb.h cd A outer s H E ⟨_,_,_,_,lk,rfl⟩ hr PassesOwn.leaving H O,O,env0 N.length ds,K0,_,⟨sM h2 h3,⟨bj.refl H,fun _ z=>z,fun a z=>.inl z⟩,fun i xs a e=>?_,fun i d e=>by obtain⟨d',_,e2⟩:=jt i _ e; cases e2⟩,rfl,?_⟩
  ·obtain⟨d',_,e2⟩:=jt i _ e
   cases e2
  ·generalize B K0 (env0 N.length ds)=r at h4
   refine⟨fun z=>by rw [z] at h4; exact h4,fun O' ρ' σ' H' S e=>?_,fun O' ρ' σ' H' S e=>?_,fun O' ρ' σ' H' S e=>?_,fun d O' v H' e b dv=>?_,fun O' ρ' σ' H' x S e=>?_⟩
   ·have e:(.ok .non:R D)=r:=e
    subst e
    exact h4 .non H' S.base.same (kU.mpr rfl)
   ·have e:(un:R D)=r:=e
    subst e
    exact h4.elim
   ·have e:(un:R D)=r:=e
    subst e
    exact h4.elim
   ·subst e
    exact h4 v H' b.same (dv.mono (iD b.sub))
   ·have e:(.error (some x):R D)=r:=e
    subst e
    exact En h4 S.base.same S.base.sub
theorem zG {x qual:Str} {st:R6} {f:RP} {fd:Sz} {N ps:List Str} {k:Nat} {B:cn} (F:wj K x qual st f fd) (b:Binds K fd ps []) (m:mg x=some (.ref f)) (SC:aU N ps (ax st)) (hb:wB P w K mg base k N qual st f B) :
  Callee P w K mg base (k+1) x ps (aN B ps.length N.length):=⟨f,fd,Eg F SC hb,b,F.kp,m⟩
end
def za (mg:Str->Option RM) (base:RT):Prop:=∃ bm ob,mg "__builtins__"=some (.ref bm)/\bm≠RX/\base.get? bm=some ob/\ob.cls=.type "module"/\ob.dict=some RX/\ob.data=.plain
theorem Gz {K:QN} {mg:Str->Option RM} {base:RT} {c P:RP} (X:K.In base) (e:codeHdIn K c P=true) (b:za mg base):BD mg base c P:=⟨codeHd_of_K X e,b⟩
theorem Gn {P:RO} {w:RN} {K:QN} {mg mb:Str->Option RM} {CX:zy} {k:Nat} {fa a c T:RP} {lpos:Pos} {q:Str} {fd:Sz} {x:Str} {sp:Sp} {s₁:R0} {vs:List RM} {ns:List Int}
  (KX:K.In s₁.heap) (hns:s₁.heap.Ns RW mg) (hb:s₁.heap.Ns RX mb) (hbb:∀ x:Str,x ≠ "__name__"->mb x=RY x) (hlim:s₁.heap.NoLimit) (hg:s₁.gens=#[]) (hbm:za mg s₁.heap)
  (hT:s₁.heap.get? T=some (tabObj #[])) (hC:codeHdIn K c T=true) (hKT:K.lookup T=none)
  (ha:s₁.heap.get? a=some { cls:=.type "list",data:=.seq vs.toArray }) (hi:IntsAre vs ns) (hl:ns.length<=RU) (hr:fX k callerA)
  (F:∀ base:RT,K.In base->base.Ns RW mg->za mg base->jE P w K mg base CX k fa fd [x] sp) (hbind:∀ (s:R0) (u:RM),SA s fd ⟨[u],[]⟩ [(x,u)])
  (hsp:∀ H:Hp,H T=some (.ext (pB T lpos q))->oO K H a (ns.map V.int)->sp [.ref a] H (fun v H'=>v=.bl true/\bj H H') fun _ _ _=>False)
  (hCX:∀ H e s',CX [] H s₁ (fun _ _ _=>False) e s'->False) :
  Ss (model P w) callerA (.call (.ref fa) ⟨[.ref a],[]⟩) (fun r s'=>r=.ok (.ret (.bool true))/\OldK s₁.heap s'.heap/\s'.os=s₁.os/\AllBare s'.gens) s₁:=by
 have rv:=uP hi
 have lenV:=hi.length
 have aT:a≠T:=fun z=>by rw [z,hT] at ha; cases ha
 obtain⟨H,hH⟩:∃ H:Hp,H=fun b=>if b=T then some (.ext (pB T lpos q)) else if b=a/\(K.lookup a).isNone=true then some (.frz { cls:=.type "list",data:=.seq vs.toArray } (.lst (ns.map V.int))) else none:=⟨_,rfl⟩
 have hHT:H T=some (.ext (pB T lpos q)):=by rw [hH]; exact if_pos rfl
 have cases':∀ b u,H b=some u->(b=T/\u=.ext (pB T lpos q))\/(b=a/\K.lookup a=none/\u=.frz { cls:=.type "list",data:=.seq vs.toArray } (.lst (ns.map V.int))):=fun b u e=>by
  rw [hH] at e
  by_cases z:b=T
  ·have e:=(if_pos z).symm.trans e
   cases e
   exact .inl ⟨z,rfl⟩
  ·have e:=(if_neg z).symm.trans e
   by_cases z':b=a/\(K.lookup a).isNone=true
   ·have e:=(if_pos z').symm.trans e
    cases e
    exact .inr ⟨z'.1,by simpa using z'.2,rfl⟩
   ·have e:=(if_neg z').symm.trans e
    cases e
 have free:∀ b o,s₁.heap.get? b=some o->o.cls≠.none->o.cls≠.type "list"->H b=none:=fun b o e h1 h2=>by
  cases z:H b with
  | none=>rfl
  | some u =>
   rcases cases' b u z with ⟨e1,_⟩ | ⟨e1,_⟩
   ·rw [e1,hT] at e; cases e; exact absurd rfl h1
   ·rw [e1,ha] at e; cases e; exact absurd rfl h2
 have freeD:∀ b o es ep,s₁.heap.get? b=some o->o.data=.dict es ep->H b=none:=fun b o es ep e d=>by
  cases z:H b with
  | none=>rfl
  | some u =>
   rcases cases' b u z with ⟨e1,_⟩ | ⟨e1,_⟩
   ·rw [e1,hT] at e; cases e; cases d
   ·rw [e1,ha] at e; cases e
    have d':Data.seq vs.toArray _=Data.dict es ep:=d
    cases d'
 have hS:oO K H a (ns.map V.int):=by
  cases hk:K.lookup a with
  | some o =>
   have e:=KX a o hk
   rw [ha] at e
   cases e
   exact .inr ⟨_,vs.toArray,_,hk,rfl,rfl,rfl,by rw [Of,lenV]; exact hl,by simpa using rv⟩
  | none =>
   refine .inl (.inr ⟨{ cls:=.type "list",data:=.seq vs.toArray },?_⟩)
   rw [hH]
   exact(if_neg aT).trans (if_pos ⟨rfl,by rw [hk]; rfl⟩)
 have hok:oT P w H s₁.heap:=fun b u e=>by
  rcases cases' b u e with ⟨e1,e2⟩ | ⟨e1,_,e2⟩
  ·subst e1 e2
   exact pB.ok (.inl hT)
  ·subst e1 e2
   exact⟨ha,by rw [Oj]; exact hl,vs,_,rv,ha⟩
 have nsK:∀ {b:RP} {m:Str->Option RM},s₁.heap.Ns b m->(wg s₁.heap H).Ns b m:=fun {b m} ⟨o,es,ep,e,d,r⟩=>⟨o,es,ep,tV e (freeD b o es ep e d),d,r⟩
 have hKb:K.In (wg s₁.heap H):=fun b o e=>tV (KX b o e) (by
  cases z:H b with
  | none=>rfl
  | some u =>
   rcases cases' b u z with ⟨e1,_⟩ | ⟨e1,e2,_⟩
   ·rw [e1,hKT] at e; cases e
   ·rw [e1,e2] at e; cases e)
 have hbm':za mg (wg s₁.heap H):=by
  obtain⟨bm,ob,b1,b2,b3,b4,b5,b6⟩:=hbm
  refine⟨bm,ob,b1,b2,tV b3 (free bm ob b3 ?_ ?_),b4,b5,b6⟩
  ·rw [b4]; simp
  ·rw [b4]; simp
 have hM:Mod K mg (wg s₁.heap H):=⟨hKb,nsK hns,⟨mb,nsK hb,hbb⟩,let ⟨mc,h1,h2⟩:=hlim; ⟨mc,nsK h1,h2⟩⟩
 have e0:Ca P w K mg (wg s₁.heap H) callerA [] s₁ H:=⟨rfl,hM,fun b o e=>Fy e,Ol (CA _ _),trivial,fun b hb=>absurd (show b∈([]:List RP) from hb) (by simp),hok,.of_eq hg⟩
 refine SD ((F _ hKb (nsK hns) hbm').run callerA [] s₁ H ⟨[.ref a],[]⟩ [.ref a] [.ref a] _ _ hr e0 (hbind s₁ (.ref a)) (.cons rfl .nil) (hsp H hHT hS)) fun r s' h=>?_
 cases r with
 | error e=>exact(hCX H e s' h).elim
 | ok fl =>
  cases fl with
  | next=>exact False.elim h
  | brk=>exact False.elim h
  | cont=>exact False.elim h
  | ret u =>
   obtain⟨v,H',os,bare,unn,hok',r',q'⟩:=h
   obtain⟨ev,sm⟩:v=.bl true/\bj H H':=q'
   subst ev
   obtain rfl:u=Value.bool true:=r'
   have tb:=(hok' T _ (sm _ _ hHT)).1
   obtain⟨ps,hps⟩:∃ ps,s'.heap.get? T=some (tabObj ps):=by
    rcases tb with e | ⟨_,_,e,_⟩
    ·exact⟨_,e⟩
    ·exact⟨_,e⟩
   have keep:∀ b o,b≠T->s₁.heap.get? b=some o->s'.heap.get? b=some o:=fun b o hb e=>by
    cases z:H b with
    | none=>exact unn.keep b o e z (by intro z; exact absurd (show b∈([]:List RP) from z) (by simp)) (by simp)
    | some u =>
     rcases cases' b u z with ⟨e1,_⟩ | ⟨e1,_,e2⟩
     ·exact absurd e1 hb
     ·subst e2
      have z2:=sm _ _ z
      obtain⟨e3,_⟩:=hok' b _ z2
      rw [e1,ha] at e; cases e
      exact e3
   refine⟨rfl,⟨fun b o e=>?_,fun b o e=>?_⟩,os,bare⟩
   ·by_cases hb:b=T
    ·subst hb
     rw [hT] at e; cases e
     exact .inr (.inl ⟨((codeHd_of_K KX hC).tab hT).isCodeTable,rfl,#[],ps,rfl,by rw [Array.empty_append]; exact hps⟩)
    ·exact .inl (keep b o hb e)
   ·by_cases hb:b=T
    ·subst hb; exact⟨_,hps⟩
    ·exact⟨o,keep b o hb e⟩
theorem D7 {l:Ra} {n k:Nat} {q:RO} {loose:List Str} {XP:(Str->Option RM)->RT->Prop} {YP:RN->RT->Prop} {d:DefRec} {K:Params->QN} {CX:RN->zy} {sp:RN->Sp} {x qn:Str} {T:RP} {lpos:Pos}
  (hn:l.most=some n) (hn2:n<=RU) (hdf:d.params.defaults=[]) (hr:fX k callerA)
  (hY:∀ (w:RN) (h:RT),YP w h->(K w.params).In h/\h.get? T=some (tabObj #[]))
  (F:∀ (w:RN) (mg:Str->Option RM) (fa:RP) (h:RT),(K w.params).In h->h.Ns RW mg->mg d.name=some (.ref fa) ->
   (∃ c,codeHdIn (K w.params) c T=true)/\(K w.params).lookup T=none/\∃ fd:Sz,(∀ (s:R0) (u:RM),SA s fd ⟨[u],[]⟩ [(x,u)]) /\
    ∀ base:RT,(K w.params).In base->base.Ns RW mg->za mg base->jE l.prog w (K w.params) mg base (CX w) k fa fd [x] (sp w))
  (hsp:∀ (w:RN) (H:Hp) (a:RP) (ns:List Int),ns.length<=n->H T=some (.ext (pB T lpos qn))->oO (K w.params) H a (ns.map V.int)->sp w [.ref a] H (fun v H'=>v=.bl true/\bj H H') fun _ _ _=>False)
  (hCX:∀ (w:RN) (H:Hp) (s:R0) (e:RM) (s':R0),CX w [] H s (fun _ _ _=>False) e s'->False) :
  PySem.W.WalkO q loose XP YP l.row.toRowW d [] (fun f vs=>PySem.call f vs):=by
 refine Att.GO hn hdf fun w s₀ s₁ mg mb fa o pm cd doc a vs ns G Y ho hd hcd hmg hobj hints hlen hg=>?_
 obtain⟨KX,hT⟩:=hY w _ Y
 obtain⟨⟨c,hC⟩,hKT,fd,hb,hF⟩:=F w mg fa _ KX G.T.g hmg
 exact Gn KX G.T.g G.T.b G.T.builtins G.T.nolimit hg G.T.bmain hT hC hKT hobj hints (N1 hlen hn2) hr hF hb (fun H hO hS=>hsp w H a ns hlen hO hS) fun H e s'=>hCX w H s₁ e s'
end TG
namespace TG
open PySem PySem.Spec PySem.Calls L2
open PySem.SeqAt (EqAt list_indexAt)
variable [aV]
section
variable {X:Cx} {p pos:Pos} {e:R4}
end
end TG
namespace TG
open PySem PySem.Spec L2
variable [aV]
end TG
namespace TG
open PySem PySem.Spec PySem.Calls L2
open PySem.SeqAt (EqAt list_countAt)
variable [aV]
def uJ:=Jh (fun _ j=>decide (0<=j)) fun i j=>i / 2 ^ j.toNat
theorem wY {K:QN}:eY K (rI (fun _ j=>0<=j) fun i j=>.int (i / 2 ^ j.toNat)) uJ:=kn fun _ _ h=>of_decide_eq_true h
def oY:=Hz fun i j=>.int (Builtin.bitAnd i j)
theorem xf {K:QN}:eY K (EW fun i j=>.int (Builtin.bitAnd i j)) oY:=su
def qS:List D->List D->Option (List (Key×D))
 | [],[]=>some []
 | k::ks,d::ds=>(keyOf k).bind fun k=>(qS ks ds).map ((k,d)::·)
 | _,_=>none
abbrev iE (al:List (Key×D)):List D:=al.map fun p=>bu p.1
abbrev yE (al:List (Key×D)):D:=.dct (iE al) (al.map (·.2))
theorem lG (k:Key):keyOf (bu k)=some k:=by cases k <;> rfl
theorem tP {a b:Key} (h:bu a=bu b):a=b:=by
 have e:=congrArg keyOf h
 rw [lG,lG] at e
 exact Option.some.inj e
theorem yw:∀ {ks ds:List D} {al:List (Key×D)},qS ks ds=some al->ks=iE al/\ds=al.map (·.2)
 | [],[],_,h=>by cases h; exact⟨rfl,rfl⟩
 | k::ks,d::ds,al,h=>by
  unfold qS at h
  cases e1:keyOf k with
  | none=>rw [e1] at h; cases h
  | some k' =>
   rw [e1] at h
   cases e2:qS ks ds with
   | none=>rw [e2] at h; cases h
   | some al' =>
    rw [e2] at h; cases h
    obtain⟨h1,h2⟩:=yw e2
    rw [sd e1,h1,h2]; exact⟨rfl,rfl⟩
 | [],_::_,_,h=>by cases h
 | _::_,[],_,h=>by cases h
theorem vC:∀ al:List (Key×D),qS (iE al) (al.map (·.2))=some al
 | []=>rfl
 | p::r=>by
  show (keyOf (bu p.1)).bind _=_
  rw [lG]
  show (qS (iE r) (r.map (·.2))).map ((p.1,p.2)::·)=_
  rw [vC r]; rfl
theorem vS:∀ {al:List (Key×D)} {ks:List Key},iE al=ks.map bu->al.map (·.1)=ks
 | [],[],_=>rfl
 | p::r,k::ks,h=>by
  have h:bu p.1::iE r=bu k::ks.map bu:=h
  injection h with h1 h2
  rw [Oi,tP h1,vS h2]
 | [],_::_,h=>by cases h
 | _::_,[],h=>by cases h
theorem MU {K:QN} {H:Hp} {O:List RP} {a:RP} {al:List (Key×D)} (h:dD K H O a (yE al)) :
  (∃ kvs:List (Key×V),H a=some (.dK kvs)/\kvs.map (·.1)=al.map (·.1)/\aZ K (hid H O) (al.map (·.2)) (kvs.map (·.2)))\/(H a=some (.dT [])/\al=[]):=by
 obtain⟨o,vs,h1,h2,h3⟩:=h
 rcases h3 with ⟨kvs,e,e1,e2⟩ | ⟨kvs,e,e1,e2⟩
 ·subst e
  refine .inl ⟨kvs,h1,?_,by rw [<- e2]; exact h2⟩
  exact(vS (ks:=kvs.map (·.1)) (by rw [P8]; exact e1)).symm
 ·subst e
  cases kvs with
  | nil =>
   refine .inr ⟨h1,?_⟩
   simpa using e1
  | cons p r =>
   cases al with
   | nil=>cases e1
   | cons q r' =>
    have e1:bu q.1::iE r'=D.tup (p.1.map bu)::r.map (fun p=>D.tup (p.1.map bu)):=e1
    injection e1 with e1 _
    rcases q with ⟨k,v⟩
    cases k <;> cases e1
section
variable {κ:Type} [DecidableEq κ]
def rj (al:List (κ×D)) (k:κ) (v:D):List (κ×D):=if (al.any fun p=>decide (p.1=k))=true then al.map (fun p=>if p.1=k then (p.1,v) else p) else al++[(k,v)]
theorem CM {kvs:List (κ×V)} {al:List (κ×D)} (e:kvs.map (·.1)=al.map (·.1)) (k:κ) (w:V) (d:D):(putK kvs k w).map (·.1)=(rj al k d).map (·.1):=by
 have e2:(kvs.any fun p=>decide (p.1=k))=(al.any fun p=>decide (p.1=k)):=by
  have:=congrArg (fun l=>l.any fun q=>decide (q=k)) e
  simpa [P9,Function.comp_def] using this
 unfold putK rj
 rw [e2]
 split
 ·have e3:∀ (l:List (κ×V)),(l.map fun kv=>if kv.1=k then (kv.1,w) else kv).map (·.1)=l.map (·.1):=fun l=>by
   rw [P8]; refine Ph fun p _=>?_
   show (if p.1=k then (p.1,w) else p).1=p.1
   split <;> rfl
  have e4:∀ (l:List (κ×D)),(l.map fun kv=>if kv.1=k then (kv.1,d) else kv).map (·.1)=l.map (·.1):=fun l=>by
   rw [P8]; refine Ph fun p _=>?_
   show (if p.1=k then (p.1,d) else p).1=p.1
   split <;> rfl
  rw [e3,e4,e]
 ·rw [Pj,Pj,e]; rfl
theorem vZ {K:QN} {H:Hp} {k:κ} {w:V} {d:D} (hw:cN K H d w):∀ {kvs:List (κ×V)} {al:List (κ×D)},kvs.map (·.1)=al.map (·.1)->aZ K H (al.map (·.2)) (kvs.map (·.2)) ->
  aZ K H ((al.map fun p=>if p.1=k then (p.1,d) else p).map (·.2)) ((kvs.map fun p=>if p.1=k then (p.1,w) else p).map (·.2))
 | [],[],_,h=>h
 | p::r,q::r',e,h=>by
  rw [Oi,Oi] at e
  injection e with e1 e2
  rw [Oi,Oi,bz] at h
  obtain⟨v,ws,h0,h1,h2⟩:=h
  injection h0 with h0 h0'
  subst h0 h0'
  have ih:=vZ (k:=k) hw e2 h2
  rw [Oi,Oi,Oi,Oi,bz]
  refine⟨_,_,rfl,?_,ih⟩
  rw [e1]
  split
  ·exact hw
  ·exact h1
 | [],_::_,e,_=>by cases e
 | _::_,[],e,_=>by cases e
theorem DQ {K:QN} {H:Hp} {k:κ} {w:V} {d:D} (hw:cN K H d w) {kvs:List (κ×V)} {al:List (κ×D)} (e:kvs.map (·.1)=al.map (·.1)) (h:aZ K H (al.map (·.2)) (kvs.map (·.2))) :
  aZ K H ((rj al k d).map (·.2)) ((putK kvs k w).map (·.2)):=by
 have e2:(kvs.any fun p=>decide (p.1=k))=(al.any fun p=>decide (p.1=k)):=by
  have:=congrArg (fun l=>l.any fun q=>decide (q=k)) e
  simpa [P9,Function.comp_def] using this
 unfold putK rj
 rw [e2]
 split
 ·exact vZ hw e h
 ·rw [Pj,Pj]
  exact h.append (bz.mpr ⟨w,[],rfl,hw,dh.mpr rfl⟩)
end
def vp (ks ds:List D) (k v:D):Option (List (Key×D)):=(qS ks ds).bind fun al=>(keyOf k).bind fun k=>if small al.length then some (rj al k v) else none
def o5 (i:Nat) (fk fv:FX):cn:=fun k ρ=>match ρ[i]? with
 | some (some (.own (.dct ks ds)))=>uj ((fv ρ).bind fun v=>(fk ρ).bind fun q=>rO (vp ks ds q v)) k ρ fun al=>k.nx (ρ.set i (some (.own (yE al))))
 | _=>un
theorem Ab {ks ds:List D} {k v:D} {al':List (Key×D)} (h:vp ks ds k v=some al'):∃ al q,ks=iE al/\ds=al.map (·.2)/\k=bu q/\small al.length=true/\al'=rj al q v:=by
 unfold vp at h
 cases e1:qS ks ds with
 | none=>rw [e1] at h; cases h
 | some al =>
  rw [e1] at h
  cases e2:keyOf k with
  | none=>rw [e2] at h; cases h
  | some q =>
   rw [e2] at h
   obtain⟨h3,h4⟩:=bE (show (if small al.length then some (rj al q v) else none)=some al' from h)
   obtain⟨h1,h2⟩:=yw e1
   exact⟨al,q,h1,h2,sd e2,h3,h4.symm⟩
theorem GB {kvs:List (Key×V)} {al:List (Key×D)} (e:kvs.map (·.1)=al.map (·.1)):iE al=kvs.map fun p=>bu p.1:=by
 have:=congrArg (List.map bu) e
 rw [P8,P8] at this
 exact this.symm
def Iq (td ty tv:TE):TS:=fun D σ H=>tv σ H fun v H1=>td σ H1 fun x H2=>ty σ H2 fun y H3=>∃ a k kvs,x=.ref a/\y=kV k/\(H3 a=some (.dK kvs)\/(H3 a=some (.dT [])/\kvs=[]))/\kvs.length < RU/\D.nx σ (upd H3 a (.dK (putK kvs k v)))
section
variable {X:Cx} {o idx value:R4} {pos pos':Pos} {td ty tv:TE}
theorem Dr (hu:X.A.units+1 < Sy) (ho:PE X o td) (hi:PE X idx ty) (hv:PE X value tv) (hs:swapsWith value (some (.Subscript o idx pos')) pos.line X.env=pure false):PS X (.Assign [.Subscript o idx pos'] value pos) (Iq td ty tv):=by
 intro pins s σ H D I h
 refine wpAny_Assign_Subscript (eX (hv pins s σ H _ I h) fun r s1 ⟨v,H1,I1,rv,q1⟩=>eX (ho pins s1 σ H1 _ I1 q1) fun u s2 ⟨x,H2,I2,rx,q2⟩=>eX (hi pins s2 σ H2 _ I2 q2) fun iv s3 ⟨y,H3,I3,ry,a,k,kvs,ex,ey,ha,hl,q3⟩=>?_) hs
 subst ex ey
 obtain rfl:u=Value.ref a:=rx
 rcases ha with ha | ⟨ha,rfl⟩
 ·exact nq hu I3 (IG.k ha hl) ry rv fun s4 I4=>⟨σ,_,I4,q3⟩
 ·refine nq hu (J2 I3 ha) (IG.k aL hl) ry rv fun s4 I4=>⟨σ,_,I4,?_⟩
  rw [rZ]; exact q3
end
theorem Kz {X:Cx} {i:Nat} {x:Str} {idx value:R4} {fk fv:FX} {npos tpos pos:Pos} (hu:X.A.units+64 < Sy) (hx:PE X (.Name x npos) (tJ i)) (hi:FE X idx fk) (hv:FE X value fv)
  (hs:swapsWith value (some (.Subscript (.Name x npos) idx tpos)) pos.line X.env=pure false:=by rfl) :
  FS X (.Assign [.Subscript (.Name x npos) idx tpos] value pos) (o5 i fk fv):=fun Hb Ob pins s σ H E I ⟨O,ρ,k,rr,S,hF,hk⟩=>by
 unfold o5 at hF
 split at hF
 ·rename_i ks ds hxs
  obtain⟨a,ha,haO,hat⟩:=S.env.own i _ hxs
  have hP:=jF.on hF hk S (Q:=fun al=>k.nx (ρ.set i (some (.own (yE al))))=rr) fun p e=>e
  refine Dr ‹0› hx hi hv hs pins s σ H E I ⟨O,ρ,S.env,(jF.bind hP).imp fun y hP v H1 s1 d1=>?_⟩
  have S1:=S.same s1
  refine⟨.ref a,ha,O,ρ,S1.env,((jF.bind hP).mono s1).imp fun j hP w H2 s2 d2=>?_⟩
  have S2:=S1.same s2
  obtain⟨al',hg,e⟩:=jF.rO hP
  obtain⟨al,q,f1,f2,f3,f4,f5⟩:=Ab hg
  subst f1 f2 f3 f5
  have s12:=s1.trans s2
  have hat2:dD X.K H2 O a (yE al):=hat.mono (let ⟨_,z⟩:=hat.some; rR s12 z) (bX s12)
  have dv:cN X.K (hid H2 O) y v:=d1.mono (bX s2)
  have fin:∀ kvs:List (Key×V),kvs.map (·.1)=al.map (·.1)->aZ X.K (hid H2 O) (al.map (·.2)) (kvs.map (·.2))->dD X.K (upd H2 a (.dK (putK kvs q v))) O a (yE (rj al q y)):=fun kvs k2 k3 =>
   ⟨_,_,aL,(DQ dv k2 k3).mono (ia haO),.inl ⟨putK kvs q v,rfl,GB (CM k2 q v y),rfl⟩⟩
  rcases MU hat2 with ⟨kvs,k1,k2,k3⟩ | ⟨k1,rfl⟩
  ·have hl:kvs.length=al.length:=by have:=congrArg List.length k2; simpa using this
   exact⟨a,q,kvs,rfl,tT d2,.inl k1,by rw [hl]; exact Pq (of_decide_eq_true f4) (by decide),hk.nx O _ σ _ (S2.setO hxs ha trivial (fin kvs k2 k3)) e⟩
  ·exact⟨a,q,[],rfl,tT d2,.inr ⟨k1,rfl⟩,by decide,hk.nx O _ σ _ (S2.setO hxs ha trivial (fin [] rfl (dh.mpr rfl))) e⟩
 ·exact absurd hF.symm hk.ne
section
variable {X:Cx}
theorem Ke {pins:List (RP×Obj)} {σ:St} {H:Hp} {s:R0} {O:List RP} {ks ds:List D} {v:V} {qs:List Key} (I:Inv X pins σ H s) (h:cN X.K (hid H O) (.dct ks ds) v) (hk:keysOf ks=some qs) :
  ∃ a vs,v=.ref a/\qs.length<=RU/\(a==sysModules)=false/\s.heap.DictOf (bZ X.prog X.w) a vs/\vs.map (·.1)=qs:=by
 obtain⟨a,vs,e,_,h2⟩:=K5.mp h
 have ek:=nG hk
 rcases h2 with ⟨kvs,h3,h4,_⟩ | ⟨kvs,h3,h4,_⟩ | ⟨kvs,o,h3,h4,_⟩
 rotate_left 2
 ·rw [h4] at hk; cases hk
 ·obtain⟨z,hd,us,rel,dd⟩:=GZ I.hok ((aD H O) _ _ h3)
  have e1:kvs.map (·.1)=qs:=by
   have:(kvs.map (·.1)).map bu=qs.map bu:=by rw [P8,<- ek,h4]; rfl
   have e2:=congrArg keysOf this
   rw [cw,cw] at e2
   exact Option.some.inj e2
  refine⟨a,us,e,?_,hd,dd,?_⟩
  ·have:=congrArg List.length e1
   rw [Oj] at this
   omega
  ·rw [<- rel.keys,e1]
 ·cases kvs with
  | nil =>
   rw [h4] at hk
   cases hk
   obtain⟨z,hd,us,rel,dd⟩:=(show cC X.prog X.w H s.heap a (.dK []) from yB (I.hok a _ ((aD H O) _ _ h3)))
   refine⟨a,us,e,Om _,hd,dd,?_⟩
   rw [<- rel.keys]; rfl
  | cons p r =>
   rw [h4] at hk
   cases hk
def vA:List D->Option D
 | [.dct ks _]=>(keysOf ks).bind fun qs=>some (.int qs.length)
 | _=>none
theorem B8:dQ X (.builtin "len") (yD X.K vA):=by
 intro pins s σ H xs us Q I r ⟨O,ds,d,hO,hd,hg,q⟩
 unfold vA at hg
 split at hg
 ·rename_i ks vs0
  cases hk:keysOf ks with
  | none=>rw [hk] at hg; cases hg
  | some qs =>
   rw [hk] at hg
   cases hg
   obtain⟨v,ev,h1⟩:=hd.one
   obtain⟨a,vs,e,z,hs,dd,e1⟩:=Ke I h1 hk
   subst ev e
   obtain⟨u,rfl,ru⟩:=vals1 r
   cases ru
   have hl:vs.length=qs.length:=by have:=congrArg List.length e1; simpa using this
   refine call_len_dict hs dd (by rw [Sr] at z; omega) ?_
   rw [hl]
   exact⟨.int qs.length,H,I.tok _,⟨_,rfl⟩,q _ H (bj.refl H) (fN.mpr rfl)⟩
 ·cases hg
theorem CB {k:Key} {v:RM} (h:qY k v=true):RelV (kV k) v:=by
 rcases cV h with ⟨i,t,rfl,rfl⟩ | ⟨x,t,rfl,rfl⟩
 ·exact⟨_,rfl⟩
 ·exact⟨_,rfl⟩
theorem uX {P:RO} {w:RN}:∀ {vs:List (Key×RM)} {its:List RM},its.length=vs.length->(∀ (j:Nat) (v:RM),its[j]?=some v->∃ (k:Key) (x:RM),vs[j]?=some (k,x)/\(bZ P w).is k v=true)->Vals (vs.map fun p=>kV p.1) its
 | [],[],_,_=>.nil
 | p::r,u::us,hl,h=>by
  obtain⟨k,x,e,hk⟩:=h 0 u rfl
  cases e
  exact .cons (CB (by rw [Ah] at hk; exact hk)) (uX (by simpa using hl) fun j v e=>h (j+1) v (by simpa using e))
 | [],_::_,hl,_=>by cases hl
 | _::_,[],hl,_=>by cases hl
theorem vB {K:QN} {H:Hp}:∀ qs:List Key,aZ K H (qs.map bu) (qs.map kV)
 | []=>dh.mpr rfl
 | k::r=>bz.mpr ⟨kV k,_,rfl,by cases k with
  | inl i=>exact fN.mpr rfl
  | inr x=>exact fP.mpr rfl,vB r⟩
def qD:List D->Option D
 | [.dct ks _]=>(keysOf ks).bind fun _=>some (.lst ks)
 | _=>none
theorem zQ (hc:X.calm=true):dQ X (.type "list") (yD X.K qD):=by
 intro pins s σ H xs us Q I r ⟨O,ds,d,hO,hd,hg,q⟩
 unfold qD at hg
 split at hg
 ·rename_i ks vs0
  cases hk:keysOf ks with
  | none=>rw [hk] at hg; cases hg
  | some qs =>
   rw [hk] at hg
   cases hg
   obtain⟨v,ev,h1⟩:=hd.one
   obtain⟨a,vs,e,z,hs,dd,e1⟩:=Ke I h1 hk
   subst ev e
   obtain⟨u,rfl,ru⟩:=vals1 r
   cases ru
   have hl:vs.length=qs.length:=by have:=congrArg List.length e1; simpa using this
   obtain⟨ep,da⟩:=dd.dictAt
   refine Rb (PySem.W.kdl_dict hs) (I.ok.hd hc) da ‹0› fun h' tk acc' c' kp e2 it=>?_
   have rv:Vals (qs.map kV) acc'.toList:=by
    have:=uX (P:=X.prog) (w:=X.w) (vs:=vs) (its:=acc'.toList) (by rw [Array.length_toList]; exact it.1) fun j v e=>it.2 j v (by rw [<- Array.getElem?_toList]; exact e)
    rw [<- e1,P8]; exact this
   refine⟨.ref s.heap.objs.size,_,I.laid (t':=tk) kp (Oa _) (show cC X.prog X.w _ h' _ (.lst (qs.map kV)) from ⟨by rw [Oj]; exact z,acc'.toList,c',rv,by simpa using e2⟩),rfl,?_⟩
   have hf:=I.hok.fresh (Oa s.heap.objs.size)
   refine q _ _ (bF hf _) ?_
   rw [nG hk]
   exact dC hO hf (vB qs)
 ·cases hg
end
end TG
namespace TG
open PySem PySem.Spec L2
variable [aV]
end TG
namespace TG
open PySem PySem.Spec PySem.Calls L2
variable [aV]
theorem B4:typeLookup (.type "list") "keys"=pure none:=by rw [typeLookup_type,builtinLookup_eq_fast]; kernel_rfl
theorem GD {prog:RO} {w:RN} {A:RZ} {E:RM->R0->Prop} {s:R0} {a:RP} {o:Obj} {xs:Array RM} {k:Nat} {u:Tok} {Q:RM->R0->Prop}
  (hx:s.heap.get? a=some o) (hc:o.cls=.type "list") (hdat:o.data=.seq xs k) (hd:o.dict=none) (hA:A.handled=none)
  (h:∀ h' tk e,Heap.NewExcOf s.heap h' e "AttributeError"->E (.ref e) { s with heap:=h',toks:=tk }) :
  R3 (model prog w) A (getAttrBy (.ref a) (.str "keys" u) false) Q E s:=by
 obtain⟨c,dct,dat,sl⟩:=o
 simp only at hc hdat hd
 subst hc hdat hd
 obtain⟨hp,g,d,tk,os⟩:=s
 have hT:∀ tk',(⟨hp,g,d,tk',os⟩:R0).TypeIs (.ref a) "list":=fun _=>⟨_,hx,rfl⟩
 have f1:=sub_AttributeError
 have f3:=F.slot_list_getattribute.lookup
 have f4:=F.slot_list_getattribute.bind (.ref a)
 have f5:=am_list_getattr_none
 unfold getAttrBy
 repeat (any_goals (first | assumption | exact hT _ | ((with_reducible show R3 _ _ (call (Value.builtin "list.__getattribute__") _ _) _ _ _); refine call_meets F.slot_list_getattribute (hT _) am_entry_list_getattribute (F.args_list_getattribute_2 _ _) (meets_getattribute_miss_list a xs k sl "keys" _ B4 (by decide +kernel) (by decide +kernel)) ⟨hx,hA,fun h' tk' e hx'=>?_⟩) | wp_step))
 obtain⟨t',u',he⟩:=hx'.there
 show R3 _ _ (getattributeRaised _ _ _ _ _ _ _) _ _ _
 unfold getattributeRaised
 repeat (any_goals (first | assumption | wp_step))
 exact h _ _ _ hx'.of
theorem FJ {prog:RO} {w:RN} {A:RZ} {E:RM->R0->Prop} {s:R0} {a:RP} {o:Obj} {xs:Array RM} {k:Nat} {Q:Option RM->R0->Prop}
  (hx:s.heap.get? a=some o) (hc:o.cls=.type "list") (hdat:o.data=.seq xs k) (hd:o.dict=none) (hA:A.handled=none)
  (h:∀ h' tk,(∀ b o,s.heap.get? b=some o->h'.get? b=some o)->Q none { s with heap:=h',toks:=tk }) :
  R3 (model prog w) A (getAttr? (.ref a) "keys") Q E s:=by
 obtain⟨hp,g,d,tk,os⟩:=s
 have f1:=sub_AttributeError
 unfold getAttr? getAttrBy?
 refine Se (wpAny_mkText ?_)
 refine Se (Tl (GD (s:=⟨hp,g,d,tk+1,os⟩) hx hc hdat hd hA fun h' tk' e ne=>?_))
 obtain⟨ob,vs,e1,e2,_⟩:=ne.there
 refine Se (Tn (s:=⟨h',g,d,tk',os⟩) ⟨ob,e1,e2⟩ f1 ?_)
 exact Sd (h h' tk' ne.keeps)

abbrev Keeps (h0 h:RT):Prop:=∀ b o,h0.get? b=some o->h.get? b=some o
section
variable {prog:RO} {w:RN} {A:RZ} {E:RM->R0->Prop} {K:Type} [DecidableEq K] {knd:HeapKind prog w K} {d:RP} {h0:RT}
def DI (knd:HeapKind prog w K) (h0:RT) (d:RP) (h:RT) (xs:List (K×RP×RM)):Prop :=
 (∃ o es ep,h.get? d=some o/\o.ExactDict/\o.data=.dict es ep/\es.toList=xs.map (entryOfKey knd)/\(xs.map (·.1)).Nodup)/\∀ x∈xs,∀ h,Keeps h0 h->knd.is h x.1 x.2.1
theorem DI.dict {h:RT} {xs:List (K×RP×RM)} (x:DI knd h0 d h xs) (k:Keeps h0 h):h.DictOfH knd d xs:=by
 obtain⟨⟨o,es,ep,h1,h2,h3,h4,h5⟩,h6⟩:=x
 exact⟨o,es,ep,h1,h2,h3,h4,fun y hy=>h6 y hy h k,h5⟩
theorem DI.stay {h h':RT} {xs:List (K×RP×RM)} (x:DI knd h0 d h xs) (k:∀ o,h.get? d=some o->h'.get? d=some o):DI knd h0 d h' xs:=by
 obtain⟨⟨o,es,ep,h1,r⟩,h6⟩:=x
 exact⟨⟨o,es,ep,k o h1,r⟩,h6⟩
theorem mem_storedH {xs:List (K×RP×RM)} {k:K} {a:RP} {v:RM} {x:K×RP×RM} (h:x∈storedH xs k a v):(∃ y∈xs,y.1=x.1/\y.2.1=x.2.1)\/(x.1=k/\x.2.1=a):=by
 unfold storedH at h
 split at h
 ·obtain⟨y,hy,rfl⟩:=List.mem_map.mp h
  refine .inl ⟨y,hy,?_⟩
  unfold putAt
  split <;> exact⟨rfl,rfl⟩
 ·rcases List.mem_append.mp h with z | z
  ·exact .inl ⟨x,z,rfl,rfl⟩
  ·rw [Qe] at z
   subst z; exact .inr ⟨rfl,rfl⟩
theorem DI.put {h h':RT} {xs:List (K×RP×RM)} {k:K} {a:RP} {v:RM} (x:DI knd h0 d h xs) (hk:∀ h,Keeps h0 h->knd.is h k a) (dd:h'.DictOfH knd d (storedH xs k a v)):DI knd h0 d h' (storedH xs k a v):=by
 obtain⟨o,es,ep,h1,h2,h3,h4,_,h5⟩:=dd
 refine⟨⟨o,es,ep,h1,h2,h3,h4,h5⟩,fun y hy g kg=>?_⟩
 rcases mem_storedH hy with ⟨z,hz,e1,e2⟩ | ⟨e1,e2⟩
 ·rw [<- e1,<- e2]; exact x.2 z hz g kg
 ·rw [e1,e2]; exact hk g kg
theorem xX (xs:List (K×RP×RM)) (k:K) (a:RP) (v:RM):(storedH xs k a v).length<=xs.length+1:=by
 unfold storedH
 split
 ·rw [Oj]; omega
 ·simp
theorem xV:entryFor table "dict.update.loop"=some Builtin.«dict.update.loop»:=entryFor_of_tree (by kernel_rfl)
theorem pj:plainId "dict.update.loop"=true:=by decide +kernel
theorem BV {R:Result->R0->Prop} {I:RP} {fp wr:List RP} {P:Nat->RM->Prop} {St:Nat->RT->Prop} {L:List (K×RP×RM)} (W:Walks prog w A.in1 I fp wr L.length P St) (hwr:∀ b∈wr,h0.get? b=none) (hdn:h0.get? d=none) (hdf:d∉fp)
  (hn:L.length<=RU) (hu:knd.room A.in1) (hP:∀ i v,P i v->∃ x t,L[i]?=some x/\v=.ref t/\∀ h,Keeps h0 h->h.IsTuple t #[.ref x.2.1,x.2.2]) (hK:∀ x∈L,∀ h,Keeps h0 h->knd.is h x.1 x.2.1) (res:RM) :
  ∀ (m i:Nat) (s:R0) (xs:List (K×RP×RM)) (j:Int) (u:Tok),i+m=L.length->St i s.heap->Keeps h0 s.heap->DI knd h0 d s.heap xs->xs.length<=i ->
  (∀ h' tk,Keeps h0 h'->DI knd h0 d h' ((L.drop i).foldl (fun xs x=>storedH xs x.1 x.2.1 x.2.2) xs)->R (.ok (.ret res)) { s with heap:=h',toks:=tk }) ->
  Ss (model prog w) A (.builtin "dict.update.loop" ⟨[.ref d,.ref I,.int j u,res],[]⟩) R s:=by
 have hdw:d∉wr:=fun h=>hdf (W.sub _ h)
 intro m
 induction m with
 | zero =>
  intro i s xs j u hi st kp di hl hR
  have hin:i=L.length:=by omega
  subst hin
  refine codeAny_builtin xV ?_
  rw [Around.under_plainId pj _]
  show R3 _ A.in1 (pyNext (.ref I) >>= _) _ _ s
  refine Se (W.done s _ _ st fun h' tk hk=>?_)
  refine Se (Sd (Sd ?_))
  have:=hR h' tk (fun b o q=>hk b o (fun z=>by have:=hwr b z; rw [q] at this; cases this) (kp b o q)) (by
   rw [Pt,List.foldl_nil]
   exact di.stay fun o q=>hk d o hdw q)
  exact this
 | succ m ih =>
  intro i s xs j u hi st kp di hl hR
  refine codeAny_builtin xV ?_
  rw [Around.under_plainId pj _]
  show R3 _ A.in1 (pyNext (.ref I) >>= _) _ _ s
  refine Se (W.item i s _ _ ‹0› st fun v h' tk hv st' hk=>?_)
  obtain⟨x,t,hx,rfl,ht⟩:=hP i v hv
  have kp':Keeps h0 h':=fun b o q=>hk b o (fun z=>by have:=hwr b z; rw [q] at this; cases this) (kp b o q)
  obtain⟨o,ho,hc,n,hd⟩:=ht h' kp'
  have xm:x∈L:=Oz hx
  refine Se (SN (Se (wpAny_tryCatch ?_)))
  unfold Builtin.Dict.pairItems
  refine Se (SV (T := "tuple") ⟨o,ho,hc⟩ ?_)
  rw [if_pos (by decide)]
  refine Se (Ta ho hd (Sd ?_))
  show R3 _ _ (holding [.ref x.2.1,x.2.2] (dictSet d (.ref x.2.1) x.2.2)) _ _ _
  have di':DI knd h0 d h' xs:=di.stay fun o q=>hk d o hdw q
  refine SN (wpAny_dictSet_heap (s:={ s with heap:=h',toks:=tk }) (hsz:=by omega) hu (hK x xm h' kp') (di'.dict kp') fun h2 dd sb=>?_)
  have kp2:Keeps h0 h2:=fun b o q=>(sb.2 b (fun z=>by rw [z,hdn] at q; cases q)).trans (kp' b o q)
  refine Sd ⟨plainId_quiet pj _,?_⟩
  refine ih (i+1) _ (storedH xs x.1 x.2.1 x.2.2) (j+1) 0 ‹0› (W.frame _ _ _ st' fun b hb o q=>(sb.2 b (fun z=>hdf (by rw [<- z]; exact hb))).trans q) kp2 (di'.put (hK x xm) dd) (by have:=xX xs x.1 x.2.1 x.2.2; omega) fun h3 tk3 kp3 di3=>?_
  refine hR h3 tk3 kp3 ?_
  have e:L.drop i=x::L.drop (i+1):=by
   have hil:i < L.length:=by omega
   rw [Pp hil]
   rw [O6 hil] at hx
   rw [Option.some.inj hx]
  rw [e,PR]
  exact di3
theorem mB {s:R0} {Q:RM->R0->Prop} {l:RP} {o:Obj} {items:Array RM} {n:Nat} {L:List (K×RP×RM)} (ho:s.heap.get? l=some o) (hc:o.cls=.type "list") (hd:o.data=.seq items n) (hdd:o.dict=none) (hh:A.handled=none) (hu:knd.room A.in1.in1)
  (hl:items.size=L.length) (hn:L.length<=RU) (hP:∀ (i:Nat) v,items[i]?=some v->∃ x t,L[i]?=some x/\v=.ref t/\s.heap.IsTuple t #[.ref x.2.1,x.2.2]) (hK:∀ x∈L,∀ h,Keeps s.heap h->knd.is h x.1 x.2.1)
  (hQ:∀ h' tk,Keeps s.heap h'->DI knd s.heap s.heap.objs.size h' (L.foldl (fun xs x=>storedH xs x.1 x.2.1 x.2.2) [])->Q (.ref s.heap.objs.size) { s with heap:=h',toks:=tk }) :
  R3 (model prog w) A (call (.type "dict") [.ref l]) Q E s:=by
 refine callType_codes (Q₁:=fun obj s₁=>obj=.ref s.heap.objs.size/\s₁={ s with heap:=s.heap.push { cls:=.type "dict",data:=.dict #[] } }) F.kt_called_dict (F.kt_typeCall_dict_1 _) F.entry_dict_init (kt_code_dict_new _ ⟨rfl,rfl⟩) ?_
 rintro obj s₁ ⟨rfl,rfl⟩
 have hnew:(s.heap.push { cls:=.type "dict",data:=.dict #[] }).DictOfH knd s.heap.objs.size []:=Heap.DictOfH.new s.heap
 have hlt:=Rh ho
 have hl1:(s.heap.push { cls:=.type "dict",data:=.dict #[] }).get? l=some o:=Rl _ ho
 refine⟨hnew.typeIs,F.args_dict_init_2 _ _,?_⟩
 unfold Builtin.«dict.__init__»
 refine Se ?_
 unfold Builtin.Dict.selfAndRest
 refine Se (Tx hnew.typeIs ?_)
 show R3 _ _ (pure (s.heap.objs.size,[Value.ref l])) _ _ _
 refine Sd ?_
 show R3 _ _ (Builtin.Dict.updateFrom "dict.__init__" s.heap.objs.size (.ref l) [] .none) _ _ _
 unfold Builtin.Dict.updateFrom
 refine Se (SV (T := "list") ⟨o,hl1,hc⟩ ?_)
 rw [if_pos (by decide)]
 refine Se (FJ hl1 hc hd hdd hh fun h1 tk1 k1=>?_)
 rw [if_pos (show (none:Option RM).isNone=true from rfl)]
 refine Se (S7 ?_)
 have hd1:h1.get? s.heap.objs.size=some { cls:=.type "dict",data:=.dict #[] }:=k1 _ _ (Rm _ rfl)
 have hl2:h1.IsList l items:=⟨o,k1 _ _ hl1,hc,n,hd⟩
 have dlt:=Rh hd1
 refine Se (Sf (s:={ s with heap:=h1,toks:=tk1 }) hl2 ?_)
 refine Sd ⟨plainId_quiet pj _,?_⟩
 have W:=Walks.list (prog:=prog) (w:=w) (A:=A.in1.in1) hh h1.objs.size l (N0 (OS hlt dlt)) items
 rw [hl] at W
 refine BV (A:=A.in1) (knd:=knd) (h0:=s.heap) (d:=s.heap.objs.size) W (fun b hb=>?_) (Ri (Oa _)) (fun z=>?_) hn hu (fun i v hv=>?_) hK .none L.length 0 _ [] 0 0 ‹0› ?_ (fun b o q=>?_) ⟨⟨_,#[],0,Rl _ hd1,⟨rfl,rfl,rfl⟩,rfl,rfl,OT⟩,fun x hx=>by simp at hx⟩ (Oa _) fun h' tk kp di=>?_
 ·rw [Qe] at hb
  subst hb
  exact Ri (N2 dlt)
 ·simp only [Pu,Pw,or_false] at z
  rcases z with z | z
  ·exact absurd z (N0 dlt)
  ·exact absurd z.symm (N0 hlt)
 ·obtain⟨x,t,e1,e2,e3⟩:=hP i v hv
  obtain⟨ob,q1,q2⟩:=e3
  exact⟨x,t,e1,e2,fun h kh=>⟨ob,kh _ _ q1,q2⟩⟩
 ·exact⟨⟨_,Rm _ rfl,rfl,rfl⟩,let ⟨ob,q1,q2⟩:=hl2; ⟨ob,Rl _ q1,q2⟩⟩
 ·exact Rl _ (k1 _ _ (Rl _ q))
 ·exact⟨rfl,hQ h' tk kp di⟩
end
def yF:D->Option (List Key×D)
 | .tup [k,v]=>(iX k).map fun q=>(q,v)
 | _=>none
def iP:List D->Option (List (List Key×D))
 | []=>some []
 | d::r=>(yF d).bind fun p=>(iP r).map (p::·)
def vK (ps:List (List Key×D)):List (List Key×D):=ps.foldl (fun al p=>gX al p.1 p.2) []
def wH:List D->Option D
 | [.lst xs]=>(iP xs).bind fun ps=>if small ps.length then some (cO (vK ps)) else none
 | _=>none
theorem Ef {d:D} {p:List Key×D} (h:yF d=some p):d=.tup [.tup (p.1.map bu),p.2]:=by
 unfold yF at h
 split at h
 ·rename_i k v
  cases e:iX k with
  | none=>rw [e] at h; cases h
  | some q=>rw [e] at h; cases h; rw [nH e]
 ·cases h
theorem qB:∀ {xs:List D} {ps:List (List Key×D)},iP xs=some ps->xs=ps.map fun p=>.tup [.tup (p.1.map bu),p.2]
 | [],_,h=>by cases h; rfl
 | d::r,ps,h=>by
  unfold iP at h
  cases e1:yF d with
  | none=>rw [e1] at h; cases h
  | some p =>
   rw [e1] at h
   cases e2:iP r with
   | none=>rw [e2] at h; cases h
   | some ps'=>rw [e2] at h; cases h; rw [Ef e1,qB e2]; rfl
section
variable {X:Cx}
theorem qv {pins:List (RP×Obj)} {σ:St} {H:Hp} {s:R0} {O:List RP} (I:L2.Inv X pins σ H s):∀ {ps:List (List Key×D)} {ws:List V} {its:List RM},aZ X.K (hid H O) (ps.map fun p=>.tup [.tup (p.1.map bu),p.2]) ws->Vals ws its ->
  ∃ (L:List (List Key×RP×RM)) (ks:List (List Key×V)),its.length=L.length/\(∀ (i:Nat) (v:RM),its[i]?=some v->∃ (x:List Key×RP×RM) (t:RP),L[i]?=some x/\v=.ref t/\s.heap.IsTuple t #[.ref x.2.1,x.2.2])/\KT H ks L/\ks.map (·.1)=ps.map (·.1)/\aZ X.K (hid H O) (ps.map (·.2)) (ks.map (·.2))
 | [],ws,its,h,r=>by
  rw [OJ,dh] at h
  subst h
  cases r
  exact⟨[],[],rfl,(fun i v e=>by simp at e),.nil,rfl,dh.mpr rfl⟩
 | p::ps,ws,its,h,r=>by
  rw [Oi,bz] at h
  obtain⟨w,ws',rfl,h1,h2⟩:=h
  cases r with
  | @cons _ u _ us ru rr =>
   obtain⟨L,ks,l1,l2,l3,l4,l5⟩:=qv I h2 rr
   obtain⟨t,vs,rfl,t1,t2⟩:=cB.mp h1
   obtain⟨v1,v2,rfl,d1,d2⟩:=t2.two
   obtain⟨a,ks1,rfl,a1,a2⟩:=cB.mp d1
   rw [jk a2] at a1
   obtain⟨its',r',⟨o,q1,q2⟩,_⟩:=I.tuple (bP (K:=X.K) (aD H O) t1)
   obtain⟨x1,x2,rfl,rx1,rx2⟩:=vals2 r'
   cases rx1
   obtain rfl:u=Value.ref t:=ru
   refine⟨(p.1,a,x2)::L,(p.1,v2)::ks,by rw [Oh,Oh,l1],fun i v e=>?_,.cons ⟨rfl,(aD H O) _ _ a1,rx2⟩ l3,by rw [Oi,Oi,l4],bz.mpr ⟨v2,_,rfl,d2,l5⟩⟩
   cases i with
   | zero =>
    have e:Value.ref t=v:=by simpa using e
    subst e
    exact⟨_,t,rfl,rfl,o,q1,q2⟩
   | succ i=>exact l2 i v (by simpa using e)
theorem rY {K:QN} {H:Hp} {H0:Hp}:∀ {ps:List (List Key×D)} {ks:List (List Key×V)} {L:List (List Key×RP×RM)} {al:List (List Key×D)} {kvs:List (List Key×V)} {xs:List (List Key×RP×RM)},KT H ks L->ks.map (·.1)=ps.map (·.1)->aZ K H0 (ps.map (·.2)) (ks.map (·.2)) ->
  KT H kvs xs->kvs.map (·.1)=al.map (·.1)->aZ K H0 (al.map (·.2)) (kvs.map (·.2)) ->
  KT H (ks.foldl (fun m p=>putK m p.1 p.2) kvs) (L.foldl (fun xs x=>storedH xs x.1 x.2.1 x.2.2) xs)/\(ks.foldl (fun m p=>putK m p.1 p.2) kvs).map (·.1)=(ps.foldl (fun al p=>gX al p.1 p.2) al).map (·.1) /\
   aZ K H0 ((ps.foldl (fun al p=>gX al p.1 p.2) al).map (·.2)) ((ks.foldl (fun m p=>putK m p.1 p.2) kvs).map (·.2))/\(ks.foldl (fun m p=>putK m p.1 p.2) kvs).length<=kvs.length+ks.length
 | [],[],_,al,kvs,xs,.nil,_,_,h1,h2,h3=>⟨h1,h2,h3,by simp⟩
 | p::ps,q::ks,_,al,kvs,xs,.cons (b:=x) hq hr,e,d,h1,h2,h3=>by
  rw [Oi,Oi] at e
  injection e with e1 e2
  rw [Oi,Oi,bz] at d
  obtain⟨v,vs,d0,d1,d2⟩:=d
  injection d0 with d0 d0'
  subst d0 d0'
  obtain⟨y1,y2,y3⟩:=hq
  have z1:=KT.put h1 q.1 y2 y3
  rw [y1] at z1
  have z2:=yP h2 q.1 q.2 p.2
  have z3:=Ax (k:=q.1) d1 h2 h3
  have:=rY (kvs:=putK kvs q.1 q.2) (al:=gX al q.1 p.2) (xs:=storedH xs x.1 x.2.1 x.2.2) hr e2 d2 (by rw [y1]; exact z1) z2 z3
  rw [PR,PR,PR,<- e1]
  refine⟨this.1,this.2.1,this.2.2.1,N1 this.2.2.2 ?_⟩
  have:=jP kvs q.1 q.2
  rw [Oh]; omega
 | [],_::_,_,_,_,_,_,e,_,_,_,_=>by cases e
 | _::_,[],_,_,_,_,_,e,_,_,_,_=>by cases e
theorem Al (hc:X.calm=true) (hu:X.A.units+64 < Sy):dQ X (.type "dict") (yD X.K wH):=by
 intro pins s σ H xs us Q I r ⟨O,ds,d,hO,hd,hg,q⟩
 unfold wH at hg
 split at hg
 ·rename_i ys
  cases hp:iP ys with
  | none=>rw [hp] at hg; cases hg
  | some ps =>
   rw [hp] at hg
   obtain⟨sm,rfl⟩:=bE (show (if small ps.length then some (cO (vK ps)) else none)=some d from hg)
   obtain⟨v,rfl,h1⟩:=hd.one
   obtain⟨p,ws,rfl,g1,g2⟩:=cA.mp h1
   obtain⟨u,rfl,ru⟩:=vals1 r
   cases ru
   obtain⟨its,rv,⟨o,n,ho,hcl,hd',hdd⟩,hz⟩:=I.list ((aD H O).seq g1)
   rw [qB hp] at g2
   obtain⟨L,ks,l1,l2,l3,l4,l5⟩:=qv I g2 rv
   have kl:ks.length=ps.length:=by have:=congrArg List.length l4; simpa using this
   have ll:ks.length=L.length:=Paired.length l3
   have key:∀ {ks:List (List Key×V)} {L:List (List Key×RP×RM)},KT H ks L->∀ x∈L,∀ h,Keeps s.heap h->(tupleKind (bZ X.prog X.w)).is h x.1 x.2.1:=fun {ks L} kt=>by
    induction kt with
    | nil=>intro x hx; cases hx
    | cons hq _ ih =>
     intro x hx h kh
     rcases List.mem_cons.mp hx with z | z
     ·subst z
      obtain⟨e1,e2,_⟩:=hq
      rw [e1] at e2
      obtain⟨o,xs,n,k1,k2⟩:=oM I.hok e2
      exact⟨o,xs,n,kh _ _ k1,k2⟩
     ·exact ih x z h kh
   obtain⟨f1,f2,f3,f4⟩:=rY (K:=X.K) (H:=H) (H0:=hid H O) (al:=[]) (kvs:=[]) (xs:=[]) l3 l4 l5 .nil rfl (dh.mpr rfl)
   have hsz:ps.length<=100000:=of_decide_eq_true sm
   have sl:RU=16777216:=Sr
   refine mB (knd:=tupleKind (bZ X.prog X.w)) (L:=L) ho hcl hdd hd' (I.ok.hd hc) (S4 (by rw [in1_units]; omega)) (by simpa using l1) ‹0› (fun i v e=>l2 i v (by simpa using e)) (key l3) fun h' tk kp di=>?_
   have hf:=I.hok.fresh (Oa s.heap.objs.size)
   obtain⟨⟨od,es,ep,k1,k2,k3,k4,k5⟩,_⟩:=di
   have kt':KT (upd H s.heap.objs.size (.dT (ks.foldl (fun m p=>putK m p.1 p.2) []))) (ks.foldl (fun m p=>putK m p.1 p.2) []) (L.foldl (fun xs x=>storedH xs x.1 x.2.1 x.2.2) []):=KT.keeps f1 fun b ys eb=>by rw [aE (fun z=>by rw [z,hf] at eb; cases eb)]; exact eb
   refine⟨.ref s.heap.objs.size,_,I.laid (t':=tk) kp (Oa _) (show cC X.prog X.w _ h' _ (.dT (ks.foldl (fun m p=>putK m p.1 p.2) [])) from ⟨by simp only [OO] at f4; omega,beq_eq_false_iff_ne.mpr (Ne.symm (N0 I.big)),_,kt',od,es,ep,k1,k2,k3,k4,k5⟩),rfl,?_⟩
   refine q _ _ (bF hf _) ?_
   have pO:=hO.not hf
   refine K5.mpr ⟨s.heap.objs.size,_,rfl,f3.mono (rB hf),.inr (.inl ⟨_,by rw [jX pO]; exact aL,tM f2,rfl⟩)⟩
 ·cases hg
end
def qu (al:List (List Key×D)) (q:List Key):Option D:=(al.find? fun p=>decide (p.1=q)).map (·.2)
def JN (ks ds:List D) (k x:D):Option D:=(kH ks ds).bind fun al=>(iX k).bind fun q=>some ((qu al q).getD x)
def LZ (fo fk fx:FX):FX:=fun ρ=>(fo ρ).bind fun dd=>match dd with
 | .dct ks ds=>(fk ρ).bind fun k=>(fx ρ).bind fun x=>rO (JN ks ds k x)
 | _=>un
theorem yJ {K:QN} {H:Hp} {v:V} {al:List (List Key×D)} (h:cN K H (cO al) v) :
  ∃ a,v=.ref a/\((∃ kvs:List (List Key×V),H a=some (.dT kvs)/\kvs.map (·.1)=al.map (·.1)/\aZ K H (al.map (·.2)) (kvs.map (·.2)))\/(H a=some (.dK [])/\al=[])):=by
 obtain⟨a,vs,e0,h2,h3⟩:=K5.mp h
 refine⟨a,e0,?_⟩
 rcases h3 with ⟨kvs,e,e1,e2⟩ | ⟨kvs,e,e1,e2⟩ | ⟨kvs,o,e,e1,e2⟩
 rotate_left 2
 ·cases al with
  | nil=>cases e1
  | cons _ _=>injection e1 with e1 _; cases e1
 ·cases kvs with
  | nil=>exact .inr ⟨e,by simpa using e1⟩
  | cons p r =>
   cases al with
   | nil=>cases e1
   | cons q r' =>
    have e1:D.tup (q.1.map bu)::encK r'=bu p.1::r.map (fun p=>bu p.1):=e1
    injection e1 with e1 _
    rcases p with ⟨k,v⟩
    cases k <;> cases e1
 ·refine .inl ⟨kvs,e,?_,by rw [<- e2]; exact h2⟩
  exact(my (ks:=kvs.map (·.1)) (by rw [P8]; exact e1)).symm
theorem xE {K:QN} {H:Hp} (q:List Key):∀ {kvs:List (List Key×V)} {al:List (List Key×D)},kvs.map (·.1)=al.map (·.1)->aZ K H (al.map (·.2)) (kvs.map (·.2))->(jy kvs q=none/\qu al q=none)\/∃ v d,jy kvs q=some v/\qu al q=some d/\cN K H d v
 | [],[],_,_=>.inl ⟨rfl,rfl⟩
 | p::r,a::al,e,h=>by
  rw [Oi,Oi] at e
  injection e with e1 e2
  rw [Oi,Oi,bz] at h
  obtain⟨v,ws,h0,h1,h2⟩:=h
  injection h0 with h0 h0'
  subst h0 h0'
  by_cases z:p.1=q
  ·refine .inr ⟨p.2,a.2,kB z,?_,h1⟩
   unfold qu
   rw [Qi (by rw [<- e1]; simpa using z)]; rfl
  ·have ih:=xE q e2 h2
   have g:qu (a::al) q=qu al q:=by
    unfold qu
    rw [Qj (by rw [<- e1]; simpa using z)]
   rw [jn z,g]
   exact ih
 | [],_::_,e,_=>by cases e
 | _::_,[],e,_=>by cases e
def rK (x y:D):Option D:=match y with
 | .dct ks ds=>(qM ks ds x).bind zj
 | _=>none
section
variable {X:Cx}
theorem Br (hu:X.A.units+64 < Sy):lX X (Sn .NotIn) (rD X.K rK):=by
 intro pins s σ H x y u v Q I rx ry ⟨O,a,b,d,hO,ha,hb,hg,q⟩
 cases b with
 | dct ks ds =>
  have hg:(qM ks ds a).bind zj=some d:=hg
  cases e0:qM ks ds a with
  | none=>rw [e0] at hg; cases hg
  | some d0 =>
  rw [e0] at hg
  obtain⟨al,qk,f1,f2,f3,f4⟩:=y9 e0
  subst f1 f2 f3 f4
  cases hg
  obtain⟨p,ey,hh⟩:=yJ hb
  obtain⟨c,ws,ex,g1,g2⟩:=cB.mp ha
  rw [jk g2] at g1
  have g1':=(aD H O) _ _ g1
  subst ex ey
  cases ry
  rcases hh with ⟨kvs,k1,k2,k3⟩ | ⟨k1,rfl⟩
  ·have hv:=D9 k2 qk
   rw [P9] at hv
   refine AA ‹0› I (DG.t ((aD H O) _ _ k1) g1') rx fun s3 I3=>⟨.bl (!(jy kvs qk).isSome),H,I3,rfl,q _ H (bj.refl H) (mJ.mpr ?_)⟩
   rw [hv]; rfl
  ·have k1':=(aD H O) _ _ k1
   have ne:c≠p:=fun z=>by rw [z,k1'] at g1'; cases g1'
   refine AA (o:=jy [] qk) ‹0› (C4 I k1') (DG.t aL (by rw [aE ne]; exact g1')) rx fun s3 I4=>⟨.bl true,H,?_,rfl,q _ H (bj.refl H) (mJ.mpr rfl)⟩
   have I5:=J2 I4 aL
   rw [Dg k1'] at I5
   exact I5
 | _=>cases hg
end
end TG
namespace TG
open PySem PySem.Spec L2
variable [aV]
end TG
namespace TG
open PySem PySem.Spec L2
variable [aV]
end TG
namespace TG
open PySem PySem.Spec L2
variable [aV]
end TG
namespace TG
open PySem PySem.Spec PySem.Calls L2
section
variable {prog:RO} {w:RN} {K:Type} [DecidableEq K] {knd:HeapKind prog w K} {A:RZ} {E:RM->R0->Prop} {s:R0} {d a:RP} {k:K} {xs:List (K×RP×RM)}
theorem yj {v:RM} {Q:RM->R0->Prop} (hu:knd.room A) (hkey:knd.is s.heap k a) (hm:s.heap.DictOfH knd d xs) (hsz:xs.length<=RU)
  (h1:∀ p,atKey xs k=some p->Q p.2 { s with toks:=s.toks+knd.draws k })
  (h2:atKey xs k=none->∀ h',h'.DictOfH knd d (storedH xs k a v)->Rj d s.heap h'->Q v { s with heap:=h',toks:=s.toks+knd.draws k }) :
  R3 (model prog w) A (dictSetDefault d (.ref a) v) Q E s:=by
 obtain⟨o,es,ep,ho,hc,hd,he,his,hn⟩:=hm
 unfold dictSetDefault
 try with_reducible refine SN ?_
 refine Se (knd.pyHash hu hkey (Se (wpAny_dictFind_heap (s:={ s with toks:=s.toks+knd.draws k }) hu hkey ho hd he his hn (fun hno=>?_) fun j p hj=>?_)))
 ·have hnone:=atKey_none_of_get hno
  refine Se (S7 (Se (wpAny_updateDictKeys (hz:=by have e:=size_of_entries he; omega) (s:={ s with toks:=s.toks+knd.draws k }) ho hd (Sd (h2 hnone _ ⟨_,_,ep+1,Ro _ ho (Obj.isFreed_of_dict (Obj.data_mapDictKeys hd _)),hc.mapDictKeys _,Obj.data_mapDictKeys hd _,?_,?_,?_⟩ (Heap.SameBut.update ..))))))
  ·rw [storedH_new hnone]; simp [he,entryOfKey]
  ·rw [storedH_new hnone]
   intro x hx
   rcases List.mem_append.mp hx with hx | hx
   ·exact knd.keeps (his x hx) ho hd (Heap.SameBut.update ..)
   ·rw [Qe] at hx; subst hx; exact knd.keeps hkey ho hd (Heap.SameBut.update ..)
  ·rw [storedH_new hnone,Pj,PK]
   refine⟨hn,by simp,fun x hx y hy=>?_⟩
   simp only [Oi,OJ,Qe] at hy
   subst hy; exact fun e=>not_mem_keys_of_get hno (e ▸ hx)
 ·refine Se (Tz (s:={ s with toks:=s.toks+knd.draws k }) ho hd ?_)
  rw [entry_at he j,hj]
  exact Se (S7 (Sd (h1 p (atKey_of_get hn hj))))
theorem yG {v:RM} {Q:RM->R0->Prop} (hu:knd.room A.in1) (hkey:knd.is s.heap k a) (hm:s.heap.DictOfH knd d xs) (hsm:(d==sysModules)=false) (hsz:xs.length<=RU)
  (h1:∀ p,atKey xs k=some p->Q p.2 { s with toks:=s.toks+knd.draws k })
  (h2:atKey xs k=none->∀ h',h'.DictOfH knd d (storedH xs k a v)->Rj d s.heap h'->Q v { s with heap:=h',toks:=s.toks+knd.draws k }) :
  R3 (model prog w) A (call (.builtin "dict.setdefault") [.ref d,.ref a,v]) Q E s:=by
 refine SU PySem.F.slot_dict_setdefault hm.typeIs PySem.F.entry_dict_setdefault ?_ (PySem.F.args_dict_setdefault_3 _ _ _)
 unfold Builtin.«dict.setdefault»
 refine Se ?_
 unfold Builtin.Dict.keyAndDefault
 refine Se (Tx hm.typeIs ?_)
 show R3 _ _ (pure (d,Value.ref a,some v)) _ _ s
 refine Sd ?_
 show R3 _ _ (if (d==sysModules)=true then _ else (dictSetDefault d (.ref a) v >>= _)) _ _ s
 rw [if_neg (by rw [hsm]; exact Og)]
 exact Se (yj hu hkey hm hsz (fun p hp=>Sd ⟨_,rfl,h1 p hp⟩) fun hn h' hm' hs'=>Sd ⟨_,rfl,h2 hn h' hm' hs'⟩)
end
theorem Bq {o:Option V} {w:RM} (h:tS o (some w)):∃ v,o=some v/\RelV v w:=by
 cases o with
 | none=>exact h.elim
 | some v=>exact⟨v,rfl,h⟩
theorem BL {o:Option V} (h:tS o none):o=none:=by
 cases o with
 | none=>rfl
 | some v=>exact h.elim
section
variable {X:Cx} {pins:List (RP×Obj)} {σ:St} {H:Hp} {s:R0} {a b:RP} {v:V} {r:RM} {kvs:List (List Key×V)} {k:List Key} {A:RZ} {E:RM->R0->Prop}
theorem xF {Q:RM->R0->Prop} (hu:A.units+1 < Sy) (I:Inv X pins σ H s) (e:H a=some (.dT kvs)) (eb:H b=some (.tup (k.map kV))) (hl:kvs.length < RU) (rv:RelV v r)
  (h1:∀ v' w' s',jy kvs k=some v'->Inv X pins σ H s'->RelV v' w'->Q w' s') (h2:jy kvs k=none->∀ s',Inv X pins σ (upd H a (.dT (putK kvs k v))) s'->Q r s') :
  R3 (model X.prog X.w) A (call (.builtin "dict.setdefault") [.ref a,.ref b,r]) Q E s:=by
 obtain⟨z,hd,xs,rel,dd⟩:=Hc I.hok e
 have hz:xs.length<=RU:=by rw [<- Paired.length rel]; exact z
 have hl2:(putK kvs k v).length<=RU:=by have:=jP kvs k v; omega
 have q:=rel.val k
 refine yG (S4 hu) (oM I.hok eb) dd hd hz (fun p hp=>?_) fun hn h' dd' hs=>?_
 ·rw [hp] at q
  obtain⟨v',ev,rv'⟩:=Bq q
  exact h1 v' _ _ ev (I.tok _) rv'
 ·rw [hn] at q
  refine h2 (BL q) _ ?_
  obtain⟨q,es,ep,hq,g2,g3,g4,_,g5⟩:=dd'
  refine nF I (by rw [e]; exact True.intro) hs ⟨q,hq⟩ ⟨hl2,hd,_,(rel.put k eb rv).keeps fun c ys ec=>?_,q,es,ep,hq,g2,g3,g4,g5⟩
  rw [aE (C2 ec e (fun z=>nomatch z))]; exact ec
end
variable [aV]
def JT:V->List V->Hp->VK->Prop:=fun x vs H Q=>∃ a b k kvs v,x=.ref a/\vs=[.ref b,v]/\H b=some (.tup (k.map kV))/\(H a=some (.dT kvs)\/(H a=some (.dK [])/\kvs=[]))/\kvs.length < RU/\(∀ v',jy kvs k=some v'->Q v' H)/\(jy kvs k=none->Q v (upd H a (.dT (putK kvs k v))))
theorem EY {X:Cx} (hu:X.A.units+64 < Sy):JA X "dict.setdefault" JT:=by
 intro pins s σ H x vs v us Q I rx rv h
 obtain⟨a,b,k,kvs,v',rfl,rfl,hb,ha,hl,h1,h2⟩:=h
 cases rx
 obtain⟨u1,u,rfl,r1,ru⟩:=rv.two
 obtain rfl:u1=Value.ref b:=r1
 rcases ha with ha | ⟨ha,rfl⟩
 ·exact xF ‹0› I ha hb hl ru (fun v1 w1 s1 e I1 r=>⟨v1,H,I1,r,h1 v1 e⟩) fun e s1 I1=>⟨v',_,I1,ru,h2 e⟩
 ·have ne:b≠a:=fun z=>by rw [z,ha] at hb; cases hb
  refine xF ‹0› (C4 I ha) aL (by rw [aE ne]; exact hb) hl ru (fun v1 w1 s1 e=>by cases e) fun e s1 I1=>⟨v',_,?_,ru,h2 e⟩
  rw [rZ] at I1; exact I1
end TG
namespace TG
open PySem PySem.Spec L2
variable [aV]
theorem eS.setN {K:QN} {Hb:Hp} {Ob O O':List RP} {H H':Hp} {ρ:aq} {σ:St} (S:eS K Hb Ob O H ρ σ) {i:Nat} {d d':D} (hi:ρ[i]?=some (some (.nest d))) (sub:∀ b∈O,b∈O') (s:bj (hid H O) (hid H' O')) (hb:Base Hb Ob H' O') (all:eB H' O')
  (keep:∀ (j:Nat) xs b,ρ[j]?=some (some (.own xs))->σ[j]?=some (some (.ref b))->H b=H' b) (new:Ba K Hb Ob O' H' (ρ.set i (some (.nest d'))) σ i d'):eS K Hb Ob O' H' (ρ.set i (some (.nest d'))) σ:=by
 have own:∀ (j:Nat) xs,(ρ.set i (some (.nest d')))[j]?=some (some (.own xs))->ρ[j]?=some (some (.own xs)):=fun j xs e=>by
  rcases bf e with ⟨_,q⟩ | ⟨_,q⟩
  ·cases q
  ·exact q
 refine⟨⟨fun j d1 e=>?_,fun j xs e=>?_,fun j l xs ys a e1 e2 e3 e4=>S.env.one j l xs ys a (own j xs e1) (own l ys e2) e3 e4,all⟩,hb,fun j xs a e1 e2=>S.mine j xs a (own j xs e1) e2,fun j dn e=>?_⟩
 ·rcases bf e with ⟨_,q⟩ | ⟨_,q⟩
  ·cases q
  ·obtain⟨v,q1,q2⟩:=S.env.val j d1 q
   exact⟨v,q1,q2.mono s⟩
 ·obtain⟨a,q1,q2,q3⟩:=S.env.own j xs (own j xs e)
  exact⟨a,q1,sub a q2,q3.mono (keep j xs a (own j xs e) q1) s⟩
 ·rcases bf e with ⟨hj,q⟩ | ⟨ne,q⟩
  ·cases q; rw [hj]; exact new
  ·obtain⟨_,_,_,_,_,_,one⟩:=S.nst i d hi
   exact absurd (one j dn q) ne
def Kv:aq->Bool
 | []=>true
 | some (.nest _)::_=>false
 | _::ρ=>Kv ρ
theorem o4:∀ {ρ:aq},Kv ρ=true->∀ (j:Nat) d,ρ[j]?≠some (some (.nest d))
 | [],_,j,d,e=>by simp at e
 | none::ρ,h,j,d,e=>by
  cases j with
  | zero=>simp at e
  | succ j=>exact o4 (ρ:=ρ) h j d (by simpa using e)
 | some (.val _)::ρ,h,j,d,e=>by
  cases j with
  | zero=>simp at e
  | succ j=>exact o4 (ρ:=ρ) h j d (by simpa using e)
 | some (.own _)::ρ,h,j,d,e=>by
  cases j with
  | zero=>simp at e
  | succ j=>exact o4 (ρ:=ρ) h j d (by simpa using e)
 | some (.nest _)::ρ,h,j,d,e=>by cases h
theorem eS.setNewN {K:QN} {Hb:Hp} {Ob O:List RP} {H H':Hp} {ρ:aq} {σ:St} (E:eS K Hb Ob O H ρ σ) {i:Nat} {p:RP} (hi:i < σ.length) (sm:bj H H') (hp:H p=none) (m:∃ o,H' p=some o/\tH o) (hn:Kv ρ=true) (new:dD K H' (p::O) p (.dct [] [])) :
  eS K Hb Ob (p::O) H' (ρ.set i (some (.nest (.dct [] [])))) (σ.set i (some (.ref p))):=by
 have T:=E.setNew hi sm hp m new
 have key:∀ (j:Nat) (x:S),(ρ.set i (some (.nest (.dct [] []))))[j]?=some (some x)->(j=i/\x=.nest (.dct [] []))\/(j≠i/\(ρ.set i (some (.own (.dct [] []))))[j]?=some (some x)):=fun j x e=>by
  rcases bf e with ⟨hj,q⟩ | ⟨ne,q⟩
  ·cases q; exact .inl ⟨hj,rfl⟩
  ·exact .inr ⟨ne,by rw [N8 (Ne.symm ne)]; exact q⟩
 refine⟨⟨fun j d e=>?_,fun j xs e=>?_,fun j l xs ys a e1 e2 e3 e4=>?_,T.env.all⟩,T.base,fun j xs a e1 e2=>?_,fun j dn e=>?_⟩
 ·rcases key j _ e with ⟨_,q⟩ | ⟨_,q⟩
  ·cases q
  ·exact T.env.val j d q
 ·rcases key j _ e with ⟨_,q⟩ | ⟨_,q⟩
  ·cases q
  ·exact T.env.own j xs q
 ·rcases key j _ e1 with ⟨_,q⟩ | ⟨_,q1⟩
  ·cases q
  ·rcases key l _ e2 with ⟨_,q⟩ | ⟨_,q2⟩
   ·cases q
   ·exact T.env.one j l xs ys a q1 q2 e3 e4
 ·rcases key j _ e1 with ⟨_,q⟩ | ⟨_,q⟩
  ·cases q
  ·exact T.mine j xs a q e2
 ·rcases key j _ e with ⟨hj,q⟩ | ⟨ne,q⟩
  ·cases q
   subst hj
   refine⟨p,[],N7 hi,⟨[],trivial,?_⟩,by simp,fun b hb=>?_,fun l d' w=>?_⟩
   ·obtain⟨o,vs,h1,h2,h3⟩:=new
    rcases h3 with ⟨kvs,e1,e2,_⟩ | ⟨kvs,e1,e2,_⟩
    ·have:kvs=[]:=by cases kvs with | nil=>rfl | cons _ _=>cases e2
     subst this e1
     exact .inr (.inr ⟨rfl,rfl,h1⟩)
    ·have:kvs=[]:=by cases kvs with | nil=>rfl | cons _ _=>cases e2
     subst this e1
     exact .inr (.inl ⟨[],rfl,h1,rfl⟩)
   ·rw [List.mem_singleton.mp hb]
    refine⟨N4,E.base.same.free hp,fun z=>E.env.all.not hp (E.base.sub p z),fun l d' w z=>?_⟩
    rcases key l _ w with ⟨_,q⟩ | ⟨nl,q⟩
    ·cases q
    ·exact nl (T.env.one l j d' (.dct [] []) p q (N7 (by
      have:=(List.getElem?_eq_some_iff.mp e).1
      rw [List.length_set] at this; exact this)) z (N7 hi))
   ·rcases key l _ w with ⟨hl,_⟩ | ⟨nl,q⟩
    ·exact hl
    ·rw [N8 (Ne.symm nl)] at q
     exact absurd q (o4 hn l d')
  ·rw [N8 (Ne.symm ne)] at q
   exact absurd q (o4 hn j dn)
def yp (i:Nat):cn:=fun k ρ=>if Kv ρ then k.nx (ρ.set i (some (.nest (.dct [] [])))) else un
section
variable {X:Cx} {pos:Pos}
theorem La {i:Nat} {x:Str} {dp pos':Pos} (hN:X.N.Nodup) (hi:X.N[i]?=some x) (hx:Loc X.env.scope x) (hs:swapsWith (.Dict [] [] dp) (some (.Name x pos')) pos.line X.env=pure false:=by rfl) (hf:X.fn x=true\/X.env.scope.names.lookup x=some .local:=by first | exact .inl rfl | exact .inr rfl | assumption) :
  FS X (.Assign [.Name x pos'] (.Dict [] [] dp) pos) (yp i):=fun Hb Ob pins s σ H E I ⟨O,ρ,k,r,S,hF,hk⟩=>by
 unfold yp at hF
 cases hn:Kv ρ with
 | false=>rw [hn] at hF; exact absurd hF.symm hk.ne
 | true =>
  rw [hn] at hF
  exact zq hN hi hx CV hs hf pins s σ H E I ⟨O,ρ,S.env,fun p H1 s1 hp m o=>hk.nx _ _ _ H1 (S.setNewN (by rw [I.len]; exact(List.getElem?_eq_some_iff.mp hi).1) s1 hp m hn o) hF⟩
end
theorem mq.den {K:QN} {H:Hp} {O O':List RP} (s:bj (hid H O) (hid H O')):∀ {bs:List RP} {xs:List D},mq K H O bs xs->(∀ b∈bs,b∉O')->aZ K (hid H O') xs (bs.map .ref)
 | [],[],_,_=>dh.mpr rfl
 | b::bs,x::xs,h,n=>bz.mpr ⟨_,_,rfl,h.1.den s (n b N4),mq.den s h.2 fun b' hb=>n b' (N5 _ hb)⟩
 | [],_::_,h,_=>h.elim
 | _::_,[],h,_=>h.elim
end TG
namespace TG
open PySem PySem.Spec L2
variable [aV]
def uG:List (List Key×D)->List Key->D->Option (List (List Key×D))
 | [],q,v=>some [(q,.lst [v])]
 | p::r,q,v=>if p.1=q then (match p.2 with
   | .lst ys=>if small (ys.length+1) then some ((p.1,.lst (ys++[v]))::r) else none
   | _=>none) else (uG r q v).map (p::·)
def yA (ks xs:List D) (k v:D):Option (List (List Key×D)):=(kH ks xs).bind fun al=>(iX k).bind fun q=>if small al.length then uG al q v else none
theorem CF {ks ds:List D} {k v:D} {al':List (List Key×D)} (h:yA ks ds k v=some al'):∃ al q,ks=encK al/\ds=al.map (·.2)/\k=.tup (q.map bu)/\small al.length=true/\uG al q v=some al':=by
 unfold yA at h
 cases e1:kH ks ds with
 | none=>rw [e1] at h; cases h
 | some al =>
  rw [e1] at h
  cases e2:iX k with
  | none=>rw [e2] at h; cases h
  | some q =>
   rw [e2] at h
   obtain⟨h3,h4⟩:=vP (show (if small al.length then uG al q v else none)=some al' from h)
   exact⟨al,q,(iU e1).1,(iU e1).2,nH e2,h3,h4⟩
theorem mq.imp {K:QN} {H H':Hp} {O O':List RP}:∀ {bs:List RP} {xs:List D},mq K H O bs xs->(∀ c∈bs,∀ x,dD K H O c x->dD K H' O' c x)->mq K H' O' bs xs
 | [],[],_,_=>trivial
 | b::bs,x::xs,h,f=>⟨f b N4 x h.1,mq.imp h.2 fun c hc=>f c (N5 _ hc)⟩
 | [],_::_,h,_=>h.elim
 | _::_,[],h,_=>h.elim
theorem mq.snoc {K:QN} {H:Hp} {O:List RP} {b:RP} {x:D} (hx:dD K H O b x):∀ {bs:List RP} {xs:List D},mq K H O bs xs->mq K H O (bs++[b]) (xs++[x])
 | [],[],_=>⟨hx,trivial⟩
 | b'::bs,x'::xs,h=>⟨h.1,mq.snoc hx h.2⟩
 | [],_::_,h=>h.elim
 | _::_,[],h=>h.elim
theorem wG {K:QN} {H:Hp} {O:List RP} {q:List Key} {v:D}:∀ {al al':List (List Key×D)} {kvs:List (List Key×V)} {bs:List RP},kvs.map (·.1)=al.map (·.1)->kvs.map (·.2)=bs.map .ref->mq K H O bs (al.map (·.2))->bs.Nodup->uG al q v=some al' ->
  (∃ b ys,jy kvs q=some (.ref b)/\b∈bs/\dD K H O b (.lst ys)/\small (ys.length+1)=true/\al'.map (·.1)=al.map (·.1)/\∀ H' O',(∀ c∈bs,c≠b->∀ x,dD K H O c x->dD K H' O' c x)->dD K H' O' b (.lst (ys++[v]))->mq K H' O' bs (al'.map (·.2))) \/
  (jy kvs q=none/\al'=al++[(q,.lst [v])])
 | [],al',kvs,bs,e1,e2,h,nd,g=>by
  cases kvs with
  | cons _ _=>cases e1
  | nil=>cases g; exact .inr ⟨rfl,rfl⟩
 | p::al,al',kvs,bs,e1,e2,h,nd,g=>by
  cases kvs with
  | nil=>cases e1
  | cons p' kvs =>
   cases bs with
   | nil=>cases e2
   | cons b bs =>
    rw [Oi,Oi] at e1 e2
    injection e1 with f1 f2
    injection e2 with f3 f4
    obtain⟨n1,n2⟩:=List.nodup_cons.mp nd
    have h:dD K H O b p.2/\mq K H O bs (al.map (·.2)):=h
    unfold uG at g
    by_cases eq:p.1=q
    ·rw [if_pos eq] at g
     left
     split at g
     ·rename_i ys hp
      obtain⟨g1,g2⟩:=bE g
      subst g2
      rw [hp] at h
      refine⟨b,ys,by rw [kB (f1.trans eq),f3],N4,h.1,g1,rfl,fun H' O' oth new=>⟨new,h.2.imp fun c hc=>oth c (N5 _ hc) fun z=>n1 (by rw [<- z]; exact hc)⟩⟩
     ·cases g
    ·rw [if_neg eq] at g
     cases g2:uG al q v with
     | none=>rw [g2] at g; cases g
     | some al2 =>
      rw [g2] at g
      cases g
      rcases wG f2 f4 h.2 n2 g2 with ⟨c,ys,w1,w2,w3,w4,w5,w6⟩ | ⟨w1,w2⟩
      ·refine .inl ⟨c,ys,by rw [jn (by rw [f1]; exact eq)]; exact w1,N5 _ w2,w3,w4,by rw [Oi,Oi,w5],fun H' O' oth new=>⟨oth b N4 (fun z=>n1 (by rw [z]; exact w2)) _ h.1,w6 H' O' (fun c' hc=>oth c' (N5 _ hc)) new⟩⟩
      ·exact .inr ⟨by rw [jn (by rw [f1]; exact eq)]; exact w1,by rw [w2]; rfl⟩
theorem vd {kvs:List (List Key×V)} {q:List Key} {v:V} (h:jy kvs q=none):putK kvs q v=kvs++[(q,v)]:=by
 unfold putK
 rw [sB,h]; rfl
def Bs (i:Nat) (fk fv:FX):cn:=fun k ρ=>match ρ[i]? with
 | some (some (.nest (.dct ks xs)))=>((Bo (fk ρ)).bind fun q=>(Bo (fv ρ)).bind fun v=>rO (yA ks xs q v)).bind fun al=>k.nx (ρ.set i (some (.nest (cO al))))
 | _=>un
theorem Cv {i:Nat} {fk fv:FX} {k:Ks} {ρ:aq} {r:R D} (h:Bs i fk fv k ρ=r) (hr:r≠un):∃ al q v al',ρ[i]?=some (some (.nest (cO al)))/\fk ρ=.ok (.tup (q.map bu))/\fv ρ=.ok v/\small al.length=true/\uG al q v=some al'/\k.nx (ρ.set i (some (.nest (cO al'))))=r:=by
 unfold Bs at h
 split at h
 ·rename_i ks xs hi
  cases e1:fk ρ with
  | error z=>rw [e1] at h; exact absurd h.symm hr
  | ok qd =>
   rw [e1] at h
   cases e2:fv ρ with
   | error z=>rw [e2] at h; exact absurd h.symm hr
   | ok v =>
    rw [e2] at h
    have h':(rO (yA ks xs qd v)).bind (fun al=>k.nx (ρ.set i (some (.nest (cO al)))))=r:=h
    clear h
    cases e3:yA ks xs qd v with
    | none=>rw [e3] at h'; exact absurd h'.symm hr
    | some al' =>
     rw [e3] at h'
     obtain⟨al,q,f1,f2,f3,f4,f5⟩:=CF e3
     subst f1 f2 f3
     exact⟨al,q,v,al',hi,rfl,rfl,f4,f5,h'⟩
 ·exact absurd h.symm hr
theorem sG {K:QN} {H:Hp} {O:List RP} {a:RP} {bs:List RP} {al:List (List Key×D)} (h:ya K H O a bs (cO al)):∃ kvs:List (List Key×V),(H a=some (.dT kvs)\/(H a=some (.dK [])/\kvs=[]))/\kvs.map (·.1)=al.map (·.1)/\kvs.map (·.2)=bs.map .ref/\mq K H O bs (al.map (·.2)):=by
 obtain⟨xs,h1,h2⟩:=h
 rcases h2 with ⟨e,_⟩ | ⟨kvs,e,q,e2⟩ | ⟨e,e2,q⟩
 ·cases e
 ·injection e with f1 f2
  subst f2
  refine⟨kvs,.inl q,?_,e2,h1⟩
  exact(my (ks:=kvs.map (·.1)) (by rw [P8]; exact f1)).symm
 ·injection e with f1 f2
  subst f2 e2
  have:al=[]:=by
   cases al with
   | nil=>rfl
   | cons _ _=>cases f1
  subst this
  exact⟨[],.inr ⟨q,rfl⟩,rfl,rfl,h1⟩
section
variable {X:Cx}
theorem MA {i:Nat} {x:Str} {ke ve:R4} {fk fv:FX} {npos ap1 cp1 lp ap2 cp2 pos:Pos} (hu:X.A.units+64 < Sy) (hx:PE X (.Name x npos) (tJ i)) (hke:FE X ke fk) (hve:FE X ve fv) (hn1:noStar ke=true:=by rfl) (hn2:noStar ve=true:=by rfl)
  (hb1:Su (.Name x npos) "setdefault" X.env (eval (.Name x npos) X.env)=eval (.Name x npos) X.env:=by rfl)
  (hf1:((backTo cp1 (R5 [ke,.List [] lp] X.env)).all (fun x=>!x.1) && (backToKw cp1 (Sw [] X.env)).all (fun x=>x.1.isSome) && decide (([ke,.List [] lp]:List R4).length+([]:List S3).length+(if ([]:List S3).isEmpty then 0 else 1) < 30))=true:=by rfl)
  (hl1:(ap1.endLine==cp1.line)=true:=by rfl) (hp1:(backTo cp1 (R5 [.List [] lp] X.env)).any (·.1)=false:=by rfl)
  (hb2:Su (.Call (.Attribute (.Name x npos) "setdefault" ap1) [ke,.List [] lp] [] cp1) "append" X.env (eval (.Call (.Attribute (.Name x npos) "setdefault" ap1) [ke,.List [] lp] [] cp1) X.env)=eval (.Call (.Attribute (.Name x npos) "setdefault" ap1) [ke,.List [] lp] [] cp1) X.env:=by rfl)
  (hf2:((backTo cp2 (R5 [ve] X.env)).all (fun x=>!x.1) && (backToKw cp2 (Sw [] X.env)).all (fun x=>x.1.isSome) && decide (([ve]:List R4).length+([]:List S3).length+(if ([]:List S3).isEmpty then 0 else 1) < 30))=true:=by rfl)
  (hl2:(ap2.endLine==cp2.line)=true:=by rfl) (hp2:(backTo cp2 (R5 [] X.env)).any (·.1)=false:=by rfl)
  (hsw:swapsWith (.Call (.Attribute (.Call (.Attribute (.Name x npos) "setdefault" ap1) [ke,.List [] lp] [] cp1) "append" ap2) [ve] [] cp2) none pos.line X.env=pure false:=by rfl) :
  FS X (.Expr (.Call (.Attribute (.Call (.Attribute (.Name x npos) "setdefault" ap1) [ke,.List [] lp] [] cp1) "append" ap2) [ve] [] cp2) pos) (Bs i fk fv):=fun Hb Ob pins s σ H E I ⟨O,ρ,k,rr,S,hF,hk⟩=>by
 obtain⟨al,q,v,al',hi,hfk,hfv,hsm,hg,hnx⟩:=Cv hF hk.ne
 obtain⟨a,bs,ha,hat,nd,hbs,one⟩:=S.nst i _ hi
 obtain⟨kvs,hH,ek,ev,hO⟩:=sG hat
 obtain⟨na,nb⟩:=List.nodup_cons.mp nd
 obtain⟨aO,aHb,aOb,aS⟩:=hbs a N4
 have hlen:kvs.length < RU:=by
  have:kvs.length=al.length:=by have:=congrArg List.length ek; simpa using this
  rw [this]; exact Pq (of_decide_eq_true hsm) (by decide)
 refine xj (A1 F.plainAttrs_list F.slot_list_append F.type_list_append dH (A1 F.plainAttrs_dict F.slot_dict_setdefault F.type_dict_setdefault (EY hu) hx (kY hke (kY (zF qz) qz) (dj hn1)) hb1 hf1 hl1 (dj hn1) hp1) (Gs hve IL hn2) hb2 hf2 hl2 (dj hn2) hp2) hsw pins s σ H E I ?_
 refine⟨.ref a,ha,.inr (.inr (.inl ⟨rfl,?_⟩)),O,ρ,S.env,?_⟩
 ·rcases hH with h | ⟨h,_⟩
  ·exact .inr ⟨_,h⟩
  ·exact .inl ⟨_,h⟩
 rw [hfk]
 intro y H1 s1 d1
 refine⟨Om _,fun p hp=>?_⟩
 obtain⟨b,ws,eb,g1,g2⟩:=cB.mp d1
 rw [jk g2] at g1
 have hb1':H1 b=some (.tup (q.map kV)):=(aD H1 O) _ _ g1
 have bp:b≠p:=aX hb1' hp
 have ap:a≠p:=by
  rcases hH with h | ⟨h,_⟩
  ·exact aX (s1 _ _ h) hp
  ·exact aX (s1 _ _ h) hp
 have pHb:Hb p=none:=(S.base.same.trans s1).free hp
 have pO:p∉O:=(S.env.all.same s1).not hp
 have pOb:p∉Ob:=fun z=>pO (S.base.sub p z)
 have bsp:∀ c∈bs,c≠p:=fun c hc=>by
  obtain⟨o,ho⟩:=hO.some c hc
  exact aX (s1 _ _ ho) hp
 have E2:dZ X.K (p::O) (upd H1 p (.lst [])) ρ σ:=(S.env.same s1).hideNew trivial hp
 have sm2:bj (hid H O) (hid (upd H1 p (.lst [])) (p::O)):=(bX s1).trans (sf hp)
 have sH2:bj H (upd H1 p (.lst [])):=s1.trans (bF hp _)
 have pS:∀ (j:Nat) d',ρ[j]?=some (some (.own d'))->σ[j]?≠some (some (.ref p)):=fun j d' w z=>by
  obtain⟨c,e1,e2,_⟩:=S.env.own j d' w
  rw [z] at e1; cases e1
  exact pO e2
 have fin:∀ (H3:Hp) (l:RP) (wl:List V) (ys:List D) (bs':List RP) (kvs':List (List Key×V)),dZ X.K (p::O) H3 ρ σ->bj (hid (upd H1 p (.lst [])) (p::O)) (hid H3 (p::O))->(∀ c o,c≠a->(upd H1 p (.lst [])) c=some o->H3 c=some o)->l∈bs'->l≠a->H3 l=some (.lst wl)->aZ X.K (hid H3 (p::O)) ys wl->ys.length+1<=100000 ->
   (H3 a=some (.dT kvs'))->kvs'.map (·.1)=al'.map (·.1)->kvs'.map (·.2)=bs'.map .ref->(a::bs').Nodup->(∀ c∈bs',c∈bs\/c=p) ->
   (∀ H' O',(∀ c∈bs',c≠l->∀ x,dD X.K H3 (p::O) c x->dD X.K H' O' c x)->dD X.K H' O' l (.lst (ys++[v]))->mq X.K H' O' bs' (al'.map (·.2))) ->
   LW X.K "list" (.ref l) H3/\K9 X (af fv aw) σ H3 fun vs H4=>xo (.ref l) vs H4 fun _ H5=>E.nx σ H5:=by
  intro H3 l wl ys bs' kvs' E3 sm3 keep3 lb la hl3 dl ln ha3 k1 k2 nd' mem new
  refine⟨.inl ⟨rfl,wl,oO.of hl3⟩,p::O,ρ,E3,?_⟩
  have e1:(af fv aw) ρ=.ok [v]:=by
   show (fv ρ).bind _=_
   rw [hfv]; rfl
  rw [e1]
  intro vs H4 s4 dv
  obtain⟨y',rfl,dy⟩:=dv.one
  have lO:l∈p::O:=by
   rcases mem l lb with z | z
   ·exact N5 _ (hbs l (N5 _ z)).1
   ·rw [z]; exact N4
  have lHb:Hb l=none:=by
   rcases mem l lb with z | z
   ·exact(hbs l (N5 _ z)).2.1
   ·rw [z]; exact pHb
  have lS:∀ (j:Nat) d',ρ[j]?=some (some (.own d'))->σ[j]?≠some (some (.ref l)):=by
   rcases mem l lb with z | z
   ·exact(hbs l (N5 _ z)).2.2.2
   ·rw [z]; exact pS
  have hl4:=s4 _ _ hl3
  have sm5:bj (hid H3 (p::O)) (hid (upd H4 l (.lst (wl++[y']))) (p::O)):=(bX s4).trans (ia lO)
  have wlen:=dl.length
  refine⟨l,wl,y',rfl,rfl,hl4,by rw [<- wlen]; exact NY (Nat.lt_of_succ_le ln) (by decide),hk.nx (p::O) _ σ _ (S.setN hi (fun c hc=>N5 _ hc) ((sm2.trans sm3).trans sm5) ⟨fun c u h=>?_,fun c hc=>N5 _ (S.base.sub c hc),fun c hc=>?_⟩ ((E3.all.same s4).upd lO trivial) (fun j xs c w1 w2=>?_) ?_) hnx⟩
  ·have ca:c≠a:=fun z=>by rw [z,aHb] at h; cases h
   have cl:c≠l:=fun z=>by rw [z,lHb] at h; cases h
   rw [aE cl]
   exact s4 _ _ (keep3 c u ca (sH2 _ _ (S.base.same c u h)))
  ·rcases List.mem_cons.mp hc with z | z
   ·rw [z]; exact .inr pHb
   ·exact S.base.new c z
  ·obtain⟨c',q1,q2,q3⟩:=S.env.own j xs w1
   rw [w2] at q1; cases q1
   obtain⟨o,ho⟩:=q3.some
   have ca:c≠a:=fun z=>aS j xs w1 (by rw [<- z]; exact w2)
   have cl:c≠l:=fun z=>lS j xs w1 (by rw [<- z]; exact w2)
   rw [ho,aE cl]
   exact(s4 _ _ (keep3 c o ca (sH2 _ _ ho))).symm
  ·refine⟨a,bs',ha,⟨al'.map (·.2),new _ _ (fun c hc ne x hx=>hx.mono ?_ sm5) ⟨_,_,aL,rfl,?_⟩,.inr (.inl ⟨kvs',?_,?_,k2⟩)⟩,nd',fun c hc=>?_,fun j d' w=>?_⟩
   ·obtain⟨o,ho⟩:=hx.some
    rw [aE ne,ho,s4 _ _ ho]
   ·exact(dl.mono sm5).append (bz.mpr ⟨y',[],rfl,dy.mono (ia lO),dh.mpr rfl⟩)
   ·show D.dct (encK al') _=_
    rw [tM k1]
   ·rw [aE (Ne.symm la)]; exact s4 _ _ ha3
   ·have own:∀ (j:Nat) d',(ρ.set i (some (.nest (cO al'))))[j]?=some (some (.own d'))->ρ[j]?=some (some (.own d')):=fun j d' w=>by
     rcases bf w with ⟨_,z⟩ | ⟨_,z⟩
     ·cases z
     ·exact z
    rcases List.mem_cons.mp hc with z | z
    ·rw [z]; exact⟨N5 _ aO,aHb,aOb,fun j d' w=>aS j d' (own j d' w)⟩
    ·rcases mem c z with z' | z'
     ·obtain⟨w1,w2,w3,w4⟩:=hbs c (N5 _ z')
      exact⟨N5 _ w1,w2,w3,fun j d' w=>w4 j d' (own j d' w)⟩
     ·rw [z']; exact⟨N4,pHb,pOb,fun j d' w=>pS j d' (own j d' w)⟩
   ·rcases bf w with ⟨hj,_⟩ | ⟨_,z⟩
    ·exact hj
    ·exact one j d' z
 have hH2:upd H1 p (.lst []) a=some (.dT kvs)\/(upd H1 p (.lst []) a=some (.dK [])/\kvs=[]):=by
  rw [aE ap]
  rcases hH with h | ⟨h,z⟩
  ·exact .inl (s1 _ _ h)
  ·exact .inr ⟨s1 _ _ h,z⟩
 have hO2:mq X.K (upd H1 p (.lst [])) (p::O) bs (al.map (·.2)):=hO.mono sm2 fun c hc ⟨o,ho⟩=>by rw [aE (bsp c hc),ho,s1 _ _ ho]
 refine⟨a,b,q,kvs,.ref p,rfl,by rw [eb],by rw [aE bp]; exact hb1',hH2,hlen,fun v' hv=>?_,fun hv=>?_⟩
 ·rcases wG ek ev hO2 nb hg with ⟨c,ys,w1,w2,w3,w4,w5,w6⟩ | ⟨w1,_⟩
  ·rw [w1] at hv; cases hv
   obtain⟨o,wl,h1,h2,h3⟩:=w3
   subst h2
   rcases hH2 with hH2 | ⟨_,z⟩
   ·exact fin _ c wl ys bs kvs E2 (fun _ _ z=>z) (fun _ _ _ z=>z) w2 (fun z=>na (by rw [<- z]; exact w2)) h1 h3 (of_decide_eq_true w4) hH2 (ek.trans w5.symm) ev nd (fun _ z=>.inl z) w6
   ·subst z; cases w1
  ·rw [w1] at hv; cases hv
 ·rcases wG ek ev hO2 nb hg with ⟨c,ys,w1,_⟩ | ⟨_,w2⟩
  ·rw [w1] at hv; cases hv
  ·subst w2
   have aO2:a∈p::O:=N5 _ aO
   refine fin (upd (upd H1 p (.lst [])) a (.dT (putK kvs q (.ref p)))) p [] [] (bs++[p]) (putK kvs q (.ref p)) (E2.rewrite (show tH (.dT (putK kvs q (.ref p))) from trivial) aO2 aS) (ia aO2) (fun c o ne z=>by rw [aE ne]; exact z) (by simp) (Ne.symm ap) (by rw [aE (Ne.symm ap)]; exact aL) (dh.mpr rfl) (by decide) aL ?_ ?_ ?_ (fun c hc=>?_) fun H' O' oth new=>?_
   ·rw [vd hv,Pj,Pj,ek]; rfl
   ·rw [vd hv,Pj,Pj,ev]; rfl
   ·refine List.nodup_cons.mpr ⟨fun z=>?_,List.nodup_append.mpr ⟨nb,by simp,fun c hc c' hc' e=>?_⟩⟩
    ·rcases List.mem_append.mp z with z | z
     ·exact na z
     ·exact ap (List.mem_singleton.mp z)
    ·rw [List.mem_singleton.mp hc'] at e
     exact bsp c hc e
   ·rcases List.mem_append.mp hc with z | z
    ·exact .inl z
    ·exact .inr (List.mem_singleton.mp z)
   ·rw [Pj]
    refine mq.snoc new (hO2.imp fun c hc x hx=>oth c (N6 _ hc) (bsp c hc) x (hx.mono ?_ (ia aO2)))
    exact(aE fun z=>na (by rw [<- z]; exact hc)).symm
end
end TG
namespace TG
open PySem PySem.Spec L2
section
variable {prog:RO} {w:RN} {A:RZ} {E:RM->R0->Prop} {s:R0} {it d v:RP} {i ep:Nat} {o:Obj} {es:Array TB} {ok ov:RM}
theorem zb {Q:RM->R0->Prop} (ho:s.heap.get? d=some o) (hx:o.ExactDict) (hd:(d==sysModules)=false) (h:Q (.ref s.heap.objs.size) { s with heap:=s.heap.push { cls:=.type "dict_items",data:=.fields #[.ref d] } }) :
  R3 (model prog w) A (call (.builtin "dict.items") [.ref d]) Q E s:=by
 refine SU PySem.F.slot_dict_items ⟨o,ho,hx.1⟩ PySem.F.entry_dict_items ?_ (PySem.F.args_dict_items_1 _)
 unfold Builtin.«dict.items»; refine Se ?_; unfold Builtin.Dict.noArgs; refine Se (Tx ⟨o,ho,hx.1⟩ ?_)
 show R3 _ _ (pure d) _ _ s; refine Sd ?_; show R3 _ _ (Builtin.Dict.showsAll d >>= _) _ _ s; unfold Builtin.Dict.showsAll; rw [if_neg (by rw [hd]; exact Og)]
 exact Se (Sd (Se (SW (Sd ⟨_,rfl,h⟩))))
theorem zJ {Q:RM->R0->Prop} (hv:s.heap.IsItemsView v d) (ho:s.heap.get? d=some o) (hdat:o.data=.dict es ep)
  (hQ:Q (.ref s.heap.objs.size) { s with heap:=s.heap.push { cls:=.type "dict_itemiterator",data:=.fields #[.none,.bool false,.ref d,.int 0 0,.int es.size 0,.int ep 0,.none,.none] } }):R3 (model prog w) A (pyIter (.ref v)) Q E s:=by
 obtain⟨w1,hov,hcv,hdv⟩:=id hv
 refine wpAny_pyIter_slot hv.typeIs F.slot_dict_items_iter (SU F.slot_dict_items_iter hv.typeIs F.entry_dict_items_iter ?_ (F.args_dict_items_iter_1 _))
 unfold Builtin.«dict_items.__iter__»; refine Se (Sd (Se ?_)); unfold Builtin.Dict_items.dictOf
 refine Se (SM hov hdv (x:=.ref d) rfl (Sd (Se ?_))); unfold Builtin.Dict_items.newIterator
 refine Se (Tz ho hdat (Se (TC ho hdat ?_)))
 simp only [show Builtin.Dict_items.ownsTuple "dict_itemiterator"=true by decide,if_true]
 refine SW (Sd ⟨_,rfl,"dict_itemiterator",_,⟨_,Rm _ rfl,rfl⟩,F.slot_dict_itemiterator_next.lookup,?_⟩) (by simp only [sizeOk,Builtin.Dict_items.ownedTupleFields,Of,OA,Oh,OO,Sr]; omega)
 simpa [rawInt,Builtin.Dict_items.ownedTupleFields] using hQ
theorem zL {Q:Option RM->R0->Prop} (hit:TF s.heap it d i es.size ep ok ov) (hod:s.heap.get? d=some o) (hdd:o.data=.dict es ep) (hlt:i < es.size)
  (hQ:∀ h',TH h' it d (i+1) es.size ep es[i].key es[i].val s.heap.objs.size->h'.get? s.heap.objs.size=some { cls:=.type "tuple",data:=.seq #[es[i].key,es[i].val] }->h'.objs.size=s.heap.objs.size+1 ->
   (∀ b o,b≠it->s.heap.get? b=some o->h'.get? b=some o)->Q (some (.ref s.heap.objs.size)) { s with heap:=h' }):R3 (model prog w) A (pyNext (.ref it)) Q E s:=by
 obtain⟨hp,g,dr,tk,os⟩:=s
 have hT:Shared.TypeIs ⟨hp,g,dr,tk,os⟩ (.ref it) "dict_itemiterator":=⟨_,hit,rfl⟩
 unfold pyNext
 refine Se (Tl (SR (name:=Str.ofString "__next__") hT F.slot_dict_itemiterator_next (SU F.slot_dict_itemiterator_next hT F.entry_dict_itemiterator_next ?_ (F.args_dict_itemiterator_next_1 _))))
 refine Se (Sd (Se (Se ?_))); first | refine Se (TJ hT (Sd ?_)) | refine Se (TK hT (Sd ?_))
 refine Se (TN hit rfl ?_); have hown:Builtin.Dict_items.ownsTuple "dict_itemiterator"=true:=by decide
 simp only [hown,if_true]; show R3 _ _ (if (Value.ref d==Value.none)=true then _ else _) _ _ _; rw [if_neg (show ¬ ((Value.ref d==Value.none)=true) from Og)]
 refine Se (Sd (Se (Tz hod hdd ?_))); rw [if_neg (by simp)]
 refine Se (Sd (Se (TC hod hdd ?_))); rw [if_neg (by simp)]
 refine Sd ?_; simp only [show ¬ ((i:Int) < 0) from by omega,if_false,OB,Array.getElem?_eq_getElem hlt]
 refine Se ?_; first | refine Se (TJ hT (Sd ?_)) | refine Se (TK hT (Sd ?_))
 refine Se (TQ hT ?_); show R3 _ _ (setField (.ref it) 3 (rawInt ((i:Int)+1)) >>= _) _ _ ⟨hp,g,dr,tk,os⟩
 refine Se (Tf hit (by simp) fun h₁ he₁ hs₁=>?_); replace hs₁:Rj it hp h₁:=hs₁
 replace he₁:TF h₁ it d (i+1) es.size ep ok ov:=by
  have e:((i+1:Nat):Int)=(i:Int)+1:=by omega
  unfold TF; rw [e]; simpa [rawInt] using he₁
 have hT₁:Shared.TypeIs ⟨h₁,g,dr,tk,os⟩ (.ref it) "dict_itemiterator":=⟨_,he₁,rfl⟩
 refine Se (SN (Se (TQ hT₁ (Se (TQ hT₁ ?_)))))
 show R3 _ _ (Builtin.Dict_items.pairFromOwner (.ref it) 6 es[i].key es[i].val) _ _ ⟨h₁,g,dr,tk,os⟩; unfold Builtin.Dict_items.pairFromOwner; refine Se (Tj ?_)
 have he₂:TF (h₁.push { cls:=.type "tuple",data:=.seq #[es[i].key,es[i].val] }) it d (i+1) es.size ep ok ov:=Rl _ he₁
 generalize hh₂:h₁.push { cls:=.type "tuple",data:=.seq #[es[i].key,es[i].val] }=h₂ at he₂
 have hz₁:h₁.objs.size=hp.objs.size:=hs₁.1
 have hil:it < hp.objs.size:=Rh hit
 have ht₂:h₂.get? hp.objs.size=some { cls:=.type "tuple",data:=.seq #[es[i].key,es[i].val] }:=by rw [<- hh₂,<- hz₁]; exact Rm _ rfl
 have hz₂:h₂.objs.size=hp.objs.size+1:=by rw [<- hh₂,Rn,hz₁]
 have hk₂:∀ b o,b≠it->hp.get? b=some o->h₂.get? b=some o:=fun b o hb e=>by rw [<- hh₂]; exact Rl _ (hs₁.extBut b o hb e)
 show R3 _ _ (Builtin.Dict_items.ownedTupleIsFree (.ref it) >>= _) _ _ ⟨h₂,g,dr,tk,os⟩; rw [hz₁]; clear hh₂ he₁ hs₁ hT₁ hz₁ h₁
 refine Se ?_; unfold Builtin.Dict_items.ownedTupleIsFree; refine Se (SM he₂ rfl (x:=.none) rfl (Sd ?_)); simp only [if_true]
 refine Se (SM he₂ rfl (x:=ok) rfl (Se (SM he₂ rfl (x:=ov) rfl ?_)))
 refine Se (Tf he₂ (by simp) fun h₃ he₃ hs₃=>?_); replace hs₃:Rj it h₂ h₃:=hs₃
 replace he₃:TF h₃ it d (i+1) es.size ep es[i].key ov:=he₃
 refine Se (Tf he₃ (by simp) fun h₄ he₄ hs₄=>?_); replace hs₄:Rj it h₃ h₄:=hs₄
 replace he₄:TF h₄ it d (i+1) es.size ep es[i].key es[i].val:=he₄
 refine Se (Tf he₄ (by simp) fun h₅ he₅ hs₅=>?_); replace hs₅:Rj it h₄ h₅:=hs₅
 replace he₅:TH h₅ it d (i+1) es.size ep es[i].key es[i].val hp.objs.size:=he₅
 refine Se (Tf he₅ (by simp) fun h₆ he₆ hs₆=>?_); replace hs₆:Rj it h₅ h₆:=hs₆
 replace he₆:TH h₆ it d (i+1) es.size ep es[i].key es[i].val hp.objs.size:=he₆
 refine Se (Ti (Sd (Sd ⟨_,rfl,Sd (hQ h₆ he₆ ?_ ?_ ?_)⟩)))
 ·have n:=N9 hil; exact hs₆.extBut _ _ n (hs₅.extBut _ _ n (hs₄.extBut _ _ n (hs₃.extBut _ _ n ht₂)))
 ·show h₆.objs.size=hp.objs.size+1; rw [hs₆.1,hs₅.1,hs₄.1,hs₃.1,hz₂]
 ·exact fun b o hb e=>hs₆.extBut b o hb (hs₅.extBut b o hb (hs₄.extBut b o hb (hs₃.extBut b o hb (hk₂ b o hb e))))
theorem BF {Q:Option RM->R0->Prop} (hh:A.handled=none) (hit:TF s.heap it d i es.size ep ok ov) (hod:s.heap.get? d=some o) (hdd:o.data=.dict es ep) (hge:es.size<=i)
  (hQ:∀ h',Rp it s.heap h'->Q none { s with heap:=h' }):R3 (model prog w) A (pyNext (.ref it)) Q E s:=by
 have hT:s.TypeIs (.ref it) "dict_itemiterator":=⟨_,hit,rfl⟩
 unfold pyNext
 refine Se (Tl (SR (name:=Str.ofString "__next__") hT F.slot_dict_itemiterator_next (SU F.slot_dict_itemiterator_next hT F.entry_dict_itemiterator_next ?_ (F.args_dict_itemiterator_next_1 _))))
 refine Se (Sd (Se (Se ?_))); first | refine Se (TJ hT (Sd ?_)) | refine Se (TK hT (Sd ?_))
 refine Se (TN hit rfl ?_); have hown:Builtin.Dict_items.ownsTuple "dict_itemiterator"=true:=by decide
 simp only [hown,if_true]; show R3 _ _ (if (Value.ref d==Value.none)=true then _ else _) _ _ s; rw [if_neg (show ¬ ((Value.ref d==Value.none)=true) from Og)]
 refine Se (Sd (Se (Tz hod hdd ?_))); rw [if_neg (by simp)]
 refine Se (Sd (Se (TC hod hdd ?_))); rw [if_neg (by simp)]
 refine Sd ?_; simp only [show ¬ ((i:Int) < 0) from by omega,if_false,OB,Array.getElem?_eq_none hge]
 refine Se ?_; first | refine Se (TJ hT (Sd ?_)) | refine Se (TK hT (Sd ?_))
 show R3 _ _ (setField (.ref it) 2 .none >>= _) _ _ s; refine Se (Tb hit rfl (by simp) ?_)
 show R3 _ _ (newExc (.type "StopIteration") [] >>= _) _ _ _; refine Se ?_; simp only [newExc,newTuple]; refine Se (SW ?_ (by size_fits))
 refine Se (m:=firstArgMember _ _) (wpAny_of_eq (a:=Value.none) (by first | rfl | (simp only [firstArgMember]; rfl)) ?_); refine SW ?_ (by size_fits)
 simp only [raiseNew]; refine Se (Tc ?_); rw [show A.in1.handled=none from hh]; refine Se (Sd (wpAny_throw ?_))
 refine Se (Tn (T := "StopIteration") (b:=true) ⟨_,Rm _ rfl,rfl⟩ To ?_); exact Sd (hQ _ (((Heap.SameBut.update ..).extBut.push _).push _))
end
variable [aV]
abbrev oJ (al:List (List Key×D)):D:=.dct (.non::encK al) (al.map (·.2))
theorem zT {X:Cx} {pins:List (RP×Obj)} {σ:St} {H:Hp} {s:R0} {a:RP} {o:Obj} {kvs:List (List Key×V)} (I:Inv X pins σ H s) (e:H a=some (.frz o (.dT kvs))):s.heap.get? a=some o/\o.ExactDict/\(a==sysModules)=false/\∃ es ep xs,o.data=.dict es ep/\KT H kvs xs/\es.toList=xs.map (entryOfKey (tupleKind (bZ X.prog X.w))):=by
 obtain⟨ho,z,hd,xs,rel,o',es,ep,h1,h2,h3,h4,h5⟩:=(show cC X.prog X.w H s.heap a (.frz o (.dT kvs)) from I.hok a _ e)
 rw [ho] at h1; cases h1
 exact⟨ho,h2,hd,es,ep,xs,h3,rel,h4⟩
def MY (a:RP) (o:Obj) (kvs:List (List Key×V)):It :=
  ⟨fun i H=>H a=some (.frz o (.dT kvs))/\i < kvs.length,
   fun i H v H'=>∃ p b q w,v=.ref p/\H p=none/\H'=upd H p (.tup [.ref b,w])/\kvs[i]?=some (q,w)/\H b=some (.tup (q.map kV)),
   fun i H=>H a=some (.frz o (.dT kvs))/\i=kvs.length⟩
theorem tW {α β:Type} {R:α->β->Prop}:∀ {xs:List α} {ys:List β},RQ R xs ys->∀ {i:Nat} {x:α},xs[i]?=some x->∃ y,ys[i]?=some y/\R x y:=fun h=>by
 induction h with
 | nil=>intro i x e; simp at e
 | cons hq _ ih =>
  intro i x e
  cases i with
  | zero=>rw [Px] at e; cases e; exact⟨_,rfl,hq⟩
  | succ i=>rw [Py] at e ⊢; exact ih e
theorem Ai {P:RO} {w:RN} {K:QN} {es':List R4} {k:Nat} {pos:Pos} {a it:RP} {o:Obj} {es:Array TB} {ep:Nat} {kvs:List (List Key×V)} (hda:o.data=.dict es ep):Turn P w K (.Tuple es' k pos) (MY a o kvs) [it] it (fun i h=>∃ ok ov,TF h it a i es.size ep ok ov) where
 mem:=by simp
 obj:=fun i h ⟨ok,ov,hz⟩ c hc=>by rw [List.mem_singleton.mp hc]; exact⟨_,hz,fun v q=>by cases q⟩
 keep:=fun i h h' ⟨ok,ov,hz⟩ kp=>⟨ok,ov,kp it (by simp) _ hz⟩
 item:=by
  intro X hP hw hK hc i pins s σ H E I hf ⟨ok,ov,hit⟩ ⟨ha,hi⟩
  subst hP hw hK
  obtain⟨ho,hx,_,es2,ep2,xs,h3,rel,h4⟩:=zT I ha
  rw [hda] at h3; cases h3
  have hl:es.size=xs.length:=by rw [<- Array.length_toList,h4,Oj]
  have hkl:kvs.length=xs.length:=Paired.length rel
  have hlt:i < es.size:=by omega
  obtain⟨x,ex,f1,f2,f3⟩:=tW rel (i:=i) (x:=kvs[i]) (by simp [hi])
  have ee:es[i]=entryOfKey (tupleKind (bZ X.prog X.w)) x:=by
   have:es.toList[i]?=some (entryOfKey (tupleKind (bZ X.prog X.w)) x):=by rw [h4,Oy,ex]; rfl
   rw [Array.getElem?_toList,Array.getElem?_eq_getElem hlt] at this
   exact Option.some.inj this
  refine zL hit ho hda hlt fun h' out tp sz kp=>⟨_,rfl,wpAny_letOwnedTupleGo_items out fun h2 hit2 sb=>?_⟩
  have hpz:s.heap.objs.size≠it:=N9 (Rh hit)
  have tp2:=sb.extBut _ _ hpz tp
  rw [ee] at tp2
  have I':Inv X pins σ (upd H s.heap.objs.size (.tup [.ref x.2.1,kvs[i].2])) { s with heap:=h2 }:=Inv.turnedL (ch:=[it]) (t':=s.toks) I hf (fun c u hc e=>by
   have hc:c≠it:=by simpa using hc
   exact sb.extBut _ _ hc (kp c u hc e)) (Oa _) ⟨by show 2<=RU; decide,[.ref x.2.1,x.2.2],.cons rfl (.cons f3 .nil),_,tp2,rfl,_,rfl⟩
  refine⟨.ref s.heap.objs.size,_,I',rfl,⟨_,x.2.1,kvs[i].1,kvs[i].2,rfl,I.fresh,rfl,by simp [hi],f2⟩,⟨_,_,hit2⟩,fun c hc=>?_⟩
  rw [List.mem_singleton.mp hc,aE (Ne.symm hpz)]; exact(hf it (by simp)).1
 done:=by
  intro X hP hw hK hc i pins s σ H E I hf ⟨ok,ov,hit⟩ ⟨ha,hi⟩
  subst hP hw hK
  obtain⟨ho,hx,_,es2,ep2,xs,h3,rel,h4⟩:=zT I ha
  rw [hda] at h3; cases h3
  have hl:es.size=xs.length:=by rw [<- Array.length_toList,h4,Oj]
  have hkl:kvs.length=xs.length:=Paired.length rel
  exact BF (I.ok.hd hc) hit ho hda ‹0› fun h' eb=>⟨rfl,Inv.turned0 (ch:=[it]) I hf fun c u hc e=>eb c u (by simpa using hc) e⟩
 self:=fun _ _ _ _ _ ⟨_,_,hz⟩ h=>PySem.W.kcp_self hz h
theorem wz {K:QN} {H:Hp}:∀ q:List Key,aZ K H (q.map bu) (q.map kV)
 | []=>dh.mpr rfl
 | k::q=>bz.mpr ⟨kV k,_,rfl,by cases k with | inl i=>exact fN.mpr rfl | inr x=>exact fP.mpr rfl,wz q⟩
abbrev lT (p:List Key×D):D:=.tup [.tup (p.1.map bu),p.2]
theorem zh {K:QN} {Hd:Hp} {a:RP} {o:Obj} {kvs:List (List Key×V)} {al:List (List Key×D)} (h:Hd a=some (.frz o (.dT kvs))) (e1:kvs.map (·.1)=al.map (·.1)) (e2:aZ K Hd (al.map (·.2)) (kvs.map (·.2))):Walk K Hd (MY a o kvs) (al.map lT):=fun Hn O' i hO sm=>by
 have s':bj Hd Hn:=sm.trans (aD Hn O')
 have hl:kvs.length=al.length:=by have:=congrArg List.length e1; simpa using this
 refine⟨fun d e=>?_,fun hl'=>⟨s' _ _ h,by rw [hl',Oj,hl]⟩⟩
 rw [Oy] at e
 cases ep:al[i]? with
 | none=>rw [ep] at e; cases e
 | some p =>
  rw [ep] at e; cases e
  have hi:i < al.length:=(List.getElem?_eq_some_iff.mp ep).1
  refine⟨⟨s' _ _ h,by omega⟩,fun x H2 ⟨c,b,q,w,ex,hc,eH,ek,hb⟩=>?_⟩
  subst ex eH
  have k1:q=p.1:=by
   have:=congrArg (fun l=>l[i]?) e1
   simp only [Oy,ek,ep] at this
   exact Option.some.inj this
  obtain⟨w',ew,dw⟩:=e2.get (i:=i) (d:=p.2) (by rw [Oy,ep]; rfl)
  rw [Oy,ek] at ew
  cases ew
  subst k1
  have bO:b∉O':=fun z=>by
   obtain⟨u,q1,q2⟩:=hO.2 b z
   rw [hb] at q1; cases q1; exact q2
  exact⟨bF hc _,eW hO hc (bz.mpr ⟨.ref b,_,rfl,cB.mpr ⟨b,_,rfl,by rw [jX bO]; exact hb,wz p.1⟩,bz.mpr ⟨w,_,rfl,dw.mono sm,dh.mpr rfl⟩⟩)⟩
def zS:D->Option (List D)
 | .dct (.non::ks) ds=>(kH ks ds).map fun al=>al.map lT
 | _=>none
def lI (f:FX):aq->R (List D):=fun ρ=>(f ρ).bind fun d=>rO (zS d)
theorem xQ {K:QN} {H:Hp} {v:V} {al:List (List Key×D)} (h:cN K H (oJ al) v):∃ a o kvs,v=.ref a/\H a=some (.frz o (.dT kvs))/\kvs.map (·.1)=al.map (·.1)/\aZ K H (al.map (·.2)) (kvs.map (·.2)):=by
 obtain⟨a,vs,e0,h2,h3⟩:=K5.mp h
 rcases h3 with ⟨kvs,e,e1,e2⟩ | ⟨kvs,e,e1,e2⟩ | ⟨kvs,o,e,e1,e2⟩
 ·cases kvs with
  | nil=>cases e1
  | cons p r =>
   injection e1 with e1 _
   rcases p with ⟨k,v⟩
   cases k <;> cases e1
 ·cases kvs with
  | nil=>cases e1
  | cons p r=>injection e1 with e1 _; cases e1
 ·injection e1 with _ e1
  subst e2
  exact⟨a,o,kvs,e0,e,(my (ks:=kvs.map (·.1)) (by rw [P8]; exact e1)).symm,h2⟩
section
variable {X:Cx}
theorem Js {o:R4} {es:List R4} {k:Nat} {tpos:Pos} {f:FX} {apos cpos:Pos} (ho:FE X o f) (hbase:Su o "items" X.env (eval o X.env)=eval o X.env:=by rfl) (hline:(apos.endLine==cpos.line)=true:=by rfl):FI X (.Tuple es k tpos) (.Call (.Attribute o "items" apos) [] [] cpos) (lI f):=by
 intro pins s σ H RR I ⟨O,ρ,E,hG⟩
 refine wpAny_Call_method0_late hbase hline (eX (ho pins s σ H (fun v H1=>∃ a o kvs,v=.ref a/\H1 a=some (.frz o (.dT kvs))/\RR (MY a o kvs) H1) I ⟨O,ρ,E,(jF.bind hG).imp fun d hG v H1 s1 d1=>?_⟩) fun v s1 ⟨x,H1,I1,r1,a,o,kvs,ex,ha,hR⟩=>?_)
 ·obtain⟨ds,hg,q⟩:=jF.rO hG
  unfold zS at hg
  split at hg
  ·rename_i ks dl
   cases e1:kH ks dl with
   | none=>rw [e1] at hg; cases hg
   | some al =>
    rw [e1] at hg; cases hg
    obtain⟨f1,f2⟩:=iU e1
    subst f1 f2
    obtain⟨a,o,kvs,q1,q2,q3,q4⟩:=xQ d1
    exact⟨a,o,kvs,q1,(aD H1 O) _ _ q2,q _ H1 s1 (zh q2 q3 q4)⟩
  ·cases hg
 ·subst ex
  cases r1
  obtain⟨hob,hx,hsm,es2,ep,xs,hda,_⟩:=zT I1 ha
  refine⟨"dict","dict.items",F.plainAttrs_dict,F.slot_dict_items,F.type_dict_items,⟨o,hob,hx.1⟩,fun c e=>by cases e; exact⟨o,hob,hx.2.1⟩,Calls.callWith_builtin rfl (PySem.evalArgs_none ?_)⟩
  refine zb hob hx hsm (zJ ⟨_,Rm _ rfl,rfl,rfl⟩ (Rl _ hob) hda ?_)
  have le:s1.heap.objs.size<=(s1.heap.push { cls:=.type "dict_items",data:=.fields #[.ref a] }).objs.size:=by rw [Rn]; exact Oq _
  refine⟨_,_,_,_,H1,rfl,I1.kept (t':=s1.toks) fun b u e=>Rl _ (Rl _ e),Ai hda,⟨_,_,Rm _ rfl⟩,fun b hb=>?_,hR⟩
  rw [List.mem_singleton.mp hb]
  exact I1.fpOk le (I1.hok.fresh le)
end
theorem eS.frzG {K:QN} {Hb:Hp} {Ob O:List RP} {H H':Hp} {ρ:aq} {σ:St} (E:eS K Hb Ob O H ρ σ) {i:Nat} {d d':D} (hd:ρ[i]?=some (some (.nest d))) {a:RP} {bs:List RP} (h1:σ[i]?=some (some (.ref a))) (h4:∀ b∈a::bs,b∈O/\Hb b=none/\b∉Ob/\∀ (j:Nat) d',ρ[j]?=some (some (.own d'))->σ[j]?≠some (some (.ref b))) (h5:∀ (j:Nat) d',ρ[j]?=some (some (.nest d'))->j=i)
  (hH:∀ b,b≠a->H' b=H b) (tab:aV.tab H') (dn:bj (hid H O) (hid H' (O.filter fun b=>decide (b∉a::bs)))->(∀ b∈a::bs,b∉O.filter fun b=>decide (b∉a::bs))->cN K (hid H' (O.filter fun b=>decide (b∉a::bs))) d' (.ref a)):eS K Hb Ob (O.filter fun b=>decide (b∉a::bs)) H' (TG.setV i d' ρ) σ:=by
 have sub:∀ b∈O.filter (fun b=>decide (b∉a::bs)),b∈O:=fun b hb=>(List.mem_filter.mp hb).1
 have na:∀ b∈a::bs,b∉O.filter fun b=>decide (b∉a::bs):=fun b hb z=>(of_decide_eq_true (List.mem_filter.mp z).2) hb
 have aO:=(h4 a N4).1
 have s:bj (hid H O) (hid H' (O.filter fun b=>decide (b∉a::bs))):=fun b u e=>by
  unfold hid at e ⊢
  by_cases hb:b∈O
  ·rw [if_pos hb] at e; cases e
  ·rw [if_neg hb] at e
   rw [if_neg fun z=>hb (sub b z),hH b fun z=>hb (by rw [z]; exact aO)]; exact e
 have bk:∀ (l:Nat) x,(TG.setV i d' ρ)[l]?=some (some x)->(∀ d,x≠.val d)->ρ[l]?=some (some x):=fun l x e nv=>by
  rcases bf e with ⟨_,q⟩ | ⟨_,q⟩
  ·cases q; exact absurd rfl (nv _)
  ·exact q
 refine⟨⟨fun j d1 e=>?_,fun j xs e=>?_,fun j l xs ys b e1 e2 e3 e4=>E.env.one j l xs ys b (bk j _ e1 (fun _ z=>nomatch z)) (bk l _ e2 (fun _ z=>nomatch z)) e3 e4,⟨tab,fun b hb=>?_⟩⟩,⟨fun b u e=>?_,fun b hb=>?_,fun b hb=>E.base.new b (sub b hb)⟩,fun j xs b e1 e2=>E.mine j xs b (bk j _ e1 (fun _ z=>nomatch z)) e2,fun j dn e=>?_⟩
 ·rcases bf e with ⟨hj,q⟩ | ⟨ne,q⟩
  ·cases q; rw [hj]; exact⟨.ref a,h1,dn s na⟩
  ·obtain⟨w,q1,q2⟩:=E.env.val j d1 q
   exact⟨w,q1,q2.mono s⟩
 ·obtain⟨b,q1,q2,q3⟩:=E.env.own j xs (bk j _ e (fun _ z=>nomatch z))
  have nb:b∉a::bs:=fun z=>(h4 b z).2.2.2 j xs (bk j _ e (fun _ z=>nomatch z)) q1
  exact⟨b,q1,List.mem_filter.mpr ⟨q2,decide_eq_true nb⟩,q3.mono (hH b fun z=>nb (by rw [z]; exact N4)).symm s⟩
 ·rw [hH b fun z=>na b (by rw [z]; exact N4) hb]; exact E.env.all.2 b (sub b hb)
 ·rw [hH b fun z=>by rw [z,(h4 a N4).2.1] at e; cases e]; exact E.base.same b u e
 ·exact List.mem_filter.mpr ⟨E.base.sub b hb,decide_eq_true fun z=>(h4 b z).2.2.1 hb⟩
 ·have q:=bk j _ e (fun _ z=>nomatch z)
  have hj:=h5 j dn q
  subst hj
  rcases bf e with ⟨_,q⟩ | ⟨ne,_⟩
  ·cases q
  ·exact absurd rfl ne
theorem Jy {X:Cx} {pins:List (RP×Obj)} {σ:St} {H:Hp} {s:R0} {a:RP} {kvs:List (List Key×V)} (I:Inv X pins σ H s) (h1:H a=some (.dT kvs)):∃ o,Inv X pins σ (upd H a (.frz o (.dT kvs))) s:=by
 obtain⟨z,hd,xs,rel,o,es,ep,g1,g2⟩:=(show cC X.prog X.w H s.heap a (.dT kvs) from I.hok a _ h1)
 refine⟨o,nF (ob:=.frz o (.dT kvs)) (h':=s.heap) (t':=s.toks) I (by rw [h1]; exact trivial) ⟨rfl,fun _ _=>rfl⟩ ⟨o,g1⟩ ⟨g1,z,hd,xs,KT.keeps rel fun b ys eb=>?_,o,es,ep,g1,g2⟩⟩
 rw [aE (C2 eb h1 (fun z=>nomatch z))]; exact eb
def Kc (i:Nat) (ρ:aq):aq:=match ρ[i]? with
 | some (some (.nest (.dct ks ds)))=>match kH ks ds with
  | some al=>setV i (oJ al) ρ
  | none=>ρ
 | _=>ρ
def vE (i:Nat) (F:cn):cn:=fun k ρ=>F k (Kc i ρ)
theorem JG {X:Cx} {st:List R6} {F:cn} (i:Nat) (h:yT X st F):yT X st (vE i F):=fun Hb Ob pins s σ H E I ⟨O,ρ,k,r,S,hF,hk⟩=>by
 unfold vE Kc at hF
 split at hF
 ·rename_i ks ds hd
  split at hF
  ·rename_i al hal
   obtain⟨f1,f2⟩:=iU hal
   subst f1 f2
   obtain⟨a,bs,h1,h2,h3,h4,h5⟩:=S.nst i _ hd
   obtain⟨kvs,hH,ek,ev,hO⟩:=sG h2
   obtain⟨na,_⟩:=List.nodup_cons.mp h3
   have fin:∀ (H0:Hp) (I0:Inv X pins σ H0 s),H0 a=some (.dT kvs)->(∀ b,b≠a->H0 b=H b)->R3 (model X.prog X.w) X.A (execs st X.env) (SP X pins E) X.xe s:=fun H0 I0 ha0 hH0=>by
    obtain⟨o,I1⟩:=Jy I0 ha0
    have hH':∀ b,b≠a->upd H0 a (.frz o (.dT kvs)) b=H b:=fun b nb=>by rw [aE nb]; exact hH0 b nb
    have tab:aV.tab (upd H0 a (.frz o (.dT kvs))):=by
     have:upd H0 a (.frz o (.dT kvs))=upd H a (.frz o (.dT kvs)):=by
      funext b
      by_cases z:b=a
      ·rw [z,aL,aL]
      ·rw [aE z,aE z,hH0 b z]
     rw [this]
     obtain⟨u,q1,q2⟩:=S.env.all.2 a (h4 a N4).1
     exact aV.own S.env.all.1 q1 q2
    refine h Hb Ob pins s σ _ E I1 ⟨_,_,k,r,S.frzG hd h1 h4 h5 hH' tab fun sm nn=>?_,hF,hk⟩
    have hO':mq X.K (upd H0 a (.frz o (.dT kvs))) O bs (al.map (·.2)):=hO.mono (fun b u e=>by
     unfold hid at e ⊢
     by_cases hb:b∈O
     ·rw [if_pos hb] at e; cases e
     ·rw [if_neg hb] at e
      rw [if_neg hb,hH' b fun z=>hb (by rw [z]; exact(h4 a N4).1)]; exact e) fun b hb _=>hH' b fun z=>na (by rw [<- z]; exact hb)
    have sub:∀ b∈O.filter (fun b=>decide (b∉a::bs)),b∈O:=fun b hb=>(List.mem_filter.mp hb).1
    have g:=hO'.den (iD sub) fun b hb=>nn b (N5 _ hb)
    refine K5.mpr ⟨a,_,rfl,g,.inr (.inr ⟨kvs,o,by rw [jX (nn a N4)]; exact aL,by rw [tM ek],ev.symm⟩)⟩
   rcases hH with hH | ⟨hH,z⟩
   ·exact fin H I hH fun _ _=>rfl
   ·subst z
    exact fin _ (C4 I hH) aL fun b nb=>aE nb
  ·exact h Hb Ob pins s σ H E I ⟨O,ρ,k,r,S,hF,hk⟩
 ·exact h Hb Ob pins s σ H E I ⟨O,ρ,k,r,S,hF,hk⟩
end TG
namespace TG
open PySem PySem.Spec L2
section
variable {prog:RO} {w:RN} {A:RZ} {E:RM->R0->Prop} {s:R0} {it d:RP} {i ep:Nat} {o:Obj} {es:Array TB}
theorem BJ {Q:RM->R0->Prop} (hd:(d==sysModules)=false) (ho:s.heap.get? d=some o) (hx:o.ExactDict) (hdat:o.data=.dict es ep)
  (hQ:Q (.ref s.heap.objs.size) { s with heap:=s.heap.push { cls:=.type "dict_keyiterator",data:=.fields #[.ref d,.int 0 0,.int es.size 0,.int ep 0] } }):R3 (model prog w) A (pyIter (.ref d)) Q E s:=by
 have hT:s.TypeIs (.ref d) "dict":=⟨o,ho,hx.1⟩
 refine wpAny_pyIter_slot hT F.slot_dict_iter (SU F.slot_dict_iter hT F.entry_dict_iter ?_ (F.args_dict_iter_1 _))
 unfold Builtin.«dict.__iter__»; refine Se ?_; unfold Builtin.Dict.dictSlotNone; refine Se (Tx hT ?_)
 show R3 _ _ (pure (Value.ref d)) _ _ s; refine Sd ?_; show R3 _ _ (Builtin.Dict.showsAll d >>= _) _ _ s; unfold Builtin.Dict.showsAll; rw [if_neg (by rw [hd]; exact Og)]
 refine Se (Sd (Se (Tz ho hdat (Se (TC ho hdat ?_)))))
 refine Se (SW (Sd ⟨_,rfl,"dict_keyiterator",_,⟨_,Rm _ rfl,rfl⟩,F.slot_dict_keyiterator_next.lookup,?_⟩)); simpa [rawInt] using hQ
theorem Bv {Q:Option RM->R0->Prop} (hit:s.heap.IsKeyIter it d i es.size ep) (hod:s.heap.get? d=some o) (hdd:o.data=.dict es ep) (hlt:i < es.size)
  (hQ:∀ h',h'.IsKeyIter it d (i+1) es.size ep->Rj it s.heap h'->Q (some es[i].key) { s with heap:=h' }):R3 (model prog w) A (pyNext (.ref it)) Q E s:=by
 obtain⟨oi,ho,hc,hd⟩:=id hit
 unfold pyNext
 refine Se (Tl (SR (name:=Str.ofString "__next__") hit.typeIs F.slot_dict_keyiterator_next (SU F.slot_dict_keyiterator_next hit.typeIs F.entry_dict_keyiterator_next ?_ (F.args_dict_keyiterator_next_1 _))))
 refine Se (Sd (Se (Se ?_))); first | refine Se (TR hit.typeIs (Sd ?_)) | refine Se (TU hit.typeIs (Sd ?_))
 refine Se (TN ho hd ?_); have hown:Builtin.Dict_items.ownsTuple "dict_keyiterator"=false:=by decide
 simp only [hown,OW,if_false]; show R3 _ _ (if (Value.ref d==Value.none)=true then _ else _) _ _ s; rw [if_neg (show ¬ ((Value.ref d==Value.none)=true) from Og)]
 refine Se (Sd (Se (Tz hod hdd ?_))); rw [if_neg (by simp)]
 refine Se (Sd (Se (TC hod hdd ?_))); rw [if_neg (by simp)]
 refine Sd ?_; simp only [show ¬ ((i:Int) < 0) from by omega,if_false,OB,Array.getElem?_eq_getElem hlt]
 refine Se ?_; first | refine Se (TR hit.typeIs (Sd ?_)) | refine Se (TU hit.typeIs (Sd ?_))
 refine Se (wpAny_isOneOf_keyiter hit.typeIs ?_); show R3 _ _ (setField (.ref it) 1 (rawInt ((i:Int)+1)) >>= _) _ _ s; refine Se (Tb ho hd (by simp) ?_)
 have hit':(s.heap.update it (Obj.mapFields (·.setIfInBounds 1 (rawInt ((i:Int)+1))))).IsKeyIter it d (i+1) es.size ep:=⟨_,Ro _ ho (Obj.isFreed_of_fields (Obj.data_mapFields hd _)),(Obj.cls_mapFields ..).trans hc,by rw [Obj.data_mapFields hd]; simp [rawInt]⟩
 refine Se (SN (Se (wpAny_isOneOf_keyiter (s:={ s with heap:=s.heap.update it (Obj.mapFields (·.setIfInBounds 1 (rawInt ((i:Int)+1)))) }) hit'.typeIs ?_))); show R3 _ _ (pure es[i].key) _ _ _
 exact Sd (Sd ⟨_,rfl,Sd (hQ _ hit' (Heap.SameBut.update ..))⟩)
theorem CY {Q:Option RM->R0->Prop} (hh:A.handled=none) (hit:s.heap.IsKeyIter it d i es.size ep) (hod:s.heap.get? d=some o) (hdd:o.data=.dict es ep) (hge:es.size<=i) (hQ:∀ h',Rp it s.heap h'->Q none { s with heap:=h' }):R3 (model prog w) A (pyNext (.ref it)) Q E s:=by
 obtain⟨oi,ho,hc,hd⟩:=id hit
 unfold pyNext
 refine Se (Tl (SR (name:=Str.ofString "__next__") hit.typeIs F.slot_dict_keyiterator_next (SU F.slot_dict_keyiterator_next hit.typeIs F.entry_dict_keyiterator_next ?_ (F.args_dict_keyiterator_next_1 _))))
 refine Se (Sd (Se (Se ?_))); first | refine Se (TR hit.typeIs (Sd ?_)) | refine Se (TU hit.typeIs (Sd ?_))
 refine Se (TN ho hd ?_); have hown:Builtin.Dict_items.ownsTuple "dict_keyiterator"=false:=by decide
 simp only [hown,OW,if_false]; show R3 _ _ (if (Value.ref d==Value.none)=true then _ else _) _ _ s; rw [if_neg (show ¬ ((Value.ref d==Value.none)=true) from Og)]
 refine Se (Sd (Se (Tz hod hdd ?_))); rw [if_neg (by simp)]
 refine Se (Sd (Se (TC hod hdd ?_))); rw [if_neg (by simp)]
 refine Sd ?_; simp only [show ¬ ((i:Int) < 0) from by omega,if_false,OB,Array.getElem?_eq_none hge]
 refine Se ?_; first | refine Se (TR hit.typeIs (Sd ?_)) | refine Se (TU hit.typeIs (Sd ?_))
 show R3 _ _ (setField (.ref it) 0 .none >>= _) _ _ s; refine Se (Tb ho hd (by simp) ?_)
 show R3 _ _ (newExc (.type "StopIteration") [] >>= _) _ _ _; refine Se ?_; simp only [newExc,newTuple]; refine Se (SW ?_ (by size_fits))
 refine Se (m:=firstArgMember _ _) (wpAny_of_eq (a:=Value.none) (by first | rfl | (simp only [firstArgMember]; rfl)) ?_); refine SW ?_ (by size_fits)
 simp only [raiseNew]; refine Se (Tc ?_); rw [show A.in1.handled=none from hh]; refine Se (Sd (wpAny_throw ?_))
 refine Se (Tn (T := "StopIteration") (b:=true) ⟨_,Rm _ rfl,rfl⟩ To ?_); exact Sd (hQ _ (((Heap.SameBut.update ..).extBut.push _).push _))
def Hy (d:RP) (o:Obj) (es:Array TB) (ep:Nat) (h:RT):Prop:=h.get? d=some o/\o.ExactDict/\o.data=.dict es ep
theorem zY (hh:A.handled=none) (I:RP) (hne:d≠I):Walks prog w A I [I,d] [I] es.size (fun i v=>∃ e,es[i]?=some e/\v=e.key) (fun i h=>h.IsKeyIter I d i es.size ep/\Hy d o es ep h) where
 sub:=fun b hb=>by simp at hb; simp [hb]
 frame:=fun _ _ _ st hk=>⟨st.1.at fun o e=>hk I (by simp) o e,hk d (by simp) _ st.2.1,st.2.2⟩
 item:=fun i s Q E hi st hQ=>Bv st.1 st.2.1 st.2.2.2 hi fun h' hit' hs'=>hQ _ h' s.toks ⟨es[i],by simp [hi],rfl⟩ ⟨hit',(hs'.2 d hne).trans st.2.1,st.2.2⟩ fun b o hb e=>hs'.extBut b o (fun h=>hb (by simp [h])) e
 done:=fun s Q E st hQ=>CY hh st.1 st.2.1 st.2.2.2 (Oa _) fun h' he'=>hQ h' s.toks fun b o hb e=>he' b o (fun h=>hb (by simp [h])) e
 self:=fun _ _ _ _ st hQ=>wpAny_pyIter_keyiter st.1 hQ
theorem CZ (lo:(d==sysModules)=false):PySem.W.KdlSrc prog w "dict" d d es.size (fun i v=>∃ e,es[i]?=some e/\v=e.key) (Hy d o es ep) where
 type:=fun _ hm=>⟨o,hm.1,hm.2.1.1⟩
 there:=fun _ hm=>⟨Rh hm.1,Rh hm.1⟩
 keep:=fun _ _ hm hk=>⟨hk d (.inl rfl) o hm.1,hm.2⟩
 notList:=by decide
 notTuple:=by decide
 hint:=fun _ _ _ _ hm hq=>PySem.W.kdl_hint_dict ⟨o,hm.1,hm.2.1.1⟩ hq
 iter:=fun _ _ hh hm=>⟨_,_,(fun _ _ hq=>BJ lo hm.1 hm.2.1 hm.2.2 hq),zY (ep:=ep) (o:=o) hh _ (N0 (Rh hm.1)),⟨⟨_,Rm _ rfl,rfl,rfl⟩,Rl _ hm.1,hm.2⟩⟩
end
variable [aV]
def EL:List D->List D->Option (List (List Key×D))
 | .non::ks,ds=>kH ks ds
 | ks,ds=>kH ks ds
theorem A9 {K:QN} {H:Hp} {v:V} {ks ds:List D} {al:List (List Key×D)} (h:cN K H (.dct ks ds) v) (e:EL ks ds=some al) :
  ∃ a,v=.ref a/\((∃ kvs:List (List Key×V),Rd H a (.dT kvs)/\kvs.map (·.1)=al.map (·.1)/\aZ K H (al.map (·.2)) (kvs.map (·.2)))\/(H a=some (.dK [])/\al=[])):=by
 unfold EL at e
 split at e
 ·obtain⟨f1,f2⟩:=iU e
  subst f1 f2
  obtain⟨a,o,kvs,q1,q2,q3,q4⟩:=xQ h
  exact⟨a,q1,.inl ⟨kvs,.inr ⟨o,q2⟩,q3,q4⟩⟩
 ·obtain⟨f1,f2⟩:=iU e
  subst f1 f2
  obtain⟨a,q1,q2⟩:=yJ h
  rcases q2 with ⟨kvs,q2,q3⟩ | q2
  ·exact⟨a,q1,.inl ⟨kvs,.inl q2,q3⟩⟩
  ·exact⟨a,q1,.inr q2⟩
section
variable {X:Cx}
def me:List D->Option D
 | [.dct ks ds]=>(EL ks ds).bind fun al=>some (.lst (encK al))
 | _=>none
theorem DS {pins:List (RP×Obj)} {σ:St} {H:Hp} {s:R0} (I:Inv X pins σ H s) {a:RP} {kvs:List (List Key×V)} (e:Rd H a (.dT kvs)):kvs.length<=RU/\(a==sysModules)=false/\∃ o es ep,Hy a o es ep s.heap/\es.size=kvs.length/\∀ (i:Nat) u,es[i]?=some u->∃ b q,u.key=.ref b/\kvs[i]?.map (·.1)=some q/\H b=some (.tup (q.map kV)):=by
 obtain⟨z,hd,xs,rel,o,es,ep,h1,h2,h3,h4,_⟩:=xu I.hok e
 have hl:es.size=kvs.length:=by rw [<- Array.length_toList,h4,Oj]; exact(Paired.length rel).symm
 refine⟨z,hd,o,es,ep,⟨h1,h2,h3⟩,hl,fun i u eu=>?_⟩
 have hi:i < kvs.length:=by
  have:=(Array.getElem?_eq_some_iff.mp eu).1
  omega
 obtain⟨x,ex,f1,f2,f3⟩:=tW rel (i:=i) (x:=kvs[i]) (by simp [hi])
 have:es.toList[i]?=some (entryOfKey (tupleKind (bZ X.prog X.w)) x):=by rw [h4,Oy,ex]; rfl
 rw [Array.getElem?_toList,eu] at this
 cases this
 exact⟨x.2.1,kvs[i].1,rfl,by simp [hi],f2⟩
theorem tN (hc:X.calm=true):dQ X (.type "list") (yD X.K me):=by
 intro pins s σ H xs us Q I r ⟨O,ds,d,hO,hd,hg,q⟩
 unfold me at hg
 split at hg
 ·rename_i ks vs0
  cases hk:EL ks vs0 with
  | none=>rw [hk] at hg; cases hg
  | some al =>
   rw [hk] at hg
   cases hg
   obtain⟨v,ev,h1⟩:=hd.one
   subst ev
   obtain⟨a,ea,hh⟩:=A9 h1 hk
   subst ea
   obtain⟨u,rfl,ru⟩:=vals1 r
   cases ru
   have fin:∀ (H0:Hp) (kvs:List (List Key×V)),Inv X pins σ H0 s->Rd H0 a (.dT kvs)->kvs.map (·.1)=al.map (·.1)->(∀ b ys,H0 b=some (.tup ys)->H b=some (.tup ys))->R3 (model X.prog X.w) X.A (call (.type "list") [.ref a]) (EP X pins σ Q) X.xe s:=fun H0 kvs I0 hr hk2 ht=>by
    obtain⟨z,hs,o,es,ep,raw,hsz,hkey⟩:=DS I0 hr
    have hl:al.length=kvs.length:=by have:=congrArg List.length hk2; simpa using this.symm
    refine Rb (CZ hs) (I.ok.hd hc) raw (by rw [hsz]; exact z) fun h' tk acc' c' kp e2 it=>?_
    have key:∃ ws:List V,Vals ws acc'.toList/\aZ X.K (hid H O) (encK al) ws:=by
     have hlen:acc'.toList.length=al.length:=by rw [Array.length_toList,it.1,hsz,hl]
     have each:∀ (j:Nat) (u:RM),acc'.toList[j]?=some u->∃ b q,u=.ref b/\al[j]?.map (·.1)=some q/\H b=some (.tup (q.map kV)):=fun j u e=>by
      obtain⟨en,e3,e4⟩:=it.2 j u (by rw [<- Array.getElem?_toList]; exact e)
      obtain⟨b,q,w1,w2,w3⟩:=hkey j en e3
      refine⟨b,q,by rw [e4,w1],?_,ht _ _ w3⟩
      have:=congrArg (fun l=>l[j]?) hk2
      simp only [Oy] at this
      rw [<- this]; exact w2
     clear it e2
     generalize acc'.toList=us at hlen each
     clear hk hl hk2 h1 hh q
     induction us generalizing al with
     | nil =>
      cases al with
      | nil=>exact⟨[],.nil,dh.mpr rfl⟩
      | cons _ _=>cases hlen
     | cons u us ih =>
      cases al with
      | nil=>cases hlen
      | cons p al =>
       obtain⟨ws,w1,w2⟩:=ih (al:=al) (by simpa using hlen) fun j u e=>by
        have:=each (j+1) u (by rw [Py]; exact e)
        rw [Py] at this; exact this
       obtain⟨b,q,e1,e2,e3⟩:=each 0 u rfl
       cases e2
       have bO:b∉O:=fun z=>by
        obtain⟨u',q1,q2⟩:=hO.2 b z
        rw [e3] at q1; cases q1; exact q2
       exact⟨.ref b::ws,.cons (by rw [e1]; rfl) w1,bz.mpr ⟨.ref b,ws,rfl,cB.mpr ⟨b,_,rfl,by rw [jX bO]; exact e3,wz p.1⟩,w2⟩⟩
    obtain⟨ws,rv,dn⟩:=key
    have wl:ws.length<=RU:=by rw [<- dn.length,Oj,hl]; exact z
    refine⟨.ref s.heap.objs.size,_,I.laid (t':=tk) kp (Oa _) (show cC X.prog X.w _ h' _ (.lst ws) from ⟨wl,acc'.toList,c',rv,by simpa using e2⟩),rfl,?_⟩
    have hf:=I.hok.fresh (Oa s.heap.objs.size)
    exact q _ _ (bF hf _) (dC hO hf dn)
   rcases hh with ⟨kvs,hr,e1,_⟩ | ⟨hr,e1⟩
   ·refine fin H kvs I ?_ e1 fun _ _ z=>z
    rcases hr with hr | ⟨o,hr⟩
    ·exact .inl ((aD H O) _ _ hr)
    ·exact .inr ⟨o,(aD H O) _ _ hr⟩
   ·have ha:=(aD H O) _ _ hr
    refine fin _ [] (C4 I ha) (.inl aL) (by rw [e1]; rfl) fun b ys eb=>?_
    by_cases z:b=a
    ·rw [z,aL] at eb; cases eb
    ·rw [aE z] at eb; exact eb
 ·cases hg
end
end TG
namespace TG
open PySem PySem.Spec PySem.Calls L2
variable [aV]
def zu (dd k:D):Option D:=match dd with
 | .dct ks ds=>(EL ks ds).bind fun al=>(iX k).bind fun q=>qu al q
 | _=>none
theorem Iy {H:Hp} {O:List RP} {a:RP} {u:HO} (h:Rd (hid H O) a u):Rd H a u:=by
 rcases h with h | ⟨o,h⟩
 ·exact .inl ((aD H O) _ _ h)
 ·exact .inr ⟨o,(aD H O) _ _ h⟩
section
variable {X:Cx}
theorem Mf {o e:R4} {fo fk:FX} {pos:Pos} (hu:X.A.units+64 < Sy) (ho:FE X o fo) (hi:FE X e fk) (hs:Fi e):FE X (.Subscript o e pos) (f2 zu fo fk) :=
 PE.weak (Fv ‹0› ho hi hs) fun σ H Q ⟨O,ρ,E,hF⟩=>⟨O,ρ,E,(jF.bind hF).imp fun dd hF v H1 s1 d1=>⟨O,ρ,E.same s1,((jF.bind hF).mono s1).imp fun k hF y H2 s2 d2=>by
  obtain⟨d,hg,q⟩:=jF.rO hF
  cases dd with
  | dct ks ds =>
   have hg:(EL ks ds).bind (fun al=>(iX k).bind fun q=>qu al q)=some d:=hg
   cases hk:EL ks ds with
   | none=>rw [hk] at hg; cases hg
   | some al =>
    rw [hk] at hg
    cases ht:iX k with
    | none=>rw [ht] at hg; cases hg
    | some qk =>
     rw [ht] at hg
     have hg:qu al qk=some d:=hg
     obtain⟨a,ea,hh⟩:=A9 (d1.mono (bX s2)) hk
     rw [nH ht] at d2
     obtain⟨b,ws,eb,g1,g2⟩:=cB.mp d2
     rw [jk g2] at g1
     rcases hh with ⟨kvs,hr,e1,e2⟩ | ⟨_,rfl⟩
     ·rcases xE qk e1 e2 with ⟨_,z2⟩ | ⟨w,d',z1,z2,z3⟩
      ·rw [z2] at hg; cases hg
      ·rw [z2] at hg; cases hg
       exact⟨a,w,ea,by rw [<- z1]; exact .inr ⟨kvs,qk,b,Iy hr,eb,(aD H2 O) _ _ g1,rfl⟩,q w H2 (s1.trans s2) z3⟩
     ·cases hg
  | _=>cases hg⟩⟩
end
def C6 (i:Nat) (f:FX):cn:=fun k ρ=>match ρ[i]? with
 | some (some (.own (.lst xs)))=>uj (f ρ) k ρ fun d=>match d with
  | .lst ys=>if small (xs.length+ys.length) then k.nx (ρ.set i (some (.own (.lst (xs++ys))))) else un
  | _=>un
 | _=>un
theorem LY {X:Cx} {i:Nat} {x:Str} {e:R4} {f:FX} {npos apos cpos pos:Pos} (hx:PE X (.Name x npos) (tJ i)) (he:FN X e f) (hns:noStar e=true:=by rfl)
  (hbase:Su (.Name x npos) "extend" X.env (eval (.Name x npos) X.env)=eval (.Name x npos) X.env:=by rfl)
  (hfew:((backTo cpos (R5 [e] X.env)).all (fun x=>!x.1) && (backToKw cpos (Sw [] X.env)).all (fun x=>x.1.isSome) && decide (([e]:List R4).length+([]:List S3).length+(if ([]:List S3).isEmpty then 0 else 1) < 30))=true:=by rfl)
  (hline:(apos.endLine==cpos.line)=true:=by rfl) (hplain:(backTo cpos (R5 [] X.env)).any (·.1)=false:=by rfl)
  (hsw:swapsWith (.Call (.Attribute (.Name x npos) "extend" apos) [e] [] cpos) none pos.line X.env=pure false:=by rfl) :
  FS X (.Expr (.Call (.Attribute (.Name x npos) "extend" apos) [e] [] cpos) pos) (C6 i f):=fun Hb Ob pins s σ H E I ⟨O,ρ,k,rr,S,hF,hk⟩=>by
 unfold C6 at hF
 split at hF
 ·rename_i xs hxs
  obtain⟨a,ha,haO,hat⟩:=S.env.own i _ hxs
  obtain⟨o,vs0,ho,eo,dn⟩:=hat
  subst eo
  refine xj (A1 F.plainAttrs_list F.slot_list_extend F.type_list_extend BH hx (kY he qz (dj hns)) hbase hfew hline (dj hns) hplain) hsw pins s σ H E I ⟨.ref a,ha,.inl ⟨rfl,vs0,oO.of ho⟩,O,ρ,S.env,jF.on hF hk S fun d hr p H1 s1 hp m own=>?_⟩
  have S1:=S.same s1
  cases d with
  | lst ys =>
   have hr:(if small (xs.length+ys.length) then k.nx (ρ.set i (some (.own (.lst (xs++ys))))) else un)=rr:=hr
   cases hsm:small (xs.length+ys.length) with
   | false=>rw [hsm] at hr; exact absurd hr.symm hk.ne
   | true =>
    rw [hsm] at hr
    obtain⟨o,zs,h1,h2,h3⟩:=own
    subst h2
    have dz:aZ X.K (hid H1 O) ys zs:=h3.mono (iD fun b hb=>N5 _ hb)
    have hz:=eE hsm
    exact⟨a,p,vs0,zs,rfl,rfl,s1 _ _ ho,h1,by rw [<- dn.length,<- dz.length]; exact hz,hk.nx O _ σ _ (S1.setO hxs ha trivial (qV haO ((dn.mono (bX s1)).append dz))) hr⟩
  | _=>exact absurd (show un=rr from hr).symm hk.ne
 ·exact absurd hF.symm hk.ne
def uc:List D->Option D
 | [.lst xs]=>(iP xs).bind fun ps=>if small ps.length then some (oJ (vK ps)) else none
 | _=>none
section
variable {X:Cx}
theorem Am (hc:X.calm=true) (hu:X.A.units+64 < Sy):dQ X (.type "dict") (yD X.K uc):=by
 intro pins s σ H xs us Q I r ⟨O,ds,d,hO,hd,hg,q⟩
 unfold uc at hg
 split at hg
 ·rename_i ys
  cases hp:iP ys with
  | none=>rw [hp] at hg; cases hg
  | some ps =>
   rw [hp] at hg
   obtain⟨sm,rfl⟩:=bE (show (if small ps.length then some (oJ (vK ps)) else none)=some d from hg)
   obtain⟨v,rfl,h1⟩:=hd.one
   obtain⟨p,ws,rfl,g1,g2⟩:=cA.mp h1
   obtain⟨u,rfl,ru⟩:=vals1 r
   cases ru
   obtain⟨its,rv,⟨o,n,ho,hcl,hd',hdd⟩,hz⟩:=I.list ((aD H O).seq g1)
   rw [qB hp] at g2
   obtain⟨L,ks,l1,l2,l3,l4,l5⟩:=qv I g2 rv
   have kl:ks.length=ps.length:=by have:=congrArg List.length l4; simpa using this
   have ll:ks.length=L.length:=Paired.length l3
   have key:∀ {ks:List (List Key×V)} {L:List (List Key×RP×RM)},KT H ks L->∀ x∈L,∀ h,Keeps s.heap h->(tupleKind (bZ X.prog X.w)).is h x.1 x.2.1:=fun {ks L} kt=>by
    induction kt with
    | nil=>intro x hx; cases hx
    | cons hq _ ih =>
     intro x hx h kh
     rcases List.mem_cons.mp hx with z | z
     ·subst z
      obtain⟨e1,e2,_⟩:=hq
      rw [e1] at e2
      obtain⟨o,xs,n,k1,k2⟩:=oM I.hok e2
      exact⟨o,xs,n,kh _ _ k1,k2⟩
     ·exact ih x z h kh
   obtain⟨f1,f2,f3,f4⟩:=rY (K:=X.K) (H:=H) (H0:=hid H O) (al:=[]) (kvs:=[]) (xs:=[]) l3 l4 l5 .nil rfl (dh.mpr rfl)
   have hsz:ps.length<=100000:=of_decide_eq_true sm
   have sl:RU=16777216:=Sr
   refine mB (knd:=tupleKind (bZ X.prog X.w)) (L:=L) ho hcl hdd hd' (I.ok.hd hc) (S4 (by rw [in1_units]; omega)) (by simpa using l1) ‹0› (fun i v e=>l2 i v (by simpa using e)) (key l3) fun h' tk kp di=>?_
   have hf:=I.hok.fresh (Oa s.heap.objs.size)
   obtain⟨⟨od,es,ep,k1,k2,k3,k4,k5⟩,_⟩:=di
   have kt':KT (upd H s.heap.objs.size (.frz od (.dT (ks.foldl (fun m p=>putK m p.1 p.2) [])))) (ks.foldl (fun m p=>putK m p.1 p.2) []) (L.foldl (fun xs x=>storedH xs x.1 x.2.1 x.2.2) []):=KT.keeps f1 fun b ys eb=>by rw [aE (fun z=>by rw [z,hf] at eb; cases eb)]; exact eb
   refine⟨.ref s.heap.objs.size,_,I.laid (t':=tk) kp (Oa _) (show cC X.prog X.w _ h' _ (.frz od (.dT (ks.foldl (fun m p=>putK m p.1 p.2) []))) from ⟨k1,by simp only [OO] at f4; omega,beq_eq_false_iff_ne.mpr (Ne.symm (N0 I.big)),_,kt',od,es,ep,k1,k2,k3,k4,k5⟩),rfl,?_⟩
   refine q _ _ (bF hf _) ?_
   have pO:=hO.not hf
   refine K5.mpr ⟨s.heap.objs.size,_,rfl,f3.mono (rB hf),.inr (.inr ⟨_,od,by rw [jX pO]; exact aL,congrArg _ (tM f2),rfl⟩)⟩
 ·cases hg
end
end TG
namespace TX
open PySem PySem.Spec L2 TG
variable [aV]
structure XE (X:Cx) (e:R4) (F:FX):Prop where h:FE X e F
structure XT (X:Cx) (e:R4) (F:aq->R Bool):Prop where h:FT X e F
structure XW (X:Cx) (e:R4) (F:aq->R Bool):Prop where h:FW X e F
structure XA (X:Cx) (e:List R4) (F:aq->R (List D)):Prop where h:FA X e F
structure XS (X:Cx) (e:R6) (F:cn):Prop where h:FS X e F
structure y8 (X:Cx) (e:List R6) (F:cn):Prop where h:yT X e F
structure XI (X:Cx) (t e:R4) (F:aq->R (List D)):Prop where h:FI X t e F
structure XG (X:Cx) (e:R4) (F:GF):Prop where h:FG X e F
structure KA (X:Cx) (e:List R4) (F:CT):Prop where h:Jt X e F
structure XO (X:Cx) (e:Option R4) (F:aq->R (Option Int)):Prop where h:FO X e F
structure XN (X:Cx) (e:R4) (F:FX):Prop where h:FN X e F
structure LX (X:Cx) (e:List R4) (F:aq->R Bool):Prop where h:KR X e F
structure XV (X:Cx) (e:R4) (i:Nat):Prop where h:PE X e (tJ i)
structure XB (X:Cx) (scope:R1) (N:List Str) (tg elt:R4) (ifs:List R4) (g:GF) (C:aq->R Bool) (Fe:FX) (cl:List (Str×RP)) (C':RP) (fp:List RP) (s:R0) (H:Hp) (E:RM->R0->Prop):Prop where
 a:XG (cJ X scope N cl C' fp s H E) tg g
 b:LX (cJ X scope N cl C' fp s H E) ifs C
 c:XE (cJ X scope N cl C' fp s H E) elt Fe
structure Em (X:Cx) (scope:R1) (N:List Str) (tg elt:R4) (ifs:List R4) (g:GF) (C:aq->R Bool) (Fe:FX):Prop where
 q:∀ cl C' fp s H E,XB X scope N tg elt ifs g C Fe cl C' fp s H E
theorem Em.h {X:Cx} {scope:R1} {N:List Str} {tg elt:R4} {ifs:List R4} {g:GF} {C:aq->R Bool} {Fe:FX} (x:Em X scope N tg elt ifs g C Fe):IZ X scope N tg elt ifs g C Fe:=fun cl C' fp s H E=>⟨(x.q cl C' fp s H E).a.h,(x.q cl C' fp s H E).b.h,(x.q cl C' fp s H E).c.h⟩
theorem xv {X:Cx} (i:Nat) {x:Str} {pos:Pos} (hN:X.N[i]?=some x:=by rfl) (hv:Hq X.env.scope x:=by first | exact Or.inl rfl | exact Or.inr (Or.inl rfl) | exact Or.inr (Or.inr rfl)) (hd:(x==("__debug__":Str))=false:=by decide)
  (hcd:(x==("__classdict__":Str))=false:=by decide):XV X (.Name x pos) i:=⟨pv i hN hv hd hcd⟩
theorem J9 {X:Cx} {e:R4} {f:aq->R Bool} (h:XW X e f):XT X e f:=⟨FW.ft h.h⟩
section
variable [aV] {X:Cx}
theorem aa {i:Nat} {x:Str} {pos:Pos} (h:XV X (.Name x pos) i):XE X (.Name x pos) (ah i):=⟨TG.Mu h.h⟩
end
section
variable [aV] {X:Cx}
theorem ai {i j pos}:XE X (.Constant (.int i) j pos) (fC (.int i)):=⟨TG.Mp ⟩
end
section
variable [aV] {X:Cx}
theorem fF {b j pos}:XE X (.Constant (.bool b) j pos) (fC (.bl b)):=⟨TG.Ng ⟩
end
section
variable [aV] {X:Cx}
theorem ip {x j pos}:XE X (.Constant (.str x) j pos) (fC (.str x)):=⟨TG.Lz ⟩
end
section
variable [aV] {X:Cx}
theorem aj :XA X [] aw:=⟨TG.IL ⟩
end
section
variable [aV] {X:Cx}
theorem ae {e:R4} {es:List R4} {f:FX} {g:aq->R (List D)} (he:XE X e f) (hs:XA X es g) (hns:noStar e=true:=by rfl):XA X (e::es) (af f g):=⟨TG.Gs he.h hs.h hns⟩
end
section
variable [aV] {X:Cx}
theorem bT {es:List R4} {g:aq->R (List D)} {k pos} (h:XA X es g):XE X (.Tuple es k pos) (dG g):=⟨TG.M8 h.h⟩
end
section
variable [aV] {X:Cx}
theorem ig {es:List R4} {g:aq->R (List D)} {pos} (h:XA X es g):XE X (.List es pos) (jp g):=⟨TG.Lw h.h⟩
end
section
variable [aV] {X:Cx}
theorem ao {a b:R4} {op:Operator} {r:R2} {g:D->D->Option D} {fa fb:FX} {pos:Pos} (ho:lX X (Sl op) r) (s:eY X.K r g) (ha:XE X a fa) (hb:XE X b fb):XE X (.BinOp a op b pos) (f2 g fa fb):=⟨TG.Mx ho s ha.h hb.h⟩
end
section
variable [aV] {X:Cx}
theorem jG {a b:R4} {op:CmpOp} {r:R2} {g:D->D->Option D} {fa fb:FX} {pos:Pos} (ho:lX X (Sn op) r) (s:eY X.K r g) (ha:XE X a fa) (hb:XE X b fb) (hm:Sq op b=false):XE X (.Compare a [op] [b] pos) (f2 g fa fb):=⟨TG.MM ho s ha.h hb.h hm⟩
end
section
variable [aV] {X:Cx}
theorem bL {a b:R4} {op:CmpOp} {r:R2} {g:D->D->Option D} {fa fb:FX} {pos:Pos} (ho:lX X (Sn op) r) (s:eY X.K r g) (ha:XE X a fa) (hb:XE X b fb) (hm:Sq op b=false):XT X (.Compare a [op] [b] pos) (fB (f2 g fa fb)):=⟨TG.My ho s ha.h hb.h hm⟩
end
section
variable [aV] {X:Cx} {a b c:R4} {rest:List R4} {pos:Pos} {f g:aq->R Bool}
theorem rM (h:XT X a f):XT X (.UnaryOp .Not a pos) (zN f):=⟨TG.M6 h.h⟩
end
section
variable [aV] {X:Cx} {a b c:R4} {rest:List R4} {pos:Pos} {f g:aq->R Bool}
theorem o9 (h:XT X a f):XW X (.BoolOp .Or [a] pos) f:=⟨TG.Mq h.h⟩
end
section
variable [aV] {X:Cx} {a b c:R4} {rest:List R4} {pos:Pos} {f g:aq->R Bool}
theorem sR (ha:XT X a f) (hb:XW X (.BoolOp .Or (b::rest) pos) g):XW X (.BoolOp .Or (a::b::rest) pos) (G4 f g):=⟨TG.Nv ha.h hb.h⟩
end
section
variable [aV] {X:Cx} {a b c:R4} {rest:List R4} {pos:Pos} {f g:aq->R Bool} {fa fb:FX}
theorem rT {op} (h:XE X a fa):XE X (.BoolOp op [a] pos) fa:=⟨TG.LJ h.h⟩
end
section
variable [aV] {X:Cx} {a b c:R4} {rest:List R4} {pos:Pos} {f g:aq->R Bool} {fa fb:FX}
theorem mZ (ha:XE X a fa) (hb:XE X (.BoolOp .And (b::rest) pos) fb):XE X (.BoolOp .And (a::b::rest) pos) (o0 fa fb):=⟨TG.LU ha.h hb.h⟩
end
section
variable [aV] {X:Cx}
theorem aQ {a b:R4} {fa fb:FX} {pos:Pos} (ha:XE X a fa) (hb:XE X b fb) (hs:wO b):XE X (.Subscript a b pos) (f2 bh fa fb):=⟨TG.Nt ha.h hb.h hs⟩
end
section
variable [aV] {X:Cx}
theorem d9 :XO X none bA:=⟨TG.KN ⟩
end
section
variable [aV] {X:Cx}
theorem eA {e:R4} {f:FX} (h:XE X e f):XO X (some e) (cM f):=⟨TG.Lb h.h⟩
end
section
variable [aV] {X:Cx}
theorem du {e:R4} {f:FX} {l h:aq->R (Option Int)} {lo hi:Option R4} {p2 pos:Pos} (he:XE X e f) (hl:XO X lo l) (hh:XO X hi h):XE X (.Subscript e (.Slice lo hi none p2) pos) (bN f l h):=⟨TG.Ko he.h hl.h hh.h⟩
end
section
variable [aV] {X:Cx} {x:Str} {p pos:Pos} {e:R4} {es:List R4} {id T:String} {g:List D->Option D} {f:aq->R (List D)}
theorem bx (hc:dQ X (.builtin id) (yD X.K g)) (hg:Gl X x) (hm:X.mg x=none) (hv:RY x=some (.builtin id)) (ha:XA X (e::es) f) (hn:x ≠ "__name__":=by decide) (hdb:(x==("__debug__":Str))=false:=by decide) (hns:(e::es).all noStar=true:=by rfl):XE X (.Call (.Name x p) (e::es) [] pos) (fL g f):=⟨TG.J3 hc hg hm hv ha.h hn hdb hns⟩
end
section
variable [aV] {X:Cx} {x:Str} {p pos:Pos} {e:R4} {es:List R4} {id T:String} {g:List D->Option D} {f:aq->R (List D)}
theorem bB (hc:dQ X (.type T) (yD X.K g)) (hg:Gl X x) (hm:X.mg x=none) (hv:RY x=some (.type T)) (ha:XA X (e::es) f) (hn:x ≠ "__name__":=by decide) (hdb:(x==("__debug__":Str))=false:=by decide) (hns:(e::es).all noStar=true:=by rfl):XE X (.Call (.Name x p) (e::es) [] pos) (fL g f):=⟨TG.Jc hc hg hm hv ha.h hn hdb hns⟩
end
section
variable [aV] {X:Cx} {x:Str} {p pos:Pos} {e:R4} {es:List R4} {id T:String} {g:List D->Option D} {f:aq->R (List D)}
theorem iY {f:FX} {xT:Str} {p2:Pos} (ok:yI X.K T) (hg:Gl X "isinstance") (hm:X.mg "isinstance"=none) (hgT:Gl X xT) (hmT:X.mg xT=none) (hvT:RY xT=some (.type T)) (he:XE X e f) (hn2:xT ≠ "__name__":=by decide) (hd2:(xT==("__debug__":Str))=false:=by decide) (hns:noStar e=true:=by rfl):XE X (.Call (.Name "isinstance" p) [e,.Name xT p2] [] pos) (rp T f):=⟨TG.Mb ok hg hm hgT hmT hvT he.h hn2 hd2 hns⟩
end
section
variable [aV] {X:Cx} {a:R4} {f:FX} {pos:Pos}
theorem e9 (h:XE X a f) (he:∀ whole,isTrue a X.env whole=(do let v <- whole; standAt a.pos; holding [v] (truthy v)):=by intro _; rfl):XT X a (iN f):=⟨TG.Kj h.h he⟩
end
section
variable [aV] {X:Cx} {tg:R4}
theorem dA {e:R4} {f:FX} (h:XE X e f):XI X tg e (bR f):=⟨TG.MS h.h⟩
end
section
variable [aV] {X:Cx} {tg:R4}
theorem jr {a:R4} {f:aq->R (List D)} {p pos:Pos} (hg:Gl X "range") (hm:X.mg "range"=none) (ha:XA X [a] f) (hs:R5 [a] X.env=[(false,eval a X.env)]:=by rfl):XI X tg (.Call (.Name "range" p) [a] [] pos) (h7 f):=⟨TG.Jg hg hm ha.h hs⟩
end
section
variable [aV] {X:Cx} {tg:R4}
theorem zR {a b:R4} {f:aq->R (List D)} {p pos:Pos} (hg:Gl X "range") (hm:X.mg "range"=none) (ha:XA X [a,b] f) (hs:R5 [a,b] X.env=[(false,eval a X.env),(false,eval b X.env)]:=by rfl) (hs2:R5 [b] X.env=[(false,eval b X.env)]:=by rfl):XI X tg (.Call (.Name "range" p) [a,b] [] pos) (rH f):=⟨TG.Je hg hm ha.h hs hs2⟩
end
section
variable [aV] {X:Cx} {pos:Pos}
theorem aP {i:Nat} {x:Str} (hN:X.N.Nodup) (hi:X.N[i]?=some x) (hx:Loc X.env.scope x) (hf:X.fn x=true\/X.env.scope.names.lookup x=some .local:=by first | exact .inl rfl | exact .inr rfl | assumption):XG X (.Name x pos) (gN i):=⟨TG.Lf hN hi hx hf⟩
end
section
variable [aV] {X:Cx} {pos:Pos}
theorem gC :KA X [] DZ:=⟨TG.KS ⟩
end
section
variable [aV] {X:Cx} {pos:Pos}
theorem bV {e:R4} {es:List R4} {g:GF} {h:CT} (h1:XG X e g) (h2:KA X es h) (hs:(assignEach (e::es) X.env).map (·.2)=assign e X.env::(assignEach es X.env).map (·.2):=by rfl):KA X (e::es) (zK g h):=⟨TG.Kw h1.h h2.h hs⟩
end
section
variable [aV] {X:Cx} {pos:Pos}
theorem i7 {es:List R4} {k:Nat} {g:CT} {n:Nat} (hc:X.calm=true) (h:KA X es g) (hn:(assignEach es X.env).length=n:=by rfl) (hst:(assignEach es X.env).findIdx? (·.1)=none:=by rfl):XG X (.Tuple es k pos) (gT n g):=⟨TG.MI hc h.h hn hst⟩
end
section
variable [aV]
theorem gq {X:Cx}:LX X [] fA:=⟨TG.KI ⟩
end
section
variable [aV]
theorem ju {X:Cx} {c:R4} {F:aq->R Bool} (h:XT X c F):LX X [c] F:=⟨TG.KO h.h⟩
end
section
variable [aV] {X:Cx} {elt tg iter:R4} {ifs:List R4} {scope:R1} {pos:Pos} {N:List Str} {ix:List (Option Nat)} {G:aq->R (List D)} {g:GF} {C:aq->R Bool} {Fe:FX}
theorem iK (hc:X.calm=true) (ok:i3 X scope N ix) (tk:rh ix g) (hi:XI X tg iter G) (hb:Em X scope N tg elt ifs g C Fe) (hs:∀ x,Si iter X.env x=pure x:=by intro _; rfl):XE X (.ListComp elt [⟨tg,iter,ifs,0⟩] scope pos) (jV ix G g C Fe):=⟨TG.Ni hc ok tk hi.h hb.h hs⟩
end
section
variable [aV] {X:Cx} {st:R6} {rest body:List R6} {pos:Pos}
theorem aW :y8 X [] cW:=⟨TG.KY ⟩
end
section
variable [aV] {X:Cx} {st:R6} {rest body:List R6} {pos:Pos}
theorem ak {F1 F2:cn} (h1:XS X st F1) (h2:y8 X rest F2):y8 X (st::rest) (aM F1 F2):=⟨TG.JH h1.h h2.h⟩
end
section
variable [aV] {X:Cx} {st:R6} {rest body:List R6} {pos:Pos}
theorem az {F1:cn} (h1:XS X st F1):y8 X [st] F1:=⟨TG.K3 h1.h⟩
end
section
variable [aV] {X:Cx} {st:R6} {rest body:List R6} {pos:Pos}
theorem aH {e:R4} {f:FX} (h:XE X e f):XS X (.Return (some e) pos) (bQ f):=⟨TG.MR h.h⟩
end
section
variable [aV] {X:Cx} {st:R6} {rest body:List R6} {pos:Pos}
theorem cG {c:R4} {a b:List R6} {tc:aq->R Bool} {A B:cn} (hc:XT X c tc) (ha:y8 X a A) (hb:y8 X b B):XS X (.If c a b pos) (n9 tc A B):=⟨TG.Nq hc.h ha.h hb.h⟩
end
section
variable [aV] {X:Cx} {st:R6} {rest body:List R6} {pos:Pos}
theorem aF {i:Nat} {x:Str} {e:R4} {f:FX} {pos':Pos} (hN:X.N.Nodup) (hi:X.N[i]?=some x) (hx:Loc X.env.scope x) (he:XE X e f) (hs:swapsWith e (some (.Name x pos')) pos.line X.env=pure false:=by rfl) (hf:X.fn x=true\/X.env.scope.names.lookup x=some .local:=by first | exact .inl rfl | exact .inr rfl | assumption):XS X (.Assign [.Name x pos'] e pos) (bU i f):=⟨TG.Mh hN hi hx he.h hs hf⟩
end
section
variable [aV] {X:Cx} {st:R6} {rest body:List R6} {pos:Pos}
theorem HH {elt tg iter:R4} {ifs:List R4} {scope:R1} {N:List Str} {ix:List (Option Nat)} {G:aq->R (List D)} {g:GF} {C:aq->R Bool} {Fe:FX} {i:Nat} {y:Str} {lpos py spos:Pos} (hN:X.N.Nodup) (hi':X.N[i]?=some y) (hx:Loc X.env.scope y) (hc:X.calm=true) (ok:i3 X scope N ix) (tk:rh ix g) (hi:XI X tg iter G) (hb:Em X scope N tg elt ifs g C Fe) (hsw:swapsWith (.ListComp elt [⟨tg,iter,ifs,0⟩] scope lpos) (some (.Name y py)) spos.line X.env=pure true:=by rfl) (hs:∀ x,Si iter X.env x=pure x:=by intro _; rfl) (hf:X.fn y=true\/X.env.scope.names.lookup y=some .local:=by first | exact .inl rfl | exact .inr rfl | assumption):XS X (.Assign [.Name y py] (.ListComp elt [⟨tg,iter,ifs,0⟩] scope lpos) spos) (bU i (jV ix G g C Fe)):=⟨TG.Nu hN hi' hx hc ok tk hi.h hb.h hsw hs hf⟩
end
section
variable [aV] {X:Cx} {st:R6} {rest body:List R6} {pos:Pos}
theorem Dd :XS X st DA:=⟨TG.K1 ⟩
end
section
variable [aV] {X:Cx} {st:R6} {rest body:List R6} {pos:Pos}
theorem cf {st:List R6} {F:cn} (is:List Nat) (h:y8 X st F):y8 X st (eR is F):=⟨TG.JF is h.h⟩
end
section
variable [aV] {X:Cx} {st:R6} {rest body:List R6} {pos:Pos}
theorem d5 {tg iter:R4} {G:aq->R (List D)} {g:GF} {B:cn} (hp:Sg (model X.prog X.w) X.A X.env X.xe) (hc:X.calm=true) (hi:XI X tg iter G) (hg:XG X tg g) (hb:y8 X body B) (hs:∀ x,Si iter X.env x=pure x:=by intro _; rfl):XS X (.For tg iter body [] pos) (jS G g B):=⟨TG.M9 hp hc hi.h hg.h hb.h hs⟩
end
section
variable [aV] {X:Cx} {pos:Pos}
theorem lg {es:List R4} {g:aq->R (List D)} (h:XA X es g):XN X (.List es pos) (jp g):=⟨TG.Nc h.h⟩
end
section
variable [aV] {X:Cx} {pos:Pos}
theorem Dc {x:Str} {p:Pos} {e:R4} {f:aq->R (List D)} (hg:Gl X x) (hm:X.mg x=none) (hv:RY x=some (.type "list")) (ha:XA X [e] f) (hn:x ≠ "__name__":=by decide) (hdb:(x==("__debug__":Str))=false:=by decide) (hns:noStar e=true:=by rfl):XN X (.Call (.Name x p) [e] [] pos) (fL pq f):=⟨TG.K4 hg hm hv ha.h hn hdb hns⟩
end
section
variable [aV] {X:Cx} {pos:Pos}
theorem pN :XN X (.Dict [] [] pos) vM:=⟨TG.CV ⟩
end
section
variable [aV] {X:Cx} {pos:Pos}
theorem fK {i:Nat} {x:Str} {e:R4} {f:FX} {pos':Pos} (hN:X.N.Nodup) (hi:X.N[i]?=some x) (hx:Loc X.env.scope x) (he:XN X e f) (hs:swapsWith e (some (.Name x pos')) pos.line X.env=pure false:=by rfl) (hf:X.fn x=true\/X.env.scope.names.lookup x=some .local:=by first | exact .inl rfl | exact .inr rfl | assumption):XS X (.Assign [.Name x pos'] e pos) (lW i f):=⟨TG.LK hN hi hx he.h hs hf⟩
end
section
variable [aV]
theorem BU {X:Cx} {elt tg iter:R4} {ifs:List R4} {scope:R1} {N:List Str} {ix:List (Option Nat)} {G:aq->R (List D)} {g:GF} {C:aq->R Bool} {Fe:FX} {i:Nat} {y:Str} {lpos py spos:Pos} (hN:X.N.Nodup) (hi':X.N[i]?=some y) (hx:Loc X.env.scope y) (hc:X.calm=true) (ok:i3 X scope N ix) (tk:rh ix g) (hi:XI X tg iter G) (hb:Em X scope N tg elt ifs g C Fe) (hsw:swapsWith (.ListComp elt [⟨tg,iter,ifs,0⟩] scope lpos) (some (.Name y py)) spos.line X.env=pure true:=by rfl) (hs:∀ x,Si iter X.env x=pure x:=by intro _; rfl) (hf:X.fn y=true\/X.env.scope.names.lookup y=some .local:=by first | exact .inl rfl | exact .inr rfl | assumption):XS X (.Assign [.Name y py] (.ListComp elt [⟨tg,iter,ifs,0⟩] scope lpos) spos) (lW i (jV ix G g C Fe)):=⟨TG.Jw hN hi' hx hc ok tk hi.h hb.h hsw hs hf⟩
end
section
variable [aV]
theorem DV {X:Cx} {elt tg iter:R4} {ifs:List R4} {scope:R1} {pos:Pos} {N:List Str} {ix:List (Option Nat)} {G:aq->R (List D)} {g:GF} {C:aq->R Bool} {Fe:FX} (hc:X.calm=true) (ok:i3 X scope N ix) (tk:rh ix g) (hi:XI X tg iter G) (hb:Em X scope N tg elt ifs g C Fe) (hs:∀ x,Si iter X.env x=pure x:=by intro _; rfl):XN X (.ListComp elt [⟨tg,iter,ifs,0⟩] scope pos) (jV ix G g C Fe):=⟨TG.Nh hc ok tk hi.h hb.h hs⟩
end
section
variable [aV]
theorem lK {X : Cx} {i : Nat} {x m : Str} {id : String} {r : V -> List V -> Hp -> VK -> Prop} {u : List D -> List D -> Option (List D)} {e : R4} {es : List R4} {f : aq -> R (List D)} {npos apos cpos pos : Pos} (slot : Slot "list" m id) (hty : typeOf (.builtin id) = pure (.type "method_descriptor")) (hm : JA X id r) (ok : DB X.K r u) (hx : XV X (.Name x npos) i) (he : XA X (e :: es) f) (hbase : Su (.Name x npos) m X.env (eval (.Name x npos) X.env) = eval (.Name x npos) X.env := by rfl) (hfew : ((backTo cpos (R5 (e :: es) X.env)).all (fun x => !x.1) && (backToKw cpos (Sw [] X.env)).all (fun x => x.1.isSome)
      && decide ((e::es:List R4).length+([]:List S3).length+(if ([]:List S3).isEmpty then 0 else 1) < 30))=true:=by rfl) (hline:(apos.endLine==cpos.line)=true:=by rfl) (hs:R5 (e::es) X.env=(false,eval e X.env)::R5 es X.env:=by rfl) (hplain:(backTo cpos (R5 es X.env)).any (·.1)=false:=by rfl) (hsw:swapsWith (.Call (.Attribute (.Name x npos) m apos) (e::es) [] cpos) none pos.line X.env=pure false:=by rfl):XS X (.Expr (.Call (.Attribute (.Name x npos) m apos) (e::es) [] cpos) pos) (yV i u f):=⟨TG.Np slot hty hm ok hx.h he.h hbase hfew hline hs hplain hsw⟩
end
section
variable [aV]
theorem e8 {X:Cx} {st:List R6} {F:cn} (i:Nat) (h:y8 X st F):y8 X st (iO i F):=⟨TG.K6 i h.h⟩
end
section
variable [aV]
theorem ug {X:Cx} {e:R4} {f:aq->R Bool} (is:List Nat) (h:XT X e f):XT X e (kP is f):=⟨TG.K7 is h.h⟩
end
section
variable [aV]
theorem ay {X:Cx} {k k':Nat} {ps:List Str} {g:List D->R D} {h:aq->R (List D)} {x:Str} {p pos:Pos} {e:R4} {es:List R4} (C:Callee X.prog X.w X.K X.mg X.base k x ps g) (hn:Ar ps.length g) (hr:fX k' X.A) (hk:k<=k') (ha:XA X (e::es) h) (hg:Gl X x:=by rfl) (hdb:(x==("__debug__":Str))=false:=by decide) (hns:(e::es).all noStar=true:=by rfl):XE X (.Call (.Name x p) (e::es) [] pos) (fR g h):=⟨TG.Jb C hn hr hk ha.h hg hdb hns⟩
end
section
variable [aV] {X:Cx} {a b c:R4} {fa fb fc:FX} {pos:Pos}
theorem rQ (ha:XE X a fa):XE X (.UnaryOp .USub a pos) (zI fa):=⟨TG.ME ha.h⟩
end
section
variable [aV] {X:Cx}
theorem FQ {a b:R4} {es:List R4} {k:Nat} {tpos:Pos} {f:aq->R (List D)} {p pos:Pos} (hg:Gl X "zip") (hm:X.mg "zip"=none) (ha:XA X [a,b] f) (hs:R5 [a,b] X.env=(false,eval a X.env)::R5 [b] X.env:=by rfl) (hpl:(backTo pos (R5 [b] X.env)).any (·.1)=false:=by rfl):XI X (.Tuple es k tpos) (.Call (.Name "zip" p) [a,b] [] pos) (EX f):=⟨TG.MH hg hm ha.h hs hpl⟩
end
section
variable [aV] {X:Cx}
theorem ik {a:R4} {es:List R4} {k:Nat} {tpos:Pos} {f:aq->R (List D)} {p pos:Pos} (hg:Gl X "enumerate") (hm:X.mg "enumerate"=none) (ha:XA X [a] f) (hs:R5 [a] X.env=(false,eval a X.env)::R5 [] X.env:=by rfl) (hpl:(backTo pos (R5 [] X.env)).any (·.1)=false:=by rfl):XI X (.Tuple es k tpos) (.Call (.Name "enumerate" p) [a] [] pos) (e7 f):=⟨TG.FK hg hm ha.h hs hpl⟩
end
section
variable [aV] {X:Cx} {a o e:R4} {es:List R4} {fa fo:FX} {fas:aq->R (List D)} {f m x:Str} {cs:List Str} {pos apos p:Pos} {k k':Nat} {ps:List Str}
theorem Gy (ok:AX X.K f cs) (h:XE X a fa) (hb:Su a f X.env (eval a X.env)=eval a X.env:=by rfl):XE X (.Attribute a f pos) (f1 (GC f cs) fa):=⟨TG.LD ok h.h hb⟩
end
section
variable [aV] {X:Cx} {a o e:R4} {es:List R4} {fa fo:FX} {fas:aq->R (List D)} {f m x:Str} {cs:List Str} {pos apos p:Pos} {k k':Nat} {ps:List Str}
theorem dg {tbl : List (Str × (List D -> R D))} {pl : Sem Bool} (tb : eO X.prog X.w X.K X.mg X.base k m ps tbl) (hr : fX k' X.A) (hk : k <= k') (ho : XE X o fo) (ha : XA X (e :: es) fas) (hns : (e :: es).all noStar = true := by rfl) (ht : eval (.Call (.Attribute o m apos) (e :: es) [] pos) X.env = (do
      let ov <- eval o X.env
      standAt apos.atName
      let (f,first) <- holding [ov] (getMethod ov m pl)
      Sv pos f first (backTo pos (R5 (e::es) X.env)) (backToKw pos (Sw [] X.env))):=by rfl):XE X (.Call (.Attribute o m apos) (e::es) [] pos) (dR m tbl fo fas):=⟨TG.Lc tb hr hk ho.h ha.h hns ht⟩
end
section
variable [aV] {X:Cx} {a o e:R4} {es:List R4} {fa fo:FX} {fas:aq->R (List D)} {f m x:Str} {cs:List Str} {pos apos p:Pos} {k k':Nat} {ps:List Str}
theorem GI {c:Str} {fs:List Str} (IA:tD X.prog X.w X.K X.mg X.base k c ps fs) (hr:fX k' X.A) (hk:k+1<=k') (hg:Gl X c) (ha:XA X (e::es) fas) (hdb:(c==("__debug__":Str))=false:=by decide) (hns:(e::es).all noStar=true:=by rfl):XE X (.Call (.Name c p) (e::es) [] pos) (fNew c fs fas):=⟨TG.M1 IA hr hk hg ha.h hdb hns⟩
end
section
variable [aV]
theorem yv {X:Cx} {i:Nat} {x:Str} {idx value:R4} {fk fv:FX} {npos tpos pos:Pos} (hu:X.A.units+64 < Sy) (hx:XV X (.Name x npos) i) (hi:XE X idx fk) (hv:XE X value fv) (hs:swapsWith value (some (.Subscript (.Name x npos) idx tpos)) pos.line X.env=pure false:=by rfl):XS X (.Assign [.Subscript (.Name x npos) idx tpos] value pos) (sE i fk fv):=⟨TG.Li hu hx.h hi.h hv.h hs⟩
end
section
variable [aV] {X:Cx} {pins:List (RP×Obj)} {s:R0} {σ:L2.St} {H:Hp} {O:List RP}
theorem Cw {f:FX} {j:Nat} {k:Nat} {c P cc:RP} {e:R4} {p lpos kp pos np mp p2 spos:Pos} {row many:Str} {params:SG} {scope:R1} (hr:fX k X.A) (hg:Gl X "sorted") (hm:X.mg "sorted"=none) (B:BD X.mg X.base c P) (hcode:X.env.code=.ref c) (hT:∀ H,aV.tab H->H P=some (.ext (pB P lpos (X.env.qual ++ "<lambda>")))) (he:XE X e f) (hN:X.N[j]?=some many) (hkm:X.env.kindOf many=some .cell) (hv:Hq X.env.scope many) (hcc:X.env.cells.lookup many=some cc) (hcl:closureFor scope X.env=pure [(many,cc)]) (hdef:defaultsOf params X.env=([],[])) (hbind:∀ cdv ctv v,bindArgs (Q9 "<lambda>" (X.env.qual ++ "<lambda>") params (cutE row many np mp p2 spos) scope [(many,cc)] ((X.mg "__name__").getD .none) cdv ctv) ⟨[v],[]⟩=pure [(row,v)]) (hco:scope.isCoroutine=false) (hgen:scope.isGenerator=false) (hk:scope.kind=.function) (hno:∀ x∈scope.names,x.2≠.cell) (hlr:scope.names.lookup row=some .local) (hlm:scope.names.lookup many=some .free) (d1:(row==("__debug__":Str))=false) (d2:(many==("__debug__":Str))=false) (d3:(many==("__classdict__":Str))=false) (hns:noStar e=true:=by rfl):XE X (.Call (.Name "sorted" p) [e] [⟨some "key",.Lambda params (cutE row many np mp p2 spos) scope lpos,kp⟩] pos) (f2 qg f (ah j)):=⟨TG.JX hr hg hm B hcode hT he.h hN hkm hv hcc hcl hdef hbind hco hgen hk hno hlr hlm d1 d2 d3 hns⟩
end
section
variable [aV]
theorem yi {X:Cx} {i:Nat} {x:Str} {idx value:R4} {fk fv:FX} {npos tpos pos:Pos} (hu:X.A.units+64 < Sy) (hx:XV X (.Name x npos) i) (hi:XE X idx fk) (hv:XE X value fv) (hs:swapsWith value (some (.Subscript (.Name x npos) idx tpos)) pos.line X.env=pure false:=by rfl):XS X (.Assign [.Subscript (.Name x npos) idx tpos] value pos) (o5 i fk fv):=⟨TG.Kz hu hx.h hi.h hv.h hs⟩
end
section
variable [aV] {X:Cx} {pos:Pos}
theorem EE {i:Nat} {x:Str} {dp pos':Pos} (hN:X.N.Nodup) (hi:X.N[i]?=some x) (hx:Loc X.env.scope x) (hs:swapsWith (.Dict [] [] dp) (some (.Name x pos')) pos.line X.env=pure false:=by rfl) (hf:X.fn x=true\/X.env.scope.names.lookup x=some .local:=by first | exact .inl rfl | exact .inr rfl | assumption):XS X (.Assign [.Name x pos'] (.Dict [] [] dp) pos) (yp i):=⟨TG.La hN hi hx hs hf⟩
end
section
variable [aV] {X:Cx}
theorem E9 {i:Nat} {x:Str} {ke ve:R4} {fk fv:FX} {npos ap1 cp1 lp ap2 cp2 pos:Pos} (hu:X.A.units+64 < Sy) (hx:XV X (.Name x npos) i) (hke:XE X ke fk) (hve:XE X ve fv) (hn1:noStar ke=true:=by rfl) (hn2:noStar ve=true:=by rfl) (hb1:Su (.Name x npos) "setdefault" X.env (eval (.Name x npos) X.env)=eval (.Name x npos) X.env:=by rfl) (hf1:((backTo cp1 (R5 [ke,.List [] lp] X.env)).all (fun x=>!x.1) && (backToKw cp1 (Sw [] X.env)).all (fun x=>x.1.isSome) && decide (([ke,.List [] lp]:List R4).length+([]:List S3).length+(if ([]:List S3).isEmpty then 0 else 1) < 30))=true:=by rfl) (hl1:(ap1.endLine==cp1.line)=true:=by rfl) (hp1:(backTo cp1 (R5 [.List [] lp] X.env)).any (·.1)=false:=by rfl) (hb2:Su (.Call (.Attribute (.Name x npos) "setdefault" ap1) [ke,.List [] lp] [] cp1) "append" X.env (eval (.Call (.Attribute (.Name x npos) "setdefault" ap1) [ke,.List [] lp] [] cp1) X.env)=eval (.Call (.Attribute (.Name x npos) "setdefault" ap1) [ke,.List [] lp] [] cp1) X.env:=by rfl) (hf2:((backTo cp2 (R5 [ve] X.env)).all (fun x=>!x.1) && (backToKw cp2 (Sw [] X.env)).all (fun x=>x.1.isSome) && decide (([ve]:List R4).length+([]:List S3).length+(if ([]:List S3).isEmpty then 0 else 1) < 30))=true:=by rfl) (hl2:(ap2.endLine==cp2.line)=true:=by rfl) (hp2:(backTo cp2 (R5 [] X.env)).any (·.1)=false:=by rfl) (hsw:swapsWith (.Call (.Attribute (.Call (.Attribute (.Name x npos) "setdefault" ap1) [ke,.List [] lp] [] cp1) "append" ap2) [ve] [] cp2) none pos.line X.env=pure false:=by rfl):XS X (.Expr (.Call (.Attribute (.Call (.Attribute (.Name x npos) "setdefault" ap1) [ke,.List [] lp] [] cp1) "append" ap2) [ve] [] cp2) pos) (Bs i fk fv):=⟨TG.MA hu hx.h hke.h hve.h hn1 hn2 hb1 hf1 hl1 hp1 hb2 hf2 hl2 hp2 hsw⟩
end
section
variable [aV] {X:Cx}
theorem qb {o:R4} {es:List R4} {k:Nat} {tpos:Pos} {f:FX} {apos cpos:Pos} (ho:XE X o f) (hbase:Su o "items" X.env (eval o X.env)=eval o X.env:=by rfl) (hline:(apos.endLine==cpos.line)=true:=by rfl):XI X (.Tuple es k tpos) (.Call (.Attribute o "items" apos) [] [] cpos) (lI f):=⟨TG.Js ho.h hbase hline⟩
end
section
variable [aV]
theorem Bk {X:Cx} {st:List R6} {F:cn} (i:Nat) (h:y8 X st F):y8 X st (vE i F):=⟨TG.JG i h.h⟩
end
section
variable [aV] {X:Cx}
theorem Fk {o e:R4} {fo fk:FX} {pos:Pos} (hu:X.A.units+64 < Sy) (ho:XE X o fo) (hi:XE X e fk) (hs:Fi e):XE X (.Subscript o e pos) (f2 zu fo fk):=⟨TG.Mf hu ho.h hi.h hs⟩
end
section
variable [aV]
theorem GL {X:Cx} {i:Nat} {x:Str} {e:R4} {f:FX} {npos apos cpos pos:Pos} (hx:XV X (.Name x npos) i) (he:XN X e f) (hns:noStar e=true:=by rfl) (hbase:Su (.Name x npos) "extend" X.env (eval (.Name x npos) X.env)=eval (.Name x npos) X.env:=by rfl) (hfew:((backTo cpos (R5 [e] X.env)).all (fun x=>!x.1) && (backToKw cpos (Sw [] X.env)).all (fun x=>x.1.isSome) && decide (([e]:List R4).length+([]:List S3).length+(if ([]:List S3).isEmpty then 0 else 1) < 30))=true:=by rfl) (hline:(apos.endLine==cpos.line)=true:=by rfl) (hplain:(backTo cpos (R5 [] X.env)).any (·.1)=false:=by rfl) (hsw:swapsWith (.Call (.Attribute (.Name x npos) "extend" apos) [e] [] cpos) none pos.line X.env=pure false:=by rfl):XS X (.Expr (.Call (.Attribute (.Name x npos) "extend" apos) [e] [] cpos) pos) (C6 i f):=⟨TG.LY hx.h he.h hns hbase hfew hline hplain hsw⟩
end
abbrev Lk (K:QN) (f:RP) (nm qual:Str) (st:R6) (oc:RM) (od:Option RP) (kV dc pm:RM) (an:Option RP) (cd ct:RM) (sl:Array (Option RM)):Prop:=K.lookup f=some ⟨oc,od,.func (Q2 nm qual (nK st) (fg st) (ax st) .none kV dc pm an cd ct),sl⟩
structure cI (P:RO) (w:RN) (K:QN) (mg:Str->Option RM) (base:RT) (k:Nat) (N:List Str) (qual:Str) (st:R6) (f:RP) (B:cn):Prop where
 h:∀ (cdv:RM) (A:RZ) (outer:List Env) (s:R0) (H:Hp) (E:XK),fX k (A.deeper (Rw qual (ax st) s.heap.objs.size f cdv))->Sg (model P w) (A.deeper (Rw qual (ax st) s.heap.objs.size f cdv)) (Rw qual (ax st) s.heap.objs.size f cdv) (jW (oa P w) P w K mg base N qual (ax st) f cdv A outer s H E).xe ->
  y8 (jW (oa P w) P w K mg base N qual (ax st) f cdv A outer s H E) (fg st) B
structure Eo (P:RO) (w:RN) (K:QN) (mg:Str->Option RM) (base:RT) (k:Nat) (N:List Str) (qual:Str) (st:R6) (f:RP) (B:cn):Prop where
 h:∀ (cdv:RM) (A:RZ) (outer:List Env) (s:R0) (H:Hp) (E:XK),vy K f cdv->fX k (A.deeper (Rw qual (ax st) s.heap.objs.size f cdv))->Sg (model P w) (A.deeper (Rw qual (ax st) s.heap.objs.size f cdv)) (Rw qual (ax st) s.heap.objs.size f cdv) (jW (oa P w) P w K mg base N qual (ax st) f cdv A outer s H E).xe ->
  y8 (jW (oa P w) P w K mg base N qual (ax st) f cdv A outer s H E) (fg st) B
theorem Eo.ok {P:RO} {w:RN} {K:QN} {mg:Str->Option RM} {base:RT} {k:Nat} {N:List Str} {qual:Str} {st:R6} {f:RP} {B:cn} (h:Eo P w K mg base k N qual st f B):wB P w K mg base k N qual st f B:=⟨fun cdv A outer s H E hc hr hp=>(h.h cdv A outer s H E hc hr hp).h⟩
theorem cI.ok {P:RO} {w:RN} {K:QN} {mg:Str->Option RM} {base:RT} {k:Nat} {N:List Str} {qual:Str} {st:R6} {f:RP} {B:cn} (h:cI P w K mg base k N qual st f B):BodyOk P w K mg base k N qual st f B:=⟨fun cdv A outer s H E hr hp=>(h.h cdv A outer s H E hr hp).h⟩
end TX
namespace TG
open L2
instance (priority:=low) noTabs:aV:=⟨fun _=>True,fun _ _=>trivial,fun _ _ _=>trivial⟩
end TG
namespace TG
open PySem PySem.Spec L2
theorem nr {α:Sort _} {a b:α} (h:a=b):a=b:=h
theorem cT {α β:Type} (a:α) (f:α->R β):Except.bind (Except.ok a:R α) f=f a:=nr rfl
theorem vk {α β:Type} (x:Option Ex) (f:α->R β):Except.bind (Except.error x:R α) f=.error x:=nr rfl
theorem q5 {α:Type} (a:α) (k:Ks) (ρ:aq) (f:α->R D):uj (.ok a) k ρ f=f a:=nr rfl
theorem vv {α:Type} (x:Ex) (k:Ks) (ρ:aq) (f:α->R D):uj (.error (some x)) k ρ f=k.ex x ρ:=nr rfl
theorem iQ {α:Type} (a:α):Bo (.ok a:R α)=.ok a:=nr rfl
theorem eQ {α:Type} (a:α):rO (some a)=.ok a:=nr rfl
theorem ge_0 (d:D) (ρ:aq):ui (some (.val d)::ρ) 0=.ok d:=nr rfl
theorem Bz (x:Option S) (ρ:aq) (i:Nat):ui (x::ρ) (i+1)=ui ρ i:=by
 unfold ui; rw [Py]
theorem pU (i:Nat) (ρ:aq):ah i ρ=ui ρ i:=nr rfl
theorem Cp (d:D) (ρ:aq):fC d ρ=.ok d:=nr rfl
theorem pL (ρ:aq):aw ρ=.ok []:=nr rfl
theorem mS (f:FX) (g:aq->R (List D)) (ρ:aq):af f g ρ=(f ρ).bind fun x=>(g ρ).bind fun xs=>.ok (x::xs):=nr rfl
theorem pM (g:aq->R (List D)) (ρ:aq):dG g ρ=(g ρ).bind fun xs=>rO (vt xs):=nr rfl
theorem qm (g:aq->R (List D)) (ρ:aq):jp g ρ=(g ρ).bind fun xs=>rO (kK xs):=nr rfl
theorem CL (g:D->Option D) (f:FX) (ρ:aq):f1 g f ρ=(f ρ).bind fun a=>rO (g a):=nr rfl
theorem CP (g:D->D->Option D) (f h:FX) (ρ:aq):f2 g f h ρ=(f ρ).bind fun a=>(h ρ).bind fun b=>rO (g a b):=nr rfl
theorem CI (f:FX) (ρ:aq):fB f ρ=(f ρ).bind fun d=>rO (Mz d):=nr rfl
theorem CK (g:List D->Option D) (f:aq->R (List D)) (ρ:aq):fL g f ρ=(f ρ).bind fun ds=>rO (g ds):=nr rfl
theorem CD (g:List D->R D) (f:aq->R (List D)) (ρ:aq):fR g f ρ=(f ρ).bind g:=nr rfl
theorem qL (f:aq->R Bool) (ρ:aq):zN f ρ=(f ρ).bind fun b=>.ok (!b):=nr rfl
theorem p5 (f g:aq->R Bool) (ρ:aq):MT f g ρ=(f ρ).bind fun b=>if b then g ρ else .ok false:=nr rfl
theorem vN (f g:aq->R Bool) (ρ:aq):G4 f g ρ=(f ρ).bind fun b=>if b then .ok true else g ρ:=nr rfl
theorem kz (f:FX) (ρ:aq):iN f ρ=(f ρ).bind fun d=>rO (truth d):=nr rfl
theorem mY (f g:FX) (ρ:aq):o0 f g ρ=(f ρ).bind fun d=>zi d (g ρ):=nr rfl
theorem qK (f g:FX) (ρ:aq):Mg f g ρ=(f ρ).bind fun d=>JL d (g ρ):=nr rfl
theorem nD (f:FX) (ρ:aq):J1 f ρ=(f ρ).bind fun a=>rO (zj a):=nr rfl
theorem vf (t:aq->R Bool) (f g:FX) (ρ:aq):NM t f g ρ=(t ρ).bind fun c=>if c then f ρ else g ρ:=nr rfl
theorem ql (T:String) (f:FX) (ρ:aq):rp T f ρ=(f ρ).bind fun a=>rO (oS T a):=nr rfl
theorem pZ (f:FX) (ρ:aq):MC f ρ=(f ρ).bind fun a=>.ok (.bl (isNon a)):=nr rfl
theorem nY (f:FX) (ρ:aq):Kp f ρ=(f ρ).bind fun a=>.ok (.bl (!isNon a)):=nr rfl
theorem pX (f:FX) (ρ:aq):zI f ρ=(f ρ).bind fun a=>rO (IU a):=nr rfl
theorem j7 (f:FX) (ρ:aq):HY f ρ=(f ρ).bind fun a=>rO (DW a):=nr rfl
theorem qa (f:FX) (ρ:aq):M5 f ρ=(f ρ).bind fun a=>rO (HE a):=nr rfl
theorem kC (g g':D->D->Option D) (fa fb fc:FX) (ρ:aq):Ia g g' fa fb fc ρ=(fa ρ).bind fun x=>(fb ρ).bind fun y=>(rO (g x y)).bind fun z=>zi z ((fc ρ).bind fun w=>rO (g' y w)):=nr rfl
theorem jZ (f:FX) (ρ:aq):bR f ρ=(f ρ).bind fun d=>rO (pY d):=nr rfl
theorem jg (f:aq->R (List D)) (ρ:aq):h7 f ρ=(f ρ).bind fun ds=>rO (lx ds):=nr rfl
theorem je (f:aq->R (List D)) (ρ:aq):rH f ρ=(f ρ).bind fun ds=>rO (rJ ds):=nr rfl
theorem qF (f:aq->R (List D)) (ρ:aq):EX f ρ=(f ρ).bind fun ds=>rO (BO ds):=nr rfl
theorem ng (f:aq->R (List D)) (ρ:aq):e7 f ρ=(f ρ).bind fun ds=>rO (vU ds):=nr rfl
theorem qi (z:Str):NB (.str z)=some z:=nr rfl
theorem jd (ρ:aq):bA ρ=.ok none:=nr rfl
theorem nu (f:FX) (ρ:aq):cM f ρ=(f ρ).bind fun d=>rO (zA d):=nr rfl
theorem kc (f:FX) (l h:aq->R (Option Int)) (ρ:aq):bN f l h ρ=(f ρ).bind fun a=>(l ρ).bind fun lo=>(h ρ).bind fun hi=>rO (tE a lo hi):=nr rfl
theorem nz (ρ:aq):fA ρ=.ok true:=nr rfl
theorem nJ (k:Ks) (ρ:aq):cW k ρ=k.nx ρ:=nr rfl
theorem ie (A B:cn) (k:Ks) (ρ:aq):aM A B k ρ=A { k with nx:=B k } ρ:=nr rfl
theorem nT (f:FX) (k:Ks) (ρ:aq):bQ f k ρ=uj (f ρ) k ρ .ok:=nr rfl
theorem kA (k:Ks) (ρ:aq):JP k ρ=.ok .non:=nr rfl
theorem oN (c:aq->R Bool) (A B:cn) (k:Ks) (ρ:aq):n9 c A B k ρ=uj (c ρ) k ρ fun b=>if b then A k ρ else B k ρ:=nr rfl
theorem nS (i:Nat) (f:FX) (k:Ks) (ρ:aq):bU i f k ρ=uj (f ρ) k ρ fun d=>k.nx (setV i d ρ):=nr rfl
theorem ky (is:List Nat) (F:cn) (k:Ks) (ρ:aq):eR is F k ρ=F k (kill is ρ):=nr rfl
theorem jc (G:aq->R (List D)) (g:GF) (B:cn) (k:Ks) (ρ:aq):jS G g B k ρ=uj (G ρ) k ρ fun ds=>hV g B k ds ρ:=nr rfl
theorem Bl (d:D) (x:Option S) (ρ:aq):setV 0 d (x::ρ)=some (.val d)::ρ:=nr rfl
theorem CG (i:Nat) (d:D) (x:Option S) (ρ:aq):setV (i+1) d (x::ρ)=x::setV i d ρ:=nr rfl
theorem qC (ρ:aq):kill [] ρ=ρ:=nr rfl
theorem nB (i:Nat) (is:List Nat) (ρ:aq):kill (i::is) ρ=kill is (ρ.set i none):=nr rfl
theorem tL (B:cn) (n:Nat) (a:D):aN B 1 n [a]=B K0 (env0 n [a]):=nr rfl
theorem eZ (B:cn) (n:Nat) (a b:D):aN B 2 n [a,b]=B K0 (env0 n [a,b]):=nr rfl
theorem pW (B:cn) (n:Nat) (a b c:D):aN B 3 n [a,b,c]=B K0 (env0 n [a,b,c]):=nr rfl
theorem yZ (B:cn) (n:Nat) (a b c d:D):aN B 4 n [a,b,c,d]=B K0 (env0 n [a,b,c,d]):=nr rfl
theorem EC (B:cn) (n:Nat) (a b c d e:D):aN B 5 n [a,b,c,d,e]=B K0 (env0 n [a,b,c,d,e]):=nr rfl
theorem qJ (ρ:aq):inB [] ρ=[]:=nr rfl
theorem nA (ix:List (Option Nat)) (ρ:aq):inB (none::ix) ρ=none::inB ix ρ:=nr rfl
def pick (ρ:aq) (i:Nat):Option S:=match ρ[i]? with
 | some (some (.val d))=>some (.val d)
 | _=>none
theorem mR (i:Nat) (ix:List (Option Nat)) (ρ:aq):inB (some i::ix) ρ=pick ρ i::inB ix ρ:=nr rfl
theorem Ck (d:D) (ρ:aq):pick (some (.val d)::ρ) 0=some (.val d):=rfl
theorem BP (x:Option S) (ρ:aq) (i:Nat):pick (x::ρ) (i+1)=pick ρ i:=by
 unfold pick; rw [Py]
theorem nQ (i:Nat) (f:FX) (k:Ks) (ρ:aq):lW i f k ρ=uj (f ρ) k ρ fun d=>k.nx (ρ.set i (some (.own d))):=nr rfl
theorem nE (i:Nat) (F:cn) (k:Ks) (ρ:aq):iO i F k ρ=F k (frz i ρ):=nr rfl
theorem BR (d:D) (ρ:aq):frz 0 (some (.own d)::ρ)=some (.val d)::ρ:=nr rfl
theorem vI (d:D) (ρ:aq):frz 0 (some (.val d)::ρ)=some (.val d)::ρ:=nr rfl
theorem BK (i:Nat) (x:Option S) (ρ:aq):frz (i+1) (x::ρ)=x::frz i ρ:=by
 unfold frz
 rw [Py]
 split <;> rename_i h
 ·rw [h]; rfl
 ·rfl
theorem lP (i:Nat) (u:List D->List D->Option (List D)) (f:aq->R (List D)) (k:Ks) (ρ:aq) {xs:List D} (h:ρ[i]?=some (some (.own (.lst xs)))):yV i u f k ρ=uj (f ρ) k ρ fun ds=>(rO (u xs ds)).bind fun ys=>k.nx (ρ.set i (some (.own (.lst ys)))):=by
 unfold yV; rw [h]
theorem kQ {xs:List D} {y:D} (h:xs.length < 100000):fT xs [y]=some (xs++[y]):=by
 show (if small (xs.length+1) then some (xs++[y]) else none)=_
 rw [dE ‹0›]; rfl
theorem qw (i j:Int):cq (.int i) (.int j)=some (.int (i+j)):=nr rfl
theorem qG (i j:Int):TG.Ad (.int i) (.int j)=some (.int (i - j)):=nr rfl
theorem vh (i j:Int):NU (.int i) (.int j)=some (.bl (decide (i < j))):=nr rfl
theorem qp (i j:Int):wA (.int i) (.int j)=some (.bl (decide (i < j))):=nr rfl
theorem qE (x y:Str):wA (.str x) (.str y)=some (.bl (decide (x.cps.toList < y.cps.toList))):=nr rfl
theorem qc (c d:Bool):Lr (.bl c) (.bl d)=some (.bl (c==d)):=nr rfl
theorem jh (c d:Bool):jR (.bl c) (.bl d)=some (.bl (!(c==d))):=nr rfl
theorem vF (i j:Int):NX (.int i) (.int j)=some (.bl (decide (i<=j))):=nr rfl
theorem uV (i j:Int):NW (.int i) (.int j)=some (.bl (decide (j < i))):=nr rfl
theorem uW (i j:Int):NS (.int i) (.int j)=some (.bl (decide (j<=i))):=nr rfl
theorem qj (i:Int):IU (.int i)=some (.int (-i)):=nr rfl
theorem cK {i j:Int} (h:0 < j):cX (.int i) (.int j)=some (.int (i%j)):=by
 show (if decide (0 < j) then some (D.int (i%j)) else none)=_
 rw [decide_eq_true h]; rfl
theorem cS {i j:Int} (h:0 < j) (h':j < 10 ^ 200):dY (.int i) (.int j)=some (.int (i / j)):=by
 show (if decide (0 < j/\j < 10 ^ 200) then some (D.int (i / j)) else none)=_
 rw [decide_eq_true ⟨h,h'⟩]; rfl
theorem rX {i j:Int} (h:-(2 ^ 64) < i) (h':i < 2 ^ 64):ph (.int i) (.int j)=some (.int (i*j)):=by
 show (if decide ((-(2 ^ 64) < i/\i < 2 ^ 64)\/(-(2 ^ 64) < j/\j < 2 ^ 64)) then some (D.int (i*j)) else none)=_
 rw [decide_eq_true (.inl ⟨h,h'⟩)]; rfl
theorem rC {i j:Int} (h:-(2 ^ 64) < j) (h':j < 2 ^ 64):ph (.int i) (.int j)=some (.int (i*j)):=by
 show (if decide ((-(2 ^ 64) < i/\i < 2 ^ 64)\/(-(2 ^ 64) < j/\j < 2 ^ 64)) then some (D.int (i*j)) else none)=_
 rw [decide_eq_true (.inr ⟨h,h'⟩)]; rfl
theorem zz (i:Int) (n:Nat) (h:n<=1000000) (h':i.natAbs < 2 ^ 64):rg (.int i) (.int n)=some (.int (i ^ n)):=by
 show (if decide (0<=(n:Int)/\(n:Int)<=1000000/\i.natAbs < 2 ^ 64) then some (D.int (i ^ (n:Int).toNat)) else none)=_
 rw [decide_eq_true ⟨by omega,by omega,h'⟩]; rfl
theorem Dh:rg (.int 10) (.int 59)=some (.int (10 ^ 59)):=zz 10 59 (by decide) (by decide)
def G7:Int:=10 ^ 59
def NA:Int:=10 ^ 60
theorem Jm:1000000 < G7/\G7*10=NA:=by decide +kernel
theorem Ig:rg (.int 10) (.int 59)=some (.int G7):=Dh
theorem j5 (i j:Int):jD (.int i) (.int j)=some (.bl (i==j)):=by unfold jD pyEq; rfl
theorem kr (i j:Str):jD (.str i) (.str j)=some (.bl (i==j)):=by unfold jD pyEq; rfl
theorem j4 (i j:Bool):jD (.bl i) (.bl j)=some (.bl (i==j)):=by unfold jD pyEq; rfl
theorem kj (i j:Int):GN (.int i) (.int j)=some (.bl (!(i==j))):=by unfold GN pyEq; rfl
theorem ku (i j:Str):GN (.str i) (.str j)=some (.bl (!(i==j))):=by unfold GN pyEq; rfl
theorem j6 (i j:Bool):GN (.bl i) (.bl j)=some (.bl (!(i==j))):=by unfold GN pyEq; rfl
theorem Fz {α:Type} (xs:List α) (n:Nat):pF xs (n:Int)=xs[n]?:=by
 unfold pF Ih
 rw [if_pos ‹0›]
 by_cases h:n < xs.length
 ·rw [if_pos ‹0›]; rfl
 ·rw [if_neg ‹0›,Qc ‹0›]; rfl
theorem Cu {α:Type} (a:α) (xs:List α):pF (a::xs) 0=some a:=Fz (a::xs) 0
theorem BA {α:Type} (a:α) (xs:List α) (n:Nat):pF (a::xs) ((n+1:Nat):Int)=pF xs (n:Int):=by
 rw [Fz,Fz,Py]
theorem Iz (xs:List D) (i:Int):bh (.tup xs) (.int i)=pF xs i:=nr rfl
theorem LC (xs:List D) (i:Int):bh (.lst xs) (.int i)=pF xs i:=nr rfl
theorem vY (a:D) (xs:List D):bh (.tup (a::xs)) (.int 0)=some a:=Cu a xs
theorem vW (a b:D) (xs:List D):bh (.tup (a::b::xs)) (.int 1)=some b:=(BA a _ 0).trans (Cu b xs)
theorem vX (a b c:D) (xs:List D):bh (.tup (a::b::c::xs)) (.int 2)=some c:=(BA a _ 1).trans ((BA b _ 0).trans (Cu c xs))
theorem vq (a:D) (xs:List D):bh (.lst (a::xs)) (.int 0)=some a:=Cu a xs
theorem u6 (a b:D) (xs:List D):bh (.lst (a::b::xs)) (.int 1)=some b:=(BA a _ 0).trans (Cu b xs)
theorem uS (a b c:D) (xs:List D):bh (.lst (a::b::c::xs)) (.int 2)=some c:=(BA a _ 1).trans ((BA b _ 0).trans (Cu c xs))
theorem kN (xs:List D):iy [.lst xs]=some (.int xs.length):=nr rfl
theorem kM (xs:List D):iy [.tup xs]=some (.int xs.length):=nr rfl
theorem gR (xs:List D):cy [.lst xs]=some (.tup xs):=nr rfl
theorem gP (xs:List D):cy [.tup xs]=some (.tup xs):=nr rfl
theorem pG (b:Bool):Mz (.bl b)=some b:=nr rfl
theorem jf (i:Int):zA (.int i)=some (some i):=nr rfl
theorem gK (b:Bool):truth (.bl b)=some b:=nr rfl
theorem hX (xs:List D):truth (.tup xs)=some (!xs.isEmpty):=nr rfl
theorem gS (xs:List D):truth (.lst xs)=some (!xs.isEmpty):=nr rfl
theorem lu (i j:Int):tG [.int i,.int j]=some (.int (if j > i then j else i)):=nr rfl
theorem mQ (i j:Int):yy [.int i,.int j]=some (.int (if j < i then j else i)):=nr rfl
theorem C7 (b:Bool):AC [.bl b]=some (.int (if b then 1 else 0)):=nr rfl
theorem hU (xs:List D):pY (.lst xs)=some xs:=nr rfl
theorem gW (xs:List D):pY (.tup xs)=some xs:=nr rfl
theorem kE (k:R D):zi (.bl true) k=k:=nr rfl
theorem kF (k:R D):zi (.bl false) k=.ok (.bl false):=nr rfl
theorem ny (k:R D):JL (.bl true) k=.ok (.bl true):=nr rfl
theorem mV (k:R D):JL (.bl false) k=k:=nr rfl
theorem ko (a b:Bool):zi (.bl a) (.ok (.bl b))=.ok (.bl (a && b)):=by cases a <;> rfl
theorem nh (a b:Bool):JL (.bl a) (.ok (.bl b))=.ok (.bl (a || b)):=by cases a <;> rfl
theorem qy (b:Bool):zj (.bl b)=some (.bl (!b)):=nr rfl
theorem p9 (xs:List D):HE (.lst xs)=some (.lst xs.reverse):=nr rfl
theorem j3 (n:Nat) (h:n < 2 ^ 62):lx [.int n]=some (fG 0 n):=by
 show (if okR (n:Int) then some (fG 0 ((n:Int).toNat)) else none)=_
 have:okR (n:Int)=true:=decide_eq_true ⟨by omega,by omega⟩
 rw [this]; rfl
theorem Ip {xs:List D} (h:xs.length<=100000):kK xs=some (.lst xs):=by unfold kK; rw [dE h]; rfl
theorem D5 (xs ys:List D) (h:xs.length+ys.length<=100000):cq (.lst xs) (.lst ys)=some (.lst (xs++ys)):=by
 show (if small (xs.length+ys.length) then some (D.lst (xs++ys)) else none)=_
 rw [dE h]; rfl
theorem gD (xs ys:List D) (h:xs.length+ys.length<=100000):cq (.tup xs) (.tup ys)=some (.tup (xs++ys)):=by
 show (if small (xs.length+ys.length) then some (D.tup (xs++ys)) else none)=_
 rw [dE h]; rfl
theorem mX (xs:List D) (lo hi:Option Int):tE (.lst xs) lo hi=some (.lst (cutD xs lo hi)):=nr rfl
theorem nR (xs:List D) (lo hi:Option Int):tE (.tup xs) lo hi=some (.tup (cutD xs lo hi)):=nr rfl
theorem fM {ix:List (Option Nat)} {G:aq->R (List D)} {g:GF} {C:aq->R Bool} {Fe:FX} {ρ:aq} {ds r:List D} (h1:G ρ=.ok ds) (h2:ds.length<=100000) (h3:zt (inB ix ρ) g C Fe ds=.ok r):jV ix G g C Fe ρ=.ok (.lst r):=by
 unfold jV
 rw [h1,cT,dE h2,h3]; rfl
theorem ua {α:Type} {ρ:aq} {g:GF} {C:aq->R Bool} {Fe:FX} (mk:α->D) (p:α->Bool) (v:α->D):∀ xs:List α,(∀ a∈xs,∃ ρ1,g (mk a) ρ=some ρ1/\C ρ1=.ok (p a)/\Fe ρ1=.ok (v a)) ->
  zt ρ g C Fe (xs.map mk)=.ok ((xs.filter p).map v)
 | [],_=>rfl
 | a::xs,h=>by
  obtain⟨ρ1,h1,h2,h3⟩:=h a N4
  rw [Oi,mh,h1,eQ,cT,h2,iQ,cT,h3,iQ,cT,ua mk p v xs fun b hb=>h b (N5 _ hb)]
  cases e:p a with
  | true=>rw [if_pos rfl,P0 e]; rfl
  | false=>rw [if_neg Og,P4 (by simp [e])]
theorem nM {α:Type} {ρ:aq} {g:GF} {C:aq->R Bool} {Fe:FX} (mk:α->D) (v:α->D) (xs:List α) (h:∀ a∈xs,∃ ρ1,g (mk a) ρ=some ρ1/\C ρ1=.ok true/\Fe ρ1=.ok (v a)):zt ρ g C Fe (xs.map mk)=.ok (xs.map v):=by
 rw [ua mk (fun _=>true) v xs h,List.filter_eq_self.mpr fun _ _=>rfl]
theorem AO {g:GF} {B:cn} {k:Ks} (Iv:Nat->aq->Prop):∀ (ds:List D) (i:Nat) (ρ:aq),(∀ j d ρ (k':Ks),i<=j->ds[j - i]?=some d->Iv j ρ->∃ ρ1 ρ2,g d ρ=some ρ1/\Iv (j+1) ρ2/\B k' ρ1=k'.nx ρ2)->Iv i ρ->∃ ρ',Iv (i+ds.length) ρ'/\hV g B k ds ρ=k.nx ρ'
 | [],i,ρ,_,h=>⟨ρ,h,rfl⟩
 | d::ds,i,ρ,st,h=>by
  obtain⟨ρ1,ρ2,e1,h2,e2⟩:=st i d ρ ⟨hV g B k ds,k.nx,hV g B k ds,k.ex⟩ (Oa _) (by rw [PL]; rfl) h
  obtain⟨ρ',h3,e3⟩:=AO (g:=g) (B:=B) (k:=k) Iv ds (i+1) ρ2 (fun j d' ρ k' hj hd=>st j d' ρ k' ‹0› (by rw [show j - i=(j - (i+1))+1 by omega,Py]; exact hd)) h2
  refine⟨ρ',?_,?_⟩
  ·rw [Oh]
   have:i+(ds.length+1)=i+1+ds.length:=by omega
   rw [this]; exact h3
  ·show ((rO (g d ρ)).bind fun ρ1=>B ⟨hV g B k ds,k.nx,hV g B k ds,k.ex⟩ ρ1)=_
   rw [e1,eQ,cT,e2]
   exact e3
theorem eL {g:GF} {B:cn} {k:Ks} {ds:List D} {ρ:aq} {Q:R D->Prop} (Iv:Nat->aq->Prop) (st:∀ i d ρ (k':Ks),ds[i]?=some d->Iv i ρ->∃ ρ1 ρ2,g d ρ=some ρ1/\Iv (i+1) ρ2/\B k' ρ1=k'.nx ρ2) (h:Iv 0 ρ) (q:∀ ρ',Iv ds.length ρ'->Q (k.nx ρ')):Q (hV g B k ds ρ):=by
 obtain⟨ρ',h1,e⟩:=AO (k:=k) Iv ds 0 ρ (fun j d ρ k' _ hd=>st j d ρ k' hd) h
 rw [e]; rw [PD] at h1; exact q ρ' h1
theorem cp {α:Type} {xs:List α} {i:Nat} {a:α} (h:xs[i]?=some a):i < xs.length:=by
 rcases Qb i xs.length with z | z
 ·exact z
 ·rw [Qc z] at h; cases h
theorem AI {α β:Type} (f:α->β) (xs:List α) (i:Int):pF (xs.map f) i=(pF xs i).map f:=by
 unfold pF
 rw [Oj]
 cases Ih xs.length i with
 | none=>rfl
 | some j=>simp
theorem tB {α:Type} {xs:List α} {k:Nat} (h:k < xs.length):pF xs (k:Int)=some xs[k]:=by
 unfold pF Ih
 rw [if_pos ‹0›,if_pos ‹0›]
 simp [h]
theorem rW {α:Type} {xs:List α} {i:Int} (h0:0<=i) (h:i < xs.length):pF xs i=some (xs[i.toNat]'‹0›):=by
 have e:i=((i.toNat:Nat):Int):=by omega
 conv=>lhs; rw [e]
 exact tB ‹0›
def G0:cn:=aM (n9 (fB (f2 wA (ah 1) (fL iy (af (ah 0) (aw))))) (bQ (f2 bh (ah 0) (ah 1))) (cW)) (bQ (fC (.int 0)))
theorem Gr (ns:List Int) (k:Nat):aN G0 2 2 [.lst (ns.map .int),.int k]=.ok (.int (ns.getD k 0)):=by
 show (if decide ((k:Int) < ((ns.map D.int).length:Int)) then uj (rO (pF (ns.map D.int) (k:Int))) _ _ .ok else .ok (.int 0))=_
 rw [Oj]
 by_cases h:k < ns.length
 ·rw [if_pos (by simpa using h),AI,tB h,Option.map_some,P7,O6 h]; rfl
 ·rw [if_neg (by simpa using h),P7,Qc ‹0›]; rfl
theorem Dp (ns:List Int) (i:Int) (h:0<=i):∃ c:Int,aN G0 2 2 [.lst (ns.map .int),.int i]=.ok (.int c):=by
 have e:i=((i.toNat:Nat):Int):=by omega
 exact⟨ns.getD i.toNat 0,by rw [e]; exact Gr ns i.toNat⟩
theorem AF (x y:Str):(x++y).length=x.length+y.length:=by
 show (x.cps++y.cps).size=_
 rw [Array.size_append]; rfl
theorem mK (x y:Str) (h:x.length<=1000) (h':y.length<=1000):cq (.str x) (.str y)=some (.str (x++y)):=by
 show (if small (x.length+y.length) then some (D.str (x++y)) else none)=_
 rw [dE ‹0›]; rfl
theorem Aq (x:Str) (h:x.length<=1000) (i:Int) (h0:0<=i) (h1:i < x.length):∃ y:Str,y.length=1/\bh (.str x) (.int i)=some (.str y):=by
 have hl:x.cps.toList.length=x.length:=by simp [Str.length]
 have hi:i < x.cps.toList.length:=by omega
 refine⟨⟨#[x.cps.toList[i.toNat]'‹0›]⟩,rfl,?_⟩
 show (if small x.length then (pF x.cps.toList i).bind fun c=>some (D.str ⟨#[c]⟩) else none)=_
 rw [dE ‹0›,if_pos rfl,rW h0 hi]; rfl
theorem kJ (lo:Int) (n:Nat):fG lo n=(List.range n).map fun (k:Nat)=>D.int (lo+(k:Int)):=nr rfl
theorem de (lo:Int) (n:Nat):(fG lo n).length=n:=by unfold fG; rw [Oj,Pk]
theorem oF {α:Type} (xs:List α) (m:Nat):cutD xs none (some (m:Int))=xs.take m:=by
 unfold cutD
 rw [HT.JY,HT.KU,O2,Pm]
 rcases Qf m xs.length with h | h
 ·rw [Qg h]
 ·rw [Qh h,Qd h,Qd (Oa _)]
theorem xU {α:Type} (xs:List α) (m:Nat):cutD xs (some (m:Int)) none=xs.drop m:=by
 unfold cutD
 rw [HT.JY,HT.KU]
 rcases Qf m xs.length with h | h
 ·rw [Qg h]
  exact Qd (by rw [OC]; exact Oa _)
 ·rw [Qh h,PL,OZ,Qk h]
theorem v7 (ρ:aq):vM ρ=.ok (.dct [] []):=nr rfl
theorem oR (q:List Key):iX (.tup (q.map bu))=some q:=cw q
theorem Bf {i:Nat} {fk fv:FX} {k:Ks} {ρ:aq} {al:List (List Key×D)} {q:List Key} {v:D} (h:ρ[i]?=some (some (.own (cO al)))) (ek:fk ρ=.ok (.tup (q.map bu))) (ev:fv ρ=.ok v) (hl:al.length<=100000):sE i fk fv k ρ=k.nx (ρ.set i (some (.own (cO (gX al q v))))):=by
 have e:vo (encK al) (al.map (·.2)) (.tup (q.map bu)) v=some (gX al q v):=by
  unfold vo
  rw [jA]
  show (iX (.tup (q.map bu))).bind _=_
  rw [oR]
  show (if small al.length then _ else _)=_
  rw [dE hl]; rfl
 unfold sE
 rw [h]
 show uj ((fv ρ).bind fun v=>(fk ρ).bind fun q=>rO (vo (encK al) (al.map (·.2)) q v)) k ρ _=_
 rw [ev,cT,ek,cT,e]; rfl
theorem yM {α:Type} (xs:List α) (a:α):cutD (xs++[a]) none (some (-1))=xs:=by
 unfold cutD
 have e:HT.sIx (xs++[a]).length (xs++[a]).length (some (-1))=xs.length:=by
  show (if (-1:Int) < 0 then ((-1:Int)+((xs++[a]).length:Int)).toNat else min (-1:Int).toNat (xs++[a]).length)=_
  rw [if_pos (by decide),OA,OH]; omega
 rw [HT.JY,e,O2,Pm,Ql]
theorem wa:∀ {σ τ:List Bool} {a b:List D},Sh σ a->Sh τ b->Sh (σ++τ) (a++b)
 | _,_,_,_,.nil,h=>h
 | _,_,_,_,.int i h,h'=>.int i (wa h h')
 | _,_,_,_,.str i h,h'=>.str i (wa h h')
end TG
namespace TG
open PySem PySem.Spec L2
local macro_rules
 | `(tactic| simp! only [$xs,*])=>`(tactic| simp only [cT,vk,q5,vv,iQ,eQ,ge_0,Bz,pU,Cp,pL,mS,pM,qm,CL,CP,CI,CK,CD,qL,p5,vN,kz,mY,qK,nD,vf,ql,pZ,nY,pX,j7,qa,kC,jZ,jg,je,qF,ng,jd,nu,kc,nz,nJ,ie,nT,kA,oN,nS,ky,jc,nQ,nE,BR,vI,BK,Bl,CG,qC,nB,qJ,nA,mR,Ck,BP,Qm,Qn,Oi,OJ,OY,Pb,K0,env0,List.replicate,PN,Oo,PD,Nat.reduceAdd,Nat.reduceSub,Oh,OO,qw,qG,vh,qp,qE,qc,jh,qi,vF,uV,uW,qj,j5,kr,j4,kj,ku,j6,vY,vW,vX,vq,u6,uS,kN,kM,gR,gP,pG,jf,gK,hX,gS,lu,mQ,hU,gW,kE,kF,ny,mV,ko,nh,qy,p9,mX,nR,gN,if_true,if_false,Qo,Qp,OW,$xs,*])
theorem Lh (a b c:D):vt [a,b,c]=some (.tup [a,b,c]):=nr rfl
theorem DP (a b:D):vt [a,b]=some (.tup [a,b]):=nr rfl
theorem Jd (a:D):vt [a]=some (.tup [a]):=nr rfl
theorem Ja:vt []=some (.tup []):=nr rfl
theorem MZ (a:D):kK [a]=some (.lst [a]):=nr rfl
theorem Ny (a b:D):kK [a,b]=some (.lst [a,b]):=nr rfl
theorem IY:kK []=some (.lst []):=nr rfl
end TG
namespace TG
open PySem PySem.Spec L2
def AG (m:Nat) (rows:List (List D)):Prop:=rows.Pairwise fun r s=>eI (r.take m) (s.take m)=some true
inductive F2 {α β:Type} (R:α->β->Prop):List α->List β->Prop where
 | nil:F2 R [] []
 | cons {a:α} {b:β} {as:List α} {bs:List β} (h:R a b) (t:F2 R as bs):F2 R (a::as) (b::bs)
theorem DM {ρ:aq} {g:GF} {C:aq->R Bool} {Fe:FX}:∀ (ds:List D) (P:Nat->D->Prop),(∀ i d,ds[i]?=some d->∃ ρ1 v,g d ρ=some ρ1/\C ρ1=.ok true/\Fe ρ1=.ok v/\P i v)->∃ vs:List D,vs.length=ds.length/\(∀ i v,vs[i]?=some v->P i v)/\zt ρ g C Fe ds=.ok vs
 | [],_,_=>⟨[],rfl,(fun _ _ h=>nomatch h),rfl⟩
 | d::ds,P,h=>by
  obtain⟨ρ1,w,h1,h2,h3,h4⟩:=h 0 d rfl
  obtain⟨ws,e1,e2,e3⟩:=DM (ρ:=ρ) (g:=g) (C:=C) (Fe:=Fe) ds (fun i v=>P (i+1) v) fun i d' hd=>h (i+1) d' (by rw [Py]; exact hd)
  refine⟨w::ws,by rw [Oh,Oh,e1],fun i v hv=>?_,?_⟩
  ·cases i with
   | zero=>cases hv; exact h4
   | succ i=>rw [Py] at hv; exact e2 i v hv
  ·rw [mh,h1,eQ,cT,h2,iQ,cT,h3,iQ,cT,e3]; rfl
theorem sS:∀ {σ:List Bool} {a b:List D},Sh σ a->Sh σ b->(fZ a b=true↔a=b)
 | _,_,_,.nil,.nil=>by unfold fZ; simp
 | _,_,_,.int i h,.int j h'=>by
  unfold fZ pyEq
  rw [OD,sS h h']
  simp
 | _,_,_,.str i h,.str j h'=>by
  unfold fZ pyEq
  rw [OD,sS h h']
  simp
theorem vz:∀ {σ:List Bool} {a:List D},Sh σ a->m7 a=true
 | _,_,.nil=>rfl
 | _,_,.int i h=>by
  show (pl (.int i) && m7 _)=true
  rw [vz h]; rfl
 | _,_,.str i h=>by
  show (pl (.str i) && m7 _)=true
  rw [vz h]; rfl
theorem xq:∀ {σ:List Bool} {a:List D} (n:Nat),Sh σ a->a.all (dN (n+1))=true
 | _,_,_,.nil=>rfl
 | _,_,n,.int i h=>by rw [O5,xq n h]; rfl
 | _,_,n,.str i h=>by rw [O5,xq n h]; rfl
end TG
namespace TD
open PySem PySem.Spec L2 TG TX
def dJ:cn:=aM (n9 (fB (f2 wA (ah 1) (fL iy (af (ah 0) (aw))))) (bQ (f2 bh (ah 0) (ah 1))) (cW)) (bQ (fC (.int 0)))
def jB:cn:=bQ (fL cy (af (jV [none] (bR (f2 cq (f2 bh (ah 0) (fC (.int 0))) (f2 bh (ah 0) (fC (.int 1))))) (gN 0) (fA) (f2 bh (ah 0) (fC (.int 0)))) (aw)))
def jC:cn:=aM (jS (e7 (af (fR (aN jB 1 1) (af (ah 0) (aw))) (aw))) (gT 2 (oA [2,3])) (aM (n9 (fB (f2 jD (ah 3) (ah 1))) (bQ (ah 2)) (cW)) (eR [2,3] cW))) (DA)
def kL:cn:=bQ (f2 bh (f2 bh (f2 cq (f2 bh (ah 0) (fC (.int 0))) (f2 bh (ah 0) (fC (.int 1)))) (ah 1)) (fC (.int 1)))
def aR:cn:=bQ (f2 cX (f2 cq (f2 cq (f2 ph (ah 0) (ah 0)) (f2 ph (fC (.int 48271)) (ah 0))) (fC (.int 11))) (fC (.int 2147483647)))
def cH:cn:=aM (bU 2 (f2 cX (f2 cq (f2 cq (f2 cX (fR (aN dJ 2 2) (af (ah 0) (af (ah 1) (aw)))) (fC (.int 2147483647))) (f2 ph (f2 ph (fC (.int 69621)) (ah 1)) (ah 1))) (fC (.int 5))) (fC (.int 2147483647)))) (bQ (fR (aN aR 1 1) (af (fR (aN aR 1 1) (af (ah 2) (aw))) (aw))))
def cx:cn:=aM (bU 2 (fC (.str "abcdefghijklmnopqrstuvwxyz"))) (aM (bU 1 (f2 cX (f2 cq (f2 ph (ah 1) (f2 bh (jp (af (fC (.int 1)) (af (fC (.int 5)) (af (fC (.int 7)) (af (fC (.int 11)) (af (fC (.int 13)) (af (fC (.int 23)) (aw)))))))) (f2 cX (ah 0) (fC (.int 6))))) (f2 dY (ah 0) (fC (.int 6)))) (fC (.int 24)))) (aM (bU 0 (f2 dY (ah 0) (fC (.int 144)))) (aM (n9 (fB (f2 jD (f2 cX (ah 0) (fC (.int 3))) (fC (.int 0)))) (bQ (f2 yS (f2 bh (ah 2) (f2 cX (f2 cq (f2 dY (ah 0) (fC (.int 3))) (f2 dY (ah 1) (fC (.int 8)))) (fC (.int 26)))) (f2 cq (fC (.int 1)) (f2 cX (ah 1) (fC (.int 8)))))) (cW)) (aM (bU 3 (f2 cq (fC (.int 1)) (f2 cX (f2 dY (ah 0) (fC (.int 3))) (fC (.int 8))))) (aM (bU 4 (fC (.str ""))) (aM (jS (h7 (af (ah 3) (aw))) (gN 5) (aM (bU 6 (f2 dY (ah 0) (f2 cq (fC (.int 24)) (f2 ph (f2 ph (fC (.int 11)) (ah 5)) (ah 5))))) (aM (n9 (fB (f2 jD (ah 5) (f2 cX (f2 dY (ah 0) (fC (.int 24))) (ah 3)))) (bU 6 (f2 cq (ah 6) (ah 1))) (cW)) (aM (bU 4 (f2 cq (ah 4) (f2 bh (ah 2) (f2 cX (ah 6) (fC (.int 26)))))) (eR [5,6] cW))))) (bQ (ah 4))))))))
noncomputable def cP:cn:=aM (n9 (fB (f2 wA (f2 cX (ah 0) (fC (.int 3))) (fC (.int 2)))) (aM (bU 1 (f2 bh (jp (af (fC (.int 0)) (af (zI (fC (.int 3))) (af (f2 Ad (fC (.int 0)) (f2 cX (f2 rg (ah 0) (fC (.int 7))) (f2 rg (fC (.int 10)) (fC (.int 59))))) (af (f2 cX (f2 rg (ah 0) (fC (.int 7))) (f2 rg (fC (.int 10)) (fC (.int 59)))) (aw)))))) (f2 cX (f2 dY (ah 0) (fC (.int 3))) (fC (.int 4))))) (bQ (dG (af (fC (.str "number")) (af (ah 1) (af (f2 cq (ah 1) (f2 bh (jp (af (fC (.int 0)) (af (fC (.int 1)) (af (fC (.int 6)) (af (f2 rg (fC (.int 10)) (fC (.int 59))) (aw)))))) (f2 cX (f2 dY (ah 0) (fC (.int 12))) (fC (.int 4))))) (aw))))))) (cW)) (aM (bU 2 (fC (.str "abcdefghijklmnopqrstuvwxyz"))) (aM (bU 3 (f2 bh (ah 2) (f2 cX (f2 dY (ah 0) (fC (.int 3))) (fC (.int 26))))) (aM (bU 4 (f2 bh (ah 2) (f2 cX (f2 dY (ah 0) (fC (.int 78))) (fC (.int 26))))) (aM (bU 5 (jp (af (fC (.str "")) (af (ah 3) (af (ah 4) (af (f2 cq (ah 3) (ah 4)) (af (f2 cq (ah 4) (ah 3)) (af (f2 yS (ah 3) (fC (.int 8))) (af (f2 cq (ah 3) (ah 3)) (af (f2 yS (ah 4) (fC (.int 3))) (aw))))))))))) (aM (lW 6 vM) (eR [1,2,4] (aM (jS (h7 (af (fC (.int 8)) (aw))) (gN 7) (aM (n9 (fB (f2 jD (f2 oY (f2 uJ (f2 dY (ah 0) (fC (.int 2028))) (ah 7)) (fC (.int 1))) (fC (.int 1)))) (o5 6 (f2 bh (ah 5) (ah 7)) (fC (.bl true))) (cW)) (eR [7] cW))) (aM (n9 (kP [6] (fB (f2 jD (fL vA (af (ah 6) (aw))) (fC (.int 0))))) (o5 6 (ah 3) (fC (.bl true))) (cW)) (iO 6 (bQ (dG (af (fC (.str "word")) (af (fL cy (af (fL fJ (af (fL qD (af (ah 6) (aw))) (aw))) (aw))) (aw))))))))))))))
end TD
namespace TD
open PySem PySem.Spec L2 TG
local macro_rules
 | `(tactic| simp! only [$xs,*])=>`(tactic| simp only [cT,vk,q5,vv,iQ,eQ,ge_0,Bz,pU,Cp,pL,mS,pM,qm,CL,CP,CI,CK,CD,qL,p5,vN,kz,mY,qK,nD,vf,ql,pZ,nY,pX,j7,qa,kC,jZ,jg,je,qF,ng,jd,nu,kc,nz,nJ,ie,nT,kA,oN,nS,ky,jc,nQ,nE,BR,vI,BK,Bl,CG,qC,nB,qJ,nA,mR,Ck,BP,Qm,Qn,Oi,OJ,OY,Pb,K0,env0,List.replicate,PN,Oo,PD,Nat.reduceAdd,Nat.reduceSub,Oh,OO,qw,qG,vh,qp,qE,qc,jh,qi,vF,uV,uW,qj,j5,kr,j4,kj,ku,j6,vY,vW,vX,vq,u6,uS,kN,kM,gR,gP,pG,jf,gK,hX,gS,lu,mQ,hU,gW,kE,kF,ny,mV,ko,nh,qy,p9,mX,nR,gN,if_true,if_false,Qo,Qp,OW,$xs,*])
theorem KH (ns:List Int) (i:Int) (h:0<=i):∃ c:Int,aN dJ 2 2 [.lst (ns.map .int),.int i]=.ok (.int c):=Dp ns i h
theorem Bt (xs ys:List D):BO [.tup xs,.tup ys]=some (pD xs ys):=nr rfl
end TD
namespace TD
open PySem PySem.Spec L2 TG
local macro_rules
 | `(tactic| simp! only [$xs,*])=>`(tactic| simp only [cT,vk,q5,vv,iQ,eQ,ge_0,Bz,pU,Cp,pL,mS,pM,qm,CL,CP,CI,CK,CD,qL,p5,vN,kz,mY,qK,nD,vf,ql,pZ,nY,pX,j7,qa,kC,jZ,jg,je,qF,ng,jd,nu,kc,nz,nJ,ie,nT,kA,oN,nS,ky,jc,nQ,nE,BR,vI,BK,Bl,CG,qC,nB,qJ,nA,mR,Ck,BP,Qm,Qn,Oi,OJ,OY,Pb,K0,env0,List.replicate,PN,Oo,PD,Nat.reduceAdd,Nat.reduceSub,Oh,OO,qw,qG,vh,qp,qE,qc,jh,qi,vF,uV,uW,qj,j5,kr,j4,kj,ku,j6,vY,vW,vX,vq,u6,uS,kN,kM,gR,gP,pG,jf,gK,hX,gS,lu,mQ,hU,gW,kE,kF,ny,mV,ko,nh,qy,p9,mX,nR,gN,if_true,if_false,Qo,Qp,OW,$xs,*])
theorem vV {g:GF} {B:cn} {k:Ks} {Q:R D->Prop} (Iv:Nat->aq->Prop):∀ (ds:List D) (o i:Nat) (ρ:aq) (d:D),ds[i]?=some d->(∀ j d ρ (k':Ks),j < i->ds[j]?=some d->Iv (o+j) ρ->∃ ρ1 ρ2,g d ρ=some ρ1/\Iv (o+j+1) ρ2/\B k' ρ1=k'.nx ρ2)->Iv o ρ ->
  (∀ ρ (k':Ks),Iv (o+i) ρ->∃ ρ1,g d ρ=some ρ1/\Q (B k' ρ1))->Q (hV g B k ds ρ)
 | [],_,_,_,_,h,_,_,_=>nomatch h
 | x::ds,o,0,ρ,d,h,_,hI,q=>by
  cases h
  obtain⟨ρ1,e1,q1⟩:=q ρ ⟨hV g B k ds,k.nx,hV g B k ds,k.ex⟩ hI
  show Q ((rO (g x ρ)).bind fun ρ1=>B ⟨hV g B k ds,k.nx,hV g B k ds,k.ex⟩ ρ1)
  rw [e1,eQ,cT]
  exact q1
 | x::ds,o,i+1,ρ,d,h,st,hI,q=>by
  obtain⟨ρ1,ρ2,e1,h2,e2⟩:=st 0 x ρ ⟨hV g B k ds,k.nx,hV g B k ds,k.ex⟩ ‹0› rfl hI
  show Q ((rO (g x ρ)).bind fun ρ1=>B ⟨hV g B k ds,k.nx,hV g B k ds,k.ex⟩ ρ1)
  rw [e1,eQ,cT,e2]
  refine vV Iv ds (o+1) i ρ2 d (by rw [Py] at h; exact h) (fun j d' ρ' k' hj hd hI'=>?_) h2 (fun ρ' k' hI'=>q ρ' k' (by rw [show o+(i+1)=o+1+i by omega]; exact hI'))
  obtain⟨a,b,c1,c2,c3⟩:=st (j+1) d' ρ' k' ‹0› (by rw [Py]; exact hd) (by rw [show o+(j+1)=o+1+j by omega]; exact hI')
  exact⟨a,b,c1,by rw [show o+1+j+1=o+(j+1)+1 by omega]; exact c2,c3⟩
abbrev fld (p:Str×D):D:=.tup [.str p.1,p.2]
theorem zP (kf rf:List D) (ps:List (Str×D)) (hl:ps.length<=100) (e:kf++rf=ps.map fld):aN jB 1 1 [.tup [.tup kf,.tup rf]]=.ok (.tup (ps.map fun p=>.str p.1)):=by
 have hl':kf.length+rf.length<=100:=by have:=congrArg List.length e; rw [OA,Oj] at this; omega
 have f0:jV [none] (bR (f2 cq (f2 bh (ah 0) (fC (.int 0))) (f2 bh (ah 0) (fC (.int 1))))) (gN 0) (fA) (f2 bh (ah 0) (fC (.int 0))) [some (.val (.tup [.tup kf,.tup rf]))]=.ok (.lst (ps.map fun p=>.str p.1)):=by
  refine fM (ds:=ps.map fld) ?_ (by rw [Oj]; omega) ?_
  ·simp! only []
   rw [gD _ _ ‹0›,e]
   simp! only []
  ·refine nM _ _ ps fun p _=>⟨_,rfl,rfl,?_⟩
   simp! only []
 rw [tL]; unfold jB
 simp! only [f0]
theorem vi (xs:List D):vU [.tup xs]=some (gJ 0 xs):=nr rfl
theorem sj:∀ (xs:List D) (k i:Nat),(gJ k xs)[i]?=(xs[i]?).map fun x=>.tup [.int ((k+i:Nat):Int),x]
 | [],k,i=>by simp [gJ]
 | x::xs,k,0=>by simp [gJ]
 | x::xs,k,i+1=>by
  rw [gJ,Py,sj xs (k+1) i,Py]
  congr 1
  funext y
  rw [show k+1+i=k+(i+1) by omega]
theorem y4 (kf rf:List D) (ps:List (Str×D)) (hl:ps.length<=100) (e:kf++rf=ps.map fld) (hn:(ps.map (·.1)).Nodup) (i:Nat) (nm:Str) (k:D) (hi:ps[i]?=some (nm,k)) :
  aN jC 2 4 [.tup [.tup kf,.tup rf],.str nm]=.ok (.int i):=by
 have en:=zP kf rf ps hl e
 rw [eZ]; unfold jC
 rw [ie,jc]
 simp! only [en,vi]
 have di:(gJ 0 (ps.map fun p=>D.str p.1))[i]?=some (.tup [.int ((i:Nat):Int),.str nm]):=by
  rw [sj,Oy,hi,PD]; rfl
 refine vV (Q:=fun z=>z=.ok (.int i)) (fun _ ρ=>ρ=[some (.val (.tup [.tup kf,.tup rf])),some (.val (.str nm)),none,none]) _ 0 i _ _ di ?_ rfl ?_
 ·rintro j d ρ k' hj hd rfl
  rw [sj,Oy] at hd
  have hil:=cp hi
  have hjl:j < ps.length:=by omega
  rw [O6 hjl] at hd
  cases hd
  have ne:(ps[j].1==nm)=false:=by
   have h1:=List.pairwise_iff_getElem.mp hn j i (by rw [Oj]; exact hjl) (by rw [Oj]; exact hil) hj
   rw [Qq,Qq] at h1
   have h2:ps[i]=(nm,k):=by rw [O6 hil] at hi; exact Option.some.inj hi
   rw [h2] at h1
   simpa using h1
  refine⟨[some (.val (.tup [.tup kf,.tup rf])),some (.val (.str nm)),some (.val (.int ((0+j:Nat):Int))),some (.val (.str ps[j].1))],_,rfl,rfl,?_⟩
  simp! only [ne]
 ·rintro ρ k' rfl
  refine⟨[some (.val (.tup [.tup kf,.tup rf])),some (.val (.str nm)),some (.val (.int (i:Int))),some (.val (.str nm))],rfl,?_⟩
  simp! only [BEq.rfl]
theorem By (kf rf:List D) (ps:List (Str×D)) (hl:ps.length<=100) (e:kf++rf=ps.map fld) (i:Nat) (nm:Str) (k:D) (hi:ps[i]?=some (nm,k)):aN kL 2 2 [.tup [.tup kf,.tup rf],.int i]=.ok k:=by
 have hl':kf.length+rf.length<=100:=by have:=congrArg List.length e; rw [OA,Oj] at this; omega
 have g:bh (.tup (ps.map fld)) (.int (i:Int))=some (.tup [.str nm,k]):=by
  rw [Iz,Fz,Oy,hi]; rfl
 rw [eZ]; unfold kL
 simp! only [gD kf rf ‹0›,e,g]
end TD
namespace T4
open PySem PySem.Spec L2 TG TD
local macro_rules
 | `(tactic| simp! only [$xs,*])=>`(tactic| simp only [cT,vk,q5,vv,iQ,eQ,ge_0,Bz,pU,Cp,pL,mS,pM,qm,CL,CP,CI,CK,CD,qL,p5,vN,kz,mY,qK,nD,vf,ql,pZ,nY,pX,j7,qa,kC,jZ,jg,je,qF,ng,jd,nu,kc,nz,nJ,ie,nT,kA,oN,nS,ky,jc,nQ,nE,BR,vI,BK,Bl,CG,qC,nB,qJ,nA,mR,Ck,BP,Qm,Qn,Oi,OJ,OY,Pb,K0,env0,List.replicate,PN,Oo,PD,Nat.reduceAdd,Nat.reduceSub,Oh,OO,qw,qG,vh,qp,qE,qc,jh,qi,vF,uV,uW,qj,j5,kr,j4,kj,ku,j6,vY,vW,vX,vq,u6,uS,kN,kM,gR,gP,pG,jf,gK,hX,gS,lu,mQ,hU,gW,kE,kF,ny,mV,ko,nh,qy,p9,mX,nR,gN,if_true,if_false,Qo,Qp,OW,$xs,*])
theorem Im {x:Str} {n:Int} (h:1<=n) (h':n<=1000) (hx:x.length<=1000):yS (.str x) (.int n)=some (.str (lV x n)):=by
 show (if decide (1<=n/\n<=1000/\x.length<=1000) then some (D.str (lV x n)) else none)=_
 rw [decide_eq_true ⟨h,h',hx⟩]; rfl
theorem ib (x:Int) (h0:0<=x) (h1:x < 2147483700):∃ y:Int,0<=y/\y < 2147483647/\aN aR 1 1 [.int x]=.ok (.int y):=by
 have m1:=rX (i:=x) (j:=x) ‹0› ‹0›
 have m2:=rX (i:=48271) (j:=x) (by decide) (by decide)
 have g:=fun i=>cK (i:=i) (show (0:Int) < 2147483647 by decide)
 refine⟨(x*x+48271*x+11)%2147483647,Qr _ (by decide),Qs _ (by decide),?_⟩
 rw [tL]; unfold aR
 simp! only [m1,m2,g]
theorem wu (ns:List Int) (k:Nat) (hk:k<=100):∃ y:Int,0<=y/\y < 2147483647/\aN cH 2 3 [.lst (ns.map .int),.int k]=.ok (.int y):=by
 obtain⟨c,ec⟩:=TD.KH ns k ‹0›
 have m1:=rX (i:=69621) (j:=(k:Int)) (by decide) (by decide)
 have m2:=rC (i:=69621*(k:Int)) (j:=(k:Int)) ‹0› ‹0›
 have g:=fun i=>cK (i:=i) (show (0:Int) < 2147483647 by decide)
 obtain⟨y1,a1,b1,e1⟩:=ib ((c%2147483647+69621*(k:Int)*(k:Int)+5)%2147483647) (Qr _ (by decide)) (by have:=Qs (c%2147483647+69621*(k:Int)*(k:Int)+5) (show (0:Int) < 2147483647 by decide); omega)
 obtain⟨y2,a2,b2,e2⟩:=ib y1 a1 ‹0›
 refine⟨y2,a2,b2,?_⟩
 rw [eZ]; unfold cH
 simp! only [ec,g,m1,m2,e1,e2]
theorem AK {i:Nat} {fk fv:FX} {k:Ks} {ρ:aq} {al:List (Key×D)} {q:Key} {d v:D} (h:ρ[i]?=some (some (.own (yE al)))) (ek:fk ρ=.ok d) (hd:d=bu q) (ev:fv ρ=.ok v) (hl:al.length<=1000) :
  o5 i fk fv k ρ=k.nx (ρ.set i (some (.own (yE (rj al q v))))):=by
 subst hd
 have e:vp (iE al) (al.map (·.2)) (bu q) v=some (rj al q v):=by
  unfold vp
  rw [vC]
  show (keyOf (bu q)).bind _=_
  rw [lG]
  show (if small al.length then _ else _)=_
  rw [dE ‹0›]; rfl
 unfold o5
 rw [h]
 show uj ((fv ρ).bind fun v=>(fk ρ).bind fun q=>rO (vp (iE al) (al.map (·.2)) q v)) k ρ _=_
 rw [ev,cT,ek,cT,e]; rfl
abbrev Cg (ws:List Str):List (Key×D):=ws.map fun w=>((.inr w:Key),D.bl true)
abbrev wd (ws:List Str):D:=yE (Cg ws)
def uL (ws:List Str) (w:Str):List Str:=if w∈ws then ws else ws++[w]
theorem Di (ws:List Str) (w:Str):rj (Cg ws) (.inr w) (.bl true)=Cg (uL ws w):=by
 have e:((Cg ws).any fun p=>decide (p.1=(.inr w:Key)))=decide (w∈ws):=by
  induction ws with
  | nil=>simp
  | cons a ws ih =>
   show (decide ((.inr a:Key)=.inr w) || (Cg ws).any fun p=>decide (p.1=(.inr w:Key)))=_
   rw [ih]
   by_cases z:a=w
   ·subst z; simp
   ·have z':¬ (.inr a:Key)=.inr w:=fun q=>z (Sum.inr.inj q)
    have z2:¬ w=a:=fun q=>z q.symm
    simp [z',z2]
 unfold rj uL
 rw [e]
 by_cases h:w∈ws
 ·rw [if_pos (by simpa using h),if_pos h]
  show (ws.map _).map _=_
  rw [P8]
  refine Ph fun a _=>?_
  show (if (.inr a:Key)=.inr w then ((.inr a:Key),D.bl true) else ((.inr a:Key),D.bl true))=_
  split <;> rfl
 ·rw [if_neg (by simpa using h),if_neg h]
  show _=(ws++[w]).map _
  rw [Pj]; rfl
theorem Be {ws:List Str} (w:Str) (h:ws.Nodup):(uL ws w).Nodup:=by
 unfold uL
 split
 ·exact h
 ·rename_i z
  exact List.nodup_append.mpr ⟨h,List.nodup_cons.mpr ⟨by simp,OT⟩,fun a ha b hb e=>by
   rw [Qe] at hb
   subst hb e
   exact z ha⟩
theorem x6 (ws:List Str) (w:Str):(uL ws w).length<=ws.length+1:=by
 unfold uL
 split
 ·omega
 ·simp
theorem G2 (ws:List Str):iE (Cg ws)=ws.map D.str:=by
 show (ws.map _).map _=_
 rw [P8]; rfl
theorem CW (ws:List Str):keysOf (iE (Cg ws))=some (ws.map .inr):=by
 rw [show iE (Cg ws)=(ws.map (.inr:Str->Key)).map bu from by rw [G2,P8]; rfl]
 exact cw _
theorem Gh (ws:List Str):vA [wd ws]=some (.int ws.length):=by
 show (keysOf (iE (Cg ws))).bind _=_
 rw [CW]
 show some (D.int ((ws.map _).length:Int))=_
 rw [Oj]
theorem DK (ws:List Str):qD [wd ws]=some (.lst (ws.map .str)):=by
 show (keysOf (iE (Cg ws))).bind _=_
 rw [CW]
 show some (D.lst (iE (Cg ws)))=_
 rw [G2]
theorem mG (is:List Nat) (f:aq->R Bool) (ρ:aq):kP is f ρ=Bo (f (frzs is ρ)):=nr rfl
theorem Ei (i:Nat) (ρ:aq):frzs [i] ρ=frz i ρ:=nr rfl
theorem C5 (i:Int) (k:Nat):uJ (.int i) (.int k)=some (.int (i / 2 ^ k)):=by
 show (if decide (0<=(k:Int)) then some (D.int (i / 2 ^ (k:Int).toNat)) else none)=_
 rw [decide_eq_true ‹0›]; rfl
theorem wv (i j:Int):oY (.int i) (.int j)=some (.int (Builtin.bitAnd i j)):=nr rfl
theorem L4 (a b c d:D):kK [a,b,c,d]=some (.lst [a,b,c,d]):=nr rfl
theorem ND (a b c d:D) (i:Int) (h0:0<=i) (h1:i < 4):∃ x∈[a,b,c,d],bh (.lst [a,b,c,d]) (.int i)=some x:=by
 rcases(show i=0\/i=1\/i=2\/i=3 by omega) with z | z | z | z <;> subst z
 ·exact⟨a,by simp,rfl⟩
 ·exact⟨b,by simp,rfl⟩
 ·exact⟨c,by simp,rfl⟩
 ·exact⟨d,by simp,rfl⟩
theorem Io (B:cn) (n:Nat) (a b c d e f:D):aN B 6 n [a,b,c,d,e,f]=B K0 (env0 n [a,b,c,d,e,f]):=nr rfl
abbrev fm (ps qs:List (Str×D)):D:=.tup [.tup (ps.map fld),.tup (qs.map fld)]
theorem oQ {α:Type} {ρ:aq} {g:GF} {C:aq->R Bool} {Fe:FX} (mk:α->D) (p:α->Bool) (v:α->D):∀ xs:List α,(∀ a∈xs,∃ ρ1,g (mk a) ρ=some ρ1/\C ρ1=.ok (p a)/\(p a=true->Fe ρ1=.ok (v a))) ->
  zt ρ g C Fe (xs.map mk)=.ok ((xs.filter p).map v)
 | [],_=>rfl
 | a::xs,h=>by
  obtain⟨ρ1,h1,h2,h3⟩:=h a N4
  rw [Oi,mh,h1,eQ,cT,h2,iQ,cT,oQ mk p v xs fun b hb=>h b (N5 _ hb)]
  cases e:p a with
  | true=>rw [if_pos rfl,h3 e,iQ,cT,P0 e]; rfl
  | false=>rw [if_neg Og,P4 (by simp [e])]
def mx (a b:Int):Int:=if b > a then b else a
end T4
namespace T4
open PySem PySem.Spec L2 TG TD
local macro_rules
 | `(tactic| simp! only [$xs,*])=>`(tactic| simp only [cT,vk,q5,vv,iQ,eQ,ge_0,Bz,pU,Cp,pL,mS,pM,qm,CL,CP,CI,CK,CD,qL,p5,vN,kz,mY,qK,nD,vf,ql,pZ,nY,pX,j7,qa,kC,jZ,jg,je,qF,ng,jd,nu,kc,nz,nJ,ie,nT,kA,oN,nS,ky,jc,nQ,nE,BR,vI,BK,Bl,CG,qC,nB,qJ,nA,mR,Ck,BP,Qm,Qn,Oi,OJ,OY,Pb,K0,env0,List.replicate,PN,Oo,PD,Nat.reduceAdd,Nat.reduceSub,Oh,OO,qw,qG,vh,qp,qE,qc,jh,qi,vF,uV,uW,qj,j5,kr,j4,kj,ku,j6,vY,vW,vX,vq,u6,uS,kN,kM,gR,gP,pG,jf,gK,hX,gS,lu,mQ,hU,gW,kE,kF,ny,mV,ko,nh,qy,p9,mX,nR,gN,if_true,if_false,Qo,Qp,OW,$xs,*])
def LT:List Nat:=("abcdefghijklmnopqrstuvwxyz":Str).cps.toList
theorem DL:∀ a < 26,∀ b < 26,LT[a]?=LT[b]?->a=b:=by decide +kernel
def stp (b:Int):Int:=([1,5,7,11,13,23]:List Int).getD (b%6).toNat 0
def kk (b k:Int):Int:=(k*stp b+b / 6)%24
def jz (b:Int):Int:=b / 144 / 24%(1+b / 144 / 3%8)
def CN (b k:Int) (w:Str):Prop :=
 (b / 144%3=0->w.length=(1+kk b k%8).toNat/\w.cps.toList[0]?=LT[((b / 144 / 3+kk b k / 8)%26).toNat]?) /\
 (b / 144%3≠0->w.cps.toList[(jz b).toNat]?=LT[((b / 144 / (24+11*jz b*jz b)+kk b k)%26).toNat]?)
theorem JE (b k:Int):0<=kk b k/\kk b k < 24:=⟨Qr _ (by decide),Qs _ (by decide)⟩
theorem HS {b k1 k2:Int} (a1:0<=k1) (a2:k1 < 24) (b1:0<=k2) (b2:k2 < 24) (h:kk b k1=kk b k2):k1=k2:=by
 unfold kk stp at h
 rcases(show b%6=0\/b%6=1\/b%6=2\/b%6=3\/b%6=4\/b%6=5 by omega) with z | z | z | z | z | z <;> rw [z] at h <;> simp at h <;> omega
theorem AW {b k1 k2:Int} {w:Str} (a1:0<=k1) (a2:k1 < 24) (b1:0<=k2) (b2:k2 < 24) (h1:CN b k1 w) (h2:CN b k2 w):k1=k2:=by
 refine HS (b:=b) a1 a2 b1 b2 ?_
 have q1:=JE b k1
 have q2:=JE b k2
 by_cases z:b / 144%3=0
 ·obtain⟨l1,e1⟩:=h1.1 z
  obtain⟨l2,e2⟩:=h2.1 z
  have:=DL _ ‹0› _ ‹0› (e1.symm.trans e2)
  omega
 ·have:=DL _ ‹0› _ ‹0› ((h1.2 z).symm.trans (h2.2 z))
  omega
theorem Aj (x:Str) (h:x.length<=1000) (i:Int) (h0:0<=i) (h1:i < x.length):∃ y:Str,y.length=1/\y.cps.toList[0]?=x.cps.toList[i.toNat]?/\bh (.str x) (.int i)=some (.str y):=by
 have hl:x.cps.toList.length=x.length:=by simp [Str.length]
 have hi:i < x.cps.toList.length:=by omega
 have hn:i.toNat < x.cps.toList.length:=by omega
 refine⟨⟨#[x.cps.toList[i.toNat]'hn]⟩,rfl,?_,?_⟩
 ·rw [O6 hn]; rfl
 ·show (if small x.length then (pF x.cps.toList i).bind fun c=>some (D.str ⟨#[c]⟩) else none)=_
  rw [dE ‹0›,if_pos rfl,rW h0 hi]; rfl
theorem vQ (c:Array Nat) (hc:0 < c.size):∀ (n:Nat) (a:Array Nat),((List.replicate n c).foldl (·++·) a).toList[0]?=if a.size=0 then (if n=0 then none else c.toList[0]?) else a.toList[0]?
 | 0,a=>by
  rw [PN,List.foldl_nil]
  split
  ·rename_i h; simp [h]
  ·rfl
 | n+1,a=>by
  rw [PQ,PR,vQ c hc n (a++c)]
  have:¬ (a++c).size=0:=by rw [Array.size_append]; omega
  rw [if_neg this,Array.toList_append]
  by_cases h:a.size=0
  ·rw [if_pos h,if_neg ‹0›,Ov (by simp [h])]
   simp [h]
  ·rw [if_neg h,Ox (by simp; omega)]
theorem Ed {y:Str} {n:Int} (h:1<=n) (hy:y.length=1):(lV y n).cps.toList[0]?=y.cps.toList[0]?:=by
 unfold lV
 split
 ·rfl
 ·have hc:0 < y.cps.size:=by have:y.cps.size=1:=hy; omega
  rw [vQ y.cps hc n.toNat #[]]
  split
  ·rw [if_neg ‹0›]
  ·rename_i z; exact absurd rfl z
theorem Bg (x y:Str):(x++y).cps.toList=x.cps.toList++y.cps.toList:=by
 show (x.cps++y.cps).toList=_
 rw [Array.toList_append]
theorem wN (x:Str):x.cps.toList.length=x.length:=by simp [Str.length]
theorem Ay (b k:Int) (hb:0<=b) (hk:0<=k):∃ w:Str,aN cx 2 7 [.int b,.int k]=.ok (.str w)/\CN b k w:=by
 have LL:(("abcdefghijklmnopqrstuvwxyz":Str)).length=26:=by decide +kernel
 have hLT:LT=("abcdefghijklmnopqrstuvwxyz":Str).cps.toList:=rfl
 generalize hL:("abcdefghijklmnopqrstuvwxyz":Str)=L at LL hLT
 have g3:=fun i=>cK (i:=i) (show (0:Int) < 3 by decide)
 have g6:=fun i=>cK (i:=i) (show (0:Int) < 6 by decide)
 have g8:=fun i=>cK (i:=i) (show (0:Int) < 8 by decide)
 have g24:=fun i=>cK (i:=i) (show (0:Int) < 24 by decide)
 have g26:=fun i=>cK (i:=i) (show (0:Int) < 26 by decide)
 have d3:=fun i=>cS (i:=i) (show (0:Int) < 3 by decide) (show (3:Int) < 10 ^ 200 by decide)
 have d6:=fun i=>cS (i:=i) (show (0:Int) < 6 by decide) (show (6:Int) < 10 ^ 200 by decide)
 have d8:=fun i=>cS (i:=i) (show (0:Int) < 8 by decide) (show (8:Int) < 10 ^ 200 by decide)
 have d24:=fun i=>cS (i:=i) (show (0:Int) < 24 by decide) (show (24:Int) < 10 ^ 200 by decide)
 have d144:=fun i=>cS (i:=i) (show (0:Int) < 144 by decide) (show (144:Int) < 10 ^ 200 by decide)
 obtain⟨st,hst,hstp,est⟩:∃ st:Int,(0<=st/\st<=25)/\stp b=st/\bh (.lst [.int 1,.int 5,.int 7,.int 11,.int 13,.int 23]) (.int (b%6))=some (.int st):=by
  rcases(show b%6=0\/b%6=1\/b%6=2\/b%6=3\/b%6=4\/b%6=5 by omega) with z | z | z | z | z | z <;> rw [z]
  ·exact⟨1,by decide,by unfold stp; rw [z]; rfl,rfl⟩
  ·exact⟨5,by decide,by unfold stp; rw [z]; rfl,rfl⟩
  ·exact⟨7,by decide,by unfold stp; rw [z]; rfl,rfl⟩
  ·exact⟨11,by decide,by unfold stp; rw [z]; rfl,rfl⟩
  ·exact⟨13,by decide,by unfold stp; rw [z]; rfl,rfl⟩
  ·exact⟨23,by decide,by unfold stp; rw [z]; rfl,rfl⟩
 have l6:∀ a b c d e f:D,kK [a,b,c,d,e,f]=some (.lst [a,b,c,d,e,f]):=fun _ _ _ _ _ _=>rfl
 have ms:=rC (i:=k) (j:=st) ‹0› ‹0›
 have hkk:kk b k=(k*st+b / 6)%24:=by unfold kk; rw [hstp]
 generalize hk':(k*st+b / 6)%24=k' at hkk
 have k1:0<=k'/\k' < 24:=by omega
 have hP:∀ w,CN b k w=((b / 144%3=0->w.length=(1+kk b k%8).toNat/\w.cps.toList[0]?=LT[((b / 144 / 3+kk b k / 8)%26).toNat]?)/\(b / 144%3≠0->w.cps.toList[(jz b).toNat]?=LT[((b / 144 / (24+11*jz b*jz b)+kk b k)%26).toNat]?)):=fun _=>rfl
 have hj:jz b=b / 144 / 24%(1+b / 144 / 3%8):=rfl
 generalize hb':b / 144=b' at hP hj
 generalize jz b=j0 at hP hj
 rw [hkk] at hP
 simp only [hP]
 have b0:0<=b':=by omega
 rw [eZ]; unfold cx
 by_cases h:b'%3=0
 ·have h':(b'%3==0)=true:=by simp [h]
  obtain⟨y,hy,hy0,e1⟩:=Aj L ‹0› ((b' / 3+k' / 8)%26) ‹0› ‹0›
  have mu:=Im (x:=y) (n:=1+k'%8) ‹0› ‹0› ‹0›
  refine⟨lV y (1+k'%8),?_,fun _=>⟨by rw [yH ‹0›,hy,Nat.mul_one],by rw [Ed ‹0› hy,hy0,hLT]⟩,fun z=>absurd h z⟩
  simp! only [hL,g6,l6,est,ms,d6,g24,hk',d144,hb',g3,h',d3,d8,g26,e1,g8,mu]
 ·have h':(b'%3==0)=false:=by simp [h]
  obtain⟨n,hn,hn1,hn2⟩:∃ n:Nat,1+b' / 3%8=(n:Int)/\1<=n/\n<=8:=⟨(1+b' / 3%8).toNat,by omega,by omega,by omega⟩
  rw [hn] at hj
  have hj1:0<=j0/\j0 < (n:Int):=by rw [hj]; exact⟨Qr _ ‹0›,Qs _ ‹0›⟩
  have rn:=j3 n ‹0›
  obtain⟨T,hT⟩:∃ T:cn,T=(aM (jS (h7 (af (ah 3) (aw))) (gN 5) (aM (bU 6 (f2 dY (ah 0) (f2 cq (fC (.int 24)) (f2 ph (f2 ph (fC (.int 11)) (ah 5)) (ah 5))))) (aM (n9 (fB (f2 jD (ah 5) (f2 cX (f2 dY (ah 0) (fC (.int 24))) (ah 3)))) (bU 6 (f2 cq (ah 6) (ah 1))) (cW)) (aM (bU 4 (f2 cq (ah 4) (f2 bh (ah 2) (f2 cX (ah 6) (fC (.int 26)))))) (eR [5,6] cW))))) (bQ (ah 4))):=⟨_,rfl⟩
  have key:∃ w:Str,(w.cps.toList[j0.toNat]?=LT[((b' / (24+11*j0*j0)+k')%26).toNat]?)/\T K0 [some (.val (.int b')),some (.val (.int k')),some (.val (.str L)),some (.val (.int n)),some (.val (.str "")),none,none]=.ok (.str w):=by
   rw [hT,ie,jc]
   simp! only [rn]
   refine eL (Q:=fun z=>∃ w:Str,(w.cps.toList[j0.toNat]?=LT[((b' / (24+11*j0*j0)+k')%26).toNat]?)/\z=.ok (.str w)) (fun i ρ=>∃ w:Str,w.length=i/\(j0 < (i:Int)->w.cps.toList[j0.toNat]?=LT[((b' / (24+11*j0*j0)+k')%26).toNat]?)/\ρ=[some (.val (.int b')),some (.val (.int k')),some (.val (.str L)),some (.val (.int n)),some (.val (.str w)),none,none]) ?_ ?_ ?_
   ·rintro i d ρ kx hd ⟨w,hw,hw2,rfl⟩
    have hi:=cp hd
    rw [de] at hi
    have hdi:d=.int (i:Int):=by
     rw [kJ,Oy,Pn hi] at hd
     cases hd; simp
    subst hdi
    have m1:=rX (i:=11) (j:=(i:Int)) (by decide) (by decide)
    have m2:=rC (i:=11*(i:Int)) (j:=(i:Int)) ‹0› ‹0›
    have ii:0<=11*(i:Int)*(i:Int):=Int.mul_nonneg ‹0› ‹0›
    have ii2:11*(i:Int)*(i:Int)<=11*8*8:=Int.mul_le_mul ‹0› ‹0› ‹0› (by decide)
    have dd:=fun z=>cS (i:=z) (show (0:Int) < 24+11*(i:Int)*(i:Int) by omega) (show 24+11*(i:Int)*(i:Int) < 10 ^ 200 by
     have:(10:Int) ^ 200 > 10000:=by decide +kernel
     omega)
    have gn:=fun z=>cK (i:=z) (show (0:Int) < (n:Int) by omega)
    generalize hs:b' / (24+11*(i:Int)*(i:Int))=s
    by_cases hq:((i:Int)==b' / 24%(n:Int))=true
    ·obtain⟨y,hy,hy0,e1⟩:=Aj L ‹0› ((s+k')%26) ‹0› ‹0›
     have ad:=mK w y ‹0› ‹0›
     refine⟨_,_,rfl,⟨w++y,by rw [AF]; omega,fun _=>?_,rfl⟩,?_⟩
     ·have eq:(i:Int)=b' / 24%(n:Int):=by simpa using hq
      rw [<- hj] at eq
      subst eq
      rw [Bg,Ov (by rw [wN]; omega),wN,hw,OB,PL,hy0,hLT,<- hs]
     simp! only [m1,m2,dd,hs,d24,gn,hq,g26,e1,ad]
    ·have hq':((i:Int)==b' / 24%(n:Int))=false:=by simpa using hq
     obtain⟨y,hy,hy0,e1⟩:=Aj L ‹0› (s%26) ‹0› ‹0›
     have ad:=mK w y ‹0› ‹0›
     refine⟨_,_,rfl,⟨w++y,by rw [AF]; omega,fun z=>?_,rfl⟩,?_⟩
     ·have ne:j0≠(i:Int):=fun q=>hq (by rw [<- q,<- hj]; simp)
      rw [Bg,Ox (by rw [wN]; omega)]
      exact hw2 ‹0›
     simp! only [m1,m2,dd,hs,d24,gn,hq',g26,e1,ad]
   ·exact⟨"",by decide +kernel,fun z=>by omega,rfl⟩
   ·rintro ρ' ⟨w,hw,hw2,rfl⟩
    rw [de] at hw2
    exact⟨w,hw2 ‹0›,by simp! only []⟩
  obtain⟨w,hw,ew⟩:=key
  refine⟨w,?_,fun z=>absurd z h,fun _=>hw⟩
  rw [<- hT]
  simp only [K0] at ew
  simp! only [hL,g6,l6,est,ms,d6,g24,hk',d144,hb',g3,h',d3,g8,hn,ew]
end T4
namespace T4
open PySem PySem.Spec L2 TG TD
theorem pc {α:Type} {motive:List α->Prop} (nil:motive []) (snoc:∀ (t:List α) (r:α),motive t->motive (t++[r])) (t:List α):motive t:=by
 have h:∀ l:List α,motive l.reverse:=fun l=>by
  induction l with
  | nil=>exact nil
  | cons a l ih=>rw [List.reverse_cons]; exact snoc _ _ ih
 have:=h t.reverse
 rw [List.reverse_reverse] at this
 exact this
theorem rF:∀ {σ:List Bool} {a:List D} (m:Nat),Sh σ a->Sh (σ.take m) (a.take m)
 | _,_,0,_=>by rw [OZ,OZ]; exact .nil
 | _,_,m+1,.nil=>by rw [O0,O0]; exact .nil
 | _,_,m+1,.int i h=>by rw [O1,O1]; exact .int i (rF m h)
 | _,_,m+1,.str i h=>by rw [O1,O1]; exact .str i (rF m h)
theorem rV:∀ {σ:List Bool} {a:List D},Sh σ a->∃ q:List Key,a=q.map bu
 | _,_,.nil=>⟨[],rfl⟩
 | _,_,.int i h=>by
  obtain⟨q,e⟩:=rV h
  exact⟨.inl i::q,by rw [Oi,e]; rfl⟩
 | _,_,.str x h=>by
  obtain⟨q,e⟩:=rV h
  exact⟨.inr x::q,by rw [Oi,e]; rfl⟩
theorem tP:∀ {p q:List Key},p.map bu=q.map bu->p=q:=fun {p q} h=>by
 have:=congrArg keysOf h
 rw [cw,cw] at this
 exact Option.some.inj this
theorem tZ:∀ {σ:List Bool} {a b:List D} (m:Nat),Sh σ a->Sh σ b->eI a b=some true->eI (a.take m) (b.take m)=some true\/a.take m=b.take m
 | _,_,_,0,_,_,_=>.inr (by rw [OZ,OZ])
 | _,_,_,m+1,.nil,.nil,_=>.inr rfl
 | _,_,_,m+1,.int i h,.int j h',e=>by
  rw [o3] at e
  rw [O1,O1,o3]
  by_cases z:i=j
  ·rw [if_pos z] at e ⊢
   rcases tZ m h h' e with q | q
   ·exact .inl q
   ·exact .inr (by rw [z,q])
  ·rw [if_neg z] at e ⊢
   exact .inl e
 | _,_,_,m+1,.str i h,.str j h',e=>by
  rw [o7] at e
  rw [O1,O1,o7]
  by_cases z:i=j
  ·rw [if_pos z] at e ⊢
   rcases tZ m h h' e with q | q
   ·exact .inl q
   ·exact .inr (by rw [z,q])
  ·rw [if_neg z] at e ⊢
   exact .inl e
section
open Classical
variable (m:Nat)
noncomputable def Fh (acc:List (List D)) (r:List D):List (List D):=if r.take m∈acc then acc else acc++[r.take m]
noncomputable def fs (t:List (List D)):List (List D):=t.foldl (Fh m) []
noncomputable def gp (t:List (List D)) (f:List D):List (List D):=(t.filter fun r=>decide (r.take m=f)).map (List.drop m)
theorem lL (t:List (List D)) (r:List D):fs m (t++[r])=Fh m (fs m t) r:=by
 unfold fs
 rw [List.foldl_append]; rfl
theorem mM {t:List (List D)} {f:List D}:f∈fs m t↔∃ r∈t,r.take m=f:=by
 induction t using pc with
 | nil=>unfold fs; simp
 | snoc t r ih =>
  rw [lL]
  unfold Fh
  split
  ·rename_i h
   rw [ih]
   constructor
   ·rintro⟨x,h1,h2⟩; exact⟨x,N6 _ h1,h2⟩
   ·rintro⟨x,h1,h2⟩
    rcases List.mem_append.mp h1 with z | z
    ·exact⟨x,z,h2⟩
    ·rw [List.mem_singleton.mp z] at h2
     rw [h2] at h
     exact ih.mp h
  ·rw [List.mem_append,ih,Qe]
   constructor
   ·rintro(⟨x,h1,h2⟩ | h2)
    ·exact⟨x,N6 _ h1,h2⟩
    ·exact⟨r,by simp,h2.symm⟩
   ·rintro⟨x,h1,h2⟩
    rcases List.mem_append.mp h1 with z | z
    ·exact .inl ⟨x,z,h2⟩
    ·rw [List.mem_singleton.mp z] at h2
     exact .inr h2.symm
theorem yq (t:List (List D)):(fs m t).Nodup:=by
 induction t using pc with
 | nil=>exact OT
 | snoc t r ih =>
  rw [lL]
  unfold Fh
  split
  ·exact ih
  ·rename_i h
   exact List.nodup_append.mpr ⟨ih,by simp,fun a ha b hb e=>by
    rw [List.mem_singleton.mp hb] at e
    rw [e] at ha; exact h ha⟩
theorem oC (t:List (List D)):(fs m t).length<=t.length:=by
 induction t using pc with
 | nil=>exact Oa _
 | snoc t r ih =>
  rw [lL]
  unfold Fh
  split
  ·rw [OA]; omega
  ·rw [OA,OA]; simpa using ih
theorem zW {σ:List Bool} {n:Nat} (hn:n=σ.length) {t:List (List D)} (hs:∀ r∈t,Sh σ (r.take n)) (hm:m<=n) (p:AG n t):(fs m t).Pairwise (fun a b=>eI a b=some true)/\∀ r,t.getLast?=some r->(fs m t).getLast?=some (r.take m):=by
 induction t using pc with
 | nil=>exact⟨List.Pairwise.nil,fun r h=>by simp at h⟩
 | snoc t r ih =>
  obtain⟨p1,p2,p3⟩:=List.pairwise_append.mp p
  obtain⟨i1,i2⟩:=ih (fun x hx=>hs x (N6 _ hx)) p1
  have sm:∀ x∈t++[r],Sh (σ.take m) (x.take m):=fun x hx=>by
   have:=rF m (hs x hx)
   rw [Qt,Qg hm] at this
   exact this
  have le:∀ x∈t,eI (x.take m) (r.take m)=some true\/x.take m=r.take m:=fun x hx=>by
   have:=tZ m (hs x (N6 _ hx)) (hs r (by simp)) (p3 x hx r (by simp))
   rw [Qt,Qt,Qg hm] at this
   exact this
  rw [lL]
  unfold Fh
  split
  ·rename_i h
   refine⟨i1,fun x hx=>?_⟩
   rw [Qu] at hx
   have hx:r=x:=by simpa using hx
   subst hx
   obtain⟨y,hy,ey⟩:=(mM m).mp h
   have ne:t≠[]:=fun z=>by rw [z] at hy; cases hy
   have e0:=i2 _ (Qv ne)
   have f0:fs m t≠[]:=fun z=>by rw [z] at h; cases h
   rw [Qv f0] at e0 ⊢
   have e0:=Option.some.inj e0
   rcases le _ (Qw ne) with q | q
   ·-- then it comes ahead of the last
    exfalso
    have hd:fs m t=(fs m t).dropLast++[(fs m t).getLast f0]:=(Qx f0).symm
    rw [hd] at h i1
    rcases List.mem_append.mp h with z | z
    ·have:=(List.pairwise_append.mp i1).2.2 _ z _ (List.mem_singleton.mpr rfl)
     rw [e0] at this
     have a:=xO (sm r (by simp)) (sm _ (N6 _ (Qw ne))) this
     rw [q] at a; cases a
    ·have:=List.mem_singleton.mp z
     rw [e0] at this
     rw [this] at q
     rw [lR (sm _ (N6 _ (Qw ne)))] at q
     cases q
   ·rw [e0,q]
  ·rename_i h
   refine⟨List.pairwise_append.mpr ⟨i1,PZ _ _,fun a ha b hb=>?_⟩,fun x hx=>?_⟩
   ·rw [List.mem_singleton.mp hb]
    obtain⟨y,hy,ey⟩:=(mM m).mp ha
    rcases le y hy with q | q
    ·rw [ey] at q; exact q
    ·rw [ey] at q
     rw [q] at ha; exact absurd ha h
   ·rw [Qu] at hx ⊢
    have hx:r=x:=by simpa using hx
    subst hx
    simp
theorem rG (t:List (List D)) (r f:List D):gp m (t++[r]) f=gp m t f++(if r.take m=f then [r.drop m] else []):=by
 unfold gp
 rw [Qy,Pj]
 congr 1
 by_cases h:r.take m=f
 ·rw [if_pos h,P0 (by simpa using h)]; rfl
 ·rw [if_neg h,P4 (by simpa using h)]; rfl
noncomputable def flat (t:List (List D)):List (List D):=(fs m t).flatMap fun f=>(gp m t f).map (f++·)
theorem Gv {σ:List Bool} {n:Nat} (hn:n=σ.length) {t:List (List D)} (hs:∀ r∈t,Sh σ (r.take n)) (hm:m<=n) (p:AG n t):flat m t=t:=by
 induction t using pc with
 | nil=>rfl
 | snoc t r ih =>
  have p1:=(List.pairwise_append.mp p).1
  have i0:=ih (fun x hx=>hs x (N6 _ hx)) p1
  have hr:=zW m hn hs hm p
  unfold flat at i0 ⊢
  rw [lL] at hr ⊢
  unfold Fh at hr ⊢
  have same:∀ L:List (List D),r.take m∉L->(L.flatMap fun f=>(gp m (t++[r]) f).map (f++·))=L.flatMap fun f=>(gp m t f).map (f++·):=fun L hL=>by
   induction L with
   | nil=>rfl
   | cons f L ih =>
    rw [Qz,Qz,ih fun z=>hL (N5 _ z),rG,if_neg fun z=>hL (by rw [z]; exact N4),Oo]
  split
  ·rename_i h
   rw [if_pos h] at hr
   have f0:fs m t≠[]:=fun z=>by rw [z] at h; cases h
   have last:=hr.2 r (by rw [Qu]; simp)
   rw [Qv f0] at last
   have last:=Option.some.inj last
   have hd:fs m t=(fs m t).dropLast++[r.take m]:=by
    rw [<- last]; exact(Qx f0).symm
   have nd:=yq m t
   rw [hd] at nd
   have nin:r.take m∉(fs m t).dropLast:=fun z=>(List.nodup_append.mp nd).2.2 _ z _ (List.mem_singleton.mpr rfl) rfl
   rw [hd,QA] at i0 ⊢
   rw [same _ nin]
   conv=>rhs; rw [<- i0]
   rw [Pr]
   congr 1
   rw [QB,QB,rG,if_pos rfl,Pj,QC,QD]
  ·rename_i h
   rw [QA,same _ h,i0,QB,rG,if_pos rfl]
   congr 1
   have e:gp m t (r.take m)=[]:=by
    unfold gp
    rw [List.filter_eq_nil_iff.mpr]
    ·rfl
    ·intro x hx z
     exact h ((mM m).mpr ⟨x,hx,by simpa using z⟩)
   rw [e,Pb,QC,QD]
end
open Classical in
theorem pP (al:List (List Key×D)) (q:List Key) (v:D):(gX al q v).map (·.1)=if q∈al.map (·.1) then al.map (·.1) else al.map (·.1)++[q]:=by
 have e:(al.any fun p=>decide (p.1=q))=true↔q∈al.map (·.1):=by
  rw [QE,List.mem_map]
  simp only [decide_eq_true_eq]
 unfold gX
 by_cases h:q∈al.map (·.1)
 ·rw [if_pos (e.mpr h),if_pos h,P8]
  refine Ph fun p _=>?_
  show (if p.1=q then (p.1,v) else p).1=p.1
  split <;> rfl
 ·rw [if_neg fun z=>h (e.mp z),if_neg h,Pj]; rfl
theorem Ej {al:List (List Key×D)} {q:List Key} {v:D} {p:List Key×D} (h:p∈gX al q v):p∈al\/p=(q,v):=by
 unfold gX at h
 split at h
 ·obtain⟨a,ha,e⟩:=List.mem_map.mp h
  by_cases z:a.1=q
  ·rw [if_pos z] at e
   exact .inr (by rw [<- e,z])
  ·rw [if_neg z] at e
   exact .inl (by rw [<- e]; exact ha)
 ·rcases List.mem_append.mp h with z | z
  ·exact .inl z
  ·exact .inr (List.mem_singleton.mp z)
theorem Gi {al:List (List Key×D)} (q:List Key) (v:D) (h:(al.map (·.1)).Nodup):((gX al q v).map (·.1)).Nodup:=by
 rw [pP]
 split
 ·exact h
 ·rename_i z
  exact List.nodup_append.mpr ⟨h,by simp,fun a ha b hb e=>by
   rw [List.mem_singleton.mp hb] at e
   rw [e] at ha; exact z ha⟩
theorem DT (al:List (List Key×D)) (q:List Key) (v:D):(gX al q v).length<=al.length+1:=by
 have:=congrArg List.length (pP al q v)
 rw [Oj] at this
 rw [this]
 split <;> simp
theorem xG:∀ {al:List (List Key×D)} {p:List Key×D},(al.map (·.1)).Nodup->p∈al->qu al p.1=some p.2
 | a::al,p,h,hp=>by
  obtain⟨h1,h2⟩:=List.nodup_cons.mp (by simpa using h:(a.1::al.map (·.1)).Nodup)
  unfold qu
  by_cases e:a.1=p.1
  ·rw [Qi (by simpa using e)]
   rcases List.mem_cons.mp hp with z | z
   ·rw [z]; rfl
   ·exact absurd (show a.1∈al.map (·.1) from by rw [e]; exact List.mem_map.mpr ⟨p,z,rfl⟩) h1
  ·rw [Qj (by simpa using e)]
   rcases List.mem_cons.mp hp with z | z
   ·exact absurd (by rw [z]) e
   ·exact xG h2 z
theorem AZ (al:List (List Key×D)):EL (encK al) (al.map (·.2))=some al:=by
 cases al with
 | nil=>rfl
 | cons p al=>exact jA (p::al)
theorem xL (al:List (List Key×D)):me [cO al]=some (.lst (encK al)):=by
 show (EL (encK al) (al.map (·.2))).bind _=_
 rw [AZ]; rfl
theorem IW (al:List (List Key×D)) (q:List Key):zu (cO al) (.tup (q.map bu))=qu al q:=by
 show (EL (encK al) (al.map (·.2))).bind _=_
 rw [AZ]
 show (iX (.tup (q.map bu))).bind _=_
 rw [oR]; rfl
theorem yQ (al:List (List Key×D)):zS (oJ al)=some (al.map lT):=by
 show (kH (encK al) (al.map (·.2))).map _=_
 rw [jA]; rfl
theorem A7 {al:List (List Key×D)} {σ:List Bool} (nd:(al.map (·.1)).Nodup) (hs:∀ p∈al,Sh σ (p.1.map bu)) (h0:σ≠[]) (hl:al.length < 64):fJ [.lst (encK al)]=some (.lst (iR dS (encK al)))/\yK dS (iR dS (encK al)):=by
 have hx:∀ x∈encK al,∃ k,x=.tup k/\Sh σ k:=fun x hx=>by
  obtain⟨p,hp,rfl⟩:=List.mem_map.mp hx
  exact⟨_,rfl,hs p hp⟩
 have pw:(encK al).Pairwise fun x y=>dS x≠dS y:=by
  rw [P6]
  have:=List.pairwise_map.mp nd
  exact this.imp fun {a b} ne e=>ne (tP e)
 have a:Ib (encK al):=⟨by rw [Oj]; exact hl,σ,h0,hx,pw⟩
 refine⟨?_,nU (σ:=σ) (fun x h=>by obtain⟨k,e,s⟩:=hx x h; rw [e]; exact s) pw⟩
 show qT (encK al)=_
 unfold qT
 rw [if_pos a]
theorem Bi:∀ vs:List D,(∀ v∈vs,∃ r,v=.tup r)->∃ t:List (List D),vs=t.map .tup
 | [],_=>⟨[],rfl⟩
 | v::vs,h=>by
  obtain⟨r,e⟩:=h v N4
  obtain⟨t,et⟩:=Bi vs fun v hv=>h v (N5 _ hv)
  exact⟨r::t,by rw [e,et]; rfl⟩
def AL:Nat->D->Prop
 | 0,d=>(∃ i,d=.int i)\/∃ x,d=.str x
 | n+1,d=>((∃ i,d=.int i)\/∃ x,d=.str x)\/∃ ds,d=.tup ds/\ds.length<=1000/\∀ x∈ds,AL n x
theorem AL.of0 {d:D} (h:AL 0 d):∀ n,AL n d
 | 0=>h
 | _+1=>.inl h
theorem AL.up:∀ {n:Nat} {d:D},AL n d->AL (n+1) d
 | 0,_,h=>.inl h
 | n+1,_,h=>by
  rcases h with h | ⟨ds,e,l,f⟩
  ·exact .inl h
  ·exact .inr ⟨ds,e,l,fun x hx=>AL.up (f x hx)⟩
theorem AL.le {n m:Nat} (h:n<=m) {d:D} (hd:AL n d):AL m d:=by
  induction m with
  | zero => have : n = 0 := by omega
            subst this; exact hd
  | succ m ih =>
    by_cases e:n=m+1
    · subst e; exact hd
    · exact AL.up (ih ‹0›)
theorem AL.tup {n:Nat} {ds:List D} (l:ds.length<=1000) (h:∀ x∈ds,AL n x):AL (n+1) (.tup ds):=.inr ⟨ds,rfl,l,h⟩
theorem sq:∀ {σ:List Bool} {a:List D},Sh σ a->∀ x∈a,AL 0 x
 | _,_,.int i h,x,hx=>by
  rcases List.mem_cons.mp hx with z | z
  ·exact .inl ⟨i,z⟩
  ·exact sq h x z
 | _,_,.str i h,x,hx=>by
  rcases List.mem_cons.mp hx with z | z
  ·exact .inr ⟨i,z⟩
  ·exact sq h x z
theorem ue:∀ {n:Nat} {d:D},AL n d->pl d=true
 | 0,_,h=>by rcases h with ⟨i,rfl⟩ | ⟨x,rfl⟩ <;> rfl
 | n+1,_,h=>by
  rcases h with (⟨i,rfl⟩ | ⟨x,rfl⟩) | ⟨ds,rfl,_,f⟩
  ·rfl
  ·rfl
  ·rw [cZ]; exact oK fun x hx=>ue (f x hx)
end T4
namespace Tk47
open PySem PySem.Spec L2 TG TX TD
def top (i:Nat):R6:=PySem.Challenge.pw_twoglass_k47_what_an_unnest_hides.main.body.getD i (.Pass ⟨0,0,0,0⟩)
abbrev eM:R6:=inClass (top 17) 0
theorem ox:aU ["self","name"] ["self","name"] (ax eM):=‹2›
abbrev kW:R6:=inClass (top 15) 3
theorem qZ:aU ["self","form","table","view"] ["self","form","table","view"] (ax kW):=‹2›
def cE:cn:=bQ (ah 3)
abbrev jH:R6:=top 8
theorem xn:aU ["many","rows"] ["many","rows"] (ax jH):=‹2›
noncomputable def iw:cn:=bQ (fL cy (af (f2 qg (ah 1) (ah 0)) (aw)))
abbrev oP:R6:=top 11
theorem Bu:aU ["many","rows"] ["many","rows"] (ax oP):=‹2›
def lY:cn:=bQ (fL wH (af (jV [none,some 0] (bR (ah 1)) (gN 0) (fA) (dG (af (bN (ah 0) (bA) (cM (ah 1))) (af (ah 0) (aw))))) (aw)))
abbrev lM:R6:=top 13
theorem yg:aU ["many","rows","others","taken"] ["many","rows","others"] (ax lM):=‹2›
noncomputable def jx:cn:=aM (bU 3 (fR (aN lY 2 2) (af (ah 0) (af (ah 1) (aw))))) (bQ (fR (aN iw 2 2) (af (ah 0) (af (f2 cq (fL pq (af (ah 1) (aw))) (jV [none,some 0,some 3] (bR (ah 2)) (gN 0) (fB (f2 rK (bN (ah 0) (bA) (cM (ah 1))) (ah 2))) (ah 0))) (aw)))))
abbrev nZ:R6:=top 12
theorem zo:aU ["many","rows","groups","row"] ["many","rows"] (ax nZ):=‹2›
def jj:cn:=aM (yp 2) (aM (jS (bR (ah 1)) (gN 3) (aM (Bs 2 (bN (ah 3) (bA) (cM (ah 0))) (bN (ah 3) (cM (ah 0)) (bA))) (eR [3] cW))) (vE 2 (bQ (fL uc (af (jV [none,none] (lI (ah 2)) (gT 2 (oA [0,1])) (fA) (dG (af (ah 0) (af (fL cy (af (ah 1) (aw))) (aw))))) (aw))))))
abbrev i6:R6:=inClass (top 17) 4
theorem og:aU ["self","form","table","view","many","rows"] ["self","form","table","view"] (ax i6):=‹2›
noncomputable def bd:cn:=aM (bU 4 (fL iy (af (f2 bh (ah 1) (fC (.int 0))) (aw)))) (aM (bU 5 (jV [none,none] (lI (fR (aN jj 2 4) (af (ah 4) (af (ah 3) (aw))))) (gT 2 (oA [0,1])) (fA) (f2 cq (ah 0) (dG (af (ah 1) (aw)))))) (bQ (fR (aN jx 3 4) (af (ah 4) (af (ah 5) (af (jV [none,some 4] (bR (ah 2)) (gN 0) (fB (f2 jD (f2 bh (ah 0) (ah 1)) (dG (aw)))) (ah 0)) (aw)))))))
abbrev jK:R6:=top 21
theorem wK:aU ["_law_x"] ["_law_x"] (ax jK):=‹2›
abbrev il:R6:=top 29
theorem tY:aU ["_law_many","_law_rows_here","_law_found","_law_row_here"] ["_law_many","_law_rows_here"] (ax il):=‹2›
noncomputable def bg:cn:=aM (lW 2 vM) (aM (jS (bR (ah 1)) (gN 3) (aM (sE 2 (bN (ah 3) (bA) (cM (ah 0))) (ah 3)) (eR [3] cW))) (iO 2 (bQ (fL cy (af (jV [none,some 2] (bR (fL fJ (af (fL me (af (ah 2) (aw))) (aw)))) (gN 0) (fA) (f2 zu (ah 1) (ah 0))) (aw))))))
abbrev gA:R6:=top 27
theorem ux:aU ["_law_kind_here","_law_x"] ["_law_kind_here","_law_x"] (ax gA):=‹2›
abbrev jo:R6:=top 28
theorem xx:aU ["_law_form_here","_law_many","_law_head","_law_tail","_law_row_here","_law_name_here","_law_kind_here"] ["_law_form_here","_law_many","_law_head","_law_tail"] (ax jo):=‹2›
abbrev iu:R6:=top 30
theorem xt:aU ["_law_form_here","_law_x","_law_many","_law_rows_here","_law_k"] ["_law_form_here","_law_x","_law_many"] (ax iu):=‹2›
noncomputable def gB (aA aB aG:List D->R D):cn:=aM (n9 (fB (f2 jD (f2 bh (ah 0) (fC (.int 0))) (fC (.str "number")))) (bQ (f2 cq (f2 bh (ah 0) (fC (.int 1))) (f2 cX (f2 rg (ah 1) (fC (.int 7))) (f2 cq (f2 Ad (f2 bh (ah 0) (fC (.int 2))) (f2 bh (ah 0) (fC (.int 1)))) (fC (.int 1)))))) (cW)) (aM (n9 (fB (f2 jD (f2 bh (ah 0) (fC (.int 0))) (fC (.str "word")))) (bQ (f2 bh (f2 bh (ah 0) (fC (.int 1))) (f2 cX (ah 1) (fL iy (af (f2 bh (ah 0) (fC (.int 1))) (aw)))))) (cW)) (bQ (fR aG (af (f2 bh (ah 0) (fC (.int 1))) (af (f2 dY (ah 1) (fC (.int 3))) (af (fL tG (af (f2 cX (ah 1) (fC (.int 3))) (af (fL AC (af (f2 bh (ah 0) (fC (.int 2))) (aw))) (aw)))) (aw)))))))
noncomputable def kO (aA aB aG:List D->R D):cn:=aM (lW 4 (jp (aw))) (aM (jS (bR (f2 cq (f2 bh (ah 0) (fC (.int 0))) (f2 bh (ah 0) (fC (.int 1))))) (gT 2 (oA [5,6])) (aM (n9 (kP [4] (fB (f2 wA (fL iy (af (ah 4) (aw))) (ah 1)))) (aM (bU 2 (fR (aN aR 1 1) (af (ah 2) (aw)))) (yV 4 fT (af (fR aA (af (ah 6) (af (ah 2) (aw)))) (aw)))) (aM (bU 3 (fR (aN aR 1 1) (af (ah 3) (aw)))) (yV 4 fT (af (fR aA (af (ah 6) (af (ah 3) (aw)))) (aw))))) (eR [5,6] cW))) (iO 4 (bQ (fL cy (af (ah 4) (aw))))))
noncomputable def jL (aA aB aG:List D->R D):cn:=aM (lW 3 (jp (aw))) (aM (jS (h7 (af (ah 2) (aw))) (gN 4) (aM (bU 1 (fR (aN aR 1 1) (af (ah 1) (aw)))) (aM (yV 3 fT (af (fR aB (af (ah 0) (af (fC (.int 0)) (af (fC (.int 0)) (af (ah 1) (aw)))))) (aw))) (eR [4] cW)))) (iO 3 (bQ (fR (aN bg 2 4) (af (fL iy (af (f2 bh (ah 0) (fC (.int 0))) (aw))) (af (ah 3) (aw)))))))
mutual
noncomputable def aA:Nat->List D->R D
 | 0=>fun _=>un
 | n+1=>aN (gB (aA n) (aB n) (aG n)) 2 2
noncomputable def aB:Nat->List D->R D
 | 0=>fun _=>un
 | n+1=>aN (kO (aA n) (aB n) (aG n)) 4 7
noncomputable def aG:Nat->List D->R D
 | 0=>fun _=>un
 | n+1=>aN (jL (aA n) (aB n) (aG n)) 3 5
end
theorem eP (n:Nat):aA (n+1)=aN (gB (aA n) (aB n) (aG n)) 2 2:=by rw [aA]
theorem iM:∀ n:Nat,Ar 2 (aA n)
 | 0=>fun _ h=>absurd (by rw [aA]) h
 | n+1=>by rw [eP]; exact aJ
theorem iI (n:Nat):aB (n+1)=aN (kO (aA n) (aB n) (aG n)) 4 7:=by rw [aB]
theorem eF:∀ n:Nat,Ar 4 (aB n)
 | 0=>fun _ h=>absurd (by rw [aB]) h
 | n+1=>by rw [iI]; exact aJ
theorem hJ (n:Nat):aG (n+1)=aN (jL (aA n) (aB n) (aG n)) 3 5:=by rw [aG]
theorem jl:∀ n:Nat,Ar 3 (aG n)
 | 0=>fun _ h=>absurd (by rw [aG]) h
 | n+1=>by rw [hJ]; exact aJ
abbrev gF:R6:=top 32
theorem uO:aU ["_law_found","_law_due","_law_one","_law_other"] ["_law_found","_law_due"] (ax gF):=‹2›
def dX (aY:List D->R D):cn:=aM (n9 (iN (rp "str" (ah 1))) (bQ (o0 (rp "str" (ah 0)) (f2 jD (ah 0) (ah 1)))) (cW)) (aM (n9 (G4 (iN (rp "bool" (ah 1))) (iN (rp "bool" (ah 0)))) (bQ (o0 (rp "bool" (ah 1)) (o0 (rp "bool" (ah 0)) (f2 jD (ah 0) (ah 1))))) (cW)) (aM (n9 (iN (rp "int" (ah 1))) (bQ (o0 (rp "int" (ah 0)) (f2 jD (ah 0) (ah 1)))) (cW)) (aM (n9 (G4 (zN (iN (rp "tuple" (ah 0)))) (fB (f2 GN (fL iy (af (ah 0) (aw))) (fL iy (af (ah 1) (aw)))))) (bQ (fC (.bl false))) (cW)) (aM (jS (EX (af (ah 0) (af (ah 1) (aw)))) (gT 2 (oA [2,3])) (aM (n9 (zN (iN (fR aY (af (ah 2) (af (ah 3) (aw)))))) (bQ (fC (.bl false))) (cW)) (eR [2,3] cW))) (bQ (fC (.bl true)))))))
def aY:Nat->List D->R D
 | 0=>fun _=>un
 | n+1=>aN (dX (aY n)) 2 4
theorem jJ (n:Nat):aY (n+1)=aN (dX (aY n)) 2 4:=by rw [aY]
theorem fO:∀ n:Nat,Ar 2 (aY n)
 | 0=>fun _ h=>absurd (by rw [aY]) h
 | n+1=>by rw [jJ]; exact aJ
abbrev lj:R6:=inClass (top 15) 2
theorem qX:aU ["self","form","table"] ["self","form","table"] (ax lj):=‹2›
def dW:cn:=bQ (ah 2)
abbrev kX:R6:=top 18
theorem xA:aU ["many","table","rows","row"] ["many","table"] (ax kX):=‹2›
def jv:cn:=aM (lW 2 (jp (aw))) (aM (jS (bR (ah 1)) (gN 3) (aM (C6 2 (jV [none,some 3,some 0] (bR (f2 bh (ah 3) (ah 0))) (gN 0) (fA) (f2 cq (bN (ah 1) (bA) (cM (ah 2))) (ah 0)))) (eR [3] cW))) (iO 2 (bQ (fL cy (af (ah 2) (aw))))))
abbrev iW:R6:=inClass (top 17) 3
theorem oq:aU ["self","form","table"] ["self","form","table"] (ax iW):=‹2›
def bY:cn:=bQ (fR (aN jv 2 4) (af (fL iy (af (f2 bh (ah 1) (fC (.int 0))) (aw))) (af (ah 2) (aw))))
abbrev iq:R6:=inClass (top 15) 5
theorem mz:aU ["self","form"] ["self","form"] (ax iq):=‹2›
def cU:cn:=bQ (fC (.bl true))
abbrev nV:R6:=top 10
theorem zr:aU ["form","place"] ["form","place"] (ax nV):=‹2›
abbrev lJ:R6:=top 5
theorem xZ:aU ["form"] ["form"] (ax lJ):=‹2›
abbrev lE:R6:=top 6
theorem xP:aU ["form","name","place","other"] ["form","name"] (ax lE):=‹2›
abbrev gw:R6:=inClass (top 17) 5
theorem iJ:aU ["self","form"] ["self","form"] (ax gw):=‹2›
def bb:cn:=bQ (f2 bh (fR (aN kL 2 2) (af (ah 1) (af (fR (aN jC 2 4) (af (ah 1) (af (f1 (GC "name" ["Unnest"]) (ah 0)) (aw)))) (aw)))) (fC (.int 2)))
abbrev fQ:R6:=inClass (top 17) 6
theorem jY:aU ["self","form"] ["self","form"] (ax fQ):=‹2›
def bG:cn:=bQ (dR "exact" [("Unnest",(aN bb 2 2))] (ah 0) (af (ah 1) (aw)))
abbrev i9:R6:=inClass (top 15) 4
theorem oh:aU ["self","form"] ["self","form"] (ax i9):=‹2›
def dB:cn:=bQ (fC (.bl true))
abbrev iZ:R6:=top 38
theorem uN:aU ["_law_step","_law_form_here","_law_table_here","_law_more","_law_x","_law_empty","_law_inner","_law_brought","_law_later","_law_alone"] ["_law_step","_law_form_here","_law_table_here","_law_more","_law_x"] (ax iZ):=‹2›
noncomputable def fu:cn:=aM (n9 (G4 (fB (f2 jR (dR "exact" [("Step",(aN dB 2 2)),("Unnest",(aN bb 2 2))] (ah 0) (af (ah 1) (aw))) (fC (.bl false)))) (fB (f2 jR (dR "steady" [("Step",(aN cU 2 2)),("Unnest",(aN bG 2 2))] (ah 0) (af (ah 1) (aw))) (fC (.bl false))))) (bQ (fC (.bl false))) (cW)) (aM (n9 (zN (iN (fR (aY 12) (af (dR "got" [("Step",(aN dW 3 3)),("Unnest",(aN bY 3 3))] (ah 0) (af (ah 1) (af (ah 3) (aw)))) (af (dR "got" [("Step",(aN dW 3 3)),("Unnest",(aN bY 3 3))] (ah 0) (af (ah 1) (af (ah 2) (aw)))) (aw)))))) (bQ (fC (.bl false))) (cW)) (aM (bU 5 (f2 bh (jV [none,some 2] (bR (ah 3)) (gN 0) (fB (f2 jm (ah 0) (ah 1))) (ah 0)) (fC (.int 0)))) (aM (bU 6 (f2 bh (f2 bh (f2 bh (f2 bh (ah 1) (fC (.int 1))) (fC (.int 0))) (fC (.int 1))) (fC (.int 1)))) (aM (bU 7 (f2 cq (bN (ah 5) (bA) (cM (zI (fC (.int 1))))) (fR (aB 12) (af (ah 6) (af (fC (.int 0)) (af (fC (.int 0)) (af (ah 4) (aw)))))))) (aM (bU 8 (dR "put" [("Step",(aN cE 4 4)),("Unnest",(aN bd 4 6))] (ah 0) (af (ah 1) (af (dR "put" [("Step",(aN cE 4 4)),("Unnest",(aN bd 4 6))] (ah 0) (af (ah 1) (af (ah 3) (af (dG (af (ah 7) (aw))) (aw))))) (af (dG (aw)) (aw)))))) (aM (bU 9 (dR "put" [("Step",(aN cE 4 4)),("Unnest",(aN bd 4 6))] (ah 0) (af (ah 1) (af (ah 3) (af (dG (aw)) (aw)))))) (bQ (o0 (f2 KP (ah 5) (ah 9)) (o0 (f2 jm (ah 5) (ah 8)) (f2 jD (fL iy (af (ah 8) (aw))) (f2 Ad (fL iy (af (ah 9) (aw))) (fC (.int 1)))))))))))))
abbrev eN:R6:=top 36
theorem oB:aU ["_law_form_here","_law_nested_here","_law_xs","_law_rows_here","_law_keys","_law_x","_law_key"] ["_law_form_here","_law_nested_here","_law_xs"] (ax eN):=‹2›
noncomputable def bS:cn:=aM (lW 3 (fL pq (af (ah 1) (aw)))) (aM (lW 4 (jV [none] (bR (ah 1)) (gN 0) (fA) (bN (ah 0) (bA) (cM (zI (fC (.int 1))))))) (eR [1] (aM (jS (bR (ah 2)) (gN 5) (aM (bU 6 (fR (aB 12) (af (dG (af (f2 bh (ah 0) (fC (.int 0))) (af (dG (aw)) (aw)))) (af (fC (.int 0)) (af (fC (.int 0)) (af (ah 5) (aw))))))) (aM (n9 (kP [4] (fB (f2 jm (ah 6) (ah 4)))) (aM (yV 4 fT (af (ah 6) (aw))) (yV 3 fT (af (f2 cq (ah 6) (dG (af (dG (aw)) (aw)))) (aw)))) (cW)) (eR [5,6] cW)))) (iO 3 (bQ (fR (aN bg 2 4) (af (fL iy (af (f2 bh (ah 0) (fC (.int 0))) (aw))) (af (ah 3) (aw)))))))))
abbrev ir:R6:=top 37
theorem uf:aU ["_law_step","_law_form_here","_law_table_here","_law_views","_law_one","_law_both_put"] ["_law_step","_law_form_here","_law_table_here","_law_views"] (ax ir):=‹2›
noncomputable def fI:cn:=aM (n9 (G4 (fB (f2 jR (dR "exact" [("Step",(aN dB 2 2)),("Unnest",(aN bb 2 2))] (ah 0) (af (ah 1) (aw))) (fC (.bl true)))) (fB (f2 jR (dR "steady" [("Step",(aN cU 2 2)),("Unnest",(aN bG 2 2))] (ah 0) (af (ah 1) (aw))) (fC (.bl true))))) (bQ (fC (.bl false))) (cW)) (aM (bU 4 (dR "put" [("Step",(aN cE 4 4)),("Unnest",(aN bd 4 6))] (ah 0) (af (ah 1) (af (ah 2) (af (f2 bh (ah 3) (fC (.int 0))) (aw)))))) (aM (bU 5 (dR "put" [("Step",(aN cE 4 4)),("Unnest",(aN bd 4 6))] (ah 0) (af (ah 1) (af (ah 4) (af (f2 bh (ah 3) (fC (.int 1))) (aw)))))) (aM (n9 (zN (iN (fR (aY 12) (af (ah 5) (af (dR "put" [("Step",(aN cE 4 4)),("Unnest",(aN bd 4 6))] (ah 0) (af (ah 1) (af (ah 2) (af (f2 bh (ah 3) (fC (.int 1))) (aw))))) (aw)))))) (bQ (fC (.bl false))) (cW)) (bQ (fR (aY 12) (af (dR "put" [("Step",(aN cE 4 4)),("Unnest",(aN bd 4 6))] (ah 0) (af (ah 1) (af (dG (aw)) (af (dR "got" [("Step",(aN dW 3 3)),("Unnest",(aN bY 3 3))] (ah 0) (af (ah 1) (af (ah 2) (aw)))) (aw))))) (af (ah 2) (aw))))))))
abbrev ic:R6:=top 35
theorem sg:aU ["_law_table_here","_law_many","_law_firsts","_law_row_here","_law_found","_law_first"] ["_law_table_here","_law_many"] (ax ic):=‹2›
noncomputable def fH:cn:=aM (lW 2 vM) (aM (jS (bR (ah 0)) (gN 3) (sE 2 (bN (ah 3) (bA) (cM (ah 1))) (fC (.bl true)))) (aM (lW 4 (jp (aw))) (iO 2 (aM (jS (bR (fL fJ (af (fL me (af (ah 2) (aw))) (aw)))) (gN 5) (aM (yV 4 fT (af (f2 cq (ah 5) (dG (af (fL cy (af (jV [none,some 1,some 5] (bR (ah 0)) (gN 0) (fB (f2 jD (bN (ah 0) (bA) (cM (ah 1))) (ah 2))) (bN (ah 0) (cM (ah 1)) (bA))) (aw))) (aw)))) (aw))) (eR [5] cW))) (iO 4 (bQ (fL cy (af (ah 4) (aw)))))))))
abbrev gE:R6:=top 20
theorem ra:aU ["_law_script","_law_k"] ["_law_script","_law_k"] (ax gE):=‹2›
abbrev jI:R6:=top 22
theorem wD:aU ["_law_script","_law_k","_law_x"] ["_law_script","_law_k"] (ax jI):=‹2›
abbrev ja:R6:=top 31
theorem uw:aU ["_law_form_here","_law_many","_law_script","_law_start","_law_most","_law_rows_here","_law_k","_law_x"] ["_law_form_here","_law_many","_law_script","_law_start","_law_most"] (ax ja):=‹2›
noncomputable def gl:cn:=aM (lW 5 (jp (aw))) (aM (jS (rH (af (ah 3) (af (fL yy (af (fL tG (af (fL iy (af (ah 2) (aw))) (af (f2 cq (ah 3) (fC (.int 5))) (aw)))) (af (f2 cq (ah 3) (ah 4)) (aw)))) (aw)))) (gN 6) (aM (bU 7 (fR (aN cH 2 3) (af (ah 2) (af (ah 6) (aw))))) (aM (yV 5 fT (af (fR (aB 12) (af (ah 0) (af (ah 1) (af (f2 bh (jp (af (f2 cX (f2 dY (ah 7) (fC (.int 2))) (fC (.int 4))) (af (f2 dY (ah 7) (fC (.int 2))) (aw)))) (f2 cX (ah 7) (fC (.int 2)))) (af (fR (aN aR 1 1) (af (ah 7) (aw))) (aw)))))) (aw))) (eR [6,7] cW)))) (iO 5 (bQ (fR (aN bg 2 4) (af (fL iy (af (f2 bh (ah 0) (fC (.int 0))) (aw))) (af (ah 5) (aw)))))))
abbrev fh:R6:=top 34
theorem pE:aU ["_law_form_here","_law_inner"] ["_law_form_here"] (ax fh):=‹2›
def dI:cn:=aM (bU 1 (f2 bh (f2 bh (f2 bh (f2 bh (ah 0) (fC (.int 1))) (fC (.int 0))) (fC (.int 1))) (fC (.int 1)))) (bQ (dG (af (f2 cq (f2 bh (ah 0) (fC (.int 0))) (f2 bh (ah 1) (fC (.int 0)))) (af (f2 bh (ah 1) (fC (.int 1))) (aw)))))
abbrev jQ:R6:=top 23
theorem wI:aU ["_law_base","_law_k","_law_letters","_law_size","_law_name_here","_law_j","_law_step"] ["_law_base","_law_k"] (ax jQ):=‹2›
abbrev jb:R6:=top 24
theorem uM:aU ["_law_x","_law_low","_law_letters","_law_one","_law_other","_law_some","_law_kept","_law_k"] ["_law_x"] (ax jb):=‹2›
abbrev iC:R6:=top 25
theorem wX:aU ["_law_x","_law_base","_law_deep","_law_inner"] ["_law_x","_law_base","_law_deep"] (ax iC):=‹2›
abbrev iH:R6:=top 26
theorem wL:aU ["_law_x","_law_base","_law_start","_law_many","_law_more","_law_deep","_law_key","_law_rest","_law_k"] ["_law_x","_law_base","_law_start","_law_many","_law_more","_law_deep"] (ax iH):=‹2›
noncomputable def iF (bc aI:List D->R D):cn:=aM (n9 (G4 (fB (f2 jD (ah 2) (fC (.int 0)))) (fB (f2 wA (f2 cX (ah 0) (fC (.int 3))) (fC (.int 2))))) (bQ (fR (aN cP 1 8) (af (f2 dY (ah 0) (fC (.int 3))) (aw)))) (cW)) (aM (bU 3 (fR aI (af (f2 dY (ah 0) (fC (.int 3))) (af (ah 1) (af (f2 cX (f2 dY (ah 0) (fC (.int 36))) (fC (.int 12))) (af (f2 cq (fC (.int 1)) (f2 cX (f2 dY (ah 0) (fC (.int 3))) (fC (.int 2)))) (af (f2 cX (f2 dY (ah 0) (fC (.int 6))) (fC (.int 3))) (af (f2 Ad (ah 2) (fC (.int 1))) (aw))))))))) (bQ (dG (af (fC (.str "rows")) (af (ah 3) (af (f2 jD (f2 cX (f2 dY (ah 0) (fC (.int 18))) (fC (.int 2))) (fC (.int 1))) (aw)))))))
noncomputable def jM (bc aI:List D->R D):cn:=aM (lW 6 (jp (aw))) (aM (lW 7 (jp (aw))) (aM (jS (h7 (af (f2 cq (ah 3) (ah 4)) (aw))) (gN 8) (aM (bU 0 (fR (aN aR 1 1) (af (ah 0) (aw)))) (aM (n9 (fB (f2 wA (ah 8) (ah 3))) (yV 6 fT (af (dG (af (fR (aN cx 2 7) (af (ah 1) (af (f2 cq (ah 2) (ah 8)) (aw)))) (af (fR (aN cP 1 8) (af (ah 0) (aw))) (aw)))) (aw))) (yV 7 fT (af (dG (af (fR (aN cx 2 7) (af (ah 1) (af (f2 cq (ah 2) (ah 8)) (aw)))) (af (fR bc (af (ah 0) (af (ah 1) (af (ah 5) (aw))))) (aw)))) (aw)))) (eR [8] cW)))) (iO 7 (iO 6 (bQ (dG (af (fL cy (af (ah 6) (aw))) (af (fL cy (af (ah 7) (aw))) (aw)))))))))
mutual
noncomputable def bc:Nat->List D->R D
 | 0=>fun _=>un
 | n+1=>aN (iF (bc n) (aI n)) 3 4
noncomputable def aI:Nat->List D->R D
 | 0=>fun _=>un
 | n+1=>aN (jM (bc n) (aI n)) 6 9
end
theorem fw (n:Nat):bc (n+1)=aN (iF (bc n) (aI n)) 3 4:=by rw [bc]
theorem mE:∀ n:Nat,Ar 3 (bc n)
 | 0=>fun _ h=>absurd (by rw [bc]) h
 | n+1=>by rw [fw]; exact aJ
theorem gL (n:Nat):aI (n+1)=aN (jM (bc n) (aI n)) 6 9:=by rw [aI]
theorem gf:∀ n:Nat,Ar 6 (aI n)
 | 0=>fun _ h=>absurd (by rw [aI]) h
 | n+1=>by rw [gL]; exact aJ
abbrev d7:R6:=top 33
theorem n8:aU ["_law_script","_law_some","_law_x","_law_base","_law_many","_law_inside","_law_key","_law_deep","_law_inner","_law_name_here"] ["_law_script","_law_some"] (ax d7):=‹2›
noncomputable def cY:cn:=aM (bU 2 (fR (aN cH 2 3) (af (ah 0) (af (fC (.int 0)) (aw))))) (aM (bU 3 (f2 cX (f2 ph (fR (aN dJ 2 2) (af (ah 0) (af (fC (.int 1)) (aw)))) (fC (.int 48271))) (fC (.int 2147483647)))) (aM (bU 4 (f2 cq (fC (.int 1)) (f2 cX (ah 2) (fC (.int 4))))) (aM (bU 5 (f2 cq (fC (.int 1)) (f2 cX (f2 dY (ah 2) (fC (.int 4))) (fC (.int 4))))) (aM (n9 (fB (f2 jD (f2 cX (f2 dY (ah 2) (fC (.int 16))) (fC (.int 8))) (fC (.int 3)))) (aM (bU 4 (f2 Ad (fC (.int 7)) (f2 cX (f2 dY (ah 2) (fC (.int 128))) (fC (.int 3))))) (bU 5 (f2 Ad (fC (.int 8)) (ah 4)))) (cW)) (aM (bU 6 (f2 bh (fR (aI 12) (af (fR (aN aR 1 1) (af (ah 2) (aw))) (af (ah 3) (af (fC (.int 0)) (af (ah 4) (af (fC (.int 0)) (af (fC (.int 0)) (aw)))))))) (fC (.int 0)))) (aM (bU 7 (f2 bh (jp (af (fC (.int 0)) (af (fC (.int 0)) (af (fC (.int 1)) (af (fC (.int 2)) (aw)))))) (f2 cX (f2 dY (ah 2) (fC (.int 1024))) (fC (.int 4))))) (aM (bU 8 (fR (aI 12) (af (f2 cq (fR (aN aR 1 1) (af (ah 2) (aw))) (fC (.int 1))) (af (ah 3) (af (fC (.int 8)) (af (ah 5) (af (f2 cX (f2 dY (ah 2) (fC (.int 4096))) (fC (.int 4))) (af (ah 7) (aw))))))))) (aM (bU 9 (fR (aN cx 2 7) (af (ah 3) (af (f2 bh (jp (af (fC (.int 16)) (af (fC (.int 8)) (af (fC (.int 23)) (af (fC (.int 17)) (aw)))))) (f2 cX (f2 dY (ah 2) (fC (.int 16384))) (fC (.int 4)))) (aw))))) (bQ (dG (af (ah 6) (af (dG (af (dG (af (ah 9) (af (dG (af (fC (.str "rows")) (af (ah 8) (af (ah 1) (aw))))) (aw)))) (aw))) (aw)))))))))))))
abbrev t9:R6:=top 39
theorem HX:aU ["_law_script","_law_x","_law_some","_law_form_here","_law_many","_law_rows_here","_law_table_here","_law_step","_law_one","_law_other","_law_more","_law_y","_law_k"] ["_law_script"] (ax t9):=‹2›
noncomputable def tO:cn:=aM (bU 1 (fR (aN aR 1 1) (af (fR (aN cH 2 3) (af (ah 0) (af (fC (.int 2)) (aw)))) (aw)))) (aM (bU 2 (f2 jD (f2 cX (ah 1) (fC (.int 2))) (fC (.int 1)))) (aM (bU 3 (fR (aN cY 2 10) (af (ah 0) (af (ah 2) (aw))))) (aM (bU 4 (fL iy (af (f2 bh (ah 3) (fC (.int 0))) (aw)))) (aM (bU 5 (fR (aN gl 5 8) (af (fR (aN dI 1 2) (af (ah 3) (aw))) (af (ah 4) (af (ah 0) (af (fC (.int 2)) (af (fC (.int 50)) (aw)))))))) (aM (bU 6 (fR (aN fH 2 6) (af (jV [none,none,some 1] (e7 (af (ah 5) (aw))) (gT 2 (oA [0,1])) (fB (f2 jD (f2 oY (f2 uJ (f2 dY (ah 2) (fC (.int 5))) (f2 cX (ah 0) (fC (.int 19)))) (fC (.int 1))) (fC (.int 1)))) (ah 1)) (af (ah 4) (aw))))) (aM (bU 7 (fNew "Unnest" ["name"] (af (f2 bh (f2 bh (f2 bh (ah 3) (fC (.int 1))) (fC (.int 0))) (fC (.int 0))) (aw)))) (aM (n9 (iN (ah 2)) (aM (bU 8 (fL cy (af (jV [none,none,some 1] (e7 (af (ah 5) (aw))) (gT 2 (oA [0,1])) (fB (f2 jD (f2 oY (f2 uJ (f2 dY (ah 2) (fC (.int 3))) (f2 cX (ah 0) (fC (.int 20)))) (fC (.int 1))) (fC (.int 1)))) (ah 1)) (aw)))) (aM (bU 9 (fL cy (af (jV [none,none,some 1] (e7 (af (ah 5) (aw))) (gT 2 (oA [0,1])) (fB (f2 jD (f2 oY (f2 uJ (f2 dY (ah 2) (fC (.int 7))) (f2 cX (ah 0) (fC (.int 21)))) (fC (.int 1))) (fC (.int 1)))) (ah 1)) (aw)))) (bQ (fR (aN fI 4 6) (af (ah 7) (af (ah 3) (af (ah 6) (af (jp (af (ah 8) (af (ah 9) (aw)))) (aw))))))))) (cW)) (aM (bU 10 (ah 6)) (aM (bU 11 (ah 1)) (eR [0,2,4,5,8,9] (aM (jS (h7 (af (fC (.int 40)) (aw))) (gN 12) (aM (n9 (fB (f2 jD (fL iy (af (ah 10) (aw))) (fL iy (af (ah 6) (aw))))) (aM (bU 11 (fR (aN aR 1 1) (af (f2 cq (ah 11) (ah 12)) (aw)))) (bU 10 (fR (aN bS 3 7) (af (ah 3) (af (ah 6) (af (jp (af (ah 11) (aw))) (aw))))))) (cW)) (eR [12] cW))) (aM (n9 (fB (f2 jD (fL iy (af (ah 10) (aw))) (fL iy (af (ah 6) (aw))))) (aM (bU 6 (dG (aw))) (bU 10 (fR (aN bS 3 7) (af (ah 3) (af (ah 6) (af (jp (af (ah 11) (aw))) (aw))))))) (cW)) (bQ (fR (aN fu 5 10) (af (ah 7) (af (ah 3) (af (ah 6) (af (ah 10) (af (ah 1) (aw))))))))))))))))))))
theorem Lp:(["row","many"]:List Str).Nodup:=by decide +kernel
theorem Mm:(["row","many","taken"]:List Str).Nodup:=by decide +kernel
theorem Jn:(["key","within"]:List Str).Nodup:=by decide +kernel
theorem Fa:(["key","within"]:List Str).Nodup:=by decide +kernel
theorem MV:(["row","many"]:List Str).Nodup:=by decide +kernel
theorem Mv:(["_law_key","_law_found"]:List Str).Nodup:=by decide +kernel
theorem MF:(["within","row","many"]:List Str).Nodup:=by decide +kernel
theorem Lx:(["field"]:List Str).Nodup:=by decide +kernel
theorem Nf:(["_law_row_here","_law_table_here"]:List Str).Nodup:=by decide +kernel
theorem Jk:(["_law_row_here"]:List Str).Nodup:=by decide +kernel
theorem Kl:(["_law_row_here","_law_many","_law_first"]:List Str).Nodup:=by decide +kernel
theorem GU:(["_law_k","_law_row_here","_law_x"]:List Str).Nodup:=by decide +kernel
theorem G3:(["_law_k","_law_row_here","_law_x"]:List Str).Nodup:=by decide +kernel
theorem GR:(["_law_k","_law_row_here","_law_x"]:List Str).Nodup:=by decide +kernel
section
variable {P:RO} {w:RN} {K:QN} {mg:Str->Option RM} {base:RT} [aV]
theorem xM {f:RP} :cI P w K mg base 0 ["self","form","table","view"] "Step.put" kW f cE :=
 ⟨fun cdv A outer s H E hr hp=>(az (aH (aa (xv 3))))⟩
theorem wf {f cL T:RP} (aK:mg "tuple"=none) (eD:mg "sorted"=none) (lamB:BD mg base cL T) (lamC:vy K f (.ref cL)) (lamT:∀ H,aV.tab H->H T=some (.ext (pB T ⟨19,34,19,56⟩ ((("sorted_by":Str) ++ ".<locals>.") ++ "<lambda>")))):Eo P w K mg base 0 ["many","rows"] "sorted_by" jH f iw :=
 ⟨fun cdv A outer s H E hc hr hp=>by
  obtain rfl:=hc.one lamC
  exact(az (aH (bB cj rfl aK Rz (ae (Cw (j:=0) hr rfl eD lamB rfl lamT (aa (xv 1)) rfl rfl (Or.inr (Or.inl rfl)) rfl rfl rfl (fun _ _ _=>rfl) rfl rfl rfl (by decide) rfl rfl rfl rfl rfl) (aj)))))⟩
theorem B2 {f:RP} (pK:mg "dict"=none):cI P w K mg base 0 ["many","rows"] "by_key" oP f lY :=
 ⟨fun cdv A outer s H E hr hp=>(az (aH (bB (Al rfl hr.units) rfl pK RA (ae (iK (N:=["row","many"]) (ix:=[none,some 0]) rfl (.of rfl) (eG rfl) (dA (aa (xv 1))) ⟨fun _ _ _ _ _ _=>⟨aP (i:=0) Lp rfl (Or.inl rfl),gq,bT (ae (du (aa (xv 0)) (d9) (eA (aa (xv 1)))) (ae (aa (xv 0)) (aj)))⟩⟩) (aj)))))⟩
theorem yn {f:RP} (sL:Callee P w K mg base 1 "by_key" ["many","rows"] (aN lY 2 2)) (mD:Callee P w K mg base 1 "sorted_by" ["many","rows"] (aN iw 2 2)) (fU:mg "list"=none):cI P w K mg base 1 ["many","rows","others","taken"] "standing" lM f jx :=
 ⟨fun cdv A outer s H E hr hp=>(ak (aF (i:=3) yg.nd rfl ‹1› (ay sL aJ hr ‹0› (ae (aa (xv 0)) (ae (aa (xv 1)) (aj))))) (az (aH (ay mD aJ hr ‹0› (ae (aa (xv 0)) (ae (ao bi au (bB zX rfl fU RB (ae (aa (xv 1)) (aj))) (iK (N:=["row","many","taken"]) (ix:=[none,some 0,some 3]) rfl (.of rfl) (eG rfl) (dA (aa (xv 2))) ⟨fun _ _ _ _ _ _=>⟨aP (i:=0) Mm rfl (Or.inl rfl),ju (bL (Br hr.units) au (du (aa (xv 0)) (d9) (eA (aa (xv 1)))) (aa (xv 2)) rfl),aa (xv 0)⟩⟩)) (aj)))))))⟩
theorem zU {f:RP} (pK:mg "dict"=none) (aK:mg "tuple"=none):cI P w K mg base 0 ["many","rows","groups","row"] "grouped" nZ f jj :=
 ⟨fun cdv A outer s H E hr hp=>(ak (EE (i:=2) zo.nd rfl ‹1›) (ak (d5 hp rfl (dA (aa (xv 1))) (aP (i:=3) zo.nd rfl ‹1›) (ak (E9 hr.units (xv 2) (du (aa (xv 3)) (d9) (eA (aa (xv 0)))) (du (aa (xv 3)) (eA (aa (xv 0))) (d9))) (cf [3] aW))) (Bk 2 (az (aH (bB (Am rfl hr.units) rfl pK RA (ae (iK (N:=["key","within"]) (ix:=[none,none]) rfl (.of rfl) (gQ rfl) (qb (aa (xv 2))) ⟨fun _ _ _ _ _ _=>⟨i7 (g:=oA [0,1]) rfl (bV (aP (i:=0) Jn rfl (Or.inl rfl)) (bV (aP (i:=1) Jn rfl (Or.inl rfl)) (gC))),gq,bT (ae (aa (xv 0)) (ae (bB cj rfl aK Rz (ae (aa (xv 1)) (aj))) (aj)))⟩⟩) (aj))))))))⟩
theorem uK {f:RP} (nW:Callee P w K mg base 1 "grouped" ["many","rows"] (aN jj 2 4)) (ow:Callee P w K mg base 2 "standing" ["many","rows","others"] (aN jx 3 4)) (bK:mg "len"=none):cI P w K mg base 2 ["self","form","table","view","many","rows"] "Unnest.put" i6 f bd :=
 ⟨fun cdv A outer s H E hr hp=>(ak (aF (i:=4) og.nd rfl ‹1› (bx bW rfl bK PySem.boot_len (ae (aQ (aa (xv 1)) (ai) (fun _ _=>rfl)) (aj)))) (ak (by first | exact HH (i:=5) og.nd rfl ‹1› (N:=["key","within"]) (ix:=[none,none]) rfl (.of rfl) (gQ rfl) (qb (ay nW aJ hr ‹0› (ae (aa (xv 4)) (ae (aa (xv 3)) (aj))))) ⟨fun _ _ _ _ _ _=>⟨i7 (g:=oA [0,1]) rfl (bV (aP (i:=0) Fa rfl (Or.inl rfl)) (bV (aP (i:=1) Fa rfl (Or.inl rfl)) (gC))),gq,ao bi au (aa (xv 0)) (bT (ae (aa (xv 1)) (aj)))⟩⟩ | exact aF (i:=5) og.nd rfl ‹1› (iK (N:=["key","within"]) (ix:=[none,none]) rfl (.of rfl) (gQ rfl) (qb (ay nW aJ hr ‹0› (ae (aa (xv 4)) (ae (aa (xv 3)) (aj))))) ⟨fun _ _ _ _ _ _=>⟨i7 (g:=oA [0,1]) rfl (bV (aP (i:=0) Fa rfl (Or.inl rfl)) (bV (aP (i:=1) Fa rfl (Or.inl rfl)) (gC))),gq,ao bi au (aa (xv 0)) (bT (ae (aa (xv 1)) (aj)))⟩⟩)) (az (aH (ay ow aJ hr ‹0› (ae (aa (xv 4)) (ae (aa (xv 5)) (ae (iK (N:=["row","many"]) (ix:=[none,some 4]) rfl (.of rfl) (eG rfl) (dA (aa (xv 2))) ⟨fun _ _ _ _ _ _=>⟨aP (i:=0) MV rfl (Or.inl rfl),ju (bL (dq hr.units) au (aQ (aa (xv 0)) (aa (xv 1)) (fun _ _=>rfl)) (bT (aj)) (cz _)),aa (xv 0)⟩⟩) (aj)))))))))⟩
theorem wx {f:RP} :cI P w K mg base 0 ["_law_x"] "_law_next" jK f aR :=
 ⟨fun cdv A outer s H E hr hp=>(az (aH (ao bC bD (ao bi au (ao bi au (ao li ly (aa (xv 0)) (aa (xv 0))) (ao li ly (ai) (aa (xv 0)))) (ai)) (ai))))⟩
theorem tI {f:RP} (aK:mg "tuple"=none) (eD:mg "sorted"=none) (fU:mg "list"=none):cI P w K mg base 0 ["_law_many","_law_rows_here","_law_found","_law_row_here"] "_law_sorted" il f bg :=
 ⟨fun cdv A outer s H E hr hp=>(ak (fK (i:=2) tY.nd rfl ‹1› (pN)) (ak (d5 hp rfl (dA (aa (xv 1))) (aP (i:=3) tY.nd rfl ‹1›) (ak (yv (hr.units) (xv 2) (du (aa (xv 3)) (d9) (eA (aa (xv 0)))) (aa (xv 3))) (cf [3] aW))) (e8 2 (az (aH (bB cj rfl aK Rz (ae (iK (N:=["_law_key","_law_found"]) (ix:=[none,some 2]) rfl (.of rfl) (eG rfl) (dA (bx lN rfl eD iT (ae (bB (tN rfl) rfl fU RB (ae (aa (xv 2)) (aj))) (aj)))) ⟨fun _ _ _ _ _ _=>⟨aP (i:=0) Mv rfl (Or.inl rfl),gq,Fk hr.units (aa (xv 1)) (aa (xv 0)) (fun _ _=>rfl)⟩⟩) (aj))))))))⟩
theorem uz {n:Nat} {f:RP} (aC:Callee P w K mg base 1 "_law_next" ["_law_x"] (aN aR 1 1)) (bo:Callee P w K mg base 1 "_law_sorted" ["_law_many","_law_rows_here"] (aN bg 2 4)) (bK:mg "len"=none) (kG:mg "max"=none) (iB:mg "int"=none) (aK:mg "tuple"=none) (bH:mg "range"=none) {aA:List D->R D} (gh:Callee P w K mg base (1+n) "_law_value" ["_law_kind_here","_law_x"] aA) (L__law_value:Ar 2 aA) {aB:List D->R D} (cD:Callee P w K mg base (1+n) "_law_row" ["_law_form_here","_law_many","_law_head","_law_tail"] aB) (L__law_row:Ar 4 aB) {aG:List D->R D} (jO:Callee P w K mg base (1+n) "_law_rows" ["_law_form_here","_law_x","_law_many"] aG) (L__law_rows:Ar 3 aG):cI P w K mg base (1+n) ["_law_kind_here","_law_x"] "_law_value" gA f (gB aA aB aG) :=
 ⟨fun cdv A outer s H E hr hp=>(ak (cG (bL (dq hr.units) au (aQ (aa (xv 0)) (ai) (fun _ _=>rfl)) (ip) (cz _)) (az (aH (ao bi au (aQ (aa (xv 0)) (ai) (fun _ _=>rfl)) (ao bC bD (ao qt p6 (aa (xv 1)) (ai)) (ao bi au (ao pJ p8 (aQ (aa (xv 0)) (ai) (fun _ _=>rfl)) (aQ (aa (xv 0)) (ai) (fun _ _=>rfl))) (ai)))))) (aW)) (ak (cG (bL (dq hr.units) au (aQ (aa (xv 0)) (ai) (fun _ _=>rfl)) (ip) (cz _)) (az (aH (aQ (aQ (aa (xv 0)) (ai) (fun _ _=>rfl)) (ao bC bD (aa (xv 1)) (bx bW rfl bK PySem.boot_len (ae (aQ (aa (xv 0)) (ai) (fun _ _=>rfl)) (aj)))) (fun _ _=>rfl)))) (aW)) (az (aH (ay jO L__law_rows hr ‹0› (ae (aQ (aa (xv 0)) (ai) (fun _ _=>rfl)) (ae (ao bq cm (aa (xv 1)) (ai)) (ae (bx (se rfl) rfl kG RC (ae (ao bC bD (aa (xv 1)) (ai)) (ae (bB yY rfl iB RD (ae (aQ (aa (xv 0)) (ai) (fun _ _=>rfl)) (aj))) (aj)))) (aj)))))))))⟩
theorem xC {n:Nat} {f:RP} (aC:Callee P w K mg base 1 "_law_next" ["_law_x"] (aN aR 1 1)) (bo:Callee P w K mg base 1 "_law_sorted" ["_law_many","_law_rows_here"] (aN bg 2 4)) (bK:mg "len"=none) (kG:mg "max"=none) (iB:mg "int"=none) (aK:mg "tuple"=none) (bH:mg "range"=none) {aA:List D->R D} (gh:Callee P w K mg base (1+n) "_law_value" ["_law_kind_here","_law_x"] aA) (L__law_value:Ar 2 aA) {aB:List D->R D} (cD:Callee P w K mg base (1+n) "_law_row" ["_law_form_here","_law_many","_law_head","_law_tail"] aB) (L__law_row:Ar 4 aB) {aG:List D->R D} (jO:Callee P w K mg base (1+n) "_law_rows" ["_law_form_here","_law_x","_law_many"] aG) (L__law_rows:Ar 3 aG):cI P w K mg base (1+n) ["_law_form_here","_law_many","_law_head","_law_tail","_law_row_here","_law_name_here","_law_kind_here"] "_law_row" jo f (kO aA aB aG) :=
 ⟨fun cdv A outer s H E hr hp=>(ak (fK (i:=4) xx.nd rfl ‹1› (lg (aj))) (ak (d5 hp rfl (dA (ao bi au (aQ (aa (xv 0)) (ai) (fun _ _=>rfl)) (aQ (aa (xv 0)) (ai) (fun _ _=>rfl)))) (i7 (g:=oA [5,6]) rfl (bV (aP (i:=5) xx.nd rfl ‹1›) (bV (aP (i:=6) xx.nd rfl ‹1›) (gC)))) (ak (cG (ug [4] (bL (ud hr.units) au (bx bW rfl bK PySem.boot_len (ae (aa (xv 4)) (aj))) (aa (xv 1)) (cz _))) (ak (aF (i:=2) xx.nd rfl ‹1› (ay aC aJ hr ‹0› (ae (aa (xv 2)) (aj)))) (az (lK RK RL dH fj (xv 4) (ae (ay gh L__law_value hr ‹0› (ae (aa (xv 6)) (ae (aa (xv 2)) (aj)))) (aj))))) (ak (aF (i:=3) xx.nd rfl ‹1› (ay aC aJ hr ‹0› (ae (aa (xv 3)) (aj)))) (az (lK RK RL dH fj (xv 4) (ae (ay gh L__law_value hr ‹0› (ae (aa (xv 6)) (ae (aa (xv 3)) (aj)))) (aj)))))) (cf [5,6] aW))) (e8 4 (az (aH (bB cj rfl aK Rz (ae (aa (xv 4)) (aj))))))))⟩
theorem wt {n:Nat} {f:RP} (aC:Callee P w K mg base 1 "_law_next" ["_law_x"] (aN aR 1 1)) (bo:Callee P w K mg base 1 "_law_sorted" ["_law_many","_law_rows_here"] (aN bg 2 4)) (bK:mg "len"=none) (kG:mg "max"=none) (iB:mg "int"=none) (aK:mg "tuple"=none) (bH:mg "range"=none) {aA:List D->R D} (gh:Callee P w K mg base (1+n) "_law_value" ["_law_kind_here","_law_x"] aA) (L__law_value:Ar 2 aA) {aB:List D->R D} (cD:Callee P w K mg base (1+n) "_law_row" ["_law_form_here","_law_many","_law_head","_law_tail"] aB) (L__law_row:Ar 4 aB) {aG:List D->R D} (jO:Callee P w K mg base (1+n) "_law_rows" ["_law_form_here","_law_x","_law_many"] aG) (L__law_rows:Ar 3 aG):cI P w K mg base (1+n) ["_law_form_here","_law_x","_law_many","_law_rows_here","_law_k"] "_law_rows" iu f (jL aA aB aG) :=
 ⟨fun cdv A outer s H E hr hp=>(ak (fK (i:=3) xt.nd rfl ‹1› (lg (aj))) (ak (d5 hp rfl (jr rfl bH (ae (aa (xv 2)) (aj))) (aP (i:=4) xt.nd rfl ‹1›) (ak (aF (i:=1) xt.nd rfl ‹1› (ay aC aJ hr ‹0› (ae (aa (xv 1)) (aj)))) (ak (lK RK RL dH fj (xv 3) (ae (ay cD L__law_row hr ‹0› (ae (aa (xv 0)) (ae (ai) (ae (ai) (ae (aa (xv 1)) (aj)))))) (aj))) (cf [4] aW)))) (e8 3 (az (aH (ay bo aJ hr ‹0› (ae (bx bW rfl bK PySem.boot_len (ae (aQ (aa (xv 0)) (ai) (fun _ _=>rfl)) (aj))) (ae (aa (xv 3)) (aj)))))))))⟩
theorem mL {f__law_value:RP} {fd__law_value:Sz} (F__law_value:wj K "_law_value" "_law_value" gA f__law_value fd__law_value) (kR:Binds K fd__law_value ["_law_kind_here","_law_x"] []) (m__law_value:mg "_law_value"=some (.ref f__law_value)) {f__law_row:RP} {fd__law_row:Sz} (F__law_row:wj K "_law_row" "_law_row" jo f__law_row fd__law_row) (oG:Binds K fd__law_row ["_law_form_here","_law_many","_law_head","_law_tail"] []) (m__law_row:mg "_law_row"=some (.ref f__law_row)) {f__law_rows:RP} {fd__law_rows:Sz} (F__law_rows:wj K "_law_rows" "_law_rows" iu f__law_rows fd__law_rows) (mO:Binds K fd__law_rows ["_law_form_here","_law_x","_law_many"] []) (m__law_rows:mg "_law_rows"=some (.ref f__law_rows)) (aC:Callee P w K mg base 1 "_law_next" ["_law_x"] (aN aR 1 1)) (bo:Callee P w K mg base 1 "_law_sorted" ["_law_many","_law_rows_here"] (aN bg 2 4)) (bK:mg "len"=none) (kG:mg "max"=none) (iB:mg "int"=none) (aK:mg "tuple"=none) (bH:mg "range"=none):∀ n:Nat,Callee P w K mg base (1+n) "_law_value" ["_law_kind_here","_law_x"] (aA n)/\Callee P w K mg base (1+n) "_law_row" ["_law_form_here","_law_many","_law_head","_law_tail"] (aB n)/\Callee P w K mg base (1+n) "_law_rows" ["_law_form_here","_law_x","_law_many"] (aG n)
 | 0=>by
  rw [aA]; rw [aB]; rw [aG]
  exact⟨fY 1 F__law_value kR m__law_value,fY 1 F__law_row oG m__law_row,fY 1 F__law_rows mO m__law_rows⟩
 | n+1=>by
  have ih:=mL F__law_value kR m__law_value F__law_row oG m__law_row F__law_rows mO m__law_rows aC bo bK kG iB aK bH n
  rw [eP]; rw [iI]; rw [hJ]
  exact⟨bn F__law_value kR m__law_value ux (cI.ok (uz aC bo bK kG iB aK bH ih.1 (iM n) ih.2.1 (eF n) ih.2.2 (jl n))),bn F__law_row oG m__law_row xx (cI.ok (xC aC bo bK kG iB aK bH ih.1 (iM n) ih.2.1 (eF n) ih.2.2 (jl n))),bn F__law_rows mO m__law_rows xt (cI.ok (wt aC bo bK kG iB aK bH ih.1 (iM n) ih.2.1 (eF n) ih.2.2 (jl n)))⟩
theorem uF {n:Nat} {f:RP} (bJ:mg "isinstance"=none) (sF:mg "str"=none) (lB:mg "bool"=none) (iB:mg "int"=none) (aK:mg "tuple"=none) (bK:mg "len"=none) (vO:mg "zip"=none) {aY:List D->R D} (cQ:Callee P w K mg base (0+n) "_law_alike" ["_law_found","_law_due"] aY) (L__law_alike:Ar 2 aY):cI P w K mg base (0+n) ["_law_found","_law_due","_law_one","_law_other"] "_law_alike" gF f (dX aY) :=
 ⟨fun cdv A outer s H E hr hp=>(ak (cG (e9 (iY yd rfl bJ rfl sF RE (aa (xv 1)))) (az (aH (mZ (iY yd rfl bJ rfl sF RE (aa (xv 0))) (rT (jG (dq hr.units) au (aa (xv 0)) (aa (xv 1)) (cz _)))))) (aW)) (ak (cG (J9 (sR (e9 (iY n5 rfl bJ rfl lB RF (aa (xv 1)))) (o9 (e9 (iY n5 rfl bJ rfl lB RF (aa (xv 0))))))) (az (aH (mZ (iY n5 rfl bJ rfl lB RF (aa (xv 1))) (mZ (iY n5 rfl bJ rfl lB RF (aa (xv 0))) (rT (jG (dq hr.units) au (aa (xv 0)) (aa (xv 1)) (cz _))))))) (aW)) (ak (cG (e9 (iY yt rfl bJ rfl iB RD (aa (xv 1)))) (az (aH (mZ (iY yt rfl bJ rfl iB RD (aa (xv 0))) (rT (jG (dq hr.units) au (aa (xv 0)) (aa (xv 1)) (cz _)))))) (aW)) (ak (cG (J9 (sR (rM (e9 (iY yU rfl bJ rfl aK Rz (aa (xv 0))))) (o9 (bL (HM hr.units) au (bx bW rfl bK PySem.boot_len (ae (aa (xv 0)) (aj))) (bx bW rfl bK PySem.boot_len (ae (aa (xv 1)) (aj))) (cz _))))) (az (aH (fF))) (aW)) (ak (d5 hp rfl (FQ rfl vO (ae (aa (xv 0)) (ae (aa (xv 1)) (aj)))) (i7 (g:=oA [2,3]) rfl (bV (aP (i:=2) uO.nd rfl ‹1›) (bV (aP (i:=3) uO.nd rfl ‹1›) (gC)))) (ak (cG (rM (e9 (ay cQ L__law_alike hr ‹0› (ae (aa (xv 2)) (ae (aa (xv 3)) (aj)))))) (az (aH (fF))) (aW)) (cf [2,3] aW))) (az (aH (fF))))))))⟩
theorem mI {f__law_alike:RP} {fd__law_alike:Sz} (F__law_alike:wj K "_law_alike" "_law_alike" gF f__law_alike fd__law_alike) (kT:Binds K fd__law_alike ["_law_found","_law_due"] []) (m__law_alike:mg "_law_alike"=some (.ref f__law_alike)) (bJ:mg "isinstance"=none) (sF:mg "str"=none) (lB:mg "bool"=none) (iB:mg "int"=none) (aK:mg "tuple"=none) (bK:mg "len"=none) (vO:mg "zip"=none):∀ n:Nat,Callee P w K mg base (0+n) "_law_alike" ["_law_found","_law_due"] (aY n)
 | 0=>by
  rw [aY]
  exact fY 0 F__law_alike kT m__law_alike
 | n+1=>by
  have ih:=mI F__law_alike kT m__law_alike bJ sF lB iB aK bK vO n
  rw [jJ]
  exact bn F__law_alike kT m__law_alike uO (cI.ok (uF bJ sF lB iB aK bK vO ih (fO n)))
theorem x9 {f:RP} :cI P w K mg base 0 ["self","form","table"] "Step.got" lj f dW :=
 ⟨fun cdv A outer s H E hr hp=>(az (aH (aa (xv 2))))⟩
theorem xH {f:RP} (aK:mg "tuple"=none):cI P w K mg base 0 ["many","table","rows","row"] "unnested" kX f jv :=
 ⟨fun cdv A outer s H E hr hp=>(ak (fK (i:=2) xA.nd rfl ‹1› (lg (aj))) (ak (d5 hp rfl (dA (aa (xv 1))) (aP (i:=3) xA.nd rfl ‹1›) (ak (GL (xv 2) (DV (N:=["within","row","many"]) (ix:=[none,some 3,some 0]) rfl (.of rfl) (eG rfl) (dA (aQ (aa (xv 3)) (aa (xv 0)) (fun _ _=>rfl))) ⟨fun _ _ _ _ _ _=>⟨aP (i:=0) MF rfl (Or.inl rfl),gq,ao bi au (du (aa (xv 1)) (d9) (eA (aa (xv 2)))) (aa (xv 0))⟩⟩)) (cf [3] aW))) (e8 2 (az (aH (bB cj rfl aK Rz (ae (aa (xv 2)) (aj))))))))⟩
theorem uE {f:RP} (ot:Callee P w K mg base 1 "unnested" ["many","table"] (aN jv 2 4)) (bK:mg "len"=none):cI P w K mg base 1 ["self","form","table"] "Unnest.got" iW f bY :=
 ⟨fun cdv A outer s H E hr hp=>(az (aH (ay ot aJ hr ‹0› (ae (bx bW rfl bK PySem.boot_len (ae (aQ (aa (xv 1)) (ai) (fun _ _=>rfl)) (aj))) (ae (aa (xv 2)) (aj))))))⟩
theorem tQ {f:RP} :cI P w K mg base 0 ["self","form"] "Step.steady" iq f cU :=
 ⟨fun cdv A outer s H E hr hp=>(az (aH (fF)))⟩
theorem yW {f:RP} :cI P w K mg base 0 ["form","place"] "kind_at" nV f kL :=
 ⟨fun cdv A outer s H E hr hp=>(az (aH (aQ (aQ (ao bi au (aQ (aa (xv 0)) (ai) (fun _ _=>rfl)) (aQ (aa (xv 0)) (ai) (fun _ _=>rfl))) (aa (xv 1)) (fun _ _=>rfl)) (ai) (fun _ _=>rfl))))⟩
theorem xJ {f:RP} (aK:mg "tuple"=none):cI P w K mg base 0 ["form"] "names_of" lJ f jB :=
 ⟨fun cdv A outer s H E hr hp=>(az (aH (bB cj rfl aK Rz (ae (iK (N:=["field"]) (ix:=[none]) rfl (.of rfl) (eG rfl) (dA (ao bi au (aQ (aa (xv 0)) (ai) (fun _ _=>rfl)) (aQ (aa (xv 0)) (ai) (fun _ _=>rfl)))) ⟨fun _ _ _ _ _ _=>⟨aP (i:=0) Lx rfl (Or.inl rfl),gq,aQ (aa (xv 0)) (ai) (fun _ _=>rfl)⟩⟩) (aj)))))⟩
theorem yx {f:RP} (oz:Callee P w K mg base 1 "names_of" ["form"] (aN jB 1 1)) (dP:mg "enumerate"=none):cI P w K mg base 1 ["form","name","place","other"] "place_of" lE f jC :=
 ⟨fun cdv A outer s H E hr hp=>(ak (d5 hp rfl (ik rfl dP (ae (ay oz aJ hr ‹0› (ae (aa (xv 0)) (aj))) (aj))) (i7 (g:=oA [2,3]) rfl (bV (aP (i:=2) xP.nd rfl ‹1›) (bV (aP (i:=3) xP.nd rfl ‹1›) (gC)))) (ak (cG (bL (dq hr.units) au (aa (xv 3)) (aa (xv 1)) (cz _)) (az (aH (aa (xv 2)))) (aW)) (cf [2,3] aW))) (az (Dd)))⟩
theorem rq {f:RP} (pV:Callee P w K mg base 1 "kind_at" ["form","place"] (aN kL 2 2)) (oH:Callee P w K mg base 2 "place_of" ["form","name"] (aN jC 2 4)) (jw:AX K "name" ["Unnest"]):cI P w K mg base 2 ["self","form"] "Unnest.exact" gw f bb :=
 ⟨fun cdv A outer s H E hr hp=>(az (aH (aQ (ay pV aJ hr ‹0› (ae (aa (xv 1)) (ae (ay oH aJ hr ‹0› (ae (aa (xv 1)) (ae (Gy jw (aa (xv 0))) (aj)))) (aj)))) (ai) (fun _ _=>rfl))))⟩
theorem qq {f:RP} (ro:eO P w K mg base 3 "exact" ["self","form"] [("Unnest",(aN bb 2 2))]):cI P w K mg base 3 ["self","form"] "Unnest.steady" fQ f bG :=
 ⟨fun cdv A outer s H E hr hp=>(az (aH (dg ro hr ‹0› (aa (xv 0)) (ae (aa (xv 1)) (aj)))))⟩
theorem ut {f:RP} :cI P w K mg base 0 ["self","form"] "Step.exact" i9 f dB :=
 ⟨fun cdv A outer s H E hr hp=>(az (aH (fF)))⟩
theorem uq {f:RP} (cQ:Callee P w K mg base 12 "_law_alike" ["_law_found","_law_due"] (aY 12)) (cD:Callee P w K mg base 13 "_law_row" ["_law_form_here","_law_many","_law_head","_law_tail"] (aB 12)) (eV:eO P w K mg base 13 "exact" ["self","form"] [("Step",(aN dB 2 2)),("Unnest",(aN bb 2 2))]) (eJ:eO P w K mg base 13 "steady" ["self","form"] [("Step",(aN cU 2 2)),("Unnest",(aN bG 2 2))]) (dU:eO P w K mg base 13 "got" ["self","form","table"] [("Step",(aN dW 3 3)),("Unnest",(aN bY 3 3))]) (bM:eO P w K mg base 13 "put" ["self","form","table","view"] [("Step",(aN cE 4 4)),("Unnest",(aN bd 4 6))]) (bK:mg "len"=none):cI P w K mg base 13 ["_law_step","_law_form_here","_law_table_here","_law_more","_law_x","_law_empty","_law_inner","_law_brought","_law_later","_law_alone"] "_law_loose" iZ f fu :=
 ⟨fun cdv A outer s H E hr hp=>(ak (cG (J9 (sR (bL n0 au (dg eV hr ‹0› (aa (xv 0)) (ae (aa (xv 1)) (aj))) (fF) rfl) (o9 (bL n0 au (dg eJ hr ‹0› (aa (xv 0)) (ae (aa (xv 1)) (aj))) (fF) rfl)))) (az (aH (fF))) (aW)) (ak (cG (rM (e9 (ay cQ (fO 12) hr ‹0› (ae (dg dU hr ‹0› (aa (xv 0)) (ae (aa (xv 1)) (ae (aa (xv 3)) (aj)))) (ae (dg dU hr ‹0› (aa (xv 0)) (ae (aa (xv 1)) (ae (aa (xv 2)) (aj)))) (aj)))))) (az (aH (fF))) (aW)) (ak (aF (i:=5) uN.nd rfl ‹1› (aQ (iK (N:=["_law_row_here","_law_table_here"]) (ix:=[none,some 2]) rfl (.of rfl) (eG rfl) (dA (aa (xv 3))) ⟨fun _ _ _ _ _ _=>⟨aP (i:=0) Nf rfl (Or.inl rfl),ju (bL (qI hr.units) au (aa (xv 0)) (aa (xv 1)) rfl),aa (xv 0)⟩⟩) (ai) (fun _ _=>rfl))) (ak (aF (i:=6) uN.nd rfl ‹1› (aQ (aQ (aQ (aQ (aa (xv 1)) (ai) (fun _ _=>rfl)) (ai) (fun _ _=>rfl)) (ai) (fun _ _=>rfl)) (ai) (fun _ _=>rfl))) (ak (aF (i:=7) uN.nd rfl ‹1› (ao bi au (du (aa (xv 5)) (d9) (eA (rQ (ai)))) (ay cD (eF 12) hr ‹0› (ae (aa (xv 6)) (ae (ai) (ae (ai) (ae (aa (xv 4)) (aj)))))))) (ak (aF (i:=8) uN.nd rfl ‹1› (dg bM hr ‹0› (aa (xv 0)) (ae (aa (xv 1)) (ae (dg bM hr ‹0› (aa (xv 0)) (ae (aa (xv 1)) (ae (aa (xv 3)) (ae (bT (ae (aa (xv 7)) (aj))) (aj))))) (ae (bT (aj)) (aj)))))) (ak (aF (i:=9) uN.nd rfl ‹1› (dg bM hr ‹0› (aa (xv 0)) (ae (aa (xv 1)) (ae (aa (xv 3)) (ae (bT (aj)) (aj)))))) (az (aH (mZ (jG (HN hr.units) au (aa (xv 5)) (aa (xv 9)) rfl) (mZ (jG (qI hr.units) au (aa (xv 5)) (aa (xv 8)) rfl) (rT (jG (dq hr.units) au (bx bW rfl bK PySem.boot_len (ae (aa (xv 8)) (aj))) (ao pJ p8 (bx bW rfl bK PySem.boot_len (ae (aa (xv 9)) (aj))) (ai)) (cz _))))))))))))))⟩
theorem oy {f:RP} (cD:Callee P w K mg base 13 "_law_row" ["_law_form_here","_law_many","_law_head","_law_tail"] (aB 12)) (bo:Callee P w K mg base 1 "_law_sorted" ["_law_many","_law_rows_here"] (aN bg 2 4)) (fU:mg "list"=none) (bK:mg "len"=none):cI P w K mg base 13 ["_law_form_here","_law_nested_here","_law_xs","_law_rows_here","_law_keys","_law_x","_law_key"] "_law_with_empty" eN f bS :=
 ⟨fun cdv A outer s H E hr hp=>(ak (fK (i:=3) oB.nd rfl ‹1› (Dc rfl fU RB (ae (aa (xv 1)) (aj)))) (ak (by first | exact BU (i:=4) oB.nd rfl ‹1› (N:=["_law_row_here"]) (ix:=[none]) rfl (.of rfl) (eG rfl) (dA (aa (xv 1))) ⟨fun _ _ _ _ _ _=>⟨aP (i:=0) Jk rfl (Or.inl rfl),gq,du (aa (xv 0)) (d9) (eA (rQ (ai)))⟩⟩ | exact fK (i:=4) oB.nd rfl ‹1› (DV (N:=["_law_row_here"]) (ix:=[none]) rfl (.of rfl) (eG rfl) (dA (aa (xv 1))) ⟨fun _ _ _ _ _ _=>⟨aP (i:=0) Jk rfl (Or.inl rfl),gq,du (aa (xv 0)) (d9) (eA (rQ (ai)))⟩⟩)) (cf [1] (ak (d5 hp rfl (dA (aa (xv 2))) (aP (i:=5) oB.nd rfl ‹1›) (ak (aF (i:=6) oB.nd rfl ‹1› (ay cD (eF 12) hr ‹0› (ae (bT (ae (aQ (aa (xv 0)) (ai) (fun _ _=>rfl)) (ae (bT (aj)) (aj)))) (ae (ai) (ae (ai) (ae (aa (xv 5)) (aj))))))) (ak (cG (ug [4] (bL (qI hr.units) au (aa (xv 6)) (aa (xv 4)) rfl)) (ak (lK RK RL dH fj (xv 4) (ae (aa (xv 6)) (aj))) (az (lK RK RL dH fj (xv 3) (ae (ao bi au (aa (xv 6)) (bT (ae (bT (aj)) (aj)))) (aj))))) (aW)) (cf [5,6] aW)))) (e8 3 (az (aH (ay bo aJ hr ‹0› (ae (bx bW rfl bK PySem.boot_len (ae (aQ (aa (xv 0)) (ai) (fun _ _=>rfl)) (aj))) (ae (aa (xv 3)) (aj)))))))))))⟩
theorem sy {f:RP} (cQ:Callee P w K mg base 12 "_law_alike" ["_law_found","_law_due"] (aY 12)) (eV:eO P w K mg base 12 "exact" ["self","form"] [("Step",(aN dB 2 2)),("Unnest",(aN bb 2 2))]) (eJ:eO P w K mg base 12 "steady" ["self","form"] [("Step",(aN cU 2 2)),("Unnest",(aN bG 2 2))]) (bM:eO P w K mg base 12 "put" ["self","form","table","view"] [("Step",(aN cE 4 4)),("Unnest",(aN bd 4 6))]) (dU:eO P w K mg base 12 "got" ["self","form","table"] [("Step",(aN dW 3 3)),("Unnest",(aN bY 3 3))]):cI P w K mg base 12 ["_law_step","_law_form_here","_law_table_here","_law_views","_law_one","_law_both_put"] "_law_steady" ir f fI :=
 ⟨fun cdv A outer s H E hr hp=>(ak (cG (J9 (sR (bL n0 au (dg eV hr ‹0› (aa (xv 0)) (ae (aa (xv 1)) (aj))) (fF) rfl) (o9 (bL n0 au (dg eJ hr ‹0› (aa (xv 0)) (ae (aa (xv 1)) (aj))) (fF) rfl)))) (az (aH (fF))) (aW)) (ak (aF (i:=4) uf.nd rfl ‹1› (dg bM hr ‹0› (aa (xv 0)) (ae (aa (xv 1)) (ae (aa (xv 2)) (ae (aQ (aa (xv 3)) (ai) (fun _ _=>rfl)) (aj)))))) (ak (aF (i:=5) uf.nd rfl ‹1› (dg bM hr ‹0› (aa (xv 0)) (ae (aa (xv 1)) (ae (aa (xv 4)) (ae (aQ (aa (xv 3)) (ai) (fun _ _=>rfl)) (aj)))))) (ak (cG (rM (e9 (ay cQ (fO 12) hr ‹0› (ae (aa (xv 5)) (ae (dg bM hr ‹0› (aa (xv 0)) (ae (aa (xv 1)) (ae (aa (xv 2)) (ae (aQ (aa (xv 3)) (ai) (fun _ _=>rfl)) (aj))))) (aj)))))) (az (aH (fF))) (aW)) (az (aH (ay cQ (fO 12) hr ‹0› (ae (dg bM hr ‹0› (aa (xv 0)) (ae (aa (xv 1)) (ae (bT (aj)) (ae (dg dU hr ‹0› (aa (xv 0)) (ae (aa (xv 1)) (ae (aa (xv 2)) (aj)))) (aj))))) (ae (aa (xv 2)) (aj))))))))))⟩
theorem sP {f:RP} (eD:mg "sorted"=none) (fU:mg "list"=none) (aK:mg "tuple"=none):cI P w K mg base 0 ["_law_table_here","_law_many","_law_firsts","_law_row_here","_law_found","_law_first"] "_law_nested" ic f fH :=
 ⟨fun cdv A outer s H E hr hp=>(ak (fK (i:=2) sg.nd rfl ‹1› (pN)) (ak (d5 hp rfl (dA (aa (xv 0))) (aP (i:=3) sg.nd rfl ‹1›) (az (yv (hr.units) (xv 2) (du (aa (xv 3)) (d9) (eA (aa (xv 1)))) (fF)))) (ak (fK (i:=4) sg.nd rfl ‹1› (lg (aj))) (e8 2 (ak (d5 hp rfl (dA (bx lN rfl eD iT (ae (bB (tN rfl) rfl fU RB (ae (aa (xv 2)) (aj))) (aj)))) (aP (i:=5) sg.nd rfl ‹1›) (ak (lK RK RL dH fj (xv 4) (ae (ao bi au (aa (xv 5)) (bT (ae (bB cj rfl aK Rz (ae (iK (N:=["_law_row_here","_law_many","_law_first"]) (ix:=[none,some 1,some 5]) rfl (.of rfl) (eG rfl) (dA (aa (xv 0))) ⟨fun _ _ _ _ _ _=>⟨aP (i:=0) Kl rfl (Or.inl rfl),ju (bL (dq hr.units) au (du (aa (xv 0)) (d9) (eA (aa (xv 1)))) (aa (xv 2)) (cz _)),du (aa (xv 0)) (eA (aa (xv 1))) (d9)⟩⟩) (aj))) (aj)))) (aj))) (cf [5] aW))) (e8 4 (az (aH (bB cj rfl aK Rz (ae (aa (xv 4)) (aj)))))))))))⟩
theorem rd {f:RP} (bK:mg "len"=none):cI P w K mg base 0 ["_law_script","_law_k"] "_law_cell_at" gE f dJ :=
 ⟨fun cdv A outer s H E hr hp=>(ak (cG (bL (ud hr.units) au (aa (xv 1)) (bx bW rfl bK PySem.boot_len (ae (aa (xv 0)) (aj))) (cz _)) (az (aH (aQ (aa (xv 0)) (aa (xv 1)) (fun _ _=>rfl)))) (aW)) (az (aH (ai))))⟩
theorem wW {f:RP} (dM:Callee P w K mg base 1 "_law_cell_at" ["_law_script","_law_k"] (aN dJ 2 2)) (aC:Callee P w K mg base 1 "_law_next" ["_law_x"] (aN aR 1 1)):cI P w K mg base 1 ["_law_script","_law_k","_law_x"] "_law_seed" jI f cH :=
 ⟨fun cdv A outer s H E hr hp=>(ak (aF (i:=2) wD.nd rfl ‹1› (ao bC bD (ao bi au (ao bi au (ao bC bD (ay dM aJ hr ‹0› (ae (aa (xv 0)) (ae (aa (xv 1)) (aj)))) (ai)) (ao li ly (ao li ly (ai) (aa (xv 1))) (aa (xv 1)))) (ai)) (ai))) (az (aH (ay aC aJ hr ‹0› (ae (ay aC aJ hr ‹0› (ae (aa (xv 2)) (aj))) (aj))))))⟩
theorem uA {f:RP} (dF:Callee P w K mg base 2 "_law_seed" ["_law_script","_law_k"] (aN cH 2 3)) (cD:Callee P w K mg base 13 "_law_row" ["_law_form_here","_law_many","_law_head","_law_tail"] (aB 12)) (aC:Callee P w K mg base 1 "_law_next" ["_law_x"] (aN aR 1 1)) (bo:Callee P w K mg base 1 "_law_sorted" ["_law_many","_law_rows_here"] (aN bg 2 4)) (bH:mg "range"=none) (DE:mg "min"=none) (kG:mg "max"=none) (bK:mg "len"=none):cI P w K mg base 13 ["_law_form_here","_law_many","_law_script","_law_start","_law_most","_law_rows_here","_law_k","_law_x"] "_law_table" ja f gl :=
 ⟨fun cdv A outer s H E hr hp=>(ak (fK (i:=5) uw.nd rfl ‹1› (lg (aj))) (ak (d5 hp rfl (zR rfl bH (ae (aa (xv 3)) (ae (bx (zm rfl) rfl DE PyProof.Rows.boot_min (ae (bx (se rfl) rfl kG RC (ae (bx bW rfl bK PySem.boot_len (ae (aa (xv 2)) (aj))) (ae (ao bi au (aa (xv 3)) (ai)) (aj)))) (ae (ao bi au (aa (xv 3)) (aa (xv 4))) (aj)))) (aj)))) (aP (i:=6) uw.nd rfl ‹1›) (ak (aF (i:=7) uw.nd rfl ‹1› (ay dF aJ hr ‹0› (ae (aa (xv 2)) (ae (aa (xv 6)) (aj))))) (ak (lK RK RL dH fj (xv 5) (ae (ay cD (eF 12) hr ‹0› (ae (aa (xv 0)) (ae (aa (xv 1)) (ae (aQ (ig (ae (ao bC bD (ao bq cm (aa (xv 7)) (ai)) (ai)) (ae (ao bq cm (aa (xv 7)) (ai)) (aj)))) (ao bC bD (aa (xv 7)) (ai)) (fun _ _=>rfl)) (ae (ay aC aJ hr ‹0› (ae (aa (xv 7)) (aj))) (aj)))))) (aj))) (cf [6,7] aW)))) (e8 5 (az (aH (ay bo aJ hr ‹0› (ae (bx bW rfl bK PySem.boot_len (ae (aQ (aa (xv 0)) (ai) (fun _ _=>rfl)) (aj))) (ae (aa (xv 5)) (aj)))))))))⟩
theorem o8 {f:RP} :cI P w K mg base 0 ["_law_form_here","_law_inner"] "_law_flat_form" fh f dI :=
 ⟨fun cdv A outer s H E hr hp=>(ak (aF (i:=1) pE.nd rfl ‹1› (aQ (aQ (aQ (aQ (aa (xv 0)) (ai) (fun _ _=>rfl)) (ai) (fun _ _=>rfl)) (ai) (fun _ _=>rfl)) (ai) (fun _ _=>rfl))) (az (aH (bT (ae (ao bi au (aQ (aa (xv 0)) (ai) (fun _ _=>rfl)) (aQ (aa (xv 1)) (ai) (fun _ _=>rfl))) (ae (aQ (aa (xv 1)) (ai) (fun _ _=>rfl)) (aj)))))))⟩
theorem wc {f:RP} (bH:mg "range"=none):cI P w K mg base 0 ["_law_base","_law_k","_law_letters","_law_size","_law_name_here","_law_j","_law_step"] "_law_name" jQ f cx :=
 ⟨fun cdv A outer s H E hr hp=>(ak (aF (i:=2) wI.nd rfl ‹1› (ip)) (ak (aF (i:=1) wI.nd rfl ‹1› (ao bC bD (ao bi au (ao li ly (aa (xv 1)) (aQ (ig (ae (ai) (ae (ai) (ae (ai) (ae (ai) (ae (ai) (ae (ai) (aj)))))))) (ao bC bD (aa (xv 0)) (ai)) (fun _ _=>rfl))) (ao bq cm (aa (xv 0)) (ai))) (ai))) (ak (aF (i:=0) wI.nd rfl ‹1› (ao bq cm (aa (xv 0)) (ai))) (ak (cG (bL (dq hr.units) au (ao bC bD (aa (xv 0)) (ai)) (ai) (cz _)) (az (aH (ao wU au (aQ (aa (xv 2)) (ao bC bD (ao bi au (ao bq cm (aa (xv 0)) (ai)) (ao bq cm (aa (xv 1)) (ai))) (ai)) (fun _ _=>rfl)) (ao bi au (ai) (ao bC bD (aa (xv 1)) (ai)))))) (aW)) (ak (aF (i:=3) wI.nd rfl ‹1› (ao bi au (ai) (ao bC bD (ao bq cm (aa (xv 0)) (ai)) (ai)))) (ak (aF (i:=4) wI.nd rfl ‹1› (ip)) (ak (d5 hp rfl (jr rfl bH (ae (aa (xv 3)) (aj))) (aP (i:=5) wI.nd rfl ‹1›) (ak (aF (i:=6) wI.nd rfl ‹1› (ao bq cm (aa (xv 0)) (ao bi au (ai) (ao li ly (ao li ly (ai) (aa (xv 5))) (aa (xv 5)))))) (ak (cG (bL (dq hr.units) au (aa (xv 5)) (ao bC bD (ao bq cm (aa (xv 0)) (ai)) (aa (xv 3))) (cz _)) (az (aF (i:=6) wI.nd rfl ‹1› (ao bi au (aa (xv 6)) (aa (xv 1))))) (aW)) (ak (aF (i:=4) wI.nd rfl ‹1› (ao bi au (aa (xv 4)) (aQ (aa (xv 2)) (ao bC bD (aa (xv 6)) (ai)) (fun _ _=>rfl)))) (cf [5,6] aW))))) (az (aH (aa (xv 4)))))))))))⟩
theorem uy {f:RP} (bH:mg "range"=none) (bK:mg "len"=none) (aK:mg "tuple"=none) (eD:mg "sorted"=none) (fU:mg "list"=none):cI P w K mg base 0 ["_law_x","_law_low","_law_letters","_law_one","_law_other","_law_some","_law_kept","_law_k"] "_law_plain" jb f cP :=
 ⟨fun cdv A outer s H E hr hp=>(ak (cG (bL (ud hr.units) au (ao bC bD (aa (xv 0)) (ai)) (ai) (cz _)) (ak (aF (i:=1) uM.nd rfl ‹1› (aQ (ig (ae (ai) (ae (rQ (ai)) (ae (ao pJ p8 (ai) (ao bC bD (ao qt p6 (aa (xv 0)) (ai)) (ao qt p6 (ai) (ai)))) (ae (ao bC bD (ao qt p6 (aa (xv 0)) (ai)) (ao qt p6 (ai) (ai))) (aj)))))) (ao bC bD (ao bq cm (aa (xv 0)) (ai)) (ai)) (fun _ _=>rfl))) (az (aH (bT (ae (ip) (ae (aa (xv 1)) (ae (ao bi au (aa (xv 1)) (aQ (ig (ae (ai) (ae (ai) (ae (ai) (ae (ao qt p6 (ai) (ai)) (aj)))))) (ao bC bD (ao bq cm (aa (xv 0)) (ai)) (ai)) (fun _ _=>rfl))) (aj)))))))) (aW)) (ak (aF (i:=2) uM.nd rfl ‹1› (ip)) (ak (aF (i:=3) uM.nd rfl ‹1› (aQ (aa (xv 2)) (ao bC bD (ao bq cm (aa (xv 0)) (ai)) (ai)) (fun _ _=>rfl))) (ak (aF (i:=4) uM.nd rfl ‹1› (aQ (aa (xv 2)) (ao bC bD (ao bq cm (aa (xv 0)) (ai)) (ai)) (fun _ _=>rfl))) (ak (aF (i:=5) uM.nd rfl ‹1› (ig (ae (ip) (ae (aa (xv 3)) (ae (aa (xv 4)) (ae (ao bi au (aa (xv 3)) (aa (xv 4))) (ae (ao bi au (aa (xv 4)) (aa (xv 3))) (ae (ao wU au (aa (xv 3)) (ai)) (ae (ao bi au (aa (xv 3)) (aa (xv 3))) (ae (ao wU au (aa (xv 4)) (ai)) (aj))))))))))) (ak (fK (i:=6) uM.nd rfl ‹1› (pN)) (cf [1,2,4] (ak (d5 hp rfl (jr rfl bH (ae (ai) (aj))) (aP (i:=7) uM.nd rfl ‹1›) (ak (cG (bL (dq hr.units) au (ao xk xf (ao wZ wY (ao bq cm (aa (xv 0)) (ai)) (aa (xv 7))) (ai)) (ai) (cz _)) (az (yi (hr.units) (xv 6) (aQ (aa (xv 5)) (aa (xv 7)) (fun _ _=>rfl)) (fF))) (aW)) (cf [7] aW))) (ak (cG (ug [6] (bL (dq hr.units) au (bx B8 rfl bK PySem.boot_len (ae (aa (xv 6)) (aj))) (ai) (cz _))) (az (yi (hr.units) (xv 6) (aa (xv 3)) (fF))) (aW)) (e8 6 (az (aH (bT (ae (ip) (ae (bB cj rfl aK Rz (ae (bx lN rfl eD iT (ae (bB (zQ rfl) rfl fU RB (ae (aa (xv 6)) (aj))) (aj))) (aj))) (aj))))))))))))))))⟩
theorem xc {n:Nat} {f:RP} (cR:Callee P w K mg base 1 "_law_plain" ["_law_x"] (aN cP 1 8)) (aC:Callee P w K mg base 1 "_law_next" ["_law_x"] (aN aR 1 1)) (cu:Callee P w K mg base 1 "_law_name" ["_law_base","_law_k"] (aN cx 2 7)) (bH:mg "range"=none) (aK:mg "tuple"=none) {bc:List D->R D} (lZ:Callee P w K mg base (1+n) "_law_kind" ["_law_x","_law_base","_law_deep"] bc) (L__law_kind:Ar 3 bc) {aI:List D->R D} (eU:Callee P w K mg base (1+n) "_law_form" ["_law_x","_law_base","_law_start","_law_many","_law_more","_law_deep"] aI) (L__law_form:Ar 6 aI):cI P w K mg base (1+n) ["_law_x","_law_base","_law_deep","_law_inner"] "_law_kind" iC f (iF bc aI) :=
 ⟨fun cdv A outer s H E hr hp=>(ak (cG (J9 (sR (bL (dq hr.units) au (aa (xv 2)) (ai) (cz _)) (o9 (bL (ud hr.units) au (ao bC bD (aa (xv 0)) (ai)) (ai) (cz _))))) (az (aH (ay cR aJ hr ‹0› (ae (ao bq cm (aa (xv 0)) (ai)) (aj))))) (aW)) (ak (aF (i:=3) wX.nd rfl ‹1› (ay eU L__law_form hr ‹0› (ae (ao bq cm (aa (xv 0)) (ai)) (ae (aa (xv 1)) (ae (ao bC bD (ao bq cm (aa (xv 0)) (ai)) (ai)) (ae (ao bi au (ai) (ao bC bD (ao bq cm (aa (xv 0)) (ai)) (ai))) (ae (ao bC bD (ao bq cm (aa (xv 0)) (ai)) (ai)) (ae (ao pJ p8 (aa (xv 2)) (ai)) (aj))))))))) (az (aH (bT (ae (ip) (ae (aa (xv 3)) (ae (jG (dq hr.units) au (ao bC bD (ao bq cm (aa (xv 0)) (ai)) (ai)) (ai) (cz _)) (aj)))))))))⟩
theorem wR {n:Nat} {f:RP} (cR:Callee P w K mg base 1 "_law_plain" ["_law_x"] (aN cP 1 8)) (aC:Callee P w K mg base 1 "_law_next" ["_law_x"] (aN aR 1 1)) (cu:Callee P w K mg base 1 "_law_name" ["_law_base","_law_k"] (aN cx 2 7)) (bH:mg "range"=none) (aK:mg "tuple"=none) {bc:List D->R D} (lZ:Callee P w K mg base (1+n) "_law_kind" ["_law_x","_law_base","_law_deep"] bc) (L__law_kind:Ar 3 bc) {aI:List D->R D} (eU:Callee P w K mg base (1+n) "_law_form" ["_law_x","_law_base","_law_start","_law_many","_law_more","_law_deep"] aI) (L__law_form:Ar 6 aI):cI P w K mg base (1+n) ["_law_x","_law_base","_law_start","_law_many","_law_more","_law_deep","_law_key","_law_rest","_law_k"] "_law_form" iH f (jM bc aI) :=
 ⟨fun cdv A outer s H E hr hp=>(ak (fK (i:=6) wL.nd rfl ‹1› (lg (aj))) (ak (fK (i:=7) wL.nd rfl ‹1› (lg (aj))) (ak (d5 hp rfl (jr rfl bH (ae (ao bi au (aa (xv 3)) (aa (xv 4))) (aj))) (aP (i:=8) wL.nd rfl ‹1›) (ak (aF (i:=0) wL.nd rfl ‹1› (ay aC aJ hr ‹0› (ae (aa (xv 0)) (aj)))) (ak (cG (bL (ud hr.units) au (aa (xv 8)) (aa (xv 3)) (cz _)) (az (lK RK RL dH fj (xv 6) (ae (bT (ae (ay cu aJ hr ‹0› (ae (aa (xv 1)) (ae (ao bi au (aa (xv 2)) (aa (xv 8))) (aj)))) (ae (ay cR aJ hr ‹0› (ae (aa (xv 0)) (aj))) (aj)))) (aj)))) (az (lK RK RL dH fj (xv 7) (ae (bT (ae (ay cu aJ hr ‹0› (ae (aa (xv 1)) (ae (ao bi au (aa (xv 2)) (aa (xv 8))) (aj)))) (ae (ay lZ L__law_kind hr ‹0› (ae (aa (xv 0)) (ae (aa (xv 1)) (ae (aa (xv 5)) (aj))))) (aj)))) (aj))))) (cf [8] aW)))) (e8 7 (e8 6 (az (aH (bT (ae (bB cj rfl aK Rz (ae (aa (xv 6)) (aj))) (ae (bB cj rfl aK Rz (ae (aa (xv 7)) (aj))) (aj)))))))))))⟩
theorem oj {f__law_kind:RP} {fd__law_kind:Sz} (F__law_kind:wj K "_law_kind" "_law_kind" iC f__law_kind fd__law_kind) (mP:Binds K fd__law_kind ["_law_x","_law_base","_law_deep"] []) (m__law_kind:mg "_law_kind"=some (.ref f__law_kind)) {f__law_form:RP} {fd__law_form:Sz} (F__law_form:wj K "_law_form" "_law_form" iH f__law_form fd__law_form) (mH:Binds K fd__law_form ["_law_x","_law_base","_law_start","_law_many","_law_more","_law_deep"] []) (m__law_form:mg "_law_form"=some (.ref f__law_form)) (cR:Callee P w K mg base 1 "_law_plain" ["_law_x"] (aN cP 1 8)) (aC:Callee P w K mg base 1 "_law_next" ["_law_x"] (aN aR 1 1)) (cu:Callee P w K mg base 1 "_law_name" ["_law_base","_law_k"] (aN cx 2 7)) (bH:mg "range"=none) (aK:mg "tuple"=none):∀ n:Nat,Callee P w K mg base (1+n) "_law_kind" ["_law_x","_law_base","_law_deep"] (bc n)/\Callee P w K mg base (1+n) "_law_form" ["_law_x","_law_base","_law_start","_law_many","_law_more","_law_deep"] (aI n)
 | 0=>by
  rw [bc]; rw [aI]
  exact⟨fY 1 F__law_kind mP m__law_kind,fY 1 F__law_form mH m__law_form⟩
 | n+1=>by
  have ih:=oj F__law_kind mP m__law_kind F__law_form mH m__law_form cR aC cu bH aK n
  rw [fw]; rw [gL]
  exact⟨bn F__law_kind mP m__law_kind wX (cI.ok (xc cR aC cu bH aK ih.1 (mE n) ih.2 (gf n))),bn F__law_form mH m__law_form wL (cI.ok (wR cR aC cu bH aK ih.1 (mE n) ih.2 (gf n)))⟩
theorem n6 {f:RP} (dF:Callee P w K mg base 2 "_law_seed" ["_law_script","_law_k"] (aN cH 2 3)) (dM:Callee P w K mg base 1 "_law_cell_at" ["_law_script","_law_k"] (aN dJ 2 2)) (eU:Callee P w K mg base 13 "_law_form" ["_law_x","_law_base","_law_start","_law_many","_law_more","_law_deep"] (aI 12)) (aC:Callee P w K mg base 1 "_law_next" ["_law_x"] (aN aR 1 1)) (cu:Callee P w K mg base 1 "_law_name" ["_law_base","_law_k"] (aN cx 2 7)):cI P w K mg base 13 ["_law_script","_law_some","_law_x","_law_base","_law_many","_law_inside","_law_key","_law_deep","_law_inner","_law_name_here"] "_law_parted_form" d7 f cY :=
 ⟨fun cdv A outer s H E hr hp=>(ak (aF (i:=2) n8.nd rfl ‹1› (ay dF aJ hr ‹0› (ae (aa (xv 0)) (ae (ai) (aj))))) (ak (aF (i:=3) n8.nd rfl ‹1› (ao bC bD (ao li ly (ay dM aJ hr ‹0› (ae (aa (xv 0)) (ae (ai) (aj)))) (ai)) (ai))) (ak (aF (i:=4) n8.nd rfl ‹1› (ao bi au (ai) (ao bC bD (aa (xv 2)) (ai)))) (ak (aF (i:=5) n8.nd rfl ‹1› (ao bi au (ai) (ao bC bD (ao bq cm (aa (xv 2)) (ai)) (ai)))) (ak (cG (bL (dq hr.units) au (ao bC bD (ao bq cm (aa (xv 2)) (ai)) (ai)) (ai) (cz _)) (ak (aF (i:=4) n8.nd rfl ‹1› (ao pJ p8 (ai) (ao bC bD (ao bq cm (aa (xv 2)) (ai)) (ai)))) (az (aF (i:=5) n8.nd rfl ‹1› (ao pJ p8 (ai) (aa (xv 4)))))) (aW)) (ak (aF (i:=6) n8.nd rfl ‹1› (aQ (ay eU (gf 12) hr ‹0› (ae (ay aC aJ hr ‹0› (ae (aa (xv 2)) (aj))) (ae (aa (xv 3)) (ae (ai) (ae (aa (xv 4)) (ae (ai) (ae (ai) (aj)))))))) (ai) (fun _ _=>rfl))) (ak (aF (i:=7) n8.nd rfl ‹1› (aQ (ig (ae (ai) (ae (ai) (ae (ai) (ae (ai) (aj)))))) (ao bC bD (ao bq cm (aa (xv 2)) (ai)) (ai)) (fun _ _=>rfl))) (ak (aF (i:=8) n8.nd rfl ‹1› (ay eU (gf 12) hr ‹0› (ae (ao bi au (ay aC aJ hr ‹0› (ae (aa (xv 2)) (aj))) (ai)) (ae (aa (xv 3)) (ae (ai) (ae (aa (xv 5)) (ae (ao bC bD (ao bq cm (aa (xv 2)) (ai)) (ai)) (ae (aa (xv 7)) (aj))))))))) (ak (aF (i:=9) n8.nd rfl ‹1› (ay cu aJ hr ‹0› (ae (aa (xv 3)) (ae (aQ (ig (ae (ai) (ae (ai) (ae (ai) (ae (ai) (aj)))))) (ao bC bD (ao bq cm (aa (xv 2)) (ai)) (ai)) (fun _ _=>rfl)) (aj))))) (az (aH (bT (ae (aa (xv 6)) (ae (bT (ae (bT (ae (aa (xv 9)) (ae (bT (ae (ip) (ae (aa (xv 8)) (ae (aa (xv 1)) (aj))))) (aj)))) (aj))) (aj)))))))))))))))⟩
theorem II {f:RP} {fd:Sz} (F:wj K "law" "law" t9 f fd) (aC:Callee P w K mg base 1 "_law_next" ["_law_x"] (aN aR 1 1)) (dF:Callee P w K mg base 2 "_law_seed" ["_law_script","_law_k"] (aN cH 2 3)) (fV:Callee P w K mg base 14 "_law_parted_form" ["_law_script","_law_some"] (aN cY 2 10)) (kZ:Callee P w K mg base 14 "_law_table" ["_law_form_here","_law_many","_law_script","_law_start","_law_most"] (aN gl 5 8)) (gU:Callee P w K mg base 1 "_law_flat_form" ["_law_form_here"] (aN dI 1 2)) (jU:Callee P w K mg base 1 "_law_nested" ["_law_table_here","_law_many"] (aN fH 2 6)) (jT:Callee P w K mg base 13 "_law_steady" ["_law_step","_law_form_here","_law_table_here","_law_views"] (aN fI 4 6)) (eK:Callee P w K mg base 14 "_law_with_empty" ["_law_form_here","_law_nested_here","_law_xs"] (aN bS 3 7)) (lD:Callee P w K mg base 14 "_law_loose" ["_law_step","_law_form_here","_law_table_here","_law_more","_law_x"] (aN fu 5 10)) (ub:tD P w K mg base 1 "Unnest" ["self","name"] ["name"]) (bK:mg "len"=none) (dP:mg "enumerate"=none) (aK:mg "tuple"=none) (bH:mg "range"=none):jE P w K mg base (oa P w) 15 f fd ["_law_script"] (CQ K 1 (aN tO 1 13)) :=
 xi (k:=14) F HX (cI.ok ⟨fun cdv A outer s H E hr hp=>(ak (aF (i:=1) HX.nd rfl ‹1› (ay aC aJ hr ‹0› (ae (ay dF aJ hr ‹0› (ae (aa (xv 0)) (ae (ai) (aj)))) (aj)))) (ak (aF (i:=2) HX.nd rfl ‹1› (jG (dq hr.units) au (ao bC bD (aa (xv 1)) (ai)) (ai) (cz _))) (ak (aF (i:=3) HX.nd rfl ‹1› (ay fV aJ hr ‹0› (ae (aa (xv 0)) (ae (aa (xv 2)) (aj))))) (ak (aF (i:=4) HX.nd rfl ‹1› (bx bW rfl bK PySem.boot_len (ae (aQ (aa (xv 3)) (ai) (fun _ _=>rfl)) (aj)))) (ak (aF (i:=5) HX.nd rfl ‹1› (ay kZ aJ hr ‹0› (ae (ay gU aJ hr ‹0› (ae (aa (xv 3)) (aj))) (ae (aa (xv 4)) (ae (aa (xv 0)) (ae (ai) (ae (ai) (aj)))))))) (ak (aF (i:=6) HX.nd rfl ‹1› (ay jU aJ hr ‹0› (ae (iK (N:=["_law_k","_law_row_here","_law_x"]) (ix:=[none,none,some 1]) rfl (.of rfl) (gQ rfl) (ik rfl dP (ae (aa (xv 5)) (aj))) ⟨fun _ _ _ _ _ _=>⟨i7 (g:=oA [0,1]) rfl (bV (aP (i:=0) GU rfl (Or.inl rfl)) (bV (aP (i:=1) GU rfl (Or.inl rfl)) (gC))),ju (bL (dq hr.units) au (ao xk xf (ao wZ wY (ao bq cm (aa (xv 2)) (ai)) (ao bC bD (aa (xv 0)) (ai))) (ai)) (ai) (cz _)),aa (xv 1)⟩⟩) (ae (aa (xv 4)) (aj))))) (ak (aF (i:=7) HX.nd rfl ‹1› (GI ub hr ‹0› rfl (ae (aQ (aQ (aQ (aa (xv 3)) (ai) (fun _ _=>rfl)) (ai) (fun _ _=>rfl)) (ai) (fun _ _=>rfl)) (aj)))) (ak (cG (e9 (aa (xv 2))) (ak (aF (i:=8) HX.nd rfl ‹1› (bB cj rfl aK Rz (ae (iK (N:=["_law_k","_law_row_here","_law_x"]) (ix:=[none,none,some 1]) rfl (.of rfl) (gQ rfl) (ik rfl dP (ae (aa (xv 5)) (aj))) ⟨fun _ _ _ _ _ _=>⟨i7 (g:=oA [0,1]) rfl (bV (aP (i:=0) G3 rfl (Or.inl rfl)) (bV (aP (i:=1) G3 rfl (Or.inl rfl)) (gC))),ju (bL (dq hr.units) au (ao xk xf (ao wZ wY (ao bq cm (aa (xv 2)) (ai)) (ao bC bD (aa (xv 0)) (ai))) (ai)) (ai) (cz _)),aa (xv 1)⟩⟩) (aj)))) (ak (aF (i:=9) HX.nd rfl ‹1› (bB cj rfl aK Rz (ae (iK (N:=["_law_k","_law_row_here","_law_x"]) (ix:=[none,none,some 1]) rfl (.of rfl) (gQ rfl) (ik rfl dP (ae (aa (xv 5)) (aj))) ⟨fun _ _ _ _ _ _=>⟨i7 (g:=oA [0,1]) rfl (bV (aP (i:=0) GR rfl (Or.inl rfl)) (bV (aP (i:=1) GR rfl (Or.inl rfl)) (gC))),ju (bL (dq hr.units) au (ao xk xf (ao wZ wY (ao bq cm (aa (xv 2)) (ai)) (ao bC bD (aa (xv 0)) (ai))) (ai)) (ai) (cz _)),aa (xv 1)⟩⟩) (aj)))) (az (aH (ay jT aJ hr ‹0› (ae (aa (xv 7)) (ae (aa (xv 3)) (ae (aa (xv 6)) (ae (ig (ae (aa (xv 8)) (ae (aa (xv 9)) (aj)))) (aj)))))))))) (aW)) (ak (aF (i:=10) HX.nd rfl ‹1› (aa (xv 6))) (ak (aF (i:=11) HX.nd rfl ‹1› (aa (xv 1))) (cf [0,2,4,5,8,9] (ak (d5 hp rfl (jr rfl bH (ae (ai) (aj))) (aP (i:=12) HX.nd rfl ‹1›) (ak (cG (bL (dq hr.units) au (bx bW rfl bK PySem.boot_len (ae (aa (xv 10)) (aj))) (bx bW rfl bK PySem.boot_len (ae (aa (xv 6)) (aj))) (cz _)) (ak (aF (i:=11) HX.nd rfl ‹1› (ay aC aJ hr ‹0› (ae (ao bi au (aa (xv 11)) (aa (xv 12))) (aj)))) (az (aF (i:=10) HX.nd rfl ‹1› (ay eK aJ hr ‹0› (ae (aa (xv 3)) (ae (aa (xv 6)) (ae (ig (ae (aa (xv 11)) (aj))) (aj)))))))) (aW)) (cf [12] aW))) (ak (cG (bL (dq hr.units) au (bx bW rfl bK PySem.boot_len (ae (aa (xv 10)) (aj))) (bx bW rfl bK PySem.boot_len (ae (aa (xv 6)) (aj))) (cz _)) (ak (aF (i:=6) HX.nd rfl ‹1› (bT (aj))) (az (aF (i:=10) HX.nd rfl ‹1› (ay eK aJ hr ‹0› (ae (aa (xv 3)) (ae (aa (xv 6)) (ae (ig (ae (aa (xv 11)) (aj))) (aj)))))))) (aW)) (az (aH (ay lD aJ hr ‹0› (ae (aa (xv 7)) (ae (aa (xv 3)) (ae (aa (xv 6)) (ae (aa (xv 10)) (ae (aa (xv 1)) (aj))))))))))))))))))))))⟩)
theorem ym {C f:RP} {fd:Sz} (h1:clsAt K "Unnest" C) (hM:Mk K C f) (cl:yX K C) (na:∀ g∈(["name"]:List Str),lm K C g) (F:wj K "__init__" "Unnest.__init__" eM f fd) (b:Binds K fd ["self","name"] []) (hmg:mg "Unnest"=some (.ref C)):tD P w K mg base 1 "Unnest" ["self","name"] ["name"] :=
 Bw (k:=0) h1 hM cl na F b hmg ox rfl (by decide +kernel) (by decide) fun cdv A outer s H E=>(CO rfl (pv 0) (pv 1) rfl)
end
theorem Ff {us:List RM} (h:us.length=1):∃ u0,us=[u0]:=match us,h with | [u0],_=>⟨u0,rfl⟩
theorem lQ {us:List RM} (h:us.length=2):∃ u0 u1,us=[u0,u1]:=match us,h with | [u0,u1],_=>⟨u0,u1,rfl⟩
theorem Cb {us:List RM} (h:us.length=3):∃ u0 u1 u2,us=[u0,u1,u2]:=match us,h with | [u0,u1,u2],_=>⟨u0,u1,u2,rfl⟩
theorem Gd {us:List RM} (h:us.length=4):∃ u0 u1 u2 u3,us=[u0,u1,u2,u3]:=match us,h with | [u0,u1,u2,u3],_=>⟨u0,u1,u2,u3,rfl⟩
theorem Jz {us:List RM} (h:us.length=5):∃ u0 u1 u2 u3 u4,us=[u0,u1,u2,u3,u4]:=match us,h with | [u0,u1,u2,u3,u4],_=>⟨u0,u1,u2,u3,u4,rfl⟩
theorem LR {us:List RM} (h:us.length=6):∃ u0 u1 u2 u3 u4 u5,us=[u0,u1,u2,u3,u4,u5]:=match us,h with | [u0,u1,u2,u3,u4,u5],_=>⟨u0,u1,u2,u3,u4,u5,rfl⟩
theorem all_mk {l:Ra} {w:RN} {K:QN} {h:RT} {mg:Str->Option RM} {fa:RP} (X:K.In h) (G:h.Ns RW mg) (hfa:mg "law"=some (.ref fa)) {f0 f1 f2 f3 f4 f5 f6 f7 f8 f9 f10 f11 f12 f13 f14 f15 f16 f17 f18 f19 f20 f21 f22 f23 f24 f25 f26 f27 f28 f29 f30 f31 f32 f33 f34 f35 f36 Cl0 Cl1:RP} {od0 an0 od1 an1 od2 an2 od3 an3 od4 an4 od5 an5 od6 an6 od7 an7 od8 an8 od9 an9 od10 an10 od11 an11 od12 an12 od13 an13 od14 an14 od15 an15 od16 an16 od17 an17 od18 an18 od19 an19 od20 an20 od21 an21 od22 an22 od23 an23 od24 an24 od25 an25 od26 an26 od27 an27 od28 an28 od29 an29 od30 an30 od31 an31 od32 an32 od33 an33 od34 an34 od35 an35 od36 an36:Option RP} {sl0 sl1 sl2 sl3 sl4 sl5 sl6 sl7 sl8 sl9 sl10 sl11 sl12 sl13 sl14 sl15 sl16 sl17 sl18 sl19 sl20 sl21 sl22 sl23 sl24 sl25 sl26 sl27 sl28 sl29 sl30 sl31 sl32 sl33 sl34 sl35 sl36:Array (Option RM)} {oc0 kV0 dc0 pm0 cd0 ct0 oc1 kV1 dc1 pm1 cd1 ct1 oc2 kV2 dc2 pm2 cd2 ct2 oc3 kV3 dc3 pm3 cd3 ct3 oc4 kV4 dc4 pm4 cd4 ct4 oc5 kV5 dc5 pm5 cd5 ct5 oc6 kV6 dc6 pm6 cd6 ct6 oc7 kV7 dc7 pm7 cd7 ct7 oc8 kV8 dc8 pm8 cd8 ct8 oc9 kV9 dc9 pm9 cd9 ct9 oc10 kV10 dc10 pm10 cd10 ct10 oc11 kV11 dc11 pm11 cd11 ct11 oc12 kV12 dc12 pm12 cd12 ct12 oc13 kV13 dc13 pm13 cd13 ct13 oc14 kV14 dc14 pm14 cd14 ct14 oc15 kV15 dc15 pm15 cd15 ct15 oc16 kV16 dc16 pm16 cd16 ct16 oc17 kV17 dc17 pm17 cd17 ct17 oc18 kV18 dc18 pm18 cd18 ct18 oc19 kV19 dc19 pm19 cd19 ct19 oc20 kV20 dc20 pm20 cd20 ct20 oc21 kV21 dc21 pm21 cd21 ct21 oc22 kV22 dc22 pm22 cd22 ct22 oc23 kV23 dc23 pm23 cd23 ct23 oc24 kV24 dc24 pm24 cd24 ct24 oc25 kV25 dc25 pm25 cd25 ct25 oc26 kV26 dc26 pm26 cd26 ct26 oc27 kV27 dc27 pm27 cd27 ct27 oc28 kV28 dc28 pm28 cd28 ct28 oc29 kV29 dc29 pm29 cd29 ct29 oc30 kV30 dc30 pm30 cd30 ct30 oc31 kV31 dc31 pm31 cd31 ct31 oc32 kV32 dc32 pm32 cd32 ct32 oc33 kV33 dc33 pm33 cd33 ct33 oc34 kV34 dc34 pm34 cd34 ct34 oc35 kV35 dc35 pm35 cd35 ct35 oc36 kV36 dc36 pm36 cd36 ct36:RM} {cL T:RP}
  (ac0:Q4 K RW "Unnest"=some (some (.ref Cl0)))
  (ac1:Q4 K RW "Step"=some (some (.ref Cl1)))
  (a0:QR K (.ref Cl1) "put"=some (some (.ref f0)))
  (i0:QU K (.ref f0)=true)
  (l0:Lk K f0 "put" "Step.put" kW oc0 od0 kV0 dc0 pm0 an0 cd0 ct0 sl0)
  (c0:Q3 K cd0 "Step.put"=true)
  (k0:QZ K (.ref f0)=true)
  (a1:Q4 K RW "sorted_by"=some (some (.ref f1)))
  (l1:Lk K f1 "sorted_by" "sorted_by" jH oc1 od1 kV1 dc1 pm1 an1 cd1 ct1 sl1)
  (c1:Q3 K cd1 "sorted_by"=true)
  (k1:QZ K (.ref f1)=true)
  (a2:Q4 K RW "by_key"=some (some (.ref f2)))
  (l2:Lk K f2 "by_key" "by_key" oP oc2 od2 kV2 dc2 pm2 an2 cd2 ct2 sl2)
  (c2:Q3 K cd2 "by_key"=true)
  (k2:QZ K (.ref f2)=true)
  (a3:Q4 K RW "standing"=some (some (.ref f3)))
  (l3:Lk K f3 "standing" "standing" lM oc3 od3 kV3 dc3 pm3 an3 cd3 ct3 sl3)
  (c3:Q3 K cd3 "standing"=true)
  (k3:QZ K (.ref f3)=true)
  (a4:Q4 K RW "grouped"=some (some (.ref f4)))
  (l4:Lk K f4 "grouped" "grouped" nZ oc4 od4 kV4 dc4 pm4 an4 cd4 ct4 sl4)
  (c4:Q3 K cd4 "grouped"=true)
  (k4:QZ K (.ref f4)=true)
  (a5:QR K (.ref Cl0) "put"=some (some (.ref f5)))
  (i5:QU K (.ref f5)=true)
  (l5:Lk K f5 "put" "Unnest.put" i6 oc5 od5 kV5 dc5 pm5 an5 cd5 ct5 sl5)
  (c5:Q3 K cd5 "Unnest.put"=true)
  (k5:QZ K (.ref f5)=true)
  (a6:Q4 K RW "_law_next"=some (some (.ref f6)))
  (l6:Lk K f6 "_law_next" "_law_next" jK oc6 od6 kV6 dc6 pm6 an6 cd6 ct6 sl6)
  (c6:Q3 K cd6 "_law_next"=true)
  (k6:QZ K (.ref f6)=true)
  (a7:Q4 K RW "_law_sorted"=some (some (.ref f7)))
  (l7:Lk K f7 "_law_sorted" "_law_sorted" il oc7 od7 kV7 dc7 pm7 an7 cd7 ct7 sl7)
  (c7:Q3 K cd7 "_law_sorted"=true)
  (k7:QZ K (.ref f7)=true)
  (a8:Q4 K RW "_law_value"=some (some (.ref f8)))
  (l8:Lk K f8 "_law_value" "_law_value" gA oc8 od8 kV8 dc8 pm8 an8 cd8 ct8 sl8)
  (c8:Q3 K cd8 "_law_value"=true)
  (k8:QZ K (.ref f8)=true)
  (a9:Q4 K RW "_law_row"=some (some (.ref f9)))
  (l9:Lk K f9 "_law_row" "_law_row" jo oc9 od9 kV9 dc9 pm9 an9 cd9 ct9 sl9)
  (c9:Q3 K cd9 "_law_row"=true)
  (k9:QZ K (.ref f9)=true)
  (a10:Q4 K RW "_law_rows"=some (some (.ref f10)))
  (l10:Lk K f10 "_law_rows" "_law_rows" iu oc10 od10 kV10 dc10 pm10 an10 cd10 ct10 sl10)
  (c10:Q3 K cd10 "_law_rows"=true)
  (k10:QZ K (.ref f10)=true)
  (a11:Q4 K RW "_law_alike"=some (some (.ref f11)))
  (l11:Lk K f11 "_law_alike" "_law_alike" gF oc11 od11 kV11 dc11 pm11 an11 cd11 ct11 sl11)
  (c11:Q3 K cd11 "_law_alike"=true)
  (k11:QZ K (.ref f11)=true)
  (a12:QR K (.ref Cl1) "got"=some (some (.ref f12)))
  (i12:QU K (.ref f12)=true)
  (l12:Lk K f12 "got" "Step.got" lj oc12 od12 kV12 dc12 pm12 an12 cd12 ct12 sl12)
  (c12:Q3 K cd12 "Step.got"=true)
  (k12:QZ K (.ref f12)=true)
  (a13:Q4 K RW "unnested"=some (some (.ref f13)))
  (l13:Lk K f13 "unnested" "unnested" kX oc13 od13 kV13 dc13 pm13 an13 cd13 ct13 sl13)
  (c13:Q3 K cd13 "unnested"=true)
  (k13:QZ K (.ref f13)=true)
  (a14:QR K (.ref Cl0) "got"=some (some (.ref f14)))
  (i14:QU K (.ref f14)=true)
  (l14:Lk K f14 "got" "Unnest.got" iW oc14 od14 kV14 dc14 pm14 an14 cd14 ct14 sl14)
  (c14:Q3 K cd14 "Unnest.got"=true)
  (k14:QZ K (.ref f14)=true)
  (a15:QR K (.ref Cl1) "steady"=some (some (.ref f15)))
  (i15:QU K (.ref f15)=true)
  (l15:Lk K f15 "steady" "Step.steady" iq oc15 od15 kV15 dc15 pm15 an15 cd15 ct15 sl15)
  (c15:Q3 K cd15 "Step.steady"=true)
  (k15:QZ K (.ref f15)=true)
  (a16:Q4 K RW "kind_at"=some (some (.ref f16)))
  (l16:Lk K f16 "kind_at" "kind_at" nV oc16 od16 kV16 dc16 pm16 an16 cd16 ct16 sl16)
  (c16:Q3 K cd16 "kind_at"=true)
  (k16:QZ K (.ref f16)=true)
  (a17:Q4 K RW "names_of"=some (some (.ref f17)))
  (l17:Lk K f17 "names_of" "names_of" lJ oc17 od17 kV17 dc17 pm17 an17 cd17 ct17 sl17)
  (c17:Q3 K cd17 "names_of"=true)
  (k17:QZ K (.ref f17)=true)
  (a18:Q4 K RW "place_of"=some (some (.ref f18)))
  (l18:Lk K f18 "place_of" "place_of" lE oc18 od18 kV18 dc18 pm18 an18 cd18 ct18 sl18)
  (c18:Q3 K cd18 "place_of"=true)
  (k18:QZ K (.ref f18)=true)
  (a19:QR K (.ref Cl0) "exact"=some (some (.ref f19)))
  (i19:QU K (.ref f19)=true)
  (l19:Lk K f19 "exact" "Unnest.exact" gw oc19 od19 kV19 dc19 pm19 an19 cd19 ct19 sl19)
  (c19:Q3 K cd19 "Unnest.exact"=true)
  (k19:QZ K (.ref f19)=true)
  (a20:QR K (.ref Cl0) "steady"=some (some (.ref f20)))
  (i20:QU K (.ref f20)=true)
  (l20:Lk K f20 "steady" "Unnest.steady" fQ oc20 od20 kV20 dc20 pm20 an20 cd20 ct20 sl20)
  (c20:Q3 K cd20 "Unnest.steady"=true)
  (k20:QZ K (.ref f20)=true)
  (a21:QR K (.ref Cl1) "exact"=some (some (.ref f21)))
  (i21:QU K (.ref f21)=true)
  (l21:Lk K f21 "exact" "Step.exact" i9 oc21 od21 kV21 dc21 pm21 an21 cd21 ct21 sl21)
  (c21:Q3 K cd21 "Step.exact"=true)
  (k21:QZ K (.ref f21)=true)
  (a22:Q4 K RW "_law_loose"=some (some (.ref f22)))
  (l22:Lk K f22 "_law_loose" "_law_loose" iZ oc22 od22 kV22 dc22 pm22 an22 cd22 ct22 sl22)
  (c22:Q3 K cd22 "_law_loose"=true)
  (k22:QZ K (.ref f22)=true)
  (a23:Q4 K RW "_law_with_empty"=some (some (.ref f23)))
  (l23:Lk K f23 "_law_with_empty" "_law_with_empty" eN oc23 od23 kV23 dc23 pm23 an23 cd23 ct23 sl23)
  (c23:Q3 K cd23 "_law_with_empty"=true)
  (k23:QZ K (.ref f23)=true)
  (a24:Q4 K RW "_law_steady"=some (some (.ref f24)))
  (l24:Lk K f24 "_law_steady" "_law_steady" ir oc24 od24 kV24 dc24 pm24 an24 cd24 ct24 sl24)
  (c24:Q3 K cd24 "_law_steady"=true)
  (k24:QZ K (.ref f24)=true)
  (a25:Q4 K RW "_law_nested"=some (some (.ref f25)))
  (l25:Lk K f25 "_law_nested" "_law_nested" ic oc25 od25 kV25 dc25 pm25 an25 cd25 ct25 sl25)
  (c25:Q3 K cd25 "_law_nested"=true)
  (k25:QZ K (.ref f25)=true)
  (a26:Q4 K RW "_law_cell_at"=some (some (.ref f26)))
  (l26:Lk K f26 "_law_cell_at" "_law_cell_at" gE oc26 od26 kV26 dc26 pm26 an26 cd26 ct26 sl26)
  (c26:Q3 K cd26 "_law_cell_at"=true)
  (k26:QZ K (.ref f26)=true)
  (a27:Q4 K RW "_law_seed"=some (some (.ref f27)))
  (l27:Lk K f27 "_law_seed" "_law_seed" jI oc27 od27 kV27 dc27 pm27 an27 cd27 ct27 sl27)
  (c27:Q3 K cd27 "_law_seed"=true)
  (k27:QZ K (.ref f27)=true)
  (a28:Q4 K RW "_law_table"=some (some (.ref f28)))
  (l28:Lk K f28 "_law_table" "_law_table" ja oc28 od28 kV28 dc28 pm28 an28 cd28 ct28 sl28)
  (c28:Q3 K cd28 "_law_table"=true)
  (k28:QZ K (.ref f28)=true)
  (a29:Q4 K RW "_law_flat_form"=some (some (.ref f29)))
  (l29:Lk K f29 "_law_flat_form" "_law_flat_form" fh oc29 od29 kV29 dc29 pm29 an29 cd29 ct29 sl29)
  (c29:Q3 K cd29 "_law_flat_form"=true)
  (k29:QZ K (.ref f29)=true)
  (a30:Q4 K RW "_law_name"=some (some (.ref f30)))
  (l30:Lk K f30 "_law_name" "_law_name" jQ oc30 od30 kV30 dc30 pm30 an30 cd30 ct30 sl30)
  (c30:Q3 K cd30 "_law_name"=true)
  (k30:QZ K (.ref f30)=true)
  (a31:Q4 K RW "_law_plain"=some (some (.ref f31)))
  (l31:Lk K f31 "_law_plain" "_law_plain" jb oc31 od31 kV31 dc31 pm31 an31 cd31 ct31 sl31)
  (c31:Q3 K cd31 "_law_plain"=true)
  (k31:QZ K (.ref f31)=true)
  (a32:Q4 K RW "_law_kind"=some (some (.ref f32)))
  (l32:Lk K f32 "_law_kind" "_law_kind" iC oc32 od32 kV32 dc32 pm32 an32 cd32 ct32 sl32)
  (c32:Q3 K cd32 "_law_kind"=true)
  (k32:QZ K (.ref f32)=true)
  (a33:Q4 K RW "_law_form"=some (some (.ref f33)))
  (l33:Lk K f33 "_law_form" "_law_form" iH oc33 od33 kV33 dc33 pm33 an33 cd33 ct33 sl33)
  (c33:Q3 K cd33 "_law_form"=true)
  (k33:QZ K (.ref f33)=true)
  (a34:Q4 K RW "_law_parted_form"=some (some (.ref f34)))
  (l34:Lk K f34 "_law_parted_form" "_law_parted_form" d7 oc34 od34 kV34 dc34 pm34 an34 cd34 ct34 sl34)
  (c34:Q3 K cd34 "_law_parted_form"=true)
  (k34:QZ K (.ref f34)=true)
  (a35:Q4 K RW "law"=some (some (.ref f35)))
  (l35:Lk K f35 "law" "law" t9 oc35 od35 kV35 dc35 pm35 an35 cd35 ct35 sl35)
  (c35:Q3 K cd35 "law"=true)
  (k35:QZ K (.ref f35)=true)
  (a36:QR K (.ref Cl0) "__init__"=some (some (.ref f36)))
  (i36:QU K (.ref f36)=true)
  (l36:Lk K f36 "__init__" "Unnest.__init__" eM oc36 od36 kV36 dc36 pm36 an36 cd36 ct36 sl36)
  (c36:Q3 K cd36 "Unnest.__init__"=true)
  (k36:QZ K (.ref f36)=true)
  (p0:QP K Cl0 Str.empty=true)
  (q0:QQ K Cl0=true)
  (r0:QV K Cl0=true)
  (s0:QR K (.ref Cl0) "__setattr__"=some (some (.builtin "object.__setattr__")))
  (n0_0:QR K (.ref Cl0) "name"=some none)
  (m0:QX K Cl0=true)
  (kp0:QZ K (.ref Cl0)=true)
  (p1:QP K Cl1 Str.empty=true)
  (q1:QQ K Cl1=true)
  (r1:QV K Cl1=true)
  (s1:QR K (.ref Cl1) "__setattr__"=some (some (.builtin "object.__setattr__")))
  (z0:Q4 K RW "tuple"=some none)
  (z1:Q4 K RW "sorted"=some none)
  (z2:Q4 K RW "dict"=some none)
  (z3:Q4 K RW "list"=some none)
  (z4:Q4 K RW "len"=some none)
  (z5:Q4 K RW "max"=some none)
  (z6:Q4 K RW "int"=some none)
  (z7:Q4 K RW "range"=some none)
  (z8:Q4 K RW "isinstance"=some none)
  (z9:Q4 K RW "str"=some none)
  (z10:Q4 K RW "bool"=some none)
  (z11:Q4 K RW "zip"=some none)
  (z12:Q4 K RW "enumerate"=some none)
  (z13:Q4 K RW "min"=some none)
  (lc:cd1=.ref cL)
  (lh:Rc K cL T=true)
  (lt:K.lookup T=none) :
  (∃ c,Rc K c T=true)/\K.lookup T=none/\∃ fd:Sz,(∀ (s:R0) (v:RM),SA s fd ⟨[v],[]⟩ [("_law_script",v)])/\∀ base:RT,K.In base->base.Ns RW mg->za mg base->jE l.prog w K mg base (oa l.prog w) 15 fa fd ["_law_script"] (@CQ (ww T ⟨19,34,19,56⟩ ((("sorted_by":Str) ++ ".<locals>.") ++ "<lambda>")) K 1 (aN tO 1 13)):=by
 letI:aV:=ww T ⟨19,34,19,56⟩ ((("sorted_by":Str) ++ ".<locals>.") ++ "<lambda>")
 have e:=hfa.symm.trans (Rf X G a35)
 cases e
 have aK:=Rg X G z0
 have eD:=Rg X G z1
 have pK:=Rg X G z2
 have fU:=Rg X G z3
 have bK:=Rg X G z4
 have kG:=Rg X G z5
 have iB:=Rg X G z6
 have bH:=Rg X G z7
 have bJ:=Rg X G z8
 have sF:=Rg X G z9
 have lB:=Rg X G z10
 have vO:=Rg X G z11
 have dP:=Rg X G z12
 have DE:=Rg X G z13
 have F0:=bI (st:=kW) l0 c0 k0
 have b0:=F0.binds (ps:=["self","form","table","view"]) fun _ _ _ _ _ _ us hl=>by obtain⟨u0,u1,u2,u3,rfl⟩:=Gd hl; rfl
 have F1:=bI (st:=jH) l1 c1 k1
 have b1:=F1.binds (ps:=["many","rows"]) fun _ _ _ _ _ _ us hl=>by obtain⟨u0,u1,rfl⟩:=lQ hl; rfl
 have F2:=bI (st:=oP) l2 c2 k2
 have b2:=F2.binds (ps:=["many","rows"]) fun _ _ _ _ _ _ us hl=>by obtain⟨u0,u1,rfl⟩:=lQ hl; rfl
 have F3:=bI (st:=lM) l3 c3 k3
 have b3:=F3.binds (ps:=["many","rows","others"]) fun _ _ _ _ _ _ us hl=>by obtain⟨u0,u1,u2,rfl⟩:=Cb hl; rfl
 have F4:=bI (st:=nZ) l4 c4 k4
 have b4:=F4.binds (ps:=["many","rows"]) fun _ _ _ _ _ _ us hl=>by obtain⟨u0,u1,rfl⟩:=lQ hl; rfl
 have F5:=bI (st:=i6) l5 c5 k5
 have b5:=F5.binds (ps:=["self","form","table","view"]) fun _ _ _ _ _ _ us hl=>by obtain⟨u0,u1,u2,u3,rfl⟩:=Gd hl; rfl
 have F6:=bI (st:=jK) l6 c6 k6
 have b6:=F6.binds (ps:=["_law_x"]) fun _ _ _ _ _ _ us hl=>by obtain⟨u0,rfl⟩:=Ff hl; rfl
 have F7:=bI (st:=il) l7 c7 k7
 have b7:=F7.binds (ps:=["_law_many","_law_rows_here"]) fun _ _ _ _ _ _ us hl=>by obtain⟨u0,u1,rfl⟩:=lQ hl; rfl
 have F8:=bI (st:=gA) l8 c8 k8
 have b8:=F8.binds (ps:=["_law_kind_here","_law_x"]) fun _ _ _ _ _ _ us hl=>by obtain⟨u0,u1,rfl⟩:=lQ hl; rfl
 have F9:=bI (st:=jo) l9 c9 k9
 have b9:=F9.binds (ps:=["_law_form_here","_law_many","_law_head","_law_tail"]) fun _ _ _ _ _ _ us hl=>by obtain⟨u0,u1,u2,u3,rfl⟩:=Gd hl; rfl
 have F10:=bI (st:=iu) l10 c10 k10
 have b10:=F10.binds (ps:=["_law_form_here","_law_x","_law_many"]) fun _ _ _ _ _ _ us hl=>by obtain⟨u0,u1,u2,rfl⟩:=Cb hl; rfl
 have F11:=bI (st:=gF) l11 c11 k11
 have b11:=F11.binds (ps:=["_law_found","_law_due"]) fun _ _ _ _ _ _ us hl=>by obtain⟨u0,u1,rfl⟩:=lQ hl; rfl
 have F12:=bI (st:=lj) l12 c12 k12
 have b12:=F12.binds (ps:=["self","form","table"]) fun _ _ _ _ _ _ us hl=>by obtain⟨u0,u1,u2,rfl⟩:=Cb hl; rfl
 have F13:=bI (st:=kX) l13 c13 k13
 have b13:=F13.binds (ps:=["many","table"]) fun _ _ _ _ _ _ us hl=>by obtain⟨u0,u1,rfl⟩:=lQ hl; rfl
 have F14:=bI (st:=iW) l14 c14 k14
 have b14:=F14.binds (ps:=["self","form","table"]) fun _ _ _ _ _ _ us hl=>by obtain⟨u0,u1,u2,rfl⟩:=Cb hl; rfl
 have F15:=bI (st:=iq) l15 c15 k15
 have b15:=F15.binds (ps:=["self","form"]) fun _ _ _ _ _ _ us hl=>by obtain⟨u0,u1,rfl⟩:=lQ hl; rfl
 have F16:=bI (st:=nV) l16 c16 k16
 have b16:=F16.binds (ps:=["form","place"]) fun _ _ _ _ _ _ us hl=>by obtain⟨u0,u1,rfl⟩:=lQ hl; rfl
 have F17:=bI (st:=lJ) l17 c17 k17
 have b17:=F17.binds (ps:=["form"]) fun _ _ _ _ _ _ us hl=>by obtain⟨u0,rfl⟩:=Ff hl; rfl
 have F18:=bI (st:=lE) l18 c18 k18
 have b18:=F18.binds (ps:=["form","name"]) fun _ _ _ _ _ _ us hl=>by obtain⟨u0,u1,rfl⟩:=lQ hl; rfl
 have F19:=bI (st:=gw) l19 c19 k19
 have b19:=F19.binds (ps:=["self","form"]) fun _ _ _ _ _ _ us hl=>by obtain⟨u0,u1,rfl⟩:=lQ hl; rfl
 have F20:=bI (st:=fQ) l20 c20 k20
 have b20:=F20.binds (ps:=["self","form"]) fun _ _ _ _ _ _ us hl=>by obtain⟨u0,u1,rfl⟩:=lQ hl; rfl
 have F21:=bI (st:=i9) l21 c21 k21
 have b21:=F21.binds (ps:=["self","form"]) fun _ _ _ _ _ _ us hl=>by obtain⟨u0,u1,rfl⟩:=lQ hl; rfl
 have F22:=bI (st:=iZ) l22 c22 k22
 have b22:=F22.binds (ps:=["_law_step","_law_form_here","_law_table_here","_law_more","_law_x"]) fun _ _ _ _ _ _ us hl=>by obtain⟨u0,u1,u2,u3,u4,rfl⟩:=Jz hl; rfl
 have F23:=bI (st:=eN) l23 c23 k23
 have b23:=F23.binds (ps:=["_law_form_here","_law_nested_here","_law_xs"]) fun _ _ _ _ _ _ us hl=>by obtain⟨u0,u1,u2,rfl⟩:=Cb hl; rfl
 have F24:=bI (st:=ir) l24 c24 k24
 have b24:=F24.binds (ps:=["_law_step","_law_form_here","_law_table_here","_law_views"]) fun _ _ _ _ _ _ us hl=>by obtain⟨u0,u1,u2,u3,rfl⟩:=Gd hl; rfl
 have F25:=bI (st:=ic) l25 c25 k25
 have b25:=F25.binds (ps:=["_law_table_here","_law_many"]) fun _ _ _ _ _ _ us hl=>by obtain⟨u0,u1,rfl⟩:=lQ hl; rfl
 have F26:=bI (st:=gE) l26 c26 k26
 have b26:=F26.binds (ps:=["_law_script","_law_k"]) fun _ _ _ _ _ _ us hl=>by obtain⟨u0,u1,rfl⟩:=lQ hl; rfl
 have F27:=bI (st:=jI) l27 c27 k27
 have b27:=F27.binds (ps:=["_law_script","_law_k"]) fun _ _ _ _ _ _ us hl=>by obtain⟨u0,u1,rfl⟩:=lQ hl; rfl
 have F28:=bI (st:=ja) l28 c28 k28
 have b28:=F28.binds (ps:=["_law_form_here","_law_many","_law_script","_law_start","_law_most"]) fun _ _ _ _ _ _ us hl=>by obtain⟨u0,u1,u2,u3,u4,rfl⟩:=Jz hl; rfl
 have F29:=bI (st:=fh) l29 c29 k29
 have b29:=F29.binds (ps:=["_law_form_here"]) fun _ _ _ _ _ _ us hl=>by obtain⟨u0,rfl⟩:=Ff hl; rfl
 have F30:=bI (st:=jQ) l30 c30 k30
 have b30:=F30.binds (ps:=["_law_base","_law_k"]) fun _ _ _ _ _ _ us hl=>by obtain⟨u0,u1,rfl⟩:=lQ hl; rfl
 have F31:=bI (st:=jb) l31 c31 k31
 have b31:=F31.binds (ps:=["_law_x"]) fun _ _ _ _ _ _ us hl=>by obtain⟨u0,rfl⟩:=Ff hl; rfl
 have F32:=bI (st:=iC) l32 c32 k32
 have b32:=F32.binds (ps:=["_law_x","_law_base","_law_deep"]) fun _ _ _ _ _ _ us hl=>by obtain⟨u0,u1,u2,rfl⟩:=Cb hl; rfl
 have F33:=bI (st:=iH) l33 c33 k33
 have b33:=F33.binds (ps:=["_law_x","_law_base","_law_start","_law_many","_law_more","_law_deep"]) fun _ _ _ _ _ _ us hl=>by obtain⟨u0,u1,u2,u3,u4,u5,rfl⟩:=LR hl; rfl
 have F34:=bI (st:=d7) l34 c34 k34
 have b34:=F34.binds (ps:=["_law_script","_law_some"]) fun _ _ _ _ _ _ us hl=>by obtain⟨u0,u1,rfl⟩:=lQ hl; rfl
 have F35:=bI (st:=t9) l35 c35 k35
 have F36:=bI (st:=eM) l36 c36 k36
 have b36:=F36.binds (ps:=["self","name"]) fun _ _ _ _ _ _ us hl=>by obtain⟨u0,u1,rfl⟩:=lQ hl; rfl
 have cl0:yX K Cl0:=⟨p0,q0,r0,s0⟩
 have cl1:yX K Cl1:=⟨p1,q1,r1,s1⟩
 have jw:AX K "name" ["Unnest"]:=by
  intro c hc C hC
  simp only [Pu,QF,or_false] at hc
  rcases hc with rfl
  ·cases uQ hC ac0; exact⟨cl0,n0_0⟩
 have lC:vy K f1 (.ref cL):=⟨_,_,_,_,l1,lc⟩
 refine⟨⟨cL,lh⟩,lt,Q2 "law" "law" (nK t9) (fg t9) (ax t9) .none kV35 dc35 pm35 an35 cd35 ct35,fun s v=>.of_eq rfl,fun base kb _ bm=>?_⟩
 have ub:=ym (P:=l.prog) (w:=w) (base:=base) ac0 ⟨m0,a36,i36,kp0⟩ cl0 (by intro g hg; simp only [Pu,QF,or_false] at hg; rcases hg with rfl; exact n0_0) F36 b36 (Rf X G ac0)
 have okb_Step_put:=xM (P:=l.prog) (w:=w) (base:=base) (K:=K) (mg:=mg) (f:=f0)
 have mD:=zG F1 b1 (Rf X G a1) xn (Eo.ok (wf (P:=l.prog) (w:=w) (base:=base) (f:=f1) aK eD (Gz kb lh bm) lC fun _ z=>z))
 have sL:=bn F2 b2 (Rf X G a2) Bu (cI.ok (B2 (P:=l.prog) (w:=w) (base:=base) (f:=f2) pK))
 have ow:=bn F3 b3 (Rf X G a3) yg (cI.ok (yn (P:=l.prog) (w:=w) (base:=base) (f:=f3) sL mD fU))
 have nW:=bn F4 b4 (Rf X G a4) zo (cI.ok (zU (P:=l.prog) (w:=w) (base:=base) (f:=f4) pK aK))
 have okb_Unnest_put:=uK (P:=l.prog) (w:=w) (base:=base) (K:=K) (mg:=mg) (f:=f5) nW ow bK
 have aC:=bn F6 b6 (Rf X G a6) wK (cI.ok (wx (P:=l.prog) (w:=w) (base:=base) (f:=f6) ))
 have bo:=bn F7 b7 (Rf X G a7) tY (cI.ok (tI (P:=l.prog) (w:=w) (base:=base) (f:=f7) aK eD fU))
 have fam:=mL (P:=l.prog) (w:=w) (base:=base) F8 b8 (Rf X G a8) F9 b9 (Rf X G a9) F10 b10 (Rf X G a10) aC bo bK kG iB aK bH 12
 have gh:=fam.1
 have cD:=fam.2.1
 have jO:=fam.2.2
 have fam:=mI (P:=l.prog) (w:=w) (base:=base) F11 b11 (Rf X G a11) bJ sF lB iB aK bK vO 12
 have cQ:=fam
 have okb_Step_got:=x9 (P:=l.prog) (w:=w) (base:=base) (K:=K) (mg:=mg) (f:=f12)
 have ot:=bn F13 b13 (Rf X G a13) xA (cI.ok (xH (P:=l.prog) (w:=w) (base:=base) (f:=f13) aK))
 have okb_Unnest_got:=uE (P:=l.prog) (w:=w) (base:=base) (K:=K) (mg:=mg) (f:=f14) ot bK
 have okb_Step_steady:=tQ (P:=l.prog) (w:=w) (base:=base) (K:=K) (mg:=mg) (f:=f15)
 have pV:=bn F16 b16 (Rf X G a16) zr (cI.ok (yW (P:=l.prog) (w:=w) (base:=base) (f:=f16) ))
 have oz:=bn F17 b17 (Rf X G a17) xZ (cI.ok (xJ (P:=l.prog) (w:=w) (base:=base) (f:=f17) aK))
 have oH:=bn F18 b18 (Rf X G a18) xP (cI.ok (yx (P:=l.prog) (w:=w) (base:=base) (f:=f18) oz dP))
 have okb_Unnest_exact:=rq (P:=l.prog) (w:=w) (base:=base) (K:=K) (mg:=mg) (f:=f19) pV oH jw
 have iz:eO l.prog w K mg base 3 "exact" ["self","form"] [("Unnest",(aN bb 2 2))]:=cF (MethAt.mono (ce (c := "Unnest") (m := "exact") ac0 cl0 ⟨a19,i19,k19⟩ F19 b19 iJ (cI.ok okb_Unnest_exact)) (by decide)) aJ (iV)
 have okb_Unnest_steady:=qq (P:=l.prog) (w:=w) (base:=base) (K:=K) (mg:=mg) (f:=f20) iz
 have okb_Step_exact:=ut (P:=l.prog) (w:=w) (base:=base) (K:=K) (mg:=mg) (f:=f21)
 have gH:eO l.prog w K mg base 13 "exact" ["self","form"] [("Step",(aN dB 2 2)),("Unnest",(aN bb 2 2))]:=cF (MethAt.mono (ce (c := "Step") (m := "exact") ac1 cl1 ⟨a21,i21,k21⟩ F21 b21 oh (cI.ok okb_Step_exact)) (by decide)) aJ (cF (MethAt.mono (ce (c := "Unnest") (m := "exact") ac0 cl0 ⟨a19,i19,k19⟩ F19 b19 iJ (cI.ok okb_Unnest_exact)) (by decide)) aJ (iV))
 have gx:eO l.prog w K mg base 13 "steady" ["self","form"] [("Step",(aN cU 2 2)),("Unnest",(aN bG 2 2))]:=cF (MethAt.mono (ce (c := "Step") (m := "steady") ac1 cl1 ⟨a15,i15,k15⟩ F15 b15 mz (cI.ok okb_Step_steady)) (by decide)) aJ (cF (MethAt.mono (ce (c := "Unnest") (m := "steady") ac0 cl0 ⟨a20,i20,k20⟩ F20 b20 jY (cI.ok okb_Unnest_steady)) (by decide)) aJ (iV))
 have iA:eO l.prog w K mg base 13 "got" ["self","form","table"] [("Step",(aN dW 3 3)),("Unnest",(aN bY 3 3))]:=cF (MethAt.mono (ce (c := "Step") (m := "got") ac1 cl1 ⟨a12,i12,k12⟩ F12 b12 qX (cI.ok okb_Step_got)) (by decide)) aJ (cF (MethAt.mono (ce (c := "Unnest") (m := "got") ac0 cl0 ⟨a14,i14,k14⟩ F14 b14 oq (cI.ok okb_Unnest_got)) (by decide)) aJ (iV))
 have iG:eO l.prog w K mg base 13 "put" ["self","form","table","view"] [("Step",(aN cE 4 4)),("Unnest",(aN bd 4 6))]:=cF (MethAt.mono (ce (c := "Step") (m := "put") ac1 cl1 ⟨a0,i0,k0⟩ F0 b0 qZ (cI.ok okb_Step_put)) (by decide)) aJ (cF (MethAt.mono (ce (c := "Unnest") (m := "put") ac0 cl0 ⟨a5,i5,k5⟩ F5 b5 og (cI.ok okb_Unnest_put)) (by decide)) aJ (iV))
 have lD:=bn F22 b22 (Rf X G a22) uN (cI.ok (uq (P:=l.prog) (w:=w) (base:=base) (f:=f22) cQ cD gH gx iA iG bK))
 have eK:=bn F23 b23 (Rf X G a23) oB (cI.ok (oy (P:=l.prog) (w:=w) (base:=base) (f:=f23) cD bo fU bK))
 have gb:eO l.prog w K mg base 12 "exact" ["self","form"] [("Step",(aN dB 2 2)),("Unnest",(aN bb 2 2))]:=cF (MethAt.mono (ce (c := "Step") (m := "exact") ac1 cl1 ⟨a21,i21,k21⟩ F21 b21 oh (cI.ok okb_Step_exact)) (by decide)) aJ (cF (MethAt.mono (ce (c := "Unnest") (m := "exact") ac0 cl0 ⟨a19,i19,k19⟩ F19 b19 iJ (cI.ok okb_Unnest_exact)) (by decide)) aJ (iV))
 have ga:eO l.prog w K mg base 12 "steady" ["self","form"] [("Step",(aN cU 2 2)),("Unnest",(aN bG 2 2))]:=cF (MethAt.mono (ce (c := "Step") (m := "steady") ac1 cl1 ⟨a15,i15,k15⟩ F15 b15 mz (cI.ok okb_Step_steady)) (by decide)) aJ (cF (MethAt.mono (ce (c := "Unnest") (m := "steady") ac0 cl0 ⟨a20,i20,k20⟩ F20 b20 jY (cI.ok okb_Unnest_steady)) (by decide)) aJ (iV))
 have hZ:eO l.prog w K mg base 12 "put" ["self","form","table","view"] [("Step",(aN cE 4 4)),("Unnest",(aN bd 4 6))]:=cF (MethAt.mono (ce (c := "Step") (m := "put") ac1 cl1 ⟨a0,i0,k0⟩ F0 b0 qZ (cI.ok okb_Step_put)) (by decide)) aJ (cF (MethAt.mono (ce (c := "Unnest") (m := "put") ac0 cl0 ⟨a5,i5,k5⟩ F5 b5 og (cI.ok okb_Unnest_put)) (by decide)) aJ (iV))
 have gV:eO l.prog w K mg base 12 "got" ["self","form","table"] [("Step",(aN dW 3 3)),("Unnest",(aN bY 3 3))]:=cF (MethAt.mono (ce (c := "Step") (m := "got") ac1 cl1 ⟨a12,i12,k12⟩ F12 b12 qX (cI.ok okb_Step_got)) (by decide)) aJ (cF (MethAt.mono (ce (c := "Unnest") (m := "got") ac0 cl0 ⟨a14,i14,k14⟩ F14 b14 oq (cI.ok okb_Unnest_got)) (by decide)) aJ (iV))
 have jT:=bn F24 b24 (Rf X G a24) uf (cI.ok (sy (P:=l.prog) (w:=w) (base:=base) (f:=f24) cQ gb ga hZ gV))
 have jU:=bn F25 b25 (Rf X G a25) sg (cI.ok (sP (P:=l.prog) (w:=w) (base:=base) (f:=f25) eD fU aK))
 have dM:=bn F26 b26 (Rf X G a26) ra (cI.ok (rd (P:=l.prog) (w:=w) (base:=base) (f:=f26) bK))
 have dF:=bn F27 b27 (Rf X G a27) wD (cI.ok (wW (P:=l.prog) (w:=w) (base:=base) (f:=f27) dM aC))
 have kZ:=bn F28 b28 (Rf X G a28) uw (cI.ok (uA (P:=l.prog) (w:=w) (base:=base) (f:=f28) dF cD aC bo bH DE kG bK))
 have gU:=bn F29 b29 (Rf X G a29) pE (cI.ok (o8 (P:=l.prog) (w:=w) (base:=base) (f:=f29) ))
 have cu:=bn F30 b30 (Rf X G a30) wI (cI.ok (wc (P:=l.prog) (w:=w) (base:=base) (f:=f30) bH))
 have cR:=bn F31 b31 (Rf X G a31) uM (cI.ok (uy (P:=l.prog) (w:=w) (base:=base) (f:=f31) bH bK aK eD fU))
 have fam:=oj (P:=l.prog) (w:=w) (base:=base) F32 b32 (Rf X G a32) F33 b33 (Rf X G a33) cR aC cu bH aK 12
 have lZ:=fam.1
 have eU:=fam.2
 have fV:=bn F34 b34 (Rf X G a34) n8 (cI.ok (n6 (P:=l.prog) (w:=w) (base:=base) (f:=f34) dF dM eU aC cu))
 exact II (P:=l.prog) (w:=w) (base:=base) F35 aC dF fV kZ gU jU jT eK lD ub bK dP aK bH
theorem walk {l:Ra} {q:RO} {loose:List Str} {XP:(Str->Option RM)->RT->Prop} {YP:RN->RT->Prop} {d:DefRec} {K:Params->QN} {T:RP} (hn:l.most=some 63) (hdf:d.params.defaults=[])
  (hY:∀ (w:RN) (h:RT),YP w h->(K w.params).In h/\h.get? T=some (Q8 #[]))
  (F:∀ (w:RN) (mg:Str->Option RM) (fa:RP) (h:RT),(K w.params).In h->h.Ns RW mg->mg d.name=some (.ref fa) ->
   (∃ c,Rc (K w.params) c T=true)/\(K w.params).lookup T=none/\∃ fd:Sz,(∀ (s:R0) (u:RM),SA s fd ⟨[u],[]⟩ [("_law_script",u)])/\∀ base:RT,(K w.params).In base->base.Ns RW mg->za mg base->jE l.prog w (K w.params) mg base (oa l.prog w) 15 fa fd ["_law_script"] (@CQ (ww T ⟨19,34,19,56⟩ ((("sorted_by":Str) ++ ".<locals>.") ++ "<lambda>")) (K w.params) 1 (aN tO 1 13)))
  (math:∀ ns:List Int,ns.length<=63->aN tO 1 13 [.lst (ns.map .int)]=.ok (.bl true)):PySem.W.WalkO q loose XP YP l.row.toRowW d [] (fun f vs=>PySem.call f vs) :=
 D7 (n:=63) (k:=15) (x := "_law_script") (T:=T) (CX:=fun w=>oa l.prog w) (sp:=fun w=>@CQ (ww T ⟨19,34,19,56⟩ ((("sorted_by":Str) ++ ".<locals>.") ++ "<lambda>")) (K w.params) 1 (aN tO 1 13)) hn (by decide) hdf ⟨rfl,by decide,by decide⟩ hY F
  (fun w H a ns hl hT hS=>⟨[],[.lst (ns.map .int)],rfl,⟨hT,fun a h=>nomatch h⟩,by rw [EV]; exact bz.mpr ⟨.ref a,[],rfl,cA.mpr ⟨a,_,rfl,hS,vH ns⟩,dh.mpr rfl⟩,by rw [math ns hl]; exact fun v H' sm d=>⟨mJ.mp d,sm⟩⟩) fun _ _ _ _ _ z=>by obtain⟨_,_,_,_,_,_,_,_,_,_,_,_,_,z⟩:=z; exact z
end Tk47
namespace Tk47
open PySem PySem.Spec L2 TG TD T4
local macro_rules
 | `(tactic| simp! only [$xs,*])=>`(tactic| simp only [cT,vk,q5,vv,iQ,eQ,ge_0,Bz,pU,Cp,pL,mS,pM,qm,CL,CP,CI,CK,CD,qL,p5,vN,kz,mY,qK,nD,vf,ql,pZ,nY,pX,j7,qa,kC,jZ,jg,je,qF,ng,jd,nu,kc,nz,nJ,ie,nT,kA,oN,nS,ky,jc,nQ,nE,BR,vI,BK,Bl,CG,qC,nB,qJ,nA,mR,Ck,BP,Qm,Qn,Oi,OJ,OY,Pb,K0,env0,List.replicate,PN,Oo,PD,Nat.reduceAdd,Nat.reduceSub,Oh,OO,qw,qG,vh,qp,qE,qc,jh,qi,vF,uV,uW,qj,j5,kr,j4,kj,ku,j6,vY,vW,vX,vq,u6,uS,kN,kM,gR,gP,pG,jf,gK,hX,gS,lu,mQ,hU,gW,kE,kF,ny,mV,ko,nh,qy,p9,mX,nR,gN,if_true,if_false,Qo,Qp,OW,$xs,*])
inductive Kd where
 | num (lo hi:Int) | wrd (ws:List Str)
def Kd.d:Kd->D
 | .num lo hi=>.tup [.str "number",.int lo,.int hi]
 | .wrd ws=>.tup [.str "word",.tup (ws.map .str)]
def Kd.gd:Kd->Prop
 | .num lo hi=>lo<=hi
 | .wrd ws=>ws≠[]/\ws.length<=100
def Kd.b:Kd->Bool
 | .num _ _=>true
 | .wrd _=>false
abbrev KL:=List (Str×Kd)
def kf (p:Str×Kd):D:=.tup [.str p.1,p.2.d]
abbrev fr (k:KL) (r:List (Str×D)):D:=.tup [.tup (k.map kf),.tup (r.map fld)]
def toD (p:Str×Kd):Str×D:=(p.1,p.2.d)
theorem C8 (k:KL):k.map kf=(k.map toD).map fld:=by rw [P8]; rfl
theorem IE:(("number":Str)==("number":Str))=true:=by decide +kernel
theorem Ga:(("word":Str)==("word":Str))=true:=by decide +kernel
theorem Ho:(("word":Str)==("number":Str))=false:=by decide +kernel
theorem HZ:(("rows":Str)==("number":Str))=false:=by decide +kernel
theorem EQ:(("rows":Str)==("word":Str))=false:=by decide +kernel
def KG:Nat->D->Prop
 | 0,d=>∃ c:Kd,c.gd/\d=c.d
 | n+1,d=>(∃ c:Kd,c.gd/\d=c.d)\/∃ (ks:KL) (qs:List (Str×D)) (b:Bool),d=.tup [.str "rows",fr ks qs,.bl b]/\1<=ks.length/\ks.length<=8/\(∀ p∈ks,p.2.gd)/\qs.length<=8/\∀ q∈qs,KG n q.2
theorem GH (ws:List Str) (w:Str):uL ws w≠[]:=by
 unfold uL
 split
 ·rename_i h
  intro z
  rw [z] at h
  simp at h
 ·simp
theorem J6 (ws:List Str) (h:ws.Nodup) (hl:ws.length < 64):∃ us:List Str,fJ [.lst (ws.map .str)]=some (.lst (us.map .str))/\us.Perm ws:=by
 have pz:∀ zs:List D,zs.Perm (ws.map D.str)->∃ us:List Str,zs=us.map .str/\us.Perm ws:=fun zs p=>by
  have e:zs=(zs.map fun z=>match z with | .str w=>w | _ => "").map .str:=by
   rw [P8]
   conv=>lhs; rw [<- QG zs]
   refine Ph fun z hz=>?_
   obtain⟨w,_,rfl⟩:=List.mem_map.mp (p.mem_iff.mp hz)
   rfl
  refine⟨_,e,?_⟩
  have q:=p.map fun z:D=>match z with | .str w=>w | _=>("":Str)
  rw [P8] at q
  have e2:ws.map ((fun z:D=>match z with | .str w=>w | _=>("":Str)) ∘ D.str)=ws:=by
   conv=>rhs; rw [<- QG ws]
   exact Ph fun _ _=>rfl
  rw [e2] at q
  exact q
 have fin:∀ key:D->List D,∃ us:List Str,some (D.lst (iR key (ws.map .str)))=some (.lst (us.map .str))/\us.Perm ws:=fun key=>by
  obtain⟨us,e,q⟩:=pz _ (fS key (ws.map .str))
  exact⟨us,by rw [e],q⟩
 show ∃ us,qT (ws.map .str)=_/\_
 unfold qT
 by_cases a:Ib (ws.map .str)
 ·rw [if_pos a]; exact fin _
 ·have b:Jl (ws.map .str):=by
   refine⟨by rw [Oj]; exact hl,false,fun x hx=>?_,?_⟩
   ·obtain⟨w,_,rfl⟩:=List.mem_map.mp hx
    exact .str w .nil
   ·rw [P6]
    refine h.imp fun hne e=>hne ?_
    have e:[D.str _]=[D.str _]:=e
    injection e with e _
    injection e
  rw [if_neg a,if_pos b]; exact fin _
theorem tX (x:Int) (h0:0<=x) (h1:x < 2147483700):∃ c:Kd,aN cP 1 8 [.int x]=.ok c.d/\c.gd:=by
 have g3:=fun i=>cK (i:=i) (show (0:Int) < 3 by decide)
 have g4:=fun i=>cK (i:=i) (show (0:Int) < 4 by decide)
 have g26:=fun i=>cK (i:=i) (show (0:Int) < 26 by decide)
 have d3:=fun i=>cS (i:=i) (show (0:Int) < 3 by decide) (show (3:Int) < 10 ^ 200 by decide)
 have d12:=fun i=>cS (i:=i) (show (0:Int) < 12 by decide) (show (12:Int) < 10 ^ 200 by decide)
 have d78:=fun i=>cS (i:=i) (show (0:Int) < 78 by decide) (show (78:Int) < 10 ^ 200 by decide)
 have d2028:=fun i=>cS (i:=i) (show (0:Int) < 2028 by decide) (show (2028:Int) < 10 ^ 200 by decide)
 have p7:rg (.int x) (.int 7)=some (.int (x ^ 7)):=zz x 7 (by decide) ‹0›
 have pb:=Jm
 have gp:=fun i=>cK (i:=i) (show (0:Int) < G7 by omega)
 rw [tL]; unfold cP
 by_cases h:x%3 < 2
 ·have h':decide (x%3 < 2)=true:=decide_eq_true h
  obtain⟨v,hv,e1⟩:=ND (.int 0) (.int (-3)) (.int (0 - x ^ 7%G7)) (.int (x ^ 7%G7)) (x / 3%4) ‹0› ‹0›
  obtain⟨lo,rfl⟩:∃ lo:Int,v=.int lo:=by
   simp only [Pu,QF,or_false] at hv
   rcases hv with rfl | rfl | rfl | rfl <;> exact⟨_,rfl⟩
  obtain⟨w,w0,e2⟩:∃ w:Int,0<=w/\bh (.lst [.int 0,.int 1,.int 6,.int G7]) (.int (x / 12%4))=some (.int w):=by
   rcases(show x / 12%4=0\/x / 12%4=1\/x / 12%4=2\/x / 12%4=3 by omega) with z | z | z | z <;> rw [z]
   ·exact⟨0,by decide,rfl⟩
   ·exact⟨1,by decide,rfl⟩
   ·exact⟨6,by decide,rfl⟩
   ·exact⟨G7,by omega,rfl⟩
  refine⟨.num lo (lo+w),?_,by show lo<=lo+w; omega⟩
  unfold Kd.d
  simp! only [g3,h',p7,Ig,gp,L4,d3,g4,e1,d12,e2,Lh]
 ·have h':decide (x%3 < 2)=false:=decide_eq_false h
  have LL:(("abcdefghijklmnopqrstuvwxyz":Str)).length=26:=by decide +kernel
  have L0:(("":Str)).length<=1000:=by decide +kernel
  generalize hL:("abcdefghijklmnopqrstuvwxyz":Str)=L at LL
  obtain⟨one,ho,e1⟩:=Aq L ‹0› (x / 3%26) ‹0› ‹0›
  obtain⟨oth,hq,e2⟩:=Aq L ‹0› (x / 78%26) ‹0› ‹0›
  have a1:=mK one oth ‹0› ‹0›
  have a2:=mK oth one ‹0› ‹0›
  have a3:=mK one one ‹0› ‹0›
  have m1:=Im (x:=one) (n:=8) (by decide) (by decide) ‹0›
  have m2:=Im (x:=oth) (n:=3) (by decide) (by decide) ‹0›
  have r8:lx [.int 8]=some (fG 0 8):=j3 8 (by decide)
  generalize hW:[D.str "",.str one,.str oth,.str (one++oth),.str (oth++one),.str (lV one 8),.str (one++one),.str (lV oth 3)]=W
  have W8:W.length=8:=by rw [<- hW]; rfl
  have Ws:∀ d∈W,∃ w:Str,d=.str w:=by
   rw [<- hW]
   intro d hd
   simp only [Pu,QF,or_false] at hd
   rcases hd with rfl | rfl | rfl | rfl | rfl | rfl | rfl | rfl <;> exact⟨_,rfl⟩
  obtain⟨T,hT⟩:∃ T:cn,T=(aM (jS (h7 (af (fC (.int 8)) (aw))) (gN 7) (aM (n9 (fB (f2 jD (f2 oY (f2 uJ (f2 dY (ah 0) (fC (.int 2028))) (ah 7)) (fC (.int 1))) (fC (.int 1)))) (o5 6 (f2 bh (ah 5) (ah 7)) (fC (.bl true))) (cW)) (eR [7] cW))) (aM (n9 (kP [6] (fB (f2 jD (fL vA (af (ah 6) (aw))) (fC (.int 0))))) (o5 6 (ah 3) (fC (.bl true))) (cW)) (iO 6 (bQ (dG (af (fC (.str "word")) (af (fL cy (af (fL fJ (af (fL qD (af (ah 6) (aw))) (aw))) (aw))) (aw)))))))):=⟨_,rfl⟩
  have fin:∀ ws:List Str,ws.Nodup->ws.length<=10->ws≠[]->∃ c:Kd,iO 6 (bQ (dG (af (fC (.str "word")) (af (fL cy (af (fL fJ (af (fL qD (af (ah 6) (aw))) (aw))) (aw))) (aw))))) K0 [some (.val (.int x)),none,none,some (.val (.str one)),none,some (.val (.lst W)),some (.own (wd ws)),none]=.ok c.d/\c.gd:=fun ws nd hl wn=>by
   obtain⟨us,ez,pz⟩:=J6 ws nd ‹0›
   refine⟨.wrd us,?_,⟨fun z=>wn (by rw [z] at pz; exact pz.symm.eq_nil),by rw [pz.length_eq]; omega⟩⟩
   unfold Kd.d
   simp! only [DK,ez,DP]
  have key:∃ c:Kd,T K0 [some (.val (.int x)),none,none,some (.val (.str one)),none,some (.val (.lst W)),some (.own (.dct [] [])),none]=.ok c.d/\c.gd:=by
   rw [hT,ie,jc]
   simp! only [r8]
   refine eL (Q:=fun z=>∃ c:Kd,z=.ok c.d/\c.gd) (fun i ρ=>∃ ws:List Str,ws.Nodup/\ws.length<=i/\ρ=[some (.val (.int x)),none,none,some (.val (.str one)),none,some (.val (.lst W)),some (.own (wd ws)),none]) ?_ ⟨[],OT,Oa _,rfl⟩ ?_
   ·rintro i d ρ kk hd ⟨ws,nd,hl,rfl⟩
    have hi:=cp hd
    rw [de] at hi
    have hdi:d=.int (i:Int):=by
     rw [kJ,Oy,Pn hi] at hd
     cases hd; simp
    subst hdi
    obtain⟨w,ew⟩:=Ws (W[i]'‹0›) (P5 _)
    have ix:bh (.lst W) (.int (i:Int))=some (.str w):=by
     rw [LC,tB ‹0›,ew]
    have sh:=C5 (x / 2028) i
    cases hb:(Builtin.bitAnd (x / 2028 / 2 ^ i) 1==1) with
    | false =>
     refine⟨_,_,rfl,⟨ws,nd,by omega,rfl⟩,?_⟩
     simp! only [d2028,sh,wv,hb]
    | true =>
     refine⟨_,_,rfl,⟨uL ws w,Be w nd,by have:=x6 ws w; omega,rfl⟩,?_⟩
     have pk:=fun k:Ks=>AK (i:=6) (fk:=f2 bh (ah 5) (ah 7)) (fv:=fC (.bl true)) (k:=k) (ρ:=[some (.val (.int x)),none,none,some (.val (.str one)),none,some (.val (.lst W)),some (.own (wd ws)),some (.val (.int (i:Int)))]) (al:=Cg ws) (q:=.inr w) (d:=.str w) (v:=.bl true) rfl (by simp! only [ix]) rfl rfl (by simp; omega)
     simp! only [d2028,sh,wv,hb,pk,Di]
   ·rintro ρ' ⟨ws,nd,hl,rfl⟩
    rw [de] at hl
    have pt:kP [6] (fB (f2 jD (fL vA (af (ah 6) (aw))) (fC (.int 0)))) [some (.val (.int x)),none,none,some (.val (.str one)),none,some (.val (.lst W)),some (.own (wd ws)),none]=.ok (((ws.length:Int))==0):=by
     simp! only [mG,Ei,Gh]
    dsimp only
    rw [ie,oN,pt,q5]
    cases hb:((ws.length:Int)==0) with
    | false=>exact fin ws nd ‹0› fun z=>by rw [z] at hb; cases hb
    | true =>
     have pk:=fun k:Ks=>AK (i:=6) (fk:=ah 3) (fv:=fC (.bl true)) (k:=k) (ρ:=[some (.val (.int x)),none,none,some (.val (.str one)),none,some (.val (.lst W)),some (.own (wd ws)),none]) (al:=Cg ws) (q:=.inr one) (d:=.str one) (v:=.bl true) rfl rfl rfl rfl (by simp; omega)
     rw [if_pos rfl,pk,Di]
     exact fin (uL ws one) (Be one nd) (by have:=x6 ws one; omega) (GH ws one)
  obtain⟨d,ed,fd⟩:=key
  have mW:kK W=some (.lst W):=Ip ‹0›
  refine⟨d,?_,fd⟩
  rw [<- hT]
  simp only [K0] at ed
  simp! only [hL,g3,h',d3,g26,e1,d78,e2,a1,a2,a3,m1,m2,hW,mW,v7,ed]
theorem AH {b st:Int} {L:List Str} {nm:Str} (h:∀ (j:Nat) (w:Str),L[j]?=some w->CN b (st+(j:Int)) w) (hn:CN b (st+(L.length:Int)) nm):∀ (j:Nat) (w:Str),(L++[nm])[j]?=some w->CN b (st+(j:Int)) w:=fun j w e=>by
 rw [List.getElem?_append] at e
 split at e
 ·exact h j w e
 ·rename_i hj
  have:j - L.length=0:=by
   have:=cp e
   simp at this; omega
  rw [this] at e
  cases e
  rw [show j=L.length by omega]; exact hn
theorem Bd (dp g:Nat) (hk:∀ x b:Int,0<=x->x < 2147483700->0<=b->∃ d,bc g [.int x,.int b,.int dp]=.ok d/\KG dp d) (x b st:Int) (m r:Nat) (h0:0<=x) (h1:x < 2147483700) (hb:0<=b) (hs:0<=st) (hm:m<=8) (hr:r<=8) :
  ∃ (ks:KL) (qs:List (Str×D)),aI (g+1) [.int x,.int b,.int st,.int m,.int r,.int dp]=.ok (fr ks qs)/\ks.length=m/\qs.length=r/\(∀ p∈ks,p.2.gd)/\(∀ q∈qs,KG dp q.2)/\∀ (j:Nat) (w:Str),(ks.map (·.1)++qs.map (·.1))[j]?=some w->CN b (st+(j:Int)) w:=by
 rw [gL,Io]; unfold jM
 have rn:lx [.int ((m:Int)+(r:Int))]=some (fG 0 (m+r)):=by
  rw [show ((m:Int)+(r:Int))=((m+r:Nat):Int) by omega]
  exact j3 (m+r) ‹0›
 obtain⟨T,hT⟩:∃ T:cn,T=iO 7 (iO 6 (bQ (dG (af (fL cy (af (ah 6) (aw))) (af (fL cy (af (ah 7) (aw))) (aw)))))):=⟨_,rfl⟩
 rw [<- hT]
 simp! only [IY,rn]
 refine eL (Q:=fun z=>∃ (ks:KL) (qs:List (Str×D)),z=.ok (fr ks qs)/\ks.length=m/\qs.length=r/\(∀ p∈ks,p.2.gd)/\(∀ q∈qs,KG dp q.2)/\∀ (j:Nat) (w:Str),(ks.map (·.1)++qs.map (·.1))[j]?=some w->CN b (st+(j:Int)) w)
  (fun i ρ=>∃ (y:Int) (ks:KL) (qs:List (Str×D)),0<=y/\y < 2147483700/\ks.length=min i m/\qs.length=i - m/\(∀ p∈ks,p.2.gd)/\(∀ q∈qs,KG dp q.2)/\(∀ (j:Nat) (w:Str),(ks.map (·.1)++qs.map (·.1))[j]?=some w->CN b (st+(j:Int)) w) /\
   ρ=[some (.val (.int y)),some (.val (.int b)),some (.val (.int st)),some (.val (.int m)),some (.val (.int r)),some (.val (.int dp)),some (.own (.lst (ks.map kf))),some (.own (.lst (qs.map fld))),none]) ?_ ⟨x,[],[],h0,h1,by simp,by simp,(fun _ h=>nomatch h),(fun _ h=>nomatch h),(fun j w h=>by simp at h),rfl⟩ ?_
 ·rintro i d ρ kk hd ⟨y,ps,qs,y0,y1,lp,lq,fp,fq,fn,rfl⟩
  have hi:=cp hd
  rw [de] at hi
  have hdi:d=.int (i:Int):=by
   rw [kJ,Oy,Pn hi] at hd
   cases hd; simp
  subst hdi
  obtain⟨y',y0',y1',ey⟩:=ib y y0 y1
  obtain⟨nm,en,nP⟩:=Ay b (st+(i:Int)) hb ‹0›
  by_cases h:i < m
  ·have h':decide ((i:Int) < (m:Int))=true:=decide_eq_true ‹0›
   obtain⟨c,ek,ck⟩:=tX y' y0' ‹0›
   refine⟨_,_,rfl,⟨y',ps++[(nm,c)],qs,y0',by omega,by rw [OA,OH]; omega,by omega,fun p hp=>?_,fq,?_,rfl⟩,?_⟩
   ·rcases List.mem_append.mp hp with z | z
    ·exact fp p z
    ·rw [Qe] at z; subst z; exact ck
   ·have q0:qs=[]:=List.length_eq_zero_iff.mp ‹0›
    subst q0
    rw [OJ,Oo] at fn ⊢
    rw [Pj]
    exact AH fn (by rw [Oj,lp,Qg ‹0›]; exact nP)
   ·have ap:fT (ps.map kf) [.tup [.str nm,c.d]]=some ((ps++[(nm,c)]).map kf):=by
     rw [kQ (by rw [Oj]; omega),Pj]; rfl
    have sm:=fun K:Ks=>lP 6 fT (af (dG (af (fR (aN cx 2 7) (af (ah 1) (af (f2 cq (ah 2) (ah 8)) (aw)))) (af (fR (aN cP 1 8) (af (ah 0) (aw))) (aw)))) (aw)) K [some (.val (.int y')),some (.val (.int b)),some (.val (.int st)),some (.val (.int m)),some (.val (.int r)),some (.val (.int dp)),some (.own (.lst (ps.map kf))),some (.own (.lst (qs.map fld))),some (.val (.int i))] (xs:=ps.map kf) rfl
    generalize (ps++[(nm,c)]).map kf=Y at ap ⊢
    simp! only [ey,h',sm,en,ek,DP,ap]
  ·have h':decide ((i:Int) < (m:Int))=false:=decide_eq_false ‹0›
   obtain⟨k,ek,fk⟩:=hk y' b y0' ‹0› hb
   refine⟨_,_,rfl,⟨y',ps,qs++[(nm,k)],y0',by omega,by omega,by rw [OA,OH]; omega,fp,fun p hp=>?_,?_,rfl⟩,?_⟩
   ·rcases List.mem_append.mp hp with z | z
    ·exact fq p z
    ·rw [Qe] at z; subst z; exact fk
   ·rw [Pj,<- Pr]
    exact AH fn (by rw [OA,Oj,Oj,lp,lq,show min i m+(i - m)=i by omega]; exact nP)
   ·have ap:fT (qs.map fld) [.tup [.str nm,k]]=some ((qs++[(nm,k)]).map fld):=by
     rw [kQ (by rw [Oj]; omega),Pj]; rfl
    have sm:=fun K:Ks=>lP 7 fT (af (dG (af (fR (aN cx 2 7) (af (ah 1) (af (f2 cq (ah 2) (ah 8)) (aw)))) (af (fR (bc g) (af (ah 0) (af (ah 1) (af (ah 5) (aw))))) (aw)))) (aw)) K [some (.val (.int y')),some (.val (.int b)),some (.val (.int st)),some (.val (.int m)),some (.val (.int r)),some (.val (.int dp)),some (.own (.lst (ps.map kf))),some (.own (.lst (qs.map fld))),some (.val (.int i))] (xs:=qs.map fld) rfl
    generalize (qs++[(nm,k)]).map fld=Y at ap ⊢
    simp! only [ey,h',sm,en,ek,DP,ap]
 ·rintro ρ' ⟨y,ps,qs,y0,y1,lp,lq,fp,fq,fn,rfl⟩
  rw [de] at lp lq
  refine⟨ps,qs,?_,by omega,by omega,fp,fq,fn⟩
  rw [hT]
  simp! only [DP]
theorem FP:∀ (dp g:Nat),2*dp+1<=g->∀ x b:Int,0<=x->x < 2147483700->0<=b->∃ d,bc g [.int x,.int b,.int dp]=.ok d/\KG dp d:=by
 intro dp
 induction dp with
 | zero =>
  intro g hg x b h0 h1 hb
  obtain⟨g,rfl⟩:∃ g',g=g'+1:=⟨g - 1,by omega⟩
  have d3:=fun i=>cS (i:=i) (show (0:Int) < 3 by decide) (show (3:Int) < 10 ^ 200 by decide)
  obtain⟨c,e,f⟩:=tX (x / 3) ‹0› ‹0›
  refine⟨c.d,?_,c,f,rfl⟩
  rw [fw,pW]; unfold iF
  have z:(((0:Nat):Int)==0)=true:=rfl
  simp! only [z,d3,e]
 | succ dp ih =>
  intro g hg x b h0 h1 hb
  obtain⟨g,rfl⟩:∃ g',g=g'+1+1:=⟨g - 2,by omega⟩
  have g2:=fun i=>cK (i:=i) (show (0:Int) < 2 by decide)
  have g3:=fun i=>cK (i:=i) (show (0:Int) < 3 by decide)
  have g12:=fun i=>cK (i:=i) (show (0:Int) < 12 by decide)
  have d3:=fun i=>cS (i:=i) (show (0:Int) < 3 by decide) (show (3:Int) < 10 ^ 200 by decide)
  have d6:=fun i=>cS (i:=i) (show (0:Int) < 6 by decide) (show (6:Int) < 10 ^ 200 by decide)
  have d18:=fun i=>cS (i:=i) (show (0:Int) < 18 by decide) (show (18:Int) < 10 ^ 200 by decide)
  have d36:=fun i=>cS (i:=i) (show (0:Int) < 36 by decide) (show (36:Int) < 10 ^ 200 by decide)
  have z:(((dp+1:Nat):Int)==0)=false:=by simp; omega
  rw [fw,pW]; unfold iF
  by_cases h:x%3 < 2
  ·have h':decide (x%3 < 2)=true:=decide_eq_true h
   obtain⟨c,e,f⟩:=tX (x / 3) ‹0› ‹0›
   refine⟨c.d,?_,.inl ⟨c,f,rfl⟩⟩
   simp! only [z,g3,h',d3,e]
  ·have h':decide (x%3 < 2)=false:=decide_eq_false h
   obtain⟨m,hm,hm8,m1⟩:∃ m:Nat,1+x / 3%2=(m:Int)/\m<=8/\1<=m:=⟨(1+x / 3%2).toNat,by omega,by omega,by omega⟩
   obtain⟨r,hr,hr8⟩:∃ m:Nat,x / 6%3=(m:Int)/\m<=8:=⟨(x / 6%3).toNat,by omega,by omega⟩
   have hd:((dp+1:Nat):Int) - 1=(dp:Int):=by omega
   obtain⟨ps,qs,e,l1,l2,F1,F2,_⟩:=Bd dp g (ih g ‹0›) (x / 3) b (x / 36%12) m r ‹0› ‹0› hb ‹0› hm8 hr8
   refine⟨.tup [.str "rows",fr ps qs,.bl (x / 18%2==1)],?_,.inr ⟨ps,qs,_,rfl,by omega,by omega,F1,by omega,F2⟩⟩
   simp! only [z,g3,h',d3,d36,g12,g2,d6,hm,hr,hd,e,d18,Lh]
theorem rz (dp:Nat) (hd:dp<=3) (x b st:Int) (m r:Nat) (h0:0<=x) (h1:x < 2147483700) (hb:0<=b) (hs:0<=st) (hm:m<=8) (hr:r<=8) :
  ∃ (ks:KL) (qs:List (Str×D)),aI 12 [.int x,.int b,.int st,.int m,.int r,.int dp]=.ok (fr ks qs)/\ks.length=m/\qs.length=r/\(∀ p∈ks,p.2.gd)/\(∀ q∈qs,KG dp q.2)/\∀ (j:Nat) (w:Str),(ks.map (·.1)++qs.map (·.1))[j]?=some w->CN b (st+(j:Int)) w :=
 Bd dp 11 (FP dp 11 ‹0›) x b st m r h0 h1 hb hs hm hr
theorem pI {σ:List Bool} {kl:Nat} (h0:σ≠[]) (hl:kl=σ.length) (rows:List (List D)) (hs:∀ r∈rows,Sh σ (r.take kl)) (hn:rows.length < 64):∃ t:List (List D),aN bg 2 4 [.int kl,.lst (rows.map .tup)]=.ok (.tup (t.map .tup))/\AG kl t/\(∀ r∈t,r∈rows)/\t.length<=rows.length/\∀ r∈rows,∃ r'∈t,r'.take kl=r.take kl:=by
 obtain⟨T,hT⟩:∃ T:cn,T=(iO 2 (bQ (fL cy (af (jV [none,some 2] (bR (fL fJ (af (fL me (af (ah 2) (aw))) (aw)))) (gN 0) (fA) (f2 zu (ah 1) (ah 0))) (aw))))):=⟨_,rfl⟩
 rw [eZ]; unfold bg
 rw [<- hT]
 simp! only [v7]
 refine eL (Q:=fun z=>∃ t:List (List D),z=.ok (.tup (t.map .tup))/\AG kl t/\(∀ r∈t,r∈rows)/\t.length<=rows.length/\∀ r∈rows,∃ r'∈t,r'.take kl=r.take kl) (fun i ρ=>∃ al:List (List Key×D),(al.map (·.1)).Nodup/\al.length<=i/\(∀ r∈rows.take i,∃ q∈al.map (·.1),q.map bu=r.take kl)/\(∀ p∈al,∃ r∈rows,p.2=.tup r/\r.take kl=p.1.map bu)/\ρ=[some (.val (.int kl)),some (.val (.lst (rows.map .tup))),some (.own (cO al)),none]) ?_ ⟨[],OT,Oa _,(fun r h=>by rw [OZ] at h; cases h),(fun _ h=>nomatch h),rfl⟩ ?_
 ·rintro i d ρ kk hd ⟨al,nd,ll,cv,hp,rfl⟩
  have hi:=cp hd
  rw [Oj] at hi
  rw [Oy,O6 hi] at hd
  cases hd
  have rm:rows[i]∈rows:=P5 hi
  obtain⟨q,eq⟩:=rV (hs _ rm)
  have ct:cutD rows[i] none (some (kl:Int))=q.map bu:=by rw [oF,eq]
  refine⟨_,_,rfl,⟨gX al q (.tup rows[i]),Gi _ _ nd,by have:=DT al q (.tup rows[i]); omega,fun r hr=>?_,fun p h=>?_,rfl⟩,?_⟩
  ·rw [pP]
   rw [QH hi] at hr
   rcases List.mem_append.mp hr with z | z
   ·obtain⟨q',h1,h2⟩:=cv r z
    refine⟨q',?_,h2⟩
    split
    ·exact h1
    ·exact N6 _ h1
   ·rw [List.mem_singleton.mp z]
    refine⟨q,?_,eq.symm⟩
    split
    ·rename_i h; exact h
    ·exact Oc _ N4
  ·rcases Ej h with z | z
   ·exact hp p z
   ·subst z; exact⟨_,rm,rfl,eq⟩
  ·have pd:=fun K:Ks=>Bf (i:=2) (fk:=bN (ah 3) (bA) (cM (ah 0))) (fv:=ah 3) (k:=K) (ρ:=[some (.val (.int kl)),some (.val (.lst (rows.map .tup))),some (.own (cO al)),some (.val (.tup rows[i]))]) (al:=al) (q:=q) (v:=.tup rows[i]) rfl (by simp! only [ct]) rfl ‹0›
   generalize cO (gX al q (.tup rows[i]))=Y at pd ⊢
   generalize cO al=Z at pd ⊢
   simp! only [pd]
 ·rintro ρ' ⟨al,nd,ll,cv,hp,rfl⟩
  rw [Oj] at ll
  have hsk:∀ p∈al,Sh σ (p.1.map bu):=fun p h=>by
   obtain⟨r,hr,_,e⟩:=hp p h
   rw [<- e]; exact hs r hr
  obtain⟨es,ri⟩:=A7 nd hsk h0 ‹0›
  have pm:=fS dS (encK al)
  have lt:=xL al
  generalize iR dS (encK al)=W at es ri pm
  have wl:W.length=al.length:=by rw [pm.length_eq,Oj]
  have mem:∀ x∈W,∃ p∈al,x=.tup (p.1.map bu):=fun x hx=>by
   obtain⟨p,h1,h2⟩:=List.mem_map.mp (pm.mem_iff.mp hx)
   exact⟨p,h1,h2.symm⟩
  obtain⟨vs,v1,v2,v3⟩:=DM (ρ:=[none,some (.val (cO al))]) (g:=gN 0) (C:=fA) (Fe:=f2 zu (ah 1) (ah 0)) W (fun i v=>∃ r∈rows,v=.tup r/\W[i]?=some (.tup (r.take kl))) fun i d hd=>by
   obtain⟨p,h1,h2⟩:=mem d (Oz hd)
   obtain⟨r,hr,e1,e2⟩:=hp p h1
   have dx:=IW al p.1
   rw [xG nd h1,e1] at dx
   refine⟨[some (.val d),some (.val (cO al))],.tup r,rfl,rfl,?_,r,hr,rfl,by rw [hd,h2,e2]⟩
   subst h2
   generalize cO al=Z at dx
   simp! only [dx]
  obtain⟨t,rfl⟩:=Bi vs fun v hv=>by
   obtain⟨i,hi,ei⟩:=Pa hv
   obtain⟨r,_,e,_⟩:=v2 i v (by rw [O6 hi,ei])
   exact⟨r,e⟩
  rw [Oj] at v1
  have at_:∀ (i:Nat) (h:i < t.length),t[i]∈rows/\W[i]?=some (.tup (t[i].take kl)):=fun i h=>by
   obtain⟨r,hr,e,w⟩:=v2 i (.tup t[i]) (by rw [Oy,O6 h]; rfl)
   injection e with e
   rw [e]; exact⟨hr,w⟩
  refine⟨t,?_,?_,fun r hr=>?_,by omega,fun r hr=>?_⟩
  ·have lc:jV [none,some 2] (bR (fL fJ (af (fL me (af (ah 2) (aw))) (aw)))) (gN 0) (fA) (f2 zu (ah 1) (ah 0)) [some (.val (.int kl)),some (.val (.lst (rows.map .tup))),some (.val (cO al)),none]=.ok (.lst (t.map .tup)):=by
    refine fM (ds:=W) ?_ ‹0› v3
    generalize cO al=Z at lt
    simp! only [lt,es]
   rw [hT]
   generalize cO al=Z at lc
   simp! only [lc]
  ·refine List.pairwise_iff_getElem.mpr fun i j hi hj hij=>?_
   have a:=(at_ i hi).2
   have b:=(at_ j hj).2
   rw [O6 ‹0›] at a b
   have:=List.pairwise_iff_getElem.mp ri i j ‹0› ‹0› hij
   rw [Option.some.inj a,Option.some.inj b] at this
   exact this
  ·obtain⟨i,hi,ei⟩:=Pa hr
   rw [<- ei]; exact(at_ i hi).1
  ·rw [Oj,Pl] at cv
   obtain⟨q,hq,eq⟩:=cv r hr
   obtain⟨p,hp',rfl⟩:=List.mem_map.mp hq
   have:D.tup (p.1.map bu)∈W:=pm.mem_iff.mpr (List.mem_map.mpr ⟨p,hp',rfl⟩)
   obtain⟨i,hi,ei⟩:=Pa this
   have a:=(at_ i ‹0›).2
   rw [O6 hi,ei] at a
   injection a with a
   injection a with a
   exact⟨t[i]'‹0›,P5 _,by rw [<- a,eq]⟩
theorem sJ (c:Kd) (hg:c.gd) (g:Nat) (x:Int) (h0:0<=x) (h1:x < 2147483700):∃ v,aA (g+1) [c.d,.int x]=.ok v/\Sh [c.b] [v]:=by
 rw [eP,eZ]; unfold gB
 cases c with
 | num lo hi =>
  have hg:lo<=hi:=hg
  have p7:rg (.int x) (.int 7)=some (.int (x ^ 7)):=zz x 7 (by decide) ‹0›
  have gm:=fun i=>cK (i:=i) (show (0:Int) < hi - lo+1 by omega)
  refine⟨.int (lo+x ^ 7%(hi - lo+1)),?_,.int _ .nil⟩
  simp! only [Kd.d,IE,p7,gm]
 | wrd ws =>
  obtain⟨wn,_⟩:=(show ws≠[]/\ws.length<=100 from hg)
  have ul:0 < ws.length:=List.length_pos_iff.mpr wn
  have q1:=Qr x (show (ws.length:Int)≠0 by omega)
  have q2:=Qs x (show (0:Int) < (ws.length:Int) by omega)
  have gm:=fun i=>cK (i:=i) (show (0:Int) < (ws.length:Int) by omega)
  have ix:bh (.tup (ws.map .str)) (.int (x%(ws.length:Int)))=some (.str (ws[(x%(ws.length:Int)).toNat]'‹0›)):=by
   rw [Iz,AI,rW q1 q2]; rfl
  refine⟨_,?_,.str (ws[(x%(ws.length:Int)).toNat]'‹0›) .nil⟩
  simp! only [Kd.d,Ho,Ga,Oj,gm,ix]
theorem wm (n g:Nat) (hv:∀ (d:D) (x:Int),KG n d->0<=x->x < 2147483700->∃ v,aA (g+1) [d,.int x]=.ok v/\AL (2*n) v) (ks:KL) (qs:List (Str×D)) (k8:ks.length<=8) (q8:qs.length<=8) (hk:∀ p∈ks,p.2.gd) (hq:∀ q∈qs,KG n q.2) (mn hd tl:Int) (h0:0<=hd) (h1:hd < 2147483700) (t0:0<=tl) (t1:tl < 2147483700) :
  ∃ vs:List D,aB (g+2) [fr ks qs,.int mn,.int hd,.int tl]=.ok (.tup vs)/\vs.length=ks.length+qs.length/\Sh (ks.map (·.2.b)) (vs.take ks.length)/\∀ v∈vs,AL (2*n) v:=by
 rw [iI,yZ]; unfold kO
 have ad:=gD (ks.map kf) (qs.map fld) (by rw [Oj,Oj]; omega)
 have em:ks.map kf++qs.map fld=(ks.map toD++qs).map fld:=by rw [Pj,C8]
 rw [em] at ad
 have fl:(ks.map toD++qs).length=ks.length+qs.length:=by rw [OA,Oj]
 obtain⟨T,hT⟩:∃ T:cn,T=(iO 4 (bQ (fL cy (af (ah 4) (aw))))):=⟨_,rfl⟩
 rw [<- hT]
 simp! only [IY,ad]
 refine eL (Q:=fun z=>∃ vs:List D,z=.ok (.tup vs)/\vs.length=ks.length+qs.length/\Sh (ks.map (·.2.b)) (vs.take ks.length)/\∀ v∈vs,AL (2*n) v)
  (fun i ρ=>∃ (y z:Int) (ka va:List D),0<=y/\y < 2147483700/\0<=z/\z < 2147483700/\Sh ((ks.take i).map (·.2.b)) ka/\va.length=i - ks.length/\(∀ v∈va,AL (2*n) v)/\ρ=[some (.val (fr ks qs)),some (.val (.int mn)),some (.val (.int y)),some (.val (.int z)),some (.own (.lst (ka++va))),none,none]) ?_ ⟨hd,tl,[],[],h0,h1,t0,t1,.nil,by simp,(fun _ h=>nomatch h),rfl⟩ ?_
 ·rintro i d ρ kk hd ⟨y,z,ka,va,y0,y1,z0,z1,hka,lva,hva,rfl⟩
  have hi:=cp hd
  rw [Oj,fl] at hi
  rw [Oy,O6 ‹0›] at hd
  cases hd
  have kal:ka.length=min i ks.length:=by rw [hka.length,Oj,Ou]
  obtain⟨y',y0',y1',ey⟩:=ib y y0 y1
  obtain⟨z',z0',z1',ez⟩:=ib z z0 z1
  have step:∀ x:Int,0<=x->x < 2147483700->∃ v,aA (g+1) [((ks.map toD++qs)[i]'‹0›).2,.int x]=.ok v/\∃ ka' va',ka++va++[v]=ka'++va'/\Sh ((ks.take (i+1)).map (·.2.b)) ka'/\va'.length=i+1 - ks.length/\∀ v∈va',AL (2*n) v:=fun x x0 x1=>by
   by_cases h:i < ks.length
   ·have e:(ks.map toD++qs)[i]'‹0›=toD ks[i]:=by rw [List.getElem_append_left (by rw [Oj]; exact h),Qq]
    obtain⟨v,ev,sv⟩:=sJ ks[i].2 (hk _ (P5 h)) g x x0 x1
    have v0:va=[]:=List.length_eq_zero_iff.mp ‹0›
    subst v0
    refine⟨v,by rw [e]; exact ev,ka++[v],[],by simp,?_,by simp; omega,fun _ h=>nomatch h⟩
    rw [QH h,Pj]
    exact wa hka sv
   ·have e:(ks.map toD++qs)[i]'‹0›=qs[i - ks.length]'‹0›:=by rw [List.getElem_append_right (by rw [Oj]; omega)]; simp
    obtain⟨v,ev,sv⟩:=hv _ x (hq _ (P5 (show i - ks.length < qs.length by omega))) x0 x1
    refine⟨v,by rw [e]; exact ev,ka,va++[v],by rw [Pr],?_,by rw [OA,OH]; omega,fun w hw=>?_⟩
    ·rw [Qd ‹0›] at hka ⊢; exact hka
    ·rcases List.mem_append.mp hw with z | z
     ·exact hva w z
     ·rw [List.mem_singleton.mp z]; exact sv
  have gt:gT 2 (oA [5,6]) (fld ((ks.map toD++qs)[i]'‹0›)) [some (.val (fr ks qs)),some (.val (.int mn)),some (.val (.int y)),some (.val (.int z)),some (.own (.lst (ka++va))),none,none]=some [some (.val (fr ks qs)),some (.val (.int mn)),some (.val (.int y)),some (.val (.int z)),some (.own (.lst (ka++va))),some (.val (.str ((ks.map toD++qs)[i]'‹0›).1)),some (.val ((ks.map toD++qs)[i]'‹0›).2)]:=rfl
  have alen:(ka++va).length < 1000:=by rw [OA]; omega
  generalize (ks.map toD++qs)[i]'‹0›=p at step gt
  cases hb:decide (((ka++va).length:Int) < mn) with
  | true =>
   obtain⟨v,ev,ka',va',e1,e2,e3,e4⟩:=step y' y0' ‹0›
   refine⟨_,_,gt,⟨y',z,ka',va',y0',by omega,z0,z1,e2,e3,e4,rfl⟩,?_⟩
   have ap:fT (ka++va) [v]=some (ka'++va'):=by rw [kQ ‹0›,e1]
   have sm:=fun K:Ks=>lP 4 fT (af (fR (aA (g+1)) (af (ah 6) (af (ah 2) (aw)))) (aw)) K [some (.val (fr ks qs)),some (.val (.int mn)),some (.val (.int y')),some (.val (.int z)),some (.own (.lst (ka++va))),some (.val (.str p.1)),some (.val p.2)] (xs:=ka++va) rfl
   generalize ka++va=A at hb ap sm alen
   generalize ka'++va'=B at ap
   simp! only [mG,Ei,hb,ey,sm,ev,ap]
  | false =>
   obtain⟨v,ev,ka',va',e1,e2,e3,e4⟩:=step z' z0' ‹0›
   refine⟨_,_,gt,⟨y,z',ka',va',y0,y1,z0',by omega,e2,e3,e4,rfl⟩,?_⟩
   have ap:fT (ka++va) [v]=some (ka'++va'):=by rw [kQ ‹0›,e1]
   have sm:=fun K:Ks=>lP 4 fT (af (fR (aA (g+1)) (af (ah 6) (af (ah 3) (aw)))) (aw)) K [some (.val (fr ks qs)),some (.val (.int mn)),some (.val (.int y)),some (.val (.int z')),some (.own (.lst (ka++va))),some (.val (.str p.1)),some (.val p.2)] (xs:=ka++va) rfl
   generalize ka++va=A at hb ap sm alen
   generalize ka'++va'=B at ap
   simp! only [mG,Ei,hb,ez,sm,ev,ap]
 ·rintro ρ' ⟨y,z,ka,va,y0,y1,z0,z1,hka,lva,hva,rfl⟩
  rw [Oj,fl] at hka lva
  rw [Qd ‹0›] at hka
  have kal:ka.length=ks.length:=by rw [hka.length,Oj]
  refine⟨ka++va,?_,by rw [OA]; omega,by rw [<- kal,Ql]; exact hka,fun v hv=>?_⟩
  ·rw [hT]
   generalize ka++va=A
   simp! only []
  ·rcases List.mem_append.mp hv with w | w
   ·exact(sq hka v w).of0 _
   ·exact hva v w
theorem Gp (n g:Nat) (hv:∀ (d:D) (x:Int),KG n d->0<=x->x < 2147483700->∃ v,aA (g+1) [d,.int x]=.ok v/\AL (2*n) v) (ks:KL) (qs:List (Str×D)) (k1:1<=ks.length) (k8:ks.length<=8) (q8:qs.length<=8) (hk:∀ p∈ks,p.2.gd) (hq:∀ q∈qs,KG n q.2) (x:Int) (m:Nat) (h0:0<=x) (h1:x < 2147483700) (hm:m<=3) :
  ∃ v:D,aG (g+3) [fr ks qs,.int x,.int m]=.ok v/\AL (2*n+2) v:=by
 have rn:=j3 m ‹0›
 obtain⟨T,hT⟩:∃ T:cn,T=(iO 3 (bQ (fR (aN bg 2 4) (af (fL iy (af (f2 bh (ah 0) (fC (.int 0))) (aw))) (af (ah 3) (aw)))))):=⟨_,rfl⟩
 rw [hJ,pW]; unfold jL
 rw [<- hT]
 simp! only [IY,rn]
 refine eL (Q:=fun z=>∃ v:D,z=.ok v/\AL (2*n+2) v)
  (fun i ρ=>∃ (y:Int) (rs:List (List D)),0<=y/\y < 2147483700/\rs.length=i/\(∀ r∈rs,r.length<=16/\Sh (ks.map (·.2.b)) (r.take ks.length)/\∀ v∈r,AL (2*n) v)/\ρ=[some (.val (fr ks qs)),some (.val (.int y)),some (.val (.int m)),some (.own (.lst (rs.map .tup))),none]) ?_ ⟨x,[],h0,h1,rfl,(fun _ h=>nomatch h),rfl⟩ ?_
 ·rintro i d ρ kk hd ⟨y,rs,y0,y1,rl,hr,rfl⟩
  have hi:=cp hd
  rw [de] at hi
  obtain⟨y',y0',y1',ey⟩:=ib y y0 y1
  obtain⟨vs,ev,v1,v2,v3⟩:=wm n g hv ks qs k8 q8 hk hq 0 0 y' (by decide) (by decide) y0' ‹0›
  refine⟨_,_,rfl,⟨y',rs++[vs],y0',by omega,by rw [OA,OH,rl],fun r h=>?_,rfl⟩,?_⟩
  ·rcases List.mem_append.mp h with z | z
   ·exact hr r z
   ·rw [List.mem_singleton.mp z]; exact⟨by omega,v2,v3⟩
  ·have ap:fT (rs.map .tup) [.tup vs]=some ((rs++[vs]).map .tup):=by
    rw [kQ (by rw [Oj]; omega),Pj]; rfl
   have sm:=fun K:Ks=>lP 3 fT (af (fR (aB (g+2)) (af (ah 0) (af (fC (.int 0)) (af (fC (.int 0)) (af (ah 1) (aw)))))) (aw)) K [some (.val (fr ks qs)),some (.val (.int y')),some (.val (.int m)),some (.own (.lst (rs.map .tup))),some (.val d)] (xs:=rs.map .tup) rfl
   generalize (rs++[vs]).map D.tup=Y at ap ⊢
   generalize rs.map D.tup=Z at ap sm ⊢
   simp! only [ey,sm,ev,ap]
 ·rintro ρ' ⟨y,rs,y0,y1,rl,hr,rfl⟩
  rw [de] at rl
  obtain⟨t,et,_,tm,tl,_⟩:=pI (σ:=ks.map (·.2.b)) (kl:=ks.length) (fun z=>by have:=congrArg List.length z; rw [Oj,OO] at this; omega) (by rw [Oj]) rs (fun r h=>(hr r h).2.1) ‹0›
  refine⟨.tup (t.map .tup),?_,AL.tup (by rw [Oj]; omega) fun v hv=>?_⟩
  ·rw [hT]
   simp! only [Oj,et]
  ·obtain⟨r,h1,rfl⟩:=List.mem_map.mp hv
   obtain⟨w1,_,w3⟩:=hr r (tm r h1)
   exact AL.tup ‹0› w3
theorem sX:∀ (n g:Nat),3*n+1<=g->∀ (d:D) (x:Int),KG n d->0<=x->x < 2147483700->∃ v,aA g [d,.int x]=.ok v/\AL (2*n) v:=by
 intro n
 induction n with
 | zero =>
  intro g hg d x hd h0 h1
  obtain⟨g,rfl⟩:∃ g',g=g'+1:=⟨g - 1,by omega⟩
  obtain⟨c,cg,rfl⟩:=hd
  obtain⟨v,ev,sv⟩:=sJ c cg g x h0 h1
  exact⟨v,ev,sq sv v N4⟩
 | succ n ih =>
  intro g hg d x hd h0 h1
  obtain⟨g,rfl⟩:∃ g',g=g'+3+1:=⟨g - 4,by omega⟩
  rcases hd with ⟨c,cg,rfl⟩ | ⟨ks,qs,b,rfl,k1,k8,hk,q8,hq⟩
  ·obtain⟨v,ev,sv⟩:=sJ c cg (g+3) x h0 h1
   exact⟨v,ev,(sq sv v N4).of0 _⟩
  ·have d3:=fun i=>cS (i:=i) (show (0:Int) < 3 by decide) (show (3:Int) < 10 ^ 200 by decide)
   have g3:=fun i=>cK (i:=i) (show (0:Int) < 3 by decide)
   obtain⟨m,hm,em⟩:∃ m:Nat,m<=3/\tG [.int (x%3),.int (if b then 1 else 0)]=some (.int (m:Int)):=by
    refine⟨(if (if b then (1:Int) else 0) > x%3 then (if b then (1:Int) else 0) else x%3).toNat,?_,?_⟩
    ·cases b <;> simp <;> split <;> omega
    ·rw [lu]
     congr 2
     cases b <;> simp <;> split <;> omega
   obtain⟨v,ev,av⟩:=Gp n g (ih (g+1) ‹0›) ks qs k1 k8 q8 hk hq (x / 3) m ‹0› ‹0› hm
   refine⟨v,?_,av⟩
   rw [eP,eZ]; unfold gB
   simp! only [HZ,EQ,d3,g3,C7,em,ev]
structure Tab (σ:List Bool) (t:List (List D)):Prop where
 sh:∀ r∈t,Sh σ (r.take σ.length)
 ri:AG σ.length t
 ln:t.length < 51
 rl:∀ r∈t,r.length<=16/\σ.length<=r.length
 al:∀ r∈t,∀ v∈r,AL 4 v
theorem DJ (ks:KL) (qs:List (Str×D)) (n:Nat) (hn:n<=2) (k1:1<=ks.length) (k8:ks.length<=8) (q8:qs.length<=8) (hk:∀ p∈ks,p.2.gd) (hq:∀ q∈qs,KG n q.2) (m:Int) (ns:List Int) (hl:ns.length<=63) :
  ∃ t:List (List D),Tab (ks.map (·.2.b)) t/\aN gl 5 8 [fr ks qs,.int m,.lst (ns.map .int),.int 2,.int 50]=.ok (.tup (t.map .tup)):=by
 have g2:=fun i=>cK (i:=i) (show (0:Int) < 2 by decide)
 have g4:=fun i=>cK (i:=i) (show (0:Int) < 4 by decide)
 have d2:=fun i=>cS (i:=i) (show (0:Int) < 2 by decide) (show (2:Int) < 10 ^ 200 by decide)
 have l2:∀ a b:D,kK [a,b]=some (.lst [a,b]):=fun _ _=>nr rfl
 obtain⟨N,hN,rn⟩:∃ N:Nat,N<=50/\∀ e1 e2:Int,tG [.int (ns.length:Int),.int 7]=some (.int e1)->yy [.int e1,.int 52]=some (.int e2)->rJ [.int 2,.int e2]=some (fG 2 N):=by
  refine⟨((if (52:Int) < (if (7:Int) > (ns.length:Int) then 7 else (ns.length:Int)) then 52 else (if (7:Int) > (ns.length:Int) then 7 else (ns.length:Int))) - 2).toNat,?_,fun e1 e2 h1 h2=>?_⟩
  ·split <;> split <;> omega
  ·rw [lu] at h1
   cases h1
   rw [mQ] at h2
   cases h2
   generalize he:(if (52:Int) < (if (7:Int) > (ns.length:Int) then 7 else (ns.length:Int)) then 52 else (if (7:Int) > (ns.length:Int) then 7 else (ns.length:Int)))=e
   have e2:2<=e/\e<=52:=by rw [<- he]; split <;> split <;> omega
   show (if okR 2 && okR e then some (fG 2 ((e - 2).toNat)) else none)=_
   have o1:okR 2=true:=decide_eq_true ⟨by decide,by decide⟩
   have o2:okR e=true:=decide_eq_true ⟨by omega,by omega⟩
   rw [o1,o2]; rfl
 have mx:=lu (ns.length:Int) 7
 have rn:=rn _ _ mx (mQ _ _)
 obtain⟨T,hT⟩:∃ T:cn,T=(iO 5 (bQ (fR (aN bg 2 4) (af (fL iy (af (f2 bh (ah 0) (fC (.int 0))) (aw))) (af (ah 5) (aw)))))):=⟨_,rfl⟩
 rw [EC]; unfold gl
 rw [<- hT]
 have p7:(2:Int)+5=7:=rfl
 have p62:(2:Int)+50=52:=rfl
 simp! only [IY,Oj,p7,p62,rn]
 refine eL (Q:=fun z=>∃ t:List (List D),Tab (ks.map (·.2.b)) t/\z=.ok (.tup (t.map .tup)))
  (fun i ρ=>∃ rs:List (List D),rs.length=i/\(∀ r∈rs,r.length=ks.length+qs.length/\Sh (ks.map (·.2.b)) (r.take ks.length)/\∀ v∈r,AL 4 v)/\ρ=[some (.val (fr ks qs)),some (.val (.int m)),some (.val (.lst (ns.map .int))),some (.val (.int 2)),some (.val (.int 50)),some (.own (.lst (rs.map .tup))),none,none]) ?_ ⟨[],rfl,(fun _ h=>nomatch h),rfl⟩ ?_
 ·rintro i d ρ kk hd ⟨rs,rl,hr,rfl⟩
  have hi:=cp hd
  rw [de] at hi
  have hdi:d=.int ((2+i:Nat):Int):=by
   rw [kJ,Oy,Pn hi] at hd
   cases hd; simp
  subst hdi
  obtain⟨x,x0,x1,ex⟩:=wu ns (2+i) ‹0›
  obtain⟨y,y0,y1,ey⟩:=ib x x0 ‹0›
  obtain⟨h,h0,h1,eh⟩:∃ h:Int,0<=h/\h < 2147483700/\bh (.lst [.int (x / 2%4),.int (x / 2)]) (.int (x%2))=some (.int h):=by
   rcases(show x%2=0\/x%2=1 by omega) with z | z <;> rw [z]
   ·exact⟨x / 2%4,by omega,by omega,rfl⟩
   ·exact⟨x / 2,by omega,by omega,rfl⟩
  obtain⟨vs,ev,v1,v2,v3⟩:=wm n 10 (sX n 11 ‹0›) ks qs k8 q8 hk hq m h y h0 h1 y0 ‹0›
  have ev:aB 12 [fr ks qs,.int m,.int h,.int y]=.ok (.tup vs):=ev
  refine⟨_,_,rfl,⟨rs++[vs],by rw [OA,OH,rl],fun r h=>?_,rfl⟩,?_⟩
  ·rcases List.mem_append.mp h with z | z
   ·exact hr r z
   ·rw [List.mem_singleton.mp z]; exact⟨v1,v2,fun v hv=>AL.le ‹0› (v3 v hv)⟩
  ·have ap:fT (rs.map .tup) [.tup vs]=some ((rs++[vs]).map .tup):=by
    rw [kQ (by rw [Oj]; omega),Pj]; rfl
   have sm:=fun K:Ks=>lP 5 fT (af (fR (aB 12) (af (ah 0) (af (ah 1) (af (f2 bh (jp (af (f2 cX (f2 dY (ah 7) (fC (.int 2))) (fC (.int 4))) (af (f2 dY (ah 7) (fC (.int 2))) (aw)))) (f2 cX (ah 7) (fC (.int 2)))) (af (fR (aN aR 1 1) (af (ah 7) (aw))) (aw)))))) (aw)) K [some (.val (fr ks qs)),some (.val (.int m)),some (.val (.lst (ns.map .int))),some (.val (.int 2)),some (.val (.int 50)),some (.own (.lst (rs.map .tup))),some (.val (.int ((2+i:Nat):Int))),some (.val (.int x))] (xs:=rs.map .tup) rfl
   generalize (rs++[vs]).map D.tup=Y at ap ⊢
   generalize rs.map D.tup=Z at ap sm ⊢
   simp! only [ex,sm,d2,g4,l2,g2,eh,ey,ev,ap]
 ·rintro ρ' ⟨rs,rl,hr,rfl⟩
  rw [de] at rl
  have sl:(ks.map (·.2.b)).length=ks.length:=by rw [Oj]
  obtain⟨t,et,ri,tm,tl,_⟩:=pI (σ:=ks.map (·.2.b)) (kl:=ks.length) (fun z=>by have:=congrArg List.length z; rw [Oj,OO] at this; omega) sl.symm rs (fun r h=>(hr r h).2.1) ‹0›
  refine⟨t,⟨fun r h=>by rw [sl]; exact(hr r (tm r h)).2.1,by rw [sl]; exact ri,by omega,fun r h=>by have:=(hr r (tm r h)).1; rw [sl]; omega,fun r h=>(hr r (tm r h)).2.2⟩,?_⟩
  rw [hT]
  simp! only [Oj,et]
abbrev pf (ks is:KL) (jq:List (Str×D)) (nm:Str) (sm:Bool):D:=.tup [.tup (ks.map kf),.tup [.tup [.str nm,.tup [.str "rows",fr is jq,.bl sm]]]]
theorem xR {b k:Int} {ks:KL} {q0:List (Str×D)} {nm:Str} (l2:q0.length=0) (fn:∀ (j:Nat) (w:Str),(ks.map (·.1)++q0.map (·.1))[j]?=some w->CN b (0+(j:Int)) w) (kl:ks.length<=8) (nP:CN b k nm) (k0:8<=k/\k < 24):(ks.map (·.1)++[nm]).Nodup:=by
 have q0e:q0=[]:=List.length_eq_zero_iff.mp l2
 subst q0e
 rw [OJ,Oo] at fn
 refine List.nodup_append.mpr ⟨List.pairwise_iff_getElem.mpr fun i j hi hj hij e=>?_,by simp,fun a ha b' hb e=>?_⟩
 ·rw [Oj] at hi hj
  have a:=fn i _ (O6 (by rw [Oj]; exact hi))
  have b:=fn j _ (O6 (by rw [Oj]; exact hj))
  rw [e] at a
  have:=AW ‹0› ‹0› ‹0› ‹0› a b
  omega
 ·rw [List.mem_singleton.mp hb] at e
  subst e
  obtain⟨i,hi,ei⟩:=Pa ha
  have a':=fn i a (by rw [O6 hi,ei])
  rw [Oj] at hi
  have:=AW ‹0› ‹0› ‹0› ‹0› a' nP
  omega
theorem BQ (ns:List Int) (sm:Bool):∃ (ks is:KL) (jq:List (Str×D)) (nm:Str) (n:Nat),n<=2/\1<=ks.length/\1<=is.length/\ks.length+is.length<=8/\jq.length<=8/\(∀ p∈ks,p.2.gd)/\(∀ p∈is,p.2.gd)/\(∀ q∈jq,KG n q.2)/\(ks.map (·.1)++[nm]).Nodup/\aN cY 2 10 [.lst (ns.map .int),.bl sm]=.ok (pf ks is jq nm sm):=by
 obtain⟨x,x0,x1,ex⟩:=wu ns 0 ‹0›
 have ex:aN cH 2 3 [.lst (ns.map .int),.int 0]=.ok (.int x):=ex
 obtain⟨c1,e1⟩:=TD.KH ns 1 (by decide)
 obtain⟨y,y0,y1,ey⟩:=ib x x0 ‹0›
 have mm:=fun i=>rC (i:=i) (j:=48271) (by decide) (by decide)
 have gM:=fun i=>cK (i:=i) (show (0:Int) < 2147483647 by decide)
 have g3:=fun i=>cK (i:=i) (show (0:Int) < 3 by decide)
 have g4:=fun i=>cK (i:=i) (show (0:Int) < 4 by decide)
 have g8:=fun i=>cK (i:=i) (show (0:Int) < 8 by decide)
 have d4:=fun i=>cS (i:=i) (show (0:Int) < 4 by decide) (show (4:Int) < 10 ^ 200 by decide)
 have d16:=fun i=>cS (i:=i) (show (0:Int) < 16 by decide) (show (16:Int) < 10 ^ 200 by decide)
 have d128:=fun i=>cS (i:=i) (show (0:Int) < 128 by decide) (show (128:Int) < 10 ^ 200 by decide)
 have d1024:=fun i=>cS (i:=i) (show (0:Int) < 1024 by decide) (show (1024:Int) < 10 ^ 200 by decide)
 have d4096:=fun i=>cS (i:=i) (show (0:Int) < 4096 by decide) (show (4096:Int) < 10 ^ 200 by decide)
 have d16384:=fun i=>cS (i:=i) (show (0:Int) < 16384 by decide) (show (16384:Int) < 10 ^ 200 by decide)
 obtain⟨b,hb,b0⟩:∃ b:Int,c1*48271%2147483647=b/\0<=b:=⟨_,rfl,Qr _ (by decide)⟩
 obtain⟨dp,dp2,ed⟩:∃ dp:Nat,dp<=2/\bh (.lst [.int 0,.int 0,.int 1,.int 2]) (.int (x / 1024%4))=some (.int (dp:Int)):=by
  rcases(show x / 1024%4=0\/x / 1024%4=1\/x / 1024%4=2\/x / 1024%4=3 by omega) with z | z | z | z <;> rw [z]
  ·exact⟨0,by decide,rfl⟩
  ·exact⟨0,by decide,rfl⟩
  ·exact⟨1,by decide,rfl⟩
  ·exact⟨2,by decide,rfl⟩
 obtain⟨k,k0,ek⟩:∃ k:Int,(8<=k/\k < 24)/\bh (.lst [.int 16,.int 8,.int 23,.int 17]) (.int (x / 16384%4))=some (.int k):=by
  rcases(show x / 16384%4=0\/x / 16384%4=1\/x / 16384%4=2\/x / 16384%4=3 by omega) with z | z | z | z <;> rw [z]
  ·exact⟨16,by decide,rfl⟩
  ·exact⟨8,by decide,rfl⟩
  ·exact⟨23,by decide,rfl⟩
  ·exact⟨17,by decide,rfl⟩
 obtain⟨nm,en,nP⟩:=Ay b k b0 ‹0›
 rw [eZ]; unfold cY
 cases h3:(x / 16%8==3) with
 | true =>
  obtain⟨ks,q0,ef,l1,l2,f1,f2,fn⟩:=rz 0 (by decide) y b 0 (7 - x / 128%3).toNat 0 y0 ‹0› b0 (by decide) ‹0› ‹0›
  rw [QI ‹0›] at ef
  obtain⟨is,jq,eg,m1,m2,i1,i2,_⟩:=rz dp ‹0› (y+1) b 8 (8 - (7 - x / 128%3)).toNat (x / 4096%4).toNat ‹0› ‹0› b0 (by decide) ‹0› ‹0›
  rw [QI ‹0›,QI ‹0›] at eg
  refine⟨ks,is,jq,nm,dp,dp2,by omega,by omega,by omega,by omega,f1,i1,i2,xR l2 fn ‹0› nP k0,?_⟩
  have ef:aI 12 [.int y,.int b,.int 0,.int (7 - x / 128%3),.int 0,.int 0]=.ok (fr ks q0):=ef
  simp! only [ex,e1,mm,gM,hb,g3,g4,g8,d4,d16,h3,d128,ey,ef,L4,d1024,ed,d4096,eg,d16384,ek,en,Jd,DP,Lh]
 | false =>
  obtain⟨ks,q0,ef,l1,l2,f1,f2,fn⟩:=rz 0 (by decide) y b 0 (1+x%4).toNat 0 y0 ‹0› b0 (by decide) ‹0› ‹0›
  rw [QI ‹0›] at ef
  obtain⟨is,jq,eg,m1,m2,i1,i2,_⟩:=rz dp ‹0› (y+1) b 8 (1+x / 4%4).toNat (x / 4096%4).toNat ‹0› ‹0› b0 (by decide) ‹0› ‹0›
  rw [QI ‹0›,QI ‹0›] at eg
  refine⟨ks,is,jq,nm,dp,dp2,by omega,by omega,by omega,by omega,f1,i1,i2,xR l2 fn ‹0› nP k0,?_⟩
  have ef:aI 12 [.int y,.int b,.int 0,.int (1+x%4),.int 0,.int 0]=.ok (fr ks q0):=ef
  simp! only [ex,e1,mm,gM,hb,g3,g4,g8,d4,d16,h3,d128,ey,ef,L4,d1024,ed,d4096,eg,d16384,ek,en,Jd,DP,Lh]
theorem Fu (ks is:KL) (jq:List (Str×D)) (nm:Str) (sm:Bool) (h:ks.length+is.length<=8):aN dI 1 2 [pf ks is jq nm sm]=.ok (fr (ks++is) jq):=by
 have ad:=gD (ks.map kf) (is.map kf) (by rw [Oj,Oj]; omega)
 rw [<- Pj] at ad
 rw [tL]; unfold dI
 simp! only [ad,DP]
theorem zip_get:∀ (xs:List D) (i:Nat) (d:D),(pD xs xs)[i]?=some d->∃ x∈xs,d=.tup [x,x]
 | x::xs,0,d,h=>by cases h; exact⟨x,N4,rfl⟩
 | x::xs,i+1,d,h=>by
  obtain⟨y,h1,h2⟩:=zip_get xs i d h
  exact⟨y,N5 _ h1,h2⟩
theorem oI:∀ (n g:Nat) (d:D),n < g->AL n d->aY g [d,d]=.ok (.bl true):=by
 intro n
 induction n with
 | zero =>
  intro g d hg hd
  obtain⟨g,rfl⟩:∃ g',g=g'+1:=⟨g - 1,by omega⟩
  show aN (dX (aY g)) 2 4 [d,d]=_
  rw [eZ]; unfold dX
  rcases hd with ⟨i,rfl⟩ | ⟨x,rfl⟩
  ·have t2:oS "str" (.int i)=some (.bl false):=rfl
   have t3:oS "int" (.int i)=some (.bl true):=rfl
   have t4:oS "bool" (.int i)=some (.bl false):=rfl
   simp! only [t2,t3,t4,beq_self_eq_true,O8]
  ·have t2:oS "str" (.str x)=some (.bl true):=rfl
   simp! only [t2,beq_self_eq_true,O8]
 | succ n ih =>
  intro g d hg hd
  obtain⟨g,rfl⟩:∃ g',g=g'+1:=⟨g - 1,by omega⟩
  show aN (dX (aY g)) 2 4 [d,d]=_
  rw [eZ]; unfold dX
  rcases hd with (⟨i,rfl⟩ | ⟨x,rfl⟩) | ⟨ds,rfl,dl,hds⟩
  ·have t2:oS "str" (.int i)=some (.bl false):=rfl
   have t3:oS "int" (.int i)=some (.bl true):=rfl
   have t4:oS "bool" (.int i)=some (.bl false):=rfl
   simp! only [t2,t3,t4,beq_self_eq_true,O8]
  ·have t2:oS "str" (.str x)=some (.bl true):=rfl
   simp! only [t2,beq_self_eq_true,O8]
  ·have t1:oS "tuple" (.tup ds)=some (.bl true):=rfl
   have t2:oS "str" (.tup ds)=some (.bl false):=rfl
   have t3:oS "int" (.tup ds)=some (.bl false):=rfl
   have t4:oS "bool" (.tup ds)=some (.bl false):=rfl
   simp! only [t1,t2,t3,t4,beq_self_eq_true,Bt]
   refine eL (Q:=fun z=>z=.ok (.bl true)) (fun i ρ=>ρ=[some (.val (.tup ds)),some (.val (.tup ds)),none,none]) ?_ rfl ?_
   ·rintro i d ρ kk hd rfl
    obtain⟨x,hx,rfl⟩:=zip_get ds i d hd
    have ea:=ih g x ‹0› (hds x hx)
    refine⟨[some (.val (.tup ds)),some (.val (.tup ds)),some (.val x),some (.val x)],_,rfl,rfl,?_⟩
    simp! only [ea]
   ·rintro ρ' rfl
    rfl
noncomputable def kq (f:List D):List Key:=(keysOf f).getD []
theorem JB (q:List Key):kq (q.map bu)=q:=by unfold kq; rw [cw]; rfl
theorem pA {σ:List Bool} {f:List D} (h:Sh σ f):(kq f).map bu=f:=by
 obtain⟨q,e⟩:=rV h
 rw [e,JB]
theorem sK {σ:List Bool} {f f':List D} (h:Sh σ f) (h':Sh σ f') (e:kq f=kq f'):f=f':=by
 rw [<- pA h,e,pA h']
section
open Classical
theorem IB {σ:List Bool} (L:List (List D)) (k:List D) (v:D) (hL:∀ f∈L,Sh σ f) (hk:Sh σ k) :
  gX (L.map fun f=>(kq f,v)) (kq k) v=(if k∈L then L else L++[k]).map fun f=>(kq f,v):=by
 have e:((L.map fun f=>(kq f,v)).any fun p=>decide (p.1=kq k))=true↔k∈L:=by
  rw [QE]
  constructor
  ·rintro⟨p,hp,hq⟩
   obtain⟨f,hf,rfl⟩:=List.mem_map.mp hp
   rw [<- sK (hL f hf) hk (of_decide_eq_true hq)]; exact hf
  ·intro h
   exact⟨_,List.mem_map.mpr ⟨k,h,rfl⟩,decide_eq_true rfl⟩
 unfold gX
 by_cases h:k∈L
 ·rw [if_pos (e.mpr h),if_pos h,P8]
  refine Ph fun f _=>?_
  show (if kq f=kq k then (kq f,v) else (kq f,v))=(kq f,v)
  split <;> rfl
 ·rw [if_neg fun z=>h (e.mp z),if_neg h,Pj]; rfl
theorem ED {σ:List Bool} (k:List D) (v:D) (hk:Sh σ k) (ψ:List D->List D):∀ L:List (List D),(∀ f∈L,Sh σ f)->L.Nodup->(∀ f∈L,(ψ f).length < 1000)->(k∉L->ψ k=[]) ->
  uG (L.map fun f=>(kq f,.lst (ψ f))) (kq k) v=some ((if k∈L then L else L++[k]).map fun f=>(kq f,.lst (ψ f++if k=f then [v] else [])))
 | [],_,_,_,h0=>by
  rw [if_neg (by simp)]
  show some [(kq k,D.lst [v])]=some [(kq k,.lst (ψ k++if k=k then [v] else []))]
  rw [h0 (by simp),if_pos rfl]; rfl
 | f::L,hL,nd,hl,h0=>by
  obtain⟨n1,n2⟩:=List.nodup_cons.mp nd
  show (if kq f=kq k then _ else _)=_
  by_cases h:f=k
  ·subst h
   rw [if_pos rfl,if_pos N4]
   show (if small ((ψ f).length+1) then some ((kq f,D.lst (ψ f++[v]))::L.map fun f=>(kq f,.lst (ψ f))) else none)=_
   have hl0:=hl f N4
   rw [if_pos (show small ((ψ f).length+1)=true from decide_eq_true ‹0›),Oi,if_pos rfl]
   congr 2
   refine Ph fun x hx=>?_
   rw [if_neg (fun z=>n1 (by rw [z]; exact hx)),Oo]
  ·rw [if_neg (fun z=>h (sK (hL f N4) hk z))]
   have ih:=ED k v hk ψ L (fun x hx=>hL x (N5 _ hx)) n2 (fun x hx=>hl x (N5 _ hx)) (fun z=>h0 fun y=>by
    rcases List.mem_cons.mp y with y | y
    ·exact h y.symm
    ·exact z y)
   rw [show uG (List.map (fun f=>(kq f,D.lst (ψ f))) L) (kq k) v=_ from ih]
   have em:k∈f::L↔k∈L:=by
    rw [Pu]; exact⟨fun z=>z.resolve_left fun y=>h y.symm,.inr⟩
   by_cases hm:k∈L
   ·rw [if_pos hm,if_pos (em.mpr hm),Oi,if_neg (fun z=>h z.symm),Oo]; rfl
   ·rw [if_neg hm,if_neg (fun z=>hm (em.mp z)),OY,Oi,if_neg (fun z=>h z.symm),Oo]; rfl
theorem wC:∀ (ps al:List (List Key×D)),((al++ps).map (·.1)).Nodup->ps.foldl (fun al p=>gX al p.1 p.2) al=al++ps
 | [],al,_=>by rw [Oo]; rfl
 | p::ps,al,h=>by
  rw [PR]
  have e:gX al p.1 p.2=al++[p]:=by
   unfold gX
   rw [if_neg]
   intro z
   obtain⟨a,ha,e⟩:=List.any_eq_true.mp z
   rw [Pj,Oi] at h
   exact(List.nodup_append.mp h).2.2 a.1 (List.mem_map.mpr ⟨a,ha,rfl⟩) p.1 N4 (of_decide_eq_true e)
  rw [e,wC ps (al++[p]) (by rw [Pr]; exact h),Pr]; rfl
theorem tx:∀ ps:List (List Key×D),iP (ps.map lT)=some ps
 | []=>rfl
 | p::ps=>by
  show (yF (lT p)).bind (fun q=>(iP (ps.map lT)).map (q::·))=_
  rw [tx ps]
  show ((iX (.tup (p.1.map bu))).map _).bind _=_
  rw [oR]; rfl
end
theorem HV {σ:List Bool} {a b:List D} (h:Sh σ a) (h':Sh σ b):jD (.tup a) (.tup b)=some (.bl (fZ a b)):=by
 have e:jD (.tup a) (.tup b)=if (pl (.tup a) && pl (.tup b)) && (dN 8 (.tup a) || dN 8 (.tup b)) then some (.bl (pyEq (.tup a) (.tup b))) else none:=rfl
 have d:dN 8 (.tup a)=true:=by show a.all (dN 7)=true; exact xq 6 h
 rw [e,cZ,cZ,vz h,vz h',d]
 show some (D.bl (pyEq (.tup a) (.tup b)))=_
 rw [pyEq]
section
open Classical
theorem Fp {σ:List Bool} {a b:List D} (h:Sh σ a) (h':Sh σ b):jD (.tup a) (.tup b)=some (.bl (decide (a=b))):=by
 rw [HV h h']
 congr 2
 by_cases e:a=b
 ·rw [decide_eq_true e]; exact(sS h h').mpr e
 ·rw [decide_eq_false e]
  cases z:fZ a b with
  | false=>rfl
  | true=>exact absurd ((sS h h').mp z) e
noncomputable def iL (m:Nat) (t:List (List D)) (f:List D):List D:=f++[.tup ((gp m t f).map .tup)]
noncomputable def vw (m:Nat) (t:List (List D)):D:=.tup ((fs m t).map fun f=>.tup (iL m t f))
theorem C9 (m:Nat) (t:List (List D)) (f:List D):(gp m t f).length<=t.length:=by
 unfold gp; rw [Oj]; exact QJ _ _
section
variable {σ:List Bool} {t:List (List D)} {m:Nat}
theorem Tab.fsh (T:Tab σ t) (hm:m<=σ.length):∀ r∈t,Sh (σ.take m) (r.take m):=fun r h=>by
 have:=rF m (T.sh r h)
 rw [Qt,Qg hm] at this
 exact this
theorem sU (s:List (List D)) (h:∀ r∈s,Sh (σ.take m) (r.take m)):∀ f∈fs m s,Sh (σ.take m) f:=fun f hf=>by
 obtain⟨r,hr,rfl⟩:=(mM m).mp hf
 exact h r hr
theorem EG (T:Tab σ t) (f:List D) (h:f∈fs m t):f.length<=16:=by
 obtain⟨r,hr,rfl⟩:=(mM m).mp h
 have:=(T.rl r hr).1
 rw [Ou]; omega
theorem Hw (T:Tab σ t) (hm:m<=σ.length) (f:List D) (h:f∈fs m t):f.length=m:=by
 obtain⟨r,hr,rfl⟩:=(mM m).mp h
 have:=(T.rl r hr).2
 rw [Ou]; omega
theorem Tab.sub {s:List (List D)} (T:Tab σ t) (h:s.Sublist t):Tab σ s :=
 ⟨fun r hr=>T.sh r (h.subset hr),T.ri.sublist h,Pq h.length_le T.ln,fun r hr=>T.rl r (h.subset hr),fun r hr=>T.al r (h.subset hr)⟩
theorem tu {i:Nat} (h:i < t.length):t.take (i+1)=t.take i++[t[i]]:=QH h
theorem AV (L:List (List D)) (nd:L.Nodup) (h:∀ f∈L,Sh (σ.take m) f) (v:List D->D):((L.map fun f=>(kq f,v f)).map (·.1)).Nodup:=by
 rw [P8]
 refine List.pairwise_map.mpr (List.Pairwise.imp_of_mem (fun {a b} ha hb ne e=>ne ?_) nd)
 exact sK (h a ha) (h b hb) e
theorem E6 (L:List (List D)) (h:∀ f∈L,Sh (σ.take m) f) (v:List D->D):encK (L.map fun f=>(kq f,v f))=L.map .tup:=by
 show (L.map fun f=>(kq f,v f)).map _=_
 rw [P8]
 refine Ph fun f hf=>?_
 show D.tup ((kq f).map bu)=.tup f
 rw [pA (h f hf)]
theorem Cd (T:Tab σ t) (m1:1<=m) (hm:m<=σ.length) {d0:D} (hd0:pY d0=some (t.map .tup)):aN fH 2 6 [d0,.int m]=.ok (vw m t):=by
 have fsh:=T.fsh hm
 have tl:=T.ln
 obtain⟨TT,hT⟩:∃ TT:cn,TT=(iO 2 (aM (jS (bR (fL fJ (af (fL me (af (ah 2) (aw))) (aw)))) (gN 5) (aM (yV 4 fT (af (f2 cq (ah 5) (dG (af (fL cy (af (jV [none,some 1,some 5] (bR (ah 0)) (gN 0) (fB (f2 jD (bN (ah 0) (bA) (cM (ah 1))) (ah 2))) (bN (ah 0) (cM (ah 1)) (bA))) (aw))) (aw)))) (aw))) (eR [5] cW))) (iO 4 (bQ (fL cy (af (ah 4) (aw))))))):=⟨_,rfl⟩
 rw [eZ]; unfold fH
 rw [<- hT]
 simp! only [v7,hd0]
 refine eL (Q:=fun z=>z=.ok (vw m t)) (fun i ρ=>∃ x,ρ=[some (.val d0),some (.val (.int m)),some (.own (cO ((fs m (t.take i)).map fun f=>(kq f,.bl true)))),x,none,none]) ?_ ⟨none,rfl⟩ ?_
 ·rintro i d ρ kk hd ⟨x,rfl⟩
  have hi:=cp hd
  rw [Oj] at hi
  rw [Oy,O6 hi] at hd
  cases hd
  have rm:t[i]∈t:=P5 hi
  have ct:cutD t[i] none (some (m:Int))=(kq (t[i].take m)).map bu:=by rw [oF,pA (fsh _ rm)]
  refine⟨_,_,rfl,⟨some (.val (.tup t[i])),rfl⟩,?_⟩
  have pi:=IB (σ:=σ.take m) (fs m (t.take i)) (t[i].take m) (.bl true) (sU _ fun r hr=>fsh r (QK hr)) (fsh _ rm)
  have fe:fs m (t.take (i+1))=if t[i].take m∈fs m (t.take i) then fs m (t.take i) else fs m (t.take i)++[t[i].take m]:=by
   rw [tu hi,lL]; rfl
  have fl:=oC m (t.take i)
  rw [Ou] at fl
  have pd:=fun K:Ks=>Bf (i:=2) (fk:=bN (ah 3) (bA) (cM (ah 1))) (fv:=fC (.bl true)) (k:=K) (ρ:=[some (.val d0),some (.val (.int m)),some (.own (cO ((fs m (t.take i)).map fun f=>(kq f,.bl true)))),some (.val (.tup t[i])),none,none]) (al:=(fs m (t.take i)).map fun f=>(kq f,.bl true)) (q:=kq (t[i].take m)) (v:=.bl true) rfl (by simp! only [ct]) rfl (by rw [Oj]; omega)
  rw [pi,<- fe] at pd
  generalize cO ((fs m (t.take (i+1))).map fun f=>(kq f,.bl true))=Y at pd ⊢
  generalize cO ((fs m (t.take i)).map fun f=>(kq f,.bl true))=Z at pd ⊢
  simp! only [pd]
 ·rintro ρ' ⟨x,rfl⟩
  rw [Oj,Pl]
  have fl:=oC m t
  have fsL:=sU t fsh
  have en:=E6 (m:=m) (σ:=σ) (fs m t) fsL (fun _=>.bl true)
  have knd:=AV (m:=m) (σ:=σ) (fs m t) (yq m t) fsL (fun _=>.bl true)
  have s0:σ.take m≠[]:=fun z=>by
   have:=congrArg List.length z
   rw [Ou,OO] at this; omega
  obtain⟨es,_⟩:=A7 (σ:=σ.take m) knd (fun p hp=>by
   obtain⟨f,hf,rfl⟩:=List.mem_map.mp hp
   show Sh _ ((kq f).map bu)
   rw [pA (fsL f hf)]; exact fsL f hf) s0 (by rw [Oj]; omega)
  have lt:=xL ((fs m t).map fun f=>(kq f,.bl true))
  rw [en] at es lt
  have so:iR dS ((fs m t).map .tup)=(fs m t).map .tup:=by
   refine mC (σ:=σ.take m) (fun x hx=>?_) ?_ ?_ (List.Perm.refl _)
   ·obtain⟨f,hf,rfl⟩:=List.mem_map.mp hx
    exact fsL f hf
   ·exact List.pairwise_map.mpr ((yq m t).imp fun {a b} ne e=>ne e)
   ·exact List.pairwise_map.mpr (zW m rfl T.sh hm T.ri).1
  rw [so] at es
  rw [hT]
  generalize cO ((fs m t).map fun f=>(kq f,.bl true))=Z at lt ⊢
  simp! only [IY,lt,es]
  refine eL (Q:=fun z=>z=.ok (vw m t)) (fun i ρ=>ρ=[some (.val d0),some (.val (.int m)),some (.val Z),x,some (.own (.lst (((fs m t).take i).map fun f=>.tup (iL m t f)))),none]) ?_ rfl ?_
  ·rintro i d ρ kk hd rfl
   have hi:=cp hd
   rw [Oj] at hi
   rw [Oy,O6 hi] at hd
   cases hd
   obtain⟨f,ef⟩:∃ f,f=(fs m t)[i]:=⟨_,rfl⟩
   have fm:f∈fs m t:=by rw [ef]; exact P5 hi
   have ap:fT (((fs m t).take i).map fun f=>.tup (iL m t f)) [.tup (iL m t f)]=some (((fs m t).take (i+1)).map fun f=>.tup (iL m t f)):=by
    rw [kQ (by rw [Oj,Ou]; omega),QH hi,<- ef,Pj]; rfl
   rw [<- ef]
   have lc:jV [none,some 1,some 5] (bR (ah 0)) (gN 0) (fB (f2 jD (bN (ah 0) (bA) (cM (ah 1))) (ah 2))) (bN (ah 0) (cM (ah 1)) (bA)) [some (.val d0),some (.val (.int m)),some (.val Z),x,some (.own (.lst (((fs m t).take i).map fun f=>.tup (iL m t f)))),some (.val (.tup f))]=.ok (.lst ((gp m t f).map .tup)):=by
    refine fM (ds:=t.map .tup) (by generalize (((fs m t).take i).map fun f=>D.tup (iL m t f))=A; simp! only [hd0]) (by rw [Oj]; omega) ?_
    have:=oQ (ρ:=inB [none,some 1,some 5] [some (.val d0),some (.val (.int m)),some (.val Z),x,some (.own (.lst (((fs m t).take i).map fun f=>.tup (iL m t f)))),some (.val (.tup f))]) (g:=gN 0) (C:=fB (f2 jD (bN (ah 0) (bA) (cM (ah 1))) (ah 2))) (Fe:=bN (ah 0) (cM (ah 1)) (bA)) D.tup (fun r=>decide (r.take m=f)) (fun r=>.tup (r.drop m)) t fun r hr=>by
     have eq:=Fp (fsh r hr) (fsL f fm)
     refine⟨[some (.val (.tup r)),some (.val (.int m)),some (.val (.tup f))],rfl,?_,fun _=>?_⟩
     ·simp! only [oF,eq]
     ·simp! only [xU]
    rw [this]
    unfold gp
    rw [P8]; rfl
   have ad:cq (.tup f) (.tup [.tup ((gp m t f).map .tup)])=some (.tup (iL m t f)):=by
    have:=EG T f fm
    exact gD f _ (by rw [OH]; omega)
   have sm:=fun K:Ks=>lP 4 fT (af (f2 cq (ah 5) (dG (af (fL cy (af (jV [none,some 1,some 5] (bR (ah 0)) (gN 0) (fB (f2 jD (bN (ah 0) (bA) (cM (ah 1))) (ah 2))) (bN (ah 0) (cM (ah 1)) (bA))) (aw))) (aw)))) (aw)) K [some (.val d0),some (.val (.int m)),some (.val Z),x,some (.own (.lst (((fs m t).take i).map fun f=>.tup (iL m t f)))),some (.val (.tup f))] (xs:=((fs m t).take i).map fun f=>.tup (iL m t f)) rfl
   refine⟨_,_,rfl,rfl,?_⟩
   generalize (((fs m t).take (i+1)).map fun f=>D.tup (iL m t f))=Y at ap ⊢
   generalize (((fs m t).take i).map fun f=>D.tup (iL m t f))=A at ap sm lc ⊢
   simp! only [sm,lc,Jd,ad,ap]
  ·rintro ρ' rfl
   rw [Oj,Pl]
   unfold vw
   generalize ((fs m t).map fun f=>D.tup (iL m t f))=A
   simp! only []
theorem zp (T:Tab σ t) (hm:m<=σ.length):aN jj 2 4 [.int m,.tup (t.map .tup)]=.ok (oJ ((fs m t).map fun f=>(kq f,.tup ((gp m t f).map .tup)))):=by
 have fsh:=T.fsh hm
 have fl:=oC m t
 have tl:=T.ln
 have fsL:=sU t fsh
 obtain⟨TT,hT⟩:∃ TT:cn,TT=(vE 2 (bQ (fL uc (af (jV [none,none] (lI (ah 2)) (gT 2 (oA [0,1])) (fA) (dG (af (ah 0) (af (fL cy (af (ah 1) (aw))) (aw))))) (aw))))):=⟨_,rfl⟩
 rw [eZ]; unfold jj
 rw [<- hT]
 have nn:∀ K:Ks,yp 2 K [some (.val (.int m)),some (.val (.tup (t.map .tup))),none,none]=K.nx [some (.val (.int m)),some (.val (.tup (t.map .tup))),some (.nest (cO [])),none]:=fun K=>rfl
 simp! only [nn]
 refine eL (Q:=fun z=>z=.ok (oJ ((fs m t).map fun f=>(kq f,.tup ((gp m t f).map .tup))))) (fun i ρ=>ρ=[some (.val (.int m)),some (.val (.tup (t.map .tup))),some (.nest (cO ((fs m (t.take i)).map fun f=>(kq f,.lst ((gp m (t.take i) f).map .tup))))),none]) ?_ rfl ?_
 ·rintro i d ρ kk hd rfl
  have hi:=cp hd
  rw [Oj] at hi
  rw [Oy,O6 hi] at hd
  cases hd
  have rm:t[i]∈t:=P5 hi
  have fi:=oC m (t.take i)
  rw [Ou] at fi
  have gi:=ED (σ:=σ.take m) (t[i].take m) (.tup (t[i].drop m)) (fsh _ rm) (fun f=>(gp m (t.take i) f).map .tup) (fs m (t.take i)) (sU _ fun r hr=>fsh r (QK hr)) (yq m _) (fun f _=>by
   have:=C9 m (t.take i) f
   rw [Ou] at this
   rw [Oj]; omega) (fun z=>by
    unfold gp
    rw [List.filter_eq_nil_iff.mpr]
    ·rfl
    ·intro x hx y
     exact z ((mM m).mpr ⟨x,hx,by simpa using y⟩))
  have ge:∀ f,((gp m (t.take i) f).map D.tup++if t[i].take m=f then [.tup (t[i].drop m)] else [])=(gp m (t.take (i+1)) f).map .tup:=fun f=>by
   rw [tu hi,rG,Pj]
   by_cases h:t[i].take m=f
   ·rw [if_pos h,if_pos h]; rfl
   ·rw [if_neg h,if_neg h]; rfl
  have fe:fs m (t.take (i+1))=if t[i].take m∈fs m (t.take i) then fs m (t.take i) else fs m (t.take i)++[t[i].take m]:=by
   rw [tu hi,lL]; rfl
  rw [<- fe] at gi
  simp only [ge] at gi
  refine⟨_,_,rfl,rfl,?_⟩
  have gr:∀ K:Ks,Bs 2 (bN (ah 3) (bA) (cM (ah 0))) (bN (ah 3) (cM (ah 0)) (bA)) K [some (.val (.int m)),some (.val (.tup (t.map .tup))),some (.nest (cO ((fs m (t.take i)).map fun f=>(kq f,.lst ((gp m (t.take i) f).map .tup))))),some (.val (.tup t[i]))]=K.nx [some (.val (.int m)),some (.val (.tup (t.map .tup))),some (.nest (cO ((fs m (t.take (i+1))).map fun f=>(kq f,.lst ((gp m (t.take (i+1)) f).map .tup))))),some (.val (.tup t[i]))]:=fun K=>by
   generalize hal:((fs m (t.take i)).map fun f=>(kq f,D.lst ((gp m (t.take i) f).map .tup)))=al at gi
   have all:al.length<=t.length:=by rw [<- hal,Oj]; omega
   have g2:yA (encK al) (al.map (·.2)) (.tup (t[i].take m)) (.tup (t[i].drop m))=some ((fs m (t.take (i+1))).map fun f=>(kq f,.lst ((gp m (t.take (i+1)) f).map .tup))):=by
    unfold yA
    rw [jA]
    show (iX (.tup (t[i].take m))).bind _=_
    have:t[i].take m=(kq (t[i].take m)).map bu:=(pA (fsh _ rm)).symm
    rw [this,oR]
    show (if small al.length then _ else _)=_
    rw [if_pos (dE ‹0›)]
    exact gi
   have k1:bN (ah 3) (bA) (cM (ah 0)) [some (.val (.int m)),some (.val (.tup (t.map .tup))),some (.nest (cO al)),some (.val (.tup t[i]))]=.ok (.tup (t[i].take m)):=by
    generalize cO al=Z
    simp! only [oF]
   have k2:bN (ah 3) (cM (ah 0)) (bA) [some (.val (.int m)),some (.val (.tup (t.map .tup))),some (.nest (cO al)),some (.val (.tup t[i]))]=.ok (.tup (t[i].drop m)):=by
    generalize cO al=Z
    simp! only [xU]
   show (((Bo _).bind fun q=>(Bo _).bind fun v=>rO (yA (encK al) (al.map (·.2)) q v)).bind _)=_
   rw [k1,k2,iQ,cT,iQ,cT,g2,eQ,cT]; rfl
  generalize cO ((fs m (t.take (i+1))).map fun f=>(kq f,.lst ((gp m (t.take (i+1)) f).map .tup)))=Y at gr ⊢
  generalize cO ((fs m (t.take i)).map fun f=>(kq f,.lst ((gp m (t.take i) f).map .tup)))=Z at gr ⊢
  simp! only [gr]
 ·rintro ρ' rfl
  rw [Oj,Pl,hT]
  generalize hal:((fs m t).map fun f=>(kq f,D.lst ((gp m t f).map .tup)))=al
  have all:al.length<=t.length:=by rw [<- hal,Oj]; omega
  have fz:∀ (F:cn) (K:Ks),vE 2 F K [some (.val (.int m)),some (.val (.tup (t.map .tup))),some (.nest (cO al)),none]=F K [some (.val (.int m)),some (.val (.tup (t.map .tup))),some (.val (oJ al)),none]:=fun F K=>by
   show F K (match kH (encK al) (al.map (·.2)) with | some al=>setV 2 (oJ al) _ | none=>_)=_
   rw [jA]; rfl
  have knd:=AV (m:=m) (σ:=σ) (fs m t) (yq m t) fsL (fun f=>.tup ((gp m t f).map .tup))
  have pr:=tx ((fs m t).map fun f=>(kq f,D.tup ((gp m t f).map .tup)))
  have df:uc [.lst (((fs m t).map fun f=>(kq f,D.tup ((gp m t f).map .tup))).map lT)]=some (oJ ((fs m t).map fun f=>(kq f,.tup ((gp m t f).map .tup)))):=by
   show (iP _).bind _=_
   rw [pr]
   show (if small _ then _ else _)=_
   rw [if_pos (dE (by rw [Oj]; omega))]
   have:=wC ((fs m t).map fun f=>(kq f,D.tup ((gp m t f).map .tup))) [] knd
   unfold vK
   rw [this]; rfl
  have it:=yQ al
  have lc:jV [none,none] (lI (ah 2)) (gT 2 (oA [0,1])) (fA) (dG (af (ah 0) (af (fL cy (af (ah 1) (aw))) (aw)))) [some (.val (.int m)),some (.val (.tup (t.map .tup))),some (.val (oJ al)),none]=.ok (.lst (((fs m t).map fun f=>(kq f,D.tup ((gp m t f).map .tup))).map lT)):=by
   refine fM (ds:=al.map lT) ?_ (by rw [Oj]; omega) ?_
   ·show ((ah 2 _).bind _)=_
    generalize oJ al=Z at it
    simp! only [it]
   ·rw [<- hal,P8,P8]
    refine nM _ _ (fs m t) fun f hf=>?_
    refine⟨[some (.val (.tup ((kq f).map bu))),some (.val (.lst ((gp m t f).map .tup)))],rfl,rfl,?_⟩
    simp! only [DP]
    rfl
  generalize oJ al=Z at lc fz
  generalize cO al=Z0 at fz ⊢
  generalize oJ ((fs m t).map fun f=>(kq f,D.tup ((gp m t f).map .tup)))=Y at df ⊢
  simp! only [fz,lc,df]
theorem Tab.ALt (T:Tab σ t):AL 6 (.tup (t.map .tup)):=by
 have:=T.ln
 refine AL.tup (by rw [Oj]; omega) fun v hv=>?_
 obtain⟨r,hr,rfl⟩:=List.mem_map.mp hv
 have:=(T.rl r hr).1
 exact AL.tup ‹0› (T.al r hr)
theorem Cz {ρ:aq} {C:aq->R Bool} (t:List (List D)) (o:Nat) (hC:∀ (i:Nat) (r:List D),∃ ρ1 b,gT 2 (oA [0,1]) (.tup [.int i,.tup r]) ρ=some ρ1/\C ρ1=.ok b/\ah 1 ρ1=.ok (.tup r)):∃ s:List (List D),s.Sublist t/\zt ρ (gT 2 (oA [0,1])) C (ah 1) (gJ o (t.map .tup))=.ok (s.map .tup):=by
 induction t generalizing o with
 | nil=>exact⟨[],List.Sublist.refl _,rfl⟩
 | cons r t ih =>
  obtain⟨s,h1,h2⟩:=ih (o+1)
  obtain⟨ρ1,b,e1,e2,e3⟩:=hC o r
  show ∃ s,_/\zt ρ _ C (ah 1) (D.tup [.int o,.tup r]::gJ (o+1) (t.map .tup))=_
  rw [mh,e1,eQ,cT,e2,iQ,cT,h2]
  cases b with
  | false=>exact⟨s,h1.cons _,rfl⟩
  | true =>
   refine⟨r::s,h1.cons₂ _,?_⟩
   rw [if_pos rfl,e3,iQ,cT,cT]; rfl
end
end
section
open Classical
variable {σ τ:List Bool} {t:List (List D)} {m:Nat}
theorem qf {T:List (List D)} (hs:∀ r∈T,Sh τ (r.take m)) (h:AG m T):T.Pairwise fun a b=>a.take m≠b.take m :=
 List.Pairwise.imp_of_mem (fun {a b} ha hb e z=>by rw [z,lR (hs b hb)] at e; cases e) h
structure So (τ:List Bool) (m:Nat) (L:List (List D)):Prop where
 t0:τ≠[]
 hm:m=τ.length
 sh:∀ r∈L,Sh τ (r.take m)
 pw:L.Pairwise fun a b=>a.take m≠b.take m
 ln:L.length < 64
theorem So.nd {L:List (List D)} (h:So τ m L):L.Nodup:=h.pw.imp fun {a b} ne e=>ne (by rw [e])
theorem So.srt {L:List (List D)} (h:So τ m L):∃ T:List (List D),AG m T/\T.Perm L :=
 ⟨iR (fun r=>r.take m) L,nU (key:=fun r:List D=>r.take m) (σ:=τ) h.sh h.pw,fS _ _⟩
theorem sY {A B:List (List D)} (hA:∀ r∈A,Sh τ (r.take m)) (a:AG m A) (b:AG m B) (p:B.Perm A):A=B:=by
 have h1:=mC (key:=fun r:List D=>r.take m) (σ:=τ) hA (qf hA a) a (List.Perm.refl _)
 have h2:=mC (key:=fun r:List D=>r.take m) (σ:=τ) hA (qf hA a) b p
 exact h1.symm.trans h2
theorem So.law {L T:List (List D)} (h:So τ m L) (r:AG m T) (p:T.Perm L):aN bg 2 4 [.int m,.lst (L.map .tup)]=.ok (.tup (T.map .tup)):=by
 obtain⟨t,et,ri,t1,t2,t3⟩:=pI h.t0 h.hm L h.sh h.ln
 have tsh:∀ r∈t,Sh τ (r.take m):=fun r hr=>h.sh r (t1 r hr)
 have inj:∀ a∈L,∀ b∈L,a.take m=b.take m->a=b:=fun a ha b hb e=>by
  by_cases z:a=b
  ·exact z
  ·have:=h.pw
   rw [List.pairwise_iff_forall_sublist] at this
   obtain⟨i,hi,rfl⟩:=Pa ha
   obtain⟨j,hj,rfl⟩:=Pa hb
   rcases Nat.lt_trichotomy i j with q | q | q
   ·exact absurd e (List.pairwise_iff_getElem.mp h.pw i j hi hj q)
   ·subst q; rfl
   ·exact absurd e.symm (List.pairwise_iff_getElem.mp h.pw j i hj hi q)
 have pe:t.Perm L:=(List.perm_ext_iff_of_nodup ((qf tsh ri).imp fun {a b} ne e=>ne (by rw [e])) h.nd).mpr fun a=>⟨t1 a,fun ha=>by
  obtain⟨b,hb,e⟩:=t3 a ha
  rw [<- inj b (t1 b hb) a ha e]; exact hb⟩
 rw [et,sY tsh ri r (p.trans pe.symm)]
theorem So.prog {L T:List (List D)} (h:So τ m L) (r:AG m T) (p:T.Perm L):aN iw 2 2 [.int m,.lst (L.map .tup)]=.ok (.tup (T.map .tup)):=by
 have k:JC m (L.map .tup):=⟨by rw [Oj]; exact h.ln,τ,h.t0,fun x hx=>by
  obtain⟨r,hr,rfl⟩:=List.mem_map.mp hx
  exact⟨r,rfl,h.sh r hr⟩,List.pairwise_map.mpr h.pw⟩
 have so:iR (uo m) (L.map .tup)=T.map .tup:=by
  refine mC (σ:=τ) (fun x hx=>?_) ?_ ?_ (p.map _)
  ·obtain⟨r,hr,rfl⟩:=List.mem_map.mp hx
   exact h.sh r hr
  ·exact List.pairwise_map.mpr h.pw
  ·exact List.pairwise_map.mpr r
 have e:qg (.lst (L.map .tup)) (.int m)=some (.lst (T.map .tup)):=by
  show (if (0:Int)<=(m:Int) then sO ((m:Int)).toNat (L.map .tup) else none)=_
  rw [if_pos ‹0›,OB]
  unfold sO
  rw [if_pos k,so]
 rw [eZ]
 unfold iw
 simp! only [e]
abbrev gG (k:List D):List D:=k++[.tup []]
noncomputable def Nn (m:Nat) (s:List (List D)):List (List D):=(fs m s).map (iL m s)
theorem Jp (m:Nat) (s:List (List D)):vw m s=.tup ((Nn m s).map .tup):=by unfold vw Nn; rw [P8]; rfl
noncomputable def isE (m:Nat) (r:List D):Bool:=decide (r[m]?=some (.tup []))
theorem wq {k:List D} (h:Sh τ k) (hm:m=τ.length):isE m (gG k)=true:=by
 have:=h.length
 exact decide_eq_true (by rw [show m=k.length by omega,Ov (Oa _),PL]; rfl)
theorem js {k:List D} (h:Sh τ k) (hm:m=τ.length):(gG k).take m=k:=by
 have:=h.length
 rw [show m=k.length by omega,Ql]
theorem xg {f:List D} (h:f.length=m) (s:List (List D)):(iL m s f)[m]?=some (.tup ((gp m s f).map .tup)):=by
 unfold iL
 rw [Ov ‹0›,show m - f.length=0 by omega]; rfl
theorem nc {f:List D} (h:f.length=m) (s:List (List D)):(iL m s f).take m=f:=by
 unfold iL
 rw [<- h,Ql]
noncomputable def un (m:Nat) (r:List D):List (List D):=match r[m]? with
 | some (.tup w)=>w.map fun d=>r.take m++dS d
 | _=>[]
structure NT (τ:List Bool) (m c:Nat) (s T:List (List D)):Prop where
 ri:AG m T
 row:∀ r∈T,r∈Nn m s\/∃ k,Sh τ k/\r=gG k
 fl:T.filter (fun r=>!isE m r)=Nn m s
 el:(T.filter (isE m)).length<=c
section
variable {s:List (List D)} {c:Nat}
theorem AQ (T:Tab σ s) (hm:m<=σ.length) {r:List D} (h:r∈Nn m s):∃ f∈fs m s,f.length=m/\Sh (σ.take m) f/\r=iL m s f/\gp m s f≠[]:=by
 obtain⟨f,hf,rfl⟩:=List.mem_map.mp h
 refine⟨f,hf,Hw T hm f hf,sU s (T.fsh hm) f hf,rfl,fun z=>?_⟩
 obtain⟨r,hr,e⟩:=(mM m).mp hf
 unfold gp at z
 have:=List.map_eq_nil_iff.mp z
 exact List.filter_eq_nil_iff.mp this r hr (decide_eq_true e)
theorem xY (T:Tab σ s) (hm:m<=σ.length) {r:List D} (h:r∈Nn m s):isE m r=false:=by
 obtain⟨f,hf,fl,_,rfl,g0⟩:=AQ T hm h
 refine decide_eq_false fun z=>?_
 rw [xg fl] at z
 injection z with z
 injection z with z
 exact g0 (List.map_eq_nil_iff.mp z)
theorem B3 (T:Tab σ s) (hm:m<=σ.length) {r:List D} (h:r∈Nn m s):Sh (σ.take m) (r.take m):=by
 obtain⟨f,hf,fl,sh,rfl,g0⟩:=AQ T hm h
 rw [nc fl]; exact sh
theorem v6 (T:Tab σ s) (hm:m<=σ.length):(Nn m s).map (fun r=>r.take m)=fs m s:=by
 unfold Nn
 rw [P8]
 conv=>rhs; rw [<- QG (fs m s)]
 exact Ph fun f hf=>nc (Hw T hm f hf) s
theorem y6 (T:Tab σ s) (hm:m<=σ.length):AG m (Nn m s):=by
 have h:=(zW m rfl T.sh hm T.ri).1
 rw [<- v6 T hm] at h
 exact List.pairwise_map.mp h
theorem AJ (T:Tab σ s):(Nn m s).length<=50:=by
 have:=oC m s
 have:=T.ln
 unfold Nn; rw [Oj]; omega
theorem NT.new (T:Tab σ s) (hm:m<=σ.length):NT (σ.take m) m 0 s (Nn m s) :=
 ⟨y6 T hm,fun r h=>.inl h,List.filter_eq_self.mpr fun r h=>by rw [xY T hm h]; rfl,by
  rw [List.filter_eq_nil_iff.mpr fun r h=>by rw [xY T hm h]; simp]; exact Om _⟩
variable {TT:List (List D)}
theorem NT.sh (N:NT (σ.take m) m c s TT) (T:Tab σ s) (hm:m<=σ.length):∀ r∈TT,Sh (σ.take m) (r.take m):=fun r h=>by
 rcases N.row r h with z | ⟨k,sk,rfl⟩
 ·exact B3 T hm z
 ·rw [js sk (by rw [Ou]; omega)]; exact sk
theorem NT.len (N:NT (σ.take m) m c s TT) (T:Tab σ s):TT.length<=50+c:=by
 have p:=(List.filter_append_perm (isE m) TT).length_eq
 rw [OA,N.fl] at p
 have:=N.el
 have:=AJ (m:=m) T
 omega
theorem NT.so (N:NT (σ.take m) m c s TT) (T:Tab σ s) (m1:1<=m) (hm:m<=σ.length) (hc:c<=7):So (σ.take m) m TT :=
 ⟨fun z=>by have:=congrArg List.length z; rw [Ou,OO] at this; omega,by rw [Ou]; omega,N.sh T hm,qf (N.sh T hm) N.ri,by have:=N.len T; omega⟩
theorem NT.add (N:NT (σ.take m) m c s TT) (T:Tab σ s) (m1:1<=m) (hm:m<=σ.length) (es:List (List D)) (he:∀ k∈es,Sh (σ.take m) k) (nd:es.Nodup) (hn:∀ k∈es,∀ r∈TT,r.take m≠k) (hc:c+es.length<=7):∃ T',NT (σ.take m) m (c+es.length) s T'/\T'.Perm (TT++es.map gG)/\aN bg 2 4 [.int m,.lst ((TT++es.map gG).map .tup)]=.ok (.tup (T'.map .tup)):=by
 have ml:m=(σ.take m).length:=by rw [Ou]; omega
 have so:=N.so T m1 hm ‹0›
 have sh':∀ r∈TT++es.map gG,Sh (σ.take m) (r.take m):=fun r h=>by
  rcases List.mem_append.mp h with z | z
  ·exact so.sh r z
  ·obtain⟨k,hk,rfl⟩:=List.mem_map.mp z
   rw [js (he k hk) ml]; exact he k hk
 have S:So (σ.take m) m (TT++es.map gG):=⟨so.t0,ml,sh',List.pairwise_append.mpr ⟨so.pw,List.pairwise_map.mpr (List.Pairwise.imp_of_mem (fun {a b} ha hb ne=>by rw [js (he a ha) ml,js (he b hb) ml]; exact ne) nd),fun a ha b hb=>by
  obtain⟨k,hk,rfl⟩:=List.mem_map.mp hb
  rw [js (he k hk) ml]; exact hn k hk a ha⟩,by rw [OA,Oj]; have:=N.len T; omega⟩
 obtain⟨T',r,p⟩:=S.srt
 have emE:∀ x∈es.map gG,isE m x=true:=fun x hx=>by
  obtain⟨k,hk,rfl⟩:=List.mem_map.mp hx
  exact wq (he k hk) ml
 refine⟨T',⟨r,fun x hx=>?_,?_,?_⟩,p,S.law r p⟩
 ·rcases List.mem_append.mp (p.mem_iff.mp hx) with z | z
  ·exact N.row x z
  ·obtain⟨k,hk,rfl⟩:=List.mem_map.mp z
   exact .inr ⟨k,he k hk,rfl⟩
 ·have q:=p.filter (fun r=>!isE m r)
  have e0:(es.map gG).filter (fun r=>!isE m r)=[]:=List.filter_eq_nil_iff.mpr fun x hx=>by rw [emE x hx]; simp
  rw [Qy,N.fl,e0,Oo] at q
  exact(sY (fun r h=>B3 T hm h) (y6 T hm) (r.filter _) q).symm
 ·have q:=(p.filter (isE m)).length_eq
  rw [Qy,OA] at q
  have:=N.el
  have:=QJ (isE m) (es.map gG)
  rw [Oj] at this
  omega
theorem Fb (N:NT (σ.take m) m c s TT) (T:Tab σ s) (hm:m<=σ.length):TT.flatMap (un m)=s:=by
 have ml:m=(σ.take m).length:=by rw [Ou]; omega
 have h1:∀ L:List (List D),(∀ r∈L,r∈TT)->L.flatMap (un m)=(L.filter fun r=>!isE m r).flatMap (un m):=fun L=>by
  induction L with
  | nil=>intro _; rfl
  | cons r L ih =>
   intro hL
   have i:=ih fun x hx=>hL x (N5 _ hx)
   rw [Qz,i]
   cases e:isE m r with
   | false=>rw [P0 (by rw [e]; rfl),Qz]
   | true =>
    rw [P4 (by rw [e]; simp)]
    have:un m r=[]:=by
     unfold un
     rw [of_decide_eq_true e]; rfl
    rw [this]; rfl
 rw [h1 TT fun _ h=>h,N.fl]
 have fi:=Gv m rfl T.sh hm T.ri
 unfold flat at fi
 conv=>rhs; rw [<- fi]
 unfold Nn
 rw [List.flatMap_map]
 have:∀ L:List (List D),(∀ f∈L,f∈fs m s)->(L.flatMap fun f=>un m (iL m s f))=L.flatMap fun f=>(gp m s f).map (f++·):=fun L=>by
  induction L with
  | nil=>intro _; rfl
  | cons f L ih =>
   intro hL
   rw [Qz,Qz,ih fun x hx=>hL x (N5 _ hx)]
   congr 1
   have fl:=Hw T hm f (hL f N4)
   unfold un
   rw [xg fl,nc fl]
   show ((gp m s f).map D.tup).map _=_
   rw [P8]; rfl
 exact this _ fun _ h=>h
end
end
theorem HQ (xs:List D):pq [.lst xs]=some (.lst xs):=nr rfl
theorem HJ (xs:List D):pq [.tup xs]=some (.lst xs):=nr rfl
theorem J0 {r:List D} {m:Nat} {d:D} (h:r[m]?=some d):bh (.tup r) (.int m)=some d:=by
 have hl:=cp h
 rw [Iz,rW (Od _) ‹0›]
 rw [O6 hl] at h
 exact h
section
open Classical
variable {σ τ:List Bool} {s v TT:List (List D)} {m c:Nat}
theorem HF {w:List D} (h:m7 w=true):jD (.tup w) (.tup [])=some (.bl (decide (w=[]))):=by
 have e:jD (.tup w) (.tup [])=if (pl (.tup w) && pl (.tup [])) && (dN 8 (.tup w) || dN 8 (.tup [])) then some (.bl (pyEq (.tup w) (.tup []))) else none:=rfl
 have d:dN 8 (.tup [])=true:=rfl
 have p:pl (.tup ([]:List D))=true:=rfl
 rw [e,cZ,h,d,p,Bool.or_true,O8,O8,if_pos rfl]
 cases w with
 | nil=>rw [decide_eq_true rfl,pyEq]; rfl
 | cons a w=>rw [decide_eq_false (by simp),pyEq]; rfl
theorem Ez {k:List D} {ks:List (List D)} (hk:Sh τ k) (hs:∀ x∈ks,Sh τ x):jm (.tup k) (.lst (ks.map .tup))=some (.bl (decide (k∉ks))):=by
 have e:jm (.tup k) (.lst (ks.map .tup))=if (pl (.tup k) && m7 (ks.map .tup)) && dN 8 (.tup k) then some (.bl (!inD (.tup k) (ks.map .tup))) else none:=rfl
 have d:dN 8 (.tup k)=true:=by show k.all (dN 7)=true; exact xq 6 hk
 have p:m7 (ks.map .tup)=true:=oK fun x hx=>by
  obtain⟨r,hr,rfl⟩:=List.mem_map.mp hx
  rw [cZ]; exact vz (hs r hr)
 rw [e,cZ,vz hk,d,p,O8,O8,if_pos rfl]
 congr 2
 have q:inD (.tup k) (ks.map .tup)=true↔k∈ks:=by
  unfold inD
  rw [QE]
  constructor
  ·rintro⟨x,hx,ex⟩
   obtain⟨r,hr,rfl⟩:=List.mem_map.mp hx
   rw [pyEq] at ex
   rw [<- (sS (hs r hr) hk).mp ex]; exact hr
  ·intro h
   exact⟨.tup k,List.mem_map.mpr ⟨k,h,rfl⟩,ji _⟩
 by_cases h:k∈ks
 ·rw [q.mpr h,decide_eq_false (fun z=>z h)]; rfl
 ·rw [decide_eq_true h]
  cases z:inD (.tup k) (ks.map .tup) with
  | false=>rfl
  | true=>exact absurd (q.mp z) h
theorem NT.w (N:NT (σ.take m) m c s TT) (T:Tab σ s) (hm:m<=σ.length):∀ r∈TT,r.length=m+1/\r.take m++r.drop m=r/\(r.take m).length=m/\∃ ws:List (List D),r[m]?=some (.tup (ws.map .tup))/\un m r=ws.map (r.take m++·)/\ws.length<=50/\(∀ w∈ws,w.length<=16)/\(∀ w∈ws,∀ x∈w,AL 4 x)/\isE m r=decide (ws.map D.tup=[]):=fun r hr=>by
 have ml:m=(σ.take m).length:=by rw [Ou]; omega
 have key:∀ ws:List (List D),r[m]?=some (.tup (ws.map .tup))->un m r=ws.map (r.take m++·)/\isE m r=decide (ws.map D.tup=[]):=fun ws h=>by
  constructor
  ·unfold un
   rw [h]
   show (ws.map D.tup).map _=_
   rw [P8]; rfl
  ·unfold isE
   rw [h]
   by_cases z:ws.map D.tup=[]
   ·rw [z,decide_eq_true rfl,decide_eq_true rfl]
   ·rw [decide_eq_false z,decide_eq_false fun y=>z (by injection y with y; injection y)]
 rcases N.row r hr with z | ⟨k,sk,rfl⟩
 ·obtain⟨f,hf,fl,fsh,rfl,g0⟩:=AQ T hm z
  have f16:=EG T f hf
  have at_:=xg fl s
  obtain⟨k1,k2⟩:=key _ at_
  refine⟨by unfold iL; rw [OA,OH,fl],QD _ _,by rw [nc fl,fl],gp m s f,at_,k1,?_,fun w hw=>?_,fun w hw=>?_,k2⟩
  ·have:=C9 m s f
   have:=T.ln
   omega
  ·unfold gp at hw
   obtain⟨r,hr,rfl⟩:=List.mem_map.mp hw
   have:=(T.rl r (List.mem_filter.mp hr).1).1
   rw [OC]; omega
  ·unfold gp at hw
   obtain⟨r,hr,rfl⟩:=List.mem_map.mp hw
   exact fun x hx=>T.al r (List.mem_filter.mp hr).1 x (List.mem_of_mem_drop hx)
 ·have kl:=sk.length
  have at_:(gG k)[m]?=some (.tup (([]:List (List D)).map .tup)):=of_decide_eq_true (wq sk ml)
  obtain⟨k1,k2⟩:=key [] at_
  exact⟨by rw [OA,OH]; omega,QD _ _,by rw [js sk ml]; omega,[],at_,k1,by decide,(fun _ h=>nomatch h),(fun _ h=>nomatch h),k2⟩
theorem wJ (N:NT (σ.take m) m c s TT) (T:Tab σ s) (hm:m<=σ.length) (m8:m<=8) (hc:c<=7):aN jv 2 4 [.int m,.tup (TT.map .tup)]=.ok (.tup (s.map .tup)):=by
 have fl:=N.len T
 have tl:=T.ln
 have fi:=Fb N T hm
 rw [eZ]; unfold jv
 simp! only [IY]
 refine eL (Q:=fun z=>z=.ok (.tup (s.map .tup))) (fun i ρ=>ρ=[some (.val (.int m)),some (.val (.tup (TT.map .tup))),some (.own (.lst (((TT.take i).flatMap (un m)).map .tup))),none]) ?_ rfl ?_
 ·rintro i d ρ kk hd rfl
  have hi:=cp hd
  rw [Oj] at hi
  rw [Oy,O6 hi] at hd
  cases hd
  obtain⟨r,er⟩:∃ r,r=TT[i]:=⟨_,rfl⟩
  have rm:r∈TT:=by rw [er]; exact P5 hi
  rw [<- er]
  obtain⟨w1,w2,w3,ws,w4,w5,w6,w7,w8,w9⟩:=N.w T hm r rm
  have ix:=J0 w4
  have ct:cutD r none (some (m:Int))=r.take m:=oF _ _
  generalize hA:(((TT.take i).flatMap (un m)).map D.tup)=A
  have al:A.length<=s.length:=by
   rw [<- hA,Oj]
   conv=>rhs; rw [<- fi,<- QD i TT,QA,OA]
   omega
  have lc:jV [none,some 3,some 0] (bR (f2 bh (ah 3) (ah 0))) (gN 0) (fA) (f2 cq (bN (ah 1) (bA) (cM (ah 2))) (ah 0)) [some (.val (.int m)),some (.val (.tup (TT.map .tup))),some (.own (.lst A)),some (.val (.tup r))]=.ok (.lst ((un m r).map .tup)):=by
   refine fM (ds:=ws.map .tup) (by simp! only [ix]) (by rw [Oj]; omega) ?_
   have:=nM (ρ:=inB [none,some 3,some 0] [some (.val (.int m)),some (.val (.tup (TT.map .tup))),some (.own (.lst A)),some (.val (.tup r))]) (g:=gN 0) (C:=fA) (Fe:=f2 cq (bN (ah 1) (bA) (cM (ah 2))) (ah 0)) D.tup (fun w=>.tup (r.take m++w)) ws fun w hw=>by
    have ad:=gD (r.take m) w (by have:=w7 w hw; omega)
    refine⟨[some (.val (.tup w)),some (.val (.tup r)),some (.val (.int m))],rfl,rfl,?_⟩
    simp! only [ct,ad]
   rw [this,w5,P8]; rfl
  refine⟨_,_,rfl,rfl,?_⟩
  have ul:(un m r).length<=50:=by rw [w5,Oj]; exact w6
  have e1:((TT.take (i+1)).flatMap (un m)).map D.tup=A++(un m r).map .tup:=by
   rw [QH hi,<- er,QA,Pj,hA,QB]
  rw [e1]
  have ex:∀ K:Ks,C6 2 (jV [none,some 3,some 0] (bR (f2 bh (ah 3) (ah 0))) (gN 0) (fA) (f2 cq (bN (ah 1) (bA) (cM (ah 2))) (ah 0))) K [some (.val (.int m)),some (.val (.tup (TT.map .tup))),some (.own (.lst A)),some (.val (.tup r))]=K.nx [some (.val (.int m)),some (.val (.tup (TT.map .tup))),some (.own (.lst (A++(un m r).map .tup))),some (.val (.tup r))]:=fun K=>by
   show uj _ K _ _=_
   rw [lc,q5]
   show (if small _ then _ else _)=_
   rw [if_pos (dE (by rw [Oj]; omega))]; rfl
  generalize A++(un m r).map .tup=Y at ex ⊢
  simp! only [ex]
 ·rintro ρ' rfl
  rw [Oj,Pl,fi]
  simp! only []
noncomputable def kp (m:Nat) (v TT:List (List D)):List (List D):=(TT.filter (isE m)).filter fun r=>decide (r.take m∉fs m v)
theorem EK {r:List D} (h:r∈kp m v TT):r∈TT/\isE m r=true/\r.take m∉fs m v:=by
 obtain⟨h1,h2⟩:=List.mem_filter.mp h
 obtain⟨h3,h4⟩:=List.mem_filter.mp h1
 exact⟨h3,h4,of_decide_eq_true h2⟩
theorem HI (N:NT (σ.take m) m c s TT) (T:Tab σ s) (V:Tab σ v) (m1:1<=m) (hm:m<=σ.length) (hc:c<=7):So (σ.take m) m (Nn m v++kp m v TT):=by
 have so:=N.so T m1 hm hc
 refine⟨so.t0,so.hm,fun r h=>?_,List.pairwise_append.mpr ⟨qf (fun r h=>B3 V hm h) (y6 V hm),(so.pw.filter _).filter _,fun a ha b hb e=>?_⟩,?_⟩
 ·rcases List.mem_append.mp h with z | z
  ·exact B3 V hm z
  ·exact so.sh r (EK z).1
 ·have:=(EK hb).2.2
  rw [<- e,<- v6 V hm] at this
  exact this (List.mem_map.mpr ⟨a,ha,rfl⟩)
 ·rw [OA]
  have h1:=AJ (m:=m) V
  have h2:(kp m v TT).length<=c:=N1 (QJ _ _) N.el
  omega
theorem zE (N:NT (σ.take m) m c s TT) (T:Tab σ s) (V:Tab σ v) (m1:1<=m) (hm:m<=σ.length) (m8:m<=8) (hc:c<=7) {T':List (List D)} (r:AG m T') (p:T'.Perm (Nn m v++kp m v TT)) (o f0:D) (kk:List D) (f1:D) (hk:kk.length=m) (hf:f0=.tup [.tup kk,f1]) :
  aN bd 4 6 [o,f0,.tup (TT.map .tup),.tup (v.map .tup)]=.ok (.tup (T'.map .tup)):=by
 have so:=N.so T m1 hm hc
 have S:=HI N T V m1 hm hc
 have sp:=S.prog r p
 have gi:=zp V hm
 have fl:=oC m v
 have tl:=V.ln
 have TL:=N.len T
 have fsL:=sU v (V.fsh hm)
 have it:=yQ ((fs m v).map fun f=>(kq f,D.tup ((gp m v f).map .tup)))
 have nl:=AJ (m:=m) V
 have lc1:∀ a5,jV [none,none] (lI (fR (aN jj 2 4) (af (ah 4) (af (ah 3) (aw))))) (gT 2 (oA [0,1])) (fA) (f2 cq (ah 0) (dG (af (ah 1) (aw)))) [some (.val o),some (.val f0),some (.val (.tup (TT.map .tup))),some (.val (.tup (v.map .tup))),some (.val (.int m)),a5]=.ok (.lst ((Nn m v).map .tup)):=fun a5=>by
  refine fM (ds:=((fs m v).map fun f=>(kq f,D.tup ((gp m v f).map .tup))).map lT) ?_ (by rw [Oj,Oj]; omega) ?_
  ·show (Except.bind _ _)=_
   generalize oJ ((fs m v).map fun f=>(kq f,D.tup ((gp m v f).map .tup)))=Z at gi it
   simp! only [gi,it]
  ·unfold Nn
   rw [P8,P8]
   refine nM _ _ (fs m v) fun f hf=>?_
   have ad:cq (.tup ((kq f).map bu)) (.tup [.tup ((gp m v f).map .tup)])=some (.tup (iL m v f)):=by
    have:=EG V f hf
    rw [pA (fsL f hf)]
    exact gD f _ (by rw [OH]; omega)
   refine⟨[some (.val (.tup ((kq f).map bu))),some (.val (.tup ((gp m v f).map .tup)))],rfl,rfl,?_⟩
   simp! only [Jd,ad]
   rfl
 have lc2:∀ a3,jV [none,some 4] (bR (ah 2)) (gN 0) (fB (f2 jD (f2 bh (ah 0) (ah 1)) (dG (aw)))) (ah 0) [some (.val o),some (.val f0),some (.val (.tup (TT.map .tup))),a3,some (.val (.int m)),some (.val (.lst ((Nn m v).map .tup)))]=.ok (.lst ((TT.filter (isE m)).map .tup)):=fun a3=>by
  refine fM (ds:=TT.map .tup) (by simp! only []) (by rw [Oj]; omega) ?_
  refine oQ D.tup (isE m) D.tup TT fun r hr=>?_
  obtain⟨w1,w2,w3,ws,w4,w5,w6,w7,w8,w9⟩:=N.w T hm r hr
  have ix:=J0 w4
  have eq:=HF (w:=ws.map .tup) (oK fun x hx=>by
   obtain⟨w,hw,rfl⟩:=List.mem_map.mp hx
   rw [cZ]; exact oK fun y hy=>ue (w8 w hw y hy))
  refine⟨[some (.val (.tup r)),some (.val (.int m))],rfl,?_,fun _=>rfl⟩
  rw [w9]
  generalize ws.map D.tup=W at ix eq
  simp! only [ix,Ja,eq]
 have vr:∀ r∈Nn m v,Sh (σ.take m) (r.take m):=fun r h=>B3 V hm h
 have f2':jV [none,some 0] (bR (ah 1)) (gN 0) (fA) (dG (af (bN (ah 0) (bA) (cM (ah 1))) (af (ah 0) (aw)))) [some (.val (.int m)),some (.val (.lst ((Nn m v).map .tup)))]=.ok (.lst (((Nn m v).map fun r=>(kq (r.take m),D.tup r)).map lT)):=by
  refine fM (ds:=(Nn m v).map .tup) (by simp! only []) (by rw [Oj]; omega) ?_
  rw [P8]
  refine nM D.tup _ (Nn m v) fun r hr=>⟨[some (.val (.tup r)),some (.val (.int m))],rfl,rfl,?_⟩
  simp! only [oF,DP]
  show _=Except.ok (D.tup [.tup ((kq (r.take m)).map bu),.tup r])
  rw [pA (vr r hr)]
 have knd:(((Nn m v).map fun r=>(kq (r.take m),D.tup r)).map (·.1)).Nodup:=by
  rw [P8]
  refine List.pairwise_map.mpr (List.Pairwise.imp_of_mem (fun {a b} ha hb ne e=>ne ?_) (qf vr (y6 V hm)))
  exact sK (vr a ha) (vr b hb) e
 have gd:wH [.lst (((Nn m v).map fun r=>(kq (r.take m),D.tup r)).map lT)]=some (cO ((Nn m v).map fun r=>(kq (r.take m),D.tup r))):=by
  show (iP _).bind _=_
  rw [tx]
  show (if small _ then _ else _)=_
  rw [if_pos (dE (by rw [Oj]; omega))]
  unfold vK
  rw [wC _ [] knd]; rfl
 have bk:aN lY 2 2 [.int m,.lst ((Nn m v).map .tup)]=.ok (cO ((Nn m v).map fun r=>(kq (r.take m),D.tup r))):=by
  rw [eZ]; unfold lY
  generalize cO ((Nn m v).map fun r=>(kq (r.take m),D.tup r))=Z at gd
  simp! only [f2',gd]
 have ni:∀ r∈TT,rK (.tup (r.take m)) (cO ((Nn m v).map fun r=>(kq (r.take m),D.tup r)))=some (.bl (decide (r.take m∉fs m v))):=fun r hr=>by
  have zs:=so.sh r hr
  show (qM (encK _) (((Nn m v).map fun r=>(kq (r.take m),D.tup r)).map (·.2)) (.tup (r.take m))).bind zj=_
  unfold qM
  rw [jA]
  show ((iX (.tup (r.take m))).bind fun k=>some (D.bl (((Nn m v).map fun r=>(kq (r.take m),D.tup r)).any fun p=>decide (p.1=k)))).bind zj=_
  have e:iX (.tup (r.take m))=some (kq (r.take m)):=by
   conv=>lhs; rw [<- pA zs]
   exact cw _
  rw [e]
  show some (D.bl (!(((Nn m v).map fun r=>(kq (r.take m),D.tup r)).any fun p=>decide (p.1=kq (r.take m)))))=_
  congr 2
  have q:(((Nn m v).map fun r=>(kq (r.take m),D.tup r)).any fun p=>decide (p.1=kq (r.take m)))=true↔r.take m∈fs m v:=by
   rw [QE,<- v6 V hm]
   constructor
   ·rintro⟨p,hp,e⟩
    obtain⟨a,ha,rfl⟩:=List.mem_map.mp hp
    exact List.mem_map.mpr ⟨a,ha,sK (vr a ha) zs (of_decide_eq_true e)⟩
   ·intro h
    obtain⟨a,ha,e⟩:=List.mem_map.mp h
    exact⟨_,List.mem_map.mpr ⟨a,ha,rfl⟩,decide_eq_true (by show kq (a.take m)=_; rw [show a.take m=r.take m from e])⟩
  by_cases h:r.take m∈fs m v
  ·rw [q.mpr h,decide_eq_false (fun z=>z h)]; rfl
  ·rw [decide_eq_true h]
   cases z:(((Nn m v).map fun r=>(kq (r.take m),D.tup r)).any fun p=>decide (p.1=kq (r.take m))) with
   | false=>rfl
   | true=>exact absurd (q.mp z) h
 have st:aN jx 3 4 [.int m,.lst ((Nn m v).map .tup),.lst ((TT.filter (isE m)).map .tup)]=.ok (.tup (T'.map .tup)):=by
  generalize cO ((Nn m v).map fun r=>(kq (r.take m),D.tup r))=Z at bk ni
  have fl2:=QJ (isE m) TT
  have lc3:jV [none,some 0,some 3] (bR (ah 2)) (gN 0) (fB (f2 rK (bN (ah 0) (bA) (cM (ah 1))) (ah 2))) (ah 0) [some (.val (.int m)),some (.val (.lst ((Nn m v).map .tup))),some (.val (.lst ((TT.filter (isE m)).map .tup))),some (.val Z)]=.ok (.lst ((kp m v TT).map .tup)):=by
   refine fM (ds:=(TT.filter (isE m)).map .tup) (by simp! only []) (by rw [Oj]; omega) ?_
   refine oQ D.tup (fun r=>decide (r.take m∉fs m v)) D.tup _ fun r hr=>⟨[some (.val (.tup r)),some (.val (.int m)),some (.val Z)],rfl,?_,fun _=>rfl⟩
   have:=ni r (List.mem_filter.mp hr).1
   simp! only [oF,this]
  have kl:(kp m v TT).length<=TT.length:=N1 (QJ _ _) fl2
  have ad:=D5 ((Nn m v).map .tup) ((kp m v TT).map .tup) (by rw [Oj,Oj]; omega)
  rw [<- Pj] at ad
  rw [pW]; unfold jx
  simp! only [bk,lc3,HQ,ad,sp]
 rw [yZ]; unfold bd
 subst hf
 simp! only [hk,lc1,lc2,st]
end
abbrev nI (nm:Str):D:=.obj "Unnest" ["name"] [.str nm]
theorem AR {nm:Str} (w:Str) (g1 g2:List D->R D) (fo:FX) (fas:aq->R (List D)) (ρ:aq) (h:fo ρ=.ok (nI nm)) (hm:(["name"]:List Str).contains w=false):dR w [("Step",g1),("Unnest",g2)] fo fas ρ=(fas ρ).bind fun as=>g2 (nI nm::as):=by
 unfold dR
 rw [h,cT]
 have h1:(("Unnest":Str)==("Step":Str))=false:=by decide +kernel
 have:List.lookup ("Unnest":Str) [(("Step":Str),g1),(("Unnest":Str),g2)]=some g2:=by
  rw [OU,h1,OU,BEq.rfl]
 simp only [this,hm]
 rfl
theorem Mr:(["name"]:List Str).contains "put"=false:=by decide +kernel
theorem Mt:(["name"]:List Str).contains "got"=false:=by decide +kernel
theorem Jq:(["name"]:List Str).contains "exact"=false:=by decide +kernel
theorem MB:(["name"]:List Str).contains "steady"=false:=by decide +kernel
theorem A8 (c:Str) (a:Str) (fas:aq->R (List D)) (ρ:aq):fNew c [a] fas ρ=(fas ρ).bind fun as=>if as.length=1 then .ok (.obj c [a] as) else TG.un:=nr rfl
section
open Classical
variable {σ τ:List Bool} {s v TT:List (List D)} {m c:Nat}
theorem NT.AL (N:NT (σ.take m) m c s TT) (T:Tab σ s) (hm:m<=σ.length) (m8:m<=8) (hc:c<=7):T4.AL 8 (.tup (TT.map .tup)):=by
 have:=N.len T
 refine AL.tup (by rw [Oj]; omega) fun x hx=>?_
 obtain⟨r,hr,rfl⟩:=List.mem_map.mp hx
 obtain⟨w1,w2,w3,ws,w4,w5,w6,w7,w8,w9⟩:=N.w T hm r hr
 refine AL.tup ‹0› fun x hx=>?_
 have e:r=r.take m++[.tup (ws.map .tup)]:=by
  conv=>lhs; rw [<- QD m r]
  congr 1
  rw [Pp ‹0›,Qk ‹0›]
  rw [O6 ‹0›] at w4
  rw [Option.some.inj w4]
 rw [e] at hx
 rcases List.mem_append.mp hx with z | z
 ·exact AL.of0 (sq (N.sh T hm r hr) x z) _
 ·rw [List.mem_singleton.mp z]
  refine AL.tup (by rw [Oj]; omega) fun y hy=>?_
  obtain⟨w,hw,rfl⟩:=List.mem_map.mp hy
  exact AL.tup (by have:=w7 w hw; omega) (w8 w hw)
theorem nO:Tab σ []:=⟨(fun _ h=>nomatch h),List.Pairwise.nil,by decide,(fun _ h=>nomatch h),(fun _ h=>nomatch h)⟩
theorem zx (N:NT (σ.take m) m c s TT) (T:Tab σ s) (hm:m<=σ.length) (m8:m<=8) (hc:c<=7) (o f0:D) (kk:List D) (f1:D) (hk:kk.length=m) (hf:f0=.tup [.tup kk,f1]):aN bY 3 3 [o,f0,.tup (TT.map .tup)]=.ok (.tup (s.map .tup)):=by
 have u:=wJ N T hm m8 hc
 rw [pW]; unfold bY
 subst hf
 simp! only [hk,u]
end
section
open Classical
variable {σ τ:List Bool} {s v TT:List (List D)} {m c:Nat}
theorem E8 (T:Tab σ s) (m1:1<=m) (hm:m<=σ.length) (ks:KL) (k8:ks.length<=8) (hk:∀ p∈ks,p.2.gd) (hs:σ.take m=ks.map (·.2.b)) (km:ks.length=m) (f1:D) (xs:List Int) (hx:∀ x∈xs,0<=x/\x < 2147483700) (xl:xs.length<=5) :
  ∃ T' es,es.length<=xs.length/\(∀ k∈es,Sh (σ.take m) k/\k∉fs m s)/\(fs m s=[]->0 < xs.length->es≠[])/\NT (σ.take m) m es.length s T'/\T'.Perm (Nn m s++es.map gG)/\aN bS 3 7 [.tup [.tup (ks.map kf),f1],.tup ((Nn m s).map .tup),.lst (xs.map .int)]=.ok (.tup (T'.map .tup)):=by
 have nl:=AJ (m:=m) T
 have fsL:=sU s (T.fsh hm)
 have fl:=oC m s
 have tl:=T.ln
 have kl:(ks.map kf).length=m:=by rw [Oj]; exact km
 have N:=NT.new T hm
 have lc:∀ a2 a3 a4 a5 a6:Option S,jV [none] (bR (ah 1)) (gN 0) (fA) (bN (ah 0) (bA) (cM (zI (fC (.int 1))))) [some (.val (.tup [.tup (ks.map kf),f1])),some (.val (.tup ((Nn m s).map .tup))),a2,a3,a4,a5,a6]=.ok (.lst ((fs m s).map .tup)):=fun a2 a3 a4 a5 a6=>by
  refine fM (ds:=(Nn m s).map .tup) (by simp! only []) (by rw [Oj]; omega) ?_
  unfold Nn
  rw [P8]
  refine nM _ D.tup (fs m s) fun f hf=>⟨[some (.val (.tup (iL m s f)))],rfl,rfl,?_⟩
  have ct:cutD (iL m s f) none (some (-1))=f:=yM _ _
  simp! only [ct]
 obtain⟨REST,hR⟩:∃ F:cn,F=(iO 3 (bQ (fR (aN bg 2 4) (af (fL iy (af (f2 bh (ah 0) (fC (.int 0))) (aw))) (af (ah 3) (aw)))))):=⟨_,rfl⟩
 rw [pW]; unfold bS
 rw [<- hR]
 simp! only [HJ,lc]
 refine eL (Q:=fun z=>∃ T' es,es.length<=xs.length/\(∀ k∈es,Sh (σ.take m) k/\k∉fs m s)/\(fs m s=[]->0 < xs.length->es≠[])/\NT (σ.take m) m es.length s T'/\T'.Perm (Nn m s++es.map gG)/\z=.ok (.tup (T'.map .tup))) (fun i ρ=>∃ es:List (List D),es.length<=i/\es.Nodup/\(∀ k∈es,Sh (σ.take m) k/\k∉fs m s)/\(fs m s=[]->0 < i->es≠[])/\ρ=[some (.val (.tup [.tup (ks.map kf),f1])),none,some (.val (.lst (xs.map .int))),some (.own (.lst ((Nn m s++es.map gG).map .tup))),some (.own (.lst ((fs m s++es).map .tup))),none,none]) ?_ ⟨[],Oa _,OT,(fun _ h=>nomatch h),(fun _ h=>absurd h (NZ 0)),by rw [OJ,Oo,Oo]⟩ ?_
 ·rintro i d ρ kk hd ⟨es,el,nd,he,h0,rfl⟩
  have hi:=cp hd
  rw [Oj] at hi
  rw [Oy,O6 hi] at hd
  cases hd
  obtain⟨x0,x1⟩:=hx _ (P5 hi)
  generalize xs[i]=x at x0 x1
  obtain⟨vs,ev,v1,v2,v3⟩:=wm 0 10 (sX 0 11 ‹0›) ks [] k8 (by simp) hk (fun _ h=>nomatch h) 0 0 x (by decide) (by decide) x0 x1
  have ev:aB 12 [.tup [.tup (ks.map kf),.tup []],.int 0,.int 0,.int x]=.ok (.tup vs):=ev
  have vl:vs.length=ks.length:=by rw [v1]; rfl
  have vsh:Sh (σ.take m) vs:=by
   rw [Qd ‹0›] at v2
   rw [hs]; exact v2
  have ni:=Ez vsh (ks:=fs m s++es) fun k h=>by
   rcases List.mem_append.mp h with z | z
   ·exact fsL k z
   ·exact(he k z).1
  by_cases h:vs∈fs m s++es
  ·rw [decide_eq_false (fun z=>z h)] at ni
   refine⟨_,_,rfl,⟨es,by omega,nd,he,(fun z _ y=>by rw [z,y] at h; cases h),rfl⟩,?_⟩
   generalize (Nn m s++es.map gG).map D.tup=A
   generalize (fs m s++es).map D.tup=B at ni
   simp! only [Ja,DP,ev,mG,Ei,ni]
  ·rw [decide_eq_true h] at ni
   refine⟨_,_,rfl,⟨es++[vs],by rw [OA,OH]; omega,List.nodup_append.mpr ⟨nd,by simp,fun a ha b hb e=>?_⟩,fun k hk=>?_,(fun _ _ z=>by simp at z),rfl⟩,?_⟩
   ·rw [List.mem_singleton.mp hb] at e
    exact h (Oc _ (by rw [<- e]; exact ha))
   ·rcases List.mem_append.mp hk with z | z
    ·exact he k z
    ·rw [List.mem_singleton.mp z]
     exact⟨vsh,fun y=>h (N6 _ y)⟩
   ·have ap1:fT ((fs m s++es).map .tup) [.tup vs]=some ((fs m s++(es++[vs])).map .tup):=by
     rw [kQ (by rw [Oj,OA]; omega),<- Pr,Pj (l₂:=[vs])]; rfl
    have ap2:fT ((Nn m s++es.map gG).map .tup) [.tup (gG vs)]=some ((Nn m s++(es++[vs]).map gG).map .tup):=by
     rw [kQ (by rw [Oj,OA,Oj]; omega),Pj (l₁:=es),<- Pr,Pj (l₂:=[vs].map gG)]; rfl
    have ad:cq (.tup vs) (.tup [.tup []])=some (.tup (gG vs)):=gD vs _ (by rw [OH]; omega)
    have sm1:=fun K:Ks=>lP 4 fT (af (ah 6) (aw)) K [some (.val (.tup [.tup (ks.map kf),f1])),none,some (.val (.lst (xs.map .int))),some (.own (.lst ((Nn m s++es.map gG).map .tup))),some (.own (.lst ((fs m s++es).map .tup))),some (.val (.int x)),some (.val (.tup vs))] (xs:=(fs m s++es).map .tup) rfl
    have sm2:=fun K:Ks=>lP 3 fT (af (f2 cq (ah 6) (dG (af (dG (aw)) (aw)))) (aw)) K [some (.val (.tup [.tup (ks.map kf),f1])),none,some (.val (.lst (xs.map .int))),some (.own (.lst ((Nn m s++es.map gG).map .tup))),some (.own (.lst ((fs m s++(es++[vs])).map .tup))),some (.val (.int x)),some (.val (.tup vs))] (xs:=(Nn m s++es.map gG).map .tup) rfl
    generalize (Nn m s++es.map gG).map D.tup=A at ap2 sm1 sm2
    generalize (Nn m s++(es++[vs]).map gG).map D.tup=A' at ap2
    generalize (fs m s++es).map D.tup=B at ni ap1 sm1
    generalize (fs m s++(es++[vs])).map D.tup=B' at ap1 sm2
    generalize gG vs=Ev at ap2 ad
    simp! only [Ja,Jd,DP,ev,mG,Ei,ni,sm1,sm2,ap1,ad,ap2]
 ·rintro ρ' ⟨es,el,nd,he,h0,rfl⟩
  rw [Oj] at el
  obtain⟨T',N',pT,eT⟩:=N.add T m1 hm es (fun k h=>(he k h).1) nd (fun k h r hr e=>(he k h).2 (by
   rw [<- v6 T hm]
   exact List.mem_map.mpr ⟨r,hr,e⟩)) ‹0›
  rw [Oj] at h0
  refine⟨T',es,el,he,h0,by rw [PD] at N'; exact N',pT,?_⟩
  rw [hR]
  generalize (Nn m s++es.map gG).map D.tup=A at eT
  generalize (fs m s++es).map D.tup=B
  simp! only [kl,eT]
end
theorem wQ:∀ {n:Nat} {d:D},AL n d->dN (n+1) d=true
 | 0,_,h=>by rcases h with ⟨i,rfl⟩ | ⟨x,rfl⟩ <;> rfl
 | n+1,_,h=>by
  rcases h with (⟨i,rfl⟩ | ⟨x,rfl⟩) | ⟨ds,rfl,_,f⟩
  ·rfl
  ·rfl
  ·show ds.all (dN (n+1))=true
   exact List.all_eq_true.mpr fun x hx=>wQ (f x hx)
theorem yo:∀ {xs ys:List D} {a b:D},xs.length=ys.length->fZ (xs++[a]) (ys++[b])=true->pyEq a b=true
 | [],[],a,b,_,h=>by
  rw [Pb,Pb,fZ,OD] at h
  exact h.1
 | x::xs,y::ys,a,b,e,h=>by
  rw [OY,OY,fZ,OD] at h
  exact yo (by simpa using e) h.2
section
open Classical
variable {σ τ:List Bool} {s v TT:List (List D)} {m c:Nat}
theorem NT.rAL (N:NT (σ.take m) m c s TT) (T:Tab σ s) (hm:m<=σ.length) (m8:m<=8) (hc:c<=7):∀ r∈TT,T4.AL 7 (.tup r):=fun r hr=>by
 rcases N.AL T hm m8 hc with (⟨_,h⟩ | ⟨_,h⟩) | ⟨ds,h,_,h2⟩
 ·cases h
 ·cases h
 ·injection h with h
  subst h
  exact h2 _ (List.mem_map.mpr ⟨r,hr,rfl⟩)
theorem notin_tab (N:NT (σ.take m) m c s TT) (T:Tab σ s) (hm:m<=σ.length) (m8:m<=8) (hc:c<=7) {r:List D} (hr:r∈TT):jm (.tup r) (.tup ((Nn m s).map .tup))=some (.bl (isE m r)):=by
 have e:jm (.tup r) (.tup ((Nn m s).map .tup))=if (pl (.tup r) && m7 ((Nn m s).map .tup)) && dN 8 (.tup r) then some (.bl (!inD (.tup r) ((Nn m s).map .tup))) else none:=rfl
 have al:=N.rAL T hm m8 hc r hr
 have p:m7 ((Nn m s).map .tup)=true:=oK fun x hx=>by
  obtain⟨r,hr,rfl⟩:=List.mem_map.mp hx
  exact ue ((NT.new T hm).rAL T hm m8 (by decide) r hr)
 rw [e,ue al,wQ al,p,O8,O8,if_pos rfl]
 congr 2
 have ml:m=(σ.take m).length:=by rw [Ou]; omega
 rcases N.row r hr with z | ⟨k,sk,rfl⟩
 ·rw [xY T hm z]
  have:inD (.tup r) ((Nn m s).map .tup)=true:=List.any_eq_true.mpr ⟨.tup r,List.mem_map.mpr ⟨r,z,rfl⟩,ji _⟩
  rw [this]; rfl
 ·rw [wq sk ml]
  cases q:inD (.tup (gG k)) ((Nn m s).map .tup) with
  | false=>rfl
  | true =>
   obtain⟨x,hx,ex⟩:=List.any_eq_true.mp q
   obtain⟨r,hr,rfl⟩:=List.mem_map.mp hx
   obtain⟨f,hf,fl,fsh,rfl,g0⟩:=AQ T hm hr
   rw [pyEq] at ex
   have kl:=sk.length
   have:=yo (a:=.tup ((gp m s f).map .tup)) (b:=.tup []) ‹0› ex
   cases hg:gp m s f with
   | nil=>exact absurd hg g0
   | cons a l=>rw [hg,Oi,pyEq] at this; cases this
theorem sN (ks is:KL) (jq:List (Str×D)) (nm:Str) (b:Bool) (k8:ks.length<=8) (nd:(ks.map (·.1)++[nm]).Nodup):aN bb 2 2 [nI nm,pf ks is jq nm b]=.ok (.bl b):=by
 have em:ks.map kf++[D.tup [.str nm,.tup [.str "rows",fr is jq,.bl b]]]=(ks.map toD++[(nm,D.tup [.str "rows",fr is jq,.bl b])]).map fld:=by rw [Pj,C8]; rfl
 have pl:(ks.map toD++[(nm,D.tup [.str "rows",fr is jq,.bl b])]).length<=100:=by rw [OA,Oj,OH]; omega
 have hi:(ks.map toD++[(nm,D.tup [.str "rows",fr is jq,.bl b])])[ks.length]?=some (nm,.tup [.str "rows",fr is jq,.bl b]):=by
  rw [Ov (by rw [Oj]; exact Oa _),Oj,PL]; rfl
 have pp:=y4 _ _ _ pl em (by
  rw [Pj,P8]; exact nd) ks.length nm _ hi
 have kp':=By _ _ _ pl em ks.length nm _ hi
 have fn:GC "name" ["Unnest"] (nI nm)=some (.str nm):=by rfl
 rw [eZ]; unfold bb
 simp! only [fn,pp,kp']
theorem vL (ks is:KL) (jq:List (Str×D)) (nm:Str) (b:Bool) (k8:ks.length<=8) (nd:(ks.map (·.1)++[nm]).Nodup):aN bG 2 2 [nI nm,pf ks is jq nm b]=.ok (.bl b):=by
 have ei:=sN ks is jq nm b k8 nd
 have m1:∀ (fas:aq->R (List D)) (ρ:aq),ah 0 ρ=.ok (nI nm)->dR "exact" [("Unnest",(aN bb 2 2))] (ah 0) fas ρ=(fas ρ).bind fun as=>(aN bb 2 2) (nI nm::as):=fun fas ρ h=>by
  unfold dR
  rw [h,cT]
  have:List.lookup ("Unnest":Str) [(("Unnest":Str),(aN bb 2 2))]=some (aN bb 2 2):=by
   rw [OU,BEq.rfl]
  simp only [this,Jq]
  rfl
 rw [eZ]; unfold bG
 simp! only [m1,ei]
theorem IJ (T:Tab σ s) (hm:m<=σ.length):kp m v (Nn m s)=[]:=by
 have e:(Nn m s).filter (isE m)=[]:=List.filter_eq_nil_iff.mpr fun r h=>by rw [xY T hm h]; simp
 unfold kp
 rw [e]
 rfl
theorem oZ (T:Tab σ s) (V:Tab σ v) (m1:1<=m) (hm:m<=σ.length) (m8:m<=8) (o f0:D) (kk:List D) (f1:D) (hk:kk.length=m) (hf:f0=.tup [.tup kk,f1]) :
  aN bd 4 6 [o,f0,.tup ((Nn m s).map .tup),.tup (v.map .tup)]=.ok (.tup ((Nn m v).map .tup)) :=
 zE (NT.new T hm) T V m1 hm m8 (by decide) (y6 V hm) (by rw [IJ T hm,Oo]) o f0 kk f1 hk hf
theorem Nk (nm:Str) (fas:aq->R (List D)) (ρ:aq) (h:ah 0 ρ=.ok (nI nm)):dR "put" [("Step",aN cE 4 4),("Unnest",aN bd 4 6)] (ah 0) fas ρ=(fas ρ).bind fun as=>aN bd 4 6 (nI nm::as):=AR (nm:=nm) _ _ _ _ fas ρ h Mr
theorem Nw (nm:Str) (fas:aq->R (List D)) (ρ:aq) (h:ah 0 ρ=.ok (nI nm)):dR "got" [("Step",aN dW 3 3),("Unnest",aN bY 3 3)] (ah 0) fas ρ=(fas ρ).bind fun as=>aN bY 3 3 (nI nm::as):=AR (nm:=nm) _ _ _ _ fas ρ h Mt
theorem Nr (nm:Str) (fas:aq->R (List D)) (ρ:aq) (h:ah 0 ρ=.ok (nI nm)):dR "exact" [("Step",aN dB 2 2),("Unnest",aN bb 2 2)] (ah 0) fas ρ=(fas ρ).bind fun as=>aN bb 2 2 (nI nm::as):=AR (nm:=nm) _ _ _ _ fas ρ h Jq
theorem Nz (nm:Str) (fas:aq->R (List D)) (ρ:aq) (h:ah 0 ρ=.ok (nI nm)):dR "steady" [("Step",aN cU 2 2),("Unnest",aN bG 2 2)] (ah 0) fas ρ=(fas ρ).bind fun as=>aN bG 2 2 (nI nm::as):=AR (nm:=nm) _ _ _ _ fas ρ h MB
theorem Cr {v2:List (List D)} (T:Tab σ s) (V:Tab σ v) (V2:Tab σ v2) (m1:1<=m) (hm:m<=σ.length) (ks is:KL) (jq:List (Str×D)) (nm:Str) (k8:ks.length<=8) (hk:ks.length=m) (nd:(ks.map (·.1)++[nm]).Nodup) :
  aN fI 4 6 [nI nm,pf ks is jq nm true,.tup ((Nn m s).map .tup),.lst [.tup (v.map .tup),.tup (v2.map .tup)]]=.ok (.bl true):=by
 have m8:m<=8:=by omega
 have kl:(ks.map kf).length=m:=by rw [Oj]; exact hk
 have ei:=sN ks is jq nm true k8 nd
 have si:=vL ks is jq nm true k8 nd
 have p1:=oZ T V m1 hm m8 (nI nm) (pf ks is jq nm true) (ks.map kf) _ kl rfl
 have p2:=oZ V V2 m1 hm m8 (nI nm) (pf ks is jq nm true) (ks.map kf) _ kl rfl
 have p3:=oZ T V2 m1 hm m8 (nI nm) (pf ks is jq nm true) (ks.map kf) _ kl rfl
 have p4:=oZ (nO (σ:=σ)) T m1 hm m8 (nI nm) (pf ks is jq nm true) (ks.map kf) _ kl rfl
 have p4:aN bd 4 6 [nI nm,pf ks is jq nm true,.tup [],.tup (s.map .tup)]=.ok (.tup ((Nn m s).map .tup)):=p4
 have g1:=zx (NT.new T hm) T hm m8 (by decide) (nI nm) (pf ks is jq nm true) (ks.map kf) _ kl rfl
 have a1:=oI 8 12 _ (by decide) ((NT.new V2 hm).AL V2 hm m8 (by decide))
 have a2:=oI 8 12 _ (by decide) ((NT.new T hm).AL T hm m8 (by decide))
 have it:jR (.bl true) (.bl true)=some (.bl false):=rfl
 rw [yZ]; unfold fI
 generalize (Nn m s).map D.tup=S0 at p1 p3 p4 g1 a2
 generalize (Nn m v).map D.tup=S1 at p1 p2
 generalize (Nn m v2).map D.tup=S2 at p2 p3 a1
 simp! only [Nr nm,Nz nm,ei,si,it,Nk nm,Nw nm,p1,p2,p3,p4,g1,a1,a2,Ja]
theorem yc (T:Tab σ s) {k:List D} (sk:Sh (σ.take m) k) (N:NT (σ.take m) m 1 s TT) (p:TT.Perm (Nn m s++[gG k])) (m1:1<=m) (hm:m<=σ.length) (ks is:KL) (jq:List (Str×D)) (nm:Str) (n:Nat) (hn:n<=2) (i8:is.length<=8) (q8:jq.length<=8) (hi:∀ p∈is,p.2.gd) (hq:∀ q∈jq,KG n q.2) (k8:ks.length<=8) (hk:ks.length=m) (hs:σ=σ.take m++is.map (·.2.b)) (nd:(ks.map (·.1)++[nm]).Nodup) (x:Int) (x0:0<=x) (x1:x < 2147483700) (sl:σ.length<=8) :
  aN fu 5 10 [nI nm,pf ks is jq nm false,.tup ((Nn m s).map .tup),.tup (TT.map .tup),.int x]=.ok (.bl true):=by
 have m8:m<=8:=by omega
 have ml:m=(σ.take m).length:=by rw [Ou]; omega
 have kl:(ks.map kf).length=m:=by rw [Oj]; exact hk
 have TL:=N.len T
 have ei:=sN ks is jq nm false k8 nd
 have si:=vL ks is jq nm false k8 nd
 have fE:TT.filter (isE m)=[gG k]:=by
  have q:=p.filter (isE m)
  have e:(Nn m s).filter (isE m)=[]:=List.filter_eq_nil_iff.mpr fun r h=>by rw [xY T hm h]; simp
  rw [Qy,e,P0 (wq sk ml),Pb] at q
  exact List.perm_singleton.mp q
 have g1:=zx N T hm m8 (by decide) (nI nm) (pf ks is jq nm false) (ks.map kf) _ kl rfl
 have g2:=zx (NT.new T hm) T hm m8 (by decide) (nI nm) (pf ks is jq nm false) (ks.map kf) _ kl rfl
 have a1:=oI 6 12 _ (by decide) T.ALt
 obtain⟨vs,ev,v1,v2,v3⟩:=wm n 10 (sX n 11 ‹0›) is jq i8 q8 hi hq 0 0 x (by decide) (by decide) x0 x1
 have ev:aB 12 [fr is jq,.int 0,.int 0,.int x]=.ok (.tup vs):=ev
 have kl':=sk.length
 have sl2:σ.length=m+is.length:=by
  have:=congrArg List.length hs
  rw [OA,Oj,<- ml] at this
  exact this
 have V:Tab σ [k++vs]:=⟨fun r h=>by
  rw [List.mem_singleton.mp h,hs]
  have e:(k++vs).take (σ.take m++is.map (·.2.b)).length=k++vs.take is.length:=by
   rw [OA,Oj,<- ml,show m=k.length by omega,List.take_append,Nat.add_sub_cancel_left,Qd ‹0›]
  rw [e]
  exact wa sk v2,PZ _ _,by rw [OH]; decide,fun r h=>by
   rw [List.mem_singleton.mp h,OA]; omega,fun r h w hw=>by
   rw [List.mem_singleton.mp h] at hw
   rcases List.mem_append.mp hw with z | z
   ·exact(sq sk w z).of0 _
   ·exact AL.le ‹0› (v3 w z)⟩
 have fsv:fs m [k++vs]=[k]:=by
  show Fh m [] (k++vs)=[k]
  unfold Fh
  rw [if_neg (by simp),show m=k.length by omega,Ql]; rfl
 have kp0:kp m [k++vs] TT=[]:=by
  unfold kp
  rw [fE]
  refine List.filter_eq_nil_iff.mpr fun r h=>?_
  rw [List.mem_singleton.mp h,js sk ml,fsv]
  simp
 have p1:=zE N T V m1 hm m8 (by decide) (y6 V hm) (by rw [kp0,Oo]) (nI nm) (pf ks is jq nm false) (ks.map kf) _ kl rfl
 have p2:=oZ V (nO (σ:=σ)) m1 hm m8 (nI nm) (pf ks is jq nm false) (ks.map kf) _ kl rfl
 have p3:=zE N T (nO (σ:=σ)) m1 hm m8 (by decide) (T':=[gG k]) (PZ _ _) (by
  have:kp m [] TT=[gG k]:=by
   unfold kp
   rw [fE]
   exact List.filter_eq_self.mpr fun r h=>decide_eq_true (by unfold fs; simp)
  rw [this]; exact List.Perm.refl _) (nI nm) (pf ks is jq nm false) (ks.map kf) _ kl rfl
 have p1:aN bd 4 6 [nI nm,pf ks is jq nm false,.tup (TT.map .tup),.tup [.tup (k++vs)]]=.ok (.tup ((Nn m [k++vs]).map .tup)):=p1
 have p2:aN bd 4 6 [nI nm,pf ks is jq nm false,.tup ((Nn m [k++vs]).map .tup),.tup []]=.ok (.tup []):=p2
 have p3:aN bd 4 6 [nI nm,pf ks is jq nm false,.tup (TT.map .tup),.tup []]=.ok (.tup [.tup (gG k)]):=p3
 have lc:∀ a4 a5 a6 a7 a8 a9:Option S,jV [none,some 2] (bR (ah 3)) (gN 0) (fB (f2 jm (ah 0) (ah 1))) (ah 0) [some (.val (nI nm)),some (.val (pf ks is jq nm false)),some (.val (.tup ((Nn m s).map .tup))),some (.val (.tup (TT.map .tup))),a4,a5,a6,a7,a8,a9]=.ok (.lst [.tup (gG k)]):=fun a4 a5 a6 a7 a8 a9=>by
  refine fM (ds:=TT.map .tup) (by simp! only []) (by rw [Oj]; omega) ?_
  have e:[D.tup (gG k)]=(TT.filter (isE m)).map .tup:=by rw [fE]; rfl
  rw [e]
  refine oQ D.tup (isE m) D.tup TT fun r hr=>⟨[some (.val (.tup r)),some (.val (.tup ((Nn m s).map .tup)))],rfl,?_,fun _=>rfl⟩
  have:=notin_tab N T hm m8 (by decide) hr
  generalize (Nn m s).map D.tup=A at this
  simp! only [this]
 have eal:AL 7 (.tup (gG k)):=N.rAL T hm m8 (by decide) _ (p.mem_iff.mpr (Oc _ N4))
 have in1:KP (.tup (gG k)) (.tup [.tup (gG k)])=some (.bl true):=by
  have e:KP (.tup (gG k)) (.tup [.tup (gG k)])=if (pl (.tup (gG k)) && m7 [.tup (gG k)]) && dN 8 (.tup (gG k)) then some (.bl (inD (.tup (gG k)) [.tup (gG k)])) else none:=rfl
  rw [e,ue eal,wQ eal,oK fun x hx=>by rw [List.mem_singleton.mp hx]; exact ue eal]
  have:inD (.tup (gG k)) [.tup (gG k)]=true:=List.any_eq_true.mpr ⟨_,N4,ji _⟩
  rw [this]; rfl
 have ni1:jm (.tup (gG k)) (.tup [])=some (.bl true):=by
  have e:jm (.tup (gG k)) (.tup [])=if (pl (.tup (gG k)) && m7 []) && dN 8 (.tup (gG k)) then some (.bl (!inD (.tup (gG k)) [])) else none:=rfl
  rw [e,ue eal,wQ eal]; rfl
 have ct:cutD (gG k) none (some (-1))=k:=yM _ _
 have ad:=gD k vs ‹0›
 have it:jR (.bl false) (.bl false)=some (.bl false):=rfl
 have z1:((0:Int)==1 - 1)=true:=rfl
 rw [EC]; unfold fu
 generalize (Nn m s).map D.tup=S0 at g2 lc
 generalize (Nn m [k++vs]).map D.tup=S1 at p1 p2
 generalize k++vs=kv at p1 ad
 generalize gG k=ek at lc p3 in1 ni1 ct
 simp! only [Nr nm,Nz nm,ei,si,it,Nw nm,g1,g2,a1,lc,ct,ev,ad,Nk nm,Ja,Jd,p1,p2,p3,in1,ni1]
 rfl
end
theorem Ft (z:Int) (i n:Nat):uJ (.int z) (.int ((i:Int)%(n:Int)))=some (.int (z / 2 ^ (i%n))):=by
 rw [<- Int.natCast_emod]; exact C5 z (i%n)
theorem wV {t:List (List D)} (tl:t.length < 51) (ns:List Int) (y d g:Int) (hd:0 < d) (hd':d < 10 ^ 200) (hg:0 < g):∃ s:List (List D),s.Sublist t/\∀ a2 a3 a4 a6 a7 a8 a9 a10 a11 a12:Option S,jV [none,none,some 1] (e7 (af (ah 5) (aw))) (gT 2 (oA [0,1])) (fB (f2 jD (f2 oY (f2 uJ (f2 dY (ah 2) (fC (.int d))) (f2 cX (ah 0) (fC (.int g)))) (fC (.int 1))) (fC (.int 1)))) (ah 1) [some (.val (.lst (ns.map .int))),some (.val (.int y)),a2,a3,a4,some (.val (.tup (t.map .tup))),a6,a7,a8,a9,a10,a11,a12]=.ok (.lst (s.map .tup)):=by
 obtain⟨n,rfl⟩:=Int.eq_ofNat_of_zero_le (Int.le_of_lt hg)
 have gg:=fun i=>cK (i:=i) hg
 have dd:=fun i=>cS (i:=i) hd hd'
 obtain⟨s,b,c⟩:=Cz (ρ:=[none,none,some (.val (.int y))]) (C:=fB (f2 jD (f2 oY (f2 uJ (f2 dY (ah 2) (fC (.int d))) (f2 cX (ah 0) (fC (.int n)))) (fC (.int 1))) (fC (.int 1)))) t 0 fun i r=>⟨[some (.val (.int i)),some (.val (.tup r)),some (.val (.int y))],_,rfl,by simp! only [gg,dd,Ft,wv]; rfl,rfl⟩
 exact⟨s,b,fun _ _ _ _ _ _ _ _ _ _=>fM (ds:=gJ 0 (t.map .tup)) (by simp! only [vi]) (by rw [lH,Oj]; omega) c⟩
open Classical in
theorem math (ns:List Int) (hl:ns.length<=63):aN tO 1 13 [.lst (ns.map .int)]=.ok (.bl true):=by
 obtain⟨x,x0,x1,ex⟩:=wu ns 2 (by decide)
 have ex:aN cH 2 3 [.lst (ns.map .int),.int 2]=.ok (.int x):=ex
 obtain⟨y,y0,y1,ey⟩:=ib x x0 ‹0›
 obtain⟨ks,is,jq,nm,n,hn,k1,i1,ki,j8,hk,hi,hq,nd,ef⟩:=BQ ns (y%2==1)
 have fo:=Fu ks is jq nm (y%2==1) ki
 obtain⟨t,T,et⟩:=DJ (ks++is) jq n hn (by rw [OA]; omega) (by rw [OA]; omega) j8 (fun p h=>by
  rcases List.mem_append.mp h with z | z
  ·exact hk p z
  ·exact hi p z) hq (ks.length:Int) ns hl
 have sl:((ks++is).map (·.2.b)).length=ks.length+is.length:=by rw [Oj,OA]
 have hs:((ks++is).map (·.2.b)).take ks.length=ks.map (·.2.b):=by
  rw [Pj]
  exact List.take_left' (by rw [Oj])
 have hs2:(ks++is).map (·.2.b)=((ks++is).map (·.2.b)).take ks.length++is.map (·.2.b):=by rw [hs,Pj]
 obtain⟨m,km⟩:∃ m,ks.length=m:=⟨_,rfl⟩
 generalize (ks++is).map (·.2.b)=σ at T sl hs hs2
 rw [km] at et hs hs2 sl k1 ki
 have hm:m<=σ.length:=by omega
 have tl:=T.ln
 have g2:=fun i=>cK (i:=i) (show (0:Int) < 2 by decide)
 obtain⟨s,bs,ls⟩:=wV tl ns y 5 19 (by decide) (by decide) (by decide)
 obtain⟨v,bv,lv⟩:=wV tl ns y 3 20 (by decide) (by decide) (by decide)
 obtain⟨w,bw,lw⟩:=wV tl ns y 7 21 (by decide) (by decide) (by decide)
 have Sb:=T.sub bs
 have n2:=Cd Sb k1 hm (d0:=.lst (s.map .tup)) rfl
 rw [Jp] at n2
 rw [tL]; unfold tO
 have Ny:∀ a b:D,kK [a,b]=some (.lst [a,b]):=fun _ _=>nr rfl
 cases hb:(y%2==1) with
 | true =>
  rw [hb] at ef fo
  have so:=Cr Sb (T.sub bv) (T.sub bw) k1 hm ks is jq nm ‹0› km nd
  generalize (Nn m s).map D.tup=S0 at n2 so
  simp! only [ex,ey,g2,hb,ef,fo,Oj,km,et,ls,n2,A8,lv,lw,Ny,so]
 | false =>
  rw [hb] at ef fo
  have MZ:∀ a:D,kK [a]=some (.lst [a]):=fun _=>nr rfl
  have r40:lx [.int 40]=some (fG 0 40):=j3 40 (by decide)
  simp! only [ex,ey,g2,hb,ef,fo,Oj,km,et,ls,n2,A8,r40]
  have wo:=fun (q:List (List D)) (Q:Tab σ q) (z:Int) (z0:0<=z) (z1:z < 2147483700)=>E8 Q k1 hm ks ‹0› hk hs km (.tup [.tup [.str nm,.tup [.str "rows",fr is jq,.bl false]]]) [z] (fun u hu=>by rw [List.mem_singleton.mp hu]; exact⟨z0,z1⟩) (by rw [OH]; decide)
  have one:∀ (q:List (List D)),Tab σ q->∀ (TT:List (List D)) (es:List (List D)),(∀ k∈es,Sh (σ.take m) k/\k∉fs m q)->NT (σ.take m) m es.length q TT->TT.Perm (Nn m q++es.map gG)->es.length=1->∃ k,Sh (σ.take m) k/\NT (σ.take m) m 1 q TT/\TT.Perm (Nn m q++[gG k]):=fun q Q TT es h1 N p e=>by
   obtain⟨k,rfl⟩:=List.length_eq_one_iff.mp e
   exact⟨k,(h1 k N4).1,N,p⟩
  refine eL (Q:=fun z=>z=.ok (.bl true)) (fun i ρ=>∃ (z:Int) (TT:List (List D)),0<=z/\z < 2147483647/\(TT=Nn m s\/∃ k,Sh (σ.take m) k/\NT (σ.take m) m 1 s TT/\TT.Perm (Nn m s++[gG k]))/\ρ=[none,some (.val (.int y)),none,some (.val (pf ks is jq nm false)),none,none,some (.val (.tup ((Nn m s).map .tup))),some (.val (nI nm)),none,none,some (.val (.tup (TT.map .tup))),some (.val (.int z)),none]) ?_ ⟨y,Nn m s,y0,y1,.inl rfl,rfl⟩ ?_
  ·rintro i d ρ kk hd ⟨z,TT,z0,z1,hT,rfl⟩
   have hi':=cp hd
   rw [de] at hi'
   have hdi:d=.int (i:Int):=by
    rw [kJ,Oy,Pn hi'] at hd
    cases hd; simp
   subst hdi
   rcases hT with rfl | ⟨k,sk,N,p⟩
   ·obtain⟨z',z0',z1',ez⟩:=ib (z+(i:Int)) ‹0› ‹0›
    obtain⟨T',es,e1,e2,e3,e4,e5,e6⟩:=wo s Sb z' z0' ‹0›
    have e6:aN bS 3 7 [pf ks is jq nm false,.tup ((Nn m s).map .tup),.lst [.int z']]=.ok (.tup (T'.map .tup)):=e6
    refine⟨_,_,rfl,⟨z',T',z0',z1',?_,rfl⟩,?_⟩
    ·rcases(show es.length=0\/es.length=1 by rw [OH] at e1; omega) with q | q
     ·have es0:es=[]:=List.length_eq_zero_iff.mp q
      subst es0
      rw [OJ,Oo] at e5
      exact .inl (sY (fun r h=>B3 Sb hm h) (y6 Sb hm) e4.ri e5).symm
     ·exact .inr (one s Sb T' es e2 e4 e5 q)
    ·generalize (Nn m s).map D.tup=S0 at e6
     simp! only [beq_self_eq_true,ez,MZ,e6]
   ·have ln:((((TT.map D.tup).length:Nat):Int)==(((Nn m s).map D.tup).length:Int))=false:=by
     rw [Oj,Oj,p.length_eq,OA,OH]
     exact beq_false_of_ne ‹0›
    refine⟨_,_,rfl,⟨z,TT,z0,z1,.inr ⟨k,sk,N,p⟩,rfl⟩,?_⟩
    generalize (Nn m s).map D.tup=S0 at ln
    simp! only [ln]
  ·rintro ρ' ⟨z,TT,z0,z1,hT,rfl⟩
   rcases hT with rfl | ⟨k,sk,N,p⟩
   ·obtain⟨T',es,e1,e2,e3,e4,e5,e6⟩:=wo [] (nO (σ:=σ)) z z0 ‹0›
    have e6:aN bS 3 7 [pf ks is jq nm false,.tup [],.lst [.int z]]=.ok (.tup (T'.map .tup)):=e6
    have en:=e3 rfl (by rw [OH]; decide)
    have el:es.length=1:=by
     rw [OH] at e1
     have:=List.length_pos_iff.mpr en
     omega
    obtain⟨k,sk,N,p⟩:=one [] (nO (σ:=σ)) T' es e2 e4 e5 el
    have lk:=yc (nO (σ:=σ)) sk N p k1 hm ks is jq nm n hn ‹0› j8 hi hq ‹0› km hs2 nd y y0 ‹0› ‹0›
    have lk:aN fu 5 10 [nI nm,pf ks is jq nm false,.tup [],.tup (T'.map .tup),.int y]=.ok (.bl true):=lk
    generalize (Nn m s).map D.tup=S0
    simp! only [beq_self_eq_true,Ja,MZ,e6,lk]
   ·have ln:((((TT.map D.tup).length:Nat):Int)==(((Nn m s).map D.tup).length:Int))=false:=by
     rw [Oj,Oj,p.length_eq,OA,OH]
     exact beq_false_of_ne ‹0›
    have lk:=yc Sb sk N p k1 hm ks is jq nm n hn ‹0› j8 hi hq ‹0› km hs2 nd y y0 ‹0› ‹0›
    generalize (Nn m s).map D.tup=S0 at ln lk
    simp! only [ln,lk]
end Tk47
open PySem PySem.W PyProof.Rows
theorem PySem.W.Fast.tw2846391834655152992 : True := trivial
theorem PySem.W.Fast.tw15791939243428201637 : True := trivial
theorem PySem.W.Fast.tw15513136730990702751 : True := trivial
theorem PySem.W.Fast.tw11413016091949426737 : True := trivial
theorem PySem.W.Fast.tw18101109164347812885 : True := trivial
theorem PySem.W.Fast.tw16346673731151732510 : True := trivial
theorem PySem.W.Fast.tw14167733591398750774 : True := trivial
theorem PySem.W.Fast.tw11891034870214319722 : True := trivial
theorem PySem.W.Fast.tw364487909750323568 : True := trivial
theorem PySem.W.Fast.tw2090320532923510801 : True := trivial
theorem PySem.W.Fast.tw1312487574198875321 : True := trivial
theorem PySem.W.Fast.tw3790539282339101459 : True := trivial
theorem PySem.W.Fast.tw14269308799225677238 : True := trivial
theorem PySem.W.Fast.tw14755047425344440316 : True := trivial
theorem PySem.W.Fast.tw6518572426776417785 : True := trivial
theorem PySem.W.Fast.tw13470118042245029523 : True := trivial
theorem PySem.W.Fast.tw16640648924577280522 : True := trivial
theorem PySem.W.Fast.tw11906603340639690000 : True := trivial
theorem PySem.W.Fast.tw15077437731316812730 : True := trivial
theorem PySem.W.Fast.tw12313535895044522707 : True := trivial
theorem PySem.W.Fast.tw18084844357869747818 : True := trivial
theorem PySem.W.Fast.tw12644334305443195640 : True := trivial
theorem PySem.W.Fast.tw15799715491180183606 : True := trivial
theorem PySem.W.Fast.tw2668562623264579415 : True := trivial
theorem PySem.W.Fast.tw4580872187331858116 : True := trivial
theorem PySem.W.Fast.tw2434439142509808325 : True := trivial
theorem PySem.W.Fast.tw17482199648448051952 : True := trivial
theorem PySem.W.Fast.tw4442593630317355106 : True := trivial
theorem PySem.W.Fast.tw3228508876707092493 : True := trivial
theorem PySem.W.Fast.tw13173769492988617755 : True := trivial
theorem PySem.W.Fast.tw3975335477512111852 : True := trivial
theorem PySem.W.Fast.tw15991558741811357449 : True := trivial
theorem PySem.W.Fast.tw8436022595035257747 : True := trivial
theorem PySem.W.Fast.tw5448961352948843396 : True := trivial
theorem PySem.W.Fast.tw8222570590127862589 : True := trivial
theorem PySem.W.Fast.tw8624060833496854275 : True := trivial
theorem PySem.W.Fast.tw6689052116999129459 : True := trivial
theorem PySem.W.Fast.tw15997172966448267305 : True := trivial
theorem PySem.W.Fast.tw16114474390001027796 : True := trivial
theorem PySem.W.Fast.tw15812674661776566047 : True := trivial
theorem PySem.W.Fast.tw1638741441355152333 : True := trivial
theorem PySem.W.Fast.tw5164678304554934383 : True := trivial
theorem PySem.W.Fast.tw14275972209595303777 : True := trivial
theorem PySem.W.Fast.tw10544944658924143390 : True := trivial
theorem PySem.W.Fast.tw15628466973335685496 : True := trivial
theorem PySem.W.Fast.tw2953952067568922377 : True := trivial
theorem PySem.W.Fast.tw17213584369881862998 : True := trivial
theorem PySem.W.Fast.tw6945584560124731972 : True := trivial
theorem PySem.W.Fast.tw4203601911312442225 : True := trivial
theorem PySem.W.Fast.tw8604130720762245656 : True := trivial
theorem PySem.W.Fast.tw8761845076095123475 : True := trivial
theorem PySem.W.Fast.tw635130393023285734 : True := trivial
theorem PySem.W.Fast.tw1354162168680309189 : True := trivial
theorem PySem.W.Fast.tw11189634634096386180 : True := trivial
theorem PySem.W.Fast.tw13904970248621308835 : True := trivial
theorem PySem.W.Fast.tw14666258416670886993 : True := trivial
theorem PySem.W.Fast.tw12511015663824492537 : True := trivial
theorem PySem.W.Fast.tw17197675087052638218 : True := trivial
theorem PySem.W.Fast.tw8583200929436748739 : True := trivial
theorem PySem.W.Fast.tw943790194004886540 : True := trivial
theorem PySem.W.Fast.tw6095771607540933252 : True := trivial
theorem PySem.W.Fast.tw5061682084795314040 : True := trivial
theorem PySem.W.Fast.tw6564771973277213029 : True := trivial
theorem PySem.W.Fast.tw17822557410345515365 : True := trivial
theorem PySem.W.Fast.tw14269992358544959912 : True := trivial
theorem PySem.W.Fast.tw5157071956744033620 : True := trivial
theorem PySem.W.Fast.tw15474566025878020546 : True := trivial
theorem PySem.W.Fast.tw13275129206708004297 : True := trivial
theorem PySem.W.Fast.tw5273345521472092304 : True := trivial
theorem PySem.W.Fast.tw6422455468874579627 : True := trivial
theorem PySem.W.Fast.tw3978442224380334835 : True := trivial
theorem PySem.W.Fast.tw10538828203547587247 : True := trivial
theorem PySem.W.Fast.tw15442790812370866441 : True := trivial
theorem PySem.W.Fast.tw13495727825304784271 : True := trivial
theorem PySem.W.Fast.tw8757517389076185961 : True := trivial
theorem PySem.W.Fast.tw14179718575939274863 : True := trivial
theorem PySem.W.Fast.tw13980153119103760570 : True := trivial
theorem PySem.W.Fast.tw14094943635347724719 : True := trivial
theorem PySem.W.Fast.tw14217058290765838371 : True := trivial
theorem PySem.W.Fast.tw7346166896855582302 : True := trivial
theorem PySem.W.Fast.tw12079583013222272339 : True := trivial
set_option maxRecDepth 100000 in
set_option maxHeartbeats 0 in
theorem PySem.Challenge.cw_twoglass_k47_what_an_unnest_hides_holds : PySem.Challenge.rw_twoglass_k47_what_an_unnest_hides.Holds := by
  w_on; o_law; k_head; (case hw => w_witness2)
  k_fill
  refine Tk47.walk (l := PySem.Challenge.rw_twoglass_k47_what_an_unnest_hides) rfl rfl (fun w h Y => ⟨PySem.W.km_in_of Y, PySem.W.km_tabs_of Y _ (List.Mem.head _)⟩) ?F Tk47.math
  case F =>
    intro w mg fa h KX G hmg
    refine' Tk47.all_mk KX G hmg ?ac0 ?ac1 ?a0 ?i0 ?l0 ?c0 ?k0 ?a1 ?l1 ?c1 ?k1 ?a2 ?l2 ?c2 ?k2 ?a3 ?l3 ?c3 ?k3 ?a4 ?l4 ?c4 ?k4 ?a5 ?i5 ?l5 ?c5 ?k5 ?a6 ?l6 ?c6 ?k6 ?a7 ?l7 ?c7 ?k7 ?a8 ?l8 ?c8 ?k8 ?a9 ?l9 ?c9 ?k9 ?a10 ?l10 ?c10 ?k10 ?a11 ?l11 ?c11 ?k11 ?a12 ?i12 ?l12 ?c12 ?k12 ?a13 ?l13 ?c13 ?k13 ?a14 ?i14 ?l14 ?c14 ?k14 ?a15 ?i15 ?l15 ?c15 ?k15 ?a16 ?l16 ?c16 ?k16 ?a17 ?l17 ?c17 ?k17 ?a18 ?l18 ?c18 ?k18 ?a19 ?i19 ?l19 ?c19 ?k19 ?a20 ?i20 ?l20 ?c20 ?k20 ?a21 ?i21 ?l21 ?c21 ?k21 ?a22 ?l22 ?c22 ?k22 ?a23 ?l23 ?c23 ?k23 ?a24 ?l24 ?c24 ?k24 ?a25 ?l25 ?c25 ?k25 ?a26 ?l26 ?c26 ?k26 ?a27 ?l27 ?c27 ?k27 ?a28 ?l28 ?c28 ?k28 ?a29 ?l29 ?c29 ?k29 ?a30 ?l30 ?c30 ?k30 ?a31 ?l31 ?c31 ?k31 ?a32 ?l32 ?c32 ?k32 ?a33 ?l33 ?c33 ?k33 ?a34 ?l34 ?c34 ?k34 ?a35 ?l35 ?c35 ?k35 ?a36 ?i36 ?l36 ?c36 ?k36 ?p0 ?q0 ?r0 ?s0 ?n0_0 ?m0 ?kp0 ?p1 ?q1 ?r1 ?s1 ?z0 ?z1 ?z2 ?z3 ?z4 ?z5 ?z6 ?z7 ?z8 ?z9 ?z10 ?z11 ?z12 ?z13 ?lc ?lh ?lt
    (case ac0 => k_is)
    (case ac1 => k_is)
    (case a0 => k_is)
    (case i0 => k_is)
    (case l0 => delta TX.Lk; k_is)
    (case c0 => k_is)
    (case k0 => k_is)
    (case a1 => k_is)
    (case l1 => delta TX.Lk; k_is)
    (case c1 => k_is)
    (case k1 => k_is)
    (case a2 => k_is)
    (case l2 => delta TX.Lk; k_is)
    (case c2 => k_is)
    (case k2 => k_is)
    (case a3 => k_is)
    (case l3 => delta TX.Lk; k_is)
    (case c3 => k_is)
    (case k3 => k_is)
    (case a4 => k_is)
    (case l4 => delta TX.Lk; k_is)
    (case c4 => k_is)
    (case k4 => k_is)
    (case a5 => k_is)
    (case i5 => k_is)
    (case l5 => delta TX.Lk; k_is)
    (case c5 => k_is)
    (case k5 => k_is)
    (case a6 => k_is)
    (case l6 => delta TX.Lk; k_is)
    (case c6 => k_is)
    (case k6 => k_is)
    (case a7 => k_is)
    (case l7 => delta TX.Lk; k_is)
    (case c7 => k_is)
    (case k7 => k_is)
    (case a8 => k_is)
    (case l8 => delta TX.Lk; k_is)
    (case c8 => k_is)
    (case k8 => k_is)
    (case a9 => k_is)
    (case l9 => delta TX.Lk; k_is)
    (case c9 => k_is)
    (case k9 => k_is)
    (case a10 => k_is)
    (case l10 => delta TX.Lk; k_is)
    (case c10 => k_is)
    (case k10 => k_is)
    (case a11 => k_is)
    (case l11 => delta TX.Lk; k_is)
    (case c11 => k_is)
    (case k11 => k_is)
    (case a12 => k_is)
    (case i12 => k_is)
    (case l12 => delta TX.Lk; k_is)
    (case c12 => k_is)
    (case k12 => k_is)
    (case a13 => k_is)
    (case l13 => delta TX.Lk; k_is)
    (case c13 => k_is)
    (case k13 => k_is)
    (case a14 => k_is)
    (case i14 => k_is)
    (case l14 => delta TX.Lk; k_is)
    (case c14 => k_is)
    (case k14 => k_is)
    (case a15 => k_is)
    (case i15 => k_is)
    (case l15 => delta TX.Lk; k_is)
    (case c15 => k_is)
    (case k15 => k_is)
    (case a16 => k_is)
    (case l16 => delta TX.Lk; k_is)
    (case c16 => k_is)
    (case k16 => k_is)
    (case a17 => k_is)
    (case l17 => delta TX.Lk; k_is)
    (case c17 => k_is)
    (case k17 => k_is)
    (case a18 => k_is)
    (case l18 => delta TX.Lk; k_is)
    (case c18 => k_is)
    (case k18 => k_is)
    (case a19 => k_is)
    (case i19 => k_is)
    (case l19 => delta TX.Lk; k_is)
    (case c19 => k_is)
    (case k19 => k_is)
    (case a20 => k_is)
    (case i20 => k_is)
    (case l20 => delta TX.Lk; k_is)
    (case c20 => k_is)
    (case k20 => k_is)
    (case a21 => k_is)
    (case i21 => k_is)
    (case l21 => delta TX.Lk; k_is)
    (case c21 => k_is)
    (case k21 => k_is)
    (case a22 => k_is)
    (case l22 => delta TX.Lk; k_is)
    (case c22 => k_is)
    (case k22 => k_is)
    (case a23 => k_is)
    (case l23 => delta TX.Lk; k_is)
    (case c23 => k_is)
    (case k23 => k_is)
    (case a24 => k_is)
    (case l24 => delta TX.Lk; k_is)
    (case c24 => k_is)
    (case k24 => k_is)
    (case a25 => k_is)
    (case l25 => delta TX.Lk; k_is)
    (case c25 => k_is)
    (case k25 => k_is)
    (case a26 => k_is)
    (case l26 => delta TX.Lk; k_is)
    (case c26 => k_is)
    (case k26 => k_is)
    (case a27 => k_is)
    (case l27 => delta TX.Lk; k_is)
    (case c27 => k_is)
    (case k27 => k_is)
    (case a28 => k_is)
    (case l28 => delta TX.Lk; k_is)
    (case c28 => k_is)
    (case k28 => k_is)
    (case a29 => k_is)
    (case l29 => delta TX.Lk; k_is)
    (case c29 => k_is)
    (case k29 => k_is)
    (case a30 => k_is)
    (case l30 => delta TX.Lk; k_is)
    (case c30 => k_is)
    (case k30 => k_is)
    (case a31 => k_is)
    (case l31 => delta TX.Lk; k_is)
    (case c31 => k_is)
    (case k31 => k_is)
    (case a32 => k_is)
    (case l32 => delta TX.Lk; k_is)
    (case c32 => k_is)
    (case k32 => k_is)
    (case a33 => k_is)
    (case l33 => delta TX.Lk; k_is)
    (case c33 => k_is)
    (case k33 => k_is)
    (case a34 => k_is)
    (case l34 => delta TX.Lk; k_is)
    (case c34 => k_is)
    (case k34 => k_is)
    (case a35 => k_is)
    (case l35 => delta TX.Lk; k_is)
    (case c35 => k_is)
    (case k35 => k_is)
    (case a36 => k_is)
    (case i36 => k_is)
    (case l36 => delta TX.Lk; k_is)
    (case c36 => k_is)
    (case k36 => k_is)
    (case p0 => k_is)
    (case q0 => k_is)
    (case r0 => k_is)
    (case s0 => k_is)
    (case n0_0 => k_is)
    (case m0 => k_is)
    (case kp0 => k_is)
    (case p1 => k_is)
    (case q1 => k_is)
    (case r1 => k_is)
    (case s1 => k_is)
    (case z0 => k_is)
    (case z1 => k_is)
    (case z2 => k_is)
    (case z3 => k_is)
    (case z4 => k_is)
    (case z5 => k_is)
    (case z6 => k_is)
    (case z7 => k_is)
    (case z8 => k_is)
    (case z9 => k_is)
    (case z10 => k_is)
    (case z11 => k_is)
    (case z12 => k_is)
    (case z13 => k_is)
    (case lc => rfl)
    (case lh => kernel_rfl)
    (case lt => kernel_rfl)
